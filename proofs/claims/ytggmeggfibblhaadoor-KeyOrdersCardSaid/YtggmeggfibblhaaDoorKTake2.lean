/- key.Take. -/
import Derived.Test.YtggmeggfibblhaaDoorKTake
set_option linter.unusedSimpArgs false
set_option linter.unusedVariables false
namespace Go.Proofs.YtggmeggfibblhaaDoor
open Go.RowKit Go.Deep

/-- What Take answers. -/
def takeV (o : Option (KV × List UInt8)) : Value := match o with
  | some p => .tuple #[p.1.val, .string ⟨p.2.toArray⟩, .int .i64 0]
  | none => .tuple #[.agg #[.int .i64 0, .int .i64 0, .string ⟨#[]⟩], .string ⟨#[]⟩, .int .i64 8]

set_option maxHeartbeats 4000000 in
theorem take_any (s : ByteArray) (w : World) (hs : s.size ≤ 1000000) (hstd : Std w) :
    Calls Tryd.prog 15 #[.string s] w fun e w' => e = .returned (takeV (readL s.data.toList)) ∧ Bel w w' := by
  have hS0 := hstd.bel ((Bel.refl w).alloc (.cells #[.int .i64 0, .int .i64 0, .string ⟨#[]⟩] 23))
  go_enter Tryd.func15, Tryd.ntmps15
  go_wp2_with (fail)
  refine (read_any s _ hs hS0).mono ?_
  rintro e w1 ⟨u, rest, ok, rfl, hb, hz, hy, hn⟩
  obtain ⟨k, n, t⟩ := u
  have HY := Lib.hid hy; clear hy
  have HN := Lib.hid hn; clear hn
  have hlt1 : w.heap.size < w1.heap.size := hb.past
  have q0 : w1.cell? ⟨w.heap.size, 0, none⟩ = some (.int .i64 0) := cell_later hb (by go_simp)
  have q1 : w1.cell? ⟨w.heap.size, 1, none⟩ = some (.int .i64 0) := cell_later hb (by go_simp)
  have q2 : w1.cell? ⟨w.heap.size, 2, none⟩ = some (.string ⟨#[]⟩) := cell_later hb (by go_simp)
  have f0 : w1.frozen? ⟨w.heap.size, 0, none⟩ = false := (hb.frozen _ _ (by simp)).trans (by go_simp)
  have f1 : w1.frozen? ⟨w.heap.size, 1, none⟩ = false := (hb.frozen _ _ (by simp)).trans (by go_simp)
  have f2 : w1.frozen? ⟨w.heap.size, 2, none⟩ = false := (hb.frozen _ _ (by simp)).trans (by go_simp)
  have HB := Lib.hid (((Bel.refl w).alloc _).trans hb)
  have HZ := Lib.hid hz
  clear hb hz hstd hS0
  unfold KV.val
  cases ok with
  | false =>
    have HR := Lib.hid (HN.out (Or.inl rfl))
    go_wp2_with (fail)
    exact bodyPost_ret (v := .tuple #[.agg #[.int .i64 0, .int .i64 0, .string ⟨#[]⟩], .string ⟨#[]⟩, .int .i64 8]) (by simp [results, Tryd.results15, go_sem, q0, q1, q2, hlt1]) rfl
      ⟨by rw [HR.out]; rfl, by first | exact (((HB.out.setCell (Nat.le_refl _) _).setCell (Nat.le_refl _) _).setCell (Nat.le_refl _) _).alloc _ | exact HB.out.alloc _⟩
  | true =>
    go_wp2_with (fail)
    refine (right_any k n t _ HZ.out).mono ?_
    rintro e w2 ⟨rfl, hb⟩
    have hlt2 : w.heap.size < w2.heap.size := by have := hb.past; omega
    have hlt3 : w1.heap.size < w2.heap.size := hb.past
    have p0 : w2.cell? ⟨w.heap.size, 0, none⟩ = some (.int .i64 0) := cell_later hb (by go_simp)
    have p1 : w2.cell? ⟨w.heap.size, 1, none⟩ = some (.int .i64 0) := cell_later hb (by go_simp)
    have p2 : w2.cell? ⟨w.heap.size, 2, none⟩ = some (.string ⟨#[]⟩) := cell_later hb (by go_simp)
    have e0 : w2.frozen? ⟨w.heap.size, 0, none⟩ = false := (hb.frozen _ _ (by simp; omega)).trans (by go_simp)
    have e1 : w2.frozen? ⟨w.heap.size, 1, none⟩ = false := (hb.frozen _ _ (by simp; omega)).trans (by go_simp)
    have e2 : w2.frozen? ⟨w.heap.size, 2, none⟩ = false := (hb.frozen _ _ (by simp; omega)).trans (by go_simp)
    have r0 : w2.cell? ⟨w1.heap.size, 0, none⟩ = some (.int .i64 k) := cell_later hb (by go_simp)
    have r1 : w2.cell? ⟨w1.heap.size, 1, none⟩ = some (.int .i64 n) := cell_later hb (by go_simp)
    have r2 : w2.cell? ⟨w1.heap.size, 2, none⟩ = some (.string t) := cell_later hb (by go_simp)
    replace HB := Lib.hid ((HB.out.alloc _).trans hb)
    clear hb
    cases hr : rightB k n t.data.toList with
    | false =>
      have HR := Lib.hid (HN.out (Or.inr hr))
      go_wp2_with (fail)
      exact bodyPost_ret (v := .tuple #[.agg #[.int .i64 0, .int .i64 0, .string ⟨#[]⟩], .string ⟨#[]⟩, .int .i64 8]) (by simp [results, Tryd.results15, go_sem, p0, p1, p2]) rfl
        ⟨by rw [HR.out]; rfl, by first | exact ((HB.out.setCell (Nat.le_refl _) _).setCell (Nat.le_refl _) _).setCell (Nat.le_refl _) _ | exact HB.out⟩
    | true =>
      have HR := Lib.hid (HY.out (by simp) hr)
      go_wp2_with (fail)
      exact bodyPost_ret (v := .tuple #[.agg #[.int .i64 k, .int .i64 n, .string t], .string ⟨rest.toArray⟩, .int .i64 0]) (by simp [results, Tryd.results15, go_sem, p0, p1, p2]) rfl
        ⟨by rw [HR.out]; rfl, by first | exact ((HB.out.setCell (Nat.le_refl _) _).setCell (Nat.le_refl _) _).setCell (Nat.le_refl _) _ | exact HB.out⟩
end Go.Proofs.YtggmeggfibblhaaDoor
