/- moultref6's there, Limit and at. -/
import Derived.Test.YtedopiojidaeiaaFRef
set_option linter.unusedSimpArgs false
set_option linter.unusedVariables false
namespace Go.Proofs.Ytedopiojidaeiaa
open Go.RowKit Go.Deep

def fileW (x : FI) : Value := .agg #[.string ⟨x.name.toArray⟩, .string ⟨x.bytes.toArray⟩, .int .i64 x.safe]
def noFile : FI := ⟨[], [], 0⟩
/-- The file of a name, or the error. -/
def thereS (name : List UInt8) (M : RS) : FI × Int := if M.gone then (noFile, 7) else if isN name M.L then ((M.L[findN name M.L]?).getD noFile, 0) else (noFile, 4)

set_option maxHeartbeats 4000000 in
theorem there_any (n₀ : Nat) (w : World) (b : Nat) (M : RS) (v : Value) (s : ByteArray) (h : RefAt n₀ w b M v) (hL : M.L.length ≤ 1000) :
    Calls Try.prog 51 #[.pointer (some ⟨b, 0, none⟩), .string s] w fun e w' =>
      e = .returned (.tuple #[fileW (thereS s.data.toList M).1, .int .i64 (thereS s.data.toList M).2]) ∧ Bel w w' := by
  obtain ⟨c0, -, -, c3⟩ := h.cells
  have hbl := h.lt
  have HR := Lib.hid h; clear h
  cases hg : M.gone with
  | true =>
    have HT := Lib.hid (show thereS s.data.toList M = (noFile, 7) by unfold thereS; rw [if_pos hg])
    rw [hg] at c3
    clear hg
    go_enter Try.func51, Try.ntmps51
    go_wp2_with (fail)
    rw [HT.out]
    exact bodyPost_ret (v := .tuple #[.agg #[.string ⟨#[]⟩, .string ⟨#[]⟩, .int .i64 0], .int .i64 7]) (by simp [results, Try.results51, go_sem]) rfl ⟨rfl, (Bel.refl w).alloc _⟩
  | false =>
    rw [hg] at c3
    have HB0 := Lib.hid ((Bel.refl w).alloc (.cells #[.string ⟨#[]⟩, .string ⟨#[]⟩, .int .i64 0] 64))
    cases hI : isN s.data.toList M.L with
    | true =>
      have hfl : findN s.data.toList M.L < M.L.length := by
        rcases Nat.lt_or_ge (findN s.data.toList M.L) M.L.length with h | h
        · exact h
        · rw [is_end _ _ (by omega)] at hI; cases hI
      obtain ⟨x, hx⟩ : ∃ x, x = M.L[findN s.data.toList M.L] := ⟨_, rfl⟩
      have HT := Lib.hid (show thereS s.data.toList M = (x, 0) by
        unfold thereS
        rw [hg, hI, List.getElem?_eq_getElem hfl, hx]; rfl)
      have hne : M.L ≠ [] := by intro e; rw [e] at hfl; simp at hfl
      have HI := Lib.hid hI
      obtain ⟨g, cap, rfl, _, hgl, _, hcs⟩ := ownG_cells fileOk HR.out.own hne
      clear hg hI
      go_enter Try.func51, Try.ntmps51
      go_wp2_with (fail)
      refine (find_any n₀ _ b M _ s (HR.out.bel HB0.out) hL).mono ?_
      rintro e w1 ⟨rfl, hd⟩
      rw [HI.out]
      have HB := Lib.hid (HB0.out.trans hd.bel)
      have hz1 : w.heap.size < w1.heap.size := by have := hd.bel.size; simp at this; omega
      have p0 : w1.cell? ⟨w.heap.size, 0, none⟩ = some (.string ⟨#[]⟩) := cell_later hd.bel (by go_simp)
      have p1 : w1.cell? ⟨w.heap.size, 1, none⟩ = some (.string ⟨#[]⟩) := cell_later hd.bel (by go_simp)
      have p2 : w1.cell? ⟨w.heap.size, 2, none⟩ = some (.int .i64 0) := cell_later hd.bel (by go_simp)
      have pf : ∀ i, w1.frozen? ⟨w.heap.size, i, none⟩ = false := fun i => (hd.bel.frozen _ _ (by simp)).trans (by simp)
      have d0 := cell_later HB.out (hcs _ _ (List.getElem?_eq_getElem hfl) 0 _ rfl)
      have d1 := cell_later HB.out (hcs _ _ (List.getElem?_eq_getElem hfl) 1 _ rfl)
      have d2 := cell_later HB.out (hcs _ _ (List.getElem?_eq_getElem hfl) 2 _ rfl)
      have c0' := cell_later HB.out c0
      rw [← hx] at d0 d1 d2
      simp only [fileEl, Nat.add_zero] at d0 d1 d2
      clear hd hcs hx
      generalize findN s.data.toList M.L = fn at *
      go_wp2_with (fail)
      rw [HT.out]
      exact bodyPost_ret (v := .tuple #[fileW x, .int .i64 0]) (by simp [results, fileW, Try.results51, go_sem, p0, p1, p2, World.cell?_setCell_other]) rfl ⟨rfl, ((HB.out.setCell (p := ⟨w.heap.size, 0, none⟩) (Nat.le_refl _) _).setCell (p := ⟨w.heap.size, 1, none⟩) (Nat.le_refl _) _).setCell (p := ⟨w.heap.size, 2, none⟩) (Nat.le_refl _) _⟩
    | false =>
      have HT := Lib.hid (show thereS s.data.toList M = (noFile, 4) by
        unfold thereS
        rw [hg, hI]; rfl)
      have HI := Lib.hid hI
      clear hg hI
      go_enter Try.func51, Try.ntmps51
      go_wp2_with (fail)
      refine (find_any n₀ _ b M _ s (HR.out.bel HB0.out) hL).mono ?_
      rintro e w1 ⟨rfl, hd⟩
      rw [HI.out]
      have HB := Lib.hid (HB0.out.trans hd.bel)
      have p0 : w1.cell? ⟨w.heap.size, 0, none⟩ = some (.string ⟨#[]⟩) := cell_later hd.bel (by go_simp)
      have p1 : w1.cell? ⟨w.heap.size, 1, none⟩ = some (.string ⟨#[]⟩) := cell_later hd.bel (by go_simp)
      have p2 : w1.cell? ⟨w.heap.size, 2, none⟩ = some (.int .i64 0) := cell_later hd.bel (by go_simp)
      have pf : ∀ i, w1.frozen? ⟨w.heap.size, i, none⟩ = false := fun i => (hd.bel.frozen _ _ (by simp)).trans (by simp)
      clear hd
      go_wp2_with (fail)
      rw [HT.out]
      exact bodyPost_ret (v := .tuple #[fileW noFile, .int .i64 4]) (by simp [results, fileW, noFile, Try.results51, go_sem, p0, p1, p2, World.cell?_setCell_other]) rfl ⟨rfl, ((HB.out.setCell (p := ⟨w.heap.size, 0, none⟩) (Nat.le_refl _) _).setCell (p := ⟨w.heap.size, 1, none⟩) (Nat.le_refl _) _).setCell (p := ⟨w.heap.size, 2, none⟩) (Nat.le_refl _) _⟩
end Go.Proofs.Ytedopiojidaeiaa
