/- The contract of value.Read. -/
import Derived.Test.YtndknolblfdcdaaDoorGuess3
set_option linter.unusedSimpArgs false
set_option linter.unusedVariables false
namespace Go.Proofs.YtndknolblfdcdaaDoor
open Go.RowKit

/-- What Read answers of s: the right value whose print is s; or ErrForm, if there is none. -/
def ReadOk (s : List UInt8) (k n : Int) (t : List UInt8) (e : Int) : Prop :=
  (e = 0 ∧ rightB k n t = true ∧ printL k n t = s) ∨ (e = 8 ∧ k = 0 ∧ n = 0 ∧ t = [] ∧ ∀ k' n' t', intIn n' → rightB k' n' t' = true → printL k' n' t' ≠ s)
def ReadPost (s : List UInt8) (w : World) (e : Ending) (w' : World) : Prop :=
  ∃ (k n : Int) (t : List UInt8) (er : Int), e = .returned (.tuple #[.agg #[.int .i64 k, .int .i64 n, .string ⟨t.toArray⟩], .int .i64 er]) ∧ intIn n ∧ t.length ≤ s.length ∧ ReadOk s k n t er ∧ Bel w w'

set_option maxHeartbeats 1000000 in
theorem guess_no_any (w : World) : Calls Tryd.prog 28 #[.string ⟨#[110, 111]⟩] w (GuessPost [110, 111] w) := by
  have hg := Lib.hid guess_no
  go_enter Tryd.func28, Tryd.ntmps28
  go_wp2_with (fail)
  exact bodyPost_ret (v := .agg #[.int .i64 1, .int .i64 0, .string ⟨#[]⟩]) (by simp [results, Tryd.results28, go_sem]) rfl
    ⟨1, 0, [], rfl, ⟨by omega, by omega⟩, Nat.zero_le _, hg.out, (Bel.refl w).alloc _⟩
set_option maxHeartbeats 1000000 in
theorem guess_yes_any (w : World) : Calls Tryd.prog 28 #[.string ⟨#[121, 101, 115]⟩] w (GuessPost [121, 101, 115] w) := by
  have hg := Lib.hid guess_yes
  go_enter Tryd.func28, Tryd.ntmps28
  go_wp2_with (fail)
  exact bodyPost_ret (v := .agg #[.int .i64 1, .int .i64 1, .string ⟨#[]⟩]) (by simp [results, Tryd.results28, go_sem]) rfl
    ⟨1, 1, [], rfl, ⟨by omega, by omega⟩, Nat.zero_le _, hg.out, (Bel.refl w).alloc _⟩
theorem guess_any (s : ByteArray) (w : World) (hs : s.size ≤ maxLen) (hstd : Std w) :
    Calls Tryd.prog 28 #[.string s] w (GuessPost s.data.toList w) := by
  have hl : s.data.toList.length = s.size := rfl
  by_cases h : s.size = 0 ∨ 4002 < s.size
  · exact guess_zero s w h hs
  · by_cases h1 : s.toList = [110, 111]
    · have e : s = ⟨#[110, 111]⟩ := by
        rw [ByteArray.toList_eq] at h1
        apply ByteArray.ext; apply Array.toList_inj.1; exact h1
      rw [e]; exact guess_no_any w
    · by_cases h2 : s.toList = [121, 101, 115]
      · have e : s = ⟨#[121, 101, 115]⟩ := by
          rw [ByteArray.toList_eq] at h2
          apply ByteArray.ext; apply Array.toList_inj.1; exact h2
        rw [e]; exact guess_yes_any w
      · exact guess_some s (s.size - 1) (by omega) (by omega) (by simp [h1]) (by simp [h2]) w hstd

theorem read_none {s : List UInt8} {k n : Int} {t : List UInt8} (hg : GuessOk s k n t) (h : ¬ (rightB k n t = true ∧ printL k n t = s)) : ReadOk s 0 0 [] 8 := by
  refine Or.inr ⟨rfl, rfl, rfl, rfl, fun k' n' t' hn hr hp => h ?_⟩
  obtain ⟨rfl, rfl, rfl⟩ := hg k' n' t' hn hr hp
  exact ⟨hr, hp⟩

set_option maxHeartbeats 1000000 in
theorem read_any (s : ByteArray) (w : World) (hs : s.size ≤ maxLen) (hstd : Std w) :
    Calls Tryd.prog 18 #[.string s] w (ReadPost s.data.toList w) := by
  have HS := Lib.hid hstd; clear hstd
  go_enter Tryd.func18, Tryd.ntmps18
  go_wp2_with (fail)
  refine (guess_any s _ hs (HS.out.alloc _)).mono ?_
  rintro e w1 ⟨k, n, t, rfl, hin, htl, hg, hb⟩
  have HG := Lib.hid hg; clear hg
  have HB := Lib.hid hb
  have hp := hb.past
  have q0 : w1.cell? ⟨w.heap.size, 0, none⟩ = some (.int .i64 0) := cell_later hb (by go_simp)
  have q1 : w1.cell? ⟨w.heap.size, 1, none⟩ = some (.int .i64 0) := cell_later hb (by go_simp)
  have q2 : w1.cell? ⟨w.heap.size, 2, none⟩ = some (.string ⟨#[]⟩) := cell_later hb (by go_simp)
  have fz : ∀ o, w1.frozen? ⟨w.heap.size, o, none⟩ = false := fun o => by rw [HB.out.frozen _ _ (by simp)]; go_simp
  clear hb
  have htz : (ByteArray.mk t.toArray).size ≤ maxLen := by
    have e1 : s.data.toList.length = s.size := rfl
    have e2 : (ByteArray.mk t.toArray).size = t.length := by simp [ByteArray.size]
    omega
  have hR := right_any k n ⟨t.toArray⟩
  have hP := print_any k n ⟨t.toArray⟩
  rw [show (ByteArray.mk t.toArray).data.toList = t by simp] at hR hP
  have HR := Lib.hid hR; clear hR
  have HPr := Lib.hid hP; clear hP
  by_cases hr : rightB k n t = true
  · by_cases hps : printL k n t = s.data.toList
    · have HOk := Lib.hid (show ReadOk s.data.toList k n t 0 from Or.inl ⟨rfl, hr, hps⟩)
      have HRT := Lib.hid hr; clear hr
      have t1 : (printL k n t == s.toList) = true := by rw [ByteArray.toList_eq, hps]; simp
      clear hps
      go_wp2_with (fail)
      refine (HR.out _ htz).mono ?_
      rintro e w2 ⟨rfl, hb2⟩
      rw [HRT.out]
      have HB2 := Lib.hid hb2
      have hp2 := hb2.past
      have s0 : w2.cell? ⟨w1.heap.size, 0, none⟩ = some (.int .i64 k) := cell_later hb2 (by go_simp)
      have s1 : w2.cell? ⟨w1.heap.size, 1, none⟩ = some (.int .i64 n) := cell_later hb2 (by go_simp)
      have s2 : w2.cell? ⟨w1.heap.size, 2, none⟩ = some (.string ⟨t.toArray⟩) := cell_later hb2 (by go_simp)
      have r0 : w2.cell? ⟨w.heap.size, 0, none⟩ = some (.int .i64 0) := cell_later hb2 (by go_simp)
      have r1 : w2.cell? ⟨w.heap.size, 1, none⟩ = some (.int .i64 0) := cell_later hb2 (by go_simp)
      have r2 : w2.cell? ⟨w.heap.size, 2, none⟩ = some (.string ⟨#[]⟩) := cell_later hb2 (by go_simp)
      have f0 : ∀ o, w2.frozen? ⟨w.heap.size, o, none⟩ = w1.frozen? ⟨w.heap.size, o, none⟩ := fun o => by rw [hb2.frozen _ _ (by simp; omega)]; exact Below.frozen (p := ⟨w.heap.size, o, none⟩) ((Bel.refl w1).alloc _) hp
      clear hb2
      go_wp2_with (fail)
      refine (HPr.out w2 htz hin.1 hin.2 (((HS.out.alloc _).bel HB.out |>.alloc _).bel HB2.out)).mono ?_
      rintro e w3 ⟨rfl, hb3⟩
      have HB3 := Lib.hid hb3
      have u0 : w3.cell? ⟨w1.heap.size, 0, none⟩ = some (.int .i64 k) := cell_later hb3 s0
      have u1 : w3.cell? ⟨w1.heap.size, 1, none⟩ = some (.int .i64 n) := cell_later hb3 s1
      have u2 : w3.cell? ⟨w1.heap.size, 2, none⟩ = some (.string ⟨t.toArray⟩) := cell_later hb3 s2
      have v0 : w3.cell? ⟨w.heap.size, 0, none⟩ = some (.int .i64 0) := cell_later hb3 r0
      have v1 : w3.cell? ⟨w.heap.size, 1, none⟩ = some (.int .i64 0) := cell_later hb3 r1
      have v2 : w3.cell? ⟨w.heap.size, 2, none⟩ = some (.string ⟨#[]⟩) := cell_later hb3 r2
      have g0 : ∀ o, w3.frozen? ⟨w.heap.size, o, none⟩ = w1.frozen? ⟨w.heap.size, o, none⟩ := fun o => by rw [hb3.frozen _ _ (by omega)]; exact f0 o
      clear hb3 s0 s1 s2 r0 r1 r2 f0
      go_wp2
      refine bodyPost_ret (v := .tuple #[.agg #[.int .i64 k, .int .i64 n, .string ⟨t.toArray⟩], .int .i64 0]) (by simp [results, Tryd.results18, go_sem, v0, v1, v2]) rfl
        ⟨k, n, t, 0, rfl, hin, htl, HOk.out, ?_⟩
      exact (((((((Bel.refl w).alloc _).trans HB.out).alloc _ |>.trans HB2.out).trans HB3.out).setCell (Nat.le_refl _) _).setCell (Nat.le_refl _) _).setCell (Nat.le_refl _) _
    · have HOk := Lib.hid (read_none HG.out (fun h => hps h.2))
      have HRT := Lib.hid hr; clear hr
      have t1 : (printL k n t == s.toList) = false := by rw [ByteArray.toList_eq]; simpa using hps
      clear hps
      go_wp2_with (fail)
      refine (HR.out _ htz).mono ?_
      rintro e w2 ⟨rfl, hb2⟩
      rw [HRT.out]
      have HB2 := Lib.hid hb2
      have hp2 := hb2.past
      have s0 : w2.cell? ⟨w1.heap.size, 0, none⟩ = some (.int .i64 k) := cell_later hb2 (by go_simp)
      have s1 : w2.cell? ⟨w1.heap.size, 1, none⟩ = some (.int .i64 n) := cell_later hb2 (by go_simp)
      have s2 : w2.cell? ⟨w1.heap.size, 2, none⟩ = some (.string ⟨t.toArray⟩) := cell_later hb2 (by go_simp)
      have r0 : w2.cell? ⟨w.heap.size, 0, none⟩ = some (.int .i64 0) := cell_later hb2 (by go_simp)
      have r1 : w2.cell? ⟨w.heap.size, 1, none⟩ = some (.int .i64 0) := cell_later hb2 (by go_simp)
      have r2 : w2.cell? ⟨w.heap.size, 2, none⟩ = some (.string ⟨#[]⟩) := cell_later hb2 (by go_simp)
      have f0 : ∀ o, w2.frozen? ⟨w.heap.size, o, none⟩ = w1.frozen? ⟨w.heap.size, o, none⟩ := fun o => by rw [hb2.frozen _ _ (by simp; omega)]; exact Below.frozen (p := ⟨w.heap.size, o, none⟩) ((Bel.refl w1).alloc _) hp
      clear hb2
      go_wp2_with (fail)
      refine (HPr.out w2 htz hin.1 hin.2 (((HS.out.alloc _).bel HB.out |>.alloc _).bel HB2.out)).mono ?_
      rintro e w3 ⟨rfl, hb3⟩
      have HB3 := Lib.hid hb3
      have u0 : w3.cell? ⟨w1.heap.size, 0, none⟩ = some (.int .i64 k) := cell_later hb3 s0
      have u1 : w3.cell? ⟨w1.heap.size, 1, none⟩ = some (.int .i64 n) := cell_later hb3 s1
      have u2 : w3.cell? ⟨w1.heap.size, 2, none⟩ = some (.string ⟨t.toArray⟩) := cell_later hb3 s2
      have v0 : w3.cell? ⟨w.heap.size, 0, none⟩ = some (.int .i64 0) := cell_later hb3 r0
      have v1 : w3.cell? ⟨w.heap.size, 1, none⟩ = some (.int .i64 0) := cell_later hb3 r1
      have v2 : w3.cell? ⟨w.heap.size, 2, none⟩ = some (.string ⟨#[]⟩) := cell_later hb3 r2
      have g0 : ∀ o, w3.frozen? ⟨w.heap.size, o, none⟩ = w1.frozen? ⟨w.heap.size, o, none⟩ := fun o => by rw [hb3.frozen _ _ (by omega)]; exact f0 o
      clear hb3 s0 s1 s2 r0 r1 r2 f0
      go_wp2
      refine bodyPost_ret (v := .tuple #[.agg #[.int .i64 0, .int .i64 0, .string ⟨#[]⟩], .int .i64 8]) (by simp [results, Tryd.results18, go_sem, v0, v1, v2]) rfl
        ⟨0, 0, [], 8, rfl, ⟨by omega, by omega⟩, Nat.zero_le _, HOk.out, ?_⟩
      exact (((((((Bel.refl w).alloc _).trans HB.out).alloc _ |>.trans HB2.out).trans HB3.out).setCell (Nat.le_refl _) _).setCell (Nat.le_refl _) _).setCell (Nat.le_refl _) _
  · have HOk := Lib.hid (read_none HG.out (fun h => hr h.1))
    have HRT := Lib.hid (show rightB k n t = false by simpa using hr); clear hr
    · go_wp2_with (fail)
      refine (HR.out _ htz).mono ?_
      rintro e w2 ⟨rfl, hb2⟩
      rw [HRT.out]
      have HB2 := Lib.hid hb2
      have hp2 := hb2.past
      have s0 : w2.cell? ⟨w1.heap.size, 0, none⟩ = some (.int .i64 k) := cell_later hb2 (by go_simp)
      have s1 : w2.cell? ⟨w1.heap.size, 1, none⟩ = some (.int .i64 n) := cell_later hb2 (by go_simp)
      have s2 : w2.cell? ⟨w1.heap.size, 2, none⟩ = some (.string ⟨t.toArray⟩) := cell_later hb2 (by go_simp)
      have r0 : w2.cell? ⟨w.heap.size, 0, none⟩ = some (.int .i64 0) := cell_later hb2 (by go_simp)
      have r1 : w2.cell? ⟨w.heap.size, 1, none⟩ = some (.int .i64 0) := cell_later hb2 (by go_simp)
      have r2 : w2.cell? ⟨w.heap.size, 2, none⟩ = some (.string ⟨#[]⟩) := cell_later hb2 (by go_simp)
      have f0 : ∀ o, w2.frozen? ⟨w.heap.size, o, none⟩ = w1.frozen? ⟨w.heap.size, o, none⟩ := fun o => by rw [hb2.frozen _ _ (by simp; omega)]; exact Below.frozen (p := ⟨w.heap.size, o, none⟩) ((Bel.refl w1).alloc _) hp
      clear hb2
      go_wp2
      refine bodyPost_ret (v := .tuple #[.agg #[.int .i64 0, .int .i64 0, .string ⟨#[]⟩], .int .i64 8]) (by simp [results, Tryd.results18, go_sem, r0, r1, r2]) rfl
        ⟨0, 0, [], 8, rfl, ⟨by omega, by omega⟩, Nat.zero_le _, HOk.out, ?_⟩
      exact ((((((Bel.refl w).alloc _).trans HB.out).alloc _ |>.trans HB2.out).setCell (Nat.le_refl _) _).setCell (Nat.le_refl _) _).setCell (Nat.le_refl _) _
end Go.Proofs.YtndknolblfdcdaaDoor
