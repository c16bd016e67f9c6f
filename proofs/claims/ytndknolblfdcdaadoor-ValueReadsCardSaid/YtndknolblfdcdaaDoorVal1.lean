/- The contracts of package value's small functions: Right, Zero, and moultref1's Right. -/
import Derived.Test.YtndknolblfdcdaaDoorKit
set_option linter.unusedSimpArgs false
set_option linter.unusedVariables false
namespace Go.Proofs.YtndknolblfdcdaaDoor
open Go.RowKit

def rightB (k n : Int) (s : List UInt8) : Bool :=
  if k = 1 then (n = 0 || n = 1) && s.isEmpty
  else if k = 2 then (-32768 ≤ n && n ≤ 32767) && s.isEmpty
  else if k = 3 then (-2147483648 ≤ n && n ≤ 2147483647) && s.isEmpty
  else if k = 4 then s.isEmpty
  else if k = 5 then n = 0 && s.length ≤ 32
  else if k = 6 then n = 0 && s.length ≤ 1000
  else false

set_option maxHeartbeats 400000 in
theorem right_any (k n : Int) (s : ByteArray) (w : World) (hs : s.size ≤ maxLen) :
    Calls Tryd.prog 12 #[.agg #[.int .i64 k, .int .i64 n, .string s]] w fun e w' => e = .returned (.bool (rightB k n s.data.toList)) ∧ Bel w w' := by
  unfold maxLen at hs
  go_enter Tryd.func12, Tryd.ntmps12
  go_wp2
  all_goals
    go_ret
    refine ⟨ret_bool ?_, (Bel.refl _).alloc _⟩
    go_light
    have hz : s.data.toList.length = s.size := rfl
    simp_all [rightB, ByteArray.toList_eq]
    try omega

set_option maxHeartbeats 400000 in
theorem ref_right_any (k n : Int) (s : ByteArray) (w : World) (hs : s.size ≤ maxLen) :
    Calls Tryd.prog 13 #[.agg #[.int .i64 k, .int .i64 n, .string s]] w fun e w' => e = .returned (.bool (rightB k n s.data.toList)) ∧ Bel w w' := by
  unfold maxLen at hs
  go_enter Tryd.func13, Tryd.ntmps13
  go_wp2
  all_goals
    go_ret
    refine ⟨ret_bool ?_, (Bel.refl _).alloc _⟩
    go_light
    have hz : s.data.toList.length = s.size := rfl
    simp_all [rightB, ByteArray.toList_eq]
    try omega

theorem rightB_zero (k : Int) : rightB k 0 [] = decide (1 ≤ k ∧ k ≤ 6) := by
  rw [Bool.eq_iff_iff]
  simp [rightB]
  omega

set_option maxHeartbeats 400000 in
theorem zero_yes (k : Int) (w : World) (h : 1 ≤ k) (h2 : k ≤ 6) :
    Calls Tryd.prog 11 #[.int .i64 k] w fun e w' => e = .returned (.tuple #[.agg #[.int .i64 k, .int .i64 0, .string ⟨#[]⟩], .bool true]) ∧ Bel w w' := by
  have hr : rightB k 0 [] = true := by rw [rightB_zero]; simp; omega
  go_enter Tryd.func11, Tryd.ntmps11
  go_wp2_with (go_at_call 12; refine (right_any k 0 ⟨#[]⟩ _ (by decide)).mono ?_; rintro e w1 ⟨rfl, hb⟩; rw [show (ByteArray.mk #[]).data.toList = [] from rfl, hr]; obtain ⟨hc, hf⟩ := bcell hb)
  have q0 : w1.cell? ⟨w.heap.size, 0, none⟩ = some (.int .i64 0) := cell_later hb (by go_simp)
  have q1 : w1.cell? ⟨w.heap.size, 1, none⟩ = some (.int .i64 0) := cell_later hb (by go_simp)
  have q2 : w1.cell? ⟨w.heap.size, 2, none⟩ = some (.string ⟨#[]⟩) := cell_later hb (by go_simp)
  exact bodyPost_ret (v := .tuple #[.agg #[.int .i64 k, .int .i64 0, .string ⟨#[]⟩], .bool true]) (by simp [results, Tryd.results11, go_sem, q0, q1, q2]) rfl ⟨rfl, ((((((Bel.refl w).alloc _).alloc _).trans hb).setCell (Nat.le_refl _) _).setCell (Nat.le_refl _) _).setCell (Nat.le_refl _) _⟩

set_option maxHeartbeats 400000 in
theorem zero_no (k : Int) (w : World) (h : ¬ (1 ≤ k ∧ k ≤ 6)) :
    Calls Tryd.prog 11 #[.int .i64 k] w fun e w' => e = .returned (.tuple #[.agg #[.int .i64 0, .int .i64 0, .string ⟨#[]⟩], .bool false]) ∧ Bel w w' := by
  have hr : rightB k 0 [] = false := by rw [rightB_zero]; exact decide_eq_false h
  go_enter Tryd.func11, Tryd.ntmps11
  go_wp2_with (go_at_call 12; refine (right_any k 0 ⟨#[]⟩ _ (by decide)).mono ?_; rintro e w1 ⟨rfl, hb⟩; rw [show (ByteArray.mk #[]).data.toList = [] from rfl, hr]; obtain ⟨hc, hf⟩ := bcell hb)
  have q0 : w1.cell? ⟨w.heap.size, 0, none⟩ = some (.int .i64 0) := cell_later hb (by go_simp)
  have q1 : w1.cell? ⟨w.heap.size, 1, none⟩ = some (.int .i64 0) := cell_later hb (by go_simp)
  have q2 : w1.cell? ⟨w.heap.size, 2, none⟩ = some (.string ⟨#[]⟩) := cell_later hb (by go_simp)
  exact bodyPost_ret (v := .tuple #[.agg #[.int .i64 0, .int .i64 0, .string ⟨#[]⟩], .bool false]) (by simp [results, Tryd.results11, go_sem, q0, q1, q2]) rfl ⟨rfl, ((((((Bel.refl w).alloc _).alloc _).trans hb).setCell (Nat.le_refl _) _).setCell (Nat.le_refl _) _).setCell (Nat.le_refl _) _⟩
end Go.Proofs.YtndknolblfdcdaaDoor
