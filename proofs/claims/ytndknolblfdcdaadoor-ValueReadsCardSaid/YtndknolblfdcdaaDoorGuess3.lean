/- The contract of value.guess. -/
import Derived.Test.YtndknolblfdcdaaDoorGuess2
set_option linter.unusedSimpArgs false
set_option linter.unusedVariables false
namespace Go.Proofs.YtndknolblfdcdaaDoor
open Go.RowKit

theorem list_snoc (s : ByteArray) (z : Nat) (hz : s.size = z + 1) : s.data.toList = (s.extract 0 z).data.toList ++ [s[z]'(by omega)] := by
  have hl : s.data.toList.length = z + 1 := hz
  rw [Lib.extract_data, List.drop_zero, Nat.sub_zero]
  have := take_snoc s z (by omega)
  rw [← this]
  exact (List.take_of_length_le (by omega)).symm

set_option maxHeartbeats 1000000 in
theorem guess_zero (s : ByteArray) (w : World) (h : s.size = 0 ∨ 4002 < s.size) (hs : s.size ≤ maxLen) :
    Calls Tryd.prog 28 #[.string s] w (GuessPost s.data.toList w) := by
  unfold maxLen at hs
  have hg := Lib.hid (guess_none (s := s.data.toList) h 0 0 [])
  rcases h with h0 | h1
  · have he : s = ⟨#[]⟩ := by
      apply ByteArray.ext; exact Array.eq_empty_of_size_eq_zero h0
    subst he
    go_enter Tryd.func28, Tryd.ntmps28
    go_wp2_with (fail)
    exact bodyPost_ret (v := .agg #[.int .i64 0, .int .i64 0, .string ⟨#[]⟩]) (by simp [results, Tryd.results28, go_sem]) rfl
      ⟨0, 0, [], rfl, ⟨by omega, by omega⟩, Nat.zero_le _, hg.out, (Bel.refl w).alloc _⟩
  · have hne : s.toList.isEmpty = false := by
      rw [ByteArray.toList_eq]
      cases h : s.data.toList with
      | nil => have : s.data.toList.length = s.size := rfl
               rw [h] at this; simp at this; omega
      | cons c r => rfl
    have h2 : (4002 : Int) < (s.size : Int) := by omega
    go_enter Tryd.func28, Tryd.ntmps28
    go_wp2_with (fail)
    exact bodyPost_ret (v := .agg #[.int .i64 0, .int .i64 0, .string ⟨#[]⟩]) (by simp [results, Tryd.results28, go_sem]) rfl
      ⟨0, 0, [], rfl, ⟨by omega, by omega⟩, Nat.zero_le _, hg.out, (Bel.refl w).alloc _⟩

set_option maxHeartbeats 1000000 in
set_option maxRecDepth 100000 in
theorem guess_some (s : ByteArray) (z : Nat) (hz : s.size = z + 1) (hlim : z ≤ 4001) (h1 : (s.toList == [110, 111]) = false) (h2 : (s.toList == [121, 101, 115]) = false) (w : World) (hstd : Std w) :
    Calls Tryd.prog 28 #[.string s] w (GuessPost s.data.toList w) := by
  have HS := Lib.hid hstd; clear hstd
  have hne : s.toList.isEmpty = false := by
    rw [ByteArray.toList_eq]
    cases h : s.data.toList with
    | nil => have : s.data.toList.length = s.size := rfl
             rw [h] at this; simp at this; omega
    | cons c r => rfl
  have n1 : s.data.toList ≠ [110, 111] := by rw [ByteArray.toList_eq] at h1; simpa using h1
  have n2 : s.data.toList ≠ [121, 101, 115] := by rw [ByteArray.toList_eq] at h2; simpa using h2
  have hsn := list_snoc s z hz
  have HN1 := Lib.hid n1
  have HN2 := Lib.hid n2
  clear n1 n2
  have hlen : (s.extract 0 z).size = z := by simp [ByteArray.size_extract]; omega
  have HL := Lib.hid hlen; clear hlen
  have HSN := Lib.hid hsn; clear hsn
  go_enter Tryd.func28, Tryd.ntmps28
  go_wp2_with (fail)
  have wz : IntKind.i64.wrap ((z : Int) + 1 - 1) = (z : Int) := by rw [IntWalk.i64_in _ (by omega)]; omega
  have z0 : (0 : Int) ≤ (z : Int) := by omega
  have z1 : (z : Int) ≤ (z : Int) + 1 := by omega
  have z2 : (z : Int) < (z : Int) + 1 := by omega
  go_quiet (fail)
  go_wp2_with (fail)
  · have t5 : ((s[z].toNat : Int) == 115) = true := by assumption
    refine (number_any 2 (s.extract 0 z) _ (by rw [HL.out]; omega) ((HS.out.alloc _).drewN _)).mono ?_
    rintro e w1 ⟨k', n', rfl, hin, hv, hb⟩
    have HV := Lib.hid hv; clear hv
    have q0 : w1.cell? ⟨w.heap.size, 0, none⟩ = some (.int .i64 0) := cell_later hb (by go_simp)
    have q1 : w1.cell? ⟨w.heap.size, 1, none⟩ = some (.int .i64 0) := cell_later hb (by go_simp)
    have q2 : w1.cell? ⟨w.heap.size, 2, none⟩ = some (.string ⟨#[]⟩) := cell_later hb (by go_simp)
    obtain ⟨hc, hf⟩ := bcell hb
    have HB := Lib.hid hb; clear hb
    go_wp2
    refine bodyPost_ret (v := .agg #[.int .i64 k', .int .i64 n', .string ⟨#[]⟩]) (by simp [results, Tryd.results28, go_sem, q0, q1, q2]) rfl
      ⟨k', n', [], rfl, hin, Nat.zero_le _, ?_, (((((Bel.refl w).alloc _).drewN _).trans HB.out).setCell (Nat.le_refl _) _ |>.setCell (Nat.le_refl _) _).setCell (Nat.le_refl _) _⟩
    rw [HSN.out]
    exact guess_num (by rw [← HSN.out]; exact HN1.out) (by rw [← HSN.out]; exact HN2.out) (Or.inl ⟨by simp at t5; omega, rfl⟩) HV.out
  · have t5 : ((s[z].toNat : Int) == 105) = true := by assumption
    refine (number_any 3 (s.extract 0 z) _ (by rw [HL.out]; omega) ((HS.out.alloc _).drewN _)).mono ?_
    rintro e w1 ⟨k', n', rfl, hin, hv, hb⟩
    have HV := Lib.hid hv; clear hv
    have q0 : w1.cell? ⟨w.heap.size, 0, none⟩ = some (.int .i64 0) := cell_later hb (by go_simp)
    have q1 : w1.cell? ⟨w.heap.size, 1, none⟩ = some (.int .i64 0) := cell_later hb (by go_simp)
    have q2 : w1.cell? ⟨w.heap.size, 2, none⟩ = some (.string ⟨#[]⟩) := cell_later hb (by go_simp)
    obtain ⟨hc, hf⟩ := bcell hb
    have HB := Lib.hid hb; clear hb
    go_wp2
    refine bodyPost_ret (v := .agg #[.int .i64 k', .int .i64 n', .string ⟨#[]⟩]) (by simp [results, Tryd.results28, go_sem, q0, q1, q2]) rfl
      ⟨k', n', [], rfl, hin, Nat.zero_le _, ?_, (((((Bel.refl w).alloc _).drewN _).trans HB.out).setCell (Nat.le_refl _) _ |>.setCell (Nat.le_refl _) _).setCell (Nat.le_refl _) _⟩
    rw [HSN.out]
    exact guess_num (by rw [← HSN.out]; exact HN1.out) (by rw [← HSN.out]; exact HN2.out) (Or.inr ⟨by simp at t5; omega, rfl⟩) HV.out
  · have t5 : ((s[z].toNat : Int) == 39) = true := by assumption
    refine (text_any 5 (s.extract 0 z) _ (by rw [HL.out]; omega) ((HS.out.alloc _).drewN _)).mono ?_
    rintro e w1 ⟨k', t, rfl, htl, hv, hb⟩
    have HV := Lib.hid hv; clear hv
    have q0 : w1.cell? ⟨w.heap.size, 0, none⟩ = some (.int .i64 0) := cell_later hb (by go_simp)
    have q1 : w1.cell? ⟨w.heap.size, 1, none⟩ = some (.int .i64 0) := cell_later hb (by go_simp)
    have q2 : w1.cell? ⟨w.heap.size, 2, none⟩ = some (.string ⟨#[]⟩) := cell_later hb (by go_simp)
    obtain ⟨hc, hf⟩ := bcell hb
    have HB := Lib.hid hb; clear hb
    go_wp2
    refine bodyPost_ret (v := .agg #[.int .i64 k', .int .i64 0, .string ⟨t.toArray⟩]) (by simp [results, Tryd.results28, go_sem, q0, q1, q2]) rfl
      ⟨k', 0, t, rfl, ⟨by omega, by omega⟩, ?_, ?_, (((((Bel.refl w).alloc _).drewN _).trans HB.out).setCell (Nat.le_refl _) _ |>.setCell (Nat.le_refl _) _).setCell (Nat.le_refl _) _⟩
    · have e1 : (s.extract 0 z).data.toList.length = (s.extract 0 z).size := rfl
      have e2 : s.data.toList.length = s.size := rfl
      rw [e1, HL.out] at htl
      omega
    rw [HSN.out]
    exact guess_text (by rw [← HSN.out]; exact HN1.out) (by rw [← HSN.out]; exact HN2.out) (Or.inl ⟨by simp at t5; omega, rfl⟩) HV.out
  · have t5 : ((s[z].toNat : Int) == 34) = true := by assumption
    refine (text_any 6 (s.extract 0 z) _ (by rw [HL.out]; omega) ((HS.out.alloc _).drewN _)).mono ?_
    rintro e w1 ⟨k', t, rfl, htl, hv, hb⟩
    have HV := Lib.hid hv; clear hv
    have q0 : w1.cell? ⟨w.heap.size, 0, none⟩ = some (.int .i64 0) := cell_later hb (by go_simp)
    have q1 : w1.cell? ⟨w.heap.size, 1, none⟩ = some (.int .i64 0) := cell_later hb (by go_simp)
    have q2 : w1.cell? ⟨w.heap.size, 2, none⟩ = some (.string ⟨#[]⟩) := cell_later hb (by go_simp)
    obtain ⟨hc, hf⟩ := bcell hb
    have HB := Lib.hid hb; clear hb
    go_wp2
    refine bodyPost_ret (v := .agg #[.int .i64 k', .int .i64 0, .string ⟨t.toArray⟩]) (by simp [results, Tryd.results28, go_sem, q0, q1, q2]) rfl
      ⟨k', 0, t, rfl, ⟨by omega, by omega⟩, ?_, ?_, (((((Bel.refl w).alloc _).drewN _).trans HB.out).setCell (Nat.le_refl _) _ |>.setCell (Nat.le_refl _) _).setCell (Nat.le_refl _) _⟩
    · have e1 : (s.extract 0 z).data.toList.length = (s.extract 0 z).size := rfl
      have e2 : s.data.toList.length = s.size := rfl
      rw [e1, HL.out] at htl
      omega
    rw [HSN.out]
    exact guess_text (by rw [← HSN.out]; exact HN1.out) (by rw [← HSN.out]; exact HN2.out) (Or.inr ⟨by simp at t5; omega, rfl⟩) HV.out
  · have a1 : ((s[z].toNat : Int) == 115) = false := by assumption
    have a2 : ((s[z].toNat : Int) == 105) = false := by assumption
    have a3 : ((s[z].toNat : Int) == 39) = false := by assumption
    have a4 : ((s[z].toNat : Int) == 34) = false := by assumption
    refine (number_any 4 s _ (by omega) ((HS.out.alloc _).drewN _)).mono ?_
    rintro e w1 ⟨k', n', rfl, hin, hv, hb⟩
    have HV := Lib.hid hv; clear hv
    have q0 : w1.cell? ⟨w.heap.size, 0, none⟩ = some (.int .i64 0) := cell_later hb (by go_simp)
    have q1 : w1.cell? ⟨w.heap.size, 1, none⟩ = some (.int .i64 0) := cell_later hb (by go_simp)
    have q2 : w1.cell? ⟨w.heap.size, 2, none⟩ = some (.string ⟨#[]⟩) := cell_later hb (by go_simp)
    obtain ⟨hc, hf⟩ := bcell hb
    have HB := Lib.hid hb; clear hb
    go_wp2
    refine bodyPost_ret (v := .agg #[.int .i64 k', .int .i64 n', .string ⟨#[]⟩]) (by simp [results, Tryd.results28, go_sem, q0, q1, q2]) rfl
      ⟨k', n', [], rfl, hin, Nat.zero_le _, ?_, (((((Bel.refl w).alloc _).drewN _).trans HB.out).setCell (Nat.le_refl _) _ |>.setCell (Nat.le_refl _) _).setCell (Nat.le_refl _) _⟩
    rw [HSN.out]
    exact guess_int (by rw [← HSN.out]; exact HN1.out) (by rw [← HSN.out]; exact HN2.out) ⟨by simp at a1; omega, by simp at a2; omega, by simp at a3; omega, by simp at a4; omega⟩ (by rw [← HSN.out]; exact HV.out)
end Go.Proofs.YtndknolblfdcdaaDoor
