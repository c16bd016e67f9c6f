/- The walk of moultref1.number. -/
import Derived.Test.YtndknolblfdcdaaDoorRefRd3
set_option linter.unusedSimpArgs false
set_option linter.unusedVariables false
namespace Go.Proofs.YtndknolblfdcdaaDoor
open Go.RowKit

def NumRel (b : Bool) (s : ByteArray) (n i : Value) : Prop :=
  ∃ (k : Nat) (acc : Int), k ≤ s.size ∧ n = .int .i64 acc ∧ i = .int .i64 k ∧ acc ≤ 0 ∧ (if b then -9223372036854775808 else -9223372036854775807) ≤ acc ∧ Hid (numR b acc (s.data.toList.drop k) = numR b 0 s.data.toList)

theorem num_skip {b : Bool} {s : ByteArray} {k : Nat} {acc : Int} (hk : k < s.size) (h : numR b acc (s.data.toList.drop k) = numR b 0 s.data.toList) (hd : ¬ (48 ≤ s[k].toNat ∧ s[k].toNat ≤ 57)) : numR b acc (s.data.toList.drop (k + 1)) = numR b 0 s.data.toList := by
  rw [drop1 s k hk, numR, if_neg hd] at h; exact h
theorem num_take {b : Bool} {s : ByteArray} {k : Nat} {acc : Int} (hk : k < s.size) (h : numR b acc (s.data.toList.drop k) = numR b 0 s.data.toList) (hd : 48 ≤ s[k].toNat ∧ s[k].toNat ≤ 57)
    (ho : ¬ (acc < -922337203685477580 ∨ (acc = -922337203685477580 ∧ (8 < s[k].toNat - 48 ∨ (7 < s[k].toNat - 48 ∧ b = false))))) : numR b (10 * acc - ((s[k].toNat : Int) - 48)) (s.data.toList.drop (k + 1)) = numR b 0 s.data.toList := by
  rw [drop1 s k hk, numR, if_pos hd, if_neg ho] at h; exact h
theorem num_over {b : Bool} {s : ByteArray} {k : Nat} {acc : Int} (hk : k < s.size) (h : numR b acc (s.data.toList.drop k) = numR b 0 s.data.toList) (hd : 48 ≤ s[k].toNat ∧ s[k].toNat ≤ 57)
    (ho : acc < -922337203685477580 ∨ (acc = -922337203685477580 ∧ (8 < s[k].toNat - 48 ∨ (7 < s[k].toNat - 48 ∧ b = false)))) : numV b s.data.toList = 0 := by
  rw [drop1 s k hk, numR, if_pos hd, if_pos ho] at h; simp [numV, ← h]
theorem num_done {b : Bool} {s : ByteArray} {k : Nat} {acc : Int} (hk : ¬ k < s.size) (h : numR b acc (s.data.toList.drop k) = numR b 0 s.data.toList) : numV b s.data.toList = if b then acc else -acc := by
  rw [drop_end s k (by omega), numR] at h; simp [numV, ← h]

set_option maxHeartbeats 1000000 in
set_option maxRecDepth 100000 in
theorem ref_number_any (s : ByteArray) (h1 : 1 ≤ s.size) (h2 : s.size ≤ 1000) (w : World) :
    Calls Tryd.prog 29 #[.string s] w fun e w' => e = .returned (.int .i64 (numV (negB s.data.toList) s.data.toList)) ∧ w = w' := by
  have hb : ((s[0].toNat : Int) == 45) = negB s.data.toList := by
    have := drop1 s 0 (by omega)
    rw [List.drop_zero] at this
    rw [this]
    simp only [negB]
    rw [Bool.eq_iff_iff]; simp; omega
  generalize negB s.data.toList = b at hb ⊢
  have p1 : (0 : Int) < (s.size : Int) := by omega
  go_enter Tryd.func29, Tryd.ntmps29
  go_wp2
  go_loop [3, 5] (fun n i => NumRel b s n i) (fun _ i => s.size - (intOf i).toNat)
  case atStart => exact ⟨0, 0, Nat.zero_le _, rfl, rfl, Int.le_refl _, by cases b <;> simp, rfl⟩
  case round =>
    obtain ⟨k, acc, hk, rfl, rfl, a0, a1, HR⟩ := hrel
    have a2 : -9223372036854775808 ≤ acc := by cases b <;> simp at a1 <;> omega
    have HA1 := Lib.hid a1; clear a1
    by_cases hlt : k < s.size
    · have c256 := s[k].toNat_lt
      by_cases hd : 48 ≤ s[k].toNat ∧ s[k].toNat ≤ 57
      · obtain ⟨d1, d2⟩ := hd
        have e1 : (48 : Int) ≤ (s[k].toNat : Int) := by omega
        have e2 : (s[k].toNat : Int) ≤ 57 := by omega
        have e3 : ¬ ((s[k].toNat : Int) < 48) := by omega
        have e4 : ¬ (57 < (s[k].toNat : Int)) := by omega
        cases b
        all_goals go_wp2
        all_goals first
          | (refine ⟨⟨k + 1, 10 * acc - ((s[k].toNat : Int) - 48), by omega, ?_, by simp, by omega, by have := HA1.out; first | omega | (simp at this ⊢; omega), Lib.hid (num_take hlt HR.out ⟨d1, d2⟩ (by simp_all; try omega))⟩, ?_⟩
             · first | rfl | (congr 1; omega)
             · simp [intOf]; omega)
          | (go_ret
             refine ⟨ret_int ?_, rfl⟩
             rw [num_over hlt HR.out ⟨d1, d2⟩ (by simp_all; try omega)]
             done)
      · by_cases hl : s[k].toNat < 48
        · have e1 : (s[k].toNat : Int) < 48 := by omega
          go_wp2
          all_goals refine ⟨⟨k + 1, acc, by omega, rfl, by simp, a0, HA1.out, Lib.hid (num_skip hlt HR.out hd)⟩, ?_⟩
          all_goals (simp [intOf]; omega)
        · have e1 : ¬ ((s[k].toNat : Int) < 48) := by omega
          have e2 : 57 < (s[k].toNat : Int) := by omega
          go_wp2
          all_goals refine ⟨⟨k + 1, acc, by omega, rfl, by simp, a0, HA1.out, Lib.hid (num_skip hlt HR.out hd)⟩, ?_⟩
          all_goals (simp [intOf]; omega)
    · have hV := Lib.hid (num_done hlt HR.out)
      cases b
      · have a3 : -9223372036854775807 ≤ acc := by have := HA1.out; simpa using this
        go_wp2
        all_goals go_ret
        all_goals refine ⟨ret_int ?_, rfl⟩
        all_goals rw [hV.out]
        all_goals (simp only [wrap64, IntKind.wrap, Bool.false_eq_true, if_false]; try go_light)
      · go_wp2
        all_goals go_ret
        all_goals refine ⟨ret_int ?_, rfl⟩
        all_goals (rw [hV.out]; rfl)
end Go.Proofs.YtndknolblfdcdaaDoor
