/- Plain mathematics of the order of values. -/
import Derived.Test.YtggmeggfibblhaaDoorCmp
set_option linter.unusedSimpArgs false
set_option linter.unusedVariables false
namespace Go.Proofs.YtggmeggfibblhaaDoor
open Go.RowKit

theorem cb_antisym : ∀ a b : List UInt8, Lib.compareBytes b a = - Lib.compareBytes a b
  | [], [] => rfl
  | [], _ :: _ => rfl
  | _ :: _, [] => rfl
  | a :: ra, b :: rb => by
    have ih := cb_antisym ra rb
    unfold Lib.compareBytes
    by_cases h1 : a < b
    · have h2 : ¬ b < a := by rw [UInt8.lt_iff_toNat_lt] at *; omega
      simp [h1, h2]
    · by_cases h2 : b < a
      · simp [h1, h2]
      · simp [h1, h2, ih]
theorem cb_range : ∀ a b : List UInt8, -1 ≤ Lib.compareBytes a b ∧ Lib.compareBytes a b ≤ 1
  | [], [] => by simp [Lib.compareBytes]
  | [], _ :: _ => by simp [Lib.compareBytes]
  | _ :: _, [] => by simp [Lib.compareBytes]
  | a :: ra, b :: rb => by
    have ih := cb_range ra rb
    unfold Lib.compareBytes
    split
    · omega
    · split <;> omega
theorem cb_zero : ∀ a b : List UInt8, Lib.compareBytes a b = 0 ↔ a = b
  | [], [] => by simp [Lib.compareBytes]
  | [], _ :: _ => by simp [Lib.compareBytes]
  | _ :: _, [] => by simp [Lib.compareBytes]
  | a :: ra, b :: rb => by
    have ih := cb_zero ra rb
    unfold Lib.compareBytes
    by_cases h1 : a < b
    · have h3 : a ≠ b := by intro h; subst h; rw [UInt8.lt_iff_toNat_lt] at h1; omega
      simp [h1, h3]
    · by_cases h2 : b < a
      · have h3 : a ≠ b := by intro h; subst h; rw [UInt8.lt_iff_toNat_lt] at h2; omega
        simp [h1, h2, h3]
      · have h3 : a = b := by
          apply UInt8.toNat_inj.1
          rw [UInt8.lt_iff_toNat_lt] at h1 h2; omega
        simp [h3, ih]
theorem cb_trans : ∀ a b c : List UInt8, Lib.compareBytes a b ≤ 0 → Lib.compareBytes b c ≤ 0 → Lib.compareBytes a c ≤ 0
  | [], _, [], _, _ => by simp [Lib.compareBytes]
  | [], _, _ :: _, _, _ => by simp [Lib.compareBytes]
  | _ :: _, [], _, h, _ => by simp [Lib.compareBytes] at h
  | _ :: _, _ :: _, [], _, h => by simp [Lib.compareBytes] at h
  | a :: ra, b :: rb, c :: rc, h1, h2 => by
    have ih := cb_trans ra rb rc
    unfold Lib.compareBytes at h1 h2 ⊢
    simp only [UInt8.lt_iff_toNat_lt] at *
    by_cases x1 : a.toNat < b.toNat
    · by_cases y1 : b.toNat < c.toNat
      · rw [if_pos (by omega)]; omega
      · rw [if_neg y1] at h2
        by_cases y2 : c.toNat < b.toNat
        · rw [if_pos y2] at h2; omega
        · rw [if_pos (by omega)]; omega
    · rw [if_neg x1] at h1
      by_cases x2 : b.toNat < a.toNat
      · rw [if_pos x2] at h1; omega
      · rw [if_neg x2] at h1
        by_cases y1 : b.toNat < c.toNat
        · rw [if_pos (by omega)]; omega
        · rw [if_neg y1] at h2
          by_cases y2 : c.toNat < b.toNat
          · rw [if_pos y2] at h2; omega
          · rw [if_neg y2] at h2
            rw [if_neg (by omega), if_neg (by omega)]
            exact ih h1 h2
theorem cmpI_tri (x y : Int) : (x < y ∧ cmpI x y = -1) ∨ (x = y ∧ cmpI x y = 0) ∨ (y < x ∧ cmpI x y = 1) := by
  unfold cmpI
  by_cases h : x < y
  · left; simp [h]
  · by_cases h2 : y < x
    · right; right; simp [h, h2]
    · right; left; simp [h, h2]; omega
theorem or3_neg (x y z : Int) : or3 (-x) (-y) (-z) = - or3 x y z := by
  unfold or3
  by_cases h1 : x = 0
  · by_cases h2 : y = 0
    · simp [h1, h2]
    · simp [h1, h2]
  · simp [h1]
theorem cmpI_neg (x y : Int) : cmpI y x = - cmpI x y := by
  rcases cmpI_tri x y with ⟨h, e⟩ | ⟨h, e⟩ | ⟨h, e⟩ <;> rcases cmpI_tri y x with ⟨h', e'⟩ | ⟨h', e'⟩ | ⟨h', e'⟩ <;> omega
theorem cmpV_neg (k n : Int) (s : List UInt8) (k' n' : Int) (s' : List UInt8) : cmpV k' n' s' k n s = - cmpV k n s k' n' s' := by
  unfold cmpV
  rw [cmpI_neg k k', cmpI_neg n n', cb_antisym s s', or3_neg]
theorem cmpV_range (k n : Int) (s : List UInt8) (k' n' : Int) (s' : List UInt8) : -1 ≤ cmpV k n s k' n' s' ∧ cmpV k n s k' n' s' ≤ 1 := by
  have h := cb_range s s'
  unfold cmpV or3
  rcases cmpI_tri k k' with ⟨_, e⟩ | ⟨_, e⟩ | ⟨_, e⟩ <;> rcases cmpI_tri n n' with ⟨_, e'⟩ | ⟨_, e'⟩ | ⟨_, e'⟩ <;> simp [e, e'] <;> omega
theorem cmpV_zero (k n : Int) (s : List UInt8) (k' n' : Int) (s' : List UInt8) : cmpV k n s k' n' s' = 0 ↔ k = k' ∧ n = n' ∧ s = s' := by
  have h := cb_zero s s'
  unfold cmpV or3
  rcases cmpI_tri k k' with ⟨h1, e⟩ | ⟨h1, e⟩ | ⟨h1, e⟩
  · rw [e]; simp; omega
  · rw [e]
    rcases cmpI_tri n n' with ⟨h2, e'⟩ | ⟨h2, e'⟩ | ⟨h2, e'⟩
    · rw [e']; simp; omega
    · rw [e']; simp [h, h1, h2]
    · rw [e']; simp; omega
  · rw [e]; simp; omega
theorem cmpV_le (k n : Int) (s : List UInt8) (k' n' : Int) (s' : List UInt8) : cmpV k n s k' n' s' ≤ 0 ↔ k < k' ∨ (k = k' ∧ (n < n' ∨ (n = n' ∧ Lib.compareBytes s s' ≤ 0))) := by
  unfold cmpV or3
  rcases cmpI_tri k k' with ⟨h1, e⟩ | ⟨h1, e⟩ | ⟨h1, e⟩ <;> rcases cmpI_tri n n' with ⟨h2, e'⟩ | ⟨h2, e'⟩ | ⟨h2, e'⟩ <;> simp [e, e'] <;> omega
theorem cmpV_trans {k n k' n' k'' n'' : Int} {s s' s'' : List UInt8} (h1 : cmpV k n s k' n' s' ≤ 0) (h2 : cmpV k' n' s' k'' n'' s'' ≤ 0) : cmpV k n s k'' n'' s'' ≤ 0 := by
  rw [cmpV_le] at *
  have h := cb_trans s s' s''
  omega
end Go.Proofs.YtggmeggfibblhaaDoor
