/- The contract of moultref1.number. -/
import Derived.Test.YtndknolblfdcdaaDoorRefRd2
import Derived.Test.YtndknolblfdcdaaDoorGuess2
set_option linter.unusedSimpArgs false
set_option linter.unusedVariables false
namespace Go.Proofs.YtndknolblfdcdaaDoor
open Go.RowKit

/-- What is gathered of the digits of a text, below 0; none: it is beyond an int. -/
def numR (neg : Bool) : Int → List UInt8 → Option Int
  | acc, [] => some acc
  | acc, c :: r => if 48 ≤ c.toNat ∧ c.toNat ≤ 57 then
      (if acc < -922337203685477580 ∨ (acc = -922337203685477580 ∧ (8 < c.toNat - 48 ∨ (7 < c.toNat - 48 ∧ neg = false))) then none else numR neg (10 * acc - ((c.toNat : Int) - 48)) r)
    else numR neg acc r
def numV (neg : Bool) (l : List UInt8) : Int := match numR neg 0 l with
  | none => 0
  | some a => if neg then a else -a
theorem numR_snoc (neg : Bool) : ∀ (l : List UInt8) (acc a : Int) (c : UInt8), numR neg acc l = some a → numR neg acc (l ++ [c]) = numR neg a [c]
  | [], acc, a, c, h => by simp only [numR] at h; injection h with h; rw [h]; rfl
  | d :: r, acc, a, c, h => by
    simp only [List.cons_append]
    rw [numR] at h ⊢
    split at h
    · rename_i hd
      rw [if_pos hd]
      split at h
      · cases h
      · rename_i hx
        rw [if_neg hx]
        exact numR_snoc neg r _ a c h
    · rename_i hd
      rw [if_neg hd]
      exact numR_snoc neg r _ a c h
theorem numR_digits (neg : Bool) (u : Nat) : u ≤ (if neg then 9223372036854775808 else 9223372036854775807) → numR neg 0 (Lib.decDigits u) = some (-(u : Int)) := by
  induction u using Nat.strongRecOn with
  | ind u ih =>
    intro hu
    have hu' : u ≤ 9223372036854775808 := by cases neg <;> simp at hu <;> omega
    by_cases h : u < 10
    · rw [digits_one u h]
      have := digit_byte u h
      rw [numR, if_pos (by omega), if_neg (by omega), numR]
      congr 1
      omega
    · rw [digits_more u h]
      have hb := digit_byte (u % 10) (by omega)
      rw [numR_snoc neg _ 0 (-((u / 10 : Nat) : Int)) _ (ih (u / 10) (by omega) (by cases neg <;> simp at hu ⊢ <;> omega))]
      have hno : ¬ (-((u / 10 : Nat) : Int) < -922337203685477580 ∨ (-((u / 10 : Nat) : Int) = -922337203685477580 ∧ (8 < (UInt8.ofNat (48 + u % 10)).toNat - 48 ∨ (7 < (UInt8.ofNat (48 + u % 10)).toNat - 48 ∧ neg = false)))) := by
        rw [hb]
        cases neg
        · simp at hu ⊢; omega
        · simp at hu ⊢; omega
      rw [numR, if_pos (by omega), if_neg hno, numR]
      congr 1
      omega
/-- Is the first byte a minus sign? -/
def negB (l : List UInt8) : Bool := match l with
  | [] => false
  | c :: _ => c.toNat == 45
theorem numV_itoa (n : Int) (hn : intIn n) (tl : List UInt8) (ht : ∀ c ∈ tl, ¬ (48 ≤ c.toNat ∧ c.toNat ≤ 57)) : numV (negB (Lib.itoa n ++ tl)) (Lib.itoa n ++ tl) = n := by
  have hskip : ∀ (neg : Bool) (l : List UInt8) (acc a : Int), numR neg acc l = some a → ∀ tl : List UInt8, (∀ c ∈ tl, ¬ (48 ≤ c.toNat ∧ c.toNat ≤ 57)) → numR neg acc (l ++ tl) = some a := by
    intro neg l acc a h tl
    induction tl generalizing l with
    | nil => intro _; simpa using h
    | cons c r ih =>
      intro hc
      have h1 : numR neg acc (l ++ [c]) = some a := by
        rw [numR_snoc neg l acc a c h, numR, if_neg (hc c (by simp)), numR]
      have := ih (l ++ [c]) h1 (fun d hd => hc d (by simp [hd]))
      simpa using this
  unfold intIn at hn
  unfold Lib.itoa
  by_cases h : n < 0
  · rw [if_pos h]
    have e : negB (45 :: Lib.decDigits n.natAbs ++ tl) = true := by simp [negB]
    rw [e]
    have hd := numR_digits true n.natAbs (by simp; omega)
    have h45 : numR true 0 (45 :: Lib.decDigits n.natAbs) = some (-(n.natAbs : Int)) := by
      rw [numR, if_neg (by decide)]; exact hd
    simp only [numV, hskip true _ 0 _ h45 tl ht]
    simp; omega
  · rw [if_neg h]
    obtain ⟨c, r, hc, h48, h57⟩ := digits_head n.toNat
    have e : negB (Lib.decDigits n.toNat ++ tl) = false := by
      rw [hc]; simp [negB]; intro h; rw [h] at h48; simp at h48
    rw [e]
    have hd := numR_digits false n.toNat (by simp; omega)
    simp only [numV, hskip false _ 0 _ hd tl ht]
    simp; omega
theorem numR_range (neg : Bool) : ∀ (l : List UInt8) (acc a : Int), acc ≤ 0 → (if neg then -9223372036854775808 else -9223372036854775807) ≤ acc → numR neg acc l = some a → a ≤ 0 ∧ (if neg then -9223372036854775808 else -9223372036854775807) ≤ a
  | [], acc, a, h0, h1, h => by simp only [numR] at h; injection h with h; rw [← h]; exact ⟨h0, h1⟩
  | c :: r, acc, a, h0, h1, h => by
    rw [numR] at h
    split at h
    · rename_i hd
      split at h
      · cases h
      · rename_i hx
        refine numR_range neg r _ a ?_ ?_ h
        · omega
        · cases neg <;> simp at hx ⊢ <;> omega
    · exact numR_range neg r acc a h0 h1 h
theorem numV_in (neg : Bool) (l : List UInt8) : intIn (numV neg l) := by
  unfold numV intIn
  cases h : numR neg 0 l with
  | none => simp
  | some a =>
    obtain ⟨h1, h2⟩ := numR_range neg l 0 a (Int.le_refl 0) (by cases neg <;> simp) h
    cases neg <;> simp at h2 ⊢ <;> omega
end Go.Proofs.YtndknolblfdcdaaDoor
