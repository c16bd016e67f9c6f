/- JDig, laid together. -/
import Derived.Test.YtfbiinnenlgkfaaGreatDoorR3
import Derived.Test.YtfbiinnenlgkfaaGreatDoorR7
import Derived.Lib.ItoaMem
import Derived.Lib.ItoaLen
import Derived.Lib.AtoiAll
import Derived.Lib.AtoiAllCases
set_option linter.unusedSimpArgs false
set_option linter.unusedVariables false
namespace Go.Proofs.YtfbiinnenlgkfaaGreatDoor

theorem parse_snoc : ∀ (l : List UInt8) (acc a : Nat) (c : UInt8), Lib.parseUint10 acc l = .ok a → 48 ≤ c.toNat → c.toNat ≤ 57 → a ≤ 1844674407370955161 → a * 10 + (c.toNat - 48) < 18446744073709551616 →
  Lib.parseUint10 acc (l ++ [c]) = .ok (a * 10 + (c.toNat - 48))
 | [], acc, a, c, h, h1, h2, h3, h4 => by
  simp only [Lib.parseUint10] at h
  injection h with h
  subst h
  simp only [List.nil_append, Lib.parseUint10]
  rw [if_pos ⟨h1, h2⟩, if_neg (by omega), if_neg (by omega)]
 | d :: r, acc, a, c, h, h1, h2, h3, h4 => by
  simp only [List.cons_append, Lib.parseUint10] at h ⊢
  split at h
  ·rename_i hd
   rw [if_pos hd]
   split at h
   ·cases h
   ·rename_i hx
    rw [if_neg hx]
    split at h
    ·cases h
    ·rename_i hy
     rw [if_neg hy]
     exact parse_snoc r _ a c h h1 h2 h3 h4
  ·cases h
theorem digit_byte (d : Nat) (h : d < 10) : (UInt8.ofNat (48 + d)).toNat = 48 + d := by simp [UInt8.toNat_ofNat]; omega
theorem parse_digits (u : Nat) : u < 18446744073709551616 → Lib.parseUint10 0 (Lib.decDigits u) = .ok u := by
 induction u using Nat.strongRecOn with
 | ind u ih =>
  intro hu
  by_cases h : u < 10
  ·rw [digits_one u h]
   have := digit_byte u h
   simp only [Lib.parseUint10]
   rw [if_pos (by omega), if_neg (by omega), if_neg (by omega)]
   congr 1
   omega
  ·rw [digits_more u h]
   have hb := digit_byte (u % 10) (by omega)
   have := parse_snoc (Lib.decDigits (u / 10)) 0 (u / 10) (UInt8.ofNat (48 + u % 10)) (ih (u / 10) (by omega) (by omega)) (by omega) (by omega) (by omega) (by omega)
   rw [this]
   congr 1
   omega
theorem digits_head (u : Nat) : ∃ c r, Lib.decDigits u = c :: r ∧ 48 ≤ c.toNat ∧ c.toNat ≤ 57 := by
 induction u using Nat.strongRecOn with
 | ind u ih =>
  by_cases h : u < 10
  ·have := digit_byte u h
   exact ⟨_, [], digits_one u h, by omega, by omega⟩
  ·obtain ⟨c, r, h1, h2, h3⟩ := ih (u / 10) (by omega)
   exact ⟨c, r ++ [UInt8.ofNat (48 + u % 10)], by rw [digits_more u h, h1]; rfl, h2, h3⟩
theorem atoi_itoa (n : Int) (h0 : -9223372036854775808 ≤ n) (h1 : n ≤ 9223372036854775807) : Lib.atoiAll (Lib.itoa n) = .ok n := by
 unfold Lib.itoa
 by_cases hn : n < 0
 ·rw [if_pos hn]
  obtain ⟨c, r, hd, _, _⟩ := digits_head n.natAbs
  have hp := parse_digits n.natAbs (by omega)
  have hne : Lib.decDigits n.natAbs ≠ [] := by rw [hd]; simp
  have e45 : (45 : UInt8).toNat = 45 := rfl
  simp only [Lib.atoiAll, e45, or_true, if_true, Lib.parseMag, if_neg hne, hp]
  rw [if_neg (by simp), if_neg (by omega)]
  congr 1
  omega
 ·rw [if_neg hn]
  obtain ⟨c, r, hd, h48, h57⟩ := digits_head n.toNat
  have hp := parse_digits n.toNat (by omega)
  rw [hd] at hp ⊢
  have hc : ¬ (c.toNat = 43 ∨ c.toNat = 45) := by omega
  have hc5 : ¬ c.toNat = 45 := by omega
  simp only [Lib.atoiAll, if_neg hc, Lib.parseMag, hp]
  have hx : ¬ 9223372036854775808 ≤ n.toNat := by omega
  simp [hc5, hx]
  omega
def dvalN (l : List UInt8) : Nat := l.foldl (fun a c => 10 * a + (c.toNat - 48)) 0
theorem dval_snoc (l : List UInt8) (c : UInt8) : dvalN (l ++ [c]) = 10 * dvalN l + (c.toNat - 48) := by simp [dvalN]
theorem dval_digits (u : Nat) : dvalN (Lib.decDigits u) = u := by
 induction u using Nat.strongRecOn with
 | ind u ih =>
  by_cases h : u < 10
  ·rw [digits_one u h]
   have := digit_byte u h
   show 10 * 0 + ((UInt8.ofNat (48 + u)).toNat - 48) = u
   omega
  ·rw [digits_more u h, dval_snoc, ih (u / 10) (by omega)]
   have := digit_byte (u % 10) (by omega)
   omega
theorem digits_all (u : Nat) : ∀ c ∈ Lib.decDigits u, 48 ≤ c.toNat ∧ c.toNat ≤ 57 := by
 induction u using Nat.strongRecOn with
 | ind u ih =>
  intro c hc
  by_cases h : u < 10
  ·rw [digits_one u h] at hc
   have := digit_byte u h
   rw [List.mem_singleton] at hc; subst hc; omega
  ·rw [digits_more u h] at hc
   rcases List.mem_append.1 hc with hc | hc
   ·exact ih (u / 10) (by omega) c hc
   ·have := digit_byte (u % 10) (by omega)
    rw [List.mem_singleton] at hc; subst hc; omega
end Go.Proofs.YtfbiinnenlgkfaaGreatDoor
