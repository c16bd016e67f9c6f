/- Plain mathematics of values' forms: what is printed is read back. No call is walked here. -/
import Derived.Test.YtndknolblfdcdaaDoorHex2
import Derived.Test.YtndknolblfdcdaaDoorPrint
set_option linter.unusedSimpArgs false
set_option linter.unusedVariables false
namespace Go.Proofs.YtndknolblfdcdaaDoor
open Go.RowKit

theorem parse_snoc : ∀ (l : List UInt8) (acc a : Nat) (c : UInt8), Lib.parseUint10 acc l = .ok a → 48 ≤ c.toNat → c.toNat ≤ 57 → a ≤ 1844674407370955161 → a * 10 + (c.toNat - 48) < 18446744073709551616 →
    Lib.parseUint10 acc (l ++ [c]) = .ok (a * 10 + (c.toNat - 48))
  | [], acc, a, c, h, h1, h2, h3, h4 => by
    simp only [Lib.parseUint10] at h
    injection h with h
    subst h
    simp only [List.nil_append, Lib.parseUint10]
    rw [if_pos ⟨h1, h2⟩, if_neg (by omega), if_neg (by omega)]
  | d :: r, acc, a, c, h, h1, h2, h3, h4 => by
    simp only [List.cons_append, Lib.parseUint10] at h ⊢
    split at h
    · rename_i hd
      rw [if_pos hd]
      split at h
      · cases h
      · rename_i hx
        rw [if_neg hx]
        split at h
        · cases h
        · rename_i hy
          rw [if_neg hy]
          exact parse_snoc r _ a c h h1 h2 h3 h4
    · cases h
theorem digit_byte (d : Nat) (h : d < 10) : (UInt8.ofNat (48 + d)).toNat = 48 + d := by simp [UInt8.toNat_ofNat]; omega
theorem parse_digits (u : Nat) : u < 18446744073709551616 → Lib.parseUint10 0 (Lib.decDigits u) = .ok u := by
  induction u using Nat.strongRecOn with
  | ind u ih =>
    intro hu
    by_cases h : u < 10
    · rw [digits_one u h]
      have := digit_byte u h
      simp only [Lib.parseUint10]
      rw [if_pos (by omega), if_neg (by omega), if_neg (by omega)]
      congr 1
      omega
    · rw [digits_more u h]
      have hb := digit_byte (u % 10) (by omega)
      have := parse_snoc (Lib.decDigits (u / 10)) 0 (u / 10) (UInt8.ofNat (48 + u % 10)) (ih (u / 10) (by omega) (by omega)) (by omega) (by omega) (by omega) (by omega)
      rw [this]
      congr 1
      omega
theorem digits_head (u : Nat) : ∃ c r, Lib.decDigits u = c :: r ∧ 48 ≤ c.toNat ∧ c.toNat ≤ 57 := by
  induction u using Nat.strongRecOn with
  | ind u ih =>
    by_cases h : u < 10
    · have := digit_byte u h
      exact ⟨_, [], digits_one u h, by omega, by omega⟩
    · obtain ⟨c, r, h1, h2, h3⟩ := ih (u / 10) (by omega)
      exact ⟨c, r ++ [UInt8.ofNat (48 + u % 10)], by rw [digits_more u h, h1]; rfl, h2, h3⟩
theorem digits_last (u : Nat) : ∃ r c, Lib.decDigits u = r ++ [c] ∧ 48 ≤ c.toNat ∧ c.toNat ≤ 57 := by
  by_cases h : u < 10
  · have := digit_byte u h
    exact ⟨[], _, digits_one u h, by omega, by omega⟩
  · have := digit_byte (u % 10) (by omega)
    exact ⟨_, _, digits_more u h, by omega, by omega⟩
/-- An int's numeral is read as the int. -/
theorem atoi_itoa (n : Int) (h0 : -9223372036854775808 ≤ n) (h1 : n ≤ 9223372036854775807) : Lib.atoiAll (Lib.itoa n) = .ok n := by
  unfold Lib.itoa
  by_cases hn : n < 0
  · rw [if_pos hn]
    obtain ⟨c, r, hd, _, _⟩ := digits_head n.natAbs
    have hp := parse_digits n.natAbs (by omega)
    have hne : Lib.decDigits n.natAbs ≠ [] := by rw [hd]; simp
    have e45 : (45 : UInt8).toNat = 45 := rfl
    simp only [Lib.atoiAll, e45, or_true, if_true, Lib.parseMag, if_neg hne, hp]
    rw [if_neg (by simp), if_neg (by omega)]
    congr 1
    omega
  · rw [if_neg hn]
    obtain ⟨c, r, hd, h48, h57⟩ := digits_head n.toNat
    have hp := parse_digits n.toNat (by omega)
    rw [hd] at hp ⊢
    have hc : ¬ (c.toNat = 43 ∨ c.toNat = 45) := by omega
    have hc5 : ¬ c.toNat = 45 := by omega
    simp only [Lib.atoiAll, if_neg hc, Lib.parseMag, hp]
    have hx : ¬ 9223372036854775808 ≤ n.toNat := by omega
    simp [hc5, hx]
    omega
theorem itoa_head (n : Int) : ∃ c r, Lib.itoa n = c :: r ∧ (c.toNat = 45 ∨ 48 ≤ c.toNat ∧ c.toNat ≤ 57) := by
  unfold Lib.itoa
  by_cases hn : n < 0
  · rw [if_pos hn]; exact ⟨45, _, rfl, Or.inl rfl⟩
  · rw [if_neg hn]; obtain ⟨c, r, h, h1, h2⟩ := digits_head n.toNat; exact ⟨c, r, h, Or.inr ⟨h1, h2⟩⟩
theorem itoa_last (n : Int) : ∃ r c, Lib.itoa n = r ++ [c] ∧ 48 ≤ c.toNat ∧ c.toNat ≤ 57 := by
  unfold Lib.itoa
  by_cases hn : n < 0
  · rw [if_pos hn]; obtain ⟨r, c, h, h1, h2⟩ := digits_last n.natAbs; exact ⟨45 :: r, c, by rw [h]; rfl, h1, h2⟩
  · rw [if_neg hn]; obtain ⟨r, c, h, h1, h2⟩ := digits_last n.toNat; exact ⟨r, c, h, h1, h2⟩

/-- A quotation mark. -/
def mk (m : UInt8) : Prop := m = 39 ∨ m = 34
theorem esc_cases (m c : UInt8) (hm : mk m) : (esc m c = [c] ∧ c.toNat ≠ 92) ∨ (esc m c = [92, c] ∧ c.toNat ≠ 120) ∨ esc m c = [92, 120, hexd (c.toNat / 16), hexd (c.toNat % 16)] := by
  unfold esc
  by_cases h1 : c.toNat = m.toNat ∨ c.toNat = 92
  · rw [if_pos h1]
    right; left
    refine ⟨rfl, ?_⟩
    rcases hm with rfl | rfl <;> rcases h1 with h | h <;> rw [h] <;> decide
  · rw [if_neg h1]
    by_cases h2 : 32 ≤ c.toNat ∧ c.toNat ≤ 126
    · rw [if_pos h2]; left; exact ⟨rfl, by omega⟩
    · rw [if_neg h2]; right; right; rfl
theorem plain_core {m c c' : UInt8} {r E : List UInt8} (hm : mk m) (h : c :: r = esc m c' ++ E) (hc : c.toNat ≠ 92 ∨ r = []) : c = c' ∧ r = E := by
  rcases esc_cases m c' hm with ⟨e, _⟩ | ⟨e, _⟩ | e <;> rw [e] at h
  · simpa using h
  · simp at h
    rcases hc with hc | hc
    · rw [h.1] at hc; exact absurd rfl hc
    · rw [hc] at h; simp at h
  · simp at h
    rcases hc with hc | hc
    · rw [h.1] at hc; exact absurd rfl hc
    · rw [hc] at h; simp at h
theorem pair_core {m c2 c' : UInt8} {r E : List UInt8} (hm : mk m) (h : 92 :: c2 :: r = esc m c' ++ E) (hc : c2.toNat ≠ 120 ∨ r.length < 2) : c2 = c' ∧ r = E := by
  rcases esc_cases m c' hm with ⟨e, e2⟩ | ⟨e, _⟩ | e <;> rw [e] at h
  · simp at h
    rw [← h.1] at e2; exact absurd rfl e2
  · simpa using h
  · simp at h
    rcases hc with hc | hc
    · rw [h.1] at hc; exact absurd rfl hc
    · rw [h.2] at hc; simp at hc; omega
theorem hex_core {m x0 x1 c' : UInt8} {r E : List UInt8} {v : Int} (hm : mk m) (h : 92 :: 120 :: x0 :: x1 :: r = esc m c' ++ E) (hv : Hex2 x0 x1 v) : UInt8.ofNat v.toNat = c' ∧ r = E := by
  have h256 := c'.toNat_lt
  rcases esc_cases m c' hm with ⟨e, e2⟩ | ⟨e, e2⟩ | e <;> rw [e] at h
  · simp at h
    rw [← h.1] at e2; exact absurd rfl e2
  · simp at h
    rw [← h.1] at e2; exact absurd rfl e2
  · simp at h
    obtain ⟨rfl, rfl, rfl⟩ := h
    have d0 := dig_hexd (c'.toNat / 16) (by omega)
    have d1 := dig_hexd (c'.toNat % 16) (by omega)
    rcases hv with ⟨p, q, hp, hq, _, _, hv⟩ | ⟨_, hv⟩
    · rw [d0] at hp; rw [d1] at hq
      injection hp with hp; injection hq with hq
      refine ⟨?_, rfl⟩
      have : v.toNat = c'.toNat := by omega
      rw [this]; simp
    · rcases hv with hv | hv
      · rw [d0] at hv; cases hv
      · rw [d1] at hv; cases hv

/-- Of the k bytes that have been gone through l is what they mean, if they are a form's beginning. -/
def URel (s : List UInt8) (k : Nat) (l : List UInt8) : Prop := ∀ m L, mk m → s = escL m L → ∃ L2, L = l ++ L2 ∧ s.drop k = escL m L2
theorem URel.start (s : List UInt8) : URel s 0 [] := fun m L _ h => ⟨L, rfl, by simpa using h⟩
theorem URel.done {s l : List UInt8} {k : Nat} (h : URel s k l) (hk : s.length ≤ k) {m : UInt8} {L : List UInt8} (hm : mk m) (hs : s = escL m L) : l = L := by
  obtain ⟨L2, h1, h2⟩ := h m L hm hs
  rw [List.drop_of_length_le hk] at h2
  cases L2 with
  | nil => simpa using h1.symm
  | cons c r =>
    have : (escL m (c :: r)) = esc m c ++ escL m r := by simp [escL]
    rw [this] at h2
    rcases esc_cases m c hm with ⟨e, _⟩ | ⟨e, _⟩ | e <;> rw [e] at h2 <;> simp at h2
theorem URel.head {s l : List UInt8} {k : Nat} (h : URel s k l) {c : UInt8} {r : List UInt8} (hd : s.drop k = c :: r) {m : UInt8} {L : List UInt8} (hm : mk m) (hs : s = escL m L) :
    ∃ c' L', L = l ++ c' :: L' ∧ c :: r = esc m c' ++ escL m L' := by
  obtain ⟨L2, h1, h2⟩ := h m L hm hs
  cases L2 with
  | nil => rw [hd] at h2; simp [escL] at h2
  | cons c' L' => exact ⟨c', L', h1, by rw [← hd, h2]; simp [escL]⟩
theorem URel.plain {s l : List UInt8} {k : Nat} (h : URel s k l) {c : UInt8} {r : List UInt8} (hd : s.drop k = c :: r) (hc : c.toNat ≠ 92 ∨ r = []) (hr : s.drop (k + 1) = r) : URel s (k + 1) (l ++ [c]) := by
  intro m L hm hs
  obtain ⟨c', L', h1, h2⟩ := h.head hd hm hs
  obtain ⟨rfl, h3⟩ := plain_core hm h2 hc
  exact ⟨L', by rw [h1]; simp, by rw [hr, h3]⟩
theorem URel.pair {s l : List UInt8} {k : Nat} (h : URel s k l) {c2 : UInt8} {r : List UInt8} (hd : s.drop k = 92 :: c2 :: r) (hc : c2.toNat ≠ 120 ∨ r.length < 2) (hr : s.drop (k + 2) = r) : URel s (k + 2) (l ++ [c2]) := by
  intro m L hm hs
  obtain ⟨c', L', h1, h2⟩ := h.head hd hm hs
  obtain ⟨rfl, h3⟩ := pair_core hm h2 hc
  exact ⟨L', by rw [h1]; simp, by rw [hr, h3]⟩
theorem URel.hex {s l : List UInt8} {k : Nat} (h : URel s k l) {x0 x1 : UInt8} {r : List UInt8} {v : Int} (hd : s.drop k = 92 :: 120 :: x0 :: x1 :: r) (hv : Hex2 x0 x1 v) (hr : s.drop (k + 4) = r) : URel s (k + 4) (l ++ [UInt8.ofNat v.toNat]) := by
  intro m L hm hs
  obtain ⟨c', L', h1, h2⟩ := h.head hd hm hs
  obtain ⟨h4, h3⟩ := hex_core hm h2 hv
  exact ⟨L', by rw [h1, h4]; simp, by rw [hr, h3]⟩
end Go.Proofs.YtndknolblfdcdaaDoor
