/- value.guess: the only right value whose form a text can be. -/
import Derived.Test.YtndknolblfdcdaaDoorGuess
set_option linter.unusedSimpArgs false
set_option linter.unusedVariables false
namespace Go.Proofs.YtndknolblfdcdaaDoor
open Go.RowKit

def intIn (n : Int) : Prop := -9223372036854775808 ≤ n ∧ n ≤ 9223372036854775807
def GuessOk (s : List UInt8) (k n : Int) (t : List UInt8) : Prop := ∀ k' n' t', intIn n' → rightB k' n' t' = true → printL k' n' t' = s → k = k' ∧ n = n' ∧ t = t'
def GuessPost (s : List UInt8) (w : World) (e : Ending) (w' : World) : Prop :=
  ∃ (k n : Int) (t : List UInt8), e = .returned (.agg #[.int .i64 k, .int .i64 n, .string ⟨t.toArray⟩]) ∧ intIn n ∧ t.length ≤ s.length ∧ GuessOk s k n t ∧ Bel w w'

def Form (s : List UInt8) (k n : Int) (t : List UInt8) : Prop :=
  (k = 1 ∧ n = 0 ∧ t = [] ∧ s = [110, 111]) ∨ (k = 1 ∧ n = 1 ∧ t = [] ∧ s = [121, 101, 115]) ∨ (k = 2 ∧ t = [] ∧ s = Lib.itoa n ++ [115]) ∨ (k = 3 ∧ t = [] ∧ s = Lib.itoa n ++ [105]) ∨
  (k = 4 ∧ t = [] ∧ s = Lib.itoa n) ∨ (k = 5 ∧ n = 0 ∧ s = 39 :: (escL 39 t ++ [39]) ∧ t.length ≤ 1000) ∨ (k = 6 ∧ n = 0 ∧ s = 34 :: (escL 34 t ++ [34]) ∧ t.length ≤ 1000)
theorem form_of {s : List UInt8} {k n : Int} {t : List UInt8} (h : rightB k n t = true) (hp : printL k n t = s) : Form s k n t := by
  subst hp
  unfold Form printL
  rw [if_pos h]
  rcases rightB_kind h with rfl | rfl | rfl | rfl | rfl | rfl
  · simp [rightB] at h
    obtain ⟨h1, h2⟩ := h
    rcases h1 with rfl | rfl
    · left; simp [h2]
    · right; left; simp [h2]
  · simp [rightB] at h
    right; right; left; simp [h.2]
  · simp [rightB] at h
    right; right; right; left; simp [h.2]
  · simp [rightB] at h
    right; right; right; right; left; simp [h]
  · simp [rightB] at h
    right; right; right; right; right; left
    refine ⟨rfl, h.1, ?_, by omega⟩
    simp [quoteL]
  · simp [rightB] at h
    right; right; right; right; right; right
    refine ⟨rfl, h.1, ?_, by omega⟩
    simp [quoteL]
theorem form_len {s : List UInt8} {k n : Int} {t : List UInt8} (hn : intIn n) (h : Form s k n t) : 1 ≤ s.length ∧ s.length ≤ 4002 := by
  have hi := itoa_len n hn.1 hn.2
  obtain ⟨c, r, hc, _⟩ := itoa_head n
  have hi0 : 1 ≤ (Lib.itoa n).length := by rw [hc]; simp
  rcases h with ⟨_, _, _, rfl⟩ | ⟨_, _, _, rfl⟩ | ⟨_, _, rfl⟩ | ⟨_, _, rfl⟩ | ⟨_, _, rfl⟩ | ⟨_, _, rfl, h⟩ | ⟨_, _, rfl, h⟩
  · simp
  · simp
  · simp; omega
  · simp; omega
  · omega
  · have := escL_len 39 t; simp; omega
  · have := escL_len 34 t; simp; omega
theorem guess_none {s : List UInt8} (h : s.length = 0 ∨ 4002 < s.length) (k n : Int) (t : List UInt8) : GuessOk s k n t := by
  intro k' n' t' hn hr hp
  have := form_len hn (form_of hr hp)
  omega
theorem snoc_inj {a b : List UInt8} {c d : UInt8} (h : a ++ [c] = b ++ [d]) : a = b ∧ c = d := by
  have := List.append_inj' h rfl
  simpa using this
theorem itoa_no_bool {n : Int} {r : List UInt8} {c : UInt8} (h : Lib.itoa n = c :: r) : c.toNat ≠ 110 ∧ c.toNat ≠ 121 := by
  obtain ⟨c', r', hc, hh⟩ := itoa_head n
  rw [hc] at h
  injection h with h1 h2
  subst h1
  omega
theorem guess_no : GuessOk [110, 111] 1 0 [] := by
  intro k n t hn hr hp
  rcases form_of hr hp with ⟨rfl, rfl, rfl, _⟩ | ⟨_, _, _, h⟩ | ⟨_, _, h⟩ | ⟨_, _, h⟩ | ⟨_, _, h⟩ | ⟨_, _, h, _⟩ | ⟨_, _, h, _⟩
  · exact ⟨rfl, rfl, rfl⟩
  · simp at h
  · have := (snoc_inj (a := [110]) (c := 111) h).2; simp at this
  · have := (snoc_inj (a := [110]) (c := 111) h).2; simp at this
  · exact absurd rfl (itoa_no_bool h.symm).1
  · simp at h
  · simp at h
theorem guess_yes : GuessOk [121, 101, 115] 1 1 [] := by
  intro k n t hn hr hp
  rcases form_of hr hp with ⟨_, _, _, h⟩ | ⟨rfl, rfl, rfl, _⟩ | ⟨_, _, h⟩ | ⟨_, _, h⟩ | ⟨_, _, h⟩ | ⟨_, _, h, _⟩ | ⟨_, _, h, _⟩
  · simp at h
  · exact ⟨rfl, rfl, rfl⟩
  · have := (snoc_inj (a := [121, 101]) (c := 115) h).1; exact absurd rfl (itoa_no_bool this.symm).2
  · have := (snoc_inj (a := [121, 101]) (c := 115) h).2; simp at this
  · exact absurd rfl (itoa_no_bool h.symm).2
  · simp at h
  · simp at h
/-- A form that is no bool's, by its last byte. -/
theorem form_last {b : List UInt8} {c : UInt8} {k n : Int} {t : List UInt8} (h1 : b ++ [c] ≠ [110, 111]) (h2 : b ++ [c] ≠ [121, 101, 115]) (h : Form (b ++ [c]) k n t) :
    (c.toNat = 115 ∧ k = 2 ∧ t = [] ∧ b = Lib.itoa n) ∨ (c.toNat = 105 ∧ k = 3 ∧ t = [] ∧ b = Lib.itoa n) ∨ ((48 ≤ c.toNat ∧ c.toNat ≤ 57) ∧ k = 4 ∧ t = [] ∧ b ++ [c] = Lib.itoa n) ∨
    (c.toNat = 39 ∧ k = 5 ∧ n = 0 ∧ b = 39 :: escL 39 t) ∨ (c.toNat = 34 ∧ k = 6 ∧ n = 0 ∧ b = 34 :: escL 34 t) := by
  rcases h with ⟨_, _, _, h⟩ | ⟨_, _, _, h⟩ | ⟨hk, ht, h⟩ | ⟨hk, ht, h⟩ | ⟨hk, ht, h⟩ | ⟨hk, hn, h, _⟩ | ⟨hk, hn, h, _⟩
  · exact absurd h h1
  · exact absurd h h2
  · obtain ⟨h3, h4⟩ := snoc_inj h
    left; exact ⟨by rw [h4]; rfl, hk, ht, h3⟩
  · obtain ⟨h3, h4⟩ := snoc_inj h
    right; left; exact ⟨by rw [h4]; rfl, hk, ht, h3⟩
  · obtain ⟨r, d, hd, h48, h57⟩ := itoa_last n
    rw [hd] at h
    obtain ⟨h3, h4⟩ := snoc_inj h
    right; right; left; exact ⟨by rw [h4]; exact ⟨h48, h57⟩, hk, ht, by rw [h, hd]⟩
  · obtain ⟨h3, h4⟩ := snoc_inj (b := 39 :: escL 39 t) (by simpa using h)
    right; right; right; left; exact ⟨by rw [h4]; rfl, hk, hn, h3⟩
  · obtain ⟨h3, h4⟩ := snoc_inj (b := 34 :: escL 34 t) (by simpa using h)
    right; right; right; right; exact ⟨by rw [h4]; rfl, hk, hn, h3⟩
theorem guess_num {b : List UInt8} {c : UInt8} {K k n : Int} (h1 : b ++ [c] ≠ [110, 111]) (h2 : b ++ [c] ≠ [121, 101, 115]) (hc : (c.toNat = 115 ∧ K = 2) ∨ (c.toNat = 105 ∧ K = 3))
    (hn : ∀ v, Lib.atoiAll b = .ok v → k = K ∧ n = v) : GuessOk (b ++ [c]) k n [] := by
  intro k' n' t' hi hr hp
  rcases form_last h1 h2 (form_of hr hp) with ⟨hl, hk, ht, hb⟩ | ⟨hl, hk, ht, hb⟩ | ⟨hl, hk, ht, hb⟩ | ⟨hl, hk, ht, hb⟩ | ⟨hl, hk, ht, hb⟩
  · obtain ⟨h3, h4⟩ := hn n' (by rw [hb]; exact atoi_itoa n' hi.1 hi.2)
    exact ⟨by omega, h4, ht.symm⟩
  · obtain ⟨h3, h4⟩ := hn n' (by rw [hb]; exact atoi_itoa n' hi.1 hi.2)
    exact ⟨by omega, h4, ht.symm⟩
  all_goals omega
theorem guess_int {b : List UInt8} {c : UInt8} {k n : Int} (h1 : b ++ [c] ≠ [110, 111]) (h2 : b ++ [c] ≠ [121, 101, 115]) (hc : c.toNat ≠ 115 ∧ c.toNat ≠ 105 ∧ c.toNat ≠ 39 ∧ c.toNat ≠ 34)
    (hn : ∀ v, Lib.atoiAll (b ++ [c]) = .ok v → k = 4 ∧ n = v) : GuessOk (b ++ [c]) k n [] := by
  intro k' n' t' hi hr hp
  rcases form_last h1 h2 (form_of hr hp) with ⟨hl, hk, ht, hb⟩ | ⟨hl, hk, ht, hb⟩ | ⟨hl, hk, ht, hb⟩ | ⟨hl, hk, ht, hb⟩ | ⟨hl, hk, ht, hb⟩
  · omega
  · omega
  · obtain ⟨h3, h4⟩ := hn n' (by rw [hb]; exact atoi_itoa n' hi.1 hi.2)
    exact ⟨by omega, h4, ht.symm⟩
  · omega
  · omega
theorem guess_text {b : List UInt8} {c : UInt8} {K k : Int} {t : List UInt8} (h1 : b ++ [c] ≠ [110, 111]) (h2 : b ++ [c] ≠ [121, 101, 115]) (hc : (c.toNat = 39 ∧ K = 5) ∨ (c.toNat = 34 ∧ K = 6))
    (hn : ∀ d r, b = d :: r → k = K ∧ ∀ m L, mk m → r = escL m L → t = L) : GuessOk (b ++ [c]) k 0 t := by
  intro k' n' t' hi hr hp
  rcases form_last h1 h2 (form_of hr hp) with ⟨hl, hk, ht, hb⟩ | ⟨hl, hk, ht, hb⟩ | ⟨hl, hk, ht, hb⟩ | ⟨hl, hk, hn0, hb⟩ | ⟨hl, hk, hn0, hb⟩
  · omega
  · omega
  · omega
  · obtain ⟨h3, h4⟩ := hn _ _ hb
    exact ⟨by omega, hn0.symm, h4 39 t' (Or.inl rfl) rfl⟩
  · obtain ⟨h3, h4⟩ := hn _ _ hb
    exact ⟨by omega, hn0.symm, h4 34 t' (Or.inr rfl) rfl⟩
end Go.Proofs.YtndknolblfdcdaaDoor
