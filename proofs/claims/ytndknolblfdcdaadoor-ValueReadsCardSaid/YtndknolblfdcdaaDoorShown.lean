/- The chapter's examples (shown): all hold. -/
import Derived.Test.YtndknolblfdcdaaDoorRead
import Derived.Test.YtndknolblfdcdaaDoorCmp
set_option linter.unusedSimpArgs false
set_option linter.unusedVariables false
namespace Go.Proofs.YtndknolblfdcdaaDoor
open Go.RowKit

theorem print_at (k n : Int) (s : ByteArray) (l : List UInt8) (hl : printL k n s.data.toList = l) (w : World) (hs : s.size ≤ 100) (h0 : -9223372036854775808 ≤ n) (h1 : n ≤ 9223372036854775807) (hstd : Std w) :
    Calls Tryd.prog 16 #[.agg #[.int .i64 k, .int .i64 n, .string s]] w fun e w' => e = .returned (.string ⟨l.toArray⟩) ∧ Bel w w' := by
  subst hl
  exact print_any k n s w (by unfold maxLen; omega) h0 h1 hstd

theorem ex1 : printL 1 1 [] = [121, 101, 115] := by decide
theorem itoa_m5 : Lib.itoa (-5) = [45, 53] := by simp [Lib.itoa, digits_one]
theorem itoa_7 : Lib.itoa 7 = [55] := by simp [Lib.itoa, digits_one]
theorem ex2 : printL 2 (-5) [] = [45, 53, 115] := by simp [printL, rightB, itoa_m5]
theorem ex3 : printL 4 7 [] = [55] := by simp [printL, rightB, itoa_7]
theorem ex4 : printL 5 0 [97, 39, 98] = [39, 97, 92, 39, 98, 39] := by decide
theorem ex5 : printL 6 0 [10] = [34, 92, 120, 48, 97, 34] := by decide
/-- No right value is printed as this text. -/
theorem itoa_70000 {n : Int} (hn : intIn n) (h : Lib.itoa n = [55, 48, 48, 48, 48]) : n = 70000 := by
  have h1 := atoi_itoa n hn.1 hn.2
  rw [h] at h1
  have h2 : Lib.atoiAll [55, 48, 48, 48, 48] = .ok 70000 := by decide
  rw [h2] at h1
  injection h1 with h1
  exact h1.symm
theorem ex6 (k n : Int) (t : List UInt8) (hn : intIn n) (hr : rightB k n t = true) : printL k n t ≠ [55, 48, 48, 48, 48, 115] := by
  intro hp
  rcases form_last (b := [55, 48, 48, 48, 48]) (c := 115) (by decide) (by decide) (form_of hr hp) with ⟨_, rfl, rfl, h⟩ | ⟨h, _⟩ | ⟨h, _⟩ | ⟨h, _⟩ | ⟨h, _⟩
  · have := itoa_70000 hn h.symm
    subst this
    simp [rightB] at hr
  all_goals exact absurd h (by decide)
theorem ex7 (k n : Int) (t : List UInt8) (hn : intIn n) (hr : rightB k n t = true) : printL k n t ≠ [45, 48] := by
  intro hp
  rcases form_last (b := [45]) (c := 48) (by decide) (by decide) (form_of hr hp) with ⟨h, _⟩ | ⟨h, _⟩ | ⟨_, _, _, h⟩ | ⟨h, _⟩ | ⟨h, _⟩
  · exact absurd h (by decide)
  · exact absurd h (by decide)
  · have h1 := atoi_itoa n hn.1 hn.2
    rw [← h] at h1
    have h2 : Lib.atoiAll ([45] ++ [48]) = .ok 0 := by decide
    rw [h2] at h1
    injection h1 with h1
    subst h1
    simp [Lib.itoa, digits_one] at h
  · exact absurd h (by decide)
  · exact absurd h (by decide)
theorem escL_cons (m c : UInt8) (r : List UInt8) : escL m (c :: r) = esc m c ++ escL m r := by simp [escL]
theorem hex2_self (c : UInt8) : Hex2 (hexd (c.toNat / 16)) (hexd (c.toNat % 16)) (c.toNat : Int) := by
  have h256 := c.toNat_lt
  exact Or.inl ⟨c.toNat / 16, c.toNat % 16, dig_hexd _ (by omega), dig_hexd _ (by omega), by omega, by omega, by omega⟩
theorem escL_inj {m : UInt8} (hm : mk m) : ∀ (t t' : List UInt8), escL m t = escL m t' → t = t'
  | [], [], _ => rfl
  | [], c' :: r', h => by
    rw [escL_cons] at h
    rcases esc_cases m c' hm with ⟨e, _⟩ | ⟨e, _⟩ | e <;> rw [e] at h <;> simp [escL] at h
  | c :: r, [], h => by
    rw [escL_cons] at h
    rcases esc_cases m c hm with ⟨e, _⟩ | ⟨e, _⟩ | e <;> rw [e] at h <;> simp [escL] at h
  | c :: r, c' :: r', h => by
    rw [escL_cons, escL_cons] at h
    rcases esc_cases m c hm with ⟨e, h92⟩ | ⟨e, h120⟩ | e
    · rw [e] at h
      obtain ⟨h1, h2⟩ := plain_core hm h (Or.inl h92)
      rw [h1, escL_inj hm r r' h2]
    · rw [e] at h
      obtain ⟨h1, h2⟩ := pair_core hm h (Or.inl h120)
      rw [h1, escL_inj hm r r' h2]
    · rw [e] at h
      obtain ⟨h1, h2⟩ := hex_core hm h (hex2_self c)
      rw [escL_inj hm r r' h2, ← h1]
      simp
theorem itoa_inj {n n' : Int} (hn : intIn n) (hn' : intIn n') (h : Lib.itoa n = Lib.itoa n') : n = n' := by
  have h1 := atoi_itoa n hn.1 hn.2
  have h2 := atoi_itoa n' hn'.1 hn'.2
  rw [h] at h1
  rw [h1] at h2
  injection h2
/-- Two forms that are one are of one value. -/
theorem print_inj {k n k' n' : Int} {t t' : List UInt8} (hn : intIn n) (hn' : intIn n') (hr : rightB k n t = true) (hr' : rightB k' n' t' = true) (h : printL k n t = printL k' n' t') : k = k' ∧ n = n' ∧ t = t' := by
  by_cases h1 : printL k n t = [110, 111]
  · obtain ⟨a, b, c⟩ := guess_no k n t hn hr h1
    obtain ⟨a', b', c'⟩ := guess_no k' n' t' hn' hr' (by rw [← h, h1])
    exact ⟨by omega, by omega, by rw [← c, ← c']⟩
  · by_cases h2 : printL k n t = [121, 101, 115]
    · obtain ⟨a, b, c⟩ := guess_yes k n t hn hr h2
      obtain ⟨a', b', c'⟩ := guess_yes k' n' t' hn' hr' (by rw [← h, h2])
      exact ⟨by omega, by omega, by rw [← c, ← c']⟩
    · have hl := (form_len hn (form_of hr rfl)).1
      obtain ⟨b, c, hs⟩ : ∃ b c, printL k n t = b ++ [c] := by
        rcases List.eq_nil_or_concat (printL k n t) with e | ⟨b, c, e⟩
        · rw [e] at hl; simp at hl
        · exact ⟨b, c, by simpa using e⟩
      have h1' : b ++ [c] ≠ [110, 111] := by rw [← hs]; exact h1
      have h2' : b ++ [c] ≠ [121, 101, 115] := by rw [← hs]; exact h2
      have f := form_last h1' h2' (form_of hr hs)
      have f' := form_last h1' h2' (form_of hr' (by rw [← h]; exact hs))
      rcases f with ⟨l, e1, e2, e3⟩ | ⟨l, e1, e2, e3⟩ | ⟨l, e1, e2, e3⟩ | ⟨l, e1, e2, e3⟩ | ⟨l, e1, e2, e3⟩ <;>
        rcases f' with ⟨l', d1, d2, d3⟩ | ⟨l', d1, d2, d3⟩ | ⟨l', d1, d2, d3⟩ | ⟨l', d1, d2, d3⟩ | ⟨l', d1, d2, d3⟩ <;> first
        | (exfalso; omega)
        | exact ⟨by omega, itoa_inj hn hn' (by rw [← e3, d3]), by rw [e2, d2]⟩
        | (rw [e3] at d3; injection d3 with _ d3; exact ⟨by omega, by omega, escL_inj (Or.inl rfl) _ _ d3⟩)
        | (rw [e3] at d3; injection d3 with _ d3; exact ⟨by omega, by omega, escL_inj (Or.inr rfl) _ _ d3⟩)
theorem ex8 {k n : Int} {t : List UInt8} {er : Int} (hn : intIn n) (h : ReadOk [39, 97, 39] k n t er) : er = 0 ∧ k = 5 ∧ n = 0 ∧ t = [97] := by
  have hp : printL 5 0 [97] = [39, 97, 39] := by decide
  have hr : rightB 5 0 [97] = true := by decide
  rcases h with ⟨he, h1, h2⟩ | ⟨_, _, _, _, h⟩
  · obtain ⟨h3, h4, h5⟩ := print_inj hn ⟨by omega, by omega⟩ h1 hr (by rw [h2, hp])
    exact ⟨he, h3, h4, h5⟩
  · exact absurd hp (h 5 0 [97] ⟨by omega, by omega⟩ hr)

set_option maxHeartbeats 1000000 in
theorem shown_any (w : World) (hstd : Std w) : Calls Tryd.prog 10 #[] w fun e w' => e = .returned (.bool true) ∧ Bel w w' := by
  have HS := Lib.hid hstd; clear hstd
  go_enter Tryd.func10, Tryd.ntmps10
  go_wp2_with (fail)
  refine (print_at 1 1 ⟨#[]⟩ _ ex1 _ (by decide) (by decide) (by decide) HS.out).mono ?_
  rintro e w1 ⟨rfl, hb1⟩
  have HB1 := Lib.hid (show Bel w w1 from hb1); clear hb1
  have HS1 := Lib.hid (HS.out.bel HB1.out)
  go_wp2_with (fail)
  refine (print_at 2 (-5) ⟨#[]⟩ _ ex2 _ (by decide) (by decide) (by decide) HS1.out).mono ?_
  rintro e w2 ⟨rfl, hb2⟩
  have HB2 := Lib.hid (HB1.out.trans hb2); clear hb2
  have HS2 := Lib.hid (HS.out.bel HB2.out)
  go_wp2_with (fail)
  refine (print_at 4 7 ⟨#[]⟩ _ ex3 _ (by decide) (by decide) (by decide) HS2.out).mono ?_
  rintro e w3 ⟨rfl, hb3⟩
  have HB3 := Lib.hid (HB2.out.trans hb3); clear hb3
  have HS3 := Lib.hid (HS.out.bel HB3.out)
  go_wp2_with (fail)
  refine (print_at 5 0 ⟨#[97, 39, 98]⟩ _ ex4 _ (by decide) (by decide) (by decide) HS3.out).mono ?_
  rintro e w4 ⟨rfl, hb4⟩
  have HB4 := Lib.hid (HB3.out.trans hb4); clear hb4
  have HS4 := Lib.hid (HS.out.bel HB4.out)
  go_wp2_with (fail)
  refine (print_at 6 0 ⟨#[10]⟩ _ ex5 _ (by decide) (by decide) (by decide) HS4.out).mono ?_
  rintro e w5 ⟨rfl, hb5⟩
  have HB5 := Lib.hid (HB4.out.trans hb5); clear hb5
  have HS5 := Lib.hid (HS.out.bel HB5.out)
  go_wp2_with (fail)
  refine (read_any ⟨#[55, 48, 48, 48, 48, 115]⟩ _ (by unfold maxLen; decide) HS5.out).mono ?_
  rintro e w6 ⟨k, n, t, er, rfl, hin, -, hok, hb6⟩
  obtain rfl : er = 8 := by
    rcases hok with ⟨_, h1, h2⟩ | ⟨h, _⟩
    · exact absurd h2 (ex6 k n t hin h1)
    · exact h
  have HB6 := Lib.hid (HB5.out.trans hb6); clear hb6 hok hin
  have HS6 := Lib.hid (HS.out.bel HB6.out)
  go_wp2_with (fail)
  refine (read_any ⟨#[45, 48]⟩ _ (by unfold maxLen; decide) (HS6.out.alloc _)).mono ?_
  rintro e w7 ⟨k2, n2, t2, er, rfl, hin, -, hok, hb7⟩
  obtain rfl : er = 8 := by
    rcases hok with ⟨_, h1, h2⟩ | ⟨h, _⟩
    · exact absurd h2 (ex7 k2 n2 t2 hin h1)
    · exact h
  have HB7 := Lib.hid ((HB6.out.alloc _).trans hb7); clear hb7 hok hin
  have HS7 := Lib.hid (HS.out.bel HB7.out)
  go_wp2_with (fail)
  refine (read_any ⟨#[39, 97, 39]⟩ _ (by unfold maxLen; decide) (HS7.out.alloc _)).mono ?_
  rintro e w8 ⟨k3, n3, t3, er, rfl, hin, -, hok, hb8⟩
  obtain ⟨rfl, rfl, rfl, rfl⟩ := ex8 hin hok
  have HB8 := Lib.hid ((HB7.out.alloc _).trans hb8); clear hb8 hok hin
  go_wp2_with (fail)
  refine (compare_any 2 5 ⟨#[]⟩ 3 1 ⟨#[]⟩ _).mono ?_
  rintro e w9 ⟨rfl, hb9⟩
  have HB9 := Lib.hid ((HB8.out.alloc _).trans hb9); clear hb9
  rw [show cmpV 2 5 (ByteArray.mk #[]).data.toList 3 1 (ByteArray.mk #[]).data.toList = -1 by decide]
  go_wp2
  go_ret
  exact ⟨rfl, HB9.out⟩
end Go.Proofs.YtndknolblfdcdaaDoor
