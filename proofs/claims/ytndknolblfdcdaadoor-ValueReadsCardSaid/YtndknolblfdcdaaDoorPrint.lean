/- The contracts of value.Print and moultref1.Print. -/
import Derived.Test.YtndknolblfdcdaaDoorVal1
import Derived.Test.YtndknolblfdcdaaDoorQuo
import Derived.Test.YtndknolblfdcdaaDoorDig
import Derived.Test.YtndknolblfdcdaaDoorNum
set_option linter.unusedSimpArgs false
set_option linter.unusedVariables false
namespace Go.Proofs.YtndknolblfdcdaaDoor
open Go.RowKit

def printL (k n : Int) (s : List UInt8) : List UInt8 :=
  if rightB k n s = true then
    (if k = 1 then (if n = 0 then [110, 111] else [121, 101, 115]) else if k = 2 then Lib.itoa n ++ [115] else if k = 3 then Lib.itoa n ++ [105] else if k = 4 then Lib.itoa n else if k = 5 then quoteL 39 s else quoteL 34 s)
  else []

theorem rightB_kind {k n : Int} {s : List UInt8} (h : rightB k n s = true) : k = 1 ∨ k = 2 ∨ k = 3 ∨ k = 4 ∨ k = 5 ∨ k = 6 := by
  by_cases h1 : k = 1; · exact Or.inl h1
  by_cases h2 : k = 2; · exact Or.inr (Or.inl h2)
  by_cases h3 : k = 3; · exact Or.inr (Or.inr (Or.inl h3))
  by_cases h4 : k = 4; · exact Or.inr (Or.inr (Or.inr (Or.inl h4)))
  by_cases h5 : k = 5; · exact Or.inr (Or.inr (Or.inr (Or.inr (Or.inl h5))))
  by_cases h6 : k = 6; · exact Or.inr (Or.inr (Or.inr (Or.inr (Or.inr h6))))
  simp [rightB, h1, h2, h3, h4, h5, h6] at h
theorem itoa_len (n : Int) (h0 : -9223372036854775808 ≤ n) (h1 : n ≤ 9223372036854775807) : (Lib.itoa n).length ≤ 21 := by
  have hl := decDigits_len 19 n.natAbs (by have : (10:Nat) ^ (19 + 1) = 100000000000000000000 := by decide
                                           omega)
  have hl' := decDigits_len 19 n.toNat (by have : (10:Nat) ^ (19 + 1) = 100000000000000000000 := by decide
                                           omega)
  unfold Lib.itoa; split <;> simp <;> omega
theorem text_short {s : ByteArray} {n : Int} (h : rightB 5 n s.data.toList = true ∨ rightB 6 n s.data.toList = true) : s.size ≤ 1000 := by
  have hz : s.data.toList.length = s.size := rfl
  rcases h with h | h <;> simp [rightB] at h <;> omega

set_option maxHeartbeats 1000000 in
theorem print_any (k n : Int) (s : ByteArray) (w : World) (hs : s.size ≤ maxLen) (h0 : -9223372036854775808 ≤ n) (h1 : n ≤ 9223372036854775807) (hstd : Std w) :
    Calls Tryd.prog 16 #[.agg #[.int .i64 k, .int .i64 n, .string s]] w fun e w' => e = .returned (.string ⟨(printL k n s.data.toList).toArray⟩) ∧ Bel w w' := by
  have hil := itoa_len n h0 h1
  have HS := Lib.hid hstd; clear hstd
  cases hr : rightB k n s.data.toList
  · have HP := Lib.hid (show printL k n s.data.toList = [] by simp [printL, hr])
    have HR := Lib.hid hr; clear hr
    go_enter Tryd.func16, Tryd.ntmps16
    go_wp2_with (go_at_call 12; refine (right_any k n s _ hs).mono ?_; rintro e w1 ⟨rfl, hb⟩; rw [HR.out]; have HB := Lib.hid hb; clear hb)
    go_ret
    exact ⟨ret_string (by rw [HP.out]), ((Bel.refl w).alloc _).trans HB.out⟩
  · have HR := Lib.hid hr
    rcases rightB_kind hr with rfl | rfl | rfl | rfl | rfl | rfl
    · by_cases hn : n = 0
      · subst hn
        have HP := Lib.hid (show printL 1 0 s.data.toList = [110, 111] by simp [printL, hr])
        clear hr
        go_enter Tryd.func16, Tryd.ntmps16
        go_wp2_with (go_at_call 12; refine (right_any _ _ s _ hs).mono ?_; rintro e w1 ⟨rfl, hb⟩; rw [HR.out]; obtain ⟨hc, hf⟩ := bcell hb; have HB := Lib.hid hb; clear hb)
        go_ret
        exact ⟨ret_string (by rw [HP.out]), ((Bel.refl w).alloc _).trans HB.out⟩
      · have HP := Lib.hid (show printL 1 n s.data.toList = [121, 101, 115] by simp [printL, hr, hn])
        have hn' : (n == 0) = false := by simp [hn]
        clear hr hn
        go_enter Tryd.func16, Tryd.ntmps16
        go_wp2_with (go_at_call 12; refine (right_any _ _ s _ hs).mono ?_; rintro e w1 ⟨rfl, hb⟩; rw [HR.out]; obtain ⟨hc, hf⟩ := bcell hb; have HB := Lib.hid hb; clear hb)
        go_ret
        exact ⟨ret_string (by rw [HP.out]), ((Bel.refl w).alloc _).trans HB.out⟩
    · have HP := Lib.hid (show printL 2 n s.data.toList = Lib.itoa n ++ [115] by simp [printL, hr])
      clear hr
      go_enter Tryd.func16, Tryd.ntmps16
      go_wp2_with (first
        | (go_at_call 12; refine (right_any _ _ s _ hs).mono ?_; rintro e w1 ⟨rfl, hb⟩; rw [HR.out]; obtain ⟨hc, hf⟩ := bcell hb; have HB := Lib.hid hb; clear hb)
        | (go_at_call 24; refine (itoa_any n h0 h1 _ ((HS.out.alloc _).bel HB.out)).mono ?_; rintro e w2 ⟨rfl, hb2⟩; have HB2 := Lib.hid hb2; clear hb2))
      go_ret
      exact ⟨ret_string (by rw [HP.out]; exact ByteArray.mk_append_mk _ [115]), (((Bel.refl w).alloc _).trans HB.out).trans HB2.out⟩
    · have HP := Lib.hid (show printL 3 n s.data.toList = Lib.itoa n ++ [105] by simp [printL, hr])
      clear hr
      go_enter Tryd.func16, Tryd.ntmps16
      go_wp2_with (first
        | (go_at_call 12; refine (right_any _ _ s _ hs).mono ?_; rintro e w1 ⟨rfl, hb⟩; rw [HR.out]; obtain ⟨hc, hf⟩ := bcell hb; have HB := Lib.hid hb; clear hb)
        | (go_at_call 24; refine (itoa_any n h0 h1 _ ((HS.out.alloc _).bel HB.out)).mono ?_; rintro e w2 ⟨rfl, hb2⟩; have HB2 := Lib.hid hb2; clear hb2))
      go_ret
      exact ⟨ret_string (by rw [HP.out]; exact ByteArray.mk_append_mk _ [105]), (((Bel.refl w).alloc _).trans HB.out).trans HB2.out⟩
    · have HP := Lib.hid (show printL 4 n s.data.toList = Lib.itoa n by simp [printL, hr])
      clear hr
      go_enter Tryd.func16, Tryd.ntmps16
      go_wp2_with (first
        | (go_at_call 12; refine (right_any _ _ s _ hs).mono ?_; rintro e w1 ⟨rfl, hb⟩; rw [HR.out]; obtain ⟨hc, hf⟩ := bcell hb; have HB := Lib.hid hb; clear hb)
        | (go_at_call 24; refine (itoa_any n h0 h1 _ ((HS.out.alloc _).bel HB.out)).mono ?_; rintro e w2 ⟨rfl, hb2⟩; have HB2 := Lib.hid hb2; clear hb2))
      go_ret
      exact ⟨ret_string (by rw [HP.out]), (((Bel.refl w).alloc _).trans HB.out).trans HB2.out⟩
    · have hsz := text_short (Or.inl hr)
      have HP := Lib.hid (show printL 5 n s.data.toList = quoteL 39 s.data.toList by simp [printL, hr])
      clear hr
      go_enter Tryd.func16, Tryd.ntmps16
      go_wp2_with (first
        | (go_at_call 12; refine (right_any _ _ s _ hs).mono ?_; rintro e w1 ⟨rfl, hb⟩; rw [HR.out]; obtain ⟨hc, hf⟩ := bcell hb; have HB := Lib.hid hb; clear hb)
        | (go_at_call 25; refine (quote_any s 39 _ rfl _ (by omega)).mono ?_; rintro e w2 ⟨rfl, hb2⟩; have HB2 := Lib.hid hb2; clear hb2))
      go_ret
      exact ⟨ret_string (by rw [HP.out]), (((Bel.refl w).alloc _).trans HB.out).trans HB2.out⟩
    · have hsz := text_short (Or.inr hr)
      have HP := Lib.hid (show printL 6 n s.data.toList = quoteL 34 s.data.toList by simp [printL, hr])
      clear hr
      go_enter Tryd.func16, Tryd.ntmps16
      go_wp2_with (first
        | (go_at_call 12; refine (right_any _ _ s _ hs).mono ?_; rintro e w1 ⟨rfl, hb⟩; rw [HR.out]; obtain ⟨hc, hf⟩ := bcell hb; have HB := Lib.hid hb; clear hb)
        | (go_at_call 25; refine (quote_any s 34 _ rfl _ (by omega)).mono ?_; rintro e w2 ⟨rfl, hb2⟩; have HB2 := Lib.hid hb2; clear hb2))
      go_ret
      exact ⟨ret_string (by rw [HP.out]), (((Bel.refl w).alloc _).trans HB.out).trans HB2.out⟩
end Go.Proofs.YtndknolblfdcdaaDoor
