/- The contract of moultref1.Print. -/
import Derived.Test.YtndknolblfdcdaaDoorPrint
set_option linter.unusedSimpArgs false
set_option linter.unusedVariables false
namespace Go.Proofs.YtndknolblfdcdaaDoor
open Go.RowKit

set_option maxHeartbeats 1000000 in
theorem ref_print_any (k n : Int) (s : ByteArray) (w : World) (hs : s.size ≤ maxLen) (h0 : -9223372036854775808 ≤ n) (h1 : n ≤ 9223372036854775807) :
    Calls Tryd.prog 17 #[.agg #[.int .i64 k, .int .i64 n, .string s]] w fun e w' => e = .returned (.string ⟨(printL k n s.data.toList).toArray⟩) ∧ Bel w w' := by
  have hil := itoa_len n h0 h1
  cases hr : rightB k n s.data.toList
  · have HP := Lib.hid (show printL k n s.data.toList = [] by simp [printL, hr])
    have HR := Lib.hid hr; clear hr
    go_enter Tryd.func17, Tryd.ntmps17
    go_wp2_with (go_at_call 13; refine (ref_right_any k n s _ hs).mono ?_; rintro e w1 ⟨rfl, hb⟩; rw [HR.out]; have HB := Lib.hid hb; clear hb)
    go_ret
    exact ⟨ret_string (by rw [HP.out]), ((Bel.refl w).alloc _).trans HB.out⟩
  · have HR := Lib.hid hr
    rcases rightB_kind hr with rfl | rfl | rfl | rfl | rfl | rfl
    · have hn : n = 0 ∨ n = 1 := by simp [rightB] at hr; omega
      rcases hn with rfl | rfl
      · have HP := Lib.hid (show printL 1 0 s.data.toList = [110, 111] by simp [printL, hr])
        clear hr
        go_enter Tryd.func17, Tryd.ntmps17
        go_wp2_with (go_at_call 13; refine (ref_right_any _ _ s _ hs).mono ?_; rintro e w1 ⟨rfl, hb⟩; rw [HR.out]; obtain ⟨hc, hf⟩ := bcell hb; have hz := hb.past; have HB := Lib.hid hb; clear hb)
        go_ret
        exact ⟨ret_string (by rw [HP.out]), (((Bel.refl w).alloc _).trans HB.out).alloc _⟩
      · have HP := Lib.hid (show printL 1 1 s.data.toList = [121, 101, 115] by simp [printL, hr])
        clear hr
        go_enter Tryd.func17, Tryd.ntmps17
        go_wp2_with (go_at_call 13; refine (ref_right_any _ _ s _ hs).mono ?_; rintro e w1 ⟨rfl, hb⟩; rw [HR.out]; obtain ⟨hc, hf⟩ := bcell hb; have hz := hb.past; have HB := Lib.hid hb; clear hb)
        go_ret
        exact ⟨ret_string (by rw [HP.out]), (((Bel.refl w).alloc _).trans HB.out).alloc _⟩
    · have HP := Lib.hid (show printL 2 n s.data.toList = Lib.itoa n ++ [115] by simp [printL, hr])
      clear hr
      go_enter Tryd.func17, Tryd.ntmps17
      go_wp2_with (first
        | (go_at_call 13; refine (ref_right_any _ _ s _ hs).mono ?_; rintro e w1 ⟨rfl, hb⟩; rw [HR.out]; obtain ⟨hc, hf⟩ := bcell hb; have HB := Lib.hid hb; clear hb)
        | (go_at_call 26; refine (ref_decimal_any n h0 h1 _).mono ?_; rintro e w2 ⟨rfl, hb2⟩; have HB2 := Lib.hid hb2.bel; clear hb2))
      go_ret
      exact ⟨ret_string (by rw [HP.out]; exact ByteArray.mk_append_mk _ [115]), (((Bel.refl w).alloc _).trans HB.out).trans HB2.out⟩
    · have HP := Lib.hid (show printL 3 n s.data.toList = Lib.itoa n ++ [105] by simp [printL, hr])
      clear hr
      go_enter Tryd.func17, Tryd.ntmps17
      go_wp2_with (first
        | (go_at_call 13; refine (ref_right_any _ _ s _ hs).mono ?_; rintro e w1 ⟨rfl, hb⟩; rw [HR.out]; obtain ⟨hc, hf⟩ := bcell hb; have HB := Lib.hid hb; clear hb)
        | (go_at_call 26; refine (ref_decimal_any n h0 h1 _).mono ?_; rintro e w2 ⟨rfl, hb2⟩; have HB2 := Lib.hid hb2.bel; clear hb2))
      go_ret
      exact ⟨ret_string (by rw [HP.out]; exact ByteArray.mk_append_mk _ [105]), (((Bel.refl w).alloc _).trans HB.out).trans HB2.out⟩
    · have HP := Lib.hid (show printL 4 n s.data.toList = Lib.itoa n by simp [printL, hr])
      clear hr
      go_enter Tryd.func17, Tryd.ntmps17
      go_wp2_with (first
        | (go_at_call 13; refine (ref_right_any _ _ s _ hs).mono ?_; rintro e w1 ⟨rfl, hb⟩; rw [HR.out]; obtain ⟨hc, hf⟩ := bcell hb; have HB := Lib.hid hb; clear hb)
        | (go_at_call 26; refine (ref_decimal_any n h0 h1 _).mono ?_; rintro e w2 ⟨rfl, hb2⟩; have HB2 := Lib.hid hb2.bel; clear hb2))
      go_ret
      exact ⟨ret_string (by rw [HP.out]), (((Bel.refl w).alloc _).trans HB.out).trans HB2.out⟩
    · have hsz := text_short (Or.inl hr)
      have HP := Lib.hid (show printL 5 n s.data.toList = quoteL 39 s.data.toList by simp [printL, hr])
      clear hr
      go_enter Tryd.func17, Tryd.ntmps17
      go_wp2_with (first
        | (go_at_call 13; refine (ref_right_any _ _ s _ hs).mono ?_; rintro e w1 ⟨rfl, hb⟩; rw [HR.out]; obtain ⟨hc, hf⟩ := bcell hb; have HB := Lib.hid hb; clear hb)
        | (go_at_call 27; refine (ref_quoted_any s 39 _ rfl _ (by omega)).mono ?_; rintro e w2 ⟨rfl, hb2⟩; have HB2 := Lib.hid hb2; clear hb2))
      go_ret
      exact ⟨ret_string (by rw [HP.out]), (((Bel.refl w).alloc _).trans HB.out).trans HB2.out⟩
    · have hsz := text_short (Or.inr hr)
      have HP := Lib.hid (show printL 6 n s.data.toList = quoteL 34 s.data.toList by simp [printL, hr])
      clear hr
      go_enter Tryd.func17, Tryd.ntmps17
      go_wp2_with (first
        | (go_at_call 13; refine (ref_right_any _ _ s _ hs).mono ?_; rintro e w1 ⟨rfl, hb⟩; rw [HR.out]; obtain ⟨hc, hf⟩ := bcell hb; have HB := Lib.hid hb; clear hb)
        | (go_at_call 27; refine (ref_quoted_any s 34 _ rfl _ (by omega)).mono ?_; rintro e w2 ⟨rfl, hb2⟩; have HB2 := Lib.hid hb2; clear hb2))
      go_ret
      exact ⟨ret_string (by rw [HP.out]), (((Bel.refl w).alloc _).trans HB.out).trans HB2.out⟩
end Go.Proofs.YtndknolblfdcdaaDoor
