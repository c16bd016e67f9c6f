/- The walk of KeyAfter. -/
import Derived.Test.YtggmeggfibblhaaDoorKLaw1
set_option linter.unusedSimpArgs false
set_option linter.unusedVariables false
namespace Go.Proofs.YtggmeggfibblhaaDoor
open Go.RowKit Go.Deep

theorem ba_add (s t : ByteArray) : (s ++ t).data.toList = s.data.toList ++ t.data.toList := by simp
theorem bytes_at (a b : ByteArray) (z : Int) (w : World) (ha : a.size ≤ 1000000) (hb : b.size ≤ 1000000) (hz : Lib.compareBytes a.data.toList b.data.toList = z) :
    Calls Tryd.prog 20 #[.string a, .string b] w fun e w' => e = .returned (.int .i64 z) ∧ Bel w w' := by
  refine (ref_bytes_any a b w (by unfold maxLen; omega) (by unfold maxLen; omega)).mono ?_
  rintro e w' ⟨rfl, hw⟩
  exact ⟨ret_int hz, hw.bel⟩
theorem after_len : ∀ (s a : List UInt8), afterL s = some a → a.length ≤ s.length
  | [], a, h => by cases h
  | b :: s, a, h => by
    rw [afterL] at h
    cases hs : afterL s with
    | some a' =>
      rw [hs] at h
      simp only [Option.some.injEq] at h
      subst h
      have := after_len s a' hs
      simpa using this
    | none =>
      rw [hs] at h
      by_cases hb : b = 255
      · simp [hb] at h
      · simp [hb] at h
        subst h
        simp

set_option maxHeartbeats 4000000 in
theorem after_law (s t : ByteArray) (w : World) (hs : s.size ≤ maxLen) (ht : t.size ≤ maxLen) (hstd : Std w) :
    Calls Tryd.prog 8 #[.string s, .string t] w fun e w' => e = .returned (.bool true) ∧ Bel w w' := by
  unfold maxLen at hs ht
  have HS := Lib.hid hstd; clear hstd
  obtain ⟨o, ho⟩ : ∃ o, afterL s.data.toList = o := ⟨_, rfl⟩
  have HO := Lib.hid ho; clear ho
  have hsl : s.data.toList.length = s.size := rfl
  have htl : t.data.toList.length = t.size := rfl
  go_enter Tryd.func8, Tryd.ntmps8
  go_wp2_with (fail)
  refine (shown_any _ HS.out).mono ?_
  rintro e w1 ⟨rfl, hb⟩
  have HB := Lib.hid hb; clear hb
  by_cases h1 : s.size ≤ 2000
  · have h1' : ((s.size : Nat) : Int) ≤ 2000 := by omega
    by_cases h2 : t.size ≤ 2000
    · have h2' : ((t.size : Nat) : Int) ≤ 2000 := by omega
      go_wp2_with (fail)
      refine (after_any s _ (by omega)).mono ?_
      rintro e w2 ⟨rfl, hb⟩
      rw [HO.out]
      replace HB := Lib.hid (HB.out.trans hb); clear hb
      cases o with
      | none =>
        have HV : Hid (afterV none = .tuple #[.string ⟨#[]⟩, .bool false]) := Lib.hid rfl
        rw [HV.out]
        go_wp2_with (fail)
        refine (rafter_any s _ (by omega)).mono ?_
        rintro e w3 ⟨rfl, hb⟩
        rw [HO.out, HV.out]
        replace HB := Lib.hid (HB.out.trans hb); clear hb
        go_wp2_with (fail)
        go_ret
        exact ⟨rfl, HB.out⟩
      | some A =>
        have HV : Hid (afterV (some A) = .tuple #[.string ⟨A.toArray⟩, .bool true]) := Lib.hid rfl
        have hiff := after_some s.data.toList t.data.toList A HO.out
        have hst := (after_some s.data.toList (s.data.toList ++ t.data.toList) A HO.out).2 (Or.inl List.take_left)
        have hal := after_len _ _ HO.out
        obtain ⟨z1, hz1⟩ : ∃ z, Lib.compareBytes t.data.toList A = z := ⟨_, rfl⟩
        obtain ⟨z2, hz2⟩ : ∃ z, Lib.compareBytes (s.data.toList ++ t.data.toList) A = z := ⟨_, rfl⟩
        obtain ⟨z3, hz3⟩ : ∃ z, Lib.compareBytes t.data.toList s.data.toList = z := ⟨_, rfl⟩
        rw [hz1, hz3] at hiff
        rw [hz2] at hst
        have hsz : (s ++ t).size = s.size + t.size := by rw [ByteArray.size_append]
        have hAz : (⟨A.toArray⟩ : ByteArray).size ≤ s.size := by show A.toArray.size ≤ _; rw [List.size_toArray, ← hsl]; exact hal
        have HC1 := Lib.hid fun w => bytes_at t ⟨A.toArray⟩ z1 w (by omega) (by omega) hz1
        have HC2 := Lib.hid fun w => bytes_at (s ++ t) ⟨A.toArray⟩ z2 w (by omega) (by omega) (by rw [ba_add]; exact hz2)
        have HC3 := Lib.hid fun w => bytes_at t s z3 w (by omega) (by omega) hz3
        have HIFF := Lib.hid hiff
        clear hz1 hz2 hz3 hiff hal hAz hsz
        rw [HV.out]
        go_wp2_with (fail)
        refine (rafter_any s _ (by omega)).mono ?_
        rintro e w3 ⟨rfl, hb⟩
        rw [HO.out, HV.out]
        replace HB := Lib.hid (HB.out.trans hb); clear hb
        by_cases hbg : t.data.toList.take s.size = s.data.toList
        · have hge : s.size ≤ t.size := by
            have := congrArg List.length hbg
            rw [List.length_take, hsl, htl] at this; omega
          have hge' : ((s.size : Nat) : Int) ≤ (t.size : Int) := by omega
          have hbq : ((t.extract 0 s.size).toList == s.toList) = true := by rw [ByteArray.toList_eq, ByteArray.toList_eq, ext_data, List.drop_zero, hbg]; simp
          have hz1n := HIFF.out.2 (Or.inl hbg)
          clear hbg
          go_wp2_with (fail)
          refine (HC1.out _).mono ?_
          rintro e w4 ⟨rfl, hb⟩
          replace HB := Lib.hid (HB.out.trans hb); clear hb
          go_wp2_with (fail)
          refine (HC2.out _).mono ?_
          rintro e w5 ⟨rfl, hb⟩
          replace HB := Lib.hid (HB.out.trans hb); clear hb
          go_wp2_with (fail)
          go_ret
          exact ⟨rfl, HB.out⟩
        · by_cases hge : s.size ≤ t.size
          · have hge' : ((s.size : Nat) : Int) ≤ (t.size : Int) := by omega
            have hbq : ((t.extract 0 s.size).toList == s.toList) = false := by rw [ByteArray.toList_eq, ByteArray.toList_eq, ext_data, List.drop_zero]; exact beq_eq_false_iff_ne.2 hbg
            have hnb : ¬ t.data.toList.take s.data.toList.length = s.data.toList := hbg
            clear hbg
            by_cases hz3 : z3 < 0
            · have hz1n := HIFF.out.2 (Or.inr hz3)
              clear hnb
              go_wp2_with (fail)
              refine (HC3.out _).mono ?_
              rintro e w4 ⟨rfl, hb⟩
              replace HB := Lib.hid (HB.out.trans hb); clear hb
              go_wp2_with (fail)
              refine (HC1.out _).mono ?_
              rintro e w5 ⟨rfl, hb⟩
              replace HB := Lib.hid (HB.out.trans hb); clear hb
              go_wp2_with (fail)
              refine (HC2.out _).mono ?_
              rintro e w6 ⟨rfl, hb⟩
              replace HB := Lib.hid (HB.out.trans hb); clear hb
              go_wp2_with (fail)
              go_ret
              exact ⟨rfl, HB.out⟩
            · have hz1n : 0 ≤ z1 := by
                have := HIFF.out
                rcases Int.lt_or_le z1 0 with h | h
                · rcases this.1 h with h | h
                  · exact absurd h hnb
                  · exact absurd h hz3
                · exact h
              clear hnb
              go_wp2_with (fail)
              refine (HC3.out _).mono ?_
              rintro e w4 ⟨rfl, hb⟩
              replace HB := Lib.hid (HB.out.trans hb); clear hb
              go_wp2_with (fail)
              refine (HC1.out _).mono ?_
              rintro e w5 ⟨rfl, hb⟩
              replace HB := Lib.hid (HB.out.trans hb); clear hb
              go_wp2_with (fail)
              go_ret
              exact ⟨ret_bool (by simp), HB.out⟩
          · have hge' : ¬ ((s.size : Nat) : Int) ≤ (t.size : Int) := by omega
            have hnb : ¬ t.data.toList.take s.data.toList.length = s.data.toList := hbg
            clear hbg
            by_cases hz3 : z3 < 0
            · have hz1n := HIFF.out.2 (Or.inr hz3)
              clear hnb
              go_wp2_with (fail)
              refine (HC3.out _).mono ?_
              rintro e w4 ⟨rfl, hb⟩
              replace HB := Lib.hid (HB.out.trans hb); clear hb
              go_wp2_with (fail)
              refine (HC1.out _).mono ?_
              rintro e w5 ⟨rfl, hb⟩
              replace HB := Lib.hid (HB.out.trans hb); clear hb
              go_wp2_with (fail)
              refine (HC2.out _).mono ?_
              rintro e w6 ⟨rfl, hb⟩
              replace HB := Lib.hid (HB.out.trans hb); clear hb
              go_wp2_with (fail)
              go_ret
              exact ⟨rfl, HB.out⟩
            · have hz1n : 0 ≤ z1 := by
                have := HIFF.out
                rcases Int.lt_or_le z1 0 with h | h
                · rcases this.1 h with h | h
                  · exact absurd h hnb
                  · exact absurd h hz3
                · exact h
              clear hnb
              go_wp2_with (fail)
              refine (HC3.out _).mono ?_
              rintro e w4 ⟨rfl, hb⟩
              replace HB := Lib.hid (HB.out.trans hb); clear hb
              go_wp2_with (fail)
              refine (HC1.out _).mono ?_
              rintro e w5 ⟨rfl, hb⟩
              replace HB := Lib.hid (HB.out.trans hb); clear hb
              go_wp2_with (fail)
              go_ret
              exact ⟨ret_bool (by simp), HB.out⟩
    · have h2' : ¬ ((t.size : Nat) : Int) ≤ 2000 := by omega
      go_wp2_with (fail)
      go_ret
      exact ⟨rfl, HB.out⟩
  · have h1' : ¬ ((s.size : Nat) : Int) ≤ 2000 := by omega
    go_wp2_with (fail)
    go_ret
    exact ⟨rfl, HB.out⟩
end Go.Proofs.YtggmeggfibblhaaDoor
