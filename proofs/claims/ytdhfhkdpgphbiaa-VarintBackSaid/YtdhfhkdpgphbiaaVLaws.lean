/- The laws of chapter 3 that take numbers and bytes: VarintPuts, VarintTakes, VarintFolds: true for every argument. -/
import Derived.Test.YtdhfhkdpgphbiaaVShown
set_option linter.unusedSimpArgs false
set_option linter.unusedVariables false
namespace Go.Proofs.Ytdhfhkdpgphbiaa
open Go.RowKit Go.Deep

set_option maxHeartbeats 2000000 in
theorem puts_any (n : Nat) (w : World) (hn : n < 18446744073709551616) :
    Calls Try.prog 3 #[.int .u64 n] w fun e w' => e = .returned (.bool true) ∧ Bel w w' := by
  have hl := putL_len n
  go_enter Try.func3, Try.ntmps3
  go_wp2_with (fail)
  refine (shown_any w).mono ?_
  rintro e w1 ⟨rfl, hb⟩
  have HB := Lib.hid hb; clear hb
  go_wp2_with (fail)
  refine (put_any n _ hn).mono ?_
  rintro e w2 ⟨rfl, hb⟩
  replace HB := Lib.hid (HB.out.trans hb); clear hb
  go_wp2_with (fail)
  refine (rput_any n _ hn).mono ?_
  rintro e w3 ⟨rfl, hb⟩
  replace HB := Lib.hid (HB.out.trans hb); clear hb
  go_wp2_with (fail)
  refine (size_any n _ hn).mono ?_
  rintro e w4 ⟨rfl, hb⟩
  replace HB := Lib.hid (HB.out.trans hb.bel); clear hb
  go_wp2_with (fail)
  go_ret
  exact ⟨ret_bool (by simp [hl]), HB.out⟩

set_option maxHeartbeats 2000000 in
theorem takes_any (s : ByteArray) (w : World) (hs : s.size ≤ maxLen) :
    Calls Try.prog 4 #[.string s] w fun e w' => e = .returned (.bool true) ∧ Bel w w' := by
  unfold maxLen at hs
  go_enter Try.func4, Try.ntmps4
  go_wp2_with (fail)
  refine (shown_any w).mono ?_
  rintro e w1 ⟨rfl, hb⟩
  have HB := Lib.hid hb; clear hb
  by_cases hl : (3000 : Int) < (s.size : Int)
  · go_wp2_with (fail)
    go_ret
    exact ⟨rfl, HB.out⟩
  · go_wp2_with (fail)
    refine (take_any s _ (by omega)).mono ?_
    rintro e w2 ⟨rfl, hb⟩
    replace HB := Lib.hid (HB.out.trans hb); clear hb
    unfold takeV
    go_wp2_with (fail)
    refine (rtake_any s _ (by omega)).mono ?_
    rintro e w3 ⟨rfl, hb⟩
    replace HB := Lib.hid (HB.out.trans hb); clear hb
    unfold takeV
    go_wp2_with (fail)
    go_ret
    exact ⟨ret_bool (by simp), HB.out⟩

theorem fold_at (x n : Int) (w : World) (hn : -9223372036854775808 ≤ n ∧ n ≤ 9223372036854775807) (hx : x = n) :
    Calls Try.prog 17 #[.int .i64 x] w fun e w' => e = .returned (.int .u64 (foldN n : Nat)) ∧ Drw w w' := by
  subst hx; exact fold_any x w hn

set_option maxHeartbeats 4000000 in
theorem folds_any (n : Int) (u : Nat) (m : Int) (w : World) (hn : -9223372036854775808 ≤ n ∧ n ≤ 9223372036854775807) (hu : u < 18446744073709551616) (hm : -9223372036854775808 ≤ m ∧ m ≤ 9223372036854775807) :
    Calls Try.prog 7 #[.int .i64 n, .int .u64 u, .int .i64 m] w fun e w' => e = .returned (.bool true) ∧ Bel w w' := by
  have HN := Lib.hid hn
  have HM := Lib.hid hm
  have hf := foldN_lt n hn
  have huz := Lib.hid (unfoldZ_in u hu)
  have e1 := unfold_fold n
  have e2 := fold_unfold u
  obtain ⟨hn1, hn2⟩ := hn
  obtain ⟨hm1, hm2⟩ := hm
  go_enter Try.func7, Try.ntmps7
  go_wp2_with (fail)
  refine (shown_any w).mono ?_
  rintro e w1 ⟨rfl, hb⟩
  have HB := Lib.hid hb; clear hb
  go_wp2_with (fail)
  refine (fold_any n _ HN.out).mono ?_
  rintro e w2 ⟨rfl, hb⟩
  replace HB := Lib.hid (HB.out.trans hb.bel); clear hb
  go_wp2_with (fail)
  refine (unfold_any (foldN n) _ hf).mono ?_
  rintro e w3 ⟨rfl, hb⟩
  replace HB := Lib.hid (HB.out.trans hb.bel); clear hb
  go_wp2_with (fail)
  refine (unfold_any u _ hu).mono ?_
  rintro e w4 ⟨rfl, hb⟩
  replace HB := Lib.hid (HB.out.trans hb.bel); clear hb
  go_wp2_with (fail)
  refine (fold_any (unfoldZ u) _ huz.out).mono ?_
  rintro e w5 ⟨rfl, hb⟩
  replace HB := Lib.hid (HB.out.trans hb.bel); clear hb
  go_wp2_with (fail)
  refine (fold_any n _ HN.out).mono ?_
  rintro e w6 ⟨rfl, hb⟩
  replace HB := Lib.hid (HB.out.trans hb.bel); clear hb
  go_wp2_with (fail)
  refine (rfold_any n _ HN.out).mono ?_
  rintro e w7 ⟨rfl, hb⟩
  replace HB := Lib.hid (HB.out.trans hb.bel); clear hb
  go_wp2_with (fail)
  refine (unfold_any u _ hu).mono ?_
  rintro e w8 ⟨rfl, hb⟩
  replace HB := Lib.hid (HB.out.trans hb.bel); clear hb
  go_wp2_with (fail)
  refine (runfold_any u _ hu).mono ?_
  rintro e w9 ⟨rfl, hb⟩
  replace HB := Lib.hid (HB.out.trans hb.bel); clear hb
  by_cases c1 : n < 0
  · go_wp2_with (fail)
    go_ret
    exact ⟨rfl, HB.out⟩
  by_cases c2 : m < 0
  · go_wp2_with (fail)
    go_ret
    exact ⟨rfl, HB.out⟩
  · obtain ⟨hl, hle⟩ := fold_less n m (by omega) (by omega)
    have HL := Lib.hid hl
    have HLE := Lib.hid hle
    clear hl hle
    go_wp2_with (fail)
    refine (fold_any n _ HN.out).mono ?_
    rintro e wa ⟨rfl, hb⟩
    replace HB := Lib.hid (HB.out.trans hb.bel); clear hb
    go_wp2_with (fail)
    refine (fold_any m _ HM.out).mono ?_
    rintro e wb ⟨rfl, hb⟩
    replace HB := Lib.hid (HB.out.trans hb.bel); clear hb
    have t1 : (decide ((foldN n : Int) < (foldN m : Int)) == decide (n < m)) = true := by
      have := HL.out
      rw [beq_iff_eq, decide_eq_decide]; omega
    have v1 : IntKind.i64.wrap (-n) = -n := IntWalk.i64_in _ (by omega)
    go_wp2_with (fail)
    refine (fold_at _ (-n) _ ⟨by omega, by omega⟩ (by first | rfl | exact v1)).mono ?_
    rintro e wc ⟨rfl, hb⟩
    replace HB := Lib.hid (HB.out.trans hb.bel); clear hb
    go_wp2_with (fail)
    refine (fold_any n _ HN.out).mono ?_
    rintro e wd ⟨rfl, hb⟩
    replace HB := Lib.hid (HB.out.trans hb.bel); clear hb
    go_wp2_with (fail)
    go_ret
    exact ⟨ret_bool (by have := HLE.out; simp; omega), HB.out⟩
end Go.Proofs.Ytdhfhkdpgphbiaa
