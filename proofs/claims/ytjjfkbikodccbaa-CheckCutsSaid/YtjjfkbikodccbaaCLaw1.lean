/- CheckFrames, CheckReads, CheckCuts: true for every argument. -/
import Derived.Test.YtjjfkbikodccbaaCShown
set_option linter.unusedSimpArgs false
set_option linter.unusedVariables false
namespace Go.Proofs.Ytjjfkbikodccbaa
open Go.RowKit Go.Deep

def FrRel (tv iv : Value) : Prop := ∃ (t : ByteArray) (k : Nat), tv = .string t ∧ iv = .int .i64 k ∧ k ≤ 20 ∧ t.size ≤ 43000
set_option maxHeartbeats 4000000 in
theorem law_frames_any (s : ByteArray) (many : Int) (w : World) (hs : s.size ≤ maxLen) (hm : -9223372036854775808 ≤ many ∧ many ≤ 9223372036854775807) :
    Calls Try.prog 3 #[.string s, .int .i64 many] w fun e w' => e = .returned (.bool true) ∧ Bel w w' := by
  unfold maxLen at hs
  have HM := Lib.hid hm; clear hm
  have hp := Lib.hid (pickN_lt many (n := 20) (by decide))
  go_enter Try.func3, Try.ntmps3
  go_wp2_with (fail)
  refine (shown_any w).mono ?_
  rintro e w1 ⟨rfl, hb⟩
  have HB := Lib.hid hb; clear hb
  by_cases hl : (3000 : Int) < (s.size : Int)
  · go_wp2_with (fail)
    go_ret
    exact ⟨rfl, HB.out⟩
  · go_wp2_with (fail)
    refine (frame_ok s _ (by omega)).mono ?_
    rintro e w2 ⟨rfl, hb⟩
    replace HB := Lib.hid (HB.out.trans hb); clear hb
    unfold frameV
    go_wp2_with (fail)
    refine (rframe_ok s _ (by omega)).mono ?_
    rintro e w3 ⟨rfl, hb⟩
    replace HB := Lib.hid (HB.out.trans hb); clear hb
    unfold frameV
    go_wp2_with (fail)
    refine (sum5_any s _ (by unfold maxLen; omega)).mono ?_
    rintro e w4 ⟨rfl, hb⟩
    replace HB := Lib.hid (HB.out.trans hb.bel); clear hb
    go_wp2_with (fail)
    refine (rsum5_any s _ (by unfold maxLen; omega)).mono ?_
    rintro e w5 ⟨rfl, hb⟩
    replace HB := Lib.hid (HB.out.trans hb.bel); clear hb
    have hself : ((frameL s.data.toList) == (frameL s.data.toList)) = true := by simp
    go_wp2_with (fail)
    go_loopw [10, 11] (fun tv iv x => FrRel tv iv ∧ Bel w x) (fun _ iv _ => 20 - (intOf iv).toNat)
    case atStart => exact ⟨⟨⟨#[]⟩, 0, rfl, rfl, by omega, by show 0 ≤ _; omega⟩, HB.out⟩
    case round =>
      clear HB
      obtain ⟨⟨t, k, rfl, rfl, hk, ht⟩, hb⟩ := hrel
      have HB := Lib.hid hb; clear hb
      go_wp2_with (fail)
      refine (pick_at many 20 20 _ HM.out (by omega) (by omega) (by omega)).mono ?_
      rintro e w6 ⟨rfl, hb⟩
      replace HB := Lib.hid (HB.out.trans hb.bel); clear hb
      have hp2 := hp.out
      generalize pickN many 20 = m at *
      by_cases hlt : k < m
      · by_cases hsz : t.size ≤ 40000
        · have hts : (t ++ s).size = t.size + s.size := by simp
          go_wp2_with (fail)
          go_roundw
          case rel => exact ⟨⟨t ++ s, k + 1, rfl, by go_num, by omega, by rw [hts]; omega⟩, HB.out⟩
          case measure => simp [intOf]; omega
        · go_wp2_with (fail)
          refine (frame_long t _ (by unfold maxLen; omega) (by omega)).mono ?_
          rintro e w7 ⟨rfl, hb⟩
          replace HB := Lib.hid (HB.out.trans hb); clear hb
          unfold longV
          go_wp2_with (fail)
          go_ret
          exact ⟨ret_bool (by simp), HB.out⟩
      · by_cases hsz : t.size ≤ 40000
        · have hfl := frame_len t.data.toList
          have htl : t.data.toList.length = t.size := rfl
          have hz1 := szN_pos t.size
          have hz : (⟨(frameL t.data.toList).toArray⟩ : ByteArray).size = szN t.size + t.size + 4 := by show (frameL t.data.toList).toArray.size = _; rw [List.size_toArray, hfl, htl]
          clear hfl
          go_wp2_with (fail)
          refine (frame_ok t _ hsz).mono ?_
          rintro e w7 ⟨rfl, hb⟩
          replace HB := Lib.hid (HB.out.trans hb); clear hb
          unfold frameV
          go_wp2_with (fail)
          go_ret
          exact ⟨ret_bool (by simp), HB.out⟩
        · go_wp2_with (fail)
          refine (frame_long t _ (by unfold maxLen; omega) (by omega)).mono ?_
          rintro e w7 ⟨rfl, hb⟩
          replace HB := Lib.hid (HB.out.trans hb); clear hb
          unfold longV
          go_wp2_with (fail)
          go_ret
          exact ⟨ret_bool (by simp), HB.out⟩

set_option maxHeartbeats 4000000 in
theorem law_reads_any (s : ByteArray) (w : World) (hs : s.size ≤ maxLen) :
    Calls Try.prog 4 #[.string s] w fun e w' => e = .returned (.bool true) ∧ Bel w w' := by
  unfold maxLen at hs
  go_enter Try.func4, Try.ntmps4
  go_wp2_with (fail)
  refine (shown_any w).mono ?_
  rintro e w1 ⟨rfl, hb⟩
  have HB := Lib.hid hb; clear hb
  by_cases hl : (4000 : Int) < (s.size : Int)
  · go_wp2_with (fail)
    go_ret
    exact ⟨rfl, HB.out⟩
  · obtain ⟨t, r, k, hU⟩ : ∃ t r k, unframeL s.data.toList = (t, r, k) := ⟨_, _, _, rfl⟩
    obtain ⟨L, n, k2, hS⟩ : ∃ L n k2, scanL s.data.toList = (L, n, k2) := ⟨_, _, _, rfl⟩
    have hsz := scan_size _ s.data.toList (Nat.le_refl _)
    rw [hS] at hsz
    have hsl : s.data.toList.length = s.size := rfl
    have hL : L.length ≤ 4000 := by have := hsz.2; simp only [] at this; omega
    clear hsz
    have HU := Lib.hid (show unV s.data.toList = .tuple #[.string ⟨t.toArray⟩, .string ⟨r.toArray⟩, .int .i64 k] by rw [unV, hU])
    have HS := Lib.hid hS; clear hS hU
    have e1 : (t == t) = true := by simp
    have e2 : (r == r) = true := by simp
    go_wp2_with (fail)
    refine (unframe_any s _ (by omega)).mono ?_
    rintro e w2 ⟨rfl, hb⟩
    rw [HU.out]
    replace HB := Lib.hid (HB.out.trans hb); clear hb
    go_wp2_with (fail)
    refine (runframe_any s _ (by omega)).mono ?_
    rintro e w3 ⟨rfl, hb⟩
    rw [HU.out]
    replace HB := Lib.hid (HB.out.trans hb); clear hb
    go_wp2_with (fail)
    refine (scan_at s _ L n k2 _ (by omega) rfl HS.out).mono ?_
    rintro e w4 ⟨p, cap, rfl, hat, hb⟩
    have HA := Lib.hid hat
    replace HB := Lib.hid (HB.out.trans hb); clear hb hat
    go_wp2_with (fail)
    refine (rscan_at s _ L n k2 _ (by omega) rfl HS.out).mono ?_
    rintro e w5 ⟨p', cap', rfl, hat, hb⟩
    have HA' := Lib.hid hat
    replace HA := Lib.hid (HA.out.bel hb)
    replace HB := Lib.hid (HB.out.trans hb); clear hb hat
    go_wp2_with (fail)
    refine (same_any p p' cap cap' L _ HA.out HA'.out (by omega)).mono ?_
    rintro e w6 ⟨rfl, hb⟩
    replace HB := Lib.hid (HB.out.trans hb.bel); clear hb
    go_wp2_with (fail)
    go_ret
    exact ⟨ret_bool (by simp), HB.out⟩

set_option maxHeartbeats 4000000 in
theorem law_cuts_any (s : ByteArray) (at_ : Int) (w : World) (hs : s.size ≤ maxLen) (hm : -9223372036854775808 ≤ at_ ∧ at_ ≤ 9223372036854775807) :
    Calls Try.prog 6 #[.string s, .int .i64 at_] w fun e w' => e = .returned (.bool true) ∧ Bel w w' := by
  unfold maxLen at hs
  have HM := Lib.hid hm; clear hm
  go_enter Try.func6, Try.ntmps6
  go_wp2_with (fail)
  refine (shown_any w).mono ?_
  rintro e w1 ⟨rfl, hb⟩
  have HB := Lib.hid hb; clear hb
  by_cases hl : (2000 : Int) < (s.size : Int)
  · go_wp2_with (fail)
    go_ret
    exact ⟨rfl, HB.out⟩
  · have hfl := frame_len s.data.toList
    have hsl : s.data.toList.length = s.size := rfl
    have hz1 := szN_pos s.size
    have hz9 := szN_le s.size
    rw [hsl] at hfl
    obtain ⟨f, hf⟩ : ∃ f : ByteArray, f = ⟨(frameL s.data.toList).toArray⟩ := ⟨_, rfl⟩
    have hfs : f.size = szN s.size + s.size + 4 := by rw [hf]; show (frameL s.data.toList).toArray.size = _; rw [List.size_toArray, hfl]
    have hfd : f.data.toList = frameL s.data.toList := by rw [hf]
    have HV := Lib.hid (show frameV s.data.toList = .tuple #[.string f, .int .i64 0] by rw [frameV, hf])
    have hpl := pickN_lt at_ (n := f.size) (by omega)
    have HC := Lib.hid (show unV (f.extract 0 (pickN at_ f.size)).data.toList = .tuple #[.string ⟨#[]⟩, .string ⟨#[]⟩, .int .i64 8] by
      rw [ext_data, List.drop_zero, hfd, unV, unframe_cut s.data.toList (by omega) _ (by rw [← hfd]; exact hpl)])
    clear hf hfd hfl
    have hfz : f.size ≤ 2020 := by omega
    have hf5 : ¬ (f.size : Int) < 5 := by omega
    clear hfs
    go_wp2_with (fail)
    refine (frame_ok s _ (by omega)).mono ?_
    rintro e w2 ⟨rfl, hb⟩
    rw [HV.out]
    replace HB := Lib.hid (HB.out.trans hb); clear hb
    go_wp2_with (fail)
    refine (pick_at at_ f.size f.size _ HM.out (by omega) (by omega) (by omega)).mono ?_
    rintro e w3 ⟨rfl, hb⟩
    replace HB := Lib.hid (HB.out.trans hb.bel); clear hb
    have hzc : (f.extract 0 (pickN at_ f.size)).size ≤ 1000000 := by simp [ByteArray.size_extract]; omega
    go_wp2_with (fail)
    refine (unframe_any _ _ hzc).mono ?_
    rintro e w4 ⟨rfl, hb⟩
    rw [HC.out]
    replace HB := Lib.hid (HB.out.trans hb); clear hb
    go_wp2_with (fail)
    go_ret
    exact ⟨rfl, HB.out⟩
end Go.Proofs.Ytjjfkbikodccbaa
