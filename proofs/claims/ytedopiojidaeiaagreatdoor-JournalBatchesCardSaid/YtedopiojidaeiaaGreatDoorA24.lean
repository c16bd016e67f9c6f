/- VRTake, CFour, laid together. -/
import Derived.Test.YtedopiojidaeiaaGreatDoorA23
import Derived.Test.YtedopiojidaeiaaGreatDoorA22
import Derived.Test.YtedopiojidaeiaaGreatDoorA1
import Derived.Test.YtedopiojidaeiaaGreatDoorA11
/- moultref3.Take: the document's answer for what some bytes begin with. (written by genvrtake.py) -/
set_option linter.unusedSimpArgs false
set_option linter.unusedVariables false
namespace Go.Proofs.YtedopiojidaeiaaGreatDoor
open Go.RowKit Go.Deep

/-- What is reckoned of the bytes from the second to so many. -/
def midN (s : ByteArray) (j : Nat) : Nat := sumL ((s.data.toList.take j).drop 1)
theorem rput_at (x : Int) (n : Nat) (w : World) (hn : n < 18446744073709551616) (hx : (n : Int) = x) :
    Calls Tryz.prog 38 #[.int .u64 x] w fun e w' => e = .returned (.string ⟨(putL n).toArray⟩) ∧ Bel w w' := by
  subst hx; exact rput_any n w hn
def RTRel (s : ByteArray) (k : Nat) (v i : Value) : Prop := ∃ j : Nat, 1 ≤ j ∧ j ≤ k ∧ i = .int .i64 j ∧ v = .int .u64 ((midN s j % 18446744073709551616 : Nat) : Int)
theorem sumL_mid (s : ByteArray) (k : Nat) (h1 : 1 ≤ k) (h : k < s.size) : midN s (k + 1) = midN s k * 256 + s[k].toNat := by
  unfold midN
  rw [← sumL_snoc, List.take_add_one]
  have e : s.data.toList[k]? = some s[k] := by rw [List.getElem?_eq_getElem (by simpa using h)]; rfl
  rw [e, List.drop_append_of_le_length (by rw [List.length_take]; have : s.data.toList.length = s.size := rfl
                                           omega)]
  rfl
theorem sumL_one (s : ByteArray) : midN s 1 = 0 := by
  unfold midN
  rw [List.drop_eq_nil_of_le (by rw [List.length_take]; omega)]; rfl
/-- What the loop has reckoned, and what so many bytes tell. -/
theorem val_mid (s : ByteArray) (h0 : 0 < s.size) (k : Nat) (hk : k = kOf s[0]) (h : k ≤ s.size) :
    midN s k < 18446744073709551616 ∧
    (k = 1 → valL (s.extract 0 k).data.toList = s[0].toNat) ∧
    (k = 2 → midN s k < 256 ∧ valL (s.extract 0 k).data.toList = midN s k + 240 + 256 * (s[0].toNat - 241)) ∧
    (k = 3 → midN s k < 65536 ∧ valL (s.extract 0 k).data.toList = midN s k + 2288) ∧
    (4 ≤ k → valL (s.extract 0 k).data.toList = midN s k) := by
  unfold midN
  have h9 := kOf_le s[0]
  have hp := kOf_pos s[0]
  rw [← hk] at h9 hp
  obtain ⟨h1, e0, hz⟩ := ext_head s h0 k hp h
  have e1 : (s.extract 0 k).data.toList = s.data.toList.take k := by rw [ext_data, List.drop_zero]
  have hd := head_at _ h1
  rw [e0, e1] at hd
  have hl : (s.data.toList.take k).length = k := by rw [← e1]; exact hz
  have hlt := sumL_lt ((s.data.toList.take k).drop 1)
  rw [List.length_drop, hl] at hlt
  rw [e1]
  unfold valL
  rw [hl]
  have hs : sumL (s.data.toList.take k) = s[0].toNat * 256 ^ (k - 1) + sumL ((s.data.toList.take k).drop 1) := by
    conv => lhs; rw [hd]
    rw [sumL_cons, List.length_drop, hl]
  refine ⟨?_, ?_, ?_, ?_, ?_⟩
  · have h2 : (256 : Nat) ^ (k - 1) ≤ 256 ^ 8 := Nat.pow_le_pow_right (by omega) (by omega)
    have e8 : (256 : Nat) ^ 8 = 18446744073709551616 := by decide
    omega
  · intro hc; rw [hc] at hlt hs ⊢; rw [if_pos rfl, hs]; simp only [Nat.sub_self, Nat.pow_zero] at hlt ⊢; omega
  · intro hc
    have hb : 241 ≤ s[0].toNat := by rw [hk] at hc; unfold kOf at hc; revert hc; (repeat' split) <;> omega
    rw [hc] at hlt hs ⊢; rw [if_neg (by omega), if_pos rfl, hs]
    simp only [Nat.reduceSub, Nat.pow_one] at hlt ⊢
    omega
  · intro hc; rw [hc] at hlt ⊢; rw [if_neg (by omega), if_neg (by omega), if_pos rfl]; exact ⟨hlt, rfl⟩
  · intro hc; rw [if_neg (by omega), if_neg (by omega), if_neg (by omega)]

set_option maxHeartbeats 4000000 in
set_option maxRecDepth 20000 in
theorem rtake_one (s : ByteArray) (w : World) (hs : s.size ≤ 1000000) (h0' : 0 < s.size) (hb : (s[0].toNat : Int) < 241) :
    Calls Tryz.prog 40 #[.string s] w fun e w' => e = .returned (takeV s.data.toList) ∧ Bel w w' := by
  have h0 : ¬ s.size = 0 := by omega
  have hlt8 : (s[0].toNat : Int) < 256 := by have := s[0].toNat_lt; omega
  obtain ⟨k, hk⟩ : ∃ k, k = kOf s[0] := ⟨_, rfl⟩
  have hk1 := kOf_pos s[0]
  have hk9 := kOf_le s[0]
  rw [← hk] at hk1 hk9
  have hne : s.toList.isEmpty = false := by
    rw [ByteArray.toList_eq, head_at s h0']; rfl
  have hkk : k = 1 := by rw [hk]; unfold kOf; rw [if_pos (by omega)]
  have t1 : ¬ (250 : Int) ≤ (s[0].toNat : Int) := by omega
  have t2 : ((s[0].toNat : Int) == 249) = false := by rw [beq_eq_false_iff_ne]; omega
  have t3 : ¬ (241 : Int) ≤ (s[0].toNat : Int) := by omega
  by_cases hl : s.size < k
  · have hT := Lib.hid (takeL_short s h0' k hk hl)
    clear hk
    subst hkk
    exact absurd hl (by omega)
  · have hT := Lib.hid (takeL_long s h0' k hk hl)
    have hQ := Lib.hid (val_mid s h0' k hk (by omega)).1
    have hV := Lib.hid ((val_mid s h0' k hk (by omega)).2.1 hkk)
    obtain ⟨hp, hp0, hpz⟩ := ext_head s h0' k hk1 (by omega)
    have hlt : valL (s.extract 0 k).data.toList < 18446744073709551616 := by
      rw [head_at _ hp]
      exact valL_lt _ _ (by rw [← head_at _ hp, hp0, ← hk]; exact hpz)
    clear hk hp0
    subst hkk
    go_enter Tryz.func40, Tryz.ntmps40
    go_wp2_with (fail)
    go_loopw [6, 7] (fun v i x => RTRel s 1 v i ∧ Drw w x) (fun _ i _ => 9 - (intOf i).toNat)
    case atStart => exact ⟨⟨1, Nat.le_refl _, by omega, rfl, by rw [sumL_one]; rfl⟩, Drw.refl _⟩
    case round =>
      obtain ⟨⟨j, hj1, hjk, rfl, rfl⟩, hw⟩ := hrel
      have HW := Lib.hid hw; clear hw
      by_cases hjl : j < 1
      · exact absurd hjl (by omega)
      · obtain rfl : j = 1 := by omega
        have hv := hV.out
        have hmm : ((valL (s.extract 0 1).data.toList : Nat) : Int) = (s[0].toNat : Int) := by rw [hv]
        have HMM := Lib.hid hmm
        clear hmm hv
        rw [Nat.mod_eq_of_lt hQ.out]
        by_cases he : putL (valL (s.extract 0 1).data.toList) = (s.extract 0 1).data.toList
        · have hT' := Lib.hid (hT.out.trans (if_pos he))
          have hE := Lib.hid he; clear he
          generalize valL (s.extract 0 1).data.toList = m at *
          skip
          go_wp2_with (fail)
          go_region_with (go_at_call 38; refine (rput_at _ m _ hlt (by have := HMM.out; omega)).mono ?_; rintro e w3 ⟨rfl, hb⟩; have HB := Lib.hid hb; clear hb; rw [hE.out, ba_list])
          all_goals go_wp2_with (fail)
          all_goals go_quiet (fail)
          all_goals go_wp2_with (fail)
          all_goals go_ret3
          all_goals refine ⟨by rw [takeV, hT'.out, ba_list]; first | rfl | (simp only []; rw [HMM.out]; rfl), ?_⟩
          all_goals exact ((HW.out.bel.drew.trans HB.out).drewN _)
        · have hT' := Lib.hid (hT.out.trans (if_neg he))
          have hE : (putL (valL (s.extract 0 1).data.toList) == (s.extract 0 1).toList) = false := by
            rw [ByteArray.toList_eq, beq_eq_false_iff_ne]; exact he
          clear he
          generalize valL (s.extract 0 1).data.toList = m at *
          skip
          go_wp2_with (fail)
          go_region_with (go_at_call 38; refine (rput_at _ m _ hlt (by have := HMM.out; omega)).mono ?_; rintro e w3 ⟨rfl, hb⟩; have HB := Lib.hid hb; clear hb)
          all_goals go_wp2_with (fail)
          all_goals go_ret3
          all_goals refine ⟨by rw [takeV, hT'.out]; rfl, ?_⟩
          all_goals exact HW.out.bel.drew.trans HB.out
set_option maxHeartbeats 4000000 in
set_option maxRecDepth 20000 in
theorem rtake_two (s : ByteArray) (w : World) (hs : s.size ≤ 1000000) (h0' : 0 < s.size) (hb : (241 : Int) ≤ (s[0].toNat : Int)) (hb2 : (s[0].toNat : Int) < 249) :
    Calls Tryz.prog 40 #[.string s] w fun e w' => e = .returned (takeV s.data.toList) ∧ Bel w w' := by
  have h0 : ¬ s.size = 0 := by omega
  have hlt8 : (s[0].toNat : Int) < 256 := by have := s[0].toNat_lt; omega
  obtain ⟨k, hk⟩ : ∃ k, k = kOf s[0] := ⟨_, rfl⟩
  have hk1 := kOf_pos s[0]
  have hk9 := kOf_le s[0]
  rw [← hk] at hk1 hk9
  have hne : s.toList.isEmpty = false := by
    rw [ByteArray.toList_eq, head_at s h0']; rfl
  have hkk : k = 2 := by rw [hk]; unfold kOf; rw [if_neg (by omega), if_pos (by omega)]
  have t1 : ¬ (250 : Int) ≤ (s[0].toNat : Int) := by omega
  have t2 : ((s[0].toNat : Int) == 249) = false := by rw [beq_eq_false_iff_ne]; omega
  have v3 : IntKind.u8.wrap ((s[0].toNat : Int) - 241) = (s[0].toNat : Int) - 241 := by simp [IntKind.wrap, IntKind.bits, IntKind.signed]; omega
  by_cases hl : s.size < k
  · have hT := Lib.hid (takeL_short s h0' k hk hl)
    clear hk
    subst hkk
    go_enter Tryz.func40, Tryz.ntmps40
    go_wp2_with (fail)
    go_ret3
    exact ⟨by rw [takeV, hT.out]; rfl, Bel.refl w⟩
  · have hT := Lib.hid (takeL_long s h0' k hk hl)
    have hQ := Lib.hid (val_mid s h0' k hk (by omega)).1
    have hV := Lib.hid ((val_mid s h0' k hk (by omega)).2.2.1 hkk)
    obtain ⟨hp, hp0, hpz⟩ := ext_head s h0' k hk1 (by omega)
    have hlt : valL (s.extract 0 k).data.toList < 18446744073709551616 := by
      rw [head_at _ hp]
      exact valL_lt _ _ (by rw [← head_at _ hp, hp0, ← hk]; exact hpz)
    clear hk hp0
    subst hkk
    go_enter Tryz.func40, Tryz.ntmps40
    go_wp2_with (fail)
    go_loopw [6, 7] (fun v i x => RTRel s 2 v i ∧ Drw w x) (fun _ i _ => 9 - (intOf i).toNat)
    case atStart => exact ⟨⟨1, Nat.le_refl _, by omega, rfl, by rw [sumL_one]; rfl⟩, Drw.refl _⟩
    case round =>
      obtain ⟨⟨j, hj1, hjk, rfl, rfl⟩, hw⟩ := hrel
      have HW := Lib.hid hw; clear hw
      by_cases hjl : j < 2
      · have hjs : j < s.size := by omega
        go_wp2
        go_roundw
        case rel =>
          refine ⟨⟨j + 1, by omega, by omega, by go_num, ?_⟩, HW.out⟩
          rw [sumL_mid s j hj1 hjs]
          exact congrArg _ (wrap_step _ _)
        case measure => simp [intOf]; omega
      · obtain rfl : j = 2 := by omega
        obtain ⟨hq, hv⟩ := hV.out
        have hmm : ((valL (s.extract 0 2).data.toList : Nat) : Int) = (midN s 2 : Int) + (240 : Int) + (256 : Int) * ((s[0].toNat : Int) - (241 : Int)) := by rw [hv]; omega
        have HMM := Lib.hid hmm
        clear hmm hv
        rw [Nat.mod_eq_of_lt hQ.out]
        by_cases he : putL (valL (s.extract 0 2).data.toList) = (s.extract 0 2).data.toList
        · have hT' := Lib.hid (hT.out.trans (if_pos he))
          have hE := Lib.hid he; clear he
          generalize valL (s.extract 0 2).data.toList = m at *
          skip
          go_wp2_with (fail)
          go_region_with (go_at_call 38; refine (rput_at _ m _ hlt (by have := HMM.out; omega)).mono ?_; rintro e w3 ⟨rfl, hb⟩; have HB := Lib.hid hb; clear hb; rw [hE.out, ba_list])
          all_goals go_wp2_with (fail)
          all_goals go_quiet (fail)
          all_goals go_wp2_with (fail)
          all_goals go_ret3
          all_goals refine ⟨by rw [takeV, hT'.out, ba_list]; first | rfl | (simp only []; rw [HMM.out]; rfl), ?_⟩
          all_goals exact ((HW.out.bel.drew.trans HB.out).drewN _)
        · have hT' := Lib.hid (hT.out.trans (if_neg he))
          have hE : (putL (valL (s.extract 0 2).data.toList) == (s.extract 0 2).toList) = false := by
            rw [ByteArray.toList_eq, beq_eq_false_iff_ne]; exact he
          clear he
          generalize valL (s.extract 0 2).data.toList = m at *
          skip
          go_wp2_with (fail)
          go_region_with (go_at_call 38; refine (rput_at _ m _ hlt (by have := HMM.out; omega)).mono ?_; rintro e w3 ⟨rfl, hb⟩; have HB := Lib.hid hb; clear hb)
          all_goals go_wp2_with (fail)
          all_goals go_ret3
          all_goals refine ⟨by rw [takeV, hT'.out]; rfl, ?_⟩
          all_goals exact HW.out.bel.drew.trans HB.out
set_option maxHeartbeats 4000000 in
set_option maxRecDepth 20000 in
theorem rtake_three (s : ByteArray) (w : World) (hs : s.size ≤ 1000000) (h0' : 0 < s.size) (hb : (s[0].toNat : Int) = 249) :
    Calls Tryz.prog 40 #[.string s] w fun e w' => e = .returned (takeV s.data.toList) ∧ Bel w w' := by
  have h0 : ¬ s.size = 0 := by omega
  have hlt8 : (s[0].toNat : Int) < 256 := by have := s[0].toNat_lt; omega
  obtain ⟨k, hk⟩ : ∃ k, k = kOf s[0] := ⟨_, rfl⟩
  have hk1 := kOf_pos s[0]
  have hk9 := kOf_le s[0]
  rw [← hk] at hk1 hk9
  have hne : s.toList.isEmpty = false := by
    rw [ByteArray.toList_eq, head_at s h0']; rfl
  have hkk : k = 3 := by rw [hk]; unfold kOf; rw [if_neg (by omega), if_neg (by omega), if_pos (by omega)]
  have t1 : ¬ (250 : Int) ≤ (s[0].toNat : Int) := by omega
  have t2 : ((s[0].toNat : Int) == 249) = true := by rw [beq_iff_eq]; omega
  by_cases hl : s.size < k
  · have hT := Lib.hid (takeL_short s h0' k hk hl)
    clear hk
    subst hkk
    go_enter Tryz.func40, Tryz.ntmps40
    go_wp2_with (fail)
    go_ret3
    exact ⟨by rw [takeV, hT.out]; rfl, Bel.refl w⟩
  · have hT := Lib.hid (takeL_long s h0' k hk hl)
    have hQ := Lib.hid (val_mid s h0' k hk (by omega)).1
    have hV := Lib.hid ((val_mid s h0' k hk (by omega)).2.2.2.1 hkk)
    obtain ⟨hp, hp0, hpz⟩ := ext_head s h0' k hk1 (by omega)
    have hlt : valL (s.extract 0 k).data.toList < 18446744073709551616 := by
      rw [head_at _ hp]
      exact valL_lt _ _ (by rw [← head_at _ hp, hp0, ← hk]; exact hpz)
    clear hk hp0
    subst hkk
    go_enter Tryz.func40, Tryz.ntmps40
    go_wp2_with (fail)
    go_loopw [6, 7] (fun v i x => RTRel s 3 v i ∧ Drw w x) (fun _ i _ => 9 - (intOf i).toNat)
    case atStart => exact ⟨⟨1, Nat.le_refl _, by omega, rfl, by rw [sumL_one]; rfl⟩, Drw.refl _⟩
    case round =>
      obtain ⟨⟨j, hj1, hjk, rfl, rfl⟩, hw⟩ := hrel
      have HW := Lib.hid hw; clear hw
      by_cases hjl : j < 3
      · have hjs : j < s.size := by omega
        go_wp2
        go_roundw
        case rel =>
          refine ⟨⟨j + 1, by omega, by omega, by go_num, ?_⟩, HW.out⟩
          rw [sumL_mid s j hj1 hjs]
          exact congrArg _ (wrap_step _ _)
        case measure => simp [intOf]; omega
      · obtain rfl : j = 3 := by omega
        obtain ⟨hq, hv⟩ := hV.out
        have hmm : ((valL (s.extract 0 3).data.toList : Nat) : Int) = (midN s 3 : Int) + (2288 : Int) := by rw [hv]; omega
        have HMM := Lib.hid hmm
        clear hmm hv
        rw [Nat.mod_eq_of_lt hQ.out]
        by_cases he : putL (valL (s.extract 0 3).data.toList) = (s.extract 0 3).data.toList
        · have hT' := Lib.hid (hT.out.trans (if_pos he))
          have hE := Lib.hid he; clear he
          generalize valL (s.extract 0 3).data.toList = m at *
          skip
          go_wp2_with (fail)
          go_region_with (go_at_call 38; refine (rput_at _ m _ hlt (by have := HMM.out; omega)).mono ?_; rintro e w3 ⟨rfl, hb⟩; have HB := Lib.hid hb; clear hb; rw [hE.out, ba_list])
          all_goals go_wp2_with (fail)
          all_goals go_quiet (fail)
          all_goals go_wp2_with (fail)
          all_goals go_ret3
          all_goals refine ⟨by rw [takeV, hT'.out, ba_list]; first | rfl | (simp only []; rw [HMM.out]; rfl), ?_⟩
          all_goals exact ((HW.out.bel.drew.trans HB.out).drewN _)
        · have hT' := Lib.hid (hT.out.trans (if_neg he))
          have hE : (putL (valL (s.extract 0 3).data.toList) == (s.extract 0 3).toList) = false := by
            rw [ByteArray.toList_eq, beq_eq_false_iff_ne]; exact he
          clear he
          generalize valL (s.extract 0 3).data.toList = m at *
          skip
          go_wp2_with (fail)
          go_region_with (go_at_call 38; refine (rput_at _ m _ hlt (by have := HMM.out; omega)).mono ?_; rintro e w3 ⟨rfl, hb⟩; have HB := Lib.hid hb; clear hb)
          all_goals go_wp2_with (fail)
          all_goals go_ret3
          all_goals refine ⟨by rw [takeV, hT'.out]; rfl, ?_⟩
          all_goals exact HW.out.bel.drew.trans HB.out
set_option maxHeartbeats 4000000 in
set_option maxRecDepth 20000 in
theorem rtake_more (s : ByteArray) (w : World) (hs : s.size ≤ 1000000) (h0' : 0 < s.size) (hb : (250 : Int) ≤ (s[0].toNat : Int)) :
    Calls Tryz.prog 40 #[.string s] w fun e w' => e = .returned (takeV s.data.toList) ∧ Bel w w' := by
  have h0 : ¬ s.size = 0 := by omega
  have hlt8 : (s[0].toNat : Int) < 256 := by have := s[0].toNat_lt; omega
  obtain ⟨k, hk⟩ : ∃ k, k = kOf s[0] := ⟨_, rfl⟩
  have hk1 := kOf_pos s[0]
  have hk9 := kOf_le s[0]
  rw [← hk] at hk1 hk9
  have hne : s.toList.isEmpty = false := by
    rw [ByteArray.toList_eq, head_at s h0']; rfl
  have hkk : (s[0].toNat : Int) - 246 = (k : Int) ∧ 4 ≤ k := by rw [hk]; unfold kOf; rw [if_neg (by omega), if_neg (by omega), if_neg (by omega)]; omega
  have t2 : ((s[0].toNat : Int) == 249) = false := by rw [beq_eq_false_iff_ne]; omega
  have v1 : IntKind.i64.wrap (s[0].toNat : Int) = s[0].toNat := IntWalk.i64_in _ (by omega)
  have v2 : IntKind.i64.wrap ((s[0].toNat : Int) - 246) = (s[0].toNat : Int) - 246 := IntWalk.i64_in _ (by omega)
  obtain ⟨hkk, hk4⟩ := hkk
  by_cases hl : s.size < k
  · have hT := Lib.hid (takeL_short s h0' k hk hl)
    clear hk
    skip
    go_enter Tryz.func40, Tryz.ntmps40
    go_wp2_with (fail)
    go_ret3
    exact ⟨by rw [takeV, hT.out]; rfl, Bel.refl w⟩
  · have hT := Lib.hid (takeL_long s h0' k hk hl)
    have hQ := Lib.hid (val_mid s h0' k hk (by omega)).1
    have hV := Lib.hid ((val_mid s h0' k hk (by omega)).2.2.2.2 hk4)
    obtain ⟨hp, hp0, hpz⟩ := ext_head s h0' k hk1 (by omega)
    have hlt : valL (s.extract 0 k).data.toList < 18446744073709551616 := by
      rw [head_at _ hp]
      exact valL_lt _ _ (by rw [← head_at _ hp, hp0, ← hk]; exact hpz)
    clear hk hp0
    skip
    go_enter Tryz.func40, Tryz.ntmps40
    go_wp2_with (fail)
    go_loopw [6, 7] (fun v i x => RTRel s k v i ∧ Drw w x) (fun _ i _ => 9 - (intOf i).toNat)
    case atStart => exact ⟨⟨1, Nat.le_refl _, by omega, rfl, by rw [sumL_one]; rfl⟩, Drw.refl _⟩
    case round =>
      obtain ⟨⟨j, hj1, hjk, rfl, rfl⟩, hw⟩ := hrel
      have HW := Lib.hid hw; clear hw
      by_cases hjl : j < k
      · have hjs : j < s.size := by omega
        go_wp2
        go_roundw
        case rel =>
          refine ⟨⟨j + 1, by omega, by omega, by go_num, ?_⟩, HW.out⟩
          rw [sumL_mid s j hj1 hjs]
          exact congrArg _ (wrap_step _ _)
        case measure => simp [intOf]; omega
      · obtain rfl : k = j := by omega
        have hv := hV.out
        have hmm : ((valL (s.extract 0 k).data.toList : Nat) : Int) = (midN s k : Int) := by rw [hv]
        have HMM := Lib.hid hmm
        clear hmm hv
        rw [Nat.mod_eq_of_lt hQ.out]
        by_cases he : putL (valL (s.extract 0 k).data.toList) = (s.extract 0 k).data.toList
        · have hT' := Lib.hid (hT.out.trans (if_pos he))
          have hE := Lib.hid he; clear he
          generalize valL (s.extract 0 k).data.toList = m at *
          skip
          go_wp2_with (fail)
          go_region_with (go_at_call 38; refine (rput_at _ m _ hlt (by have := HMM.out; omega)).mono ?_; rintro e w3 ⟨rfl, hb⟩; have HB := Lib.hid hb; clear hb; rw [hE.out, ba_list])
          all_goals go_wp2_with (fail)
          all_goals go_quiet (fail)
          all_goals go_wp2_with (fail)
          all_goals go_ret3
          all_goals refine ⟨by rw [takeV, hT'.out, ba_list]; first | rfl | (simp only []; rw [HMM.out]; rfl), ?_⟩
          all_goals exact ((HW.out.bel.drew.trans HB.out).drewN _)
        · have hT' := Lib.hid (hT.out.trans (if_neg he))
          have hE : (putL (valL (s.extract 0 k).data.toList) == (s.extract 0 k).toList) = false := by
            rw [ByteArray.toList_eq, beq_eq_false_iff_ne]; exact he
          clear he
          generalize valL (s.extract 0 k).data.toList = m at *
          skip
          go_wp2_with (fail)
          go_region_with (go_at_call 38; refine (rput_at _ m _ hlt (by have := HMM.out; omega)).mono ?_; rintro e w3 ⟨rfl, hb⟩; have HB := Lib.hid hb; clear hb)
          all_goals go_wp2_with (fail)
          all_goals go_ret3
          all_goals refine ⟨by rw [takeV, hT'.out]; rfl, ?_⟩
          all_goals exact HW.out.bel.drew.trans HB.out
end Go.Proofs.YtedopiojidaeiaaGreatDoor
/- check.closing and moultref5.four: a sum's four bytes. -/
set_option linter.unusedSimpArgs false
set_option linter.unusedVariables false
namespace Go.Proofs.YtedopiojidaeiaaGreatDoor
open Go.RowKit Go.Deep

theorem big_four (n : Nat) (hn : n < 4294967296) : Lib.byteCells (bigL n 4) = [.int .u8 ((n : Int) / 16777216), .int .u8 ((n : Int) / 65536 % 256), .int .u8 ((n : Int) / 256 % 256), .int .u8 ((n : Int) % 256)] := by
  simp only [bigL, Lib.byteCells, List.nil_append, List.cons_append, List.map_cons, List.map_nil, UInt8.toNat_ofNat']
  simp only [List.cons.injEq, Value.int.injEq, true_and, and_true]
  refine ⟨?_, ?_, ?_, ?_⟩ <;> omega
theorem conv_four (W : World) (n : Nat) (hn : n < 4294967296) :
    (convert 95 9 (.slice (some ⟨W.heap.size, 0, none⟩) 4 4)).run Tryz.prog (W.alloc (.cells #[.int .u8 ((n : Int) / 16777216), .int .u8 ((n : Int) / 65536 % 256), .int .u8 ((n : Int) / 256 % 256), .int .u8 ((n : Int) % 256)] 5)) =
      .ok (.string ⟨(bigL n 4).toArray⟩) (W.alloc (.cells #[.int .u8 ((n : Int) / 16777216), .int .u8 ((n : Int) / 65536 % 256), .int .u8 ((n : Int) / 256 % 256), .int .u8 ((n : Int) % 256)] 5)) := by
  have h := own_new 0 W #[.int .u8 ((n : Int) / 16777216), .int .u8 ((n : Int) / 65536 % 256), .int .u8 ((n : Int) / 256 % 256), .int .u8 ((n : Int) % 256)] (bigL n 4) (by rw [big_four n hn]) (Nat.zero_le _) (by rw [bigL_len]; omega)
  rw [bigL_len] at h
  exact own_string h

set_option maxHeartbeats 2000000 in
theorem closing_any (s : ByteArray) (w : World) (hs : s.size ≤ maxLen) :
    Calls Tryz.prog 99 #[.string s] w fun e w' => e = .returned (.string ⟨(bigL (crcN s.data.toList) 4).toArray⟩) ∧ Bel w w' := by
  have hl := crc_lt s.data.toList
  go_enter Tryz.func99, Tryz.ntmps99
  go_wp2_with (fail)
  refine (sum5_any s w hs).mono ?_
  rintro e w1 ⟨rfl, hd⟩
  have HB := Lib.hid hd.bel; clear hd
  have hcv := conv_four w1 (crcN s.data.toList) hl
  go_wp2_with (fail)
  go_ret
  exact ⟨rfl, HB.out.alloc _⟩
set_option maxHeartbeats 2000000 in
theorem four_any (n : Nat) (w : World) (hn : n < 4294967296) :
    Calls Tryz.prog 111 #[.int .u32 n] w fun e w' => e = .returned (.string ⟨(bigL n 4).toArray⟩) ∧ Bel w w' := by
  have hcv := conv_four w n hn
  go_enter Tryz.func111, Tryz.ntmps111
  go_wp2_with (fail)
  go_ret
  exact ⟨rfl, (Bel.refl w).alloc _⟩

def frameV (l : List UInt8) : Value := .tuple #[.string ⟨(frameL l).toArray⟩, .int .i64 0]
def longV : Value := .tuple #[.string ⟨#[]⟩, .int .i64 10]
theorem ba_frame (s : ByteArray) : (⟨(putL s.size).toArray⟩ ++ s ++ ⟨(bigL (crcN s.data.toList) 4).toArray⟩ : ByteArray) = ⟨(frameL s.data.toList).toArray⟩ := by
  apply ByteArray.ext
  simp [frameL]

set_option maxHeartbeats 2000000 in
theorem frame_long (s : ByteArray) (w : World) (hs : s.size ≤ maxLen) (h : 40000 < s.size) :
    Calls Tryz.prog 70 #[.string s] w fun e w' => e = .returned longV ∧ Bel w w' := by
  unfold maxLen at hs
  go_enter Tryz.func70, Tryz.ntmps70
  go_wp2_with (fail)
  go_ret2
  exact ⟨rfl, Bel.refl w⟩
set_option maxHeartbeats 2000000 in
theorem frame_ok (s : ByteArray) (w : World) (h : s.size ≤ 40000) :
    Calls Tryz.prog 70 #[.string s] w fun e w' => e = .returned (frameV s.data.toList) ∧ Bel w w' := by
  have hz9 := szN_le s.size
  have hp := putL_len s.size
  have h4 := bigL_len 4 (crcN s.data.toList)
  go_enter Tryz.func70, Tryz.ntmps70
  go_wp2_with (fail)
  refine (put_any s.size w (by omega)).mono ?_
  rintro e w1 ⟨rfl, hb⟩
  have HB := Lib.hid hb; clear hb
  have hz1 : (⟨(putL s.size).toArray⟩ : ByteArray).size = szN s.size := by show (putL s.size).toArray.size = _; rw [List.size_toArray, hp]
  go_wp2_with (fail)
  refine (closing_any s w1 (by unfold maxLen; omega)).mono ?_
  rintro e w2 ⟨rfl, hb⟩
  replace HB := Lib.hid (HB.out.trans hb); clear hb
  go_wp2_with (fail)
  go_ret2
  exact ⟨by rw [frameV, ← ba_frame]; rfl, HB.out⟩
set_option maxHeartbeats 2000000 in
theorem rframe_ok (s : ByteArray) (w : World) (h : s.size ≤ 40000) :
    Calls Tryz.prog 88 #[.string s] w fun e w' => e = .returned (frameV s.data.toList) ∧ Bel w w' := by
  have hz9 := szN_le s.size
  have hp := putL_len s.size
  have h4 := bigL_len 4 (crcN s.data.toList)
  go_enter Tryz.func88, Tryz.ntmps88
  go_wp2_with (fail)
  refine (rput_any s.size w (by omega)).mono ?_
  rintro e w1 ⟨rfl, hb⟩
  have HB := Lib.hid hb; clear hb
  have hz1 : (⟨(putL s.size).toArray⟩ : ByteArray).size = szN s.size := by show (putL s.size).toArray.size = _; rw [List.size_toArray, hp]
  go_wp2_with (fail)
  refine (rsum5_any s w1 (by unfold maxLen; omega)).mono ?_
  rintro e w2 ⟨rfl, hb⟩
  replace HB := Lib.hid (HB.out.trans hb.bel); clear hb
  go_wp2_with (fail)
  refine (four_any _ w2 (crc_lt _)).mono ?_
  rintro e w3 ⟨rfl, hb⟩
  replace HB := Lib.hid (HB.out.trans hb); clear hb
  go_wp2_with (fail)
  go_ret2
  exact ⟨by rw [frameV, ← ba_frame]; rfl, HB.out⟩

/-- Whether some bytes begin with others. -/
theorem prefix0_any (s t : ByteArray) (w : World) (hs : s.size ≤ 1000000) (ht : t.size ≤ s.size) :
    Calls Tryz.prog 142 #[.string s, .string t] w fun e w' => e = .returned (.bool ((s.extract 0 t.size).toList == t.toList)) ∧ Bel w w' := by
  go_enter Tryz.func142, Tryz.ntmps142
  go_wp2_with (fail)
  go_ret
  exact ⟨rfl, Bel.refl w⟩
theorem prefix_any (s t : ByteArray) (w : World) (hs : s.size ≤ 1000000) (ht : t.size ≤ s.size) :
    Calls Tryz.prog 176 #[.string s, .string t] w fun e w' => e = .returned (.bool ((s.extract 0 t.size).toList == t.toList)) ∧ Bel w w' := by
  go_enter Tryz.func176, Tryz.ntmps176
  go_wp2_with (fail)
  refine (prefix0_any s t w hs ht).mono ?_
  rintro e w1 ⟨rfl, hb⟩
  have HB := Lib.hid hb; clear hb
  go_wp2_with (fail)
  go_ret
  exact ⟨rfl, HB.out⟩
end Go.Proofs.YtedopiojidaeiaaGreatDoor
