/- moultref3.Take: the document's answer for what some bytes begin with. (written by genvrtake.py) -/
import Derived.Test.YtldkpomkgmilbaaVTake
import Derived.Test.YtldkpomkgmilbaaVRef
set_option linter.unusedSimpArgs false
set_option linter.unusedVariables false
namespace Go.Proofs.Ytldkpomkgmilbaa
open Go.RowKit Go.Deep

/-- What is reckoned of the bytes from the second to so many. -/
def midN (s : ByteArray) (j : Nat) : Nat := sumL ((s.data.toList.take j).drop 1)
theorem rput_at (x : Int) (n : Nat) (w : World) (hn : n < 18446744073709551616) (hx : (n : Int) = x) :
    Calls Try.prog 42 #[.int .u64 x] w fun e w' => e = .returned (.string ⟨(putL n).toArray⟩) ∧ Bel w w' := by
  subst hx; exact rput_any n w hn
def RTRel (s : ByteArray) (k : Nat) (v i : Value) : Prop := ∃ j : Nat, 1 ≤ j ∧ j ≤ k ∧ i = .int .i64 j ∧ v = .int .u64 ((midN s j % 18446744073709551616 : Nat) : Int)
theorem sumL_mid (s : ByteArray) (k : Nat) (h1 : 1 ≤ k) (h : k < s.size) : midN s (k + 1) = midN s k * 256 + s[k].toNat := by
  unfold midN
  rw [← sumL_snoc, List.take_add_one]
  have e : s.data.toList[k]? = some s[k] := by rw [List.getElem?_eq_getElem (by simpa using h)]; rfl
  rw [e, List.drop_append_of_le_length (by rw [List.length_take]; have : s.data.toList.length = s.size := rfl
                                           omega)]
  rfl
theorem sumL_one (s : ByteArray) : midN s 1 = 0 := by
  unfold midN
  rw [List.drop_eq_nil_of_le (by rw [List.length_take]; omega)]; rfl
/-- What the loop has reckoned, and what so many bytes tell. -/
theorem val_mid (s : ByteArray) (h0 : 0 < s.size) (k : Nat) (hk : k = kOf s[0]) (h : k ≤ s.size) :
    midN s k < 18446744073709551616 ∧
    (k = 1 → valL (s.extract 0 k).data.toList = s[0].toNat) ∧
    (k = 2 → midN s k < 256 ∧ valL (s.extract 0 k).data.toList = midN s k + 240 + 256 * (s[0].toNat - 241)) ∧
    (k = 3 → midN s k < 65536 ∧ valL (s.extract 0 k).data.toList = midN s k + 2288) ∧
    (4 ≤ k → valL (s.extract 0 k).data.toList = midN s k) := by
  unfold midN
  have h9 := kOf_le s[0]
  have hp := kOf_pos s[0]
  rw [← hk] at h9 hp
  obtain ⟨h1, e0, hz⟩ := ext_head s h0 k hp h
  have e1 : (s.extract 0 k).data.toList = s.data.toList.take k := by rw [ext_data, List.drop_zero]
  have hd := head_at _ h1
  rw [e0, e1] at hd
  have hl : (s.data.toList.take k).length = k := by rw [← e1]; exact hz
  have hlt := sumL_lt ((s.data.toList.take k).drop 1)
  rw [List.length_drop, hl] at hlt
  rw [e1]
  unfold valL
  rw [hl]
  have hs : sumL (s.data.toList.take k) = s[0].toNat * 256 ^ (k - 1) + sumL ((s.data.toList.take k).drop 1) := by
    conv => lhs; rw [hd]
    rw [sumL_cons, List.length_drop, hl]
  refine ⟨?_, ?_, ?_, ?_, ?_⟩
  · have h2 : (256 : Nat) ^ (k - 1) ≤ 256 ^ 8 := Nat.pow_le_pow_right (by omega) (by omega)
    have e8 : (256 : Nat) ^ 8 = 18446744073709551616 := by decide
    omega
  · intro hc; rw [hc] at hlt hs ⊢; rw [if_pos rfl, hs]; simp only [Nat.sub_self, Nat.pow_zero] at hlt ⊢; omega
  · intro hc
    have hb : 241 ≤ s[0].toNat := by rw [hk] at hc; unfold kOf at hc; revert hc; (repeat' split) <;> omega
    rw [hc] at hlt hs ⊢; rw [if_neg (by omega), if_pos rfl, hs]
    simp only [Nat.reduceSub, Nat.pow_one] at hlt ⊢
    omega
  · intro hc; rw [hc] at hlt ⊢; rw [if_neg (by omega), if_neg (by omega), if_pos rfl]; exact ⟨hlt, rfl⟩
  · intro hc; rw [if_neg (by omega), if_neg (by omega), if_neg (by omega)]

set_option maxHeartbeats 4000000 in
set_option maxRecDepth 20000 in
theorem rtake_one (s : ByteArray) (w : World) (hs : s.size ≤ 1000000) (h0' : 0 < s.size) (hb : (s[0].toNat : Int) < 241) :
    Calls Try.prog 45 #[.string s] w fun e w' => e = .returned (takeV s.data.toList) ∧ Bel w w' := by
  have h0 : ¬ s.size = 0 := by omega
  have hlt8 : (s[0].toNat : Int) < 256 := by have := s[0].toNat_lt; omega
  obtain ⟨k, hk⟩ : ∃ k, k = kOf s[0] := ⟨_, rfl⟩
  have hk1 := kOf_pos s[0]
  have hk9 := kOf_le s[0]
  rw [← hk] at hk1 hk9
  have hne : s.toList.isEmpty = false := by
    rw [ByteArray.toList_eq, head_at s h0']; rfl
  have hkk : k = 1 := by rw [hk]; unfold kOf; rw [if_pos (by omega)]
  have t1 : ¬ (250 : Int) ≤ (s[0].toNat : Int) := by omega
  have t2 : ((s[0].toNat : Int) == 249) = false := by rw [beq_eq_false_iff_ne]; omega
  have t3 : ¬ (241 : Int) ≤ (s[0].toNat : Int) := by omega
  by_cases hl : s.size < k
  · have hT := Lib.hid (takeL_short s h0' k hk hl)
    clear hk
    subst hkk
    exact absurd hl (by omega)
  · have hT := Lib.hid (takeL_long s h0' k hk hl)
    have hQ := Lib.hid (val_mid s h0' k hk (by omega)).1
    have hV := Lib.hid ((val_mid s h0' k hk (by omega)).2.1 hkk)
    obtain ⟨hp, hp0, hpz⟩ := ext_head s h0' k hk1 (by omega)
    have hlt : valL (s.extract 0 k).data.toList < 18446744073709551616 := by
      rw [head_at _ hp]
      exact valL_lt _ _ (by rw [← head_at _ hp, hp0, ← hk]; exact hpz)
    clear hk hp0
    subst hkk
    go_enter Try.func45, Try.ntmps45
    go_wp2_with (fail)
    go_loopw [6, 7] (fun v i x => RTRel s 1 v i ∧ Drw w x) (fun _ i _ => 9 - (intOf i).toNat)
    case atStart => exact ⟨⟨1, Nat.le_refl _, by omega, rfl, by rw [sumL_one]; rfl⟩, Drw.refl _⟩
    case round =>
      obtain ⟨⟨j, hj1, hjk, rfl, rfl⟩, hw⟩ := hrel
      have HW := Lib.hid hw; clear hw
      by_cases hjl : j < 1
      · exact absurd hjl (by omega)
      · obtain rfl : j = 1 := by omega
        have hv := hV.out
        have hmm : ((valL (s.extract 0 1).data.toList : Nat) : Int) = (s[0].toNat : Int) := by rw [hv]
        have HMM := Lib.hid hmm
        clear hmm hv
        rw [Nat.mod_eq_of_lt hQ.out]
        by_cases he : putL (valL (s.extract 0 1).data.toList) = (s.extract 0 1).data.toList
        · have hT' := Lib.hid (hT.out.trans (if_pos he))
          have hE := Lib.hid he; clear he
          generalize valL (s.extract 0 1).data.toList = m at *
          skip
          go_wp2_with (fail)
          go_region_with (go_at_call 42; refine (rput_at _ m _ hlt (by have := HMM.out; omega)).mono ?_; rintro e w3 ⟨rfl, hb⟩; have HB := Lib.hid hb; clear hb; rw [hE.out, ba_list])
          all_goals go_wp2_with (fail)
          all_goals go_quiet (fail)
          all_goals go_wp2_with (fail)
          all_goals go_ret3
          all_goals refine ⟨by rw [takeV, hT'.out, ba_list]; first | rfl | (simp only []; rw [HMM.out]; rfl), ?_⟩
          all_goals exact ((HW.out.bel.drew.trans HB.out).drewN _)
        · have hT' := Lib.hid (hT.out.trans (if_neg he))
          have hE : (putL (valL (s.extract 0 1).data.toList) == (s.extract 0 1).toList) = false := by
            rw [ByteArray.toList_eq, beq_eq_false_iff_ne]; exact he
          clear he
          generalize valL (s.extract 0 1).data.toList = m at *
          skip
          go_wp2_with (fail)
          go_region_with (go_at_call 42; refine (rput_at _ m _ hlt (by have := HMM.out; omega)).mono ?_; rintro e w3 ⟨rfl, hb⟩; have HB := Lib.hid hb; clear hb)
          all_goals go_wp2_with (fail)
          all_goals go_ret3
          all_goals refine ⟨by rw [takeV, hT'.out]; rfl, ?_⟩
          all_goals exact HW.out.bel.drew.trans HB.out
set_option maxHeartbeats 4000000 in
set_option maxRecDepth 20000 in
theorem rtake_two (s : ByteArray) (w : World) (hs : s.size ≤ 1000000) (h0' : 0 < s.size) (hb : (241 : Int) ≤ (s[0].toNat : Int)) (hb2 : (s[0].toNat : Int) < 249) :
    Calls Try.prog 45 #[.string s] w fun e w' => e = .returned (takeV s.data.toList) ∧ Bel w w' := by
  have h0 : ¬ s.size = 0 := by omega
  have hlt8 : (s[0].toNat : Int) < 256 := by have := s[0].toNat_lt; omega
  obtain ⟨k, hk⟩ : ∃ k, k = kOf s[0] := ⟨_, rfl⟩
  have hk1 := kOf_pos s[0]
  have hk9 := kOf_le s[0]
  rw [← hk] at hk1 hk9
  have hne : s.toList.isEmpty = false := by
    rw [ByteArray.toList_eq, head_at s h0']; rfl
  have hkk : k = 2 := by rw [hk]; unfold kOf; rw [if_neg (by omega), if_pos (by omega)]
  have t1 : ¬ (250 : Int) ≤ (s[0].toNat : Int) := by omega
  have t2 : ((s[0].toNat : Int) == 249) = false := by rw [beq_eq_false_iff_ne]; omega
  have v3 : IntKind.u8.wrap ((s[0].toNat : Int) - 241) = (s[0].toNat : Int) - 241 := by simp [IntKind.wrap, IntKind.bits, IntKind.signed]; omega
  by_cases hl : s.size < k
  · have hT := Lib.hid (takeL_short s h0' k hk hl)
    clear hk
    subst hkk
    go_enter Try.func45, Try.ntmps45
    go_wp2_with (fail)
    go_ret3
    exact ⟨by rw [takeV, hT.out]; rfl, Bel.refl w⟩
  · have hT := Lib.hid (takeL_long s h0' k hk hl)
    have hQ := Lib.hid (val_mid s h0' k hk (by omega)).1
    have hV := Lib.hid ((val_mid s h0' k hk (by omega)).2.2.1 hkk)
    obtain ⟨hp, hp0, hpz⟩ := ext_head s h0' k hk1 (by omega)
    have hlt : valL (s.extract 0 k).data.toList < 18446744073709551616 := by
      rw [head_at _ hp]
      exact valL_lt _ _ (by rw [← head_at _ hp, hp0, ← hk]; exact hpz)
    clear hk hp0
    subst hkk
    go_enter Try.func45, Try.ntmps45
    go_wp2_with (fail)
    go_loopw [6, 7] (fun v i x => RTRel s 2 v i ∧ Drw w x) (fun _ i _ => 9 - (intOf i).toNat)
    case atStart => exact ⟨⟨1, Nat.le_refl _, by omega, rfl, by rw [sumL_one]; rfl⟩, Drw.refl _⟩
    case round =>
      obtain ⟨⟨j, hj1, hjk, rfl, rfl⟩, hw⟩ := hrel
      have HW := Lib.hid hw; clear hw
      by_cases hjl : j < 2
      · have hjs : j < s.size := by omega
        go_wp2
        go_roundw
        case rel =>
          refine ⟨⟨j + 1, by omega, by omega, by go_num, ?_⟩, HW.out⟩
          rw [sumL_mid s j hj1 hjs]
          exact congrArg _ (wrap_step _ _)
        case measure => simp [intOf]; omega
      · obtain rfl : j = 2 := by omega
        obtain ⟨hq, hv⟩ := hV.out
        have hmm : ((valL (s.extract 0 2).data.toList : Nat) : Int) = (midN s 2 : Int) + (240 : Int) + (256 : Int) * ((s[0].toNat : Int) - (241 : Int)) := by rw [hv]; omega
        have HMM := Lib.hid hmm
        clear hmm hv
        rw [Nat.mod_eq_of_lt hQ.out]
        by_cases he : putL (valL (s.extract 0 2).data.toList) = (s.extract 0 2).data.toList
        · have hT' := Lib.hid (hT.out.trans (if_pos he))
          have hE := Lib.hid he; clear he
          generalize valL (s.extract 0 2).data.toList = m at *
          skip
          go_wp2_with (fail)
          go_region_with (go_at_call 42; refine (rput_at _ m _ hlt (by have := HMM.out; omega)).mono ?_; rintro e w3 ⟨rfl, hb⟩; have HB := Lib.hid hb; clear hb; rw [hE.out, ba_list])
          all_goals go_wp2_with (fail)
          all_goals go_quiet (fail)
          all_goals go_wp2_with (fail)
          all_goals go_ret3
          all_goals refine ⟨by rw [takeV, hT'.out, ba_list]; first | rfl | (simp only []; rw [HMM.out]; rfl), ?_⟩
          all_goals exact ((HW.out.bel.drew.trans HB.out).drewN _)
        · have hT' := Lib.hid (hT.out.trans (if_neg he))
          have hE : (putL (valL (s.extract 0 2).data.toList) == (s.extract 0 2).toList) = false := by
            rw [ByteArray.toList_eq, beq_eq_false_iff_ne]; exact he
          clear he
          generalize valL (s.extract 0 2).data.toList = m at *
          skip
          go_wp2_with (fail)
          go_region_with (go_at_call 42; refine (rput_at _ m _ hlt (by have := HMM.out; omega)).mono ?_; rintro e w3 ⟨rfl, hb⟩; have HB := Lib.hid hb; clear hb)
          all_goals go_wp2_with (fail)
          all_goals go_ret3
          all_goals refine ⟨by rw [takeV, hT'.out]; rfl, ?_⟩
          all_goals exact HW.out.bel.drew.trans HB.out
set_option maxHeartbeats 4000000 in
set_option maxRecDepth 20000 in
theorem rtake_three (s : ByteArray) (w : World) (hs : s.size ≤ 1000000) (h0' : 0 < s.size) (hb : (s[0].toNat : Int) = 249) :
    Calls Try.prog 45 #[.string s] w fun e w' => e = .returned (takeV s.data.toList) ∧ Bel w w' := by
  have h0 : ¬ s.size = 0 := by omega
  have hlt8 : (s[0].toNat : Int) < 256 := by have := s[0].toNat_lt; omega
  obtain ⟨k, hk⟩ : ∃ k, k = kOf s[0] := ⟨_, rfl⟩
  have hk1 := kOf_pos s[0]
  have hk9 := kOf_le s[0]
  rw [← hk] at hk1 hk9
  have hne : s.toList.isEmpty = false := by
    rw [ByteArray.toList_eq, head_at s h0']; rfl
  have hkk : k = 3 := by rw [hk]; unfold kOf; rw [if_neg (by omega), if_neg (by omega), if_pos (by omega)]
  have t1 : ¬ (250 : Int) ≤ (s[0].toNat : Int) := by omega
  have t2 : ((s[0].toNat : Int) == 249) = true := by rw [beq_iff_eq]; omega
  by_cases hl : s.size < k
  · have hT := Lib.hid (takeL_short s h0' k hk hl)
    clear hk
    subst hkk
    go_enter Try.func45, Try.ntmps45
    go_wp2_with (fail)
    go_ret3
    exact ⟨by rw [takeV, hT.out]; rfl, Bel.refl w⟩
  · have hT := Lib.hid (takeL_long s h0' k hk hl)
    have hQ := Lib.hid (val_mid s h0' k hk (by omega)).1
    have hV := Lib.hid ((val_mid s h0' k hk (by omega)).2.2.2.1 hkk)
    obtain ⟨hp, hp0, hpz⟩ := ext_head s h0' k hk1 (by omega)
    have hlt : valL (s.extract 0 k).data.toList < 18446744073709551616 := by
      rw [head_at _ hp]
      exact valL_lt _ _ (by rw [← head_at _ hp, hp0, ← hk]; exact hpz)
    clear hk hp0
    subst hkk
    go_enter Try.func45, Try.ntmps45
    go_wp2_with (fail)
    go_loopw [6, 7] (fun v i x => RTRel s 3 v i ∧ Drw w x) (fun _ i _ => 9 - (intOf i).toNat)
    case atStart => exact ⟨⟨1, Nat.le_refl _, by omega, rfl, by rw [sumL_one]; rfl⟩, Drw.refl _⟩
    case round =>
      obtain ⟨⟨j, hj1, hjk, rfl, rfl⟩, hw⟩ := hrel
      have HW := Lib.hid hw; clear hw
      by_cases hjl : j < 3
      · have hjs : j < s.size := by omega
        go_wp2
        go_roundw
        case rel =>
          refine ⟨⟨j + 1, by omega, by omega, by go_num, ?_⟩, HW.out⟩
          rw [sumL_mid s j hj1 hjs]
          exact congrArg _ (wrap_step _ _)
        case measure => simp [intOf]; omega
      · obtain rfl : j = 3 := by omega
        obtain ⟨hq, hv⟩ := hV.out
        have hmm : ((valL (s.extract 0 3).data.toList : Nat) : Int) = (midN s 3 : Int) + (2288 : Int) := by rw [hv]; omega
        have HMM := Lib.hid hmm
        clear hmm hv
        rw [Nat.mod_eq_of_lt hQ.out]
        by_cases he : putL (valL (s.extract 0 3).data.toList) = (s.extract 0 3).data.toList
        · have hT' := Lib.hid (hT.out.trans (if_pos he))
          have hE := Lib.hid he; clear he
          generalize valL (s.extract 0 3).data.toList = m at *
          skip
          go_wp2_with (fail)
          go_region_with (go_at_call 42; refine (rput_at _ m _ hlt (by have := HMM.out; omega)).mono ?_; rintro e w3 ⟨rfl, hb⟩; have HB := Lib.hid hb; clear hb; rw [hE.out, ba_list])
          all_goals go_wp2_with (fail)
          all_goals go_quiet (fail)
          all_goals go_wp2_with (fail)
          all_goals go_ret3
          all_goals refine ⟨by rw [takeV, hT'.out, ba_list]; first | rfl | (simp only []; rw [HMM.out]; rfl), ?_⟩
          all_goals exact ((HW.out.bel.drew.trans HB.out).drewN _)
        · have hT' := Lib.hid (hT.out.trans (if_neg he))
          have hE : (putL (valL (s.extract 0 3).data.toList) == (s.extract 0 3).toList) = false := by
            rw [ByteArray.toList_eq, beq_eq_false_iff_ne]; exact he
          clear he
          generalize valL (s.extract 0 3).data.toList = m at *
          skip
          go_wp2_with (fail)
          go_region_with (go_at_call 42; refine (rput_at _ m _ hlt (by have := HMM.out; omega)).mono ?_; rintro e w3 ⟨rfl, hb⟩; have HB := Lib.hid hb; clear hb)
          all_goals go_wp2_with (fail)
          all_goals go_ret3
          all_goals refine ⟨by rw [takeV, hT'.out]; rfl, ?_⟩
          all_goals exact HW.out.bel.drew.trans HB.out
set_option maxHeartbeats 4000000 in
set_option maxRecDepth 20000 in
theorem rtake_more (s : ByteArray) (w : World) (hs : s.size ≤ 1000000) (h0' : 0 < s.size) (hb : (250 : Int) ≤ (s[0].toNat : Int)) :
    Calls Try.prog 45 #[.string s] w fun e w' => e = .returned (takeV s.data.toList) ∧ Bel w w' := by
  have h0 : ¬ s.size = 0 := by omega
  have hlt8 : (s[0].toNat : Int) < 256 := by have := s[0].toNat_lt; omega
  obtain ⟨k, hk⟩ : ∃ k, k = kOf s[0] := ⟨_, rfl⟩
  have hk1 := kOf_pos s[0]
  have hk9 := kOf_le s[0]
  rw [← hk] at hk1 hk9
  have hne : s.toList.isEmpty = false := by
    rw [ByteArray.toList_eq, head_at s h0']; rfl
  have hkk : (s[0].toNat : Int) - 246 = (k : Int) ∧ 4 ≤ k := by rw [hk]; unfold kOf; rw [if_neg (by omega), if_neg (by omega), if_neg (by omega)]; omega
  have t2 : ((s[0].toNat : Int) == 249) = false := by rw [beq_eq_false_iff_ne]; omega
  have v1 : IntKind.i64.wrap (s[0].toNat : Int) = s[0].toNat := IntWalk.i64_in _ (by omega)
  have v2 : IntKind.i64.wrap ((s[0].toNat : Int) - 246) = (s[0].toNat : Int) - 246 := IntWalk.i64_in _ (by omega)
  obtain ⟨hkk, hk4⟩ := hkk
  by_cases hl : s.size < k
  · have hT := Lib.hid (takeL_short s h0' k hk hl)
    clear hk
    skip
    go_enter Try.func45, Try.ntmps45
    go_wp2_with (fail)
    go_ret3
    exact ⟨by rw [takeV, hT.out]; rfl, Bel.refl w⟩
  · have hT := Lib.hid (takeL_long s h0' k hk hl)
    have hQ := Lib.hid (val_mid s h0' k hk (by omega)).1
    have hV := Lib.hid ((val_mid s h0' k hk (by omega)).2.2.2.2 hk4)
    obtain ⟨hp, hp0, hpz⟩ := ext_head s h0' k hk1 (by omega)
    have hlt : valL (s.extract 0 k).data.toList < 18446744073709551616 := by
      rw [head_at _ hp]
      exact valL_lt _ _ (by rw [← head_at _ hp, hp0, ← hk]; exact hpz)
    clear hk hp0
    skip
    go_enter Try.func45, Try.ntmps45
    go_wp2_with (fail)
    go_loopw [6, 7] (fun v i x => RTRel s k v i ∧ Drw w x) (fun _ i _ => 9 - (intOf i).toNat)
    case atStart => exact ⟨⟨1, Nat.le_refl _, by omega, rfl, by rw [sumL_one]; rfl⟩, Drw.refl _⟩
    case round =>
      obtain ⟨⟨j, hj1, hjk, rfl, rfl⟩, hw⟩ := hrel
      have HW := Lib.hid hw; clear hw
      by_cases hjl : j < k
      · have hjs : j < s.size := by omega
        go_wp2
        go_roundw
        case rel =>
          refine ⟨⟨j + 1, by omega, by omega, by go_num, ?_⟩, HW.out⟩
          rw [sumL_mid s j hj1 hjs]
          exact congrArg _ (wrap_step _ _)
        case measure => simp [intOf]; omega
      · obtain rfl : k = j := by omega
        have hv := hV.out
        have hmm : ((valL (s.extract 0 k).data.toList : Nat) : Int) = (midN s k : Int) := by rw [hv]
        have HMM := Lib.hid hmm
        clear hmm hv
        rw [Nat.mod_eq_of_lt hQ.out]
        by_cases he : putL (valL (s.extract 0 k).data.toList) = (s.extract 0 k).data.toList
        · have hT' := Lib.hid (hT.out.trans (if_pos he))
          have hE := Lib.hid he; clear he
          generalize valL (s.extract 0 k).data.toList = m at *
          skip
          go_wp2_with (fail)
          go_region_with (go_at_call 42; refine (rput_at _ m _ hlt (by have := HMM.out; omega)).mono ?_; rintro e w3 ⟨rfl, hb⟩; have HB := Lib.hid hb; clear hb; rw [hE.out, ba_list])
          all_goals go_wp2_with (fail)
          all_goals go_quiet (fail)
          all_goals go_wp2_with (fail)
          all_goals go_ret3
          all_goals refine ⟨by rw [takeV, hT'.out, ba_list]; first | rfl | (simp only []; rw [HMM.out]; rfl), ?_⟩
          all_goals exact ((HW.out.bel.drew.trans HB.out).drewN _)
        · have hT' := Lib.hid (hT.out.trans (if_neg he))
          have hE : (putL (valL (s.extract 0 k).data.toList) == (s.extract 0 k).toList) = false := by
            rw [ByteArray.toList_eq, beq_eq_false_iff_ne]; exact he
          clear he
          generalize valL (s.extract 0 k).data.toList = m at *
          skip
          go_wp2_with (fail)
          go_region_with (go_at_call 42; refine (rput_at _ m _ hlt (by have := HMM.out; omega)).mono ?_; rintro e w3 ⟨rfl, hb⟩; have HB := Lib.hid hb; clear hb)
          all_goals go_wp2_with (fail)
          all_goals go_ret3
          all_goals refine ⟨by rw [takeV, hT'.out]; rfl, ?_⟩
          all_goals exact HW.out.bel.drew.trans HB.out
end Go.Proofs.Ytldkpomkgmilbaa
