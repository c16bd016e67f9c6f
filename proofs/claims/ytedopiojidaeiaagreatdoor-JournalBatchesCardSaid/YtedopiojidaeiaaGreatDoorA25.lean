/- CUnf, laid together. -/
import Derived.Test.YtedopiojidaeiaaGreatDoorA24
/- check.Unframe and moultref5.Unframe: the frame with which some bytes begin. -/
set_option linter.unusedSimpArgs false
set_option linter.unusedVariables false
namespace Go.Proofs.YtedopiojidaeiaaGreatDoor
open Go.RowKit Go.Deep

theorem rtake_any (s : ByteArray) (w : World) (hs : s.size ≤ 1000000) :
    Calls Tryz.prog 40 #[.string s] w fun e w' => e = .returned (takeV s.data.toList) ∧ Bel w w' := by
  by_cases h0 : s.size = 0
  · obtain rfl : s = ⟨#[]⟩ := by apply ByteArray.ext; exact Array.eq_empty_of_size_eq_zero h0
    go_enter Tryz.func40, Tryz.ntmps40
    go_wp2_with (fail)
    go_ret3
    exact ⟨rfl, Bel.refl w⟩
  have h0' : 0 < s.size := by omega
  by_cases h1 : (s[0].toNat : Int) < 241
  · exact rtake_one s w hs h0' h1
  by_cases h2 : (s[0].toNat : Int) < 249
  · exact rtake_two s w hs h0' (by omega) h2
  by_cases h3 : (s[0].toNat : Int) = 249
  · exact rtake_three s w hs h0' h3
  · exact rtake_more s w hs h0' (by omega)

def unV (l : List UInt8) : Value := .tuple #[.string ⟨(unframeL l).1.toArray⟩, .string ⟨(unframeL l).2.1.toArray⟩, .int .i64 (unframeL l).2.2]
theorem prefix_at (s t : ByteArray) (b : Bool) (w : World) (hs : s.size ≤ 1000000) (ht : t.size ≤ s.size) (h : (s.data.toList.take t.size == t.data.toList) = b) :
    Calls Tryz.prog 176 #[.string s, .string t] w fun e w' => e = .returned (.bool b) ∧ Bel w w' := by
  have e : ((s.extract 0 t.size).toList == t.toList) = b := by
    rw [← h, ByteArray.toList_eq, ByteArray.toList_eq, ext_data, List.drop_zero]
  rw [← e]
  exact prefix_any s t w hs ht
theorem closing_at (s : ByteArray) (l : List UInt8) (w : World) (hs : s.size ≤ 1000000) (h : s.data.toList = l) :
    Calls Tryz.prog 99 #[.string s] w fun e w' => e = .returned (.string ⟨(bigL (crcN l) 4).toArray⟩) ∧ Bel w w' := by
  subst h; exact closing_any s w (by unfold maxLen; omega)
/-- What some bytes are taken as, its rest as a string. -/
theorem take_parts (l : List UInt8) (n : Nat) (r : List UInt8) (b : Bool) (h : takeL l = (n, r, b)) : takeV l = .tuple #[.int .u64 (n : Int), .string ⟨r.toArray⟩, .bool b] := by rw [takeV, h]
theorem un_none (l : List UInt8) (n : Nat) (r : List UInt8) (h : takeL l = (n, r, false)) : unV l = .tuple #[.string ⟨#[]⟩, .string ⟨#[]⟩, .int .i64 8] := by
  rw [unV, unframeL, h, if_pos rfl]
theorem un_long (l : List UInt8) (n : Nat) (r : List UInt8) (h : takeL l = (n, r, true)) (hn : 40000 < n) : unV l = .tuple #[.string ⟨#[]⟩, .string ⟨#[]⟩, .int .i64 10] := by
  rw [unV, unframeL, h, if_neg (by simp), if_pos hn]
theorem un_few (l : List UInt8) (n : Nat) (r : List UInt8) (h : takeL l = (n, r, true)) (hn : n ≤ 40000) (hr : r.length < n + 4) : unV l = .tuple #[.string ⟨#[]⟩, .string ⟨#[]⟩, .int .i64 8] := by
  rw [unV, unframe_of h hn, if_pos hr]
theorem un_wrong (l : List UInt8) (n : Nat) (r : List UInt8) (h : takeL l = (n, r, true)) (hn : n ≤ 40000) (hr : ¬ r.length < n + 4) (hs : ¬ bigL (crcN (r.take n)) 4 = (r.drop n).take 4) :
    unV l = .tuple #[.string ⟨#[]⟩, .string ⟨#[]⟩, .int .i64 9] := by
  rw [unV, unframe_of h hn, if_neg hr, if_neg hs]
theorem un_ok (l : List UInt8) (n : Nat) (r : List UInt8) (h : takeL l = (n, r, true)) (hn : n ≤ 40000) (hr : ¬ r.length < n + 4) (hs : bigL (crcN (r.take n)) 4 = (r.drop n).take 4) :
    unV l = .tuple #[.string ⟨(r.take n).toArray⟩, .string ⟨(r.drop (n + 4)).toArray⟩, .int .i64 0] := by
  rw [unV, unframe_of h hn, if_neg hr, if_pos hs]

set_option maxHeartbeats 4000000 in
theorem unframe_any (s : ByteArray) (w : World) (hs : s.size ≤ 1000000) :
    Calls Tryz.prog 163 #[.string s] w fun e w' => e = .returned (unV s.data.toList) ∧ Bel w w' := by
  obtain ⟨n, r, b, hT⟩ : ∃ n r b, takeL s.data.toList = (n, r, b) := ⟨_, _, _, rfl⟩
  have hrest := take_rest s.data.toList
  have hV := Lib.hid (take_parts _ _ _ _ hT)
  rw [hT] at hrest
  have hsl : s.data.toList.length = s.size := rfl
  have hrs : r.length ≤ s.size := by simp only [] at hrest; omega
  clear hrest
  have hz : (⟨r.toArray⟩ : ByteArray).size = r.length := by show r.toArray.size = _; simp
  cases b with
  | false =>
    have HU := Lib.hid (un_none _ _ _ hT)
    clear hT
    go_enter Tryz.func163, Tryz.ntmps163
    go_wp2_with (fail)
    refine (take_any s w hs).mono ?_
    rintro e w1 ⟨rfl, hb⟩
    have HB := Lib.hid hb; clear hb
    rw [hV.out]
    go_wp2_with (fail)
    go_ret3
    exact ⟨by rw [HU.out]; rfl, HB.out⟩
  | true =>
    by_cases hn : 40000 < n
    · have HU := Lib.hid (un_long _ _ _ hT hn)
      clear hT
      go_enter Tryz.func163, Tryz.ntmps163
      go_wp2_with (fail)
      refine (take_any s w hs).mono ?_
      rintro e w1 ⟨rfl, hb⟩
      have HB := Lib.hid hb; clear hb
      rw [hV.out]
      go_wp2_with (fail)
      go_ret3
      exact ⟨by rw [HU.out]; rfl, HB.out⟩
    by_cases hr : r.length < n + 4
    · have HU := Lib.hid (un_few _ _ _ hT (by omega) hr)
      clear hT
      go_enter Tryz.func163, Tryz.ntmps163
      go_wp2_with (fail)
      refine (take_any s w hs).mono ?_
      rintro e w1 ⟨rfl, hb⟩
      have HB := Lib.hid hb; clear hb
      rw [hV.out]
      go_wp2_with (fail)
      go_ret3
      exact ⟨by rw [HU.out]; rfl, HB.out⟩
    by_cases he : bigL (crcN (r.take n)) 4 = (r.drop n).take 4
    · have HU := Lib.hid (un_ok _ _ _ hT (by omega) hr he)
      clear hT
      have hl : (⟨r.toArray⟩ : ByteArray).data.toList = r := by simp
      generalize hra : (⟨r.toArray⟩ : ByteArray) = ra at *
      have h4 := bigL_len 4 (crcN (r.take n))
      have HP := Lib.hid (show (ra.extract 0 n).data.toList = r.take n by rw [ext_data, List.drop_zero, hl])
      have HQ := Lib.hid (show (ra.extract n r.length).data.toList = r.drop n by rw [ext_data, hl, List.take_of_length_le (by omega)])
      have HQ4 := Lib.hid (show (ra.extract n (n + 4)).data.toList = (r.drop n).take 4 by rw [ext_data, hl, List.drop_take]; congr 1; omega)
      have HR := Lib.hid (show (ra.extract (n + 4) r.length).data.toList = r.drop (n + 4) by rw [ext_data, hl, List.take_of_length_le (by omega)])
      have h4' : (⟨(bigL (crcN (r.take n)) 4).toArray⟩ : ByteArray).size = 4 := by show (bigL (crcN (r.take n)) 4).toArray.size = 4; simp [h4]
      have hzp : (ra.extract 0 n).size = n := by simp [ByteArray.size_extract]; omega
      have hzq : (ra.extract n r.length).size = r.length - n := by simp [ByteArray.size_extract]; omega
      have HX := Lib.hid (show (ra.extract n r.length).extract 4 (r.length - n) = ra.extract (n + 4) r.length by
        apply ByteArray.ext; apply Array.ext'; rw [ext_data, HQ.out, HR.out, List.take_of_length_le (by simp), List.drop_drop])
      have HE := Lib.hid he
      clear he hra hl h4
      go_enter Tryz.func163, Tryz.ntmps163
      go_wp2_with (fail)
      refine (take_any s w hs).mono ?_
      rintro e w1 ⟨rfl, hb⟩
      have HB := Lib.hid hb; clear hb
      rw [hV.out]
      go_wp2_with (fail)
      go_quiet (fail)
      go_wp2_with (fail)
      refine (closing_at (ra.extract 0 n) _ _ (by omega) HP.out).mono ?_
      rintro e w2 ⟨rfl, hb⟩
      replace HB := Lib.hid ((HB.out.drewN _).trans hb); clear hb
      go_wp2_with (fail)
      refine (prefix_at _ _ true _ (by omega) (by rw [h4', hzq]; omega) (by rw [h4', HQ.out]; rw [beq_iff_eq]; exact HE.out.symm)).mono ?_
      rintro e w3 ⟨rfl, hb⟩
      replace HB := Lib.hid (HB.out.trans hb); clear hb
      go_wp2_with (fail)
      go_quiet (fail)
      go_wp2_with (fail)
      go_ret3
      refine ⟨?_, HB.out.drewN _⟩
      rw [HU.out]
      have e1 := congrArg (fun l : List UInt8 => (⟨l.toArray⟩ : ByteArray)) HP.out
      have e2 := congrArg (fun l : List UInt8 => (⟨l.toArray⟩ : ByteArray)) HR.out
      simp only [ba_list] at e1 e2
      rw [← e1, ← e2, ← HX.out]
      rfl
    · have HU := Lib.hid (un_wrong _ _ _ hT (by omega) hr he)
      clear hT
      have hl : (⟨r.toArray⟩ : ByteArray).data.toList = r := by simp
      generalize hra : (⟨r.toArray⟩ : ByteArray) = ra at *
      have h4 := bigL_len 4 (crcN (r.take n))
      have HP := Lib.hid (show (ra.extract 0 n).data.toList = r.take n by rw [ext_data, List.drop_zero, hl])
      have HQ := Lib.hid (show (ra.extract n r.length).data.toList = r.drop n by rw [ext_data, hl, List.take_of_length_le (by omega)])
      have HQ4 := Lib.hid (show (ra.extract n (n + 4)).data.toList = (r.drop n).take 4 by rw [ext_data, hl, List.drop_take]; congr 1; omega)
      have HR := Lib.hid (show (ra.extract (n + 4) r.length).data.toList = r.drop (n + 4) by rw [ext_data, hl, List.take_of_length_le (by omega)])
      have h4' : (⟨(bigL (crcN (r.take n)) 4).toArray⟩ : ByteArray).size = 4 := by show (bigL (crcN (r.take n)) 4).toArray.size = 4; simp [h4]
      have hzp : (ra.extract 0 n).size = n := by simp [ByteArray.size_extract]; omega
      have hzq : (ra.extract n r.length).size = r.length - n := by simp [ByteArray.size_extract]; omega
      have HX := Lib.hid (show (ra.extract n r.length).extract 4 (r.length - n) = ra.extract (n + 4) r.length by
        apply ByteArray.ext; apply Array.ext'; rw [ext_data, HQ.out, HR.out, List.take_of_length_le (by simp), List.drop_drop])
      have HE := Lib.hid he
      clear he hra hl h4
      go_enter Tryz.func163, Tryz.ntmps163
      go_wp2_with (fail)
      refine (take_any s w hs).mono ?_
      rintro e w1 ⟨rfl, hb⟩
      have HB := Lib.hid hb; clear hb
      rw [hV.out]
      go_wp2_with (fail)
      go_quiet (fail)
      go_wp2_with (fail)
      refine (closing_at (ra.extract 0 n) _ _ (by omega) HP.out).mono ?_
      rintro e w2 ⟨rfl, hb⟩
      replace HB := Lib.hid ((HB.out.drewN _).trans hb); clear hb
      go_wp2_with (fail)
      refine (prefix_at _ _ false _ (by omega) (by rw [h4', hzq]; omega) (by rw [h4', HQ.out]; rw [beq_eq_false_iff_ne]; exact fun h => HE.out h.symm)).mono ?_
      rintro e w3 ⟨rfl, hb⟩
      replace HB := Lib.hid (HB.out.trans hb); clear hb
      go_wp2_with (fail)
      go_ret3
      exact ⟨by rw [HU.out]; rfl, HB.out⟩
theorem rsum5_at (s : ByteArray) (l : List UInt8) (w : World) (hs : s.size ≤ 1000000) (h : s.data.toList = l) :
    Calls Tryz.prog 112 #[.string s] w fun e w' => e = .returned (.int .u32 ((crcN l : Nat) : Int)) ∧ Drw w w' := by
  subst h; exact rsum5_any s w (by unfold maxLen; omega)
set_option maxHeartbeats 4000000 in
theorem runframe_any (s : ByteArray) (w : World) (hs : s.size ≤ 1000000) :
    Calls Tryz.prog 119 #[.string s] w fun e w' => e = .returned (unV s.data.toList) ∧ Bel w w' := by
  obtain ⟨n, r, b, hT⟩ : ∃ n r b, takeL s.data.toList = (n, r, b) := ⟨_, _, _, rfl⟩
  have hrest := take_rest s.data.toList
  have hV := Lib.hid (take_parts _ _ _ _ hT)
  rw [hT] at hrest
  have hsl : s.data.toList.length = s.size := rfl
  have hrs : r.length ≤ s.size := by simp only [] at hrest; omega
  clear hrest
  have hz : (⟨r.toArray⟩ : ByteArray).size = r.length := by show r.toArray.size = _; simp
  cases b with
  | false =>
    have HU := Lib.hid (un_none _ _ _ hT)
    clear hT
    go_enter Tryz.func119, Tryz.ntmps119
    go_wp2_with (fail)
    refine (rtake_any s w hs).mono ?_
    rintro e w1 ⟨rfl, hb⟩
    have HB := Lib.hid hb; clear hb
    rw [hV.out]
    go_wp2_with (fail)
    go_ret3
    exact ⟨by rw [HU.out]; rfl, HB.out⟩
  | true =>
    by_cases hn : 40000 < n
    · have HU := Lib.hid (un_long _ _ _ hT hn)
      clear hT
      go_enter Tryz.func119, Tryz.ntmps119
      go_wp2_with (fail)
      refine (rtake_any s w hs).mono ?_
      rintro e w1 ⟨rfl, hb⟩
      have HB := Lib.hid hb; clear hb
      rw [hV.out]
      go_wp2_with (fail)
      go_ret3
      exact ⟨by rw [HU.out]; rfl, HB.out⟩
    by_cases hr : r.length < n + 4
    · have HU := Lib.hid (un_few _ _ _ hT (by omega) hr)
      clear hT
      go_enter Tryz.func119, Tryz.ntmps119
      go_wp2_with (fail)
      refine (rtake_any s w hs).mono ?_
      rintro e w1 ⟨rfl, hb⟩
      have HB := Lib.hid hb; clear hb
      rw [hV.out]
      go_wp2_with (fail)
      go_ret3
      exact ⟨by rw [HU.out]; rfl, HB.out⟩
    by_cases he : bigL (crcN (r.take n)) 4 = (r.drop n).take 4
    · have HU := Lib.hid (un_ok _ _ _ hT (by omega) hr he)
      clear hT
      have hl : (⟨r.toArray⟩ : ByteArray).data.toList = r := by simp
      generalize hra : (⟨r.toArray⟩ : ByteArray) = ra at *
      have h4 := bigL_len 4 (crcN (r.take n))
      have HP := Lib.hid (show (ra.extract 0 n).data.toList = r.take n by rw [ext_data, List.drop_zero, hl])
      have HQ := Lib.hid (show (ra.extract n r.length).data.toList = r.drop n by rw [ext_data, hl, List.take_of_length_le (by omega)])
      have HQ4 := Lib.hid (show (ra.extract n (n + 4)).data.toList = (r.drop n).take 4 by rw [ext_data, hl, List.drop_take]; congr 1; omega)
      have HR := Lib.hid (show (ra.extract (n + 4) r.length).data.toList = r.drop (n + 4) by rw [ext_data, hl, List.take_of_length_le (by omega)])
      have h4' : (⟨(bigL (crcN (r.take n)) 4).toArray⟩ : ByteArray).size = 4 := by show (bigL (crcN (r.take n)) 4).toArray.size = 4; simp [h4]
      have hzp : (ra.extract 0 n).size = n := by simp [ByteArray.size_extract]; omega
      have hzq : (ra.extract n r.length).size = r.length - n := by simp [ByteArray.size_extract]; omega
      have HX := Lib.hid (show (ra.extract n r.length).extract 4 (r.length - n) = ra.extract (n + 4) r.length by
        apply ByteArray.ext; apply Array.ext'; rw [ext_data, HQ.out, HR.out, List.take_of_length_le (by simp), List.drop_drop])
      have HE := Lib.hid he
      clear he hra hl h4
      go_enter Tryz.func119, Tryz.ntmps119
      go_wp2_with (fail)
      refine (rtake_any s w hs).mono ?_
      rintro e w1 ⟨rfl, hb⟩
      have HB := Lib.hid hb; clear hb
      rw [hV.out]
      go_wp2_with (fail)
      have hnr : n ≤ r.length := by omega
      have hBE : (bigL (crcN (r.take n)) 4 == (ra.extract n (n + 4)).toList) = true := by
        rw [ByteArray.toList_eq, HQ4.out, beq_iff_eq]; exact HE.out
      have hw4 : IntKind.i64.wrap ((n : Int) + 4) = (n : Int) + 4 := IntWalk.i64_in _ (by omega)
      go_region_with (first
        | (go_at_call 112; refine (rsum5_at _ _ _ (by omega) HP.out).mono ?_; rintro e w3 ⟨rfl, hb⟩; have HB3 := Lib.hid hb; clear hb)
        | (go_at_call 111; refine (four_any _ _ (crc_lt _)).mono ?_; rintro e w4 ⟨rfl, hb⟩; have HB4 := Lib.hid hb; clear hb))
      all_goals go_wp2_with (fail)
      all_goals go_quiet (fail)
      all_goals go_wp2_with (fail)
      all_goals go_ret3
      all_goals refine ⟨?_, ((HB.out.drew.trans HB3.out.bel).trans HB4.out).drewN _⟩
      all_goals rw [HU.out]
      all_goals have e1 := congrArg (fun l : List UInt8 => (⟨l.toArray⟩ : ByteArray)) HP.out
      all_goals have e2 := congrArg (fun l : List UInt8 => (⟨l.toArray⟩ : ByteArray)) HR.out
      all_goals simp only [ba_list] at e1 e2
      all_goals rw [← e1, ← e2]
      all_goals rfl
    · have HU := Lib.hid (un_wrong _ _ _ hT (by omega) hr he)
      clear hT
      have hl : (⟨r.toArray⟩ : ByteArray).data.toList = r := by simp
      generalize hra : (⟨r.toArray⟩ : ByteArray) = ra at *
      have h4 := bigL_len 4 (crcN (r.take n))
      have HP := Lib.hid (show (ra.extract 0 n).data.toList = r.take n by rw [ext_data, List.drop_zero, hl])
      have HQ := Lib.hid (show (ra.extract n r.length).data.toList = r.drop n by rw [ext_data, hl, List.take_of_length_le (by omega)])
      have HQ4 := Lib.hid (show (ra.extract n (n + 4)).data.toList = (r.drop n).take 4 by rw [ext_data, hl, List.drop_take]; congr 1; omega)
      have HR := Lib.hid (show (ra.extract (n + 4) r.length).data.toList = r.drop (n + 4) by rw [ext_data, hl, List.take_of_length_le (by omega)])
      have h4' : (⟨(bigL (crcN (r.take n)) 4).toArray⟩ : ByteArray).size = 4 := by show (bigL (crcN (r.take n)) 4).toArray.size = 4; simp [h4]
      have hzp : (ra.extract 0 n).size = n := by simp [ByteArray.size_extract]; omega
      have hzq : (ra.extract n r.length).size = r.length - n := by simp [ByteArray.size_extract]; omega
      have HX := Lib.hid (show (ra.extract n r.length).extract 4 (r.length - n) = ra.extract (n + 4) r.length by
        apply ByteArray.ext; apply Array.ext'; rw [ext_data, HQ.out, HR.out, List.take_of_length_le (by simp), List.drop_drop])
      have HE := Lib.hid he
      clear he hra hl h4
      go_enter Tryz.func119, Tryz.ntmps119
      go_wp2_with (fail)
      refine (rtake_any s w hs).mono ?_
      rintro e w1 ⟨rfl, hb⟩
      have HB := Lib.hid hb; clear hb
      rw [hV.out]
      go_wp2_with (fail)
      have hnr : n ≤ r.length := by omega
      have hBE : (bigL (crcN (r.take n)) 4 == (ra.extract n (n + 4)).toList) = false := by
        rw [ByteArray.toList_eq, HQ4.out, beq_eq_false_iff_ne]; exact HE.out
      have hw4 : IntKind.i64.wrap ((n : Int) + 4) = (n : Int) + 4 := IntWalk.i64_in _ (by omega)
      go_region_with (first
        | (go_at_call 112; refine (rsum5_at _ _ _ (by omega) HP.out).mono ?_; rintro e w3 ⟨rfl, hb⟩; have HB3 := Lib.hid hb; clear hb)
        | (go_at_call 111; refine (four_any _ _ (crc_lt _)).mono ?_; rintro e w4 ⟨rfl, hb⟩; have HB4 := Lib.hid hb; clear hb))
      all_goals go_wp2_with (fail)
      all_goals go_ret3
      all_goals exact ⟨by rw [HU.out]; rfl, (HB.out.drew.trans HB3.out.bel).trans HB4.out⟩
end Go.Proofs.YtedopiojidaeiaaGreatDoor
