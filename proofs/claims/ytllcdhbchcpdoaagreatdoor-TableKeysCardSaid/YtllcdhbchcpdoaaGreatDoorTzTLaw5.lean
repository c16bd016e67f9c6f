/- TableKeys. -/
import Derived.Test.YtllcdhbchcpdoaaGreatDoorT27
import Derived.Test.YtllcdhbchcpdoaaGreatDoorT9
import Derived.Deep.QuietTactic
import Derived.BigQuiet
set_option linter.unusedSimpArgs false
set_option linter.unusedVariables false
namespace Go.Proofs.YtllcdhbchcpdoaaGreatDoor
open Go.RowKit Go.Deep

theorem mk_data5 (l : List UInt8) : (⟨l.toArray⟩ : ByteArray).data.toList = l := rfl
theorem mk_size5 (l : List UInt8) : (⟨l.toArray⟩ : ByteArray).size = l.length := by show l.toArray.size = _; rw [List.size_toArray]
theorem inner_max {s : ByteArray} (hs : s.size ≤ 1500) (q : Nat) : (innerL s.data.toList q).length ≤ 3010 := by
  have h1 := (esc_len s.data.toList).2
  have h2 : s.data.toList.length = s.size := rfl
  rw [inner_len]; omega
theorem cmp_zero (a b : List UInt8) : Lib.compareBytes a b = 0 ↔ a = b := by
  rcases cmp_tri a b with ⟨h, h'⟩ | ⟨h, h', _⟩ | ⟨h, _, h'⟩
  · constructor
    · intro e; omega
    · rintro rfl; rw [less_irrefl] at h'; cases h'
  · exact ⟨fun _ => h', fun _ => h⟩
  · exact ⟨fun e => by omega, fun e => absurd e h'⟩
theorem cut_keys {S T s0 s2 : ByteArray} {X Y n : Nat} (hS : S.data.toList = innerL s0.data.toList X) (hT : T.data.toList = innerL s2.data.toList Y) (hx : X ≤ 1099511627776) (hy : Y ≤ 1099511627776) (hn : n = min S.size T.size) :
    ((S.extract 0 n).toList == (T.extract 0 n).toList) = decide (s0.data.toList = s2.data.toList ∧ X = Y) := by
  have e1 : S.size = (innerL s0.data.toList X).length := by rw [← hS]; rfl
  have e2 : T.size = (innerL s2.data.toList Y).length := by rw [← hT]; rfl
  have h := inner_cut hx hy n (by rw [hn, e1, e2]) (k := s0.data.toList) (m := s2.data.toList)
  have d1 : (S.extract 0 n).toList = (innerL s0.data.toList X).take n := by
    rw [ByteArray.toList_eq, ByteArray.data_extract, Array.toList_extract, List.extract_eq_take_drop, List.drop_zero, hS, Nat.sub_zero]
  have d2 : (T.extract 0 n).toList = (innerL s2.data.toList Y).take n := by
    rw [ByteArray.toList_eq, ByteArray.data_extract, Array.toList_extract, List.extract_eq_take_drop, List.drop_zero, hT, Nat.sub_zero]
  rw [d1, d2, ← decide_eq_decide.2 h]
  cases hd : ((innerL s0.data.toList X).take n == (innerL s2.data.toList Y).take n) with
  | true => rw [beq_iff_eq] at hd; rw [decide_eq_true hd]
  | false => rw [beq_eq_false_iff_ne] at hd; rw [decide_eq_false hd]
theorem bytes_at (S T : ByteArray) (d : Int) (w : World) (hS : S.size ≤ maxLen) (hT : T.size ≤ maxLen) (h : Lib.compareBytes S.data.toList T.data.toList = d) :
    Calls Tryz.prog 31 #[.string S, .string T] w fun e w' => e = .returned (.int .i64 d) ∧ Drw w w' := by
  subst h; exact ref_bytes_any S T w hS hT
set_option maxHeartbeats 4000000 in
theorem law_keys_any (W : World) (hstd : MaxOk W) (s0 : ByteArray) (i1 : Int) (s2 : ByteArray) (i3 : Int) (ws0 : s0.size ≤ maxLen) (bi1 : -9223372036854775808 ≤ i1 ∧ i1 ≤ 9223372036854775807) (ws2 : s2.size ≤ maxLen) (bi3 : -9223372036854775808 ≤ i3 ∧ i3 ≤ 9223372036854775807) :
    Calls Tryz.prog 7 #[.string s0, .int .i64 i1, .string s2, .int .i64 i3] W fun e w' => e = .returned (.bool true) ∧ Bel W w' := by
  unfold maxLen at ws0 ws2
  go_enter Tryz.func7, Tryz.ntmps7
  go_wp2_with (fail)
  refine (shown10_any _ hstd).mono ?_
  rintro e w1 ⟨rfl, hb1⟩
  have HB1 := Lib.hid hb1; clear hb1
  by_cases h0 : s0.size ≤ 1500
  · by_cases h2 : s2.size ≤ 1500
    · have h0' : ¬ (1500 : Int) < s0.size := by omega
      have h2' : ¬ (1500 : Int) < s2.size := by omega
      obtain ⟨X, hX⟩ : ∃ X, pickM i1 1099511627777 = X := ⟨_, rfl⟩
      obtain ⟨Y, hY⟩ : ∃ Y, pickM i3 1099511627777 = Y := ⟨_, rfl⟩
      have hx : X ≤ 1099511627776 := by rw [← hX]; exact Nat.le_of_lt_succ (pickM_lt i1 (by decide))
      have hy : Y ≤ 1099511627776 := by rw [← hY]; exact Nat.le_of_lt_succ (pickM_lt i3 (by decide))
      go_wp2_with (fail)
      refine (pickM_at i1 1099511627777 1099511627777 _ bi1 (by decide) (by decide) (by decide)).mono ?_
      rintro e w2 ⟨rfl, hb2⟩
      have HB2 := Lib.hid (HB1.out.trans hb2.bel); clear hb2
      rw [hX]
      go_wp2_with (fail)
      refine (pickM_at i3 1099511627777 1099511627777 _ bi3 (by decide) (by decide) (by decide)).mono ?_
      rintro e w3 ⟨rfl, hb3⟩
      have HB3 := Lib.hid (HB2.out.trans hb3.bel); clear hb3
      rw [hY]
      clear hX hY
      go_wp2_with (fail)
      refine (pinner_any s0 X _ (by omega) (by omega)).mono ?_
      rintro e w4 ⟨rfl, hb4⟩
      have HB4 := Lib.hid (HB3.out.trans hb4); clear hb4
      obtain ⟨S, hS⟩ : ∃ S : ByteArray, S = ⟨(innerL s0.data.toList X).toArray⟩ := ⟨_, rfl⟩
      have hSd : S.data.toList = innerL s0.data.toList X := by rw [hS]
      have hSz : S.size ≤ 3010 := by rw [hS, mk_size5]; exact inner_max h0 X
      rw [← hS]
      have HS := Lib.hid hSd; clear hSd hS
      go_wp2_with (fail)
      refine (pinner_any s2 Y _ (by omega) (by omega)).mono ?_
      rintro e w5 ⟨rfl, hb5⟩
      have HB5 := Lib.hid (HB4.out.trans hb5); clear hb5
      obtain ⟨T, hT⟩ : ∃ T : ByteArray, T = ⟨(innerL s2.data.toList Y).toArray⟩ := ⟨_, rfl⟩
      have hTd : T.data.toList = innerL s2.data.toList Y := by rw [hT]
      have hTz : T.size ≤ 3010 := by rw [hT, mk_size5]; exact inner_max h2 Y
      rw [← hT]
      have HT := Lib.hid hTd; clear hTd hT
      go_wp2_with (fail)
      refine (pouter_any S _ (by omega) (hstd.bel HB5.out)).mono ?_
      rintro e w6 ⟨ho, hb6⟩
      have HB6 := Lib.hid (HB5.out.trans hb6); clear hb6
      have hoi : OuterIs S.data.toList s0.data.toList X := ⟨hx, HS.out.symm⟩
      obtain rfl : e = .returned (.tuple #[.string s0, .int .i64 (X : Nat), .bool true]) := by
        rcases ho with ⟨k, q, hk, rfl⟩ | ⟨hno, _⟩
        · obtain ⟨rfl, rfl⟩ := outer_one hk hoi
          rfl
        · exact absurd ⟨_, _, hoi⟩ hno
      clear ho hoi
      have hself : (s0.toList == s0.toList) = true := beq_self_eq_true _
      go_wp2_with (fail)
      refine (ref_bytes_any s0 s2 _ ws0 ws2).mono ?_
      rintro e w7 ⟨rfl, hb7⟩
      have HB7 := Lib.hid (HB6.out.trans hb7.bel); clear hb7
      have HD := Lib.hid (show Lib.compareBytes S.data.toList T.data.toList = if Lib.compareBytes s0.data.toList s2.data.toList = 0 then (if X = Y then 0 else if Y < X then -1 else 1) else Lib.compareBytes s0.data.toList s2.data.toList by
        rw [HS.out, HT.out]; exact inner_cmp hx hy _ _)
      have HE := Lib.hid (show Lib.compareBytes s0.data.toList s2.data.toList = 0 ↔ s0.data.toList = s2.data.toList from cmp_zero _ _)
      obtain ⟨m, hm⟩ : ∃ m, m = min S.size T.size := ⟨_, rfl⟩
      have hmi : min (S.size : Int) (T.size : Int) = (m : Int) := by omega
      have hmS : (m : Int) ≤ (S.size : Int) := by omega
      have hmT : (m : Int) ≤ (T.size : Int) := by omega
      have hm0 : (0 : Int) ≤ (m : Int) := by omega
      have HA := Lib.hid (cut_keys HS.out HT.out hx hy hm)
      clear hm
      generalize Lib.compareBytes s0.data.toList s2.data.toList = C at *
      have hSm : S.size ≤ maxLen := by unfold maxLen; omega
      have hTm : T.size ≤ maxLen := by unfold maxLen; omega
      by_cases hc : C = 0
      · subst hc
        rw [if_pos rfl] at HD
        rcases Nat.lt_trichotomy X Y with hxy | hxy | hxy
        · have e1 : ¬ (X : Int) = Y := by omega
          have e2 : ¬ (Y : Int) < X := by omega
          have HF := Lib.hid (show decide (s0.data.toList = s2.data.toList ∧ X = Y) = false from decide_eq_false fun h => by omega)
          rw [if_neg (by omega), if_neg (by omega)] at HD
          go_wp2_with (fail)
          all_goals go_quiet ((go_at_call 31; exact Calls.quiet_of (bytes_at S T 1 _ hSm hTm HD.out)))
          all_goals go_wp2_with (fail)
          all_goals go_ret
          all_goals exact ⟨by first | (rw [HA.out, HF.out]; rfl) | (rw [HA.out, HF.out]; simp; done) | (rw [HA.out, HF.out]; simp [hc]), HB7.out.trans ((Bel.refl _).drewN _)⟩
        · subst hxy
          rw [if_pos rfl] at HD
          have HF := Lib.hid (show decide (s0.data.toList = s2.data.toList ∧ X = X) = true from decide_eq_true ⟨HE.out.1 rfl, rfl⟩)
          go_wp2_with (fail)
          all_goals go_quiet ((go_at_call 31; exact Calls.quiet_of (bytes_at S T 0 _ hSm hTm HD.out)))
          all_goals go_wp2_with (fail)
          all_goals go_ret
          all_goals exact ⟨by first | (rw [HA.out, HF.out]; rfl) | (rw [HA.out, HF.out]; simp; done) | (rw [HA.out, HF.out]; simp [hc]), HB7.out.trans ((Bel.refl _).drewN _)⟩
        · have e1 : ¬ (X : Int) = Y := by omega
          have e2 : (Y : Int) < X := by omega
          have HF := Lib.hid (show decide (s0.data.toList = s2.data.toList ∧ X = Y) = false from decide_eq_false fun h => by omega)
          rw [if_neg (by omega), if_pos (by omega)] at HD
          go_wp2_with (fail)
          all_goals go_quiet ((go_at_call 31; exact Calls.quiet_of (bytes_at S T (-1) _ hSm hTm HD.out)))
          all_goals go_wp2_with (fail)
          all_goals go_ret
          all_goals exact ⟨by first | (rw [HA.out, HF.out]; rfl) | (rw [HA.out, HF.out]; simp; done) | (rw [HA.out, HF.out]; simp [hc]), HB7.out.trans ((Bel.refl _).drewN _)⟩
      · rw [if_neg hc] at HD
        have HF := Lib.hid (show decide (s0.data.toList = s2.data.toList ∧ X = Y) = false from decide_eq_false fun h => hc (HE.out.2 h.1))
        go_wp2_with (fail)
        all_goals go_quiet ((go_at_call 31; exact Calls.quiet_of (bytes_at S T C _ hSm hTm HD.out)))
        all_goals go_wp2_with (fail)
        all_goals go_ret
        all_goals exact ⟨by first | (rw [HA.out, HF.out]; rfl) | (rw [HA.out, HF.out]; simp; done) | (rw [HA.out, HF.out]; simp [hc]), HB7.out.trans ((Bel.refl _).drewN _)⟩
    · have h0' : ¬ (1500 : Int) < s0.size := by omega
      have h2' : (1500 : Int) < s2.size := by omega
      go_wp2_with (fail)
      go_ret
      exact ⟨rfl, HB1.out⟩
  · have h0' : (1500 : Int) < s0.size := by omega
    go_wp2_with (fail)
    go_ret
    exact ⟨rfl, HB1.out⟩
end Go.Proofs.YtllcdhbchcpdoaaGreatDoor
