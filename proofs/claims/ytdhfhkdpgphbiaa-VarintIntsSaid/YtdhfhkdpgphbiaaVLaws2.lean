/- VarintBack, VarintOrders: true for every argument. -/
import Derived.Test.YtdhfhkdpgphbiaaVLaws
import Derived.Test.YtdhfhkdpgphbiaaCmp2
set_option linter.unusedSimpArgs false
set_option linter.unusedVariables false
namespace Go.Proofs.Ytdhfhkdpgphbiaa
open Go.RowKit Go.Deep

theorem take_put_any (n : Nat) (s : ByteArray) (w : World) (hn : n < 18446744073709551616) (hs : s.size ≤ 900000) :
    Calls Try.prog 13 #[.string (⟨(putL n).toArray⟩ ++ s)] w fun e w' => e = .returned (.tuple #[.int .u64 n, .string s, .bool true]) ∧ Bel w w' := by
  have hl := putL_len n
  have h9 := szN_le n
  have e : (⟨(putL n).toArray⟩ ++ s : ByteArray).data.toList = putL n ++ s.data.toList := by simp
  refine (take_any _ w (by rw [ByteArray.size_append]; show (putL n).toArray.size + _ ≤ _; simp; omega)).mono ?_
  rintro e1 w1 ⟨rfl, hb⟩
  refine ⟨?_, hb⟩
  rw [e, takeV, take_put n hn, ba_list]
theorem take_cut_any (n i : Nat) (w : World) (hn : n < 18446744073709551616) (hi : i < szN n) :
    Calls Try.prog 13 #[.string ((⟨(putL n).toArray⟩ : ByteArray).extract 0 i)] w fun e w' => e = .returned (.tuple #[.int .u64 0, .string ⟨#[]⟩, .bool false]) ∧ Bel w w' := by
  have h9 := szN_le n
  have e : ((⟨(putL n).toArray⟩ : ByteArray).extract 0 i).data.toList = (putL n).take i := by rw [ext_data, List.drop_zero]
  refine (take_any _ w (by rw [ByteArray.size_extract]; omega)).mono ?_
  rintro e1 w1 ⟨rfl, hb⟩
  refine ⟨?_, hb⟩
  rw [e, takeV, take_cut n hn i (by rw [putL_len]; exact hi)]; rfl

def BackRel (n : Nat) (i : Value) : Prop := ∃ k : Nat, k ≤ szN n ∧ i = .int .i64 k

set_option maxHeartbeats 4000000 in
theorem back_any (n : Nat) (s : ByteArray) (w : World) (hn : n < 18446744073709551616) (hs : s.size ≤ maxLen) :
    Calls Try.prog 5 #[.int .u64 n, .string s] w fun e w' => e = .returned (.bool true) ∧ Bel w w' := by
  unfold maxLen at hs
  have hl := putL_len n
  have h9 := szN_le n
  go_enter Try.func5, Try.ntmps5
  go_wp2_with (fail)
  refine (shown_any w).mono ?_
  rintro e w1 ⟨rfl, hb⟩
  have HB := Lib.hid hb; clear hb
  by_cases hz : (3000 : Int) < (s.size : Int)
  · go_wp2_with (fail)
    go_ret
    exact ⟨rfl, HB.out⟩
  · go_wp2_with (fail)
    refine (put_any n _ hn).mono ?_
    rintro e w2 ⟨rfl, hb⟩
    replace HB := Lib.hid (HB.out.trans hb); clear hb
    go_wp2_with (fail)
    refine (take_put_any n s _ hn (by omega)).mono ?_
    rintro e w3 ⟨rfl, hb⟩
    replace HB := Lib.hid (HB.out.trans hb); clear hb
    go_wp2_with (fail)
    go_loopw [10] (fun i x => BackRel n i ∧ Bel w x) (fun i _ => 9 - (intOf i).toNat)
    case atStart => exact ⟨⟨0, Nat.zero_le _, rfl⟩, HB.out⟩
    case round =>
      obtain ⟨⟨k, hk, rfl⟩, hw⟩ := hrel
      have HW := Lib.hid hw; clear hw
      by_cases hkl : k < szN n
      · go_wp2_with (fail)
        refine (take_cut_any n k _ hn hkl).mono ?_
        rintro e w4 ⟨rfl, hb⟩
        replace HW := Lib.hid (HW.out.trans hb); clear hb
        go_wp2_with (fail)
        go_roundw
        case rel => exact ⟨⟨k + 1, hkl, by go_num⟩, HW.out⟩
        case measure => simp [intOf]; omega
      · go_wp2_with (fail)
        refine (take_any s _ (by omega)).mono ?_
        rintro e w4 ⟨rfl, hb⟩
        replace HW := Lib.hid (HW.out.trans hb); clear hb
        have hlt := take_lt s.data.toList
        have hr := take_rest s.data.toList
        have hrb := Lib.hid (fun k b h => take_back s.data.toList k b h)
        unfold takeV
        have hsz : s.data.toList.length = s.size := rfl
        generalize takeL s.data.toList = q at *
        obtain ⟨m, r, f⟩ := q
        simp only at hlt hr
        cases f with
        | false =>
          go_wp2_with (fail)
          go_ret
          exact ⟨rfl, HW.out⟩
        | true =>
          have hpr := hrb.out m r (by rfl)
          have HPR := Lib.hid hpr
          have hlp := putL_len m
          have h9m := szN_le m
          clear hpr hrb
          go_wp2_with (fail)
          refine (put_any m _ hlt).mono ?_
          rintro e w5 ⟨rfl, hb⟩
          replace HW := Lib.hid (HW.out.trans hb); clear hb
          go_wp2_with (fail)
          go_ret
          exact ⟨ret_bool (by rw [ba_append, HPR.out, ba_list]; simp), HW.out⟩

theorem bytes_at (x y : List UInt8) (w : World) (c : Int) (hx : x.length ≤ 9) (hy : y.length ≤ 9) (h : Lib.compareBytes x y = c) :
    Calls Try.prog 15 #[.string ⟨x.toArray⟩, .string ⟨y.toArray⟩] w fun e w' => e = .returned (.int .i64 c) ∧ Drw w w' := by
  have hx' : (⟨x.toArray⟩ : ByteArray).size = x.length := by show x.toArray.size = _; simp
  have hy' : (⟨y.toArray⟩ : ByteArray).size = y.length := by show y.toArray.size = _; simp
  rw [← h]
  exact ref_bytes_any ⟨x.toArray⟩ ⟨y.toArray⟩ w (by unfold maxLen; omega) (by unfold maxLen; omega)
theorem ext_list (l : List UInt8) (k : Nat) : (⟨l.toArray⟩ : ByteArray).extract 0 k = ⟨(l.take k).toArray⟩ := by
  have := ext_data ⟨l.toArray⟩ 0 k
  rw [← ba_list ((⟨l.toArray⟩ : ByteArray).extract 0 k), this]
  simp

set_option maxHeartbeats 4000000 in
theorem orders_any (a b : Nat) (w : World) (ha : a < 18446744073709551616) (hb : b < 18446744073709551616) :
    Calls Try.prog 6 #[.int .u64 a, .int .u64 b] w fun e w' => e = .returned (.bool true) ∧ Bel w w' := by
  have hla := putL_len a
  have hlb := putL_len b
  have h9a := szN_le a
  have h9b := szN_le b
  go_enter Try.func6, Try.ntmps6
  go_wp2_with (fail)
  refine (shown_any w).mono ?_
  rintro e w1 ⟨rfl, hb1⟩
  have HB := Lib.hid hb1; clear hb1
  go_wp2_with (fail)
  refine (put_any a _ ha).mono ?_
  rintro e w2 ⟨rfl, hb1⟩
  replace HB := Lib.hid (HB.out.trans hb1); clear hb1
  go_wp2_with (fail)
  refine (put_any b _ hb).mono ?_
  rintro e w3 ⟨rfl, hb1⟩
  replace HB := Lib.hid (HB.out.trans hb1); clear hb1
  by_cases he : a = b
  · subst he
    go_wp2_with (fail)
    refine (bytes_at (putL a) (putL a) _ 0 (by omega) (by omega) (cmp_self _)).mono ?_
    rintro e w4 ⟨rfl, hb1⟩
    replace HB := Lib.hid (HB.out.trans hb1.bel); clear hb1
    go_wp2_with (fail)
    go_ret
    exact ⟨rfl, HB.out⟩
  have i0 : ((a : Int) == (b : Int)) = false := by rw [beq_eq_false_iff_ne]; omega
  by_cases hlt : a < b
  · obtain ⟨hc, hsz, hne⟩ := put_less a b hb hlt
    have HC := Lib.hid hc
    have hE : (((⟨(putL a).toArray⟩ : ByteArray).extract 0 (szN a)).toList == ((⟨(putL b).toArray⟩ : ByteArray).extract 0 (szN a)).toList) = false := by
      rw [ext_list, ext_list, ByteArray.toList_eq, ByteArray.toList_eq, beq_eq_false_iff_ne]; exact hne
    clear hc hne he
    go_wp2_with (fail)
    refine (bytes_at (putL a) (putL b) _ (-1) (by omega) (by omega) HC.out).mono ?_
    rintro e w4 ⟨rfl, hb1⟩
    replace HB := Lib.hid (HB.out.trans hb1.bel); clear hb1
    go_wp2_with (fail)
    go_quiet (fail)
    go_wp2_with (fail)
    go_ret
    exact ⟨ret_bool (by simp), HB.out.drewN _⟩
  · have hgt : b < a := by omega
    obtain ⟨hc, hsz, hne⟩ := put_less b a ha hgt
    have HC := Lib.hid (cmp_swap _ _ hc)
    have hE : (((⟨(putL a).toArray⟩ : ByteArray).extract 0 (szN b)).toList == ((⟨(putL b).toArray⟩ : ByteArray).extract 0 (szN b)).toList) = false := by
      rw [ext_list, ext_list, ByteArray.toList_eq, ByteArray.toList_eq, beq_eq_false_iff_ne]; exact fun h => hne h.symm
    clear hc hne he
    rcases Nat.lt_or_ge (szN b) (szN a) with hq | hq
    · skip
      go_wp2_with (fail)
      refine (bytes_at (putL a) (putL b) _ 1 (by omega) (by omega) HC.out).mono ?_
      rintro e w4 ⟨rfl, hb1⟩
      replace HB := Lib.hid (HB.out.trans hb1.bel); clear hb1
      go_wp2_with (fail)
      go_quiet (fail)
      go_wp2_with (fail)
      go_ret
      exact ⟨ret_bool (by simp), HB.out.drewN _⟩
    · have heq : szN b = szN a := by omega
      rw [heq] at hE
      clear hsz hq
      go_wp2_with (fail)
      refine (bytes_at (putL a) (putL b) _ 1 (by omega) (by omega) HC.out).mono ?_
      rintro e w4 ⟨rfl, hb1⟩
      replace HB := Lib.hid (HB.out.trans hb1.bel); clear hb1
      go_wp2_with (fail)
      go_quiet (fail)
      go_wp2_with (fail)
      go_ret
      exact ⟨ret_bool (by simp), HB.out.drewN _⟩
end Go.Proofs.Ytdhfhkdpgphbiaa
