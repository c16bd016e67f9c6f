/- varint.Take: the number with which some bytes begin. -/
import Derived.Test.YtldkpomkgmilbaaVNum
set_option linter.unusedSimpArgs false
set_option linter.unusedVariables false
namespace Go.Proofs.Ytldkpomkgmilbaa
open Go.RowKit Go.Deep

theorem ext_data (s : ByteArray) (i j : Nat) : (s.extract i j).data.toList = (s.data.toList.take j).drop i := by
  simp [ByteArray.data_extract, List.extract_eq_take_drop, List.drop_take]
theorem ba_list (s : ByteArray) : (⟨s.data.toList.toArray⟩ : ByteArray) = s := by apply ByteArray.ext; simp
def takeV (l : List UInt8) : Value := .tuple #[.int .u64 ((takeL l).1 : Nat), .string ⟨(takeL l).2.1.toArray⟩, .bool (takeL l).2.2]
theorem takeV_nil : takeV [] = .tuple #[.int .u64 0, .string ⟨#[]⟩, .bool false] := rfl
theorem takeL_short (s : ByteArray) (h0 : 0 < s.size) (k : Nat) (hk : k = kOf s[0]) (h : s.size < k) : takeL s.data.toList = (0, [], false) := by
  rw [head_at s h0, takeL_cons, ← head_at s h0, ← hk, if_pos (by exact h)]
theorem takeL_long (s : ByteArray) (h0 : 0 < s.size) (k : Nat) (hk : k = kOf s[0]) (h : ¬ s.size < k) :
    takeL s.data.toList = if putL (valL (s.extract 0 k).data.toList) = (s.extract 0 k).data.toList then (valL (s.extract 0 k).data.toList, (s.extract k s.size).data.toList, true) else (0, [], false) := by
  have e1 : (s.extract 0 k).data.toList = s.data.toList.take k := by rw [ext_data, List.drop_zero]
  have e2 : (s.extract k s.size).data.toList = s.data.toList.drop k := by rw [ext_data, List.take_of_length_le (by exact Nat.le_refl _)]
  rw [e1, e2]
  have hh := head_at s h0
  conv => lhs; rw [hh, takeL_cons, ← hh, ← hk, if_neg (by exact h)]
theorem ext_head (s : ByteArray) (h0 : 0 < s.size) (k : Nat) (h1 : 1 ≤ k) (h : k ≤ s.size) : ∃ h' : 0 < (s.extract 0 k).size, (s.extract 0 k)[0] = s[0] ∧ (s.extract 0 k).size = k := by
  have hz : (s.extract 0 k).size = k := by simp [ByteArray.size_extract]; omega
  refine ⟨by omega, ?_, hz⟩
  have e := head_at (s.extract 0 k) (by omega)
  have e1 : (s.extract 0 k).data.toList = s.data.toList.take k := by rw [ext_data, List.drop_zero]
  rw [head_at s h0] at e1
  obtain ⟨j, rfl⟩ : ∃ j, k = j + 1 := ⟨k - 1, by omega⟩
  rw [List.take_succ_cons] at e1
  exact (List.cons.inj (e.symm.trans e1)).1

set_option maxHeartbeats 2000000 in
theorem take_any (s : ByteArray) (w : World) (hs : s.size ≤ 1000000) :
    Calls Try.prog 50 #[.string s] w fun e w' => e = .returned (takeV s.data.toList) ∧ Bel w w' := by
  by_cases h0 : s.size = 0
  · obtain rfl : s = ⟨#[]⟩ := by apply ByteArray.ext; exact Array.eq_empty_of_size_eq_zero h0
    go_enter Try.func50, Try.ntmps50
    go_wp2_with (fail)
    go_ret3
    exact ⟨rfl, Bel.refl w⟩
  have h0' : 0 < s.size := by omega
  obtain ⟨k, hk⟩ : ∃ k, k = kOf s[0] := ⟨_, rfl⟩
  have hk1 := kOf_pos s[0]
  have hk9 := kOf_le s[0]
  rw [← hk] at hk1 hk9
  have hK := Lib.hid hk
  have hne : s.toList.isEmpty = false := by
    rw [ByteArray.toList_eq, head_at s h0']; rfl
  by_cases hl : s.size < k
  · have hT := Lib.hid (takeL_short s h0' k hk hl)
    clear hk
    go_enter Try.func50, Try.ntmps50
    go_wp2_with (fail)
    refine (behind_any s[0] w).mono ?_
    rintro e w1 ⟨rfl, hw1⟩
    have HW := Lib.hid hw1.bel; clear hw1
    rw [← hK.out]
    go_wp2_with (fail)
    go_ret3
    exact ⟨by rw [takeV, hT.out]; rfl, HW.out⟩
  · have hT := Lib.hid (takeL_long s h0' k hk hl)
    obtain ⟨hp, hp0, hpz⟩ := ext_head s h0' k hk1 (by omega)
    have HP0 := Lib.hid hp0
    have hlt : valL (s.extract 0 k).data.toList < 18446744073709551616 := by
      rw [head_at _ hp]
      exact valL_lt _ _ (by rw [← head_at _ hp, hp0, ← hk]; exact hpz)
    clear hk hp0
    go_enter Try.func50, Try.ntmps50
    go_wp2_with (fail)
    refine (behind_any s[0] w).mono ?_
    rintro e w1 ⟨rfl, hw1⟩
    have HW := Lib.hid hw1.bel; clear hw1
    rw [← hK.out]
    go_wp2_with (fail)
    refine (number_any (s.extract 0 k) w1 hp (by rw [HP0.out, ← hK.out]; exact hpz)).mono ?_
    rintro e w2 ⟨rfl, hw2⟩
    have HW2 := Lib.hid (HW.out.trans hw2.bel); clear hw2
    by_cases he : putL (valL (s.extract 0 k).data.toList) = (s.extract 0 k).data.toList
    · have hT' := Lib.hid (hT.out.trans (if_pos he))
      have hE := Lib.hid he; clear he
      generalize valL (s.extract 0 k).data.toList = m at *
      go_wp2_with (fail)
      go_region_with (go_at_call 46; refine (put_any m _ hlt).mono ?_; rintro e w3 ⟨rfl, hb⟩; have HB := Lib.hid hb; clear hb; rw [hE.out, ba_list])
      all_goals go_wp2_with (fail)
      all_goals go_quiet (fail)
      all_goals go_wp2_with (fail)
      all_goals go_ret3
      all_goals refine ⟨by rw [takeV, hT'.out, ba_list]; rfl, ?_⟩
      all_goals exact ((HW2.out.drew.trans HB.out).drewN _)
    · have hT' := Lib.hid (hT.out.trans (if_neg he))
      have hE : (putL (valL (s.extract 0 k).data.toList) == (s.extract 0 k).toList) = false := by
        rw [ByteArray.toList_eq, beq_eq_false_iff_ne]; exact he
      clear he
      generalize valL (s.extract 0 k).data.toList = m at *
      go_wp2_with (fail)
      go_region_with (go_at_call 46; refine (put_any m _ hlt).mono ?_; rintro e w3 ⟨rfl, hb⟩; have HB := Lib.hid hb; clear hb)
      all_goals go_wp2_with (fail)
      all_goals go_ret3
      all_goals refine ⟨by rw [takeV, hT'.out]; rfl, ?_⟩
      all_goals exact HW2.out.drew.trans HB.out
end Go.Proofs.Ytldkpomkgmilbaa
