/- varint.sizeBehind, varint.number: what so many bytes tell. -/
import Derived.Test.YtldkpomkgmilbaaVPut
import Derived.StillTailTactics
set_option linter.unusedSimpArgs false
set_option linter.unusedVariables false
namespace Go.Proofs.Ytldkpomkgmilbaa
open Go.RowKit Go.Deep

theorem behind_nat (m k : Nat) (w : World) (hb : (m : Int) < 256) (hk : Hid (k = if m < 241 then 1 else if m < 249 then 2 else if m = 249 then 3 else m - 246)) :
    Calls Try.prog 54 #[.int .u8 m] w fun e w' => e = .returned (.int .i64 k) ∧ Drw w w' := by
  by_cases h1 : (m : Int) < 241
  · go_enter Try.func54, Try.ntmps54
    go_wp2
    go_ret
    exact ⟨ret_int (by rw [hk.out, if_pos (by omega)]; rfl), Drw.refl w⟩
  by_cases h2 : (m : Int) < 249
  · go_enter Try.func54, Try.ntmps54
    go_wp2
    go_ret
    exact ⟨ret_int (by rw [hk.out, if_neg (by omega), if_pos (by omega)]; rfl), Drw.refl w⟩
  by_cases h3 : (m : Int) = 249
  · go_enter Try.func54, Try.ntmps54
    go_wp2
    go_ret
    exact ⟨ret_int (by rw [hk.out, if_neg (by omega), if_neg (by omega), if_pos (by omega)]; rfl), Drw.refl w⟩
  · have h0 := Lib.hid (show 250 ≤ (m : Int) by omega)
    have v1 : IntKind.i64.wrap (m : Int) = m := IntWalk.i64_in _ (by omega)
    have v2 : IntKind.i64.wrap ((m : Int) - 247) = (m : Int) - 247 := IntWalk.i64_in _ (by omega)
    have v3 : IntKind.i64.wrap ((m : Int) - 247 + 1) = (m : Int) - 247 + 1 := IntWalk.i64_in _ (by omega)
    have h4 : ((m : Int) == 249) = false := by simpa using h3
    have h5 := Lib.hid (show ¬ m = 249 by omega)
    clear hb h3
    set_option maxRecDepth 20000 in
    go_enter Try.func54, Try.ntmps54
    go_wp2
    go_ret
    exact ⟨ret_int (by rw [hk.out, if_neg (by omega), if_neg (by omega), if_neg h5.out]; have := h0.out; omega), Drw.refl w⟩
theorem behind_any (b : UInt8) (w : World) :
    Calls Try.prog 54 #[.int .u8 b.toNat] w fun e w' => e = .returned (.int .i64 (kOf b)) ∧ Drw w w' := by
  exact behind_nat b.toNat (kOf b) w (by have := b.toNat_lt; omega) (Lib.hid rfl)

theorem sum_small (s : ByteArray) (w : World) (hs : s.size ≤ 8) :
    Calls Try.prog 56 #[.string s] w fun e w' => e = .returned (.int .u64 ((sumL s.data.toList : Nat) : Int)) ∧ Drw w w' := by
  refine (sum_any s w (by unfold maxLen; omega)).mono ?_
  rintro e w1 ⟨rfl, hw⟩
  refine ⟨ret_int ?_, hw⟩
  have h := sumL_lt s.data.toList
  have h2 : (256 : Nat) ^ s.data.toList.length ≤ 256 ^ 8 := Nat.pow_le_pow_right (by omega) hs
  have e8 : (256 : Nat) ^ 8 = 18446744073709551616 := by decide
  rw [Nat.mod_eq_of_lt (by omega)]

theorem sum_at (s : ByteArray) (m : Nat) (w : World) (hs : s.size ≤ 8) (h : m = sumL s.data.toList) :
    Calls Try.prog 56 #[.string s] w fun e w' => e = .returned (.int .u64 ((m : Nat) : Int)) ∧ Drw w w' := by
  rw [h]; exact sum_small s w hs
theorem head_at (s : ByteArray) (h0 : 0 < s.size) : s.data.toList = s[0] :: s.data.toList.drop 1 := by
  exact List.drop_eq_getElem_cons (i := 0) (l := s.data.toList) (by simpa using h0)
theorem ext_tail (s : ByteArray) : (s.extract 1 s.size).data.toList = s.data.toList.drop 1 := by
  rw [Lib.extract_data, List.take_of_length_le]
  simp

set_option maxHeartbeats 1000000 in
theorem number_any (s : ByteArray) (w : World) (h0 : 0 < s.size) (hk : s.size = kOf s[0]) :
    Calls Try.prog 55 #[.string s] w fun e w' => e = .returned (.int .u64 ((valL s.data.toList : Nat) : Int)) ∧ Drw w w' := by
  have h9 := kOf_le s[0]
  have hl : s.data.toList.length = s.size := rfl
  have hh := head_at s h0
  have hlt := sumL_lt s.data.toList
  have hlt2 := sumL_lt (s.data.toList.drop 1)
  rw [List.length_drop, hl] at hlt2
  rw [hl] at hlt
  have hT := Lib.hid (ext_tail s)
  have hz2 : (s.extract 1 s.size).size = s.size - 1 := by simp [ByteArray.size_extract]
  unfold valL
  rw [hl]
  have h8 : s.size ≤ 9 := by omega
  by_cases c1 : s.size = 1
  · rw [if_pos c1]
    clear hT hz2 hlt hlt2 hh hk h9 hl
    go_enter Try.func55, Try.ntmps55
    go_wp2_with (fail)
    refine (sum_small s w (by omega)).mono ?_
    rintro e w1 ⟨rfl, hw⟩
    go_wp2_with (fail)
    go_ret
    exact ⟨rfl, hw⟩
  by_cases c2 : s.size = 2
  · rw [if_neg c1, if_pos c2]
    have hb : 61696 ≤ sumL s.data.toList ∧ sumL s.data.toList < 65536 := by
      rw [c2] at hlt hk
      refine ⟨?_, hlt⟩
      rw [hh, sumL_cons, List.length_drop, hl, c2]
      have : 241 ≤ s[0].toNat := by unfold kOf at hk; revert hk; (repeat' split) <;> omega
      have := s[0].toNat_lt
      omega
    clear hT hz2 hlt hlt2 hh hk h9 hl
    obtain ⟨m, hm⟩ : ∃ m, m = sumL s.data.toList := ⟨_, rfl⟩
    rw [← hm] at hb ⊢
    have HM := Lib.hid hm; clear hm
    obtain ⟨hb1, hb2⟩ := hb
    go_enter Try.func55, Try.ntmps55
    go_wp2_with (fail)
    refine (sum_at s m w (by omega) HM.out).mono ?_
    rintro e w1 ⟨rfl, hw⟩
    have HW := Lib.hid hw; clear hw
    go_wp2_with (fail)
    go_ret
    exact ⟨ret_int (by omega), HW.out⟩
  by_cases c3 : s.size = 3
  · rw [if_neg c1, if_neg c2, if_pos c3]
    rw [c3] at hlt2
    rw [c3] at hT hz2
    have hb : sumL (s.data.toList.drop 1) < 65536 := hlt2
    clear hlt hlt2 hh hk h9 hl
    obtain ⟨m, hm⟩ : ∃ m, m = sumL (s.data.toList.drop 1) := ⟨_, rfl⟩
    rw [← hm] at hb ⊢
    rw [← hT.out] at hm
    have HM := Lib.hid hm; clear hm hT
    go_enter Try.func55, Try.ntmps55
    go_wp2_with (fail)
    refine (sum_at (s.extract 1 3) m w (by omega) HM.out).mono ?_
    rintro e w1 ⟨rfl, hw⟩
    have HW := Lib.hid hw; clear hw
    go_wp2_with (fail)
    go_ret
    exact ⟨ret_int (by omega), HW.out⟩
  · rw [if_neg c1, if_neg c2, if_neg c3]
    have i1 : ¬ (s.size : Int) = 1 := by omega
    have i2 : ¬ (s.size : Int) = 2 := by omega
    have i3 : ¬ (s.size : Int) = 3 := by omega
    clear hlt hlt2 hh hl hk h9
    obtain ⟨m, hm⟩ : ∃ m, m = sumL (s.data.toList.drop 1) := ⟨_, rfl⟩
    rw [← hm]
    rw [← hT.out] at hm
    have HM := Lib.hid hm; clear hm hT
    go_enter Try.func55, Try.ntmps55
    go_wp2_with (fail)
    refine (sum_at (s.extract 1 s.size) m w (by omega) HM.out).mono ?_
    rintro e w1 ⟨rfl, hw⟩
    have HW := Lib.hid hw; clear hw
    go_wp2_with (fail)
    go_ret
    exact ⟨rfl, HW.out⟩
end Go.Proofs.Ytldkpomkgmilbaa
