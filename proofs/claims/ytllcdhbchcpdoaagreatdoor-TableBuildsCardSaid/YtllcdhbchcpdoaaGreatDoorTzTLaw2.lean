/- TableBuilds. -/
import Derived.Test.YtllcdhbchcpdoaaGreatDoorT27
import Derived.Test.YtllcdhbchcpdoaaGreatDoorT16
set_option linter.unusedSimpArgs false
set_option linter.unusedVariables false
namespace Go.Proofs.YtllcdhbchcpdoaaGreatDoor
open Go.RowKit Go.Deep

theorem small_sizes {L : List EB} (h : Small10 L) : sizesL 100000 L := fun e he => by
  obtain ⟨i, hi, rfl⟩ := List.mem_iff_getElem.1 he
  have := h.2 i hi
  omega
theorem stand_small {L : List EB} (h : Small10 L) : (standingB L).length ≤ 60 ∧ fitsL (standingB L) ∧ sizesL 100000 (standingB L) ∧ standB (standingB L) = true ∧ ∀ e ∈ standingB L, e.v.size ≤ 2000 := by
  have hs := standing_stand L
  have hl := standing_len L
  obtain ⟨hf, hz⟩ := right_fits (stand_right hs)
  refine ⟨by have := h.1; omega, hf, hz, hs, fun e he => ?_⟩
  obtain ⟨i, hi, rfl⟩ := List.mem_iff_getElem.1 (standing_mem he)
  exact (h.2 i hi).2
set_option maxHeartbeats 2000000 in
set_option maxRecDepth 20000 in
theorem law_tbuilds_any (W : World) (hstd : MaxOk W) (a0 : Option Addr) (cap0 : Nat) (L0 : List EB) (hi0 : EntsAt W a0 L0) (hl0 : L0.length ≤ maxLen) (hs0 : fitsL L0) :
    Calls Tryz.prog 4 #[.slice a0 L0.length cap0] W fun e w' => e = .returned (.bool true) ∧ Bel W w' := by
  have HM := Lib.hid hstd; have HI := Lib.hid hi0; have HF := Lib.hid hs0
  clear hstd hi0 hs0
  unfold maxLen at hl0
  go_enter Tryz.func4, Tryz.ntmps4
  go_wp2_with (fail)
  refine (shown10_any W HM.out).mono ?_
  rintro e w1 ⟨rfl, hb⟩
  have HB1 := Lib.hid hb; clear hb
  go_wp2_with (fail)
  refine (small10_any a0 cap0 L0 w1 (HI.out.bel HB1.out) (by omega) HF.out).mono ?_
  rintro e w2 ⟨hd, hres⟩
  have HB2 := Lib.hid (HB1.out.trans hd.bel); clear hd
  rcases hres with ⟨hsm, rfl⟩ | rfl
  · have hl60 := hsm.1
    obtain ⟨s1, s2, s3, s4, s5⟩ := stand_small hsm
    have HZ := Lib.hid (small_sizes hsm)
    have HSF := Lib.hid s2; have HSZ := Lib.hid s3
    have HSV := Lib.hid (fun e (he : e ∈ L0) => by have := (HZ.out e he).2; omega : ∀ e ∈ L0, e.v.size ≤ 1000000)
    clear hsm s2 s3 s4 s5
    go_wp2_with (fail)
    refine (pbuildT_any a0 cap0 L0 w2 (HI.out.bel HB2.out) (by omega) HF.out HZ.out).mono ?_
    unfold buildV
    obtain ⟨S, hS⟩ : ∃ S : ByteArray, S = ⟨(buildT L0).1.toArray⟩ := ⟨_, rfl⟩
    obtain ⟨x, hx⟩ : ∃ x, x = (buildT L0).2 := ⟨_, rfl⟩
    rw [← hS, ← hx]
    rintro e w3 ⟨rfl, hb⟩
    have HB3 := Lib.hid (HB2.out.trans hb); clear hb
    go_wp2_with (fail)
    refine (rbuildT_any a0 cap0 L0 w3 (HI.out.bel HB3.out) (by omega) HF.out HZ.out).mono ?_
    unfold buildV
    rw [← hS, ← hx]
    clear hS hx
    rintro e w4 ⟨rfl, hb⟩
    have HB4 := Lib.hid (HB3.out.trans hb); clear hb
    go_wp2_with (fail)
    refine (standing_any a0 cap0 L0 w4 (HI.out.bel HB4.out) (by omega) HF.out HSV.out).mono ?_
    rintro e w5 ⟨v, rfl, ho, hb⟩
    obtain ⟨q, qc, rfl, hat⟩ := ownG_ents ho
    have HB5 := Lib.hid (HB4.out.trans hb)
    have HAT := Lib.hid hat
    clear ho hat hb
    obtain ⟨M, hM⟩ : ∃ M, M = standingB L0 := ⟨_, rfl⟩
    rw [← hM] at HAT HSF HSZ s1 ⊢
    have HMM := Lib.hid hM
    clear hM
    go_wp2_with (fail)
    refine (pbuildT_any q qc M w5 HAT.out (by omega) HSF.out HSZ.out).mono ?_
    unfold buildV
    obtain ⟨T, hT⟩ : ∃ T : ByteArray, T = ⟨(buildT M).1.toArray⟩ := ⟨_, rfl⟩
    obtain ⟨y, hy⟩ : ∃ y, y = (buildT M).2 := ⟨_, rfl⟩
    rw [← hT, ← hy]
    rintro e w6 ⟨rfl, hb⟩
    have HB6 := Lib.hid (HB5.out.trans hb); clear hb
    go_wp2_with (fail)
    refine (standing_any a0 cap0 L0 w6 (HI.out.bel HB6.out) (by omega) HF.out HSV.out).mono ?_
    rintro e w7 ⟨v, rfl, ho, hb⟩
    obtain ⟨q2, qc2, rfl, hat⟩ := ownG_ents ho
    have HB7 := Lib.hid (HB6.out.trans hb)
    have HAT2 := Lib.hid hat
    clear ho hat hb
    rw [← HMM.out] at HAT2 ⊢
    go_wp2_with (fail)
    refine (rbuildT_any q2 qc2 M w7 HAT2.out (by omega) HSF.out HSZ.out).mono ?_
    unfold buildV
    rw [← hT, ← hy]
    clear hT hy
    rintro e w8 ⟨rfl, hb⟩
    have HB8 := Lib.hid (HB7.out.trans hb); clear hb
    have e1 : (S.toList == S.toList) = true := beq_self_eq_true _
    have e2 : (T.toList == T.toList) = true := beq_self_eq_true _
    have e3 : (x == x) = true := beq_self_eq_true _
    have e4 : (y == y) = true := beq_self_eq_true _
    go_wp2_with (fail)
    go_ret
    exact ⟨rfl, HB8.out⟩
  · go_wp2_with (fail)
    go_ret
    exact ⟨rfl, HB2.out⟩
end Go.Proofs.YtllcdhbchcpdoaaGreatDoor
