/- TableSpoils. -/
import Derived.Test.YtllcdhbchcpdoaaGreatDoorU26
import Derived.Test.YtllcdhbchcpdoaaGreatDoorU11
set_option linter.unusedSimpArgs false
set_option linter.unusedVariables false
namespace Go.Proofs.YtllcdhbchcpdoaaGreatDoor
open Go.RowKit Go.Deep

theorem file_in (M : List EB) : fileL M = framesL (blocksL M ++ [buildF (keysL M), footL M]) := by
  rw [file_parts]
  unfold framesL
  simp
set_option maxHeartbeats 4000000 in
set_option maxRecDepth 20000 in
theorem law_spoils_any (W : World) (hstd : MaxOk W) (a0 : Option Addr) (cap0 : Nat) (L0 : List EB) (i1 i2 : Int) (hi0 : EntsAt W a0 L0) (hl0 : L0.length ≤ maxLen) (hs0 : fitsL L0) (bi1 : -9223372036854775808 ≤ i1 ∧ i1 ≤ 9223372036854775807) (bi2 : -9223372036854775808 ≤ i2 ∧ i2 ≤ 9223372036854775807) :
    Calls Tryz.prog 6 #[.slice a0 L0.length cap0, .int .i64 i1, .int .i64 i2] W fun e w' => e = .returned (.bool true) ∧ Bel W w' := by
  have HM := Lib.hid hstd; have HI := Lib.hid hi0; have HF := Lib.hid hs0; have HN1 := Lib.hid bi1
  clear hstd hi0 hs0 bi1 bi2
  unfold maxLen at hl0
  go_enter Tryz.func6, Tryz.ntmps6
  go_wp2_with (fail)
  refine (shown10_any W HM.out).mono ?_
  rintro e w1 ⟨rfl, hb⟩
  have HB1 := Lib.hid hb; clear hb
  go_wp2_with (fail)
  refine (small10_any a0 cap0 L0 w1 (HI.out.bel HB1.out) (by omega) HF.out).mono ?_
  rintro e w2 ⟨hd, hres⟩
  have HB2 := Lib.hid (HB1.out.trans hd.bel); clear hd
  rcases hres with ⟨hsm, rfl⟩ | rfl
  · have hl60 := hsm.1
    obtain ⟨t1, t2, t3, t4, t5, t6⟩ := stand_small0 hsm
    have HSF := Lib.hid t2; have HSZ := Lib.hid t3; have HST := Lib.hid t4; have HSV := Lib.hid t5; have HLV := Lib.hid t6
    clear hsm t2 t3 t4 t5 t6
    go_wp2_with (fail)
    refine (standing_any a0 cap0 L0 w2 (HI.out.bel HB2.out) (by omega) HF.out HLV.out).mono ?_
    rintro e w3 ⟨v, rfl, ho, hb⟩
    obtain ⟨q, qc, rfl, hat⟩ := ownG_ents ho
    have HB3 := Lib.hid (HB2.out.trans hb)
    have HAT := Lib.hid hat
    clear ho hat hb
    obtain ⟨M, hM⟩ : ∃ M, M = standingB L0 := ⟨_, rfl⟩
    rw [← hM] at HAT HSF HSZ HST HSV t1 ⊢
    clear hM
    go_wp2_with (fail)
    refine (pbuildT_any q qc M w3 HAT.out (by omega) HSF.out HSZ.out).mono ?_
    unfold buildV
    rcases built_any HST.out t1 with ⟨h0, hb0⟩ | ⟨h0, hb0⟩ | ⟨h0, he0, hb0⟩
    · rw [hb0]
      rintro e w4 ⟨rfl, hb⟩
      have HB4 := Lib.hid (HB3.out.trans hb); clear hb hb0 h0
      go_wp2_with (fail)
      go_ret
      exact ⟨rfl, HB4.out⟩
    · rw [hb0]
      rintro e w4 ⟨rfl, hb⟩
      have HB4 := Lib.hid (HB3.out.trans hb); clear hb hb0 h0
      go_wp2_with (fail)
      go_ret
      exact ⟨rfl, HB4.out⟩
    · rw [hb0]
      have hfz := file_small HST.out t1 HSV.out
      have hff := file_frames HST.out (by omega) he0
      have hfn : 0 < (fileL M).length := by
        rw [file_parts, List.length_append]
        have := frame_len (footL M)
        omega
      obtain ⟨S, hS⟩ : ∃ S : ByteArray, S = ⟨(fileL M).toArray⟩ := ⟨_, rfl⟩
      have hSd : S.data.toList = fileL M := by rw [hS]
      have hSz : S.size = (fileL M).length := by rw [← hSd]; rfl
      rw [← hS]
      rintro e w4 ⟨rfl, hb⟩
      have HB4 := Lib.hid (HB3.out.trans hb); clear hb hb0 h0 hS
      obtain ⟨ts, hts⟩ : ∃ ts, ts = blocksL M ++ [buildF (keysL M), footL M] := ⟨_, rfl⟩
      have hSf : S.data.toList = framesL ts := by rw [hSd, file_in, hts]
      rw [← hts] at hff
      have hz1 : S.size ≤ 1000000 := by omega
      have hz0 : 0 < S.size := by omega
      have HFF := Lib.hid hff; have HSD := Lib.hid hSf; have HZ := Lib.hid hSz
      clear hff hSf hts hSd hfz hfn he0 hSz
      obtain ⟨w5, cap, hcv, hb, hrow, hgr⟩ := conv_bytes w4 S
      have HB5 := Lib.hid (HB4.out.trans hb); clear hb
      have HR := Lib.hid hrow; clear hrow
      have hsl : S.data.toList.length = S.size := rfl
      go_wp2_with (fail)
      refine (pickM_at i1 _ S.size _ HN1.out hz0 (by omega) rfl).mono ?_
      obtain ⟨k, hk⟩ : ∃ k, pickM i1 S.size = k := ⟨_, rfl⟩
      have hkl : k < S.size := by rw [← hk]; exact pickM_lt i1 hz0
      rw [hk]
      rintro e w6 ⟨rfl, hb⟩
      have HB6 := Lib.hid (HB5.out.trans hb.bel)
      have hgr6 : w4.heap.size < w6.heap.size := by have := hb.bel.size; omega
      replace HR := Lib.hid (HR.out.bel hb.bel)
      clear hb hgr hcv hk
      go_wp2_with (fail)
      refine (inlength_any ts S k w6 HSD.out HFF.out hz1 hkl).mono ?_
      rintro e w7 ⟨hb, hres⟩
      have HB7 := Lib.hid (HB6.out.trans hb)
      have hgr7 : w4.heap.size < w7.heap.size := by have := hb.size; omega
      replace HR := Lib.hid (HR.out.bel hb)
      clear hb hgr6
      have hw4 : W.heap.size ≤ w4.heap.size := HB4.out.size
      rcases hres with rfl | ⟨rfl, hin⟩
      · go_wp2_with (fail)
        go_ret
        exact ⟨rfl, HB7.out⟩
      · have HIN := Lib.hid hin; clear hin
        generalize w4.heap.size = b at *
        obtain ⟨x, hx⟩ := wrap_u8 i2
        obtain ⟨x0, hx0⟩ : ∃ x0, x0 = S.data.toList[k] := ⟨_, rfl⟩
        have hfr := (HR.out k (by omega)).2
        have hc : w7.cell? ⟨b, k, none⟩ = some (.int .u8 (x0.toNat : Int)) := by rw [hx0]; exact (HR.out k (by omega)).1
        have HX0 := Lib.hid hx0
        clear hx0
        by_cases hxx : x0 = x
        · have hxi : (x0.toNat : Int) = (x.toNat : Int) := by rw [hxx]
          go_wp2_with (fail)
          go_ret
          exact ⟨rfl, HB7.out⟩
        · have hxi : ¬ (x0.toNat : Int) = (x.toNat : Int) := fun h => hxx (UInt8.toNat_inj.1 (by omega))
          have hrow2 := HR.out.set k (by omega) x
          have hcv2 := hrow2.conv cap
          have hll : (S.data.toList.set k x).length = S.size := by rw [List.length_set]; rfl
          rw [hll] at hcv2
          obtain ⟨T, hT⟩ : ∃ T : ByteArray, T = ⟨(S.data.toList.set k x).toArray⟩ := ⟨_, rfl⟩
          have hTz : T.size ≤ 1000000 := by
            rw [hT]
            show (S.data.toList.set k x).toArray.size ≤ _
            rw [List.size_toArray, hll]; omega
          have HTS := Lib.hid (show (scanL T.data.toList).2.2 = 9 by
            have e1 : T.data.toList = (framesL ts).set k x := by rw [hT, ← HSD.out]
            rw [e1]
            refine in_turn HFF.out HIN.out x (by rw [← HSD.out]; exact hkl) ?_
            have e2 : ∀ (l : List UInt8) (h1 : k < l.length), l = S.data.toList → l[k] = x0 := by
              rintro l h1 rfl; exact HX0.out.symm
            rw [e2 _ _ HSD.out.symm]
            exact fun h => hxx h.symm)
          rw [← hT] at hcv2
          have HB8 := Lib.hid (HB7.out.setCell (p := ⟨b, k, none⟩) hw4 (.int .u8 (x.toNat : Int)))
          clear hT hll hrow2
          go_wp2_with (fail)
          refine (open_sum T _ hTz HTS.out).mono ?_
          rintro e w9 ⟨rfl, hb⟩
          have HB9 := Lib.hid (HB8.out.trans hb); clear hb
          go_wp2_with (fail)
          go_ret
          exact ⟨rfl, HB9.out⟩
  · go_wp2_with (fail)
    go_ret
    exact ⟨rfl, HB2.out⟩
end Go.Proofs.YtllcdhbchcpdoaaGreatDoor
