/- moultlaw6.FileMoves. -/
import Derived.Test.YthnhdiebkkfmgaaFLawN
set_option linter.unusedSimpArgs false
set_option linter.unusedVariables false
namespace Go.Proofs.Ythnhdiebkkfmgaa
open Go.RowKit Go.Deep Go.Maps

/-- All files but two of these names are flushed. -/
def Sv (a b : List UInt8) (L : List FI) : Prop := ∀ m y, m ≠ a → m ≠ b → getF m L = some y → y.safe = y.bytes.length
theorem Sv.same {a b : List UInt8} {L K : List FI} (h : Sv a b L) (he : ∀ m, m ≠ a → m ≠ b → getF m K = getF m L) : Sv a b K := fun m y h1 h2 hy => h m y h1 h2 (by rw [← he m h1 h2]; exact hy)
set_option maxHeartbeats 4000000 in
set_option maxRecDepth 20000 in
theorem law_moves_any (w : World) (p : Option Addr) (cap : Nat) (L : List AV) (s t : ByteArray) (q : Int) (h : ActsAt w p L) (hL : L.length ≤ maxLen) (hs : s.size ≤ maxLen) (ht : t.size ≤ maxLen) (hq : in64 q) :
    Calls Try.prog 7 #[.slice p L.length cap, .string s, .string t, .int .i64 q] w fun e w' => e = .returned (.bool true) ∧ Bel w w' := by
  have H := Lib.hid h; clear h
  have HQ := Lib.hid hq; clear hq
  unfold maxLen at hs ht
  have hLL := Lib.hid hL; clear hL
  cases hsm : smallB L with
  | false =>
    have HS := Lib.hid hsm; clear hsm
    go_enter Try.func7, Try.ntmps7
    go_wp2_with (fail)
    refine (shown_any w).mono ?_
    rintro e w1 ⟨rfl, h1⟩
    have H1 := Lib.hid h1; clear h1
    go_wp2_with (fail)
    refine (small_any w1 p cap L (H.out.bel H1.out) hLL.out).mono ?_
    rintro e w2 ⟨rfl, h2⟩
    rw [HS.out]
    have H2 := Lib.hid (H1.out.trans h2.bel); clear h2
    go_wp2_with (fail)
    go_ret
    exact ⟨rfl, H2.out⟩
  | true =>
  have HS := Lib.hid hsm; clear hsm
  by_cases k1 : s.size ≤ 500
  · by_cases k2 : t.size ≤ 500
    · go_enter Try.func7, Try.ntmps7
      go_wp2_with (fail)
      refine (shown_any w).mono ?_
      rintro e w1 ⟨rfl, h1⟩
      have H1 := Lib.hid h1; clear h1
      go_wp2_with (fail)
      refine (small_any w1 p cap L (H.out.bel H1.out) hLL.out).mono ?_
      rintro e w2 ⟨rfl, h2⟩
      rw [HS.out]
      have H2 := Lib.hid (H1.out.trans h2.bel); clear h2
      go_wp2_with (fail)
      refine (made_any w w2 H2.out 5000 p cap L H.out (by omega) HS.out).mono ?_
      rintro e w3 ⟨b, rfl, h3⟩
      obtain ⟨M0, hM0⟩ : ∃ M0, M0 = madeS 5000 L := ⟨_, rfl⟩
      rw [← hM0] at h3
      have H3 := Lib.hid h3; clear h3 hM0
      go_wp2_with (fail)
      refine (st_crash H3.out (Bel.refl w3) nilI nilI (nilI_ok _) (nilI_ok _) (fun a ha => by cases ha) (fun a ha => by cases ha)).mono ?_
      rintro e w4 ⟨⟨u4, rfl⟩, h4⟩
      have Q1 := Lib.hid (qt_crash nilI.L nilI.L M0)
      have V1 := Lib.hid (show Sv [111, 119, 110] [111, 116, 104, 101, 114] (crashS nilI.L nilI.L M0).L from fun m y _ _ hy => crash_saved _ _ M0.L 0 (fun x hx => (H3.out.good.each x hx).2) y (getF_mem hy))
      obtain ⟨M1, hM1⟩ : ∃ M1, M1 = crashS nilI.L nilI.L M0 := ⟨_, rfl⟩
      rw [← hM1] at h4 Q1 V1
      have H4 := Lib.hid h4; clear h4 hM1
      go_wp2_with (fail)
      refine (st_drop H4.out ⟨#[111, 119, 110]⟩ (by decide)).mono ?_
      rintro e w5 ⟨rfl, h5⟩
      have hD := qt_drop Q1.out H4.out.good.srt [111, 119, 110]
      have eo : (⟨#[111, 119, 110]⟩ : ByteArray).data.toList = [111, 119, 110] := rfl
      rw [eo] at h5 ⊢
      generalize (dropS [111, 119, 110] M1).1 = r1
      obtain ⟨M2, hM2⟩ : ∃ M2, M2 = (dropS [111, 119, 110] M1).2 := ⟨_, rfl⟩
      rw [← hM2] at h5 hD
      have H5 := Lib.hid h5
      have D2 := Lib.hid hD
      have V2 := Lib.hid (V1.out.same (fun m h1 h2 => hD.2.2 m h1))
      clear h5 hD hM2 eo
      go_wp2_with (fail)
      refine (st_drop H5.out ⟨#[111, 116, 104, 101, 114]⟩ (by decide)).mono ?_
      rintro e w5b ⟨rfl, h5⟩
      have hD := qt_drop D2.out.1 H5.out.good.srt [111, 116, 104, 101, 114]
      have eo : (⟨#[111, 116, 104, 101, 114]⟩ : ByteArray).data.toList = [111, 116, 104, 101, 114] := rfl
      rw [eo] at h5 ⊢
      generalize (dropS [111, 116, 104, 101, 114] M2).1 = r1b
      obtain ⟨M2b, hM2⟩ : ∃ M2b, M2b = (dropS [111, 116, 104, 101, 114] M2).2 := ⟨_, rfl⟩
      rw [← hM2] at h5 hD
      have H5b := Lib.hid h5
      have D2b := Lib.hid hD
      have V2b := Lib.hid (V2.out.same (fun m h1 h2 => hD.2.2 m h2))
      have G2b := Lib.hid (show getF [111, 119, 110] M2b.L = none by rw [hD.2.2 _ (by decide)]; exact D2.out.2.1)
      clear h5 hD hM2 eo
      go_wp2_with (fail)
      refine (st_add H5b.out ⟨#[111, 119, 110]⟩ s (by decide) (by omega)).mono ?_
      rintro e w6 ⟨rfl, h6⟩
      have hA := qt_add D2b.out.1 H5b.out.good.srt [111, 119, 110] s.data.toList
      have eo : (⟨#[111, 119, 110]⟩ : ByteArray).data.toList = [111, 119, 110] := rfl
      rw [eo] at h6 ⊢
      obtain ⟨r2, hr2⟩ : ∃ r2, r2 = (addS [111, 119, 110] s.data.toList M2b).1 := ⟨_, rfl⟩
      obtain ⟨M3, hM3⟩ : ∃ M3, M3 = (addS [111, 119, 110] s.data.toList M2b).2 := ⟨_, rfl⟩
      rw [← hM3] at h6 hA
      rw [← hr2] at hA ⊢
      have H6 := Lib.hid h6
      have A3 := Lib.hid hA
      clear h6 hA hM3 eo hr2
      by_cases hr : r2 = 0
      · subst hr
        obtain ⟨q3, g3, o3⟩ := A3.out.2 rfl
        rw [addF_new G2b.out] at g3
        have F4 := Lib.hid (qt_flush q3 H6.out.good.srt g3)
        have V3 := Lib.hid (V2b.out.same (fun m h1 h2 => o3 m h1))
        have O3 := Lib.hid (show getF [111, 116, 104, 101, 114] M3.L = none by rw [o3 _ (by decide)]; exact D2b.out.2.1)
        clear q3 g3 o3
        go_wp2_with (fail)
        refine (st_flush H6.out ⟨#[111, 119, 110]⟩ (by decide)).mono ?_
        rintro e w7 ⟨rfl, h7⟩
        have eo : (⟨#[111, 119, 110]⟩ : ByteArray).data.toList = [111, 119, 110] := rfl
        rw [eo] at h7 ⊢
        rw [F4.out.1]
        obtain ⟨M4, hM4⟩ : ∃ M4, M4 = (flushS [111, 119, 110] M3).2 := ⟨_, rfl⟩
        have F4' := F4.out
        rw [← hM4] at h7 F4'
        have H7 := Lib.hid h7
        have F5 := Lib.hid F4'
        have V4 := Lib.hid (V3.out.same (fun m h1 h2 => F4'.2.2.2 m h1))
        have O4 := Lib.hid (show getF [111, 116, 104, 101, 114] M4.L = none by rw [F4'.2.2.2 _ (by decide)]; exact O3.out)
        clear h7 F4' hM4 eo F4
        go_wp2_with (fail)
        refine (st_add H7.out ⟨#[111, 119, 110]⟩ t (by decide) (by omega)).mono ?_
        rintro e w8 ⟨rfl, h8⟩
        have hA := qt_add F5.out.2.1 H7.out.good.srt [111, 119, 110] t.data.toList
        have eo : (⟨#[111, 119, 110]⟩ : ByteArray).data.toList = [111, 119, 110] := rfl
        rw [eo] at h8 ⊢
        obtain ⟨r4, hr4⟩ : ∃ r4, r4 = (addS [111, 119, 110] t.data.toList M4).1 := ⟨_, rfl⟩
        obtain ⟨M5, hM5⟩ : ∃ M5, M5 = (addS [111, 119, 110] t.data.toList M4).2 := ⟨_, rfl⟩
        rw [← hM5] at h8 hA
        rw [← hr4] at hA ⊢
        have H8 := Lib.hid h8
        have A5 := Lib.hid hA
        clear h8 hA hM5 eo hr4
        by_cases hr : r4 = 0
        · subst hr
          obtain ⟨q5, g5, o5⟩ := A5.out.2 rfl
          rw [addF_old F5.out.2.2.1] at g5
          simp only [] at g5
          have V5 := Lib.hid (V4.out.same (fun m h1 h2 => o5 m h1))
          have O5 := Lib.hid (show getF [111, 116, 104, 101, 114] M5.L = none by rw [o5 _ (by decide)]; exact O4.out)
          have G5 := Lib.hid g5
          have Q5 := Lib.hid q5
          have MV := Lib.hid (qt_move q5 H8.out.good.srt g5 (to := [111, 116, 104, 101, 114]) (by kernel_rfl))
          clear q5 g5 o5
          go_wp2_with (fail)
          refine (st_used H8.out).mono ?_
          rintro e w9 ⟨rfl, h9, -⟩
          have H9 := Lib.hid h9; clear h9
          go_wp2_with (fail)
          refine (st_move H9.out ⟨#[111, 119, 110]⟩ ⟨#[111, 116, 104, 101, 114]⟩ (by decide) (by decide)).mono ?_
          rintro e w10 ⟨rfl, h10⟩
          have eo : (⟨#[111, 119, 110]⟩ : ByteArray).data.toList = [111, 119, 110] := rfl
          have et : (⟨#[111, 116, 104, 101, 114]⟩ : ByteArray).data.toList = [111, 116, 104, 101, 114] := rfl
          rw [eo, et, MV.out] at h10
          rw [eo, et, MV.out]
          obtain ⟨Z, hZ⟩ : ∃ Z : List FI, Z = insS ⟨[111, 116, 104, 101, 114], s.data.toList ++ t.data.toList, s.data.toList.length⟩ (outS [111, 119, 110] M5.L) := ⟨_, rfl⟩
          have hsrt := srt_out [111, 119, 110] H8.out.good.srt
          have hg1 : getF [111, 119, 110] Z = none := by rw [hZ, getF_ins _ hsrt, if_neg (show ([111, 119, 110] : List UInt8) ≠ [111, 116, 104, 101, 114] by decide), getF_out _ H8.out.good.srt, if_pos rfl]
          have hg2 : getF [111, 116, 104, 101, 114] Z = some ⟨[111, 116, 104, 101, 114], s.data.toList ++ t.data.toList, s.data.toList.length⟩ := by rw [hZ, getF_ins _ hsrt, if_pos rfl]
          have hg3 : bytesN Z = bytesN M5.L := by
            have b1 := bytes_ins ⟨[111, 116, 104, 101, 114], s.data.toList ++ t.data.toList, s.data.toList.length⟩ hsrt
            have b2 := bytes_out [111, 119, 110] H8.out.good.srt
            rw [← hZ] at b1
            rw [G5.out] at b2
            rw [getF_out _ H8.out.good.srt, if_neg (show ([111, 116, 104, 101, 114] : List UInt8) ≠ [111, 119, 110] by decide), O5.out] at b1
            simp only [szO] at b1 b2
            omega
          have hg4 : ∀ x ∈ Z, x.name ≠ [111, 116, 104, 101, 114] → x.safe = x.bytes.length := by
            intro x hx hn
            have hgx := getF_of_mem (by rw [hZ]; exact srt_ins _ hsrt) hx
            have hn2 : x.name ≠ [111, 119, 110] := fun e => by rw [e, hg1] at hgx; cases hgx
            refine V5.out x.name x hn2 hn ?_
            rw [hZ, getF_ins _ hsrt, if_neg hn, getF_out _ H8.out.good.srt, if_neg hn2] at hgx
            exact hgx
          simp only [← hZ] at h10
          have HG1 := Lib.hid hg1
          have HG2 := Lib.hid hg2
          have HG3 := Lib.hid hg3
          have HG4 := Lib.hid hg4
          obtain ⟨M6, hM6⟩ : ∃ M6 : RS, M6 = { M5 with L := Z } := ⟨_, rfl⟩
          rw [← hM6] at h10
          have Q6 := Lib.hid (show Qt M6 by rw [hM6]; exact Q5.out)
          have ML := Lib.hid (show M6.L = Z by rw [hM6])
          have H10 := Lib.hid h10
          clear h10 hsrt hg1 hg2 hg3 hg4 hZ hM6 eo et
          go_wp2_with (fail)
          refine (st_get H10.out ⟨#[111, 119, 110]⟩ (by decide)).mono ?_
          rintro e w11 ⟨rfl, h11, -⟩
          have eo : (⟨#[111, 119, 110]⟩ : ByteArray).data.toList = [111, 119, 110] := rfl
          rw [eo, qt_get Q6.out, ML.out, HG1.out]
          have H11 := Lib.hid h11; clear h11 eo
          go_wp2_with (fail)
          refine (st_get H11.out ⟨#[111, 116, 104, 101, 114]⟩ (by decide)).mono ?_
          rintro e w12 ⟨rfl, h12, -⟩
          have eo : (⟨#[111, 116, 104, 101, 114]⟩ : ByteArray).data.toList = [111, 116, 104, 101, 114] := rfl
          rw [eo, qt_get Q6.out, ML.out, HG2.out]
          have H12 := Lib.hid h12; clear h12 eo
          go_wp2_with (fail)
          refine (st_used H12.out).mono ?_
          rintro e w13 ⟨rfl, h13, -⟩
          rw [ML.out, HG3.out]
          have H13 := Lib.hid h13; clear h13
          go_wp2_with (fail)
          refine (st_crash H13.out ((Bel.refl w13).alloc _) ⟨some ⟨w13.heap.size, 0, none⟩, 1, [q]⟩ nilI (one_ok w13 q HQ.out (by go_simp)) (nilI_ok _) (fun a ha _ => by simp at ha; subst ha; exact Or.inr (Nat.le_refl _)) (fun a ha => by cases ha)).mono ?_
          rintro e w14 ⟨⟨u14, rfl⟩, h14⟩
          have hcr := crash_alone [q] nilI.L [111, 116, 104, 101, 114] Z 0 HG4.out _ HG2.out
          have hpl := crO_plain q [111, 116, 104, 101, 114] s.data.toList t.data.toList
          have HG := Lib.hid (show getS [111, 116, 104, 101, 114] (crashS [q] nilI.L M6) = ((s.data.toList ++ t.data.toList).take (s.data.toList.length + leftN q t.data.toList.length), 0) by
            rw [qt_get (qt_crash _ _ _)]
            have : (crashS [q] nilI.L M6).L = crashF [q] nilI.L 0 M6.L := rfl
            rw [this, ML.out, hcr]
            have e0 : atN nilI.L 0 = 0 := rfl
            have e1 : atN [q] 0 = q := rfl
            rw [e0, e1]
            simp only [hpl])
          have H14 := Lib.hid h14
          clear h14 hcr hpl
          go_wp2_with (fail)
          refine (st_get H14.out ⟨#[111, 116, 104, 101, 114]⟩ (by decide)).mono ?_
          rintro e w15 ⟨rfl, h15, -⟩
          have eo : (⟨#[111, 116, 104, 101, 114]⟩ : ByteArray).data.toList = [111, 116, 104, 101, 114] := rfl
          rw [eo, HG.out]
          have H15 := Lib.hid h15; clear h15 eo
          obtain ⟨u, hu⟩ : ∃ u : ByteArray, u = ⟨(s.data.toList ++ t.data.toList).toArray⟩ := ⟨_, rfl⟩
          obtain ⟨v, hv⟩ : ∃ v : ByteArray, v = ⟨((s.data.toList ++ t.data.toList).take (s.data.toList.length + leftN q t.data.toList.length)).toArray⟩ := ⟨_, rfl⟩
          rw [← hu, ← hv]
          obtain ⟨k, hk⟩ : ∃ k, k = leftN q t.size := ⟨_, rfl⟩
          have hmm : min (max q 0) (t.size : Int) = (k : Int) := by rw [hk]; unfold leftN; omega
          have hkt : k ≤ t.size := by rw [hk]; exact left_le _ _
          have hus : u.size = s.size + t.size := by rw [hu]; show (s.data.toList ++ t.data.toList).toArray.size = _; rw [List.size_toArray, List.length_append]; rfl
          have hue : (u.toList == (s ++ t).toList) = true := by
            rw [beq_iff_eq, ByteArray.toList_eq, ByteArray.toList_eq, hu]
            simp
          have hve : (v.toList == (u.extract 0 (s.size + k)).toList) = true := by
            rw [beq_iff_eq, ByteArray.toList_eq, ByteArray.toList_eq, hv, hu, hk]
            simp only [ByteArray.data_extract, Array.toList_extract, List.extract_eq_take_drop]
            simp
          clear hu hv hk
          go_wp2_with (fail)
          go_ret
          exact ⟨rfl, H15.out.low⟩
        · have h21 : (r4 != 0) = true := by rw [bne_iff_ne]; exact hr
          have h22 : (r4 == 0) = false := by rw [beq_eq_false_iff_ne]; exact hr
          go_wp2_with (fail)
          go_ret
          exact ⟨rfl, H8.out.low⟩
      · have h21 : (r2 != 0) = true := by rw [bne_iff_ne]; exact hr
        have h22 : (r2 == 0) = false := by rw [beq_eq_false_iff_ne]; exact hr
        go_wp2_with (fail)
        go_ret
        exact ⟨rfl, H6.out.low⟩
    · go_enter Try.func7, Try.ntmps7
      go_wp2_with (fail)
      refine (shown_any w).mono ?_
      rintro e w1 ⟨rfl, h1⟩
      have H1 := Lib.hid h1; clear h1
      go_wp2_with (fail)
      refine (small_any w1 p cap L (H.out.bel H1.out) hLL.out).mono ?_
      rintro e w2 ⟨rfl, h2⟩
      rw [HS.out]
      have H2 := Lib.hid (H1.out.trans h2.bel); clear h2
      go_wp2_with (fail)
      go_ret
      exact ⟨rfl, H2.out⟩
  · go_enter Try.func7, Try.ntmps7
    go_wp2_with (fail)
    refine (shown_any w).mono ?_
    rintro e w1 ⟨rfl, h1⟩
    have H1 := Lib.hid h1; clear h1
    go_wp2_with (fail)
    refine (small_any w1 p cap L (H.out.bel H1.out) hLL.out).mono ?_
    rintro e w2 ⟨rfl, h2⟩
    rw [HS.out]
    have H2 := Lib.hid (H1.out.trans h2.bel); clear h2
    go_wp2_with (fail)
    go_ret
    exact ⟨rfl, H2.out⟩
end Go.Proofs.Ythnhdiebkkfmgaa
