/- SchemaBack: true for every argument. -/
import Derived.Test.YtbalkchphijehaaDoorPzQLaw2
set_option linter.unusedSimpArgs false
set_option linter.unusedVariables false
set_option maxRecDepth 20000
namespace Go.Proofs.YtbalkchphijehaaDoor
open Go.RowKit Go.Deep


theorem row_more {t ver : Nat} {L : List KV} {x : UInt8} {z : List UInt8} (h : rowB t ver L = true) (hi : ∀ v ∈ L, v.in64) : readRow (encRow t ver L ++ x :: z) = none := by
  obtain ⟨h1, h2, h3, h4⟩ := rowB_parts h
  unfold readRow encRow
  rw [List.append_assoc, show (3 : Nat) = [t, ver, L.length].length from rfl, rdN_puts _ _ (fun n hn => by
    simp only [List.mem_cons, List.not_mem_nil, or_false] at hn
    rcases hn with rfl | rfl | rfl <;> omega)]
  simp only
  rw [if_pos h3, rdV_vals L (x :: z) (fun v hv => ⟨h4 v hv, hi v hv⟩)]
set_option maxHeartbeats 64000000 in
theorem back14_law (ver next : Int) (p : Option Addr) (c : Nat) (F : List FV) (tb : Int) (q : Option Addr) (d : Nat) (L : List KV) (t : ByteArray) (w : World) (h : FldsAt w p F) (hF : F.length ≤ maxLen) (hc : F.length ≤ c) (hV : allF F) (h' : ValsAt w q L) (hL : L.length ≤ maxLen) (hW : allV L) (hstd : Std w) (hn : t.size ≤ maxLen) :
    Calls Tryd.prog 6 #[.agg #[.int .i64 ver, .int .i64 next, .slice p F.length c], .int .i64 tb, .slice q L.length d, .string t] w fun e w' => e = .returned (.bool true) ∧ Bel w w' := by
  unfold maxLen at *
  have H := Lib.hid h; have H' := Lib.hid h'
  have HV := Lib.hid hV; have HW := Lib.hid hW
  have HST := Lib.hid hstd
  have HFM := Lib.hid hF; have HLM := Lib.hid hL; have HFC := Lib.hid hc
  clear h h' hV hW hstd
  obtain ⟨X, hX⟩ : ∃ X, X = w.heap.size := ⟨_, rfl⟩
  obtain ⟨w1, hw1⟩ : ∃ z, z = w.alloc (.cells #[.int .i64 ver, .int .i64 next, .slice p F.length c] 24) := ⟨_, rfl⟩
  have HB1 := Lib.hid (show Bel w w1 by rw [hw1]; exact (Bel.refl w).alloc _)
  have HK1 := Lib.hid (show w1.heap[X]? = some (.cells #[.int .i64 ver, .int .i64 next, .slice p F.length c] 24 (0, 0)) by rw [hw1, hX]; exact heap_alloc_new w _)
  have HRS := Lib.hid (show ∀ z, Bel w1 z → (z.cell? ⟨X, 0, none⟩ = some (.int .i64 ver) ∧ z.cell? ⟨X, 1, none⟩ = some (.int .i64 next) ∧ z.cell? ⟨X, 2, none⟩ = some (.slice p F.length c)) from fun z hz => (qbox3 (qbel HK1.out hz)).1)
  go_enter Tryd.func6, Tryd.ntmps6
  go_wp2_with (fail)
  rw [← hw1, ← hX]
  clear hw1 hX
  refine (shown14_any _ (HST.out.bel HB1.out)).mono ?_
  rintro e w2 ⟨rfl, hb⟩
  have HB2 := Lib.hid (show Bel w1 w2 from hb)
  clear hb
  obtain ⟨s0, s1, s2⟩ := HRS.out _ HB2.out
  go_wp2_with (fail)
  clear s0 s1 s2
  refine (small14_any ver next p c F q d L _ (H.out.bel (HB1.out.trans HB2.out)) (by unfold maxLen; exact HFM.out) (H'.out.bel (HB1.out.trans HB2.out)) (by unfold maxLen; exact HLM.out)).mono ?_
  intro e w3 hsm
  obtain ⟨b, rfl, hbs, hb⟩ := hsm
  have HB3 := Lib.hid (HB2.out.trans hb)
  have HSM := Lib.hid hbs
  clear hb hbs
  cases b with
  | false =>
    go_wp2_with (fail)
    go_ret
    exact ⟨rfl, HB1.out.trans HB3.out⟩
  | true =>
    have HSML := Lib.hid (HSM.out rfl)
    by_cases hl : t.size ≤ 3000
    · have hl' : ¬ (3000 : Int) < (t.size : Int) := by omega
      have HTZ := Lib.hid (show t.size ≤ 1000000 by omega)
      have HTZ3 := Lib.hid hl
      clear hl
      obtain ⟨s0, s1, s2⟩ := HRS.out _ HB3.out
      go_wp2_with (fail)
      clear s0 s1 s2
      refine (ppack14_any ver next p c F _ (H.out.bel (HB1.out.trans HB3.out)) (by unfold maxLen; exact HFM.out) HFC.out HV.out (HST.out.bel (HB1.out.trans HB3.out))).mono ?_
      rintro e w4 ⟨rfl, hb⟩
      have HB4 := Lib.hid (HB3.out.trans hb)
      clear hb
      cases hrs : rightS ⟨ver, next, F⟩ with
      | false =>
        rw [pack14_no hrs]
        clear hrs
        obtain ⟨s0, s1, s2⟩ := HRS.out _ HB4.out
        go_wp2_with (fail)
        clear s0 s1 s2
        refine (pput14_any tb ver q d L _ (H'.out.bel (HB1.out.trans HB4.out)) (by unfold maxLen; exact HLM.out) HW.out (HST.out.bel (HB1.out.trans HB4.out))).mono ?_
        rintro e w5 ⟨rfl, hb⟩
        have HB5 := Lib.hid (HB4.out.trans hb)
        clear hb
        cases hrb : rowB tb ver L with
        | false =>
          rw [prow_no hrb]
          clear hrb
          obtain ⟨s0, s1, s2⟩ := HRS.out _ HB5.out
          go_wp2_with (fail)
          clear s0 s1 s2
          refine (ptake14_any t _ HTZ.out (HST.out.bel (HB1.out.trans HB5.out))).mono ?_
          intro e w6 h1
          cases hro : readRow t.data.toList with
          | none =>
            rw [hro] at h1
            obtain ⟨rfl, hb⟩ := h1
            clear hro
            have hal : Bel w6 (w6.alloc (.cells #[.int .i64 0, .slice none 0 0] 41)) := (Bel.refl _).alloc _
            have HB6 := Lib.hid ((HB5.out.trans hb).trans hal)
            obtain ⟨⟨r0, r1⟩, -⟩ := qbox2 (heap_alloc_new w6 (.cells #[.int .i64 0, .slice none 0 0] 41))
            have HRW := Lib.hid (heap_alloc_new w6 (.cells #[.int .i64 0, .slice none 0 0] 41))
            clear hb hal
            obtain ⟨x, ex, hpx⟩ := prow_form 0 0 []
            have HPX := Lib.hid hpx
            clear hpx
            go_wp2_with (fail)
            clear r0 r1
            refine (pput14_any 0 0 none 0 [] _ (fun i hi => by simp at hi) (by unfold maxLen; simp) (fun v hv => by cases hv) (HST.out.bel (HB1.out.trans HB6.out))).mono ?_
            rintro e w7 ⟨rfl, hb⟩
            rw [HPX.out]
            have HB7 := Lib.hid (HB6.out.trans hb)
            obtain ⟨⟨r0, r1⟩, -⟩ := qbox2 (qbel HRW.out hb)
            clear hb
            go_wp2_with (fail)
            go_ret
            exact ⟨rfl, HB1.out.trans HB7.out⟩
          | some o =>
            obtain ⟨a, b, M⟩ := o
            rw [hro] at h1
            obtain ⟨v, rfl, hov, hb⟩ := h1
            obtain ⟨hrb, hm64, henc⟩ := row_back hro
            have HPR := Lib.hid (prow_yes (show rowB (a : Int) (b : Int) M = true from hrb))
            have HEN := Lib.hid (show (⟨(encRow a b M).toArray⟩ : ByteArray) = t by rw [henc])
            have hMW : allV M := fun v hv => ⟨hm64 v hv, by have := right_len14 ((rowB_parts hrb).2.2.2 v hv); unfold maxLen; omega⟩
            have HMW := Lib.hid hMW
            have HML := Lib.hid (rowB_parts hrb).2.2.1
            have HA0 := Lib.hid (show (0 : Int) ≤ (a : Int) by omega)
            clear hro hrb hm64 henc hMW
            obtain ⟨mp, mc, rfl, hva⟩ := ownG_vals hov
            have hal : Bel w6 (w6.alloc (.cells #[.int .i64 (b : Int), .slice mp M.length mc] 41)) := (Bel.refl _).alloc _
            have HB6 := Lib.hid ((HB5.out.trans hb).trans hal)
            have HVA := Lib.hid (hva.bel hal)
            obtain ⟨⟨r0, r1⟩, -⟩ := qbox2 (heap_alloc_new w6 (.cells #[.int .i64 (b : Int), .slice mp M.length mc] 41))
            clear hb hal hov hva
            simp only
            go_wp2_with (fail)
            clear r0 r1
            refine (pput14_any (a : Int) (b : Int) mp mc M _ HVA.out (by have := HML.out; unfold maxLen; omega) HMW.out (HST.out.bel (HB1.out.trans HB6.out))).mono ?_
            rintro e w7 ⟨rfl, hb⟩
            rw [HPR.out]
            simp only [Int.toNat_natCast]
            rw [HEN.out]
            have HB7 := Lib.hid (HB6.out.trans hb)
            clear hb
            go_wp2_with (fail)
            go_ret
            exact ⟨rfl, HB1.out.trans HB7.out⟩
        | true =>
          have HRB := Lib.hid hrb
          have HRP := Lib.hid (rowB_parts hrb)
          rw [prow_yes hrb]
          clear hrb
          have HTB := Lib.hid (show ((tb.toNat : Nat) : Int) = tb by have := HRP.out.1; omega)
          have HVR := Lib.hid (show ((ver.toNat : Nat) : Int) = ver by have := HRP.out.2.1; omega)
          obtain ⟨D, hD⟩ : ∃ D : ByteArray, D = ⟨(encRow tb.toNat ver.toNat L).toArray⟩ := ⟨_, rfl⟩
          have HDL := Lib.hid (show D.data.toList = encRow tb.toNat ver.toNat L by rw [hD])
          have hdz : D.size ≤ 24063 := by rw [hD, qba_size]; exact row_len (by have h1 := HTB.out; have h2 := HVR.out; rw [h1, h2]; exact HRB.out)
          have HRO := Lib.hid (show readRow D.data.toList = some (tb.toNat, ver.toNat, L) by
            rw [HDL.out]; exact row_enc (by have h1 := HTB.out; have h2 := HVR.out; rw [h1, h2]; exact HRB.out) (fun v hv => (HW.out v hv).1))
          have HMO := Lib.hid (show readRow (D ++ ⟨#[120]⟩).data.toList = none by
            have e : (D ++ ⟨#[120]⟩).data.toList = encRow tb.toNat ver.toNat L ++ 120 :: [] := by rw [← HDL.out]; simp
            rw [e]; exact row_more (by have h1 := HTB.out; have h2 := HVR.out; rw [h1, h2]; exact HRB.out) (fun v hv => (HW.out v hv).1))
          simp only
          rw [← hD]
          clear hD
          have hdn : ¬ 9223372036854775807 < D.size + 1 := by omega
          have HDZ := Lib.hid hdz
          go_wp2_with (fail)
          refine (ptake14_any D _ (by have := HDZ.out; omega) (HST.out.bel (HB1.out.trans HB5.out))).mono ?_
          intro e w6 h1
          rw [HRO.out] at h1
          obtain ⟨v, rfl, hov, hb⟩ := h1
          simp only at hov ⊢
          rw [HTB.out, HVR.out]
          obtain ⟨mp, mc, rfl, hva⟩ := ownG_vals hov
          have hal : Bel w6 (w6.alloc (.cells #[.int .i64 ver, .slice mp L.length mc] 41)) := (Bel.refl _).alloc _
          have HB6 := Lib.hid ((HB5.out.trans hb).trans hal)
          have HVA := Lib.hid (hva.bel hal)
          have HRW := Lib.hid (heap_alloc_new w6 (.cells #[.int .i64 ver, .slice mp L.length mc] 41))
          clear hb hal hov hva
          go_wp2_with (fail)
          refine (ptake14_any _ _ (by have := HDZ.out; rw [ByteArray.size_append]; show D.size + 1 ≤ _; omega) (HST.out.bel (HB1.out.trans HB6.out))).mono ?_
          intro e w7 h1
          rw [HMO.out] at h1
          obtain ⟨rfl, hb⟩ := h1
          have hal : Bel w7 (w7.alloc (.cells #[.int .i64 0, .slice none 0 0] 41)) := (Bel.refl _).alloc _
          have HB7 := Lib.hid ((HB6.out.trans hb).trans hal)
          have HVA2 := Lib.hid (HVA.out.bel (hb.trans hal))
          obtain ⟨⟨r0, r1⟩, -⟩ := qbox2 (qbel HRW.out (hb.trans hal))
          obtain ⟨s0, s1, s2⟩ := HRS.out _ HB7.out
          clear hb hal hdn hdz
          go_wp2_with (fail)
          clear r0 r1 s0 s1 s2
          refine (sameV14_any mp q mc d L _ HVA2.out (H'.out.bel (HB1.out.trans HB7.out)) (by have := HRP.out.2.2.1; omega)).mono ?_
          rintro e w8 ⟨rfl, hd⟩
          have HB8 := Lib.hid (HB7.out.trans hd.bel)
          clear hd HVA HVA2 HRW
          obtain ⟨s0, s1, s2⟩ := HRS.out _ HB8.out
          go_wp2_with (fail)
          clear s0 s1 s2
          refine (ptake14_any t _ HTZ.out (HST.out.bel (HB1.out.trans HB8.out))).mono ?_
          intro e w9 h1
          cases hro : readRow t.data.toList with
          | none =>
            rw [hro] at h1
            obtain ⟨rfl, hb⟩ := h1
            clear hro
            have hal : Bel w9 (w9.alloc (.cells #[.int .i64 0, .slice none 0 0] 41)) := (Bel.refl _).alloc _
            have HB9 := Lib.hid ((HB8.out.trans hb).trans hal)
            obtain ⟨⟨r0, r1⟩, -⟩ := qbox2 (heap_alloc_new w9 (.cells #[.int .i64 0, .slice none 0 0] 41))
            have HRW := Lib.hid (heap_alloc_new w9 (.cells #[.int .i64 0, .slice none 0 0] 41))
            clear hb hal
            obtain ⟨x, ex, hpx⟩ := prow_form 0 0 []
            have HPX := Lib.hid hpx
            clear hpx
            go_wp2_with (fail)
            clear r0 r1
            refine (pput14_any 0 0 none 0 [] _ (fun i hi => by simp at hi) (by unfold maxLen; simp) (fun v hv => by cases hv) (HST.out.bel (HB1.out.trans HB9.out))).mono ?_
            rintro e w10 ⟨rfl, hb⟩
            rw [HPX.out]
            have HB10 := Lib.hid (HB9.out.trans hb)
            obtain ⟨⟨r0, r1⟩, -⟩ := qbox2 (qbel HRW.out hb)
            clear hb
            go_wp2_with (fail)
            go_ret
            exact ⟨rfl, HB1.out.trans HB10.out⟩
          | some o =>
            obtain ⟨a, b, M⟩ := o
            rw [hro] at h1
            obtain ⟨v, rfl, hov, hb⟩ := h1
            obtain ⟨hrb, hm64, henc⟩ := row_back hro
            have HPR := Lib.hid (prow_yes (show rowB (a : Int) (b : Int) M = true from hrb))
            have HEN := Lib.hid (show (⟨(encRow a b M).toArray⟩ : ByteArray) = t by rw [henc])
            have hMW : allV M := fun v hv => ⟨hm64 v hv, by have := right_len14 ((rowB_parts hrb).2.2.2 v hv); unfold maxLen; omega⟩
            have HMW := Lib.hid hMW
            have HML := Lib.hid (rowB_parts hrb).2.2.1
            have HA0 := Lib.hid (show (0 : Int) ≤ (a : Int) by omega)
            clear hro hrb hm64 henc hMW
            obtain ⟨mp, mc, rfl, hva⟩ := ownG_vals hov
            have hal : Bel w9 (w9.alloc (.cells #[.int .i64 (b : Int), .slice mp M.length mc] 41)) := (Bel.refl _).alloc _
            have HB9 := Lib.hid ((HB8.out.trans hb).trans hal)
            have HVA := Lib.hid (hva.bel hal)
            obtain ⟨⟨r0, r1⟩, -⟩ := qbox2 (heap_alloc_new w9 (.cells #[.int .i64 (b : Int), .slice mp M.length mc] 41))
            clear hb hal hov hva
            simp only
            go_wp2_with (fail)
            clear r0 r1
            refine (pput14_any (a : Int) (b : Int) mp mc M _ HVA.out (by have := HML.out; unfold maxLen; omega) HMW.out (HST.out.bel (HB1.out.trans HB9.out))).mono ?_
            rintro e w10 ⟨rfl, hb⟩
            rw [HPR.out]
            simp only [Int.toNat_natCast]
            rw [HEN.out]
            have HB10 := Lib.hid (HB9.out.trans hb)
            clear hb
            go_wp2_with (fail)
            go_ret
            exact ⟨rfl, HB1.out.trans HB10.out⟩
      | true =>
        have HRT := Lib.hid hrs
        have HRL := Lib.hid (readS_enc hrs (fun f hf => (HV.out f hf).1.2.2) t.data.toList)
        have hpz := encS_len hrs
        rw [pack14_yes hrs]
        clear hrs
        obtain ⟨P, hP⟩ : ∃ P : ByteArray, P = ⟨(encS ⟨ver, next, F⟩).toArray⟩ := ⟨_, rfl⟩
        have hPz : P.size ≤ 24675 := by rw [hP, qba_size]; exact hpz
        have HPL := Lib.hid (show (P ++ t).data.toList = encS ⟨ver, next, F⟩ ++ t.data.toList by rw [hP]; simp)
        rw [← hP]
        clear hP hpz
        have HPZ := Lib.hid hPz
        have hpn : ¬ 9223372036854775807 < P.size + t.size := by have := HTZ3.out; omega
        clear hPz
        go_wp2_with (fail)
        refine (punpack14_any _ _ (by have h1 := HPZ.out; have h2 := HTZ3.out; rw [ByteArray.size_append]; omega) (HST.out.bel (HB1.out.trans HB4.out))).mono ?_
        intro e w5 h1
        rw [HPL.out, HRL.out] at h1
        obtain ⟨v, rfl, hov, hb⟩ := h1
        simp only at hov ⊢
        rw [← show t = ⟨t.data.toList.toArray⟩ from qba_of rfl]
        obtain ⟨fp, fc, rfl⟩ := ownG_len hov
        have hal : Bel w5 (w5.alloc (.cells #[.int .i64 ver, .int .i64 next, .slice fp F.length fc] 24)) := (Bel.refl _).alloc _
        have HB5 := Lib.hid ((HB4.out.trans hb).trans hal)
        have HVF := Lib.hid ((ownG_fldsQ hov).bel hal)
        obtain ⟨⟨g0, g1, g2⟩, -⟩ := qbox3 (heap_alloc_new w5 (.cells #[.int .i64 ver, .int .i64 next, .slice fp F.length fc] 24))
        obtain ⟨s0, s1, s2⟩ := HRS.out _ HB5.out
        clear hb hal hov hpn
        go_wp2_with (fail)
        clear s0 s1 s2 g0 g1 g2
        refine (same14_any ver next fp p fc c F _ HVF.out (H.out.bel (HB1.out.trans HB5.out)) (by have := HSML.out.1.1; omega)).mono ?_
        rintro e w6 ⟨rfl, hb⟩
        have HB6 := Lib.hid (HB5.out.trans hb)
        clear hb HVF
        obtain ⟨s0, s1, s2⟩ := HRS.out _ HB6.out
        go_wp2_with (fail)
        clear s0 s1 s2
        refine (pput14_any tb ver q d L _ (H'.out.bel (HB1.out.trans HB6.out)) (by unfold maxLen; exact HLM.out) HW.out (HST.out.bel (HB1.out.trans HB6.out))).mono ?_
        rintro e w7 ⟨rfl, hb⟩
        have HB7 := Lib.hid (HB6.out.trans hb)
        clear hb
        cases hrb : rowB tb ver L with
        | false =>
          rw [prow_no hrb]
          clear hrb
          obtain ⟨s0, s1, s2⟩ := HRS.out _ HB7.out
          go_wp2_with (fail)
          clear s0 s1 s2
          refine (ptake14_any t _ HTZ.out (HST.out.bel (HB1.out.trans HB7.out))).mono ?_
          intro e w8 h1
          cases hro : readRow t.data.toList with
          | none =>
            rw [hro] at h1
            obtain ⟨rfl, hb⟩ := h1
            clear hro
            have hal : Bel w8 (w8.alloc (.cells #[.int .i64 0, .slice none 0 0] 41)) := (Bel.refl _).alloc _
            have HB8 := Lib.hid ((HB7.out.trans hb).trans hal)
            obtain ⟨⟨r0, r1⟩, -⟩ := qbox2 (heap_alloc_new w8 (.cells #[.int .i64 0, .slice none 0 0] 41))
            have HRW := Lib.hid (heap_alloc_new w8 (.cells #[.int .i64 0, .slice none 0 0] 41))
            clear hb hal
            obtain ⟨x, ex, hpx⟩ := prow_form 0 0 []
            have HPX := Lib.hid hpx
            clear hpx
            go_wp2_with (fail)
            clear r0 r1
            refine (pput14_any 0 0 none 0 [] _ (fun i hi => by simp at hi) (by unfold maxLen; simp) (fun v hv => by cases hv) (HST.out.bel (HB1.out.trans HB8.out))).mono ?_
            rintro e w9 ⟨rfl, hb⟩
            rw [HPX.out]
            have HB9 := Lib.hid (HB8.out.trans hb)
            obtain ⟨⟨r0, r1⟩, -⟩ := qbox2 (qbel HRW.out hb)
            clear hb
            go_wp2_with (fail)
            go_ret
            exact ⟨rfl, HB1.out.trans HB9.out⟩
          | some o =>
            obtain ⟨a, b, M⟩ := o
            rw [hro] at h1
            obtain ⟨v, rfl, hov, hb⟩ := h1
            obtain ⟨hrb, hm64, henc⟩ := row_back hro
            have HPR := Lib.hid (prow_yes (show rowB (a : Int) (b : Int) M = true from hrb))
            have HEN := Lib.hid (show (⟨(encRow a b M).toArray⟩ : ByteArray) = t by rw [henc])
            have hMW : allV M := fun v hv => ⟨hm64 v hv, by have := right_len14 ((rowB_parts hrb).2.2.2 v hv); unfold maxLen; omega⟩
            have HMW := Lib.hid hMW
            have HML := Lib.hid (rowB_parts hrb).2.2.1
            have HA0 := Lib.hid (show (0 : Int) ≤ (a : Int) by omega)
            clear hro hrb hm64 henc hMW
            obtain ⟨mp, mc, rfl, hva⟩ := ownG_vals hov
            have hal : Bel w8 (w8.alloc (.cells #[.int .i64 (b : Int), .slice mp M.length mc] 41)) := (Bel.refl _).alloc _
            have HB8 := Lib.hid ((HB7.out.trans hb).trans hal)
            have HVA := Lib.hid (hva.bel hal)
            obtain ⟨⟨r0, r1⟩, -⟩ := qbox2 (heap_alloc_new w8 (.cells #[.int .i64 (b : Int), .slice mp M.length mc] 41))
            clear hb hal hov hva
            simp only
            go_wp2_with (fail)
            clear r0 r1
            refine (pput14_any (a : Int) (b : Int) mp mc M _ HVA.out (by have := HML.out; unfold maxLen; omega) HMW.out (HST.out.bel (HB1.out.trans HB8.out))).mono ?_
            rintro e w9 ⟨rfl, hb⟩
            rw [HPR.out]
            simp only [Int.toNat_natCast]
            rw [HEN.out]
            have HB9 := Lib.hid (HB8.out.trans hb)
            clear hb
            go_wp2_with (fail)
            go_ret
            exact ⟨rfl, HB1.out.trans HB9.out⟩
        | true =>
          have HRB := Lib.hid hrb
          have HRP := Lib.hid (rowB_parts hrb)
          rw [prow_yes hrb]
          clear hrb
          have HTB := Lib.hid (show ((tb.toNat : Nat) : Int) = tb by have := HRP.out.1; omega)
          have HVR := Lib.hid (show ((ver.toNat : Nat) : Int) = ver by have := HRP.out.2.1; omega)
          obtain ⟨D, hD⟩ : ∃ D : ByteArray, D = ⟨(encRow tb.toNat ver.toNat L).toArray⟩ := ⟨_, rfl⟩
          have HDL := Lib.hid (show D.data.toList = encRow tb.toNat ver.toNat L by rw [hD])
          have hdz : D.size ≤ 24063 := by rw [hD, qba_size]; exact row_len (by have h1 := HTB.out; have h2 := HVR.out; rw [h1, h2]; exact HRB.out)
          have HRO := Lib.hid (show readRow D.data.toList = some (tb.toNat, ver.toNat, L) by
            rw [HDL.out]; exact row_enc (by have h1 := HTB.out; have h2 := HVR.out; rw [h1, h2]; exact HRB.out) (fun v hv => (HW.out v hv).1))
          have HMO := Lib.hid (show readRow (D ++ ⟨#[120]⟩).data.toList = none by
            have e : (D ++ ⟨#[120]⟩).data.toList = encRow tb.toNat ver.toNat L ++ 120 :: [] := by rw [← HDL.out]; simp
            rw [e]; exact row_more (by have h1 := HTB.out; have h2 := HVR.out; rw [h1, h2]; exact HRB.out) (fun v hv => (HW.out v hv).1))
          simp only
          rw [← hD]
          clear hD
          have hdn : ¬ 9223372036854775807 < D.size + 1 := by omega
          have HDZ := Lib.hid hdz
          go_wp2_with (fail)
          refine (ptake14_any D _ (by have := HDZ.out; omega) (HST.out.bel (HB1.out.trans HB7.out))).mono ?_
          intro e w8 h1
          rw [HRO.out] at h1
          obtain ⟨v, rfl, hov, hb⟩ := h1
          simp only at hov ⊢
          rw [HTB.out, HVR.out]
          obtain ⟨mp, mc, rfl, hva⟩ := ownG_vals hov
          have hal : Bel w8 (w8.alloc (.cells #[.int .i64 ver, .slice mp L.length mc] 41)) := (Bel.refl _).alloc _
          have HB8 := Lib.hid ((HB7.out.trans hb).trans hal)
          have HVA := Lib.hid (hva.bel hal)
          have HRW := Lib.hid (heap_alloc_new w8 (.cells #[.int .i64 ver, .slice mp L.length mc] 41))
          clear hb hal hov hva
          go_wp2_with (fail)
          refine (ptake14_any _ _ (by have := HDZ.out; rw [ByteArray.size_append]; show D.size + 1 ≤ _; omega) (HST.out.bel (HB1.out.trans HB8.out))).mono ?_
          intro e w9 h1
          rw [HMO.out] at h1
          obtain ⟨rfl, hb⟩ := h1
          have hal : Bel w9 (w9.alloc (.cells #[.int .i64 0, .slice none 0 0] 41)) := (Bel.refl _).alloc _
          have HB9 := Lib.hid ((HB8.out.trans hb).trans hal)
          have HVA2 := Lib.hid (HVA.out.bel (hb.trans hal))
          obtain ⟨⟨r0, r1⟩, -⟩ := qbox2 (qbel HRW.out (hb.trans hal))
          obtain ⟨s0, s1, s2⟩ := HRS.out _ HB9.out
          clear hb hal hdn hdz
          go_wp2_with (fail)
          clear r0 r1 s0 s1 s2
          refine (sameV14_any mp q mc d L _ HVA2.out (H'.out.bel (HB1.out.trans HB9.out)) (by have := HRP.out.2.2.1; omega)).mono ?_
          rintro e w10 ⟨rfl, hd⟩
          have HB10 := Lib.hid (HB9.out.trans hd.bel)
          clear hd HVA HVA2 HRW
          obtain ⟨s0, s1, s2⟩ := HRS.out _ HB10.out
          go_wp2_with (fail)
          clear s0 s1 s2
          refine (ptake14_any t _ HTZ.out (HST.out.bel (HB1.out.trans HB10.out))).mono ?_
          intro e w11 h1
          cases hro : readRow t.data.toList with
          | none =>
            rw [hro] at h1
            obtain ⟨rfl, hb⟩ := h1
            clear hro
            have hal : Bel w11 (w11.alloc (.cells #[.int .i64 0, .slice none 0 0] 41)) := (Bel.refl _).alloc _
            have HB11 := Lib.hid ((HB10.out.trans hb).trans hal)
            obtain ⟨⟨r0, r1⟩, -⟩ := qbox2 (heap_alloc_new w11 (.cells #[.int .i64 0, .slice none 0 0] 41))
            have HRW := Lib.hid (heap_alloc_new w11 (.cells #[.int .i64 0, .slice none 0 0] 41))
            clear hb hal
            obtain ⟨x, ex, hpx⟩ := prow_form 0 0 []
            have HPX := Lib.hid hpx
            clear hpx
            go_wp2_with (fail)
            clear r0 r1
            refine (pput14_any 0 0 none 0 [] _ (fun i hi => by simp at hi) (by unfold maxLen; simp) (fun v hv => by cases hv) (HST.out.bel (HB1.out.trans HB11.out))).mono ?_
            rintro e w12 ⟨rfl, hb⟩
            rw [HPX.out]
            have HB12 := Lib.hid (HB11.out.trans hb)
            obtain ⟨⟨r0, r1⟩, -⟩ := qbox2 (qbel HRW.out hb)
            clear hb
            go_wp2_with (fail)
            go_ret
            exact ⟨rfl, HB1.out.trans HB12.out⟩
          | some o =>
            obtain ⟨a, b, M⟩ := o
            rw [hro] at h1
            obtain ⟨v, rfl, hov, hb⟩ := h1
            obtain ⟨hrb, hm64, henc⟩ := row_back hro
            have HPR := Lib.hid (prow_yes (show rowB (a : Int) (b : Int) M = true from hrb))
            have HEN := Lib.hid (show (⟨(encRow a b M).toArray⟩ : ByteArray) = t by rw [henc])
            have hMW : allV M := fun v hv => ⟨hm64 v hv, by have := right_len14 ((rowB_parts hrb).2.2.2 v hv); unfold maxLen; omega⟩
            have HMW := Lib.hid hMW
            have HML := Lib.hid (rowB_parts hrb).2.2.1
            have HA0 := Lib.hid (show (0 : Int) ≤ (a : Int) by omega)
            clear hro hrb hm64 henc hMW
            obtain ⟨mp, mc, rfl, hva⟩ := ownG_vals hov
            have hal : Bel w11 (w11.alloc (.cells #[.int .i64 (b : Int), .slice mp M.length mc] 41)) := (Bel.refl _).alloc _
            have HB11 := Lib.hid ((HB10.out.trans hb).trans hal)
            have HVA := Lib.hid (hva.bel hal)
            obtain ⟨⟨r0, r1⟩, -⟩ := qbox2 (heap_alloc_new w11 (.cells #[.int .i64 (b : Int), .slice mp M.length mc] 41))
            clear hb hal hov hva
            simp only
            go_wp2_with (fail)
            clear r0 r1
            refine (pput14_any (a : Int) (b : Int) mp mc M _ HVA.out (by have := HML.out; unfold maxLen; omega) HMW.out (HST.out.bel (HB1.out.trans HB11.out))).mono ?_
            rintro e w12 ⟨rfl, hb⟩
            rw [HPR.out]
            simp only [Int.toNat_natCast]
            rw [HEN.out]
            have HB12 := Lib.hid (HB11.out.trans hb)
            clear hb
            go_wp2_with (fail)
            go_ret
            exact ⟨rfl, HB1.out.trans HB12.out⟩
    · have hl' : (3000 : Int) < (t.size : Int) := by omega
      clear hl
      go_wp2_with (fail)
      go_ret
      exact ⟨rfl, HB1.out.trans HB3.out⟩
end Go.Proofs.YtbalkchphijehaaDoor
