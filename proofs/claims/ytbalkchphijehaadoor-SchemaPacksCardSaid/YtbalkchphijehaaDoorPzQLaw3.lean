/- SchemaPacks: true for every argument. -/
import Derived.Test.YtbalkchphijehaaDoorP12
import Derived.Test.YtbalkchphijehaaDoorP17
set_option linter.unusedSimpArgs false
set_option linter.unusedVariables false
set_option maxRecDepth 20000
namespace Go.Proofs.YtbalkchphijehaaDoor
open Go.RowKit Go.Deep


theorem u8_byte (to_ : Int) : ∃ x : UInt8, IntKind.u8.wrap to_ = (x.toNat : Int) := by
  have h : 0 ≤ IntKind.u8.wrap to_ ∧ IntKind.u8.wrap to_ < 256 := by rw [IntKind.wrap_u8']; omega
  refine ⟨UInt8.ofNat (IntKind.u8.wrap to_).toNat, ?_⟩
  rw [UInt8.toNat_ofNat', Nat.mod_eq_of_lt (by omega)]
  omega
set_option maxHeartbeats 32000000 in
theorem packs14_law (ver next : Int) (p : Option Addr) (c : Nat) (F : List FV) (t : ByteArray) (at_ to_ : Int) (w : World) (h : FldsAt w p F) (hF : F.length ≤ maxLen) (hc : F.length ≤ c) (hV : allF F) (hstd : Std w) (hn : t.size ≤ maxLen) (hat : -9223372036854775808 ≤ at_ ∧ at_ ≤ 9223372036854775807) :
    Calls Tryd.prog 5 #[.agg #[.int .i64 ver, .int .i64 next, .slice p F.length c], .string t, .int .i64 at_, .int .i64 to_] w fun e w' => e = .returned (.bool true) ∧ Bel w w' := by
  unfold maxLen at *
  have H := Lib.hid h
  have HV := Lib.hid hV
  have HST := Lib.hid hstd
  have HFM := Lib.hid hF; have HFC := Lib.hid hc
  clear h hV hstd
  obtain ⟨X, hX⟩ : ∃ X, X = w.heap.size := ⟨_, rfl⟩
  obtain ⟨w1, hw1⟩ : ∃ z, z = w.alloc (.cells #[.int .i64 ver, .int .i64 next, .slice p F.length c] 24) := ⟨_, rfl⟩
  have HB1 := Lib.hid (show Bel w w1 by rw [hw1]; exact (Bel.refl w).alloc _)
  have HK1 := Lib.hid (show w1.heap[X]? = some (.cells #[.int .i64 ver, .int .i64 next, .slice p F.length c] 24 (0, 0)) by rw [hw1, hX]; exact heap_alloc_new w _)
  have HRS := Lib.hid (show ∀ z, Bel w1 z → (z.cell? ⟨X, 0, none⟩ = some (.int .i64 ver) ∧ z.cell? ⟨X, 1, none⟩ = some (.int .i64 next) ∧ z.cell? ⟨X, 2, none⟩ = some (.slice p F.length c)) from fun z hz => (qbox3 (qbel HK1.out hz)).1)
  go_enter Tryd.func5, Tryd.ntmps5
  go_wp2_with (fail)
  rw [← hw1, ← hX]
  clear hw1 hX
  refine (shown14_any _ (HST.out.bel HB1.out)).mono ?_
  rintro e w2 ⟨rfl, hb⟩
  have HB2 := Lib.hid (show Bel w1 w2 from hb)
  clear hb
  obtain ⟨s0, s1, s2⟩ := HRS.out _ HB2.out
  go_wp2_with (fail)
  clear s0 s1 s2
  refine (small14_any ver next p c F none 0 [] _ (H.out.bel (HB1.out.trans HB2.out)) (by unfold maxLen; exact HFM.out) (fun i hi => by simp at hi) (by unfold maxLen; simp)).mono ?_
  intro e w3 hsm
  obtain ⟨b, rfl, hbs, hb⟩ := hsm
  have HB3 := Lib.hid (HB2.out.trans hb)
  have HSM := Lib.hid hbs
  clear hb hbs
  cases b with
  | false =>
    go_wp2_with (fail)
    go_ret
    exact ⟨rfl, HB1.out.trans HB3.out⟩
  | true =>
    have HAT := Lib.hid hat
    clear hat
    by_cases hl : t.size ≤ 4000
    · have hl' : ¬ (4000 : Int) < (t.size : Int) := by omega
      have HTZ := Lib.hid hl
      clear hl
      obtain ⟨s0, s1, s2⟩ := HRS.out _ HB3.out
      go_wp2_with (fail)
      clear s0 s1 s2
      refine (ppack14_any ver next p c F _ (H.out.bel (HB1.out.trans HB3.out)) (by unfold maxLen; exact HFM.out) HFC.out HV.out (HST.out.bel (HB1.out.trans HB3.out))).mono ?_
      rintro e w4 ⟨rfl, hb⟩
      have HB4 := Lib.hid (HB3.out.trans hb)
      clear hb
      cases hrs : rightS ⟨ver, next, F⟩ with
      | false =>
        have HPK := Lib.hid (pack14_no hrs)
        rw [HPK.out]
        clear hrs
        obtain ⟨s0, s1, s2⟩ := HRS.out _ HB4.out
        go_wp2_with (fail)
        clear s0 s1 s2
        refine (rpack14_any ver next p c F _ (H.out.bel (HB1.out.trans HB4.out)) (by unfold maxLen; exact HFM.out) HV.out).mono ?_
        rintro e w5 ⟨rfl, hb⟩
        rw [HPK.out]
        have HB5 := Lib.hid (HB4.out.trans hb)
        clear hb
        go_wp2_with (fail)
        refine (unpacks14_any t _ (by have := HTZ.out; omega) (HST.out.bel (HB1.out.trans HB5.out))).mono ?_
        rintro e w6 ⟨rfl, hb⟩
        have HB6 := Lib.hid (HB5.out.trans hb)
        clear hb
        go_wp2_with (fail)
        go_ret
        exact ⟨rfl, HB1.out.trans HB6.out⟩
      | true =>
        have HPK0 := Lib.hid (pack14_yes hrs)
        have hpz := encS_len hrs
        have hne : encS ⟨ver, next, F⟩ ≠ [] := by
          have h1 := readS_enc hrs (fun f hf => (HV.out f hf).1.2.2) []
          intro h0
          rw [h0, List.append_nil] at h1
          cases h1
        clear hrs
        obtain ⟨P, hP⟩ : ∃ P : ByteArray, P = ⟨(encS ⟨ver, next, F⟩).toArray⟩ := ⟨_, rfl⟩
        have HPK := Lib.hid (show packV14 ⟨ver, next, F⟩ = .tuple #[.string P, .int .i64 0] by rw [HPK0.out, hP])
        have hpos : 0 < P.size := by rw [hP, qba_size]; exact List.length_pos_iff.2 hne
        have hPz : P.size ≤ 24675 := by rw [hP, qba_size]; exact hpz
        clear hP hpz hne HPK0
        have hemp : P.toList.isEmpty = false := by
          rw [ByteArray.toList_eq]
          cases h : P.data.toList with
          | nil => exfalso; have e : P.data.toList.length = P.size := rfl; rw [h] at e; simp at e; omega
          | cons a l => rfl
        have HPOS := Lib.hid hpos
        have HPZ := Lib.hid hPz
        clear hpos hPz
        rw [HPK.out]
        obtain ⟨s0, s1, s2⟩ := HRS.out _ HB4.out
        go_wp2_with (fail)
        clear s0 s1 s2
        refine (rpack14_any ver next p c F _ (H.out.bel (HB1.out.trans HB4.out)) (by unfold maxLen; exact HFM.out) HV.out).mono ?_
        rintro e w5 ⟨rfl, hb⟩
        rw [HPK.out]
        have HB5 := Lib.hid (HB4.out.trans hb)
        clear hb
        go_wp2_with (fail)
        refine (unpacks14_any t _ (by have := HTZ.out; omega) (HST.out.bel (HB1.out.trans HB5.out))).mono ?_
        rintro e w6 ⟨rfl, hb⟩
        have HB6 := Lib.hid (HB5.out.trans hb)
        clear hb
        obtain ⟨w7, cap, hcv, hb, hrow, hgr⟩ := conv_bytesQ w6 P
        have HB7 := Lib.hid (HB6.out.trans hb)
        have HR := Lib.hid hrow
        clear hb hrow
        obtain ⟨x1, hx1⟩ := u8_byte to_
        go_wp2_with (fail)
        refine (pick_atQ at_ _ P.size _ HAT.out HPOS.out (by have := HPZ.out; omega) (by first | rfl | omega)).mono ?_
        rintro e w8 ⟨rfl, hb⟩
        have HB8 := Lib.hid (HB7.out.trans hb.bel)
        have HR8 := Lib.hid (HR.out.bel hb.bel)
        have hblk : w6.heap.size < w8.heap.size := by have := hb.bel.size; omega
        have hb1 : w1.heap.size ≤ w6.heap.size := HB6.out.size
        clear hb hgr hcv
        obtain ⟨B, hB⟩ : ∃ B, B = w6.heap.size := ⟨_, rfl⟩
        rw [← hB] at HR8 hblk hb1 ⊢
        clear hB HR
        obtain ⟨kk, hkk⟩ : ∃ kk, kk = pickNQ at_ P.size := ⟨_, rfl⟩
        have hkl : kk < P.data.toList.length := by rw [hkk]; exact pickN_ltQ at_ HPOS.out
        rw [← hkk]
        clear hkk
        have HKL := Lib.hid hkl
        have hkz : kk < P.size := hkl
        have hki : (kk : Int) < (P.size : Int) := by omega
        obtain ⟨hc, hfr⟩ := HR8.out kk HKL.out
        have HBS := Lib.hid hb1
        clear hkl hb1
        have hrow2 := HR8.out.set kk HKL.out x1
        have hcv2 := hrow2.conv cap
        rw [show (P.data.toList.set kk x1).length = P.size by rw [List.length_set]; rfl] at hcv2
        obtain ⟨Q, hQ⟩ : ∃ Q : ByteArray, Q = ⟨(P.data.toList.set kk x1).toArray⟩ := ⟨_, rfl⟩
        have HQZ := Lib.hid (show Q.size ≤ 1000000 by rw [hQ, qba_size, List.length_set]; have h1 := HPZ.out; have e : P.data.toList.length = P.size := rfl; omega)
        rw [← hQ] at hcv2
        clear hQ hrow2
        have HB9 := Lib.hid (show Bel w1 (w8.setCell ⟨B, kk, none⟩ (.int .u8 (x1.toNat : Int))) from HB8.out.setCell (p := ⟨B, kk, none⟩) HBS.out _)
        have hpn : ¬ 9223372036854775807 < P.size + t.size := by have h1 := HPZ.out; have h2 := HTZ.out; omega
        go_wp2_with (fail)
        refine (unpacks14_any Q _ HQZ.out (HST.out.bel (HB1.out.trans HB9.out))).mono ?_
        rintro e w10 ⟨rfl, hb⟩
        have HB10 := Lib.hid (HB9.out.trans hb)
        clear hb hcv2 hc hfr
        go_wp2_with (fail)
        refine (unpacks14_any _ _ (by have h1 := HPZ.out; have h2 := HTZ.out; rw [ByteArray.size_append]; omega) (HST.out.bel (HB1.out.trans HB10.out))).mono ?_
        rintro e w11 ⟨rfl, hb⟩
        have HB11 := Lib.hid (HB10.out.trans hb)
        clear hb
        go_wp2_with (fail)
        go_ret
        exact ⟨rfl, HB1.out.trans HB11.out⟩
    · have hl' : (4000 : Int) < (t.size : Int) := by omega
      clear hl
      go_wp2_with (fail)
      go_ret
      exact ⟨rfl, HB1.out.trans HB3.out⟩
end Go.Proofs.YtbalkchphijehaaDoor
