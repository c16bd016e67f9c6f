/- MemoryTables. -/
import Derived.Test.YteimllgoelleeaaGreatDoorZ11
import Derived.Test.YteimllgoelleeaaGreatDoorZ8
import Derived.Test.YteimllgoelleeaaGreatDoorZ25
import Derived.Test.YteimllgoelleeaaGreatDoorZ26
import Derived.Test.YteimllgoelleeaaGreatDoorZ23
set_option linter.unusedSimpArgs false
set_option linter.unusedVariables false
namespace Go.Proofs.YteimllgoelleeaaGreatDoor
open Go.RowKit Go.Deep

theorem getV_is (o : Option EB) : getV o = .tuple #[.agg #[.string (gotB o).k, .int .i64 (gotB o).q, .bool (gotB o).d, .string (gotB o).v], .bool o.isSome] := by cases o <;> rfl
theorem built11_any {M : List EB} (hs : standB M = true) (hl : M.length ≤ 100) : (M = [] ∧ buildT M = ([], 1)) ∨ (M ≠ [] ∧ buildT M = ([], 10)) ∨ (M ≠ [] ∧ rowsErr (rowsOf M) = 0 ∧ buildT M = (fileL M, 0)) := by
  by_cases h0 : M = []
  · exact Or.inl ⟨h0, buildT_arg (Or.inl h0)⟩
  · by_cases he : rowsErr (rowsOf M) = 0
    · exact Or.inr (Or.inr ⟨h0, he, buildT_ok h0 hs (by omega) he⟩)
    · refine Or.inr (Or.inl ⟨h0, ?_⟩)
      rw [buildT_err h0 hs (by omega) he]
      rcases rows_err hs with h | h
      · exact absurd h he
      · rw [h]
theorem stand_small11 {L : List EB} (hsm : Small11 L) : (standingB L).length ≤ 100 ∧ sizesL 100000 (standingB L) ∧ (∀ e ∈ standingB L, e.v.size ≤ 2000) := by
  have hs := standing_stand L
  have hl := standing_len L
  obtain ⟨hf, hz⟩ := right_fits (stand_right hs)
  refine ⟨by have := hsm.1; omega, hz, fun e he => ?_⟩
  obtain ⟨i, hi, rfl⟩ := List.mem_iff_getElem.1 (standing_mem he)
  exact (hsm.2 i hi).2
set_option maxHeartbeats 8000000 in
set_option maxRecDepth 20000 in
theorem law_mtables_any {KM : MK} (W : World) (hok : KM.Ok W) (hmax : MaxOk W) (a0 : Option Addr) (cap0 : Nat) (L0 : List EB) (s1 s2 : ByteArray) (i3 : Int) (hi0 : EntsAt W a0 L0) (hl0 : L0.length ≤ maxLen) (hs0 : fitsL L0) (hs1 : s1.size ≤ maxLen) (hs2 : s2.size ≤ maxLen) :
    Calls Tryz.prog 3 #[.slice a0 L0.length cap0, .string s1, .string s2, .int .i64 i3] W fun e w' => e = .returned (.bool true) ∧ Bel W w' := by
  have HM := Lib.hid hok; have HMX := Lib.hid hmax; have HI := Lib.hid hi0; have HF := Lib.hid hs0
  clear hok hmax hi0 hs0
  unfold maxLen at hl0
  go_enter Tryz.func3, Tryz.ntmps3
  go_wp2_with (fail)
  refine (shown11_any W HM.out).mono ?_
  rintro e w1 ⟨rfl, hb⟩
  have HB1 := Lib.hid hb; clear hb
  go_wp2_with (fail)
  refine (small11_any a0 cap0 L0 w1 (HI.out.bel HB1.out) (by omega) HF.out).mono ?_
  rintro e w2 ⟨hd, hres⟩
  have HB2 := Lib.hid (HB1.out.trans hd.bel); clear hd
  rcases hres with ⟨hsm, rfl⟩ | rfl
  rotate_left
  · go_wp2_with (fail)
    go_ret
    exact ⟨rfl, HB2.out⟩
  have hl100 := hsm.1
  have HSM := Lib.hid hsm
  clear hsm
  by_cases hz1 : s1.size ≤ 1500
  rotate_left
  · have hz' : (1500 : Int) < s1.size := by omega
    go_wp2_with (fail)
    go_ret
    exact ⟨rfl, HB2.out⟩
  have hz1' : ¬ (1500 : Int) < s1.size := by omega
  by_cases hz2 : s2.size ≤ 1500
  rotate_left
  · have hz' : (1500 : Int) < s2.size := by omega
    go_wp2_with (fail)
    go_ret
    exact ⟨rfl, HB2.out⟩
  have hz2' : ¬ (1500 : Int) < s2.size := by omega
  go_wp2_with (fail)
  refine (KM.new w2 (KM.okBel HM.out HB2.out)).mono ?_
  rintro e w3 ⟨b, F, rfl, hat, hn, hb⟩
  have HV := Lib.hid (MInv.start (L := L0) hat hn HB2.out hb)
  clear hat hn hb hz1' hz2'
  go_wp2_with (fail)
  go_loopw [12] (fun iv x => ∃ k : Nat, k ≤ L0.length ∧ iv = .int .i64 k ∧ MInv KM W L0 b k x) (fun iv _ => L0.length - (intOf iv).toNat)
  case atStart => exact ⟨0, Nat.zero_le _, rfl, HV.out⟩
  case round =>
    obtain ⟨k, hk, rfl, hv⟩ := hrel
    have HVK := Lib.hid hv
    clear hv
    by_cases hkl : k < L0.length
    · obtain ⟨a, e0, rfl, he0, B, O, sp, ha, c0, c1, c2, c3⟩ := (HI.out.bel HVK.out.old).get hkl
      have HADD := Lib.hid (minv_add HVK.out HSM.out hkl e0 he0 (by rw [he0]; exact fits_at HF.out hkl))
      clear he0
      go_wp2_with (fail)
      refine HADD.out.mono ?_
      rintro e w4 ⟨rfl, hv⟩
      have HV4 := Lib.hid hv
      clear hv HADD
      go_wp2_with (fail)
      go_roundw
      case rel => exact ⟨k + 1, hkl, by go_num, HV4.out⟩
      case measure => simp [intOf]; omega
    · obtain rfl : k = L0.length := by omega
      obtain ⟨F, hat, hn, hb⟩ := HVK.out.full
      have hH := hold_all hl100
      have HAT := Lib.hid hat; have HB4 := Lib.hid hb; have HH := Lib.hid hH
      obtain ⟨t1, t2, t3⟩ := stand_small11 HSM.out
      have HSF := Lib.hid (holds_fits hH); have HSZ := Lib.hid t2; have HSV := Lib.hid t3
      have HR := Lib.hid (stand_right hH.1)
      have HP := Lib.hid (standing_pair L0)
      obtain ⟨C, hC⟩ : ∃ C, C = standingB L0 := ⟨_, rfl⟩
      rw [← hC] at HAT HH HSF HSZ HSV HP HR t1
      have hBT : (betE s1.data.toList s2.data.toList C).length ≤ 1000000 := by
        have : (betE s1.data.toList s2.data.toList C).length ≤ C.length := List.length_filter_le _ _
        omega
      have hCT : (citesB C).length ≤ 1000000 := by have := cites_len C; omega
      obtain ⟨BT, hbt⟩ : ∃ BT, BT = betE s1.data.toList s2.data.toList C := ⟨_, rfl⟩
      obtain ⟨CTS, hcts⟩ : ∃ CTS, CTS = citesB C := ⟨_, rfl⟩
      rw [← hbt] at hBT
      rw [← hcts] at hCT
      have HBT := Lib.hid hbt; have HCTS := Lib.hid hcts
      obtain ⟨o, ho⟩ : ∃ o, o = getE s1.data.toList i3 C := ⟨_, rfl⟩
      have HO := Lib.hid ho.symm
      clear hat hn hb hH HVK hC t2 t3 hbt hcts ho
      go_wp2_with (fail)
      refine (MK.all (KM := KM) b F C wr HAT.out HH.out).mono ?_
      rintro e w4 ⟨q, qc, rfl, he, hb⟩
      have HE := Lib.hid he
      have HB5 := Lib.hid (HB4.out.trans hb)
      have HAT5 := Lib.hid (KM.bel HAT.out hb)
      clear he hb
      go_wp2_with (fail)
      refine (pbuildT_any q qc C w4 HE.out (by omega) HSF.out HSZ.out).mono ?_
      unfold buildV
      rcases built11_any HH.out.1 t1 with ⟨h0, hb0⟩ | ⟨h0, hb0⟩ | ⟨h0, he0, hb0⟩
      · rw [hb0]
        rintro e w5 ⟨rfl, hb⟩
        have HB6 := Lib.hid (HB5.out.trans hb)
        have HAT6 := Lib.hid (KM.bel HAT5.out hb)
        have hc0 : C.length = 0 := by rw [h0]; rfl
        have HC0 := Lib.hid h0
        rw [hc0]
        clear hb hb0 h0 hc0
        go_wp2_with (fail)
        refine (KM.len b F C w5 HAT6.out HH.out).mono ?_
        rintro r w6 ⟨rfl, hb⟩
        have HB7 := Lib.hid (HB6.out.trans hb)
        have HAT7 := Lib.hid (KM.bel HAT6.out hb)
        rw [show C.length = 0 by rw [HC0.out]; rfl]
        clear hb
        go_wp2_with (fail)
        refine (KM.cites b F C w6 HAT7.out HH.out).mono ?_
        rintro r w7 ⟨v7, rfl, ho, hb⟩
        have HB8 := Lib.hid (HB7.out.trans hb)
        rw [show citesB C = [] by rw [HC0.out]; rfl] at ho
        obtain ⟨q7, c7, rfl, -⟩ := ownG_cts ho
        clear hb ho
        go_wp2_with (fail)
        go_ret
        exact ⟨rfl, HB8.out⟩
      · rw [hb0]
        rintro e w5 ⟨rfl, hb⟩
        have HB6 := Lib.hid (HB5.out.trans hb)
        have hc0 : C.length ≠ 0 := fun h => h0 (List.length_eq_zero_iff.1 h)
        have hcb : ((C.length : Int) == 0) = false := by rw [beq_eq_false_iff_ne]; omega
        have hcn : ¬ (C.length : Int) = 0 := by omega
        obtain ⟨n, hn⟩ : ∃ n, n = C.length := ⟨_, rfl⟩
        rw [← hn] at hcb hcn ⊢
        clear hb hb0 h0 hc0 hn
        go_wp2_with (fail)
        go_ret
        exact ⟨rfl, HB6.out⟩
      · rw [hb0]
        obtain ⟨S, hS⟩ : ∃ S : ByteArray, S = ⟨(fileL C).toArray⟩ := ⟨_, rfl⟩
        have HSD := Lib.hid (show S.data.toList = fileL C by rw [hS])
        rw [← hS]
        rintro e w5 ⟨rfl, hb⟩
        have HB6 := Lib.hid (HB5.out.trans hb)
        have HAT6 := Lib.hid (KM.bel HAT5.out hb)
        have H0 := Lib.hid h0; have HE0 := Lib.hid he0
        clear hb hb0 h0 hS he0
        go_wp2_with (fail)
        refine (open_ok C S w5 HSD.out (HMX.out.bel HB6.out) HH.out.1 H0.out t1 HSV.out HE0.out).mono ?_
        rintro e w6 ⟨tb, rfl, ht, hb⟩
        have HB7 := Lib.hid (HB6.out.trans hb)
        have HAT7 := Lib.hid (KM.bel HAT6.out hb)
        have HT7 := Lib.hid ht
        clear hb ht
        obtain ⟨x, hx⟩ : ∃ x, x = gotB o := ⟨_, rfl⟩
        have HXO := Lib.hid hx
        obtain ⟨io, hio⟩ : ∃ io, io = o.isSome := ⟨_, rfl⟩
        have HIO := Lib.hid hio
        clear hx hio
        go_wp2_with (fail)
        refine (MK.get_is (KM := KM) b F C s1 i3 o w6 HO.out HAT7.out HH.out).mono ?_
        rintro e w7 ⟨rfl, hb⟩
        rw [getM_is, ← HXO.out, ← HIO.out]
        have HB8 := Lib.hid hb
        clear hb
        go_wp2_with (fail)
        obtain ⟨y7, hy7⟩ : ∃ y, y = w7.alloc (.cells #[.string x.k, .int .i64 x.q, .bool x.d, .string x.v] 30) := ⟨_, rfl⟩
        obtain ⟨X, hX⟩ : ∃ X, X = w7.heap.size := ⟨_, rfl⟩
        have HBY := Lib.hid (show Bel w6 y7 by rw [hy7]; exact HB8.out.alloc _)
        have HX := Lib.hid (show y7.cell? ⟨X, 0, none⟩ = some (.string x.k) ∧ y7.cell? ⟨X, 1, none⟩ = some (.int .i64 x.q) ∧ y7.cell? ⟨X, 2, none⟩ = some (.bool x.d) ∧ y7.cell? ⟨X, 3, none⟩ = some (.string x.v) by
          rw [hy7, hX]; exact ⟨(World.cell?_alloc_new ..).trans (by simp), (World.cell?_alloc_new ..).trans (by simp), (World.cell?_alloc_new ..).trans (by simp), (World.cell?_alloc_new ..).trans (by simp)⟩)
        rw [← hy7, ← hX]
        clear hy7 hX
        refine (get_any tb s1 i3 C y7 (HT7.out.bel HBY.out) (by omega) HP.out).mono ?_
        rintro e w8 ⟨rfl, hb⟩
        rw [HO.out, getV_is, ← HXO.out, ← HIO.out]
        have HB9 := Lib.hid hb
        clear hb
        have ha8 : Bel y7 (w8.alloc (.cells #[.string x.k, .int .i64 x.q, .bool x.d, .string x.v] 30)) := HB9.out.alloc _
        obtain ⟨d0, d1, d2, d3⟩ := cells4 ha8 HX.out
        obtain ⟨y8, hy8⟩ : ∃ y, y = w8.alloc (.cells #[.string x.k, .int .i64 x.q, .bool x.d, .string x.v] 30) := ⟨_, rfl⟩
        have HB68 := Lib.hid (show Bel w6 y8 by rw [hy8]; exact HBY.out.trans ha8)
        clear ha8
        go_wp2_with (fail)
        rw [← hy8]
        clear hy8 d0 d1 d2 d3
        refine (KM.between b F C s1 s2 _ (KM.bel HAT7.out HB68.out) HH.out).mono ?_
        rintro r z1 ⟨v1, rfl, ho, hb⟩
        rw [← HBT.out] at ho
        obtain ⟨q1, c1, rfl, he1⟩ := ownG_ents ho
        have HE1 := Lib.hid he1
        have HB1z := Lib.hid (HB68.out.trans hb)
        clear ho hb he1
        go_wp2_with (fail)
        refine (between_any10 tb s1 s2 C z1 (HT7.out.bel HB1z.out) (by omega) HP.out).mono ?_
        rintro r z2 ⟨v2, rfl, ho, hb⟩
        rw [← HBT.out] at ho
        obtain ⟨q2, c2, rfl, he2⟩ := ownG_ents ho
        have HE2 := Lib.hid he2
        have HE12 := Lib.hid (HE1.out.bel hb)
        have HB2z := Lib.hid (HB1z.out.trans hb)
        clear ho hb he2
        go_wp2_with (fail)
        refine (same11_at q1 q2 _ _ c1 c2 BT z2 HE12.out HE2.out hBT rfl rfl).mono ?_
        rintro r z3 ⟨rfl, hd⟩
        have HB3z := Lib.hid (HB2z.out.trans hd.bel)
        clear hd
        go_wp2_with (fail)
        refine (KM.cites b F C z3 (KM.bel HAT7.out HB3z.out) HH.out).mono ?_
        rintro r z6 ⟨v6, rfl, ho, hb⟩
        rw [← HCTS.out] at ho
        obtain ⟨q6, c6, rfl, he6⟩ := ownG_cts ho
        have HE6 := Lib.hid he6
        have HB6z := Lib.hid (HB3z.out.trans hb)
        clear ho hb he6
        go_wp2_with (fail)
        refine (tcites_any tb C z6 (HT7.out.bel HB6z.out) (by omega) HR.out).mono ?_
        rintro r z7 ⟨v7, rfl, ho, hb⟩
        rw [← HCTS.out] at ho
        obtain ⟨q7, c7, rfl, he7⟩ := ownG_cts ho
        have HE7 := Lib.hid he7
        have HE67 := Lib.hid (HE6.out.bel hb)
        have HB7z := Lib.hid (HB6z.out.trans hb)
        clear ho hb he7
        go_wp2_with (fail)
        refine (samecites11_at q6 q7 _ _ c6 c7 CTS z7 HE67.out HE7.out hCT rfl rfl).mono ?_
        rintro r z8 ⟨rfl, hd⟩
        have HB8z := Lib.hid (HB7z.out.trans hd.bel)
        clear hd
        go_wp2_with (fail)
        refine (KM.len b F C z8 (KM.bel HAT7.out HB8z.out) HH.out).mono ?_
        rintro r z9 ⟨rfl, hb⟩
        have HB9z := Lib.hid (HB8z.out.trans hb)
        clear hb
        go_wp2_with (fail)
        refine (len10_any tb C z9 (HT7.out.bel HB9z.out)).mono ?_
        rintro r z10 ⟨rfl, hb⟩
        have HB10z := Lib.hid (HB9z.out.trans hb)
        clear hb
        go_wp2_with (fail)
        go_ret
        exact ⟨rfl, HB7.out.trans HB10z.out⟩
end Go.Proofs.YteimllgoelleeaaGreatDoor
