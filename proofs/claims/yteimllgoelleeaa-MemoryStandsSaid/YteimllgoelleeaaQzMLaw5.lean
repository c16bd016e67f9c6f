/- MemoryAges. -/
import Derived.Test.YteimllgoelleeaaQ11
import Derived.Test.YteimllgoelleeaaQ8
set_option linter.unusedSimpArgs false
set_option linter.unusedVariables false
namespace Go.Proofs.Yteimllgoelleeaa
open Go.RowKit Go.Deep

set_option maxHeartbeats 4000000 in
set_option maxRecDepth 20000 in
theorem law_ages_any {KM : MK} (W : World) (hok : KM.Ok W) (a0 : Option Addr) (cap0 : Nat) (L0 : List EB) (s1 : ByteArray) (i2 : Int) (hi0 : EntsAt W a0 L0) (hl0 : L0.length ≤ maxLen) (hs0 : fitsL L0) :
    Calls Try.prog 6 #[.slice a0 L0.length cap0, .string s1, .int .i64 i2] W fun e w' => e = .returned (.bool true) ∧ Bel W w' := by
  have HM := Lib.hid hok; have HI := Lib.hid hi0; have HF := Lib.hid hs0
  clear hok hi0 hs0
  unfold maxLen at hl0
  go_enter Try.func6, Try.ntmps6
  go_wp2_with (fail)
  refine (shown11_any W HM.out).mono ?_
  rintro e w1 ⟨rfl, hb⟩
  have HB1 := Lib.hid hb; clear hb
  go_wp2_with (fail)
  refine (small11_any a0 cap0 L0 w1 (HI.out.bel HB1.out) (by omega) HF.out).mono ?_
  rintro e w2 ⟨hd, hres⟩
  have HB2 := Lib.hid (HB1.out.trans hd.bel); clear hd
  rcases hres with ⟨hsm, rfl⟩ | rfl
  · by_cases hz : s1.size ≤ 1500
    · have hz' : ¬ (1500 : Int) < s1.size := by omega
      have hl100 := hsm.1
      have HSM := Lib.hid hsm
      clear hsm
      go_wp2_with (fail)
      refine (KM.new w2 (KM.okBel HM.out HB2.out)).mono ?_
      rintro e w3 ⟨b, F, rfl, hat, hn, hb⟩
      have HV := Lib.hid (MInv.start (L := L0) hat hn HB2.out hb)
      clear hat hn hb
      go_wp2_with (fail)
      go_loopw [10] (fun iv x => ∃ k : Nat, k ≤ L0.length ∧ iv = .int .i64 k ∧ MInv KM W L0 b k x) (fun iv _ => L0.length - (intOf iv).toNat)
      case atStart => exact ⟨0, Nat.zero_le _, rfl, HV.out⟩
      case round =>
        obtain ⟨k, hk, rfl, hv⟩ := hrel
        have HVK := Lib.hid hv
        clear hv
        by_cases hkl : k < L0.length
        · obtain ⟨a, e0, rfl, he0, B, O, sp, ha, c0, c1, c2, c3⟩ := (HI.out.bel HVK.out.old).get hkl
          have HADD := Lib.hid (minv_add HVK.out HSM.out hkl e0 he0 (by rw [he0]; exact fits_at HF.out hkl))
          clear he0
          go_wp2_with (fail)
          refine HADD.out.mono ?_
          rintro e w4 ⟨rfl, hv⟩
          have HV4 := Lib.hid hv
          clear hv HADD
          go_wp2_with (fail)
          go_roundw
          case rel => exact ⟨k + 1, hkl, by go_num, HV4.out⟩
          case measure => simp [intOf]; omega
        · obtain rfl : k = L0.length := by omega
          obtain ⟨F, hat, hn, hb⟩ := HVK.out.full
          have HAT := Lib.hid hat; have HB4 := Lib.hid hb
          have HH := Lib.hid (hold_all hl100)
          have HTOP := Lib.hid (fun x (h : getE s1.data.toList i2 (standingB L0) = some x) => get_top (standing_pair L0) h)
          have HNIL := Lib.hid (fun (h : getE s1.data.toList i2 (standingB L0) = none) => get_nothing h)
          have HHAS := Lib.hid (fun e (h : e ∈ L0) (hr : rightB e = true) => standing_has h hr)
          have HNEXT := Lib.hid (fun x (h : getE s1.data.toList i2 (standingB L0) = some x) => get_next h)
          clear hat hn hb HVK
          go_wp2_with (fail)
          refine (KM.get b F _ s1 i2 wr HAT.out HH.out).mono ?_
          rintro e w5 ⟨rfl, hb⟩
          have HB5 := Lib.hid (HB4.out.trans hb)
          have HAT5 := Lib.hid (KM.bel HAT.out hb)
          clear hb
          obtain ⟨o, ho⟩ : ∃ o, o = getE s1.data.toList i2 (standingB L0) := ⟨_, rfl⟩
          rw [← ho] at HTOP HNIL HNEXT ⊢
          have HO := Lib.hid ho
          clear ho
          cases o with
          | none =>
            unfold getM
            go_wp2_with (fail)
            obtain ⟨y5, hy5⟩ : ∃ y, y = w5.alloc (.cells #[.string ⟨#[]⟩, .int .i64 0, .bool false, .string ⟨#[]⟩] 33) := ⟨_, rfl⟩
            obtain ⟨X, hX⟩ : ∃ X, X = w5.heap.size := ⟨_, rfl⟩
            have HX := Lib.hid (show y5.cell? ⟨X, 0, none⟩ = some (.string ⟨#[]⟩) ∧ y5.cell? ⟨X, 1, none⟩ = some (.int .i64 0) ∧ y5.cell? ⟨X, 2, none⟩ = some (.bool false) ∧ y5.cell? ⟨X, 3, none⟩ = some (.string ⟨#[]⟩) by
              rw [hy5, hX]; exact ⟨(World.cell?_alloc_new ..).trans (by simp), (World.cell?_alloc_new ..).trans (by simp), (World.cell?_alloc_new ..).trans (by simp), (World.cell?_alloc_new ..).trans (by simp)⟩)
            have HY := Lib.hid (show Bel W y5 by rw [hy5]; exact HB5.out.alloc _)
            rw [← hy5, ← hX]
            clear hy5 hX
            go_loopw [13] (fun iv x => (∃ k : Nat, k ≤ L0.length ∧ iv = .int .i64 k) ∧ Bel y5 x) (fun iv _ => L0.length - (intOf iv).toNat)
            case atStart => exact ⟨⟨0, Nat.zero_le _, rfl⟩, Bel.refl y5⟩
            case round =>
              obtain ⟨⟨k, hk, rfl⟩, hb⟩ := hrel
              have HW := Lib.hid hb
              clear hb
              by_cases hkl : k < L0.length
              · obtain ⟨a, e0, rfl, he0, B, O, sp, ha, c0, c1, c2, c3⟩ := (HI.out.bel (HY.out.trans HW.out)).get hkl
                have HFE := Lib.hid (show e0.fits by rw [he0]; exact fits_at HF.out hkl)
                have HVE := Lib.hid (small_data HSM.out hkl e0 he0)
                have HIN := Lib.hid (show e0 ∈ L0 by rw [he0]; exact List.getElem_mem hkl)
                have hkw : IntKind.i64.wrap (k : Int) = k := by rw [IntKind.wrap_i64]; omega
                clear he0
                go_wp2_with (fail)
                refine (pright_any e0 _ HFE.out HVE.out).mono ?_
                rintro e w6 ⟨rfl, hb⟩
                have HW6 := Lib.hid (HW.out.trans hb)
                have d0 := cl11 hb c0
                have d1 := cl11 hb c1
                clear hb c0 c1 c2 c3
                cases hr : rightB e0 with
                | false =>
                  clear hr
                  go_wp2_with (fail)
                  go_quiet (fail)
                  go_wp2_with (fail)
                  go_roundw
                  case rel => exact ⟨⟨k + 1, hkl, by go_num⟩, HW6.out.drewN _⟩
                  case measure => simp [intOf]; omega
                | true =>
                  by_cases hke : e0.k = s1
                  · have hq : decide (e0.q ≤ i2) = false := by
                      obtain ⟨c, hc, hs⟩ := HHAS.out e0 HIN.out hr
                      have := HNIL.out trivial c hc (by rw [hs.1, hke])
                      rw [hs.2] at this; exact decide_eq_false (by omega)
                    rw [hke] at d0
                    have hself : (s1.toList == s1.toList) = true := beq_self_eq_true _
                    clear hr hke
                    go_wp2_with (fail)
                    go_quiet (fail)
                    go_wp2_with (fail)
                    go_roundw
                    case rel => exact ⟨⟨k + 1, hkl, by go_num⟩, HW6.out.drewN _⟩
                    case measure => simp [intOf]; omega
                  · have hkb : (e0.k.toList == s1.toList) = false := by
                      rw [ByteArray.toList_eq, ByteArray.toList_eq, beq_eq_false_iff_ne]
                      exact fun h => hke (ba_ext h)
                    clear hr hke
                    go_wp2_with (fail)
                    go_quiet (fail)
                    go_wp2_with (fail)
                    go_roundw
                    case rel => exact ⟨⟨k + 1, hkl, by go_num⟩, HW6.out.drewN _⟩
                    case measure => simp [intOf]; omega
              · obtain rfl : k = L0.length := by omega
                have d0 := cl11 HW.out HX.out.1
                have d1 := cl11 HW.out HX.out.2.1
                have d2 := cl11 HW.out HX.out.2.2.1
                have d3 := cl11 HW.out HX.out.2.2.2
                go_wp2_with (fail)
                go_ret
                exact ⟨rfl, HY.out.trans HW.out⟩
          | some x =>
            unfold getM
            go_wp2_with (fail)
            obtain ⟨y5, hy5⟩ : ∃ y, y = w5.alloc (.cells #[.string x.k, .int .i64 x.q, .bool x.d, .string x.v] 33) := ⟨_, rfl⟩
            obtain ⟨X, hX⟩ : ∃ X, X = w5.heap.size := ⟨_, rfl⟩
            have HX := Lib.hid (show y5.cell? ⟨X, 0, none⟩ = some (.string x.k) ∧ y5.cell? ⟨X, 1, none⟩ = some (.int .i64 x.q) ∧ y5.cell? ⟨X, 2, none⟩ = some (.bool x.d) ∧ y5.cell? ⟨X, 3, none⟩ = some (.string x.v) by
              rw [hy5, hX]; exact ⟨(World.cell?_alloc_new ..).trans (by simp), (World.cell?_alloc_new ..).trans (by simp), (World.cell?_alloc_new ..).trans (by simp), (World.cell?_alloc_new ..).trans (by simp)⟩)
            have HY := Lib.hid (show Bel W y5 by rw [hy5]; exact HB5.out.alloc _)
            have HATY := Lib.hid (show KM.At y5 b F (standingB L0) by rw [hy5]; exact KM.bel HAT5.out ((Bel.refl w5).alloc _))
            rw [← hy5, ← hX]
            clear hy5 hX
            obtain ⟨hx1, hx2, hx3⟩ := HNEXT.out x rfl
            have HXK := Lib.hid hx1; have HXM := Lib.hid hx3
            clear hx1 hx3
            go_loopw [13] (fun iv x => (∃ k : Nat, k ≤ L0.length ∧ iv = .int .i64 k) ∧ Bel y5 x) (fun iv _ => L0.length - (intOf iv).toNat)
            case atStart => exact ⟨⟨0, Nat.zero_le _, rfl⟩, Bel.refl y5⟩
            case round =>
              obtain ⟨⟨k, hk, rfl⟩, hb⟩ := hrel
              have HW := Lib.hid hb
              clear hb
              have z1 := cl11 HW.out HX.out.2.1
              by_cases hkl : k < L0.length
              · obtain ⟨a, e0, rfl, he0, B, O, sp, ha, c0, c1, c2, c3⟩ := (HI.out.bel (HY.out.trans HW.out)).get hkl
                have HFE := Lib.hid (show e0.fits by rw [he0]; exact fits_at HF.out hkl)
                have HVE := Lib.hid (small_data HSM.out hkl e0 he0)
                have HIN := Lib.hid (show e0 ∈ L0 by rw [he0]; exact List.getElem_mem hkl)
                have hkw : IntKind.i64.wrap (k : Int) = k := by rw [IntKind.wrap_i64]; omega
                clear he0
                go_wp2_with (fail)
                refine (pright_any e0 _ HFE.out HVE.out).mono ?_
                rintro e w6 ⟨rfl, hb⟩
                have HW6 := Lib.hid (HW.out.trans hb)
                have d0 := cl11 hb c0
                have d1 := cl11 hb c1
                have z2 := cl11 hb z1
                clear hb c0 c1 c2 c3 z1
                cases hr : rightB e0 with
                | false =>
                  clear hr
                  go_wp2_with (fail)
                  go_quiet (fail)
                  go_wp2_with (fail)
                  go_roundw
                  case rel => exact ⟨⟨k + 1, hkl, by go_num⟩, HW6.out.drewN _⟩
                  case measure => simp [intOf]; omega
                | true =>
                  by_cases hke : e0.k = s1
                  · have hself : (s1.toList == s1.toList) = true := beq_self_eq_true _
                    have HTQ := Lib.hid (show e0.q ≤ i2 → e0.q ≤ x.q from fun hq => by
                      obtain ⟨c, hc, hs⟩ := HHAS.out e0 HIN.out hr
                      have := HTOP.out x rfl c hc (by rw [hs.1, hke]) (by rw [hs.2]; exact hq)
                      rw [hs.2] at this; exact this)
                    rw [hke] at d0
                    clear hr hke
                    by_cases hq : e0.q ≤ i2
                    · have hq2 : ¬ x.q < e0.q := by have := HTQ.out hq; omega
                      go_wp2_with (fail)
                      go_quiet (fail)
                      go_wp2_with (fail)
                      go_roundw
                      case rel => exact ⟨⟨k + 1, hkl, by go_num⟩, HW6.out.drewN _⟩
                      case measure => simp [intOf]; omega
                    · have hqd : decide (e0.q ≤ i2) = false := decide_eq_false hq
                      clear hq
                      go_wp2_with (fail)
                      go_quiet (fail)
                      go_wp2_with (fail)
                      go_roundw
                      case rel => exact ⟨⟨k + 1, hkl, by go_num⟩, HW6.out.drewN _⟩
                      case measure => simp [intOf]; omega
                  · have hkb : (e0.k.toList == s1.toList) = false := by
                      rw [ByteArray.toList_eq, ByteArray.toList_eq, beq_eq_false_iff_ne]
                      exact fun h => hke (ba_ext h)
                    clear hr hke
                    go_wp2_with (fail)
                    go_quiet (fail)
                    go_wp2_with (fail)
                    go_roundw
                    case rel => exact ⟨⟨k + 1, hkl, by go_num⟩, HW6.out.drewN _⟩
                    case measure => simp [intOf]; omega
              · obtain rfl : k = L0.length := by omega
                have hxk : x.k = s1 := ba_ext HXK.out
                have d0 := cl11 HW.out HX.out.1
                have d1 := cl11 HW.out HX.out.2.1
                have d2 := cl11 HW.out HX.out.2.2.1
                have d3 := cl11 HW.out HX.out.2.2.2
                have HG := Lib.hid (show getE s1.data.toList x.q (standingB L0) = some x by rw [← hxk]; exact get_own (standing_pair L0) HXM.out)
                have HATW := Lib.hid (KM.bel HATY.out HW.out)
                have HHK := Lib.hid hxk
                clear hxk z1
                go_wp2_with (fail)
                refine (MK.get_is (KM := KM) b F _ s1 x.q (some x) wr HG.out HATW.out HH.out).mono ?_
                rintro e w7 ⟨rfl, hb⟩
                unfold getM
                have HB7 := Lib.hid ((HY.out.trans HW.out).trans hb)
                have hself : (x.k.toList == s1.toList) = true := by rw [HHK.out]; exact beq_self_eq_true _
                have g0 := cl11 (hb.alloc (.cells #[.string x.k, .int .i64 x.q, .bool x.d, .string x.v] 33)) d0
                have g1 := cl11 (hb.alloc (.cells #[.string x.k, .int .i64 x.q, .bool x.d, .string x.v] 33)) d1
                have g2 := cl11 (hb.alloc (.cells #[.string x.k, .int .i64 x.q, .bool x.d, .string x.v] 33)) d2
                have g3 := cl11 (hb.alloc (.cells #[.string x.k, .int .i64 x.q, .bool x.d, .string x.v] 33)) d3
                clear hb d0 d1 d2 d3
                go_wp2_with (fail)
                go_ret
                exact ⟨rfl, HB7.out.alloc _⟩
    · have hz' : (1500 : Int) < s1.size := by omega
      clear hsm
      go_wp2_with (fail)
      go_ret
      exact ⟨rfl, HB2.out⟩
  · go_wp2_with (fail)
    go_ret
    exact ⟨rfl, HB2.out⟩
end Go.Proofs.Yteimllgoelleeaa
