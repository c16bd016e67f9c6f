/- MemoryOrders. -/
import Derived.Test.YteimllgoelleeaaQ11
set_option linter.unusedSimpArgs false
set_option linter.unusedVariables false
namespace Go.Proofs.Yteimllgoelleeaa
open Go.RowKit Go.Deep

set_option maxHeartbeats 8000000 in
set_option maxRecDepth 20000 in
theorem law_orders_any {KM : MK} (W : World) (hok : KM.Ok W) (a0 : Option Addr) (cap0 : Nat) (L0 : List EB) (i1 : Int) (hi0 : EntsAt W a0 L0) (hl0 : L0.length ≤ maxLen) (hs0 : fitsL L0) (hi1 : -9223372036854775808 ≤ i1 ∧ i1 ≤ 9223372036854775807) :
    Calls Try.prog 4 #[.slice a0 L0.length cap0, .int .i64 i1] W fun e w' => e = .returned (.bool true) ∧ Bel W w' := by
  have HM := Lib.hid hok; have HI := Lib.hid hi0; have HF := Lib.hid hs0
  clear hok hi0 hs0
  unfold maxLen at hl0
  go_enter Try.func4, Try.ntmps4
  go_wp2_with (fail)
  refine (shown11_any W HM.out).mono ?_
  rintro e w1 ⟨rfl, hb⟩
  have HB1 := Lib.hid hb; clear hb
  go_wp2_with (fail)
  refine (small11_any a0 cap0 L0 w1 (HI.out.bel HB1.out) (by omega) HF.out).mono ?_
  rintro e w2 ⟨hd, hres⟩
  have HB2 := Lib.hid (HB1.out.trans hd.bel); clear hd
  rcases hres with ⟨hsm, rfl⟩ | rfl
  rotate_left
  · go_wp2_with (fail)
    go_ret
    exact ⟨rfl, HB2.out⟩
  have hl100 := hsm.1
  have HSM := Lib.hid hsm
  clear hsm
  by_cases hz0 : L0.length = 0
  · have hz' : ((L0.length : Int) == 0) = true := by rw [beq_iff_eq]; omega
    have hz2 : (L0.length : Int) = 0 := by omega
    go_wp2_with (fail)
    go_ret
    exact ⟨rfl, HB2.out⟩
  have hz' : ((L0.length : Int) == 0) = false := by rw [beq_eq_false_iff_ne]; omega
  have HZ := Lib.hid (show 0 < L0.length by omega)
  clear hz0
  go_wp2_with (fail)
  go_loopw [7] (fun iv x => (∃ i : Nat, i ≤ L0.length ∧ iv = .int .i64 i ∧ ∀ p (hp : p < L0.length) q (hq : q < L0.length), p < i → q < p → ¬ sameB L0[p] L0[q]) ∧ Drw w2 x) (fun iv _ => L0.length - (intOf iv).toNat)
  case atStart => exact ⟨⟨0, Nat.zero_le _, rfl, fun p _ q _ h => by omega⟩, Drw.refl w2⟩
  case round =>
    obtain ⟨⟨i, hi, rfl, hall⟩, hw⟩ := hrel
    have HALL := Lib.hid hall
    have HW := Lib.hid hw
    clear hall hw
    obtain ⟨x1, hx1⟩ : ∃ x, x = wr := ⟨_, rfl⟩
    subst hx1
    by_cases hil : i < L0.length
    · obtain ⟨a, e0, rfl, he0, B, O, sp, ha, c0, c1, c2, c3⟩ := (HI.out.bel (HB2.out.trans HW.out.bel)).get hil
      have HE0 := Lib.hid he0
      have hiw : IntKind.i64.wrap (i : Int) = i := by rw [IntKind.wrap_i64]; omega
      clear he0
      go_wp2_with (fail)
      go_loopw [8] (fun kv x => (∃ k : Nat, k ≤ i ∧ kv = .int .i64 k ∧ ∀ q (hq : q < L0.length), q < k → ¬ sameB e0 L0[q]) ∧ Drw x1 x) (fun kv _ => i - (intOf kv).toNat)
      case atStart => exact ⟨⟨0, Nat.zero_le _, rfl, fun q _ h => by omega⟩, Drw.refl x1⟩
      case round =>
        obtain ⟨⟨k, hk, rfl, hall⟩, hw⟩ := hrel
        have HAL2 := Lib.hid hall
        have HW2 := Lib.hid hw
        clear hall hw
        by_cases hki : k < i
        · have hkl : k < L0.length := by omega
          obtain ⟨_, e1, ha', he1, B', O', sp', ha2, b0, b1, b2, b3⟩ := (HI.out.bel (HB2.out.trans (HW.out.trans HW2.out).bel)).get hkl
          cases ha'
          have d0 := cl11 HW2.out.bel c0
          have d1 := cl11 HW2.out.bel c1
          have hkw : IntKind.i64.wrap (k : Int) = k := by rw [IntKind.wrap_i64]; omega
          have HE1 := Lib.hid he1
          clear he1
          by_cases hkk : e0.k = e1.k
          · rw [hkk] at d0
            have hself : (e1.k.toList == e1.k.toList) = true := beq_self_eq_true _
            by_cases hqq : e0.q = e1.q
            · rw [hqq] at d1
              have hself2 : (e1.q == e1.q) = true := beq_self_eq_true _
              clear hkk hqq
              go_wp2_with (fail)
              go_quiet (fail)
              go_wp2_with (fail)
              go_ret
              exact ⟨rfl, HB2.out.trans ((HW.out.trans HW2.out).drewN _).bel⟩
            · have hqb : (e0.q == e1.q) = false := by rw [beq_eq_false_iff_ne]; exact hqq
              have HN := Lib.hid (show ∀ q (hq : q < L0.length), q < k + 1 → ¬ sameB e0 L0[q] from fun q hq h => by
                by_cases e' : q = k
                · subst e'; rw [← HE1.out]; exact fun hs => hqq hs.2
                · exact HAL2.out q hq (by omega))
              clear hkk hqq
              go_wp2_with (fail)
              go_quiet (fail)
              go_wp2_with (fail)
              go_roundw
              case rel => exact ⟨⟨k + 1, hki, by go_num, HN.out⟩, HW2.out.drewN _⟩
              case measure => simp [intOf]; omega
          · have hkb : (e0.k.toList == e1.k.toList) = false := by
              rw [ByteArray.toList_eq, ByteArray.toList_eq, beq_eq_false_iff_ne]
              exact fun h => hkk (ba_ext h)
            have HN := Lib.hid (show ∀ q (hq : q < L0.length), q < k + 1 → ¬ sameB e0 L0[q] from fun q hq h => by
              by_cases e' : q = k
              · subst e'; rw [← HE1.out]; exact fun hs => hkk (ba_ext hs.1)
              · exact HAL2.out q hq (by omega))
            clear hkk
            go_wp2_with (fail)
            go_quiet (fail)
            go_wp2_with (fail)
            go_roundw
            case rel => exact ⟨⟨k + 1, hki, by go_num, HN.out⟩, HW2.out.drewN _⟩
            case measure => simp [intOf]; omega
        · obtain rfl : k = i := by omega
          have HN := Lib.hid (show ∀ p (hp : p < L0.length) q (hq : q < L0.length), p < k + 1 → q < p → ¬ sameB L0[p] L0[q] from fun p hp q hq h hqp => by
            by_cases e' : p = k
            · subst e'; rw [← HE0.out]; exact HAL2.out q hq hqp
            · exact HALL.out p hp q hq (by omega) hqp)
          go_wp2_with (fail)
          go_roundw
          case rel => exact ⟨⟨k + 1, hil, by go_num, HN.out⟩, HW.out.trans HW2.out⟩
          case measure => simp [intOf]; omega
    · obtain rfl : i = L0.length := by omega
      have HDIFF := Lib.hid (show ∀ p (hp : p < L0.length) q (hq : q < L0.length), q < p → ¬ sameB L0[p] L0[q] from fun p hp q hq h => HALL.out p hp q hq hp h)
      have HB3 := Lib.hid (HB2.out.trans HW.out.bel)
      clear HALL HW
      have hlp : (0 : Int) < (L0.length : Int) := by have := HZ.out; omega
      have hr1 := Int.tmod_lt_of_pos i1 hlp
      have hr2 := Int.lt_tmod_of_pos i1 hlp
      have hlz : ¬ (L0.length : Int) = 0 := by omega
      by_cases hneg : i1.tmod (L0.length : Int) < 0
      · obtain ⟨N, hN⟩ : ∃ N : Nat, (N : Int) = -(i1.tmod (L0.length : Int)) := ⟨(-(i1.tmod (L0.length : Int))).toNat, by omega⟩
        have HN := Lib.hid (show N < L0.length by omega)
        have hwn : wrap64 (-(i1.tmod (L0.length : Int))) = (N : Int) := by rw [← hN]; unfold wrap64; omega
        have hN2 : -(i1.tmod (L0.length : Int)) = (N : Int) := hN.symm
        have hNl := HN.out
        clear hr1 hr2 hN
        go_wp2_with (fail)
        refine (KM.new x1 (KM.okBel HM.out HB3.out)).mono ?_
        rintro e x2 ⟨a, F, rfl, hat, hn, hb⟩
        have HATA := Lib.hid hat; have HNA := Lib.hid hn; have HBA := Lib.hid hb
        clear hat hn hb
        go_wp2_with (fail)
        refine (KM.new x2 (KM.okBel HM.out (HB3.out.trans HBA.out))).mono ?_
        rintro e x3 ⟨b, G, rfl, hat, hn, hb⟩
        have HV := Lib.hid (PInv.start (L := L0) (M := turnL L0 N HZ.out) HATA.out HNA.out HB3.out HBA.out hat hn hb)
        clear hat hn hb
        go_wp2_with (fail)
        go_loopw [12] (fun iv x => ∃ k : Nat, k ≤ L0.length ∧ iv = .int .i64 k ∧ PInv KM W L0 (turnL L0 N HZ.out) a b k k x) (fun iv _ => L0.length - (intOf iv).toNat)
        case atStart => exact ⟨0, Nat.zero_le _, rfl, HV.out⟩
        case round =>
          obtain ⟨k, hk, rfl, hv⟩ := hrel
          have HVK := Lib.hid hv
          clear hv
          by_cases hkl : k < L0.length
          · obtain ⟨ad, e0, rfl, he0, B, O, sp, ha, c0, c1, c2, c3⟩ := HI.out.get hkl
            have HADD := Lib.hid (pinv_a HVK.out HSM.out hkl e0 he0 (by rw [he0]; exact fits_at HF.out hkl))
            have d0 := cl11 HVK.out.old c0
            have d1 := cl11 HVK.out.old c1
            have d2 := cl11 HVK.out.old c2
            have d3 := cl11 HVK.out.old c3
            have hkw : IntKind.i64.wrap (k : Int) = k := by rw [IntKind.wrap_i64]; omega
            clear he0 c0 c1 c2 c3
            obtain ⟨t, ht⟩ : ∃ t : Nat, t = N + L0.length := ⟨_, rfl⟩
            obtain ⟨u, hu⟩ : ∃ u : Nat, u = t - 1 := ⟨_, rfl⟩
            obtain ⟨v, hv⟩ : ∃ v : Nat, v = u - k := ⟨_, rfl⟩
            obtain ⟨j, hj⟩ : ∃ j : Nat, j = v % L0.length := ⟨_, rfl⟩
            have hw1 : IntKind.i64.wrap ((N : Int) + (L0.length : Int)) = (t : Int) := by rw [IntKind.wrap_i64]; omega
            have hw2 : IntKind.i64.wrap ((t : Int) - 1) = (u : Int) := by rw [IntKind.wrap_i64]; omega
            have hw3 : IntKind.i64.wrap ((u : Int) - (k : Int)) = (v : Int) := by rw [IntKind.wrap_i64]; omega
            have hw4 : (v : Int).tmod (L0.length : Int) = (j : Int) := by rw [hj]; exact (Int.ofNat_tmod v L0.length).symm
            have hjl : j < L0.length := by rw [hj]; exact Nat.mod_lt _ HZ.out
            have hw5 : IntKind.i64.wrap (j : Int) = j := by rw [IntKind.wrap_i64]; omega
            have hji : (j : Int) < (L0.length : Int) := by omega
            obtain ⟨ad2, e1, had, he1, B', O', sp', ha2, b0, b1, b2, b3⟩ := HI.out.get hjl
            cases had
            have HT1 := Lib.hid (show e1 = (turnL L0 N HZ.out)[k]'(by rw [turn_len]; exact hkl) by
              rw [turn_at L0 N HZ.out k _ (Nat.mod_lt _ HZ.out), he1]
              have hvv : v = N + L0.length - 1 - k := by omega
              congr 1
              rw [hj, hvv])
            have HF1 := Lib.hid (show e1.fits by rw [he1]; exact fits_at HF.out hjl)
            clear he1 hj ht hu hv
            have HB0' := Lib.hid (And.intro b0 (And.intro b1 (And.intro b2 b3)))
            clear b0 b1 b2 b3
            go_wp2_with (fail)
            refine HADD.out.mono ?_
            rintro e w4 ⟨rfl, hv⟩
            have HV4 := Lib.hid hv
            obtain ⟨b0, b1, b2, b3⟩ := cells4 HV4.out.old HB0'.out
            clear hv HADD d0 d1 d2 d3
            go_wp2_with (fail)
            refine (pinv_b HV4.out (turn_small HSM.out N HZ.out HN.out) (by rw [turn_len]; exact hkl) e1 HT1.out HF1.out).mono ?_
            rintro e w5 ⟨rfl, hv⟩
            have HV5 := Lib.hid hv
            clear hv
            go_wp2_with (fail)
            go_roundw
            case rel => exact ⟨k + 1, hkl, by go_num, HV5.out⟩
            case measure => simp [intOf]; omega
          · obtain rfl : k = L0.length := by omega
            obtain ⟨F, G, hat, hbt, hfg, hn, hn2, hb⟩ := HVK.out
            rw [List.take_length] at hat
            rw [List.take_of_length_le (by rw [turn_len]; exact Nat.le_refl _), turn_same N HZ.out HN.out HDIFF.out] at hbt
            have HAT := Lib.hid hat; have HBT := Lib.hid hbt; have HB4 := Lib.hid hb
            have HH := Lib.hid (hold_all hl100)
            have hcl := standing_len L0
            obtain ⟨C, hC⟩ : ∃ C, C = standingB L0 := ⟨_, rfl⟩
            rw [← hC] at HAT HBT HH hcl
            have hCT : (citesB C).length ≤ 1000000 := by have := cites_len C; omega
            obtain ⟨CTS, hcts⟩ : ∃ CTS, CTS = citesB C := ⟨_, rfl⟩
            rw [← hcts] at hCT
            have HCTS := Lib.hid hcts
            obtain ⟨m, hm⟩ : ∃ m, m = sizeM C := ⟨_, rfl⟩
            have HMM := Lib.hid hm
            clear hat hbt hfg hn hn2 hb hC hcts HVK HV hm
            go_wp2_with (fail)
            refine (MK.all (KM := KM) a F C wr HAT.out HH.out).mono ?_
            rintro r z1 ⟨q1, c1, rfl, he1, hb⟩
            have HB1z := Lib.hid hb
            have HE1 := Lib.hid he1
            clear hb he1
            go_wp2_with (fail)
            refine (MK.all (KM := KM) b G C z1 (KM.bel HBT.out HB1z.out) HH.out).mono ?_
            rintro r z2 ⟨q2, c2, rfl, he2, hb⟩
            have HB2z := Lib.hid (HB1z.out.trans hb)
            have HE2 := Lib.hid he2
            have HE12 := Lib.hid (HE1.out.bel hb)
            clear hb he2
            go_wp2_with (fail)
            refine (same11_at q1 q2 _ _ c1 c2 C z2 HE12.out HE2.out (by omega) rfl rfl).mono ?_
            rintro r z3 ⟨rfl, hd⟩
            have HB3z := Lib.hid (HB2z.out.trans hd.bel)
            clear hd
            go_wp2_with (fail)
            refine (KM.size a F C z3 (KM.bel HAT.out HB3z.out) HH.out).mono ?_
            rw [← HMM.out]
            rintro r z4 ⟨rfl, hb⟩
            have HB4z := Lib.hid (HB3z.out.trans hb)
            clear hb
            go_wp2_with (fail)
            refine (KM.size b G C z4 (KM.bel HBT.out HB4z.out) HH.out).mono ?_
            rw [← HMM.out]
            rintro r z5 ⟨rfl, hb⟩
            have HB5z := Lib.hid (HB4z.out.trans hb)
            clear hb
            go_wp2_with (fail)
            refine (KM.len a F C z5 (KM.bel HAT.out HB5z.out) HH.out).mono ?_
            rintro r z6 ⟨rfl, hb⟩
            have HB6z := Lib.hid (HB5z.out.trans hb)
            clear hb
            go_wp2_with (fail)
            refine (KM.len b G C z6 (KM.bel HBT.out HB6z.out) HH.out).mono ?_
            rintro r z7 ⟨rfl, hb⟩
            have HB7z := Lib.hid (HB6z.out.trans hb)
            clear hb
            go_wp2_with (fail)
            refine (KM.cites a F C z7 (KM.bel HAT.out HB7z.out) HH.out).mono ?_
            rintro r z8 ⟨v8, rfl, ho, hb⟩
            rw [← HCTS.out] at ho
            obtain ⟨q8, c8, rfl, he8⟩ := ownG_cts ho
            have HE8 := Lib.hid he8
            have HB8z := Lib.hid (HB7z.out.trans hb)
            clear hb ho he8
            go_wp2_with (fail)
            refine (KM.cites b G C z8 (KM.bel HBT.out HB8z.out) HH.out).mono ?_
            rintro r z9 ⟨v9, rfl, ho, hb⟩
            rw [← HCTS.out] at ho
            obtain ⟨q9, c9, rfl, he9⟩ := ownG_cts ho
            have HE9 := Lib.hid he9
            have HE89 := Lib.hid (HE8.out.bel hb)
            have HB9z := Lib.hid (HB8z.out.trans hb)
            clear hb ho he9
            go_wp2_with (fail)
            refine (samecites11_at q8 q9 _ _ c8 c9 CTS z9 HE89.out HE9.out hCT rfl rfl).mono ?_
            rintro r z10 ⟨rfl, hd⟩
            have HB10z := Lib.hid (HB9z.out.trans hd.bel)
            clear hd
            go_wp2_with (fail)
            go_ret
            exact ⟨rfl, HB4.out.trans HB10z.out⟩
      · obtain ⟨N, hN⟩ : ∃ N : Nat, i1.tmod (L0.length : Int) = (N : Int) := ⟨(i1.tmod (L0.length : Int)).toNat, by omega⟩
        have HN := Lib.hid (show N < L0.length by omega)
        have hNl := HN.out
        have hnn : ¬ (N : Int) < 0 := by omega
        clear hr1 hr2 hneg
        go_wp2_with (fail)
        refine (KM.new x1 (KM.okBel HM.out HB3.out)).mono ?_
        rintro e x2 ⟨a, F, rfl, hat, hn, hb⟩
        have HATA := Lib.hid hat; have HNA := Lib.hid hn; have HBA := Lib.hid hb
        clear hat hn hb
        go_wp2_with (fail)
        refine (KM.new x2 (KM.okBel HM.out (HB3.out.trans HBA.out))).mono ?_
        rintro e x3 ⟨b, G, rfl, hat, hn, hb⟩
        have HV := Lib.hid (PInv.start (L := L0) (M := turnL L0 N HZ.out) HATA.out HNA.out HB3.out HBA.out hat hn hb)
        clear hat hn hb
        go_wp2_with (fail)
        go_loopw [12] (fun iv x => ∃ k : Nat, k ≤ L0.length ∧ iv = .int .i64 k ∧ PInv KM W L0 (turnL L0 N HZ.out) a b k k x) (fun iv _ => L0.length - (intOf iv).toNat)
        case atStart => exact ⟨0, Nat.zero_le _, rfl, HV.out⟩
        case round =>
          obtain ⟨k, hk, rfl, hv⟩ := hrel
          have HVK := Lib.hid hv
          clear hv
          by_cases hkl : k < L0.length
          · obtain ⟨ad, e0, rfl, he0, B, O, sp, ha, c0, c1, c2, c3⟩ := HI.out.get hkl
            have HADD := Lib.hid (pinv_a HVK.out HSM.out hkl e0 he0 (by rw [he0]; exact fits_at HF.out hkl))
            have d0 := cl11 HVK.out.old c0
            have d1 := cl11 HVK.out.old c1
            have d2 := cl11 HVK.out.old c2
            have d3 := cl11 HVK.out.old c3
            have hkw : IntKind.i64.wrap (k : Int) = k := by rw [IntKind.wrap_i64]; omega
            clear he0 c0 c1 c2 c3
            obtain ⟨t, ht⟩ : ∃ t : Nat, t = N + L0.length := ⟨_, rfl⟩
            obtain ⟨u, hu⟩ : ∃ u : Nat, u = t - 1 := ⟨_, rfl⟩
            obtain ⟨v, hv⟩ : ∃ v : Nat, v = u - k := ⟨_, rfl⟩
            obtain ⟨j, hj⟩ : ∃ j : Nat, j = v % L0.length := ⟨_, rfl⟩
            have hw1 : IntKind.i64.wrap ((N : Int) + (L0.length : Int)) = (t : Int) := by rw [IntKind.wrap_i64]; omega
            have hw2 : IntKind.i64.wrap ((t : Int) - 1) = (u : Int) := by rw [IntKind.wrap_i64]; omega
            have hw3 : IntKind.i64.wrap ((u : Int) - (k : Int)) = (v : Int) := by rw [IntKind.wrap_i64]; omega
            have hw4 : (v : Int).tmod (L0.length : Int) = (j : Int) := by rw [hj]; exact (Int.ofNat_tmod v L0.length).symm
            have hjl : j < L0.length := by rw [hj]; exact Nat.mod_lt _ HZ.out
            have hw5 : IntKind.i64.wrap (j : Int) = j := by rw [IntKind.wrap_i64]; omega
            have hji : (j : Int) < (L0.length : Int) := by omega
            obtain ⟨ad2, e1, had, he1, B', O', sp', ha2, b0, b1, b2, b3⟩ := HI.out.get hjl
            cases had
            have HT1 := Lib.hid (show e1 = (turnL L0 N HZ.out)[k]'(by rw [turn_len]; exact hkl) by
              rw [turn_at L0 N HZ.out k _ (Nat.mod_lt _ HZ.out), he1]
              have hvv : v = N + L0.length - 1 - k := by omega
              congr 1
              rw [hj, hvv])
            have HF1 := Lib.hid (show e1.fits by rw [he1]; exact fits_at HF.out hjl)
            clear he1 hj ht hu hv
            have HB0' := Lib.hid (And.intro b0 (And.intro b1 (And.intro b2 b3)))
            clear b0 b1 b2 b3
            go_wp2_with (fail)
            refine HADD.out.mono ?_
            rintro e w4 ⟨rfl, hv⟩
            have HV4 := Lib.hid hv
            obtain ⟨b0, b1, b2, b3⟩ := cells4 HV4.out.old HB0'.out
            clear hv HADD d0 d1 d2 d3
            go_wp2_with (fail)
            refine (pinv_b HV4.out (turn_small HSM.out N HZ.out HN.out) (by rw [turn_len]; exact hkl) e1 HT1.out HF1.out).mono ?_
            rintro e w5 ⟨rfl, hv⟩
            have HV5 := Lib.hid hv
            clear hv
            go_wp2_with (fail)
            go_roundw
            case rel => exact ⟨k + 1, hkl, by go_num, HV5.out⟩
            case measure => simp [intOf]; omega
          · obtain rfl : k = L0.length := by omega
            obtain ⟨F, G, hat, hbt, hfg, hn, hn2, hb⟩ := HVK.out
            rw [List.take_length] at hat
            rw [List.take_of_length_le (by rw [turn_len]; exact Nat.le_refl _), turn_same N HZ.out HN.out HDIFF.out] at hbt
            have HAT := Lib.hid hat; have HBT := Lib.hid hbt; have HB4 := Lib.hid hb
            have HH := Lib.hid (hold_all hl100)
            have hcl := standing_len L0
            obtain ⟨C, hC⟩ : ∃ C, C = standingB L0 := ⟨_, rfl⟩
            rw [← hC] at HAT HBT HH hcl
            have hCT : (citesB C).length ≤ 1000000 := by have := cites_len C; omega
            obtain ⟨CTS, hcts⟩ : ∃ CTS, CTS = citesB C := ⟨_, rfl⟩
            rw [← hcts] at hCT
            have HCTS := Lib.hid hcts
            obtain ⟨m, hm⟩ : ∃ m, m = sizeM C := ⟨_, rfl⟩
            have HMM := Lib.hid hm
            clear hat hbt hfg hn hn2 hb hC hcts HVK HV hm
            go_wp2_with (fail)
            refine (MK.all (KM := KM) a F C wr HAT.out HH.out).mono ?_
            rintro r z1 ⟨q1, c1, rfl, he1, hb⟩
            have HB1z := Lib.hid hb
            have HE1 := Lib.hid he1
            clear hb he1
            go_wp2_with (fail)
            refine (MK.all (KM := KM) b G C z1 (KM.bel HBT.out HB1z.out) HH.out).mono ?_
            rintro r z2 ⟨q2, c2, rfl, he2, hb⟩
            have HB2z := Lib.hid (HB1z.out.trans hb)
            have HE2 := Lib.hid he2
            have HE12 := Lib.hid (HE1.out.bel hb)
            clear hb he2
            go_wp2_with (fail)
            refine (same11_at q1 q2 _ _ c1 c2 C z2 HE12.out HE2.out (by omega) rfl rfl).mono ?_
            rintro r z3 ⟨rfl, hd⟩
            have HB3z := Lib.hid (HB2z.out.trans hd.bel)
            clear hd
            go_wp2_with (fail)
            refine (KM.size a F C z3 (KM.bel HAT.out HB3z.out) HH.out).mono ?_
            rw [← HMM.out]
            rintro r z4 ⟨rfl, hb⟩
            have HB4z := Lib.hid (HB3z.out.trans hb)
            clear hb
            go_wp2_with (fail)
            refine (KM.size b G C z4 (KM.bel HBT.out HB4z.out) HH.out).mono ?_
            rw [← HMM.out]
            rintro r z5 ⟨rfl, hb⟩
            have HB5z := Lib.hid (HB4z.out.trans hb)
            clear hb
            go_wp2_with (fail)
            refine (KM.len a F C z5 (KM.bel HAT.out HB5z.out) HH.out).mono ?_
            rintro r z6 ⟨rfl, hb⟩
            have HB6z := Lib.hid (HB5z.out.trans hb)
            clear hb
            go_wp2_with (fail)
            refine (KM.len b G C z6 (KM.bel HBT.out HB6z.out) HH.out).mono ?_
            rintro r z7 ⟨rfl, hb⟩
            have HB7z := Lib.hid (HB6z.out.trans hb)
            clear hb
            go_wp2_with (fail)
            refine (KM.cites a F C z7 (KM.bel HAT.out HB7z.out) HH.out).mono ?_
            rintro r z8 ⟨v8, rfl, ho, hb⟩
            rw [← HCTS.out] at ho
            obtain ⟨q8, c8, rfl, he8⟩ := ownG_cts ho
            have HE8 := Lib.hid he8
            have HB8z := Lib.hid (HB7z.out.trans hb)
            clear hb ho he8
            go_wp2_with (fail)
            refine (KM.cites b G C z8 (KM.bel HBT.out HB8z.out) HH.out).mono ?_
            rintro r z9 ⟨v9, rfl, ho, hb⟩
            rw [← HCTS.out] at ho
            obtain ⟨q9, c9, rfl, he9⟩ := ownG_cts ho
            have HE9 := Lib.hid he9
            have HE89 := Lib.hid (HE8.out.bel hb)
            have HB9z := Lib.hid (HB8z.out.trans hb)
            clear hb ho he9
            go_wp2_with (fail)
            refine (samecites11_at q8 q9 _ _ c8 c9 CTS z9 HE89.out HE9.out hCT rfl rfl).mono ?_
            rintro r z10 ⟨rfl, hd⟩
            have HB10z := Lib.hid (HB9z.out.trans hd.bel)
            clear hd
            go_wp2_with (fail)
            go_ret
            exact ⟨rfl, HB4.out.trans HB10z.out⟩
end Go.Proofs.Yteimllgoelleeaa
