/- The law FilterGrows walked. -/
import Derived.Test.YtaabaphpllnieaaILaw4
set_option linter.unusedSimpArgs false
set_option linter.unusedVariables false
namespace Go.Proofs.Ytaabaphpllnieaa
open Go.RowKit Go.Deep

theorem ba_eta9 (s : ByteArray) : (⟨s.data.toList.toArray⟩ : ByteArray) = s := by cases s; simp
theorem add_zero9 (g q : Nat) : (⟨g, 0, none⟩ : Addr).add q = ⟨g, q, none⟩ := by cases q <;> simp [Addr.add]
/-- One text in the place of another one. -/
theorem StrsAt.set {w : World} {g : Nat} {L : List (List UInt8)} (h : StrsAt w (some ⟨g, 0, none⟩) L) (q : Nat) (hq : q < L.length) (s : ByteArray) : StrsAt (w.setCell ⟨g, q, none⟩ (.string s)) (some ⟨g, 0, none⟩) (L.set q s.data.toList) := by
  intro j hj
  rw [List.length_set] at hj
  obtain ⟨a, ha, hc⟩ := h j hj
  cases ha
  have e : ∀ i, (⟨g, 0, none⟩ : Addr).add i = ⟨g, i, none⟩ := fun i => by cases i <;> simp [Addr.add]
  refine ⟨_, rfl, ?_⟩
  rw [e] at hc ⊢
  by_cases e2 : q = j
  · subst e2
    rw [World.cell?_setCell_same _ _ _ hc, List.getElem_set_self, ba_eta9]
  · rw [World.cell?_setCell_other _ _ _ _ (by intro h; cases h; exact e2 rfl), hc, List.getElem_set_ne e2]
/-- A slice of one's own: where it lies, what its cells hold, and that none is frozen. -/
theorem own_strs {B : Nat} {w : World} {v : Value} {L : List (List UInt8)} (h : OwnG strEl B w v L) (hne : L ≠ []) : ∃ g cap, v = .slice (some ⟨g, 0, none⟩) L.length cap ∧ B ≤ g ∧ StrsAt w (some ⟨g, 0, none⟩) L ∧ ∀ j, w.frozen? ⟨g, j, none⟩ = false := by
  have h0 := h
  rcases h.2 with ⟨_, hl⟩ | ⟨g, cap, cur, rfl, hg, hh, _⟩
  · exact absurd (List.length_eq_zero_iff.1 hl) hne
  · refine ⟨g, cap, rfl, hg, ?_, fun j => ?_⟩
    · obtain ⟨p, c, hv, hat⟩ := ownG_strs h0
      simp only [Value.slice.injEq] at hv
      obtain ⟨rfl, -, -⟩ := hv
      exact hat
    · simp only [World.frozen?, hh]
      simp
theorem set_ne {L : List (List UInt8)} {q : Nat} {s : List UInt8} (h : L ≠ []) : L.set q s ≠ [] := fun e => h (by have := congrArg List.length e; rw [List.length_set] at this; exact List.length_eq_zero_iff.1 this)
theorem set_small {L : List (List UInt8)} {q m : Nat} {s : List UInt8} (h : strSmall m L) (hs : s.length ≤ m) : strSmall m (L.set q s) := fun i hi => by
  rw [List.getElem_set]
  split
  · exact hs
  · exact h i (by rw [List.length_set] at hi; exact hi)
/-- Bytes that are set as far as the k-th. -/
def SetTo (k : Nat) (l : List UInt8) : Prop := ∀ j (h : j < l.length), j < k → l[j] = 255
set_option maxHeartbeats 8000000 in
theorem law_grows_any (w : World) (p : Option Addr) (cap : Nat) (L : List (List UInt8)) (key : ByteArray) (turn : Int) (h : StrsAt w p L) (hL : L.length ≤ maxLen) (hs : strSmall maxLen L) (hkey : key.size ≤ maxLen) (ht : -9223372036854775808 ≤ turn ∧ turn ≤ 9223372036854775807) :
    Calls Try.prog 6 #[.slice p L.length cap, .string key, .int .i64 turn] w fun e w' => e = .returned (.bool true) ∧ Bel w w' := by
  have H := Lib.hid h; clear h
  have HL := Lib.hid hL
  have HSM := Lib.hid hs; clear hs
  have HKY := Lib.hid hkey
  unfold maxLen at hL hkey
  go_enter Try.func6, Try.ntmps6
  go_wp2_with (fail)
  refine (shown_any w).mono ?_
  rintro e w1 ⟨rfl, hb⟩
  have HB := Lib.hid hb; clear hb
  go_wp2_with (fail)
  refine (small_any p cap L w1 (H.out.bel HB.out) HL.out HSM.out).mono ?_
  rintro e w2 ⟨hb, (⟨hok, rfl⟩ | rfl)⟩
  · replace HB := Lib.hid (HB.out.trans hb.bel); clear hb
    have HOK := Lib.hid hok
    have h200 := hok.1
    clear hok hL
    by_cases h3 : key.size ≤ 300
    · have h3' : (key.size : Int) ≤ 300 := by omega
      by_cases h0 : L.length = 0
      · have h0' : (L.length : Int) = 0 := by omega
        go_wp2_with (fail)
        go_ret
        exact ⟨rfl, HB.out⟩
      · have h0' : ((L.length : Int) == 0) = false := by rw [beq_eq_false_iff_ne]; omega
        obtain ⟨a, rfl, -⟩ := H.out 0 (by omega)
        have hr0 := Int.lt_tmod_of_pos turn (show (0 : Int) < (L.length : Int) by omega)
        have hr1 := Int.tmod_lt_of_pos turn (show (0 : Int) < (L.length : Int) by omega)
        obtain ⟨r, hr⟩ : ∃ r, turn.tmod (L.length : Int) = r := ⟨_, rfl⟩
        rw [hr] at hr0 hr1
        have HLE := Lib.hid (heap_alloc_new w2 (.cells #[] 9))
        have HB1r := Lib.hid (HB.out.alloc (.cells #[] 9))
        have hy3 : w.heap.size ≤ w2.heap.size := HB.out.size
        have HOE := Lib.hid (ownG_empty (E := strEl) (n := w.heap.size) HLE.out hy3)
        clear HLE
        by_cases hneg : r < 0
        · obtain ⟨q, hq⟩ : ∃ q : Nat, -r = q := ⟨(-r).toNat, by omega⟩
          have hql : q < L.length := by omega
          have hqi : (q : Int) < (L.length : Int) := by omega
          go_wp2_with (at_builtin; refine stop_here ?_)
          refine go_on ?_
          refine append_all strOk rfl _ _ rfl rfl HOE.out L rfl (Or.inr ⟨a, cap, rfl, fun j u hj => ?_⟩) (by simp only [List.length_nil]; unfold maxLen; omega) (by simp only [List.length_nil]; omega) HB1r.out.size ?_
          · rw [str_all_get] at hj
            obtain ⟨l, hl1, hl2⟩ := Option.map_eq_some_iff.1 hj
            obtain ⟨h1, h2⟩ := List.getElem?_eq_some_iff.1 hl1
            obtain ⟨_, ha', hc⟩ := (H.out.bel HB1r.out) j h1
            cases ha'
            rw [hc, h2, ← hl2]
          · intro v5 w5 ho5 hk5 _
            have HB5 := Lib.hid (show Bel w w5 from HB1r.out.trans_below (hk5.own HB1r.out.size (fun k hk => (HOE.out.lt k hk).1)))
            rw [List.nil_append] at ho5
            obtain ⟨g, cap5, rfl, hg, hat, hfz⟩ := own_strs ho5 (fun e => h0 (by rw [e]; rfl))
            have HM5 := Lib.hid (hat.set q hql key)
            have HG := Lib.hid hg
            obtain ⟨_, ha', hcq⟩ := hat q hql
            cases ha'
            have hfq := hfz q
            rw [add_zero9] at hcq
            generalize (⟨L[q].toArray⟩ : ByteArray) = old at hcq
            have HB6 := Lib.hid (HB5.out.setCell (p := ⟨g, q, none⟩) hg (.string key))
            clear ho5 hk5 hat hfz hg
            have hlt' : g < w5.heap.size := block_lt_of_cell hcq
            go_wp2_with (fail)
            have HMl := Lib.hid (show (L.set q key.data.toList).length = L.length from List.length_set)
            have HMne := Lib.hid (show L.set q key.data.toList ≠ [] from set_ne (fun e => h0 (by rw [e]; rfl)))
            have HMs := Lib.hid (show strSmall 300 (L.set q key.data.toList) from set_small HOK.out.2 (by show key.size ≤ 300; exact h3))
            have HMok := Lib.hid (show SmallOk (L.set q key.data.toList) from ⟨by rw [HMl.out]; exact HOK.out.1, HMs.out⟩)
            generalize L.set q key.data.toList = M at *
            generalize w5.setCell ⟨g, q, none⟩ (.string key) = w6 at *
            obtain ⟨b, hbb⟩ : ∃ b : ByteArray, b = ⟨(buildF M).toArray⟩ := ⟨_, rfl⟩
            have HBB := Lib.hid hbb
            have hbs := build_size HMok.out
            rw [← hbb] at hbs
            have HBL := Lib.hid (show b.data.toList = buildF M by rw [hbb])
            have HCB := Lib.hid (cnt_build HMne.out)
            have HML2 := Lib.hid (show b.size = sizeF M.length by rw [hbb, size_mk]; exact build_len HMne.out)
            have hb8 : 8 ≤ b.size := by rw [HML2.out]; exact size_pos _
            clear hcq hfq hlt' hbb
            refine (build_at (some ⟨g, 0, none⟩) L.length cap5 M w6 HM5.out (small_mono HMok.out).1 (small_mono HMok.out).2 HMl.out.symm).mono ?_
            rw [← HBB.out]
            rintro e w7 ⟨rfl, hb⟩
            have HB7 := Lib.hid (HB6.out.trans hb)
            have HM7 := Lib.hid (HM5.out.bel hb)
            clear hb
            go_wp2_with (fail)
            go_loopw [12] (fun iv x => (∃ k : Nat, k ≤ L.length ∧ iv = .int .i64 k) ∧ Bel w7 x) (fun iv _ => L.length - (intOf iv).toNat)
            case atStart => exact ⟨⟨0, Nat.zero_le _, rfl⟩, Bel.refl w7⟩
            case round =>
              obtain ⟨⟨k, hk, rfl⟩, hbx⟩ := hrel
              have HBX := Lib.hid hbx; clear hbx
              have HBSM := Lib.hid (show b.size ≤ 1000000 by omega)
              by_cases hlt : k < L.length
              · have hltm : k < M.length := by rw [HMl.out]; exact hlt
                obtain ⟨_, ha', hc⟩ := (HM7.out.bel HBX.out) k hltm; cases ha'
                rw [add_zero9] at hc
                obtain ⟨key2, hkey2⟩ : ∃ key : ByteArray, key = ⟨M[k].toArray⟩ := ⟨_, rfl⟩
                have HMK := Lib.hid (known HBB.out hltm hkey2)
                have HKS := Lib.hid (known_size (small_mono HMok.out).2 hltm hkey2)
                rw [← hkey2] at hc
                clear hkey2 hltm
                go_wp2_with (fail)
                refine (may_at b key2 true _ HBSM.out HKS.out HMK.out).mono ?_
                rintro e w8 ⟨rfl, hb⟩
                replace HBX := Lib.hid (HBX.out.trans hb); clear hb
                go_wp2_with (fail)
                go_roundw
                case rel => exact ⟨⟨k + 1, hlt, by go_num⟩, HBX.out⟩
                case measure => simp [intOf]; omega
              · have HB8 := Lib.hid (HB7.out.trans HBX.out)
                have hmk := run_make_row' (P := Try.prog) 37 5 (.int .u8 0) 1 Try.underlying37 infoByte9 rfl .i64 .i64 b.size (by omega) (by omega)
                obtain ⟨F, hF⟩ : ∃ F, F = wr.heap.size := ⟨_, rfl⟩
                have HR1 := Lib.hid ((ByteRow.made wr b.size).bel ((Bel.refl (wr.alloc (.cells (madeCells #[.int .u8 0] b.size) 5))).alloc (.cells (madeCells #[.int .u8 0] b.size) 5)))
                have HR2 := Lib.hid (ByteRow.made (wr.alloc (.cells (madeCells #[.int .u8 0] b.size) 5)) b.size)
                have hsz : (wr.alloc (.cells (madeCells #[.int .u8 0] b.size) 5)).heap.size = F + 1 := by rw [hF]; simp
                rw [hsz] at HR2
                rw [← hF] at HR1
                have HBB2 := Lib.hid ((HB8.out.alloc (.cells (madeCells #[.int .u8 0] b.size) 5)).alloc (.cells (madeCells #[.int .u8 0] b.size) 5))
                have HwF := Lib.hid (show w.heap.size ≤ F by rw [hF]; exact HB8.out.size)
                have HFE := Lib.hid hF
                clear hsz
                subst hF
                go_wp2_with (fail)
                generalize wr.heap.size = F at *
                obtain ⟨wB, hwB⟩ : ∃ x, x = ((wr.alloc (.cells (madeCells #[.int .u8 0] b.size) 5)).alloc (.cells (madeCells #[.int .u8 0] b.size) 5)) := ⟨_, rfl⟩
                rw [← hwB] at HR1 HR2 HBB2 ⊢
                clear hwB
                go_loopw [15] (fun iv x => (∃ (k : Nat) (l : List UInt8), k ≤ b.size ∧ iv = .int .i64 k ∧ l.length = b.size ∧ SetTo k l ∧ ByteRow x F l) ∧ ByteRow x (F + 1) (zeroL b.size) ∧ Bel w x) (fun iv _ => b.size - (intOf iv).toNat)
                case atStart => exact ⟨⟨0, zeroL b.size, Nat.zero_le _, rfl, zero_len _, fun j _ h => by omega, HR1.out⟩, HR2.out, HBB2.out⟩
                case round =>
                  obtain ⟨⟨k, l, hk, rfl, hl, ho, hrow⟩, hrow2, hbx⟩ := hrel
                  have HBX2 := Lib.hid hbx; clear hbx
                  have HRW := Lib.hid hrow
                  have HRZ := Lib.hid hrow2
                  have HO := Lib.hid ho; clear ho
                  have HLN := Lib.hid hl
                  by_cases hlt : k < b.size
                  · have hkl : k < l.length := by omega
                    have hcb := (hrow k hkl).1
                    have hfb := (hrow k hkl).2
                    have HO2 := Lib.hid (show SetTo (k + 1) (l.set k 255) from fun j hj hjk => by
                      by_cases e : j = k
                      · subst e; rw [List.getElem_set_self]
                      · rw [List.getElem_set_ne (fun h => e h.symm)]; exact HO.out j (by rw [List.length_set] at hj; exact hj) (by omega))
                    have HRW2 := Lib.hid (HRW.out.set k hkl 255)
                    have HRZ2 := Lib.hid (show ByteRow (wr.setCell ⟨F, k, none⟩ (.int .u8 ((255 : UInt8).toNat : Int))) (F + 1) (zeroL b.size) from HRZ.out.keep ((Keep.refl [F] wr).setCell (Or.inl (by simp)) _) (by simp))
                    have hkni : (k : Int) < (b.size : Int) := by omega
                    generalize l[k] = old2 at hcb
                    clear hrow hrow2 hl hkl
                    go_wp2_with (fail)
                    go_roundw
                    case rel => exact ⟨⟨k + 1, l.set k 255, hlt, by go_num, by rw [List.length_set]; exact HLN.out, HO2.out, HRW2.out⟩, HRZ2.out, HBX2.out.setCell HwF.out _⟩
                    case measure => simp [intOf]; omega
                  · obtain rfl : k = b.size := by omega
                    obtain ⟨C1, hC1⟩ : ∃ C : ByteArray, C = ⟨l.toArray⟩ := ⟨_, rfl⟩
                    obtain ⟨C2, hC2⟩ : ∃ C : ByteArray, C = ⟨(zeroL b.size).toArray⟩ := ⟨_, rfl⟩
                    have HE1 := Lib.hid hC1
                    have HE2 := Lib.hid hC2
                    have HS1 := Lib.hid (show C1.size ≤ 1000000 by rw [hC1, size_mk, hl]; omega)
                    have HS2 := Lib.hid (show C2.size ≤ 1000000 by rw [hC2, size_mk, zero_len]; omega)
                    have HM1 := Lib.hid (show mayF C1.data.toList key.data.toList = true by
                      have e : C1.data.toList = l := by rw [hC1]
                      rw [e]
                      exact may_full (fun e0 => by rw [e0] at hl; simp at hl; omega) (fun x hx => by
                        obtain ⟨j, hj, rfl⟩ := List.getElem_of_mem hx
                        exact HO.out j hj (by omega)))
                    have HM2 := Lib.hid (show mayF C2.data.toList key.data.toList = false by
                      have e : C2.data.toList = zeroL b.size := by rw [hC2]
                      rw [e]
                      exact may_zero _ _)
                    obtain ⟨z, hz⟩ : ∃ z, z = cntL (buildF M) := ⟨_, rfl⟩
                    have hcb := HCB.out
                    rw [← hz, HMl.out] at hcb
                    obtain ⟨hz1, hz2⟩ := hcb
                    have HZ := Lib.hid (show ((cntL b.data.toList : Nat) : Int) = (z : Int) by rw [HBL.out, hz])
                    have hz1' : (1 : Int) ≤ (z : Int) := by omega
                    have hz2' : (z : Int) ≤ 4 * (L.length : Int) := by omega
                    clear hC1 hC2 hz hrow hrow2 hl
                    go_wp2_with (fail)
                    refine (full_at b (z : Int) (8 * (b.size : Int)) _ (by omega) HZ.out (by omega)).mono ?_
                    rintro e w9 ⟨rfl, hb⟩
                    have HB9 := Lib.hid (HBX2.out.trans hb.bel)
                    have HRA := Lib.hid (HRW.out.bel hb.bel)
                    have HRB := Lib.hid (HRZ.out.bel hb.bel)
                    have hcv := HRA.out.conv b.size
                    rw [HLN.out, ← HE1.out] at hcv
                    clear hb
                    go_wp2_with (fail)
                    refine (may_at C1 key true _ HS1.out HKY.out HM1.out).mono ?_
                    rintro e w10 ⟨rfl, hb⟩
                    replace HB9 := Lib.hid (HB9.out.trans hb)
                    replace HRB := Lib.hid (HRB.out.bel hb)
                    have hcz := HRB.out.conv b.size
                    rw [zero_len, ← HE2.out] at hcz
                    clear hb hcv
                    go_wp2_with (fail)
                    refine (may_at C2 key false _ HS2.out HKY.out HM2.out).mono ?_
                    rintro e w11 ⟨rfl, hb⟩
                    replace HB9 := Lib.hid (HB9.out.trans hb)
                    clear hb hcz
                    go_wp2_with (fail)
                    go_ret
                    exact ⟨rfl, HB9.out⟩
        · obtain ⟨q, rfl⟩ : ∃ q : Nat, r = q := ⟨r.toNat, by omega⟩
          have hql : q < L.length := by omega
          have hqi : (q : Int) < (L.length : Int) := by omega
          go_wp2_with (at_builtin; refine stop_here ?_)
          refine go_on ?_
          refine append_all strOk rfl _ _ rfl rfl HOE.out L rfl (Or.inr ⟨a, cap, rfl, fun j u hj => ?_⟩) (by simp only [List.length_nil]; unfold maxLen; omega) (by simp only [List.length_nil]; omega) HB1r.out.size ?_
          · rw [str_all_get] at hj
            obtain ⟨l, hl1, hl2⟩ := Option.map_eq_some_iff.1 hj
            obtain ⟨h1, h2⟩ := List.getElem?_eq_some_iff.1 hl1
            obtain ⟨_, ha', hc⟩ := (H.out.bel HB1r.out) j h1
            cases ha'
            rw [hc, h2, ← hl2]
          · intro v5 w5 ho5 hk5 _
            have HB5 := Lib.hid (show Bel w w5 from HB1r.out.trans_below (hk5.own HB1r.out.size (fun k hk => (HOE.out.lt k hk).1)))
            rw [List.nil_append] at ho5
            obtain ⟨g, cap5, rfl, hg, hat, hfz⟩ := own_strs ho5 (fun e => h0 (by rw [e]; rfl))
            have HM5 := Lib.hid (hat.set q hql key)
            have HG := Lib.hid hg
            obtain ⟨_, ha', hcq⟩ := hat q hql
            cases ha'
            have hfq := hfz q
            rw [add_zero9] at hcq
            generalize (⟨L[q].toArray⟩ : ByteArray) = old at hcq
            have HB6 := Lib.hid (HB5.out.setCell (p := ⟨g, q, none⟩) hg (.string key))
            clear ho5 hk5 hat hfz hg
            have hlt' : g < w5.heap.size := block_lt_of_cell hcq
            go_wp2_with (fail)
            have HMl := Lib.hid (show (L.set q key.data.toList).length = L.length from List.length_set)
            have HMne := Lib.hid (show L.set q key.data.toList ≠ [] from set_ne (fun e => h0 (by rw [e]; rfl)))
            have HMs := Lib.hid (show strSmall 300 (L.set q key.data.toList) from set_small HOK.out.2 (by show key.size ≤ 300; exact h3))
            have HMok := Lib.hid (show SmallOk (L.set q key.data.toList) from ⟨by rw [HMl.out]; exact HOK.out.1, HMs.out⟩)
            generalize L.set q key.data.toList = M at *
            generalize w5.setCell ⟨g, q, none⟩ (.string key) = w6 at *
            obtain ⟨b, hbb⟩ : ∃ b : ByteArray, b = ⟨(buildF M).toArray⟩ := ⟨_, rfl⟩
            have HBB := Lib.hid hbb
            have hbs := build_size HMok.out
            rw [← hbb] at hbs
            have HBL := Lib.hid (show b.data.toList = buildF M by rw [hbb])
            have HCB := Lib.hid (cnt_build HMne.out)
            have HML2 := Lib.hid (show b.size = sizeF M.length by rw [hbb, size_mk]; exact build_len HMne.out)
            have hb8 : 8 ≤ b.size := by rw [HML2.out]; exact size_pos _
            clear hcq hfq hlt' hbb
            refine (build_at (some ⟨g, 0, none⟩) L.length cap5 M w6 HM5.out (small_mono HMok.out).1 (small_mono HMok.out).2 HMl.out.symm).mono ?_
            rw [← HBB.out]
            rintro e w7 ⟨rfl, hb⟩
            have HB7 := Lib.hid (HB6.out.trans hb)
            have HM7 := Lib.hid (HM5.out.bel hb)
            clear hb
            go_wp2_with (fail)
            go_loopw [12] (fun iv x => (∃ k : Nat, k ≤ L.length ∧ iv = .int .i64 k) ∧ Bel w7 x) (fun iv _ => L.length - (intOf iv).toNat)
            case atStart => exact ⟨⟨0, Nat.zero_le _, rfl⟩, Bel.refl w7⟩
            case round =>
              obtain ⟨⟨k, hk, rfl⟩, hbx⟩ := hrel
              have HBX := Lib.hid hbx; clear hbx
              have HBSM := Lib.hid (show b.size ≤ 1000000 by omega)
              by_cases hlt : k < L.length
              · have hltm : k < M.length := by rw [HMl.out]; exact hlt
                obtain ⟨_, ha', hc⟩ := (HM7.out.bel HBX.out) k hltm; cases ha'
                rw [add_zero9] at hc
                obtain ⟨key2, hkey2⟩ : ∃ key : ByteArray, key = ⟨M[k].toArray⟩ := ⟨_, rfl⟩
                have HMK := Lib.hid (known HBB.out hltm hkey2)
                have HKS := Lib.hid (known_size (small_mono HMok.out).2 hltm hkey2)
                rw [← hkey2] at hc
                clear hkey2 hltm
                go_wp2_with (fail)
                refine (may_at b key2 true _ HBSM.out HKS.out HMK.out).mono ?_
                rintro e w8 ⟨rfl, hb⟩
                replace HBX := Lib.hid (HBX.out.trans hb); clear hb
                go_wp2_with (fail)
                go_roundw
                case rel => exact ⟨⟨k + 1, hlt, by go_num⟩, HBX.out⟩
                case measure => simp [intOf]; omega
              · have HB8 := Lib.hid (HB7.out.trans HBX.out)
                have hmk := run_make_row' (P := Try.prog) 37 5 (.int .u8 0) 1 Try.underlying37 infoByte9 rfl .i64 .i64 b.size (by omega) (by omega)
                obtain ⟨F, hF⟩ : ∃ F, F = wr.heap.size := ⟨_, rfl⟩
                have HR1 := Lib.hid ((ByteRow.made wr b.size).bel ((Bel.refl (wr.alloc (.cells (madeCells #[.int .u8 0] b.size) 5))).alloc (.cells (madeCells #[.int .u8 0] b.size) 5)))
                have HR2 := Lib.hid (ByteRow.made (wr.alloc (.cells (madeCells #[.int .u8 0] b.size) 5)) b.size)
                have hsz : (wr.alloc (.cells (madeCells #[.int .u8 0] b.size) 5)).heap.size = F + 1 := by rw [hF]; simp
                rw [hsz] at HR2
                rw [← hF] at HR1
                have HBB2 := Lib.hid ((HB8.out.alloc (.cells (madeCells #[.int .u8 0] b.size) 5)).alloc (.cells (madeCells #[.int .u8 0] b.size) 5))
                have HwF := Lib.hid (show w.heap.size ≤ F by rw [hF]; exact HB8.out.size)
                have HFE := Lib.hid hF
                clear hsz
                subst hF
                go_wp2_with (fail)
                generalize wr.heap.size = F at *
                obtain ⟨wB, hwB⟩ : ∃ x, x = ((wr.alloc (.cells (madeCells #[.int .u8 0] b.size) 5)).alloc (.cells (madeCells #[.int .u8 0] b.size) 5)) := ⟨_, rfl⟩
                rw [← hwB] at HR1 HR2 HBB2 ⊢
                clear hwB
                go_loopw [15] (fun iv x => (∃ (k : Nat) (l : List UInt8), k ≤ b.size ∧ iv = .int .i64 k ∧ l.length = b.size ∧ SetTo k l ∧ ByteRow x F l) ∧ ByteRow x (F + 1) (zeroL b.size) ∧ Bel w x) (fun iv _ => b.size - (intOf iv).toNat)
                case atStart => exact ⟨⟨0, zeroL b.size, Nat.zero_le _, rfl, zero_len _, fun j _ h => by omega, HR1.out⟩, HR2.out, HBB2.out⟩
                case round =>
                  obtain ⟨⟨k, l, hk, rfl, hl, ho, hrow⟩, hrow2, hbx⟩ := hrel
                  have HBX2 := Lib.hid hbx; clear hbx
                  have HRW := Lib.hid hrow
                  have HRZ := Lib.hid hrow2
                  have HO := Lib.hid ho; clear ho
                  have HLN := Lib.hid hl
                  by_cases hlt : k < b.size
                  · have hkl : k < l.length := by omega
                    have hcb := (hrow k hkl).1
                    have hfb := (hrow k hkl).2
                    have HO2 := Lib.hid (show SetTo (k + 1) (l.set k 255) from fun j hj hjk => by
                      by_cases e : j = k
                      · subst e; rw [List.getElem_set_self]
                      · rw [List.getElem_set_ne (fun h => e h.symm)]; exact HO.out j (by rw [List.length_set] at hj; exact hj) (by omega))
                    have HRW2 := Lib.hid (HRW.out.set k hkl 255)
                    have HRZ2 := Lib.hid (show ByteRow (wr.setCell ⟨F, k, none⟩ (.int .u8 ((255 : UInt8).toNat : Int))) (F + 1) (zeroL b.size) from HRZ.out.keep ((Keep.refl [F] wr).setCell (Or.inl (by simp)) _) (by simp))
                    have hkni : (k : Int) < (b.size : Int) := by omega
                    generalize l[k] = old2 at hcb
                    clear hrow hrow2 hl hkl
                    go_wp2_with (fail)
                    go_roundw
                    case rel => exact ⟨⟨k + 1, l.set k 255, hlt, by go_num, by rw [List.length_set]; exact HLN.out, HO2.out, HRW2.out⟩, HRZ2.out, HBX2.out.setCell HwF.out _⟩
                    case measure => simp [intOf]; omega
                  · obtain rfl : k = b.size := by omega
                    obtain ⟨C1, hC1⟩ : ∃ C : ByteArray, C = ⟨l.toArray⟩ := ⟨_, rfl⟩
                    obtain ⟨C2, hC2⟩ : ∃ C : ByteArray, C = ⟨(zeroL b.size).toArray⟩ := ⟨_, rfl⟩
                    have HE1 := Lib.hid hC1
                    have HE2 := Lib.hid hC2
                    have HS1 := Lib.hid (show C1.size ≤ 1000000 by rw [hC1, size_mk, hl]; omega)
                    have HS2 := Lib.hid (show C2.size ≤ 1000000 by rw [hC2, size_mk, zero_len]; omega)
                    have HM1 := Lib.hid (show mayF C1.data.toList key.data.toList = true by
                      have e : C1.data.toList = l := by rw [hC1]
                      rw [e]
                      exact may_full (fun e0 => by rw [e0] at hl; simp at hl; omega) (fun x hx => by
                        obtain ⟨j, hj, rfl⟩ := List.getElem_of_mem hx
                        exact HO.out j hj (by omega)))
                    have HM2 := Lib.hid (show mayF C2.data.toList key.data.toList = false by
                      have e : C2.data.toList = zeroL b.size := by rw [hC2]
                      rw [e]
                      exact may_zero _ _)
                    obtain ⟨z, hz⟩ : ∃ z, z = cntL (buildF M) := ⟨_, rfl⟩
                    have hcb := HCB.out
                    rw [← hz, HMl.out] at hcb
                    obtain ⟨hz1, hz2⟩ := hcb
                    have HZ := Lib.hid (show ((cntL b.data.toList : Nat) : Int) = (z : Int) by rw [HBL.out, hz])
                    have hz1' : (1 : Int) ≤ (z : Int) := by omega
                    have hz2' : (z : Int) ≤ 4 * (L.length : Int) := by omega
                    clear hC1 hC2 hz hrow hrow2 hl
                    go_wp2_with (fail)
                    refine (full_at b (z : Int) (8 * (b.size : Int)) _ (by omega) HZ.out (by omega)).mono ?_
                    rintro e w9 ⟨rfl, hb⟩
                    have HB9 := Lib.hid (HBX2.out.trans hb.bel)
                    have HRA := Lib.hid (HRW.out.bel hb.bel)
                    have HRB := Lib.hid (HRZ.out.bel hb.bel)
                    have hcv := HRA.out.conv b.size
                    rw [HLN.out, ← HE1.out] at hcv
                    clear hb
                    go_wp2_with (fail)
                    refine (may_at C1 key true _ HS1.out HKY.out HM1.out).mono ?_
                    rintro e w10 ⟨rfl, hb⟩
                    replace HB9 := Lib.hid (HB9.out.trans hb)
                    replace HRB := Lib.hid (HRB.out.bel hb)
                    have hcz := HRB.out.conv b.size
                    rw [zero_len, ← HE2.out] at hcz
                    clear hb hcv
                    go_wp2_with (fail)
                    refine (may_at C2 key false _ HS2.out HKY.out HM2.out).mono ?_
                    rintro e w11 ⟨rfl, hb⟩
                    replace HB9 := Lib.hid (HB9.out.trans hb)
                    clear hb hcz
                    go_wp2_with (fail)
                    go_ret
                    exact ⟨rfl, HB9.out⟩
    · have h3' : ¬ (key.size : Int) ≤ 300 := by omega
      go_wp2_with (fail)
      go_ret
      exact ⟨rfl, HB.out⟩
  · replace HB := Lib.hid (HB.out.trans hb.bel); clear hb
    go_wp2_with (fail)
    go_ret
    exact ⟨rfl, HB.out⟩
end Go.Proofs.Ytaabaphpllnieaa
