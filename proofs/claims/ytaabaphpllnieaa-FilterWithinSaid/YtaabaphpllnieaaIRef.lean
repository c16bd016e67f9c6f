/- moultref9.Build, moultref9.May. -/
import Derived.Test.YtaabaphpllnieaaIMake
set_option linter.unusedSimpArgs false
set_option linter.unusedVariables false
namespace Go.Proofs.Ytaabaphpllnieaa
open Go.RowKit Go.Deep

theorem bit_walk (L : List UInt8) (i : Nat) : (((byteN L (i / 8) : Nat) : Int) / 2 ^ (i % 8) % 2 == 0) = !bitN L i := by
  unfold bitN
  rw [Nat.testBit_eq_decide_div_mod_eq]
  have e : (2 : Int) ^ (i % 8) = ((2 ^ (i % 8) : Nat) : Int) := by simp
  rw [e]
  have hp : 0 < 2 ^ (i % 8) := Nat.pow_pos (by decide)
  generalize 2 ^ (i % 8) = m at *
  have e2 : ((byteN L (i / 8) : Nat) : Int) / (m : Int) = ((byteN L (i / 8) / m : Nat) : Int) := by simp
  rw [e2]
  generalize byteN L (i / 8) / m = c
  have : c % 2 = 0 ∨ c % 2 = 1 := by omega
  rcases this with h | h <;> rw [h]
  · have : ((c : Int) % 2) = 0 := by omega
    rw [this]; rfl
  · have : ((c : Int) % 2) = 1 := by omega
    rw [this]; rfl
theorem bit_walk2 (L : List UInt8) (i : Nat) : ((wrap64 ((byteN L (i / 8) : Nat) : Int) / 2 ^ (i % 8)).tmod 2 == 0) = !bitN L i := by
  have hl := byte_lt L (i / 8)
  have e : wrap64 ((byteN L (i / 8) : Nat) : Int) = ((byteN L (i / 8) : Nat) : Int) := by unfold wrap64; omega
  have hp : (0 : Int) ≤ ((byteN L (i / 8) : Nat) : Int) / 2 ^ (i % 8) := by
    have e2 : (2 : Int) ^ (i % 8) = ((2 ^ (i % 8) : Nat) : Int) := by simp
    rw [e2]
    exact Int.ediv_nonneg (Int.natCast_nonneg _) (Int.natCast_nonneg _)
  rw [e, Int.tmod_eq_emod_of_nonneg hp]
  exact bit_walk L i
theorem all_take (f : List UInt8) (L : List Nat) (k : Nat) (h : k < L.length) : (L.take (k + 1)).all (bitN f) = ((L.take k).all (bitN f) && bitN f L[k]) := by
  rw [List.take_add_one, List.getElem?_eq_getElem h, Option.toList_some, List.all_append]
  simp
theorem all_fails {f : List UInt8} {L : List Nat} {k : Nat} (h : k < L.length) (hb : bitN f L[k] = false) : L.all (bitN f) = false := by
  rw [List.all_eq_false]
  exact ⟨L[k], List.getElem_mem h, by rw [hb]; simp⟩
set_option maxHeartbeats 2000000 in
theorem rmay_any (f key : ByteArray) (w : World) (hf : f.size ≤ 1000000) (hk : key.size ≤ maxLen) :
    Calls Try.prog 21 #[.string f, .string key] w fun e w' => e = .returned (.bool (mayF f.data.toList key.data.toList)) ∧ Bel w w' := by
  have HK := Lib.hid hk; clear hk
  obtain ⟨L, hL⟩ : ∃ L, L = placesL (hashN key.data.toList) (8 * f.size) := ⟨_, rfl⟩
  have HM := Lib.hid (show mayF f.data.toList key.data.toList = (!f.data.toList.isEmpty && L.all (bitN f.data.toList)) by rw [hL]; rfl)
  have hl4 : L.length ≤ 4 := by rw [hL]; unfold placesL; split <;> simp
  have HLT := Lib.hid (show ∀ (k : Nat) (h : k < L.length), L[k] < 8 * f.size from fun k h => by
    have h2 : L[k] ∈ placesL (hashN key.data.toList) (8 * f.size) := by rw [← hL]; exact List.getElem_mem h
    exact places_lt h2)
  have HL := Lib.hid hL; clear hL
  go_enter Try.func21, Try.ntmps21
  go_wp2_with (fail)
  refine (rplaces_any key (8 * (f.size : Int)) w HK.out (by omega)).mono ?_
  rw [show (8 * (f.size : Int)).toNat = 8 * f.size by omega]
  unfold PlacesPost
  rw [← HL.out]
  rintro e w1 ⟨p, cap, rfl, hat, -, hb⟩
  have HAT := Lib.hid hat; clear hat
  have HB := Lib.hid hb; clear hb
  go_wp2_with (fail)
  go_loopw [6] (fun iv x => ∃ k : Nat, k ≤ L.length ∧ iv = .int .i64 k ∧ (L.take k).all (bitN f.data.toList) = true ∧ Drw w1 x) (fun iv _ => L.length - (intOf iv).toNat)
  case atStart => exact ⟨0, Nat.zero_le _, rfl, rfl, Drw.refl w1⟩
  case round =>
    obtain ⟨k, hk, rfl, hall, hd⟩ := hrel
    have HALL := Lib.hid hall; clear hall
    have HD := Lib.hid hd
    by_cases hlt : k < L.length
    · obtain ⟨a, rfl, hc⟩ := (HAT.out.bel hd.bel) k hlt
      clear hd
      have HN := Lib.hid (all_take f.data.toList L k hlt)
      have HFA := Lib.hid (fun hb => all_fails (f := f.data.toList) hlt hb)
      have hi := HLT.out k hlt
      generalize L[k] = i at *
      have hBW := bit_walk2 f.data.toList i
      have hqi : (i : Int) / 8 = ((i / 8 : Nat) : Int) := by omega
      have hri : (i : Int) % 8 = ((i % 8 : Nat) : Int) := by omega
      have hql : i / 8 < f.size := by omega
      have hr8 : i % 8 < 8 := by omega
      generalize bitN f.data.toList i = t at *
      generalize i / 8 = q at *
      generalize i % 8 = r at *
      have hx : byteN f.data.toList q = f[q].toNat := by rw [byte_get (show q < f.data.toList.length from hql)]; rfl
      rw [hx] at hBW
      have hqli : (q : Int) < (f.size : Int) := by omega
      have hqw : IntKind.i64.wrap (q : Int) = q := by rw [IntKind.wrap_i64]; omega
      have hiw : IntKind.i64.wrap (i : Int) = i := by rw [IntKind.wrap_i64]; omega
      clear hx
      go_wp2_with (fail)
      go_quiet (fail)
      cases t with
      | true =>
        rw [HALL.out, Bool.true_and] at HN
        go_wp2_with (fail)
        go_roundw
        case rel => exact ⟨k + 1, hlt, by go_num, HN.out, HD.out.drewN _⟩
        case measure => simp [intOf]; omega
      | false =>
        go_wp2_with (fail)
        go_ret
        exact ⟨by rw [HM.out, HFA.out trivial, Bool.and_false]; rfl, HB.out.trans (HD.out.drewN _).bel⟩
    · obtain rfl : k = L.length := by omega
      rw [List.take_length] at HALL
      rw [HALL.out, Bool.and_true] at HM
      clear hd
      have HE := Lib.hid (show (!f.data.toList.isEmpty) = decide (0 < f.size) by
        have hfl : f.data.toList.length = f.size := rfl
        cases h : f.data.toList with
        | nil => rw [h] at hfl; simp at hfl; rw [← hfl]; rfl
        | cons a l => rw [h] at hfl; simp at hfl; simp; omega)
      go_wp2_with (fail)
      go_ret
      exact ⟨by rw [HM.out, HE.out]; rfl, HB.out.trans HD.out.bel⟩

theorem pow_byte (r : Nat) (h : r < 8) : (2 : Int) ^ r % 256 = ((2 ^ r : Nat) : Int) := by
  have h1 : 2 ^ r ≤ 2 ^ 7 := Nat.pow_le_pow_right (by omega) (by omega)
  have h2 : (2 : Int) ^ r = ((2 ^ r : Nat) : Int) := by simp
  rw [h2]
  generalize 2 ^ r = z at h1
  have : z ≤ 128 := h1
  omega
theorem shl_at (i m : Nat) (hm : m = 2 ^ (i % 8)) : Op.shift .shl .u8 1 .i64 ((i : Int).tmod 8) = pure (.int .u8 (m : Int)) := by
  have e : (i : Int).tmod 8 = ((i % 8 : Nat) : Int) := by rw [Int.tmod_eq_emod_of_nonneg (by omega)]; omega
  have h8 : i % 8 < 8 := by omega
  rw [e, shift_shl_u8 .i64 1 ((i % 8 : Nat) : Int) (by omega) (by omega), IntKind.wrap_u8', Int.toNat_natCast, Int.one_mul, pow_byte _ h8, hm]
set_option maxHeartbeats 4000000 in
theorem rbuild_any (p : Option Addr) (cap : Nat) (L : List (List UInt8)) (w : World) (h : StrsAt w p L) (hL : L.length ≤ 100000) (hs : strSmall maxLen L) :
    Calls Try.prog 19 #[.slice p L.length cap] w fun e w' => e = .returned (.string ⟨(buildF L).toArray⟩) ∧ Bel w w' := by
  by_cases h0 : L = []
  · subst h0
    go_enter Try.func19, Try.ntmps19
    go_wp2_with (fail)
    go_ret
    exact ⟨rfl, Bel.refl w⟩
  have hl0 : L.length ≠ 0 := fun e => h0 (List.length_eq_zero_iff.1 e)
  have hl0' : ((L.length : Int) == 0) = false := by rw [beq_eq_false_iff_ne]; omega
  have HF := Lib.hid (show buildF L = setAll (zeroL (sizeF L.length)) (bitsF L (sizeF L.length)) from if_neg h0)
  have HSZ := Lib.hid (show sizeF L.length ≤ 150008 by unfold sizeF; omega)
  have hmx : (if (8 : Int) < (L.length : Int) + ((L.length : Int) + 1) / 2 then (L.length : Int) + ((L.length : Int) + 1) / 2 else 8) = (sizeF L.length : Nat) := by unfold sizeF; split <;> omega
  have HN := Lib.hid h0
  have HH := Lib.hid h; clear h
  have HSM := Lib.hid hs; clear hs h0
  generalize sizeF L.length = n at *
  have hmk := run_make_row' (P := Try.prog) 37 5 (.int .u8 0) 1 Try.underlying37 infoByte9 rfl .i64 .i64 n (by have := HSZ.out; omega) (by have := HSZ.out; omega)
  have HA := Lib.hid (ByteRow.made w n)
  have HB := Lib.hid ((Bel.refl w).alloc (.cells (madeCells #[.int .u8 0] n) 5))
  have hbsz : w.heap.size < (w.alloc (.cells (madeCells #[.int .u8 0] n) 5)).heap.size := by simp
  have HBS := Lib.hid hbsz
  clear hbsz
  go_enter Try.func19, Try.ntmps19
  go_wp2_with (fail)
  go_loopw [5] (fun iv x => ∃ k : Nat, k ≤ L.length ∧ iv = .int .i64 k ∧ ByteRow x w.heap.size (setAll (zeroL n) (bitsF (L.take k) n)) ∧ Bel w x ∧ w.heap.size < x.heap.size) (fun iv _ => L.length - (intOf iv).toNat)
  case atStart => exact ⟨0, Nat.zero_le _, rfl, HA.out, HB.out, HBS.out⟩
  case round =>
    obtain ⟨k, hk, rfl, hrow, hb, hsz⟩ := hrel
    have HR := Lib.hid hrow
    have HBk := Lib.hid hb
    have HS := Lib.hid hsz
    by_cases hlt : k < L.length
    · obtain ⟨a, rfl, hc⟩ := (HH.out.bel hb) k hlt
      have HKL := Lib.hid (show (⟨L[k].toArray⟩ : ByteArray).size ≤ maxLen by show L[k].toArray.size ≤ _; rw [List.size_toArray]; exact HSM.out k hlt)
      have HKE := Lib.hid (show (⟨L[k].toArray⟩ : ByteArray).data.toList = L[k] by simp)
      obtain ⟨key, hkey⟩ : ∃ key : ByteArray, key = ⟨L[k].toArray⟩ := ⟨_, rfl⟩
      rw [← hkey] at hc HKL HKE
      clear hkey hb hrow hsz
      have hn8 := HSZ.out
      go_wp2_with (fail)
      refine (rplaces_any key (8 * (n : Int)) wr HKL.out (by omega)).mono ?_
      rw [show (8 * (n : Int)).toNat = 8 * n by omega]
      unfold PlacesPost
      have HPL := Lib.hid (bits_take L n k hlt)
      rw [← HKE.out] at HPL
      obtain ⟨M, hM⟩ : ∃ M, M = placesL (hashN key.data.toList) (8 * n) := ⟨_, rfl⟩
      rw [← hM] at HPL ⊢
      have hm4 : M.length ≤ 4 := by rw [hM]; unfold placesL; split <;> simp
      have HLT := Lib.hid (show ∀ (k : Nat) (h : k < M.length), M[k] < 8 * n from fun k h => by
        have h2 : M[k] ∈ placesL (hashN key.data.toList) (8 * n) := by rw [← hM]; exact List.getElem_mem h
        exact places_lt h2)
      clear hM
      rintro e w1 ⟨q0, cap0, rfl, hat, hq0, hb1⟩
      have HAT := Lib.hid hat; clear hat
      have HQ0 := Lib.hid hq0; clear hq0
      have HB1 := Lib.hid hb1
      have HR1 := Lib.hid (HR.out.bel hb1)
      have HS1 := Lib.hid (show w.heap.size < w1.heap.size from Nat.lt_of_lt_of_le HS.out hb1.size)
      clear hb1
      have hrl : (setAll (zeroL n) (bitsF (L.take k) n)).length = n := by rw [setAll_len, zero_len]
      have HRL := Lib.hid (show (setAll (zeroL n) (bitsF (L.take k) n ++ M)) = setAll (setAll (zeroL n) (bitsF (L.take k) n)) M from setAll_app _ _ _)
      rw [← HPL.out] at HRL
      obtain ⟨R, hR⟩ : ∃ R, R = setAll (zeroL n) (bitsF (L.take k) n) := ⟨_, rfl⟩
      rw [← hR] at hrl HRL HR1
      clear hR HR
      replace hrl := Lib.hid hrl
      go_wp2_with (fail)
      go_loopw [7] (fun iv x => ∃ j : Nat, j ≤ M.length ∧ iv = .int .i64 j ∧ ByteRow x w.heap.size (setAll R (M.take j)) ∧ Keep [w.heap.size] w1 x) (fun iv _ => M.length - (intOf iv).toNat)
      case atStart => exact ⟨0, Nat.zero_le _, rfl, HR1.out, Keep.refl _ _⟩
      case round =>
        obtain ⟨j, hj, rfl, hrow, hkp⟩ := hrel
        have HKP := Lib.hid hkp
        have HRW := Lib.hid hrow
        by_cases hjl : j < M.length
        · obtain ⟨a2, rfl, hc2⟩ := (HAT.out.keep hkp (fun a ha hm => by have := HQ0.out a ha; rw [List.mem_singleton] at hm; have := HS.out; omega)) j hjl
          have HST := Lib.hid (setAll_take R M j hjl)
          have hi := HLT.out j hjl
          have hr2 : (setAll R (M.take j)).length = n := by rw [setAll_len, hrl.out]
          generalize M[j] = i at *
          generalize setAll R (M.take j) = R2 at *
          have hql : i / 8 < R2.length := by omega
          have hcb : wr.cell? ⟨w.heap.size, i / 8, none⟩ = some (.int .u8 ((byteN R2 (i / 8) : Nat) : Int)) := by rw [byte_get hql]; exact (hrow _ hql).1
          have hfb := (hrow _ hql).2
          have hOW := or_walk R2 i
          rw [show setN R2 i = R2.set (i / 8) (UInt8.ofNat (byteN R2 (i / 8) ||| 2 ^ (i % 8))) from rfl] at HST
          have hqi : (i : Int) / 8 = ((i / 8 : Nat) : Int) := by omega
          have hri : (i : Int) % 8 = ((i % 8 : Nat) : Int) := by omega
          have hr8 : i % 8 < 8 := by omega
          have hpm := pow_byte (i % 8) hr8
          obtain ⟨m, hm⟩ : ∃ m, m = 2 ^ (i % 8) := ⟨_, rfl⟩
          rw [← hm] at HST hOW hpm
          have hsh := shl_at i m hm
          clear hm hkp hrow
          have HQL := Lib.hid hql
          generalize i / 8 = q at *
          generalize i % 8 = r at *
          generalize byteN R2 q = x0 at *
          generalize UInt8.ofNat (x0 ||| m) = x1 at *
          have hqli : (q : Int) < (n : Int) := by omega
          have hqw : IntKind.i64.wrap (q : Int) = q := by rw [IntKind.wrap_i64]; omega
          have hrw : IntKind.i64.wrap (r : Int) = r := by rw [IntKind.wrap_i64]; omega
          have hjw : IntKind.i64.wrap (j : Int) = j := by rw [IntKind.wrap_i64]; omega
          have hjli : (j : Int) < (M.length : Int) := by omega
          have HR2 := Lib.hid hr2; clear hr2 hql
          go_wp2_with (fail)
          refine wp_region_still_tail 22 (by kernel_rfl) (by kernel_rfl) ?_
          change wpStill _ _ (World.drew _) _ _ _
          simp only [List.take_succ_cons, List.take_zero, List.drop_succ_cons, List.drop_zero]
          iterate 22 still_step
          refine wpStill_nil ?_
          change wpList _ _ _ _ _ (World.drew _)
          go_wp2_with (fail)
          go_roundw
          case rel => exact ⟨j + 1, hjl, by go_num, by rw [HST.out]; exact (HRW.out.set q HQL.out x1).bel (Bel.refl _).drew, (HKP.out.setCell (Or.inl (by simp)) _).drew⟩
          case measure => simp [intOf]; omega
        · obtain rfl : j = M.length := by omega
          rw [List.take_length, ← HRL.out] at hrow
          have HRW2 := Lib.hid hrow
          have HB2 := Lib.hid (show Bel w wr from (HBk.out.trans HB1.out).trans_below (hkp.below (Nat.le_trans HBk.out.size HB1.out.size) (fun b hb => by rw [List.mem_singleton] at hb; subst hb; exact Nat.le_refl _)))
          have HS2 := Lib.hid (show w.heap.size < wr.heap.size from by have := HS1.out; have := hkp.size; omega)
          clear hrow hkp
          go_wp2_with (fail)
          go_roundw
          case rel => exact ⟨k + 1, hlt, by go_num, HRW2.out, HB2.out, HS2.out⟩
          case measure => simp [intOf]; omega
    · obtain rfl : k = L.length := by omega
      rw [List.take_length, ← HF.out] at hrow
      have hln : (buildF L).length = n := by rw [HF.out, setAll_len, zero_len]
      have hcv := hrow.conv n
      rw [hln] at hcv
      clear hrow hb hln hsz
      go_wp2_with (fail)
      go_ret
      exact ⟨rfl, HBk.out⟩
end Go.Proofs.Ytaabaphpllnieaa
