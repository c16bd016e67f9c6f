/- FRcr2, FTwo, FLawT, laid together. -/
import Derived.Test.YtfbiinnenlgkfaaGreatDoorQ16
import Derived.Lib.AtoiErrMem
set_option linter.unusedSimpArgs false
set_option linter.unusedVariables false
namespace Go.Proofs.YtfbiinnenlgkfaaGreatDoor
open Go.RowKit Go.Deep Go.Maps

def RcRel (n₀ : Nat) (w1 : World) (b : Nat) (M : RS) (v : Value) (F : List Nat) (lf sp : List Int) (k i : Value) (x : World) : Prop :=
 ∃ (j kk : Nat) (dn : List FI), i = .int .i64 j ∧ k = .int .i64 kk ∧ j ≤ M.L.length ∧ kk ≤ j ∧ crashF lf sp 0 M.L = dn ++ crashF lf sp kk (M.L.drop j) ∧ dn.length = j ∧ RefAt n₀ x b { onM M with L := dn ++ M.L.drop j } v ∧ Keep F w1 x

theorem zero_add_addr (g i : Nat) : (⟨g, 0, none⟩ : Addr).add i = ⟨g, i, none⟩ := by cases i <;> simp [Addr.add]
theorem set_mid {A B : List FI} {x y : FI} {j : Nat} (h : A.length = j) : (A ++ x :: B).set j y = A ++ y :: B := by
 subst h; simp
theorem ref_row {n₀ : Nat} {w : World} {b g n cap : Nat} {M : RS} (h : RefAt n₀ w b M (.slice (some ⟨g, 0, none⟩) n cap)) (i : Nat) (hi : i < M.L.length) (y : FI) :
  RefAt n₀ (((w.setCell ⟨g, i * 3, none⟩ (.string ⟨y.name.toArray⟩)).setCell ⟨g, i * 3 + 1, none⟩ (.string ⟨y.bytes.toArray⟩)).setCell ⟨g, i * 3 + 2, none⟩ (.int .i64 y.safe)) b { M with L := M.L.set i y } (.slice (some ⟨g, 0, none⟩) n cap) := by
 have hne : g ≠ b := h.own_ne h.own g rfl
 have hk : Keep [g] w (((w.setCell ⟨g, i * 3, none⟩ (.string ⟨y.name.toArray⟩)).setCell ⟨g, i * 3 + 1, none⟩ (.string ⟨y.bytes.toArray⟩)).setCell ⟨g, i * 3 + 2, none⟩ (.int .i64 y.safe)) :=
  (((Keep.refl _ w).setCell (p := ⟨g, i * 3, none⟩) (Or.inl (by simp)) _).setCell (p := ⟨g, i * 3 + 1, none⟩) (Or.inl (by simp)) _).setCell (p := ⟨g, i * 3 + 2, none⟩) (Or.inl (by simp)) _
 exact ⟨hk.at h.blk (by rw [List.mem_singleton]; omega), row_set h.own i hi y, h.low⟩

set_option maxHeartbeats 4000000 in
set_option maxRecDepth 20000 in
theorem rcrash_any (n₀ : Nat) (w : World) (b : Nat) (M : RS) (F : List Nat) (lf sp : SI) (h : RefP n₀ w b M F) (hM : M.ok)
  (hlf : SI.ok w lf) (hsp : SI.ok w sp) (nl : ∀ a, lf.p = some a → lf.L ≠ [] → a.block ∉ F) (ns : ∀ a, sp.p = some a → sp.L ≠ [] → a.block ∉ F) :
  Calls Tryz.prog 45 #[.pointer (some ⟨b, 0, none⟩), lf.val, sp.val] w fun e w' => (∃ u, e = .returned u) ∧ RefTo n₀ w w' b (crashS lf.L sp.L M) F := by
 obtain ⟨v, h, hb, hv, hF⟩ := h
 have HR := Lib.hid h
 have HM := Lib.hid hM
 have hn : n₀ ≤ w.heap.size := Nat.le_of_lt (Nat.lt_of_le_of_lt h.low h.lt)
 have HTo := Lib.hid (fun x M' v' => ref_to (x := x) (M := M') (v' := v') hb hv hF hn)
 have hbF := Lib.hid hb
 have HVF := Lib.hid hv
 have HLF := Lib.hid hlf
 have HSP := Lib.hid hsp
 have HNL := Lib.hid nl
 have HNS := Lib.hid ns
 have f2 := h.frozen 2
 have f3 := h.frozen 3
 obtain ⟨c0, c1, c2, c3⟩ := h.cells
 have hlen := hM.len
 obtain ⟨p, cap, rfl⟩ := ownG_len h.own
 clear h hM hb hv hF hlf hsp nl ns
 unfold SI.val
 go_enter Tryz.func45, Tryz.ntmps45
 go_wp2_with (fail)
 have hR1 := (HR.out.put_gone false).put_turns (-1)
 have hK1 : Keep F w ((w.setCell ⟨b, 3, none⟩ (.bool false)).setCell ⟨b, 2, none⟩ (.int .i64 (-1))) := ((Keep.refl F w).setCell (p := ⟨b, 3, none⟩) (Or.inl hbF.out) _).setCell (p := ⟨b, 2, none⟩) (Or.inl hbF.out) _
 generalize (w.setCell ⟨b, 3, none⟩ (.bool false)).setCell ⟨b, 2, none⟩ (.int .i64 (-1)) = w1 at *
 have HR1 := Lib.hid hR1
 have HK1 := Lib.hid hK1
 clear hR1 hK1 c0 c1 c2 c3 f2 f3
 go_loopw [6, 7] (fun k i x => RcRel n₀ w1 b M (.slice p M.L.length cap) F lf.L sp.L k i x) (fun _ i _ => M.L.length - (intOf i).toNat)
 case atStart => exact ⟨0, 0, [], rfl, rfl, Nat.zero_le _, Nat.le_refl _, by simp, rfl, HR1.out, Keep.refl _ _⟩
 case round =>
  obtain ⟨j, kk, dn, rfl, rfl, hj, hkj, hcr, hdl, hra, hkp⟩ := hrel
  have HCR := Lib.hid hcr
  have HDL := Lib.hid hdl
  have HRA := Lib.hid hra
  have HKP := Lib.hid hkp
  obtain ⟨c0, -, -, -⟩ := hra.cells
  have hbr := hra.lt
  clear hcr hdl hra hkp
  by_cases hlt : j < M.L.length
  ·obtain ⟨y, hy⟩ : ∃ y, y = M.L[j] := ⟨_, rfl⟩
   have hdrop : M.L.drop j = y :: M.L.drop (j + 1) := by rw [hy]; exact List.drop_eq_getElem_cons hlt
   rw [hdrop] at HRA HCR
   have HE := Lib.hid (HM.out.each y (by rw [hy]; exact List.getElem_mem hlt)).2
   have hyb := bytes_mem (show y ∈ M.L by rw [hy]; exact List.getElem_mem hlt)
   have hbm := good_bytes' HM.out
   have hyj : (dn ++ y :: M.L.drop (j + 1))[j]? = some y := by rw [List.getElem?_append_right (by rw [HDL.out]; exact Nat.le_refl _), HDL.out]; simp
   obtain ⟨g, cap', hv, _, hgl, _, hcs⟩ := ownG_cells fileOk HRA.out.own (by simp)
   simp only [Value.slice.injEq] at hv
   obtain ⟨rfl, hlL, rfl⟩ := hv
   have d0 := hcs j y hyj 0 _ rfl
   have d1 := hcs j y hyj 1 _ rfl
   have d2 := hcs j y hyj 2 _ rfl
   simp only [fileEl, Nat.add_zero] at d0 d1 d2
   have hys : (⟨y.bytes.toArray⟩ : ByteArray).size = y.bytes.length := by show y.bytes.toArray.size = _; simp
   have hsb := HE.out
   clear hcs hyj hdrop hy hlL
   by_cases hsv : y.safe = y.bytes.length
   ·have HSV := Lib.hid hsv
    have hz : (y.bytes.length : Int) - (y.safe : Int) = 0 := by omega
    have hwz : IntKind.i64.wrap ((y.bytes.length : Int) - (y.safe : Int)) = 0 := by rw [hz]; rfl
    clear hsv
    go_wp2_with (fail)
    go_roundw
    case rel =>
     refine ⟨j + 1, kk, dn ++ [y], by go_num, rfl, by omega, by omega, ?_, by simp [HDL.out], ?_, HKP.out.alloc _⟩
     ·rw [HCR.out, crashF, if_pos HSV.out]; simp
     ·simpa using HRA.out.bel ((Bel.refl wr).alloc _)
    case measure => simp [intOf]; omega
   ·have HSV := Lib.hid hsv
    have htl : 0 < (y.bytes.length : Int) - (y.safe : Int) := by omega
    have hwz : IntKind.i64.wrap ((y.bytes.length : Int) - (y.safe : Int)) = (y.bytes.length : Int) - (y.safe : Int) := wrap_i64_in (by omega) (by omega)
    have hnz : (((y.bytes.length : Int) - (y.safe : Int)) == 0) = false := by rw [beq_eq_false_iff_ne]; omega
    have KW := Lib.hid (HK1.out.trans HKP.out (fun x hx => Or.inl hx))
    have hil := HLF.out.1.keep KW.out HNL.out
    have his := HSP.out.1.keep KW.out HNS.out
    have HIlf := Lib.hid (fun z (hz : Bel wr z) => hil.bel hz)
    have HIsp := Lib.hid (fun z (hz : Bel wr z) => his.bel hz)
    have hjk : kk ≤ 1000000 := by omega
    obtain ⟨q1, q2⟩ := at_in64 HLF.out.2.2 kk
    obtain ⟨t, ht⟩ : ∃ t, t = leftN (atN lf.L kk) (y.bytes.length - y.safe) := ⟨_, rfl⟩
    have hmm : max 0 (min (atN lf.L kk) ((y.bytes.length : Int) - (y.safe : Int))) = (t : Int) := by rw [ht]; unfold leftN; omega
    have htn : y.safe + t ≤ y.bytes.length := by omega
    have HT := Lib.hid ht
    clear hil his hsv ht
    go_wp2_with (fail)
    refine (rat_any _ lf.p lf.cap lf.L kk (HIlf.out _ ((Bel.refl wr).alloc _)) HLF.out.2.1 hjk).mono ?_
    rintro e w3 ⟨rfl, hd3⟩
    have HB3 := Lib.hid (((Bel.refl wr).alloc (.cells #[.string ⟨y.name.toArray⟩, .string ⟨y.bytes.toArray⟩, .int .i64 y.safe] 74)).trans hd3.bel)
    have e0 : w3.cell? ⟨wr.heap.size, 0, none⟩ = some (.string ⟨y.name.toArray⟩) := cell_later hd3.bel (by go_simp)
    have e1 : w3.cell? ⟨wr.heap.size, 1, none⟩ = some (.string ⟨y.bytes.toArray⟩) := cell_later hd3.bel (by go_simp)
    have e2 : w3.cell? ⟨wr.heap.size, 2, none⟩ = some (.int .i64 y.safe) := cell_later hd3.bel (by go_simp)
    have hz3 : wr.heap.size < w3.heap.size := by have := hd3.bel.size; simp at this; omega
    have hws : IntKind.i64.wrap ((y.safe : Int) + (t : Int)) = (y.safe : Int) + (t : Int) := wrap_i64_in (by omega) (by omega)
    have htk : ((y.safe : Int) + (t : Int)).toNat = y.safe + t := by omega
    have htl2 : (y.safe : Int) + (t : Int) ≤ (y.bytes.length : Int) := by omega
    have htp : (0 : Int) ≤ (y.safe : Int) + (t : Int) := by omega
    clear hd3
    obtain ⟨l4, hl4⟩ : ∃ l4, l4 = y.bytes.take (y.safe + t) := ⟨_, rfl⟩
    have hln : l4.length = y.safe + t := by rw [hl4, List.length_take]; omega
    have hext : (⟨y.bytes.toArray⟩ : ByteArray).extract 0 (y.safe + t) = ⟨l4.toArray⟩ := by rw [hl4]; apply ByteArray.ext; simp [ByteArray.data_extract]
    have hcv := Lib.run_convert_string_bytes (P := Tryz.prog) w3 9 114 5 ⟨l4.toArray⟩ (u := .string) Tryz.underlying9 Tryz.underlying114 Tryz.underlying5
    have hsz4 : (⟨l4.toArray⟩ : ByteArray).size = y.safe + t := by rw [← hln]; show l4.toArray.size = _; simp
    have hc4 : ∀ i (h : i < l4.length), (Lib.bytesWorld w3 5 ⟨l4.toArray⟩).cell? ⟨w3.heap.size, i, none⟩ = some (.int .u8 l4[i].toNat) := fun i h => by
     rw [Lib.bytesWorld_cell w3 5 ⟨l4.toArray⟩ i (by rw [hsz4]; omega)]
     simp [List.getD, h]
    have hb4 : Bel w3 (Lib.bytesWorld w3 5 ⟨l4.toArray⟩) := Lib.bytesWorld_below _ _ _
    have hf4 : ∀ i, i < l4.length → (Lib.bytesWorld w3 5 ⟨l4.toArray⟩).frozen? ⟨w3.heap.size, i, none⟩ = false := fun i h => by
     have h1 := Lib.bytesWorld_at_new w3 5 ⟨l4.toArray⟩
     have h2 := block_lt_of_cell (hc4 i h)
     have h3 := hc4 i h
     simp [World.cell?, h1] at h3
     obtain ⟨h3, -⟩ := Array.getElem?_eq_some_iff.1 h3
     simp [World.frozen?, h1]
     omega
    rw [hsz4] at hcv
    generalize Lib.bytesWorld w3 5 ⟨l4.toArray⟩ = w4 at hcv hc4 hb4 hf4
    generalize grownCap w3 (y.safe + t) 0 5 = C4 at hcv
    rw [← hext] at hcv
    have HC4 := Lib.hid hc4
    have HF4 := Lib.hid hf4
    have HB4 := Lib.hid (HB3.out.trans hb4)
    have HBB := Lib.hid hb4
    have HL4 := Lib.hid hl4
    clear hc4 hf4 hb4 hl4 hext
    by_cases ht0 : t = 0
    ·have ht1 : ¬ 0 < (t : Int) := by omega
     have HT0 := Lib.hid ht0
     clear ht0
     go_wp2_with (fail)
     have n0 := cell_later HB4.out c0
     have n1 := cell_later HBB.out e0
     have HBN := Lib.hid HB4.out
     have HCN := Lib.hid (fun z (hz : Bel w4 z) => run_convert_bytes_back (P := Tryz.prog) z 114 9 5 ⟨w3.heap.size, 0, none⟩ C4 l4 Tryz.underlying114 Tryz.underlying5 Tryz.underlying9 (fun i hi => by rw [zero_add_addr]; exact cell_later hz (HC4.out i hi)))
     rw [hln] at HCN
     have HS := Lib.hid (show ∀ z, Bel w4 z → (z.cell? ⟨b, 0, none⟩ = some (.slice (some ⟨g, 0, none⟩) M.L.length cap) ∧ z.cell? ⟨wr.heap.size, 0, none⟩ = some (.string ⟨y.name.toArray⟩) ∧ (convert 114 9 (.slice (some ⟨w3.heap.size, 0, none⟩) (y.safe + t) C4)).run Tryz.prog z = .ok (.string ⟨l4.toArray⟩) z ∧ Bel w4 z) from fun z hz => ⟨cell_later hz n0, cell_later hz n1, HCN.out z hz, hz⟩)
     refine region_L 13 (S := fun z => (z.cell? ⟨b, 0, none⟩ = some (.slice (some ⟨g, 0, none⟩) M.L.length cap) ∧ z.cell? ⟨wr.heap.size, 0, none⟩ = some (.string ⟨y.name.toArray⟩) ∧ (convert 114 9 (.slice (some ⟨w3.heap.size, 0, none⟩) (y.safe + t) C4)).run Tryz.prog z = .ok (.string ⟨l4.toArray⟩) z ∧ Bel w4 z)) (by kernel_rfl) (HS.out _ (Bel.refl w4).drew) (fun hHeld => ?_)
     refine AnyL.tk (v := ?_) 0 rfl ?_ ?_;rotate_left;·(intros;go_simp<;>with_reducible rfl)
     try simp only[Act.put,sqA,sqB,sqC]
     refine AnyL.tk (v := ?_) 1 rfl ?_ ?_;rotate_left;·(intros;go_simp<;>with_reducible rfl)
     try simp only[Act.put,sqA,sqB,sqC]
     refine AnyL.tk (v := ?_) 2 rfl ?_ ?_;rotate_left;·(intros;go_simp<;>with_reducible rfl)
     try simp only[Act.put,sqA,sqB,sqC]
     refine AnyL.tk (v := ?_) 3 rfl ?_ ?_;rotate_left;·(intros;go_simp<;>with_reducible rfl)
     try simp only[Act.put,sqA,sqB,sqC]
     refine AnyL.tk (v := ?_) 4 rfl ?_ ?_;rotate_left;·(intros;go_simp<;>with_reducible rfl)
     try simp only[Act.put,sqA,sqB,sqC]
     refine AnyL.tk (v := ?_) 5 rfl ?_ ?_;rotate_left;·(intros;go_simp<;>with_reducible rfl)
     try simp only[Act.put,sqA,sqB,sqC]
     refine AnyL.tk (v := ?_) 6 rfl ?_ ?_;rotate_left;·(intros;go_simp<;>with_reducible rfl)
     try simp only[Act.put,sqA,sqB,sqC]
     refine AnyL.tk (v := ?_) 7 rfl ?_ ?_;rotate_left;·(intros;go_simp<;>with_reducible rfl)
     try simp only[Act.put,sqA,sqB,sqC]
     refine AnyL.tk (v := ?_) 8 rfl ?_ ?_;rotate_left;·(intros;go_simp<;>with_reducible rfl)
     try simp only[Act.put,sqA,sqB,sqC]
     refine AnyL.tk (v := ?_) 9 rfl ?_ ?_;rotate_left;·(intros;go_simp<;>with_reducible rfl)
     try simp only[Act.put,sqA,sqB,sqC]
     refine AnyL.tk (v := ?_) 10 rfl ?_ ?_;rotate_left;·(intros;go_simp<;>with_reducible rfl)
     try simp only[Act.put,sqA,sqB,sqC]
     refine AnyL.tk (v := ?_) 11 rfl ?_ ?_;rotate_left;·(intros;go_simp<;>with_reducible rfl)
     try simp only[Act.put,sqA,sqB,sqC]
     clear hHeld
     refine AnyL.ready (rs := [12]) (by kernel_rfl) (by simp) ?_
     refine al1 rfl fun K hK => ?_
     go_simp
     refine hK.out _ _ (fun _ => HS.out _ (Bel.refl w4).drew) ?_
     clear hK K
     try simp only[Act.put,sqA,sqB,sqC]
     have fr0 := row_free (HRA.out.bel HBN.out).own (j * 3)
     have fr1 := row_free (HRA.out.bel HBN.out).own (j * 3 + 1)
     have fr2 := row_free (HRA.out.bel HBN.out).own (j * 3 + 2)
     have m0 := cell_later HB4.out d0
     have m1 := cell_later HB4.out d1
     have m2 := cell_later HB4.out d2
     have hgN : g < w4.heap.size := Nat.lt_of_lt_of_le hgl HBN.out.size
     refine AnyL.ready (rs := [13]) (by kernel_rfl) (by simp) ?_
     refine al1 rfl fun K hK => ?_
     go_simp
     refine hK.out _ _ (fun h => absurd rfl h) ?_
     clear hK K fr0 fr1 fr2 m0 m1 m2
     try simp only[Act.put,sqA,sqB,sqC]
     refine AnyL.done (by kernel_rfl) ?_ _
     have hcrx : crX (atN lf.L kk) (atN sp.L kk) y = ⟨y.name, l4, y.safe + t⟩ := by unfold crX; rw [← HT.out, if_pos HT0.out, ← HL4.out]
     have HX := Lib.hid hcrx
     have HR4 := Lib.hid (ref_row (HRA.out.bel HB4.out) j (by simp [HDL.out]) ⟨y.name, l4, y.safe + t⟩)
     have HK4 := Lib.hid ((((HKP.out.then HB4.out).setCell (p := ⟨g, j * 3, none⟩) (Or.inl (HVF.out g rfl)) (.string ⟨y.name.toArray⟩)).setCell (p := ⟨g, j * 3 + 1, none⟩) (Or.inl (HVF.out g rfl)) (.string ⟨l4.toArray⟩)).setCell (p := ⟨g, j * 3 + 2, none⟩) (Or.inl (HVF.out g rfl)) (.int .i64 ((y.safe + t : Nat) : Int)))
     simp only [Int.natCast_add] at HR4 HK4
     clear hcrx
     go_wp2_with (fail)
     go_roundw
     case rel =>
      refine ⟨j + 1, kk + 1, dn ++ [crX (atN lf.L kk) (atN sp.L kk) y], by go_num, by go_num, by omega, by omega, ?_, by simp [HDL.out], ?_, ?_⟩
      ·rw [HCR.out, crashF, if_neg HSV.out]; simp
      ·have hr := HR4.out
       rw [set_mid HDL.out] at hr
       rw [HX.out, List.append_assoc]
       first | exact hr | exact hr.bel (Bel.refl _).drew
      ·first | exact HK4.out | exact HK4.out.drew
     case measure => simp [intOf]; omega
    ·have htp2 : 0 < (t : Int) := by omega
     have HT0 := Lib.hid ht0
     clear ht0
     obtain ⟨i, hi⟩ : ∃ i, y.safe + t = i + 1 := ⟨y.safe + t - 1, by omega⟩
     have HII := Lib.hid hi
     have hil : i < l4.length := by omega
     obtain ⟨bx, hbx⟩ : ∃ bx, bx = l4[i] := ⟨_, rfl⟩
     have n4 := HC4.out i hil
     rw [← hbx] at n4
     have f4 := HF4.out i hil
     have HBX := Lib.hid hbx
     clear hbx
     have hw3s : w3.heap.size < w4.heap.size := block_lt_of_cell n4
     have hi64 : (i : Int) ≤ 2000000000 := by omega
     have hwi : IntKind.i64.wrap (i : Int) = (i : Int) := wrap_i64_in (by omega) (by omega)
     have hi1 : (i : Int) < (i : Int) + 1 := by omega
     clear hi
     go_wp2_with (fail)
     rw [HII.out]
     obtain ⟨s1, s2⟩ := at_in64 HSP.out.2.2 kk
     have HS := Lib.hid (show ∀ z, Drw w4 z → (z.cell? ⟨w3.heap.size, i, none⟩ = some (.int .u8 bx.toNat) ∧ z.frozen? ⟨w3.heap.size, i, none⟩ = false ∧ Drw w4 z) from fun z hz => ⟨cell_later hz.bel n4, ((bcell hz.bel).2 _ _ hw3s).trans f4, hz⟩)
     refine region_L 16 (S := fun z => (z.cell? ⟨w3.heap.size, i, none⟩ = some (.int .u8 bx.toNat) ∧ z.frozen? ⟨w3.heap.size, i, none⟩ = false ∧ Drw w4 z)) (by kernel_rfl) (HS.out _ (Drw.refl w4).drew) (fun hHeld => ?_)
     refine AnyL.tk (v := ?_) 0 rfl ?_ ?_;rotate_left;·(intros;go_simp<;>with_reducible rfl)
     try simp only[Act.put,sqA,sqB,sqC]
     refine AnyL.tk (v := ?_) 1 rfl ?_ ?_;rotate_left;·(intros;go_simp<;>with_reducible rfl)
     try simp only[Act.put,sqA,sqB,sqC]
     refine AnyL.tk (v := ?_) 2 rfl ?_ ?_;rotate_left;·(intros;go_simp<;>with_reducible rfl)
     try simp only[Act.put,sqA,sqB,sqC]
     refine AnyL.tk (v := ?_) 3 rfl ?_ ?_;rotate_left;·(intros;go_simp<;>with_reducible rfl)
     try simp only[Act.put,sqA,sqB,sqC]
     refine AnyL.tk (v := ?_) 4 rfl ?_ ?_;rotate_left;·(intros;go_simp<;>with_reducible rfl)
     try simp only[Act.put,sqA,sqB,sqC]
     refine AnyL.tk (v := ?_) 5 rfl ?_ ?_;rotate_left;·(intros;go_simp<;>with_reducible rfl)
     try simp only[Act.put,sqA,sqB,sqC]
     refine AnyL.tk (v := ?_) 6 rfl ?_ ?_;rotate_left;·(intros;go_simp<;>with_reducible rfl)
     try simp only[Act.put,sqA,sqB,sqC]
     refine AnyL.tk (v := ?_) 7 rfl ?_ ?_;rotate_left;·(intros;go_simp<;>with_reducible rfl)
     try simp only[Act.put,sqA,sqB,sqC]
     refine AnyL.tk (v := ?_) 8 rfl ?_ ?_;rotate_left;·(intros;go_simp<;>with_reducible rfl)
     try simp only[Act.put,sqA,sqB,sqC]
     refine AnyL.tk (v := ?_) 9 rfl ?_ ?_;rotate_left;·(intros;go_simp<;>with_reducible rfl)
     try simp only[Act.put,sqA,sqB,sqC]
     refine AnyL.tk (v := ?_) 10 rfl ?_ ?_;rotate_left;·(intros;go_simp<;>with_reducible rfl)
     try simp only[Act.put,sqA,sqB,sqC]
     refine AnyL.tk (v := ?_) 11 rfl ?_ ?_;rotate_left;·(intros;go_simp<;>with_reducible rfl)
     try simp only[Act.put,sqA,sqB,sqC]
     clear hHeld
     refine AnyL.ready (rs := [12]) (by kernel_rfl) (by simp) ?_
     refine al1 rfl fun K hK => ?_
     go_simp
     refine (rat_any _ sp.p sp.cap sp.L kk (HIsp.out _ (HB4.out.trans (Bel.refl w4).drew)) HSP.out.2.1 hjk).mono ?_
     rintro e w6 ⟨rfl, hd6⟩
     have HD6 := Lib.hid ((Drw.refl w4).drew.trans hd6)
     clear hd6
     dsimp only
     refine hK.out _ _ (fun _ => HS.out _ HD6.out) ?_
     clear hK K
     try simp only[Act.put,sqA,sqB,sqC]
     obtain ⟨q, hq⟩ : ∃ q, q = atN sp.L kk := ⟨_, rfl⟩
     rw [← hq]
     have HQ := Lib.hid hq
     clear hq
     have hx : bits .xor .u8 (bx.toNat : Int) (q % 256) = ((spb bx q).toNat : Int) := by rw [← spb_bits, wrap_mod]
     have hHeld := HS.out _ HD6.out
     refine AnyL.tk (v := ?_) 13 rfl ?_ ?_;rotate_left;·(intros;go_simp<;>with_reducible rfl)
     try simp only[Act.put,sqA,sqB,sqC]
     refine AnyL.tk (v := ?_) 14 rfl ?_ ?_;rotate_left;·(intros;go_simp<;>with_reducible rfl)
     try simp only[Act.put,sqA,sqB,sqC]
     refine AnyL.tk (v := ?_) 15 rfl ?_ ?_;rotate_left;·(intros;go_simp<;>with_reducible rfl)
     try simp only[Act.put,sqA,sqB,sqC]
     have n6 := hHeld.1
     have f6 := hHeld.2.1
     clear hHeld
     refine AnyL.ready (rs := [16]) (by kernel_rfl) (by simp) ?_
     refine al1 rfl fun K hK => ?_
     go_simp
     refine hK.out _ _ (fun h => absurd rfl h) ?_
     clear hK K
     try simp only[Act.put,sqA,sqB,sqC]
     refine AnyL.done (by kernel_rfl) ?_ _
     rw [spb_bits]
     have hgd : y.bytes.getD i 0 = bx := by
      have h1 : l4[i]? = y.bytes[i]? := by rw [HL4.out, List.getElem?_take_of_lt (by omega)]
      rw [List.getD_eq_getElem?_getD, ← h1, List.getElem?_eq_getElem hil, HBX.out]
      rfl
     have HGD := Lib.hid hgd
     clear hgd
     obtain ⟨l5, hl5⟩ : ∃ l5, l5 = l4.set i (spb bx q) := ⟨_, rfl⟩
     have hln5 : l5.length = i + 1 := by rw [hl5, List.length_set, hln]; exact HII.out
     have hc5 : ∀ k (h : k < l5.length), (w6.setCell ⟨w3.heap.size, i, none⟩ (.int .u8 ((spb bx q).toNat : Nat))).cell? ⟨w3.heap.size, k, none⟩ = some (.int .u8 l5[k].toNat) := fun k h => by
      by_cases hki : k = i
      ·subst hki
       rw [World.cell?_setCell_same (h := n6)]
       simp [hl5]
      ·rw [World.cell?_setCell_other (h := show (⟨w3.heap.size, i, none⟩ : Addr) ≠ ⟨w3.heap.size, k, none⟩ by intro e; simp at e <;> omega)]
       have h4 : k < l4.length := by rw [hl5, List.length_set] at h; exact h
       rw [cell_later HD6.out.bel (HC4.out k h4)]
       simp [hl5, List.getElem_set, Ne.symm hki]
     have hb5 : Bel wr (w6.setCell ⟨w3.heap.size, i, none⟩ (.int .u8 ((spb bx q).toNat : Nat))) := (HB4.out.trans HD6.out.bel).setCell (p := ⟨w3.heap.size, i, none⟩) (Nat.le_of_lt hz3) _
     have hbb5 : Bel w3 (w6.setCell ⟨w3.heap.size, i, none⟩ (.int .u8 ((spb bx q).toNat : Nat))) := (HBB.out.trans HD6.out.bel).setCell (p := ⟨w3.heap.size, i, none⟩) (Nat.le_refl _) _
     generalize w6.setCell ⟨w3.heap.size, i, none⟩ (.int .u8 ((spb bx q).toNat : Nat)) = w5 at hc5 hb5 hbb5 ⊢
     have HC5 := Lib.hid hc5
     have HB5 := Lib.hid hb5
     have HBB5 := Lib.hid hbb5
     have HL5 := Lib.hid hl5
     clear hc5 hb5 hbb5 hl5 n6 f6 n4 f4 HS hx hi1 hwi hw3s hws htk htl2 htp hcv
     go_wp2_with (fail)
     have n0 := cell_later HB5.out c0
     have n1 := cell_later HBB5.out e0
     have HBN := Lib.hid HB5.out
     have HCN := Lib.hid (fun z (hz : Bel w5 z) => run_convert_bytes_back (P := Tryz.prog) z 114 9 5 ⟨w3.heap.size, 0, none⟩ C4 l5 Tryz.underlying114 Tryz.underlying5 Tryz.underlying9 (fun i hi => by rw [zero_add_addr]; exact cell_later hz (HC5.out i hi)))
     rw [hln5] at HCN
     have HS := Lib.hid (show ∀ z, Bel w5 z → (z.cell? ⟨b, 0, none⟩ = some (.slice (some ⟨g, 0, none⟩) M.L.length cap) ∧ z.cell? ⟨wr.heap.size, 0, none⟩ = some (.string ⟨y.name.toArray⟩) ∧ (convert 114 9 (.slice (some ⟨w3.heap.size, 0, none⟩) (i + 1) C4)).run Tryz.prog z = .ok (.string ⟨l5.toArray⟩) z ∧ Bel w5 z) from fun z hz => ⟨cell_later hz n0, cell_later hz n1, HCN.out z hz, hz⟩)
     refine region_L 13 (S := fun z => (z.cell? ⟨b, 0, none⟩ = some (.slice (some ⟨g, 0, none⟩) M.L.length cap) ∧ z.cell? ⟨wr.heap.size, 0, none⟩ = some (.string ⟨y.name.toArray⟩) ∧ (convert 114 9 (.slice (some ⟨w3.heap.size, 0, none⟩) (i + 1) C4)).run Tryz.prog z = .ok (.string ⟨l5.toArray⟩) z ∧ Bel w5 z)) (by kernel_rfl) (HS.out _ (Bel.refl w5).drew) (fun hHeld => ?_)
     refine AnyL.tk (v := ?_) 0 rfl ?_ ?_;rotate_left;·(intros;go_simp<;>with_reducible rfl)
     try simp only[Act.put,sqA,sqB,sqC]
     refine AnyL.tk (v := ?_) 1 rfl ?_ ?_;rotate_left;·(intros;go_simp<;>with_reducible rfl)
     try simp only[Act.put,sqA,sqB,sqC]
     refine AnyL.tk (v := ?_) 2 rfl ?_ ?_;rotate_left;·(intros;go_simp<;>with_reducible rfl)
     try simp only[Act.put,sqA,sqB,sqC]
     refine AnyL.tk (v := ?_) 3 rfl ?_ ?_;rotate_left;·(intros;go_simp<;>with_reducible rfl)
     try simp only[Act.put,sqA,sqB,sqC]
     refine AnyL.tk (v := ?_) 4 rfl ?_ ?_;rotate_left;·(intros;go_simp<;>with_reducible rfl)
     try simp only[Act.put,sqA,sqB,sqC]
     refine AnyL.tk (v := ?_) 5 rfl ?_ ?_;rotate_left;·(intros;go_simp<;>with_reducible rfl)
     try simp only[Act.put,sqA,sqB,sqC]
     refine AnyL.tk (v := ?_) 6 rfl ?_ ?_;rotate_left;·(intros;go_simp<;>with_reducible rfl)
     try simp only[Act.put,sqA,sqB,sqC]
     refine AnyL.tk (v := ?_) 7 rfl ?_ ?_;rotate_left;·(intros;go_simp<;>with_reducible rfl)
     try simp only[Act.put,sqA,sqB,sqC]
     refine AnyL.tk (v := ?_) 8 rfl ?_ ?_;rotate_left;·(intros;go_simp<;>with_reducible rfl)
     try simp only[Act.put,sqA,sqB,sqC]
     refine AnyL.tk (v := ?_) 9 rfl ?_ ?_;rotate_left;·(intros;go_simp<;>with_reducible rfl)
     try simp only[Act.put,sqA,sqB,sqC]
     refine AnyL.tk (v := ?_) 10 rfl ?_ ?_;rotate_left;·(intros;go_simp<;>with_reducible rfl)
     try simp only[Act.put,sqA,sqB,sqC]
     refine AnyL.tk (v := ?_) 11 rfl ?_ ?_;rotate_left;·(intros;go_simp<;>with_reducible rfl)
     try simp only[Act.put,sqA,sqB,sqC]
     clear hHeld
     refine AnyL.ready (rs := [12]) (by kernel_rfl) (by simp) ?_
     refine al1 rfl fun K hK => ?_
     go_simp
     refine hK.out _ _ (fun _ => HS.out _ (Bel.refl w5).drew) ?_
     clear hK K
     try simp only[Act.put,sqA,sqB,sqC]
     have fr0 := row_free (HRA.out.bel HBN.out).own (j * 3)
     have fr1 := row_free (HRA.out.bel HBN.out).own (j * 3 + 1)
     have fr2 := row_free (HRA.out.bel HBN.out).own (j * 3 + 2)
     have m0 := cell_later HB5.out d0
     have m1 := cell_later HB5.out d1
     have m2 := cell_later HB5.out d2
     have hgN : g < w5.heap.size := Nat.lt_of_lt_of_le hgl HBN.out.size
     refine AnyL.ready (rs := [13]) (by kernel_rfl) (by simp) ?_
     refine al1 rfl fun K hK => ?_
     go_simp
     refine hK.out _ _ (fun h => absurd rfl h) ?_
     clear hK K fr0 fr1 fr2 m0 m1 m2
     try simp only[Act.put,sqA,sqB,sqC]
     refine AnyL.done (by kernel_rfl) ?_ _
     have hcrx : crX (atN lf.L kk) (atN sp.L kk) y = ⟨y.name, l5, i + 1⟩ := by unfold crX; rw [← HT.out, if_neg HT0.out, ← HL4.out, HII.out, Nat.add_sub_cancel, HGD.out, ← HQ.out, ← HL5.out]
     have HX := Lib.hid hcrx
     have HR5 := Lib.hid (ref_row (HRA.out.bel HB5.out) j (by simp [HDL.out]) ⟨y.name, l5, i + 1⟩)
     have HK5 := Lib.hid ((((HKP.out.then HB5.out).setCell (p := ⟨g, j * 3, none⟩) (Or.inl (HVF.out g rfl)) (.string ⟨y.name.toArray⟩)).setCell (p := ⟨g, j * 3 + 1, none⟩) (Or.inl (HVF.out g rfl)) (.string ⟨l5.toArray⟩)).setCell (p := ⟨g, j * 3 + 2, none⟩) (Or.inl (HVF.out g rfl)) (.int .i64 ((i + 1 : Nat) : Int)))
     simp only [Int.natCast_add, Int.natCast_one, Int.cast_ofNat_Int] at HR5 HK5
     clear hcrx
     go_wp2_with (fail)
     go_roundw
     case rel =>
      refine ⟨j + 1, kk + 1, dn ++ [crX (atN lf.L kk) (atN sp.L kk) y], by go_num, by go_num, by omega, by omega, ?_, by simp [HDL.out], ?_, ?_⟩
      ·rw [HCR.out, crashF, if_neg HSV.out]; simp
      ·have hr := HR5.out
       rw [set_mid HDL.out] at hr
       rw [HX.out, List.append_assoc]
       first | exact hr | exact hr.bel (Bel.refl _).drew
      ·first | exact HK5.out | exact HK5.out.drew
     case measure => simp [intOf]; omega
  ·obtain rfl : j = M.L.length := by omega
   go_wp2_with (fail)
   go_end0
   have e : M.L.drop M.L.length = [] := List.drop_length ..
   rw [e] at HRA HCR
   have ec : crashF lf.L sp.L 0 M.L = dn := by rw [HCR.out]; simp [crashF]
   refine ⟨⟨_, rfl⟩, HTo.out _ _ _ (show RefAt n₀ _ b (crashS lf.L sp.L M) _ by unfold crashS; rw [ec]; simpa using HRA.out) (HK1.out.trans HKP.out (fun x hx => Or.inl hx)) (Or.inl rfl)⟩

section
variable {n₀ : Nat} {w x y : World} {b : Nat} {M M' : RS} {F G : List Nat}
theorem RefP.keep (h : RefP n₀ w b M F) (hk : Keep G w x) (hG : ∀ k ∈ F, k ∉ G) : RefP n₀ x b M F := by
 obtain ⟨v, h1, h2, h3, h4⟩ := h
 exact ⟨v, h1.keep hk (hG b h2) (fun k hk' => hG k (h3 k hk')), h2, h3, fun k hk' => ⟨(h4 k hk').1, Nat.lt_of_lt_of_le (h4 k hk').2 hk.size⟩⟩
theorem RefP.bel (h : RefP n₀ w b M F) (hb : Bel w x) : RefP n₀ x b M F := h.keep (Keep.of_bel hb []) (fun _ _ => by simp)
theorem RefP.low (h : RefP n₀ w b M F) : n₀ ≤ w.heap.size := by
 obtain ⟨v, h1, h2, h3, h4⟩ := h
 have := h4 b h2
 omega
theorem RefP.to (h : RefP n₀ w b M F) (hb : Bel w x) : RefTo n₀ w x b M F := ⟨F, h.bel hb, Keep.of_bel hb F, fun k hk => Or.inl hk⟩
theorem RefTo.before (h : RefTo n₀ y x b M F) (hb : Bel w y) : RefTo n₀ w x b M F := by
 obtain ⟨G, h1, h2, h3⟩ := h
 exact ⟨G, h1, (Keep.of_bel hb F).trans h2 (fun x hx => Or.inl hx), fun k hk => (h3 k hk).imp id (fun h => Nat.le_trans hb.size h)⟩
theorem get_there (nm : List UInt8) (hs : Srt M.L) : ((thereS nm M).1.bytes, (thereS nm M).2) = getS nm M := by
 rw [there_eq nm hs]
 unfold thereG getS
 split
 ·rfl
 ·cases getF nm M.L <;> rfl
theorem rget_ref (h : RefP n₀ w b M F) (hM : M.ok) (s : ByteArray) :
  Calls Tryz.prog 101 #[.pointer (some ⟨b, 0, none⟩), .string s] w fun e w' => e = .returned (.tuple #[.string ⟨(getS s.data.toList M).1.toArray⟩, .int .i64 (getS s.data.toList M).2]) ∧ Bel w w' := by
 obtain ⟨v, h1, h2, h3, h4⟩ := h
 refine (rget_any n₀ w b M v s h1 (good_len hM)).mono ?_
 rintro e w' ⟨rfl, hb⟩
 rw [← get_there _ hM.srt]
 exact ⟨rfl, hb⟩
theorem rlimit_ref (h : RefP n₀ w b M F) (t : Int) :
  Calls Tryz.prog 44 #[.pointer (some ⟨b, 0, none⟩), .int .i64 t] w fun e w' => (∃ u, e = .returned u) ∧ RefTo n₀ w w' b (limS t M) F := by
 have hn := h.low
 obtain ⟨v, h1, h2, h3, h4⟩ := h
 refine (rlimit_any n₀ w b M v t h1).mono ?_
 rintro e w' ⟨hu, h5, h6⟩
 exact ⟨hu, ref_to h2 h3 h4 hn h5 (h6.mono (fun k hk => by rw [List.mem_singleton] at hk; subst hk; exact h2)) (Or.inl rfl)⟩
theorem rused_ref (h : RefP n₀ w b M F) (hM : M.ok) :
  Calls Tryz.prog 25 #[.pointer (some ⟨b, 0, none⟩)] w fun e w' => e = .returned (.int .i64 (bytesN M.L : Nat)) ∧ Drw w w' := by
 obtain ⟨v, h1, h2, h3, h4⟩ := h
 exact used_any n₀ w b M v h1 (good_len hM) (good_bytes hM)
theorem rnew_ref (room : Int) (w : World) (h : 0 ≤ room ∧ room ≤ 10000000) :
  Calls Tryz.prog 34 #[.int .i64 room] w fun e w' => e = .returned (.tuple #[.pointer (some ⟨w.heap.size, 0, none⟩), .int .i64 0]) ∧ RefP w.heap.size w' w.heap.size (newS room) [w.heap.size] ∧ Bel w w' := by
 refine (rnew_any room w h).mono ?_
 rintro e w' ⟨rfl, h1, h2⟩
 refine ⟨rfl, ⟨_, h1, by simp, fun k hk => by simp [Value.ownBlock] at hk, fun k hk => ?_⟩, h2⟩
 rw [List.mem_singleton] at hk
 subst hk
 exact ⟨Nat.le_refl _, h1.lt⟩
end
theorem RefP.down {n n' : Nat} {w : World} {b : Nat} {M : RS} {F : List Nat} (h : RefP n w b M F) (hn : n' ≤ n) : RefP n' w b M F := by
 obtain ⟨v, h1, h2, h3, h4⟩ := h
 exact ⟨v, ⟨h1.blk, h1.own.low hn, Nat.le_trans hn h1.low⟩, h2, h3, fun k hk => ⟨Nat.le_trans hn (h4 k hk).1, (h4 k hk).2⟩⟩
structure Tw (w₀ x : World) (b r : Nat) (M M' : RS) (R : List Nat) : Prop where
 ex : ∃ F G, ProgAt w₀.heap.size x b M F ∧ RefP w₀.heap.size x r M' G ∧ (∀ k ∈ F, k ∉ G) ∧ ∀ k ∈ R, k < x.heap.size ∧ k ∉ F ∧ k ∉ G
 low : Bel w₀ x
 good : M.ok
 good' : M'.ok
def KeepR (R : List Nat) (x y : World) : Prop := ∀ k ∈ R, y.heap[k]? = x.heap[k]?
theorem KeepR.trans {R : List Nat} {x y z : World} (h : KeepR R x y) (k : KeepR R y z) : KeepR R x z := fun i hi => (k i hi).trans (h i hi)
theorem KeepR.refl (R : List Nat) (x : World) : KeepR R x x := fun _ _ => rfl
theorem KeepR.cell {R : List Nat} {x y : World} (h : KeepR R x y) {p : Addr} {v : Value} (hp : p.block ∈ R) (hc : x.cell? p = some v) : y.cell? p = some v :=
 (World.cell?_of_block (h _ hp)).trans hc
theorem KeepR.frozen {R : List Nat} {x y : World} (h : KeepR R x y) {p : Addr} (hp : p.block ∈ R) : y.frozen? p = x.frozen? p := World.frozen?_of_block (h _ hp)
section
variable {w₀ x y : World} {b r : Nat} {M M' M1 : RS} {R : List Nat}
theorem Tw.bel (h : Tw w₀ x b r M M' R) (hb : Bel x y) : Tw w₀ y b r M M' R := by
 obtain ⟨⟨F, G, h1, h2, h3, h4⟩, h5, h6, h7⟩ := h
 exact ⟨⟨F, G, h1.bel hb, h2.bel hb, h3, fun k hk => ⟨Nat.lt_of_lt_of_le (h4 k hk).1 hb.size, (h4 k hk).2⟩⟩, h5.trans hb, h6, h7⟩
theorem Tw.keepR (h : Tw w₀ x b r M M' R) (hb : Bel x y) : KeepR R x y := by
 obtain ⟨⟨F, G, h1, h2, h3, h4⟩, h5, h6, h7⟩ := h
 exact fun k hk => Below.block hb k (h4 k hk).1
theorem Tw.guard (h : Tw w₀ x b r M M' R) {k : Nat} (hk : k < x.heap.size) (hf : ∀ F G, ProgAt w₀.heap.size x b M F → RefP w₀.heap.size x r M' G → (∀ k ∈ R, k < x.heap.size ∧ k ∉ F ∧ k ∉ G) → k ∉ F ∧ k ∉ G) : Tw w₀ x b r M M' (k :: R) := by
 obtain ⟨⟨F, G, h1, h2, h3, h4⟩, h5, h6, h7⟩ := h
 refine ⟨⟨F, G, h1, h2, h3, fun j hj => ?_⟩, h5, h6, h7⟩
 rcases List.mem_cons.1 hj with rfl | hj
 ·exact ⟨hk, hf F G h1 h2 h4⟩
 ·exact h4 j hj
theorem Tw.alloc (h : Tw w₀ x b r M M' R) (o : Obj) : Tw w₀ (x.alloc o) b r M M' (x.heap.size :: R) := by
 have hb := (Bel.refl x).alloc o
 obtain ⟨⟨F, G, h1, h2, h3, h4⟩, h5, h6, h7⟩ := h
 refine ⟨⟨F, G, h1.bel hb, h2.bel hb, h3, fun j hj => ?_⟩, h5.trans hb, h6, h7⟩
 rcases List.mem_cons.1 hj with rfl | hj
 ·refine ⟨by simp, fun hm => ?_, fun hm => ?_⟩
  ·have := (h1.within _ hm).2; omega
  ·obtain ⟨v, -, -, -, g4⟩ := h2
   have := (g4 _ hm).2; omega
 ·exact ⟨Nat.lt_of_lt_of_le (h4 j hj).1 hb.size, (h4 j hj).2⟩
theorem Tw.less (h : Tw w₀ x b r M M' R) {R' : List Nat} (hR : ∀ k ∈ R', k ∈ R) : Tw w₀ x b r M M' R' := by
 obtain ⟨⟨F, G, h1, h2, h3, h4⟩, h5, h6, h7⟩ := h
 exact ⟨⟨F, G, h1, h2, h3, fun k hk => h4 k (hR k hk)⟩, h5, h6, h7⟩
theorem tw_prog (hB : Bel w₀ x) (hM' : M'.ok) {F G : List Nat} (h1 : ProgAt w₀.heap.size x b M F) (h2 : RefP w₀.heap.size x r M' G) (h3 : ∀ k ∈ F, k ∉ G) (h4 : ∀ k ∈ R, k < x.heap.size ∧ k ∉ F ∧ k ∉ G)
  (hT : ProgTo w₀.heap.size x y b M1 F) (hM1 : M1.ok) : Tw w₀ y b r M1 M' R ∧ KeepR R x y := by
 obtain ⟨F', k1, k2, k3⟩ := hT
 have hGlt : ∀ k ∈ G, k < x.heap.size := by
  obtain ⟨v, -, -, -, g4⟩ := h2
  exact fun k hk => (g4 k hk).2
 refine ⟨⟨⟨F', G, k1, h2.keep k2 (fun k hk hm => h3 k hm hk), fun k hk hm => ?_, fun k hk => ⟨Nat.lt_of_lt_of_le (h4 k hk).1 k2.size, fun hm => ?_, (h4 k hk).2.2⟩⟩, ((Keep.of_bel hB F).trans k2 (fun x hx => Or.inl hx)).bel (fun k hk => (h1.within k hk).1), hM1, hM'⟩, fun k hk => k2.block k (h4 k hk).1 (h4 k hk).2.1⟩
 ·rcases k3 k hk with h | h
  ·exact h3 k h hm
  ·have := hGlt k hm; omega
 ·rcases k3 k hm with h | h
  ·exact (h4 k hk).2.1 h
  ·have := (h4 k hk).1; omega
theorem tw_ref (hB : Bel w₀ x) (hM : M.ok) {F G : List Nat} (h1 : ProgAt w₀.heap.size x b M F) (h2 : RefP w₀.heap.size x r M' G) (h3 : ∀ k ∈ F, k ∉ G) (h4 : ∀ k ∈ R, k < x.heap.size ∧ k ∉ F ∧ k ∉ G)
  (hT : RefTo w₀.heap.size x y r M1 G) (hM1 : M1.ok) : Tw w₀ y b r M M1 R ∧ KeepR R x y := by
 obtain ⟨G', k1, k2, k3⟩ := hT
 have hGin : ∀ k ∈ G, w₀.heap.size ≤ k := by
  obtain ⟨v, -, -, -, g4⟩ := h2
  exact fun k hk => (g4 k hk).1
 refine ⟨⟨⟨F, G', h1.keep k2 h3, k1, fun k hk hm => ?_, fun k hk => ⟨Nat.lt_of_lt_of_le (h4 k hk).1 k2.size, (h4 k hk).2.1, fun hm => ?_⟩⟩, ((Keep.of_bel hB G).trans k2 (fun x hx => Or.inl hx)).bel hGin, hM, hM1⟩, fun k hk => k2.block k (h4 k hk).1 (h4 k hk).2.2⟩
 ·rcases k3 k hm with h | h
  ·exact h3 k hk h
  ·have := (h1.within k hk).2; omega
 ·rcases k3 k hm with h | h
  ·exact (h4 k hk).2.2 h
  ·have := (h4 k hk).1; omega
theorem Tw.prog (h : Tw w₀ x b r M M' R) {z : World} (hz : Bel x z) {fn : FuncId} {args : Array Value} {A : Ending → Prop} (hM1 : M1.ok)
  (hc : ∀ F, ProgAt w₀.heap.size z b M F → Calls Tryz.prog fn args z fun e y => A e ∧ ProgTo w₀.heap.size z y b M1 F) :
  Calls Tryz.prog fn args z fun e y => A e ∧ Tw w₀ y b r M1 M' R ∧ KeepR R x y := by
 have hkr := h.keepR hz
 obtain ⟨⟨F, G, h1, h2, h3, h4⟩, h5, h6, h7⟩ := h.bel hz
 refine (hc F h1).mono ?_
 rintro e y ⟨ha, hT⟩
 have := tw_prog h5 h7 h1 h2 h3 h4 hT hM1
 exact ⟨ha, this.1, hkr.trans this.2⟩
theorem Tw.ref (h : Tw w₀ x b r M M' R) {z : World} (hz : Bel x z) {fn : FuncId} {args : Array Value} {A : Ending → Prop} (hM1 : M1.ok)
  (hc : ∀ G, RefP w₀.heap.size z r M' G → Calls Tryz.prog fn args z fun e y => A e ∧ RefTo w₀.heap.size z y r M1 G) :
  Calls Tryz.prog fn args z fun e y => A e ∧ Tw w₀ y b r M M1 R ∧ KeepR R x y := by
 have hkr := h.keepR hz
 obtain ⟨⟨F, G, h1, h2, h3, h4⟩, h5, h6, h7⟩ := h.bel hz
 refine (hc G h2).mono ?_
 rintro e y ⟨ha, hT⟩
 have := tw_ref h5 h6 h1 h2 h3 h4 hT hM1
 exact ⟨ha, this.1, hkr.trans this.2⟩
end

section
variable {w₀ x : World} {b r : Nat} {M M' : RS} {R : List Nat}
theorem tw_begin {w w1 w2 : World} (room : Int) (hr : 0 ≤ room ∧ room ≤ 10000000) (hB : Bel w w1) {b r : Nat} (hb : b = w1.heap.size) (h1 : ProgAt w1.heap.size w2 b (newS room) [b])
  (hB2 : Bel w1 w2) {w3 : World} (hrr : r = w2.heap.size) (h2 : RefP w2.heap.size w3 r (newS room) [r]) (hB3 : Bel w2 w3) : Tw w w3 b r (newS room) (newS room) [] := by
 refine ⟨⟨[b], [r], prog_low (h1.bel hB3) hB.size, h2.down (Nat.le_trans hB.size hB2.size), ?_, fun k hk => by cases hk⟩, hB.trans (hB2.trans hB3), new_ok room hr, new_ok room hr⟩
 intro k hk hm
 rw [List.mem_singleton] at hk hm
 have := (h1.within b (by simp)).2
 omega
end
end Go.Proofs.YtfbiinnenlgkfaaGreatDoor
