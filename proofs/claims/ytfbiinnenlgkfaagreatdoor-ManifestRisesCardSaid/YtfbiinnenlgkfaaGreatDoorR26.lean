/- JRead, JAll, NRef2, NRef3, laid together. -/
import Derived.Test.YtfbiinnenlgkfaaGreatDoorR25
import Derived.Test.YtfbiinnenlgkfaaGreatDoorR5
import Derived.Test.YtfbiinnenlgkfaaGreatDoorR21
import Derived.Test.YtfbiinnenlgkfaaGreatDoorR9
import Derived.Deep.RegionHeld
import Derived.Test.YtfbiinnenlgkfaaGreatDoorR2
import Derived.Test.YtfbiinnenlgkfaaGreatDoorR6
set_option linter.unusedSimpArgs false
set_option linter.unusedVariables false
namespace Go.Proofs.YtfbiinnenlgkfaaGreatDoor
open Go.RowKit Go.Deep Go.Maps

def Qb (w x : World) (F : List Nat) (k : Nat) : Prop := w.heap.size ≤ k ∧ k < x.heap.size ∧ k ∉ F
structure OwnQ (w x : World) (F : List Nat) (v : Value) (L : List (List (List UInt8))) : Prop where
 own : OwnL 0 (Qb w x F) w.heap.size x v L
 blk : ∀ k, v.ownBlock = some k → Qb w x F k
theorem OwnQ.nil (w x : World) (F : List Nat) : OwnQ w x F (.slice none 0 0) [] := ⟨OwnL.nil _ _ _ _, fun k hk => by cases hk⟩
theorem Qb.bel {w x y : World} {F : List Nat} {k : Nat} (h : Qb w x F k) (hb : Bel x y) : Qb w y F k := ⟨h.1, Nat.lt_of_lt_of_le h.2.1 hb.size, h.2.2⟩
theorem OwnQ.bel {w x y : World} {F : List Nat} {v : Value} {L : List (List (List UInt8))} (h : OwnQ w x F v L) (hb : Bel x y) : OwnQ w y F v L :=
 ⟨(h.own.bel hb).mono (fun k hk => hk.bel hb) (Nat.le_refl _), fun k hk => (h.blk k hk).bel hb⟩
theorem OwnQ.step {w x y : World} {F G : List Nat} {v : Value} {L : List (List (List UInt8))} (h : OwnQ w x F v L) (hk : Keep F x y) (hG : ∀ k ∈ G, k ∈ F ∨ x.heap.size ≤ k) : OwnQ w y G v L := by
 have hq : ∀ k, Qb w x F k → y.heap[k]? = x.heap[k]? := fun k h => hk.block k h.2.1 h.2.2
 have hm : ∀ k, Qb w x F k → Qb w y G k := fun k h => ⟨h.1, Nat.lt_of_lt_of_le h.2.1 hk.size, fun hm => by
  rcases hG k hm with h1 | h1
  ·exact h.2.2 h1
  ·have := h.2.1; omega⟩
 exact ⟨(h.own.keep hq (fun k hk' => hq k (h.blk k hk'))).mono hm (Nat.le_refl _), fun k hk' => hm k (h.blk k hk')⟩
theorem OwnQ.lower {w w' x : World} {F : List Nat} {v : Value} {L : List (List (List UInt8))} (h : OwnQ w x F v L) (hw : w'.heap.size ≤ w.heap.size) : OwnQ w' x F v L :=
 ⟨(h.own.low hw).mono (fun k hk => ⟨Nat.le_trans hw hk.1, hk.2⟩) (Nat.le_refl _), fun k hk => ⟨Nat.le_trans hw (h.blk k hk).1, (h.blk k hk).2⟩⟩
theorem OwnL.bound {n : Nat} {P : Nat → Prop} {B : Nat} {x : World} {v : Value} {L : List (List (List UInt8))} (h : OwnL n P B x v L) : OwnL n (fun k => P k ∧ k < x.heap.size) B x v L := by
 obtain ⟨H, h1, h2, h3⟩ := h.ex
 refine ⟨H, h1, h2, fun i s l hs hl => ?_⟩
 obtain ⟨q1, q2⟩ := h3 i s l hs hl
 exact ⟨⟨q1.len, q1.at_, fun hne a ha => ⟨q1.blk hne a ha, strs_lt q1.at_ hne a ha⟩⟩, q2⟩
theorem OwnL.ownlt {n : Nat} {P : Nat → Prop} {B : Nat} {x : World} {v : Value} {L : List (List (List UInt8))} (h : OwnL n P B x v L) : ∀ k, v.ownBlock = some k → B ≤ k ∧ k < x.heap.size := by
 obtain ⟨H, h1, h2, h3⟩ := h.ex
 exact h1.lt
theorem OwnQ.of {x y : World} {F : List Nat} {v : Value} {L : List (List (List UInt8))} (h : OwnL 0 (fun k => x.heap.size ≤ k) x.heap.size y v L) (hF : ∀ k ∈ F, k < x.heap.size) : OwnQ x y F v L :=
 ⟨h.bound.mono (fun k hk => ⟨hk.1, hk.2, fun hm => by have := hF k hm; omega⟩) (Nat.le_refl _), fun k hk => by
  have := h.ownlt k hk
  exact ⟨this.1, this.2, fun hm => by have := hF k hm; omega⟩⟩
theorem prog_lt {n : Nat} {x : World} {b : Nat} {M : RS} {F : List Nat} (h : ProgAt n x b M F) : ∀ k ∈ F, k < x.heap.size := fun k hk => (h.within k hk).2
theorem read_lt : ∀ (n : Nat) (s : List UInt8), s.length ≤ n → (readL s).2.2 ≠ 0 → (readL s).2.1 < s.length
 | n, s, hn, he => by
  by_cases hs : s = []
  ·subst hs; exact absurd rfl he
  obtain ⟨l, r, e, hF⟩ : ∃ l r e, firstL s = (l, r, e) := ⟨_, _, _, rfl⟩
  by_cases h0 : e = 0
  ·subst h0
   obtain ⟨t, -, -, hlt⟩ := first_rest hF
   rw [read_next hF] at he ⊢
   cases n with
   | zero => omega
   | succ n =>
    have := read_lt n r (by omega) he
    simp only; omega
  ·rw [read_end hs hF h0]
   exact List.length_pos_iff.2 hs
def RdPost (n₀ : Nat) (w : World) (b : Nat) (F : List Nat) (M' : RS) (L : List (List (List UInt8))) (err : Int) (e : Ending) (y : World) : Prop :=
 ∃ v F', e = .returned (.tuple #[v, .int .i64 err]) ∧ ProgAt n₀ y b M' F' ∧ Keep F w y ∧ (∀ k ∈ F', k ∈ F ∨ w.heap.size ≤ k) ∧ OwnQ w y F' v L
def wholeS (s : List UInt8) : List (List (List UInt8)) × Int := if (readL s).2.2 = 0 then ((readL s).1, 0) else ([], (readL s).2.2)

set_option maxHeartbeats 4000000 in
theorem whole_any (n₀ : Nat) (w : World) (b : Nat) (M : RS) (F : List Nat) (nm : ByteArray) (y : FI) (h : ProgAt n₀ w b M F) (hM : M.ok) (hg : M.gone = false) (hnm : nm.size ≤ 1000) (hy : getF nm.data.toList M.L = some y) (hsz : y.bytes.length ≤ 1000000) :
  Calls Tryz.prog 124 #[.pointer (some ⟨b, 0, none⟩), .string nm] w (RdPost n₀ w b F M (wholeS y.bytes).1 (wholeS y.bytes).2) := by
 have HP := Lib.hid h
 have HFL := Lib.hid (prog_lt h)
 have HGS := Lib.hid (show getS nm.data.toList M = (y.bytes, 0) by unfold getS; rw [hg, hy]; rfl)
 have hbz := str_len y.bytes
 have HBL := Lib.hid (str_list y.bytes)
 obtain ⟨L, k, e, hR⟩ : ∃ L k e, readL y.bytes = (L, k, e) := ⟨_, _, _, rfl⟩
 have HR := Lib.hid hR
 have HW := Lib.hid (show wholeS y.bytes = if e = 0 then (L, 0) else ([], e) by unfold wholeS; rw [hR])
 clear h hy hR hM
 go_enter Tryz.func124, Tryz.ntmps124
 go_wp2_with (fail)
 refine (pget_any n₀ w b M F nm HP.out (by unfold maxLen; omega)).mono ?_
 rintro e' w1 ⟨rfl, hb1⟩
 rw [HGS.out]
 have HB1 := Lib.hid hb1; clear hb1
 go_wp2_with (fail)
 refine (batches_any ⟨y.bytes.toArray⟩ _ (by omega)).mono ?_
 rintro e' w2 ⟨v, rfl, hown, hb2⟩
 rw [str_list, HR.out] at hown ⊢
 have HB2 := Lib.hid (HB1.out.trans hb2)
 have HO := Lib.hid ((OwnQ.of hown (F := F) (fun k hk => Nat.lt_of_lt_of_le (HFL.out k hk) HB1.out.size)).lower HB1.out.size)
 clear hown hb2
 by_cases he : e = 0
 ·subst he
  rw [if_pos rfl] at HW
  go_wp2_with (fail)
  go_ret2
  rw [HW.out]
  exact ⟨_, F, rfl, HP.out.bel HB2.out, Keep.of_bel HB2.out F, fun k hk => Or.inl hk, HO.out⟩
 ·rw [if_neg he] at HW
  have hx3 : (e != 0) = true := by rw [bne_iff_ne]; exact he
  have hx2 : (e == 0) = false := by rw [beq_eq_false_iff_ne]; exact he
  go_wp2_with (fail)
  go_ret2
  rw [HW.out]
  exact ⟨_, F, rfl, HP.out.bel HB2.out, Keep.of_bel HB2.out F, fun k hk => Or.inl hk, OwnQ.nil _ _ _⟩
def mendedS (nm : List UInt8) (s : List UInt8) (M : RS) : List (List (List UInt8)) × Int × RS :=
 if (readL s).2.2 = 0 then ((readL s).1, 0, M) else if (mendS nm ((readL s).2.1 : Nat) M).1 = 0 then ((readL s).1, 0, (mendS nm ((readL s).2.1 : Nat) M).2) else ([], (mendS nm ((readL s).2.1 : Nat) M).1, (mendS nm ((readL s).2.1 : Nat) M).2)
set_option maxHeartbeats 4000000 in
theorem mended_any (n₀ : Nat) (w : World) (b : Nat) (M : RS) (F : List Nat) (nm : ByteArray) (y : FI) (h : ProgAt n₀ w b M F) (hM : M.ok) (hg : M.gone = false) (hnm : nm.size ≤ 1000) (hy : getF nm.data.toList M.L = some y) (hsz : y.bytes.length ≤ 1000000) :
  Calls Tryz.prog 125 #[.pointer (some ⟨b, 0, none⟩), .string nm] w (RdPost n₀ w b F (mendedS nm.data.toList y.bytes M).2.2 (mendedS nm.data.toList y.bytes M).1 (mendedS nm.data.toList y.bytes M).2.1) := by
 have HP := Lib.hid h
 have HM := Lib.hid hM
 have HFL := Lib.hid (prog_lt h)
 have HGS := Lib.hid (show getS nm.data.toList M = (y.bytes, 0) by unfold getS; rw [hg, hy]; rfl)
 have hbz := str_len y.bytes
 have HBL := Lib.hid (str_list y.bytes)
 obtain ⟨L, k, e, hR⟩ : ∃ L k e, readL y.bytes = (L, k, e) := ⟨_, _, _, rfl⟩
 have HR := Lib.hid hR
 have HW := Lib.hid (show mendedS nm.data.toList y.bytes M = if e = 0 then (L, 0, M) else if (mendS nm.data.toList k M).1 = 0 then (L, 0, (mendS nm.data.toList k M).2) else ([], (mendS nm.data.toList k M).1, (mendS nm.data.toList k M).2) by unfold mendedS; rw [hR])
 have hsize := read_size y.bytes.length y.bytes (Nat.le_refl _)
 have hlt := read_lt y.bytes.length y.bytes (Nat.le_refl _)
 rw [hR] at hsize hlt
 simp only at hsize hlt
 clear h hy hR hM
 go_enter Tryz.func125, Tryz.ntmps125
 go_wp2_with (fail)
 refine (pget_any n₀ w b M F nm HP.out (by unfold maxLen; omega)).mono ?_
 rintro e' w1 ⟨rfl, hb1⟩
 rw [HGS.out]
 have HB1 := Lib.hid hb1; clear hb1
 go_wp2_with (fail)
 refine (batches_any ⟨y.bytes.toArray⟩ _ (by omega)).mono ?_
 rintro e' w2 ⟨v, rfl, hown, hb2⟩
 rw [str_list, HR.out] at hown ⊢
 have HB2 := Lib.hid (HB1.out.trans hb2)
 have HO := Lib.hid ((OwnQ.of hown (F := F) (fun k hk => Nat.lt_of_lt_of_le (HFL.out k hk) HB1.out.size)).lower HB1.out.size)
 clear hown hb2
 by_cases he : e = 0
 ·subst he
  rw [if_pos rfl] at HW
  have hk : k = y.bytes.length := hsize.2.2.1 rfl
  subst hk
  clear hsize hlt
  go_wp2_with (fail)
  go_ret2
  rw [HW.out]
  exact ⟨_, F, rfl, HP.out.bel HB2.out, Keep.of_bel HB2.out F, fun k hk => Or.inl hk, HO.out⟩
 ·rw [if_neg he] at HW
  have hkl := hlt he
  have hne : ((k : Int) == (y.bytes.length : Int)) = false := by rw [beq_eq_false_iff_ne]; omega
  clear hsize hlt
  have HKZ := Lib.hid (show in64 (k : Int) from ⟨by omega, by omega⟩)
  obtain ⟨M1, r1, hc⟩ : ∃ M1 r1, cutS nm.data.toList (k : Int) M = (r1, M1) := ⟨_, _, rfl⟩
  have HC := Lib.hid hc
  have HM1 := Lib.hid (show M1.ok by have := cut_ok HM.out nm.data.toList (k : Int); rwa [hc] at this)
  clear hc
  go_wp2_with (fail)
  refine (pcut_any n₀ w2 b M F nm k HKZ.out (fun z hz => (each_ok HM.out z hz).1) (HP.out.bel HB2.out) (by unfold maxLen; omega) HM.out.srt (good_len HM.out)).mono ?_
  rintro e' w3 ⟨rfl, hT3⟩
  rw [HC.out] at hT3 ⊢
  obtain ⟨F3, hP3, hK3, hF3⟩ := hT3
  have HP3 := Lib.hid hP3
  have HK3 := Lib.hid hK3
  have HF3 := Lib.hid hF3
  have HO3 := Lib.hid (HO.out.step hK3 hF3)
  clear hP3 hK3 hF3
  by_cases h1 : r1 = 0
  ·subst h1
   obtain ⟨M2, r2, hf⟩ : ∃ M2 r2, flushS nm.data.toList M1 = (r2, M2) := ⟨_, _, rfl⟩
   have HFl := Lib.hid hf
   have HMD := Lib.hid (show mendS nm.data.toList (k : Int) M = (r2, M2) by unfold mendS; rw [HC.out, if_neg (by simp)]; exact hf)
   rw [HMD.out] at HW
   clear hf
   go_wp2_with (fail)
   refine (pflush_any n₀ w3 b M1 F3 nm HP3.out (by unfold maxLen; omega) HM1.out.srt (good_len HM1.out)).mono ?_
   rintro e' w4 ⟨rfl, hT4⟩
   rw [HFl.out] at hT4 ⊢
   obtain ⟨F4, hP4, hK4, hF4⟩ := hT4
   have HP4 := Lib.hid hP4
   have HO4 := Lib.hid (HO3.out.step hK4 hF4)
   have HK4 := Lib.hid (show Keep F w w4 from ((Keep.of_bel HB2.out F).trans HK3.out (fun x hx => Or.inl hx)).trans hK4 (fun x hx => (HF3.out x hx).imp id (fun h => Nat.le_trans HB2.out.size h)))
   have HF4 := Lib.hid (show ∀ k ∈ F4, k ∈ F ∨ w.heap.size ≤ k from fun x hx => by
    rcases hF4 x hx with h | h
    ·exact (HF3.out x h).imp id (fun h => Nat.le_trans HB2.out.size h)
    ·exact Or.inr (Nat.le_trans HB2.out.size (Nat.le_trans HK3.out.size h)))
   clear hP4 hK4 hF4
   by_cases h2 : r2 = 0
   ·subst h2
    rw [if_pos rfl] at HW
    go_wp2_with (fail)
    go_ret2
    rw [HW.out]
    exact ⟨_, F4, rfl, HP4.out, HK4.out, HF4.out, HO4.out⟩
   ·rw [if_neg h2] at HW
    have hx3 : (r2 != 0) = true := by rw [bne_iff_ne]; exact h2
    have hx2 : (r2 == 0) = false := by rw [beq_eq_false_iff_ne]; exact h2
    go_wp2_with (fail)
    go_ret2
    rw [HW.out]
    exact ⟨_, F4, rfl, HP4.out, HK4.out, HF4.out, OwnQ.nil _ _ _⟩
  ·have HMD := Lib.hid (show mendS nm.data.toList (k : Int) M = (r1, M1) by unfold mendS; rw [HC.out, if_pos h1])
   rw [HMD.out] at HW
   rw [if_neg h1] at HW
   have hx3 : (r1 != 0) = true := by rw [bne_iff_ne]; exact h1
   have hx2 : (r1 == 0) = false := by rw [beq_eq_false_iff_ne]; exact h1
   go_wp2_with (fail)
   go_ret2
   rw [HW.out]
   exact ⟨_, F3, rfl, HP3.out, (Keep.of_bel HB2.out F).trans HK3.out (fun x hx => Or.inl hx), fun x hx => (HF3.out x hx).imp id (fun h => Nat.le_trans HB2.out.size h), OwnQ.nil _ _ _⟩

def segEl : El (List UInt8 × Nat) := ⟨185, 165, 2, fun x => [.string ⟨x.1.toArray⟩, .func (.func x.2) #[] #[]]⟩
theorem segOk : ElOk segEl 24 := ⟨fun _ => rfl, fun a u hu => by simp [segEl] at hu; rcases hu with rfl | rfl <;> rfl, by kernel_rfl, ⟨.agg #[.string ⟨#[]⟩, .nilFunc], by kernel_rfl, rfl⟩, by decide⟩
def rdFn (n k : Nat) : Nat := if k + 1 = n then 125 else 124
def segF (l : List (List UInt8)) : List (List UInt8 × Nat) := l.mapIdx fun k x => (x, rdFn l.length k)
theorem segF_len (l : List (List UInt8)) : (segF l).length = l.length := by unfold segF; rw [List.length_mapIdx]
theorem segF_get (l : List (List UInt8)) (k : Nat) (h : k < l.length) : (segF l)[k]? = some (l[k], rdFn l.length k) := by
 unfold segF; rw [List.getElem?_mapIdx, List.getElem?_eq_getElem h]; rfl
theorem segF_snoc (l : List (List UInt8)) (k : Nat) (h : k < l.length) : (segF l).take (k + 1) = (segF l).take k ++ [(l[k], rdFn l.length k)] := by
 rw [List.take_add_one, segF_get l k h]; rfl

set_option maxHeartbeats 4000000 in
theorem segof_any (w : World) (p : Option Addr) (cap : Nat) (L : List (List UInt8)) (h : StrsAt w p L) (hL : L.length ≤ 60) :
  Calls Tryz.prog 95 #[.slice p L.length cap] w fun e w' => ∃ v, e = .returned v ∧ OwnG segEl w.heap.size w' v (segF L) ∧ Bel w w' := by
 have H := Lib.hid h; clear h
 go_enter Tryz.func95, Tryz.ntmps95
 go_wp2_with (fail)
 go_loopw [3, 9] (fun lv iv x => ∃ k : Nat, iv = .int .i64 k ∧ k ≤ L.length ∧ OwnG segEl w.heap.size x lv ((segF L).take k) ∧ Bel w x) (fun _ iv _ => L.length - (intOf iv).toNat)
 case atStart => exact ⟨0, rfl, Nat.zero_le _, OwnG.nil _ _ _, Bel.refl _⟩
 case round =>
  obtain ⟨k, rfl, hk, hown, hb⟩ := hrel
  have hkl : ((segF L).take k).length = k := by rw [List.length_take, segF_len]; omega
  obtain ⟨lp, lc, hlv⟩ := ownG_len hown
  rw [hkl] at hlv
  subst hlv
  have HB := Lib.hid hb
  have HO := Lib.hid hown
  clear hown hb
  by_cases hlt : k < L.length
  ·obtain ⟨a, rfl, hc⟩ := (H.out.bel HB.out) k hlt
   have HSN := Lib.hid (segF_snoc L k hlt)
   obtain ⟨nm, hnm⟩ : ∃ nm, nm = L[k] := ⟨_, rfl⟩
   rw [← hnm] at hc HSN
   clear hnm
   by_cases hl : k + 1 = L.length
   ·have hl2 : ((k : Int) == (L.length : Int) - 1) = true := by rw [beq_iff_eq]; omega
    have hrd : rdFn L.length k = 125 := by unfold rdFn; rw [if_pos hl]
    rw [hrd] at HSN
    clear hl
    go_wp2_with (at_builtin; refine stop_here ?_)
    refine go_on ?_
    refine append_glit (L := (segF L).take k) segOk rfl _ _ rfl rfl HO.out _ _ _ [(nm, 125)] rfl rfl rfl (by unfold maxLen; simp only [List.length_singleton]; omega) (by simp only [List.length_singleton]; omega) HB.out.size (Or.inl rfl) ?_
    intro v3 w3 hown3 hb3 hZ3
    obtain ⟨p3, c3, hv3⟩ := ownG_len hown3
    rw [List.length_append, hkl, List.length_singleton] at hv3
    subst hv3
    have HV3 := Lib.hid hown3
    have HB3 := Lib.hid (HB.out.trans_below hb3)
    clear hown3 hb3
    go_wp2_with (fail)
    go_roundw
    case rel => exact ⟨k + 1, by go_num, by omega, by rw [HSN.out]; exact HV3.out, HB3.out⟩
    case measure => simp [intOf]; omega
   ·have hl2 : ((k : Int) == (L.length : Int) - 1) = false := by rw [beq_eq_false_iff_ne]; omega
    have hrd : rdFn L.length k = 124 := by unfold rdFn; rw [if_neg hl]
    rw [hrd] at HSN
    clear hl
    go_wp2_with (at_builtin; refine stop_here ?_)
    refine go_on ?_
    refine append_glit (L := (segF L).take k) segOk rfl _ _ rfl rfl HO.out _ _ _ [(nm, 124)] rfl rfl rfl (by unfold maxLen; simp only [List.length_singleton]; omega) (by simp only [List.length_singleton]; omega) HB.out.size (Or.inl rfl) ?_
    intro v3 w3 hown3 hb3 hZ3
    obtain ⟨p3, c3, hv3⟩ := ownG_len hown3
    rw [List.length_append, hkl, List.length_singleton] at hv3
    subst hv3
    have HV3 := Lib.hid hown3
    have HB3 := Lib.hid (HB.out.trans_below hb3)
    clear hown3 hb3
    go_wp2_with (fail)
    go_roundw
    case rel => exact ⟨k + 1, by go_num, by omega, by rw [HSN.out]; exact HV3.out, HB3.out⟩
    case measure => simp [intOf]; omega
  ·obtain rfl : k = L.length := by omega
   go_wp2_with (fail)
   go_ret
   have := HO.out
   rw [List.take_of_length_le (by rw [segF_len]; exact Nat.le_refl _)] at this
   exact ⟨_, rfl, this, HB.out⟩

theorem readSegs_lens (p : List UInt8) : ∀ (l : List Nat) (M : RS), (∀ y ∈ M.L, y.bytes.length ≤ 1000000) → (readSegs p l M).2.1.length ≤ 1000000 * l.length
 | [], M, h => by simp [readSegs]
 | n :: r, M, h => by
  have ih := readSegs_lens p r M h
  have h1 : (readL (bytesOf (fileN p n) M)).1.length ≤ 1000000 := by
   refine Nat.le_trans (read_size _ _ (Nat.le_refl _)).2.1 ?_
   unfold bytesOf
   cases hy : getF (fileN p n) M.L with
   | none => simp
   | some y => exact h y (getF_mem hy)
  simp only [readSegs]
  split
  ·split
   ·simp only [List.length_append, List.length_cons]; omega
   ·simp
  ·split
   ·simp
   ·split
    ·simp only [List.length_cons]; omega
    ·simp
def joinS (acc : List (List (List UInt8))) (r : Int × List (List (List UInt8)) × RS) : Int × List (List (List UInt8)) × RS := if r.1 = 0 then (0, acc ++ r.2.1, r.2.2) else (r.1, [], r.2.2)
theorem join_join (a b : List (List (List UInt8))) (r : Int × List (List (List UInt8)) × RS) : joinS a (joinS b r) = joinS (a ++ b) r := by
 unfold joinS
 by_cases h : r.1 = 0
 ·rw [if_pos h, if_pos h]; simp
 ·rw [if_neg h, if_neg h]; simp only; rw [if_neg h]
theorem join_zero (a b : List (List (List UInt8))) (M : RS) : joinS a (0, b, M) = (0, a ++ b, M) := rfl
theorem join_err (a b : List (List (List UInt8))) (M : RS) {e : Int} (he : e ≠ 0) : joinS a (e, b, M) = (e, [], M) := by unfold joinS; rw [if_neg he]
def LeftS (p : List UInt8) (l : List Nat) (M : RS) (k : Nat) (acc : List (List (List UInt8))) (Mk : RS) : Prop :=
 (k < l.length → Mk = M) ∧ readSegs p l M = joinS acc (readSegs p (l.drop k) Mk)
theorem read_err (p : List UInt8) (l : List Nat) (M : RS) (h : (readSegs p l M).1 ≠ 0) : (readSegs p l M).2.1 = [] := by
 cases l with
 | nil => exact absurd rfl h
 | cons n r =>
  revert h
  simp only [readSegs]
  split
  ·split
   ·intro h; exact absurd rfl h
   ·intro _; rfl
  ·split
   ·intro _; rfl
   ·split
    ·intro h; exact absurd rfl h
    ·intro _; rfl
theorem left_start (p : List UInt8) (l : List Nat) (M : RS) : LeftS p l M 0 [] M := by
 refine ⟨fun _ => rfl, ?_⟩
 rw [List.drop_zero]
 unfold joinS
 split
 ·rename_i h; rw [List.nil_append, ← h]
 ·rename_i h; rw [← read_err p l M h]
theorem run_store_fn (w : World) (a : Addr) (m : Mode) (f : Fn) (x y : Array Value) : (store a (.func f x y) m).run Tryz.prog w = stored Tryz.prog w a (.func f x y) m := run_store Tryz.prog w a _ m rfl
theorem ownq_append {w x : World} {F : List Nat} {v yv : Value} {L M : List (List (List UInt8))} {ops : Array Oper} {rest : List Oper} {o : Oper} {a : Act} {Q : Exit → Act → World → Prop} (hgd : o.guard = none) (s y : Operand)
  (ho : o.op = .call { callee := .builtin .append, args := #[s, y], argTypes := #[126, 126] }) (hs : a.eval s = v) (hy : a.eval y = yv) (hown : OwnQ w x F v L) (hown2 : OwnQ w x F yv M)
  (hl1 : L.length + M.length ≤ 1000000000) (hF : ∀ k ∈ F, k < x.heap.size) (hw : w.heap.size ≤ x.heap.size)
  (h : ∀ v' z, OwnQ w z F v' (L ++ M) → Keep v.ownBlock.toList x z → wpList Tryz.prog ops Q rest (a.put o.dst v') z) : wpList Tryz.prog ops Q (o :: rest) a x := by
 obtain ⟨H, h1, h2, h3⟩ := hown.own.ex
 obtain ⟨K, k1, k2, k3⟩ := hown2.own.ex
 refine append_src slOk hgd s y ho hs h1 K hy (own_src slOk k1) (by unfold maxLen; omega) (by omega) hw ?_
 intro v' z hz hb hkeep hwh
 have hz' : Below x.heap.size x z ∨ True := Or.inr trivial
 have hks : Keep v.ownBlock.toList x z := ⟨hb.os, hb.tape, hb.output, hb.size, fun k hk hn => hkeep k hk (fun e => hn (by rw [← e]; simp))⟩
 have hm : ∀ k, Qb w x F k → Qb w z F k := fun k hk => ⟨hk.1, Nat.lt_of_lt_of_le hk.2.1 hb.size, hk.2.2⟩
 refine h v' z ⟨OwnL.mono ⟨H ++ K, hz, by simp [h2, k2], els_app h2 (els_keep h1 (Nat.zero_le _) h3 hkeep) (els_keep h1 (Nat.zero_le _) k3 hkeep)⟩ hm (Nat.le_refl _), fun k hk => ?_⟩ hks
 have hlt := hz.lt k hk
 rcases hwh with e | e
 ·exact hm k (hown.blk k (by rw [← e, hk]))
 ·rw [hk, Option.some.injEq] at e
  subst e
  exact ⟨hw, hlt.2, fun hm => by have := hF _ hm; omega⟩
theorem left_next {p : List UInt8} {l : List Nat} {M : RS} {k : Nat} {acc : List (List (List UInt8))} (h : LeftS p l M k acc M) (hk : k < l.length) {L2 : List (List (List UInt8))} (hw : wholeS (bytesOf (fileN p l[k]) M) = (L2, 0)) : LeftS p l M (k + 1) (acc ++ L2) M := by
 refine ⟨fun _ => rfl, ?_⟩
 have hread : readSegs p (l.drop k) M = joinS L2 (readSegs p (l.drop (k + 1)) M) := by
  rw [List.drop_eq_getElem_cons hk]
  unfold wholeS at hw
  split at hw
  ·rename_i h0
   simp only [Prod.mk.injEq, and_true] at hw
   simp only [readSegs]
   rw [if_pos h0, hw]
   rfl
  ·rename_i h0
   simp only [Prod.mk.injEq] at hw
   exact absurd hw.2 h0
 rw [h.2, hread, join_join]
theorem left_fail {p : List UInt8} {l : List Nat} {M : RS} {k : Nat} {acc : List (List (List UInt8))} (h : LeftS p l M k acc M) (hk : k < l.length) (hne : k + 1 ≠ l.length) {L2 : List (List (List UInt8))} {e : Int} (he : e ≠ 0) (hw : wholeS (bytesOf (fileN p l[k]) M) = (L2, e)) : readSegs p l M = (e, [], M) := by
 have hread : readSegs p (l.drop k) M = (e, [], M) := by
  rw [List.drop_eq_getElem_cons hk]
  unfold wholeS at hw
  split at hw
  ·simp only [Prod.mk.injEq] at hw; exact absurd hw.2.symm he
  ·rename_i h0
   simp only [Prod.mk.injEq] at hw
   have hr : l.drop (k + 1) ≠ [] := by intro e; have := congrArg List.length e; rw [List.length_drop, List.length_nil] at this; omega
   simp only [readSegs]
   rw [if_neg h0, if_pos hr, hw.2]
 rw [h.2, hread, join_err _ _ _ he]
theorem left_last {p : List UInt8} {l : List Nat} {M : RS} {k : Nat} {acc : List (List (List UInt8))} (h : LeftS p l M k acc M) (hk : k < l.length) (hl : k + 1 = l.length) {L2 : List (List (List UInt8))} {e : Int} {M2 : RS} (hw : mendedS (fileN p l[k]) (bytesOf (fileN p l[k]) M) M = (L2, e, M2)) :
  (e = 0 → LeftS p l M (k + 1) (acc ++ L2) M2) ∧ (e ≠ 0 → readSegs p l M = (e, [], M2)) := by
 have hr : l.drop (k + 1) = [] := List.drop_eq_nil_of_le (by omega)
 have hread : readSegs p (l.drop k) M = (e, L2, M2) := by
  rw [List.drop_eq_getElem_cons hk, hr]
  unfold mendedS at hw
  simp only [readSegs]
  split at hw
  ·rename_i h0
   simp only [Prod.mk.injEq] at hw
   obtain ⟨rfl, rfl, rfl⟩ := hw
   rw [if_pos h0]; simp
  ·rename_i h0
   rw [if_neg h0]
   simp only [ne_eq, not_true_eq_false, if_false]
   split at hw
   ·rename_i h1
    simp only [Prod.mk.injEq] at hw
    obtain ⟨rfl, rfl, rfl⟩ := hw
    rw [if_pos h1]
   ·rename_i h1
    simp only [Prod.mk.injEq] at hw
    obtain ⟨rfl, rfl, rfl⟩ := hw
    rw [if_neg h1]
 refine ⟨fun he => ⟨fun hlt => absurd hlt (by omega), ?_⟩, fun he => ?_⟩
 ·subst he
  rw [h.2, hread, hr, join_zero]
  simp [readSegs, joinS]
 ·rw [h.2, hread, join_err _ _ _ he]
theorem left_end {p : List UInt8} {l : List Nat} {M Mk : RS} {acc : List (List (List UInt8))} (h : LeftS p l M l.length acc Mk) : readSegs p l M = (0, acc, Mk) := by
 rw [h.2, List.drop_length]; simp [readSegs, joinS]
theorem bytesOf_get {nm : List UInt8} {M : RS} {y : FI} (h : getF nm M.L = some y) : bytesOf nm M = y.bytes := by unfold bytesOf; rw [h]
theorem whole_len (s : List UInt8) (h : s.length ≤ 1000000) : (wholeS s).1.length ≤ 1000000 := by
 unfold wholeS
 split
 ·exact Nat.le_trans (read_size _ _ (Nat.le_refl _)).2.1 h
 ·simp
theorem mended_len (nm s : List UInt8) (M : RS) (h : s.length ≤ 1000000) : (mendedS nm s M).1.length ≤ 1000000 := by
 unfold mendedS
 split
 ·exact Nat.le_trans (read_size _ _ (Nat.le_refl _)).2.1 h
 ·split
  ·exact Nat.le_trans (read_size _ _ (Nat.le_refl _)).2.1 h
  ·simp
def RaRel (n₀ : Nat) (w : World) (b : Nat) (F : List Nat) (p : List UInt8) (l : List Nat) (M : RS) (sv : Value) (ov iv : Value) (x : World) : Prop :=
 ∃ (k : Nat) (acc : List (List (List UInt8))) (Mk : RS) (Fk : List Nat), iv = .int .i64 k ∧ k ≤ l.length ∧ ProgAt n₀ x b Mk Fk ∧ Keep F w x ∧ (∀ j ∈ Fk, j ∈ F ∨ w.heap.size ≤ j) ∧ OwnQ w x Fk ov acc ∧ LeftS p l M k acc Mk ∧ acc.length ≤ 1000000 * k ∧ OwnG segEl 0 x sv (segF (l.map (fileN p)))

set_option maxHeartbeats 4000000 in
theorem readall_any (n₀ : Nat) (w : World) (b : Nat) (M : RS) (F : List Nat) (p : List UInt8) (l : List Nat) (sv : Value) (h : ProgAt n₀ w b M F) (hM : M.ok) (hg : M.gone = false) (hp : p.length ≤ 100) (hl : ∀ n ∈ l, n ≤ 9999999 ∧ ∃ y, getF (fileN p n) M.L = some y) (hl60 : l.length ≤ 60) (hsz : ∀ y ∈ M.L, y.bytes.length ≤ 1000000)
  (hs : OwnG segEl 0 w sv (segF (l.map (fileN p)))) (hsF : ∀ k, sv.ownBlock = some k → k < w.heap.size ∧ k ∉ F) :
  Calls Tryz.prog 94 #[.pointer (some ⟨b, 0, none⟩), sv] w (RdPost n₀ w b F (readSegs p l M).2.2 (readSegs p l M).2.1 (readSegs p l M).1) := by
 have HP := Lib.hid h
 have HM := Lib.hid hM
 have HL := Lib.hid hl
 have HS := Lib.hid hs
 have HSZ := Lib.hid hsz
 have hsl : (segF (l.map (fileN p))).length = l.length := by rw [segF_len, List.length_map]
 obtain ⟨sp, sc, hsv⟩ := ownG_len hs
 rw [hsl] at hsv
 have HSF := Lib.hid hsF
 subst hsv
 clear h hM hl hs hsz hsF
 go_enter Tryz.func94, Tryz.ntmps94
 go_wp2_with (fail)
 go_loopw [6, 13] (fun ov iv x => RaRel n₀ w b F p l M (.slice sp l.length sc) ov iv x) (fun _ iv _ => l.length - (intOf iv).toNat)
 case atStart => exact ⟨0, [], M, F, rfl, Nat.zero_le _, HP.out, Keep.refl _ _, fun j hj => Or.inl hj, OwnQ.nil _ _ _, left_start _ _ _, by simp, HS.out⟩
 case round =>
  obtain ⟨k, acc, Mk, Fk, rfl, hk, hpk, hkeep, hfk, hoq, hleft, hal, hseg⟩ := hrel
  have HPK := Lib.hid hpk
  have HK := Lib.hid hkeep
  have HFK := Lib.hid hfk
  have HO := Lib.hid hoq
  have HLF := Lib.hid hleft
  have HSG := Lib.hid hseg
  have HFL := Lib.hid (prog_lt hpk)
  obtain ⟨op, oc, hov⟩ := hoq.own.len
  subst hov
  clear hpk hkeep hfk hoq hleft hseg
  by_cases hlt : k < l.length
  ·obtain rfl : Mk = M := HLF.out.1 hlt
   have hne : segF (l.map (fileN p)) ≠ [] := by intro e; rw [e] at hsl; simp at hsl; omega
   obtain ⟨g, sc', hv, _, hgl, _, hcs⟩ := ownG_cells segOk HSG.out hne
   rw [hsl] at hv
   simp only [Value.slice.injEq, true_and] at hv
   obtain ⟨rfl, rfl⟩ := hv
   have hget : (segF (l.map (fileN p)))[k]? = some (fileN p l[k], rdFn l.length k) := by
    have := segF_get (l.map (fileN p)) k (by rw [List.length_map]; exact hlt)
    simpa using this
   obtain ⟨hn9, y, hy⟩ := HL.out l[k] (List.getElem_mem hlt)
   have hfl := file_len p (n := l[k]) (by omega)
   have hyb := HSZ.out y (getF_mem hy)
   have HBY := Lib.hid (bytesOf_get hy)
   have hnz := str_len (fileN p l[k])
   have e0 := hcs k _ hget 0 _ rfl
   have e1 := hcs k _ hget 1 _ rfl
   simp only [segEl, Nat.add_zero] at e0 e1
   have HWH := Lib.hid (fun (z : World) (F' : List Nat) (h : ProgAt n₀ z b Mk F') => whole_any n₀ z b Mk F' (⟨(fileN p l[k]).toArray⟩ : ByteArray) y h HM.out hg (by omega) (by rw [str_list]; exact hy) hyb)
   have HMD := Lib.hid (fun (z : World) (F' : List Nat) (h : ProgAt n₀ z b Mk F') => mended_any n₀ z b Mk F' (⟨(fileN p l[k]).toArray⟩ : ByteArray) y h HM.out hg (by omega) (by rw [str_list]; exact hy) hyb)
   rw [str_list] at HMD
   have hgF : g < w.heap.size ∧ g ∉ F := HSF.out g rfl
   have hgk : g ∉ Fk := fun hm => by
    rcases HFK.out g hm with h | h
    ·exact hgF.2 h
    ·omega
   by_cases hlast : k + 1 = l.length
   ·have hrd : rdFn l.length k = 125 := by unfold rdFn; rw [if_pos hlast]
    rw [hrd] at e1
    obtain ⟨L2, er, M2, hw⟩ : ∃ L2 er M2, mendedS (fileN p l[k]) y.bytes Mk = (L2, er, M2) := ⟨_, _, _, rfl⟩
    have hwl := mended_len (fileN p l[k]) y.bytes Mk hyb
    rw [hw] at hwl
    have HW := Lib.hid (show mendedS (fileN p l[k]) (bytesOf (fileN p l[k]) Mk) Mk = (L2, er, M2) by rw [HBY.out]; exact hw)
    have HLL := Lib.hid (left_last HLF.out hlt hlast HW.out)
    simp only [hw] at HMD
    generalize fileN p l[k] = nm at e0 HMD hnz hfl
    clear hget hy hcs hne HWH hw hrd
    have hsf := run_store_fn
    go_wp2_with (fail)
    have HB1 := Lib.hid ((Bel.refl wr).alloc (.cells #[.string ⟨nm.toArray⟩, .func (.func 125) #[] #[]] 185))
    refine (HMD.out _ Fk (HPK.out.bel HB1.out)).mono ?_
    rintro e' w2 ⟨v2, F2, rfl, hp2, hk2, hf2, hq2⟩
    have HP2 := Lib.hid hp2
    have HK2 := Lib.hid ((Keep.of_bel HB1.out Fk).trans hk2 (fun x hx => Or.inl hx))
    have HF2 := Lib.hid (show ∀ j ∈ F2, j ∈ Fk ∨ wr.heap.size ≤ j from fun j hj => (hf2 j hj).imp id (fun h => Nat.le_trans HB1.out.size h))
    have HQ2 := Lib.hid (hq2.lower (w' := w) (Nat.le_trans HK.out.size HB1.out.size))
    have HA2 := Lib.hid (HO.out.step HK2.out HF2.out)
    have HFL2 := Lib.hid (prog_lt hp2)
    have HKW := Lib.hid (show Keep F w w2 from HK.out.trans HK2.out (fun x hx => HFK.out x hx))
    have HFW := Lib.hid (show ∀ j ∈ F2, j ∈ F ∨ w.heap.size ≤ j from fun j hj => by
     rcases HF2.out j hj with h | h
     ·exact HFK.out j h
     ·exact Or.inr (Nat.le_trans HK.out.size h))
    have HS2 := Lib.hid (HSG.out.keep HK2.out (fun j hj => by simp only [Value.ownBlock, Option.some.injEq] at hj; subst hj; exact hgk))
    clear hp2 hk2 hf2 hq2
    by_cases he : er = 0
    ·subst he
     have HLN := Lib.hid (HLL.out.1 rfl)
     go_wp2_with (at_builtin; refine stop_here ?_)
     refine go_on ?_
     refine ownq_append rfl _ _ rfl rfl rfl HA2.out HQ2.out (by omega) HFL2.out HKW.out.size ?_
     intro v3 z3 hq3 hk3
     obtain ⟨p3, c3, hv3⟩ := hq3.own.len
     rw [List.length_append] at hv3
     subst hv3
     have HQ3 := Lib.hid hq3
     have HP3 := Lib.hid (HP2.out.keep hk3 (fun j hj hm => by
      rw [Option.mem_toList] at hm
      exact (HA2.out.blk j hm).2.2 hj))
     have HK3 := Lib.hid (HKW.out.trans hk3 (fun j hj => by
      rw [Option.mem_toList] at hj
      exact Or.inr (HA2.out.blk j hj).1))
     have HS3 := Lib.hid (HS2.out.keep hk3 (fun j hj hm => by
      simp only [Value.ownBlock, Option.some.injEq] at hj; subst hj
      rw [Option.mem_toList] at hm
      have := (HA2.out.blk _ hm).1
      omega))
     clear hq3 hk3
     go_wp2_with (fail)
     go_roundw
     case rel => exact ⟨k + 1, acc ++ L2, M2, F2, by go_num, by omega, HP3.out, HK3.out, HFW.out, HQ3.out, HLN.out, by rw [List.length_append]; omega, HS3.out⟩
     case measure => simp [intOf]; omega
    ·have HE := Lib.hid (HLL.out.2 he)
     have hx3 : (er != 0) = true := by rw [bne_iff_ne]; exact he
     have hx2 : (er == 0) = false := by rw [beq_eq_false_iff_ne]; exact he
     go_wp2_with (fail)
     go_ret2
     rw [HE.out]
     exact ⟨_, F2, rfl, HP2.out, HKW.out, HFW.out, OwnQ.nil _ _ _⟩
   ·have hrd : rdFn l.length k = 124 := by unfold rdFn; rw [if_neg hlast]
    rw [hrd] at e1
    obtain ⟨L2, er, hw⟩ : ∃ L2 er, wholeS y.bytes = (L2, er) := ⟨_, _, rfl⟩
    have hwl := whole_len y.bytes hyb
    rw [hw] at hwl
    have HW := Lib.hid (show wholeS (bytesOf (fileN p l[k]) Mk) = (L2, er) by rw [HBY.out]; exact hw)
    simp only [hw] at HWH
    have HLN0 := Lib.hid (fun (h : er = 0) => left_next HLF.out hlt (by rw [HW.out, h]))
    have HLF0 := Lib.hid (fun (h : er ≠ 0) => left_fail HLF.out hlt hlast h HW.out)
    generalize fileN p l[k] = nm at e0 HWH hnz hfl
    clear hget hy hcs hne HMD hw hrd
    have hsf := run_store_fn
    go_wp2_with (fail)
    have HB1 := Lib.hid ((Bel.refl wr).alloc (.cells #[.string ⟨nm.toArray⟩, .func (.func 124) #[] #[]] 185))
    refine (HWH.out _ Fk (HPK.out.bel HB1.out)).mono ?_
    rintro e' w2 ⟨v2, F2, rfl, hp2, hk2, hf2, hq2⟩
    have HP2 := Lib.hid hp2
    have HK2 := Lib.hid ((Keep.of_bel HB1.out Fk).trans hk2 (fun x hx => Or.inl hx))
    have HF2 := Lib.hid (show ∀ j ∈ F2, j ∈ Fk ∨ wr.heap.size ≤ j from fun j hj => (hf2 j hj).imp id (fun h => Nat.le_trans HB1.out.size h))
    have HQ2 := Lib.hid (hq2.lower (w' := w) (Nat.le_trans HK.out.size HB1.out.size))
    have HA2 := Lib.hid (HO.out.step HK2.out HF2.out)
    have HFL2 := Lib.hid (prog_lt hp2)
    have HKW := Lib.hid (show Keep F w w2 from HK.out.trans HK2.out (fun x hx => HFK.out x hx))
    have HFW := Lib.hid (show ∀ j ∈ F2, j ∈ F ∨ w.heap.size ≤ j from fun j hj => by
     rcases HF2.out j hj with h | h
     ·exact HFK.out j h
     ·exact Or.inr (Nat.le_trans HK.out.size h))
    have HS2 := Lib.hid (HSG.out.keep HK2.out (fun j hj => by simp only [Value.ownBlock, Option.some.injEq] at hj; subst hj; exact hgk))
    clear hp2 hk2 hf2 hq2
    by_cases he : er = 0
    ·subst he
     have HLN := Lib.hid (HLN0.out rfl)
     go_wp2_with (at_builtin; refine stop_here ?_)
     refine go_on ?_
     refine ownq_append rfl _ _ rfl rfl rfl HA2.out HQ2.out (by omega) HFL2.out HKW.out.size ?_
     intro v3 z3 hq3 hk3
     obtain ⟨p3, c3, hv3⟩ := hq3.own.len
     rw [List.length_append] at hv3
     subst hv3
     have HQ3 := Lib.hid hq3
     have HP3 := Lib.hid (HP2.out.keep hk3 (fun j hj hm => by
      rw [Option.mem_toList] at hm
      exact (HA2.out.blk j hm).2.2 hj))
     have HK3 := Lib.hid (HKW.out.trans hk3 (fun j hj => by
      rw [Option.mem_toList] at hj
      exact Or.inr (HA2.out.blk j hj).1))
     have HS3 := Lib.hid (HS2.out.keep hk3 (fun j hj hm => by
      simp only [Value.ownBlock, Option.some.injEq] at hj; subst hj
      rw [Option.mem_toList] at hm
      have := (HA2.out.blk _ hm).1
      omega))
     clear hq3 hk3
     go_wp2_with (fail)
     go_roundw
     case rel => exact ⟨k + 1, acc ++ L2, Mk, F2, by go_num, by omega, HP3.out, HK3.out, HFW.out, HQ3.out, HLN.out, by rw [List.length_append]; omega, HS3.out⟩
     case measure => simp [intOf]; omega
    ·have HE := Lib.hid (HLF0.out he)
     have hx3 : (er != 0) = true := by rw [bne_iff_ne]; exact he
     have hx2 : (er == 0) = false := by rw [beq_eq_false_iff_ne]; exact he
     go_wp2_with (fail)
     go_ret2
     rw [HE.out]
     exact ⟨_, F2, rfl, HP2.out, HKW.out, HFW.out, OwnQ.nil _ _ _⟩
  ·obtain rfl : k = l.length := by omega
   have HE := Lib.hid (left_end HLF.out)
   go_wp2_with (fail)
   go_ret2
   rw [HE.out]
   exact ⟨_, Fk, rfl, HPK.out, HK.out, HFK.out, HO.out⟩
end Go.Proofs.YtfbiinnenlgkfaaGreatDoor
set_option maxRecDepth 100000
namespace Go.Proofs.YtfbiinnenlgkfaaGreatDoor
open Go.RowKit Go.Deep

def intEl13 : El Int := ⟨3, 52, 1, fun i => [.int .i64 i]⟩
theorem intOk13 : ElOk intEl13 8 := ⟨fun _ => rfl, fun a u hu => by simp [intEl13] at hu; subst hu; rfl, by kernel_rfl, ⟨.int .i64 0, by kernel_rfl, rfl⟩, by decide⟩
theorem src_at13 {α : Type} {E : El α} {W : World} {B c m : Nat} {arr : Array Value} {T : TypeId} (news : List α) (h : W.heap[B]? = some (.cells arr T (0, 0))) (harr : arr.toList = E.all news) (hm : m = news.length) : SrcAt E W (.slice (some ⟨B, 0, none⟩) m c) news := by
 subst hm
 refine Or.inr ⟨_, c, rfl, fun j u hj => ?_⟩
 have e : (⟨B, 0, none⟩ : Addr).add j = ⟨B, j, none⟩ := by cases j <;> simp [Addr.add]
 rw [e]
 rw [← harr] at hj
 simp [World.cell?, h]
 simpa using hj
theorem ints_own13 {B : Nat} {w : World} {v : Value} {l : List Int} (h : OwnG intEl13 B w v l) {i : Nat} (hi : i < l.length) : ∃ g cap, v = .slice (some ⟨g, 0, none⟩) l.length cap ∧ w.cell? ⟨g, i, none⟩ = some (.int .i64 l[i]) := by
 obtain ⟨g, cap, hv, _, _, _, hc⟩ := ownG_cells intOk13 h (by intro e; rw [e] at hi; simp at hi)
 refine ⟨g, cap, hv, ?_⟩
 have := hc i l[i] (List.getElem?_eq_getElem hi) 0 _ rfl
 rw [show i * intEl13.n + 0 = i from by show i * 1 + 0 = i; omega] at this
 exact this
theorem pairs_take {l : List PL} {i : Nat} (hi : i < l.length) : pairsL (l.take (i + 1)) = pairsL (l.take i) ++ [l[i].n, l[i].l] := by
 rw [List.take_add_one, List.getElem?_eq_getElem hi, pairsL, List.flatMap_append]; rfl
theorem puts_take {l : List Int} {i : Nat} (hi : i < l.length) : putsL (l.take (i + 1)) = putsL (l.take i) ++ putL l[i].toNat := by
 rw [List.take_add_one, List.getElem?_eq_getElem hi, putsL_append]
 simp [putsL]
def packV (s : MS) : Value := if rightM s = true then .tuple #[.string ⟨(encM s).toArray⟩, .int .i64 0] else .tuple #[.string ⟨#[]⟩, .int .i64 1]
theorem pack_yes {s : MS} (h : rightM s = true) : packV s = .tuple #[.string ⟨(encM s).toArray⟩, .int .i64 0] := if_pos h
theorem pack_no {s : MS} (h : rightM s = false) : packV s = .tuple #[.string ⟨#[]⟩, .int .i64 1] := if_neg (by rw [h]; simp)
set_option maxHeartbeats 4000000 in
theorem rpack13_any (p : Option Addr) (c : Nat) (s : MS) (w : World) (h : PlsAt w p s.files) (hl : s.files.length ≤ 100000) (hz : s.mt.size ≤ 100000000) :
  Calls Tryz.prog 12 #[.agg #[.slice p s.files.length c, .int .i64 s.next, .int .i64 s.seq, .int .i64 s.log, .string s.mt]] w fun r w' => r = .returned (packV s) ∧ Bel w w' := by
 obtain ⟨w1, hw1⟩ : ∃ z, z = w.alloc (.cells #[.slice p s.files.length c, .int .i64 s.next, .int .i64 s.seq, .int .i64 s.log, .string s.mt] 28) := ⟨_, rfl⟩
 have hB1 : Bel w w1 := by rw [hw1]; exact (Bel.refl w).alloc _
 have kx : w1.heap[w.heap.size]? = some (.cells #[.slice p s.files.length c, .int .i64 s.next, .int .i64 s.seq, .int .i64 s.log, .string s.mt] 28 (0, 0)) := by rw [hw1]; exact tnew13 w _ _
 have x0 : w1.cell? ⟨w.heap.size, 0, none⟩ = some (.slice p s.files.length c) := by simp [World.cell?, kx]
 have x1 : w1.cell? ⟨w.heap.size, 1, none⟩ = some (.int .i64 s.next) := by simp [World.cell?, kx]
 have x2 : w1.cell? ⟨w.heap.size, 2, none⟩ = some (.int .i64 s.seq) := by simp [World.cell?, kx]
 have x3 : w1.cell? ⟨w.heap.size, 3, none⟩ = some (.int .i64 s.log) := by simp [World.cell?, kx]
 have x4 : w1.cell? ⟨w.heap.size, 4, none⟩ = some (.string s.mt) := by simp [World.cell?, kx]
 have H := Lib.hid (h.bel hB1)
 have HB1 := Lib.hid hB1
 have HX := Lib.hid (And.intro x0 (And.intro x1 (And.intro x2 (And.intro x3 x4))))
 have HR := Lib.hid (rright13_any p c s w1 (h.bel hB1) hl hz)
 clear h hB1 kx
 go_enter Tryz.func12, Tryz.ntmps12
 go_wp2_with (fail)
 rw [show (w.alloc (.cells #[.slice p s.files.length c, .int .i64 s.next, .int .i64 s.seq, .int .i64 s.log, .string s.mt] 28)) = w1 from hw1.symm]
 clear hw1
 refine HR.out.mono ?_
 rintro r w2 ⟨rfl, hb2⟩
 have HB2 := Lib.hid (HB1.out.trans hb2)
 have H2 := Lib.hid (H.out.bel hb2)
 have y0 := cl13 hb2 x0
 have y1 := cl13 hb2 x1
 have y2 := cl13 hb2 x2
 have y3 := cl13 hb2 x3
 have y4 := cl13 hb2 x4
 clear hb2 x0 x1 x2 x3 x4 HX H HR
 cases hr : rightM s with
 | false =>
  have HV := Lib.hid (pack_no hr)
  clear hr
  go_wp2_with (fail)
  go_ret2
  exact ⟨by rw [HV.out]; rfl, HB2.out⟩
 | true =>
  have HV := Lib.hid (pack_yes hr)
  have HNI := Lib.hid (nums_in hr)
  have h40 := (right_parts hr).2.1
  clear hr
  go_wp2_with (fail)
  obtain ⟨w3, hw3⟩ : ∃ z, z = w2.alloc (.cells #[.int .i64 s.next, .int .i64 s.seq, .int .i64 s.log, .int .i64 (s.files.length : Int)] 3) := ⟨_, rfl⟩
  rw [← hw3]
  have hb3 : Bel w2 w3 := by rw [hw3]; exact (Bel.refl w2).alloc _
  have HO3 := Lib.hid (show OwnG intEl13 w2.heap.size w3 (.slice (some ⟨w2.heap.size, 0, none⟩) 4 4) [s.next, s.seq, s.log, (s.files.length : Int)] by rw [hw3]; exact ownG_new intOk13 _ w2 _ _ rfl (Nat.le_refl _) (by simp only [List.length_cons, List.length_nil]; unfold maxLen; omega))
  have HB3 := Lib.hid hb3
  have HXX := Lib.hid (And.intro (cl13 hb3 y0) (cl13 hb3 y4))
  have H3 := Lib.hid (H2.out.bel hb3)
  have HS3 := Lib.hid (show w2.heap.size < w3.heap.size by rw [hw3]; simp)
  have HXB := Lib.hid (show w.heap.size < w2.heap.size from World.block_lt_of_cell? _ _ y0)
  clear hw3 hb3 y1 y2 y3
  go_loopw [5, 6] (fun nv iv x => ∃ i : Nat, i ≤ s.files.length ∧ iv = .int .i64 i ∧ OwnG intEl13 w2.heap.size x nv (s.next :: s.seq :: s.log :: (s.files.length : Int) :: pairsL (s.files.take i)) ∧ Bel w2 x) (fun _ iv _ => s.files.length - (intOf iv).toNat)
  case atStart => exact ⟨0, Nat.zero_le _, rfl, HO3.out, HB3.out⟩
  case round =>
   obtain ⟨i, hi, rfl, hown, hw⟩ := hrel
   have HW := Lib.hid hw
   have HOWN := Lib.hid hown
   obtain ⟨np, nc, rfl⟩ := ownG_len hown
   have z0 := cl13 hw y0
   have z4 := cl13 hw y4
   clear hown
   by_cases hil : i < s.files.length
   ·obtain ⟨a, B, O, sp, rfl, ha, r0, r1⟩ := H2.out i hil
    have hii : (i : Int) < (s.files.length : Int) := by omega
    have HPT := Lib.hid (pairs_take hil)
    have hpl : (pairsL (s.files.take i)).length = 2 * i := by rw [pairsL_len, List.length_take]; omega
    have HLN := Lib.hid hpl
    generalize s.files[i].n = pn at *
    generalize s.files[i].l = pl at *
    have q0 := cl13 hw r0
    have q1 := cl13 hw r1
    have HQ := Lib.hid (And.intro r0 r1)
    clear r0 r1
    obtain ⟨N0, hN0⟩ : ∃ N0, N0 = s.next :: s.seq :: s.log :: (s.files.length : Int) :: pairsL (s.files.take i) := ⟨_, rfl⟩
    have hN0l : N0.length = 2 * i + 4 := by rw [hN0]; simp only [List.length_cons]; omega
    have HN0 := Lib.hid hN0
    rw [← hN0] at HOWN
    rw [← hN0]
    clear hw hpl hN0
    have HN0L := Lib.hid hN0l
    clear hN0l
    go_wp2_with (fail)
    refine wp_region_held_drew (S := fun z => z.cell? ⟨w.heap.size, 0, none⟩ = some (.slice (some a) s.files.length c) ∧ z.cell? ⟨B, O, sp⟩ = some (.int .i64 pn) ∧ z.cell? ⟨B, O + 1, none⟩ = some (.int .i64 pl)) (by kernel_rfl) ⟨z0, q0, q1⟩ (fun hHeld => ?_)
    refine tq ⟨some 30, .move (.tmp 5), 52, "ref.go:50", #[], none⟩ ?_ 0 rfl ?_ ?_;rotate_left;·(intros;go_simp<;>with_reducible rfl)
    try simp only[Act.put,sqA,sqB,sqC]
    refine tq ⟨some 31, .fieldAddr 28 (.tmp 1) 0, 0, "ref.go:50", #[], none⟩ ?_ 1 rfl ?_ ?_;rotate_left;·(intros;go_simp<;>with_reducible rfl)
    try simp only[Act.put,sqA,sqB,sqC]
    refine tq ⟨some 32, .load 26 (.tmp 31), 26, "ref.go:50", #[⟨1, .data⟩], none⟩ ?_ 2 rfl ?_ ?_;rotate_left;·(intros;go_simp<;>with_reducible rfl)
    try simp only[Act.put,sqA,sqB,sqC]
    refine tq ⟨some 33, .move (.tmp 6), 3, "ref.go:50", #[], none⟩ ?_ 3 rfl ?_ ?_;rotate_left;·(intros;go_simp<;>with_reducible rfl)
    try simp only[Act.put,sqA,sqB,sqC]
    refine tq ⟨some 34, .indexAddr 26 (.tmp 32) (.tmp 33), 0, "ref.go:50", #[⟨2, .data⟩, ⟨3, .data⟩], none⟩ ?_ 4 rfl ?_ ?_;rotate_left;·(intros;go_simp<;>with_reducible rfl)
    try simp only[Act.put,sqA,sqB,sqC]
    refine tq ⟨some 35, .fieldAddr 96 (.tmp 34) 0, 0, "ref.go:50", #[⟨4, .data⟩], none⟩ ?_ 5 rfl ?_ ?_;rotate_left;·(intros;go_simp<;>with_reducible rfl)
    try simp only[Act.put,sqA,sqB,sqC]
    refine tq ⟨some 36, .load 3 (.tmp 35), 3, "ref.go:50", #[⟨5, .data⟩], none⟩ ?_ 6 rfl ?_ ?_;rotate_left;·(intros;go_simp<;>with_reducible rfl)
    try simp only[Act.put,sqA,sqB,sqC]
    refine tq ⟨some 37, .fieldAddr 28 (.tmp 1) 0, 0, "ref.go:50", #[], none⟩ ?_ 7 rfl ?_ ?_;rotate_left;·(intros;go_simp<;>with_reducible rfl)
    try simp only[Act.put,sqA,sqB,sqC]
    refine tq ⟨some 38, .load 26 (.tmp 37), 26, "ref.go:50", #[⟨7, .data⟩], none⟩ ?_ 8 rfl ?_ ?_;rotate_left;·(intros;go_simp<;>with_reducible rfl)
    try simp only[Act.put,sqA,sqB,sqC]
    refine tq ⟨some 39, .move (.tmp 6), 3, "ref.go:50", #[], none⟩ ?_ 9 rfl ?_ ?_;rotate_left;·(intros;go_simp<;>with_reducible rfl)
    try simp only[Act.put,sqA,sqB,sqC]
    refine tq ⟨some 40, .indexAddr 26 (.tmp 38) (.tmp 39), 0, "ref.go:50", #[⟨8, .data⟩, ⟨9, .data⟩], none⟩ ?_ 10 rfl ?_ ?_;rotate_left;·(intros;go_simp<;>with_reducible rfl)
    try simp only[Act.put,sqA,sqB,sqC]
    refine tq ⟨some 41, .fieldAddr 96 (.tmp 40) 1, 0, "ref.go:50", #[⟨10, .data⟩], none⟩ ?_ 11 rfl ?_ ?_;rotate_left;·(intros;go_simp<;>with_reducible rfl)
    try simp only[Act.put,sqA,sqB,sqC]
    refine tq ⟨some 42, .load 3 (.tmp 41), 3, "ref.go:50", #[⟨11, .data⟩], none⟩ ?_ 12 rfl ?_ ?_;rotate_left;·(intros;go_simp<;>with_reducible rfl)
    try simp only[Act.put,sqA,sqB,sqC]
    refine wpAnyH_ready (rs := [13]) (by kernel_rfl) (by simp) ?_
    refine ar1 ⟨some 43, .buildSlice 52 2 #[(0, .tmp 36), (1, .tmp 42)], 52, "ref.go:50", #[⟨6, .data⟩, ⟨12, .data⟩], none⟩ rfl (fun K hK => ?_)
    go_simp
    obtain ⟨YL, hYLe⟩ : ∃ n, n = wr.heap.size := ⟨_, rfl⟩
    obtain ⟨x3, hx3⟩ : ∃ x, x = (wr.alloc (.cells #[.int .i64 pn, .int .i64 pl] 3)).drew := ⟨_, rfl⟩
    have HLL := Lib.hid (show x3.heap[YL]? = some (.cells #[.int .i64 pn, .int .i64 pl] 3) by rw [hx3, hYLe]; exact heap_alloc_new wr _)
    have hbl : Bel wr x3 := by rw [hx3]; exact ((Bel.refl wr).alloc _).drew
    refine hK.out _ _ (by rw [← hx3]; exact ⟨cl13 hbl z0, cl13 hbl q0, cl13 hbl q1⟩) (fun hHeld => ?_);clear hK K;try simp only[Act.put,sqA,sqB,sqC]
    rw [← hx3, ← hYLe]
    have HB4 := Lib.hid (HW.out.trans hbl)
    have HOX := Lib.hid (HOWN.out.bel hbl)
    have HZ4 := Lib.hid (cl13 hbl z4)
    have d0 := cl13 hbl z0
    have d1 := cl13 hbl q0
    have d2 := cl13 hbl q1
    clear hx3 hYLe hbl z0 z4 q0 q1 hHeld
    refine wpAnyH_ready (rs := [14]) (by kernel_rfl) (by simp) ?_
    refine ar1 ⟨some 44, .call ⟨.builtin .append, #[.tmp 30, .tmp 43], #[52, 52]⟩, 52, "ref.go:50", #[⟨0, .data⟩, ⟨13, .data⟩], none⟩ rfl (fun K hK => ?_)
    refine step_append_seg intOk13 rfl (.tmp 30) (.tmp 43) rfl rfl HOX.out [pn, pl] rfl (src_at13 [pn, pl] HLL.out rfl rfl) (by have := HN0L.out; simp only [List.length_cons, List.length_nil]; unfold maxLen; omega) (by have := HN0L.out; simp only [List.length_cons, List.length_nil]; omega) (HB4.out.size) ?_
    intro v8 w8 ho8 hk8 hv8
    have HBW := Lib.hid (show Bel w2 w8 from (show Below w2.heap.size w2 w8 from Below.trans HB4.out hv8))
    have HO8 := Lib.hid ho8
    obtain ⟨p8, cap8, rfl⟩ := ownG_len ho8
    clear ho8 hk8 hv8
    refine hK.out _ _ ⟨cl13 HBW.out y0, cl13 HBW.out HQ.out.1, cl13 HBW.out HQ.out.2⟩ (fun hHeld => ?_);clear hK K;try simp only[Act.put,sqA,sqB,sqC]
    refine tq ⟨some 5, .assign (.tmp 44), 52, "ref.go:50", #[⟨14, .data⟩, ⟨14, .chain⟩, ⟨0, .phase⟩, ⟨1, .phase⟩, ⟨2, .phase⟩, ⟨3, .phase⟩, ⟨4, .phase⟩, ⟨5, .phase⟩, ⟨6, .phase⟩, ⟨7, .phase⟩, ⟨8, .phase⟩, ⟨9, .phase⟩, ⟨10, .phase⟩, ⟨11, .phase⟩, ⟨12, .phase⟩, ⟨13, .phase⟩, ⟨14, .phase⟩], none⟩ ?_ 15 rfl ?_ ?_;rotate_left;·(intros;go_simp<;>with_reducible rfl)
    try simp only[Act.put,sqA,sqB,sqC]
    refine wpAnyH_done (by kernel_rfl) ?_ _
    clear hHeld d0 d1 d2
    go_wp2_with (fail)
    go_roundw
    case rel =>
     have e : N0 ++ [pn, pl] = s.next :: s.seq :: s.log :: (s.files.length : Int) :: pairsL (s.files.take (i + 1)) := by rw [HN0.out, HPT.out]; rfl
     exact ⟨i + 1, hil, by go_num, by rw [← e]; have h := HO8.out; rw [List.length_append] at h; exact h, HBW.out⟩
    case measure => simp [intOf]; omega
   ·obtain rfl : i = s.files.length := by omega
    have hii : ¬ (s.files.length : Int) < (s.files.length : Int) := by omega
    have HN0 := Lib.hid (show s.next :: s.seq :: s.log :: (s.files.length : Int) :: pairsL (s.files.take s.files.length) = numsM s by rw [List.take_length]; rfl)
    have hnl : (s.next :: s.seq :: s.log :: (s.files.length : Int) :: pairsL (s.files.take s.files.length)).length = 4 + 2 * s.files.length := by rw [List.take_length]; simp only [List.length_cons, pairsL_len]; omega
    rw [HN0.out] at HOWN hnl
    rw [HN0.out]
    obtain ⟨N, hN⟩ : ∃ N, N = numsM s := ⟨_, rfl⟩
    have HN := Lib.hid hN
    rw [← hN] at HOWN HNI hnl
    rw [← hN]
    have HNL := Lib.hid hnl
    clear hw hnl hN HN0
    have hnl2 : N.length ≤ 84 := by have := HNL.out; omega
    go_wp2_with (fail)
    go_loopw [7, 8] (fun tv iv x => ∃ (k : Nat) (S : ByteArray), k ≤ N.length ∧ iv = .int .i64 k ∧ tv = .string S ∧ S.data.toList = putsL (N.take k) ∧ S.size ≤ 9 * k ∧ Bel wr x) (fun _ iv _ => N.length - (intOf iv).toNat)
    case atStart => exact ⟨0, ⟨#[]⟩, Nat.zero_le _, rfl, rfl, rfl, Nat.le_refl 0, Bel.refl wr⟩
    case round =>
     obtain ⟨k, S, hk, rfl, rfl, hS, hSz, hb⟩ := hrel
     have HS := Lib.hid hS
     have HB := Lib.hid hb
     have z4b := cl13 hb z4
     clear hS hb
     by_cases hkl : k < N.length
     ·obtain ⟨g, ncap, hv, hcell⟩ := ints_own13 (HOWN.out.bel HB.out) hkl
      simp only [Value.slice.injEq, true_and] at hv
      obtain ⟨rfl, rfl⟩ := hv
      have hNk := HNI.out N[k] (List.getElem_mem hkl)
      have HPT := Lib.hid (puts_take hkl)
      have hkk : (k : Int) < (N.length : Int) := by omega
      generalize N[k] = n at *
      obtain ⟨m, rfl⟩ : ∃ m : Nat, n = (m : Int) := ⟨n.toNat, by omega⟩
      have hwr : IntKind.u64.wrap (m : Int) = (m : Int) := by rw [wrap_u64]; omega
      rw [Int.toNat_natCast] at HPT
      have hpl := putL_len m
      have hz9 := szN_le m
      have hpz := str_len (putL m)
      rw [hpl] at hpz
      go_wp2_with (fail)
      refine (rput_any m _ (by omega)).mono ?_
      rintro e w5 ⟨rfl, hb5⟩
      have HB5 := Lib.hid (HB.out.trans hb5); clear hb5
      go_wp2_with (fail)
      go_roundw
      case rel => exact ⟨k + 1, S ++ ⟨(putL m).toArray⟩, hkl, by go_num, rfl, by rw [HPT.out]; simp [HS.out], by rw [ByteArray.size_append, hpz]; omega, HB5.out⟩
      case measure => simp [intOf]; omega
     ·obtain rfl : k = N.length := by omega
      have hkk : ¬ (N.length : Int) < (N.length : Int) := by omega
      have HV2 := Lib.hid (show Value.tuple #[.string (S ++ s.mt), .int .i64 0] = packV s by
       rw [HV.out]
       have h1 := HS.out
       rw [List.take_length, HN.out] at h1
       have : (S ++ s.mt) = ⟨(encM s).toArray⟩ := by
        apply ByteArray.ext
        apply Array.ext'
        simp [encM, h1]
       rw [this])
      go_wp2_with (fail)
      go_ret2
      exact ⟨by rw [← HV2.out]; rfl, HB2.out.trans (HW.out.trans HB.out)⟩
set_option maxRecDepth 100000

def plElR : El PL := ⟨96, 26, 2, fun p => [.int .i64 p.n, .int .i64 p.l]⟩
theorem plOkR : ElOk plElR 16 := ⟨fun _ => rfl, fun a u hu => by simp [plElR] at hu; rcases hu with rfl | rfl <;> rfl, by kernel_rfl, ⟨.agg #[.int .i64 0, .int .i64 0], by kernel_rfl, rfl⟩, by decide⟩
theorem pls_ownR {B : Nat} {w : World} {p : Option Addr} {n c : Nat} {l : List PL} (h : OwnG plElR B w (.slice p n c) l) : PlsAt w p l := fun i hi => by
 obtain ⟨g, cap, hv, _, _, _, hc⟩ := ownG_cells plOkR h (by intro e; rw [e] at hi; simp at hi)
 simp only [Value.slice.injEq] at hv
 refine ⟨⟨g, 0, none⟩, g, i * 2, none, hv.1, by cases i <;> simp [Addr.add], ?_, ?_⟩
 ·exact hc i l[i] (List.getElem?_eq_getElem hi) 0 _ rfl
 ·exact hc i l[i] (List.getElem?_eq_getElem hi) 1 _ rfl
set_option maxHeartbeats 8000000 in
theorem runpack13_any (s : ByteArray) (w : World) (hs : s.size ≤ 1000000) :
  Calls Tryz.prog 14 #[.string s] w fun e y => ∃ p c, e = .returned (.tuple #[.agg #[.slice p (unpSt s.data.toList).files.length c, .int .i64 (unpSt s.data.toList).next, .int .i64 (unpSt s.data.toList).seq, .int .i64 (unpSt s.data.toList).log, .string (unpSt s.data.toList).mt], .int .i64 (unpEr s.data.toList)]) ∧
   OwnG plElR w.heap.size y (.slice p (unpSt s.data.toList).files.length c) (unpSt s.data.toList).files ∧ Bel w y := by
 obtain ⟨t, ht⟩ : ∃ t, t = s.data.toList := ⟨_, rfl⟩
 rw [← ht]
 have HT := Lib.hid ht
 have hss : t.length = s.size := by rw [ht]; rfl
 have HSS := Lib.hid hss
 clear ht hss
 have HNO := Lib.hid (show unpackM t = none → unpSt t = zeroM ∧ unpEr t = 8 from unp_none)
 go_enter Tryz.func14, Tryz.ntmps14
 go_wp2_with (fail)
 have HA0 := Lib.hid (show readA t = none → unpackM t = none from fun h => by unfold unpackM; rw [readM_A, h]; rfl)
 obtain ⟨w1, hw1⟩ : ∃ z, z = w.alloc (.cells #[.slice none 0 0, .int .i64 0, .int .i64 0, .int .i64 0, .string ⟨#[]⟩] 28) := ⟨_, rfl⟩
 rw [← hw1]
 have HB1 := Lib.hid (show Bel w w1 by rw [hw1]; exact (Bel.refl w).alloc _)
 have HRK := Lib.hid (show w1.heap[w.heap.size]? = some (.cells #[.slice none 0 0, .int .i64 0, .int .i64 0, .int .i64 0, .string ⟨#[]⟩] 28 (0, 0)) by rw [hw1]; exact tnew13 w _ _)
 have HS1 := Lib.hid (show w.heap.size < w1.heap.size by rw [hw1]; simp)
 clear hw1
 go_loopw [4, 5, 6, 7] (fun nv sv mv iv x => ∃ (i many : Nat) (N : List Int) (R : ByteArray), iv = .int .i64 i ∧ mv = .int .i64 many ∧ sv = .string R ∧ RdInv t i many N R.data.toList ∧ R.size ≤ t.length ∧ OwnG intEl13 w1.heap.size x nv N ∧ Bel w1 x) (fun _ _ mv iv _ => 100 - (intOf iv).toNat)
 case atStart => exact ⟨0, 4, [], s, rfl, rfl, rfl, by rw [← HT.out]; exact rd_start t, by rw [HSS.out]; exact Nat.le_refl _, OwnG.nil _ _ _, Bel.refl w1⟩
 case round =>
  obtain ⟨i, many, N, R, rfl, rfl, rfl, hinv, hRz, hown, hw⟩ := hrel
  have HI := Lib.hid hinv
  have hm84 := hinv.bounds
  have HW := Lib.hid hw
  have HO := Lib.hid hown
  have HNL := Lib.hid hinv.1
  obtain ⟨np, nc, rfl⟩ := ownG_len hown
  have hts := HSS.out
  clear hinv hw hown
  by_cases him : i < many
  ·have hii : (i : Int) < (many : Int) := by omega
   obtain ⟨v, l', ok, hT⟩ : ∃ v l' ok, takeL R.data.toList = (v, l', ok) := ⟨_, _, _, rfl⟩
   have HTK := Lib.hid (show takeV R.data.toList = .tuple #[.int .u64 (v : Nat), .string ⟨l'.toArray⟩, .bool ok] by unfold takeV; rw [hT])
   have HF := Lib.hid (fun (hc : ¬ (ok = true ∧ v ≤ 1099511627776)) => HNO.out (HA0.out (rd_fail HI.out him (by rw [hT]; exact hc))))
   have HSTEP := Lib.hid (fun (hc : ok = true ∧ v ≤ 1099511627776) => (by have := rd_step HI.out him (by rw [hT]; exact hc); rw [hT] at this; exact this : RdInv t (i + 1) (if i = 3 then 4 + 2 * min v 40 else many) (N ++ [(v : Int)]) l'))
   have HRL := Lib.hid (show l'.length ≤ R.size by have := take_rest R.data.toList; rw [hT] at this; exact this)
   have hv64 : v < 18446744073709551616 := by have := take_lt R.data.toList; rw [hT] at this; exact this
   clear hT
   go_wp2_with (fail)
   refine (rtake_any R _ (by omega)).mono ?_
   rintro e w2 ⟨rfl, hb2⟩
   rw [HTK.out]
   have HW2 := Lib.hid (HW.out.trans hb2)
   have HO2 := Lib.hid (HO.out.bel hb2)
   have hk := (Below.block HW2.out w.heap.size HS1.out).trans HRK.out
   have r0 : w2.cell? ⟨w.heap.size, 0, none⟩ = some (.slice none 0 0) := by simp [World.cell?, hk]
   have r1 : w2.cell? ⟨w.heap.size, 1, none⟩ = some (.int .i64 0) := by simp [World.cell?, hk]
   have r2 : w2.cell? ⟨w.heap.size, 2, none⟩ = some (.int .i64 0) := by simp [World.cell?, hk]
   have r3 : w2.cell? ⟨w.heap.size, 3, none⟩ = some (.int .i64 0) := by simp [World.cell?, hk]
   have r4 : w2.cell? ⟨w.heap.size, 4, none⟩ = some (.string ⟨#[]⟩) := by simp [World.cell?, hk]
   have f0 : w2.frozen? ⟨w.heap.size, 0, none⟩ = false := by simp [World.frozen?, hk]
   have f1 : w2.frozen? ⟨w.heap.size, 1, none⟩ = false := by simp [World.frozen?, hk]
   have f2 : w2.frozen? ⟨w.heap.size, 2, none⟩ = false := by simp [World.frozen?, hk]
   have f3 : w2.frozen? ⟨w.heap.size, 3, none⟩ = false := by simp [World.frozen?, hk]
   have f4 : w2.frozen? ⟨w.heap.size, 4, none⟩ = false := by simp [World.frozen?, hk]
   clear hb2 hk
   cases hok : ok with
   | false =>
    have HR := Lib.hid (HF.out (by rw [hok]; simp))
    clear hok
    go_wp2_with (fail)
    refine bodyPost_ret (v := .tuple #[.agg #[.slice none 0 0, .int .i64 0, .int .i64 0, .int .i64 0, .string ⟨#[]⟩], .int .i64 8]) (by simp [results, Tryz.results14, go_sem, r0, r1, r2, r3, r4, f0, f1, f2, f3, f4]) rfl ⟨none, 0, by rw [HR.out.1, HR.out.2]; rfl, by rw [HR.out.1]; exact OwnG.nil _ _ _, ?_⟩
    repeat' first | exact HB1.out.trans HW2.out | refine Bel.setCell ?_ (by simp) _ | refine Bel.drewN ?_ _
   | true =>
    by_cases hvb : v ≤ 1099511627776
    ·have hgt : ¬ (1099511627776 : Int) < (v : Int) := by omega
     have hwv : IntKind.i64.wrap (v : Int) = (v : Int) := by rw [IntKind.wrap_i64]; omega
     have HST := Lib.hid (HSTEP.out ⟨hok, hvb⟩)
     have hlz := str_len l'
     have HLZ := Lib.hid hlz
     subst hok
     clear r0 r1 r2 r3 r4 f0 f1 f2 f3 f4 hlz HF HSTEP
     go_wp2_with (at_builtin; refine stop_here ?_)
     refine go_on ?_
     refine append_glit (L := N) intOk13 rfl _ _ rfl rfl HO2.out _ _ _ [(v : Int)] rfl rfl rfl (by have := HNL.out; simp only [List.length_cons, List.length_nil]; unfold maxLen; omega) (by have := HNL.out; simp only [List.length_cons, List.length_nil]; omega) HW2.out.size (Or.inl rfl) ?_
     intro v3 w3 hown3 hb3 hz3
     obtain ⟨p3, c3, rfl⟩ := ownG_len hown3
     have HO3 := Lib.hid hown3
     have HW3 := Lib.hid (HW2.out.trans_below hb3)
     have HN3 := Lib.hid (show (N ++ [(v : Int)]).length = N.length + 1 by simp)
     clear hown3 hb3 hz3
     obtain ⟨N3, hN3⟩ : ∃ N3, N3 = N ++ [(v : Int)] := ⟨_, rfl⟩
     rw [← hN3] at HO3 HST HN3 ⊢
     clear hN3
     by_cases h3 : i = 3
     ·subst h3
      obtain ⟨m, hm⟩ : ∃ m, m = min v 40 := ⟨_, rfl⟩
      have hm40 : m ≤ 40 := by omega
      rw [if_pos rfl, ← hm] at HST
      have hmi : (if (40 : Int) < (v : Int) then (40 : Int) else (v : Int)) = (m : Int) := by split <;> omega
      have hmin : min (v : Int) 40 = (m : Int) := by omega
      have hw2m : IntKind.i64.wrap (2 * (m : Int)) = 2 * (m : Int) := by rw [IntKind.wrap_i64]; omega
      have hw4m : IntKind.i64.wrap (4 + 2 * (m : Int)) = 4 + 2 * (m : Int) := by rw [IntKind.wrap_i64]; omega
      clear hm
      go_wp2_with (fail)
      go_roundw
      case rel => exact ⟨4, 4 + 2 * m, N3, ⟨l'.toArray⟩, by go_num, by go_num, rfl, by rw [str_list]; exact HST.out, by rw [HLZ.out]; have := HRL.out; omega, HO3.out, HW3.out⟩
      case measure => simp [intOf]
     ·have h3i : ¬ (i : Int) = 3 := by omega
      rw [if_neg h3] at HST
      go_wp2_with (fail)
      go_roundw
      case rel => exact ⟨i + 1, many, N3, ⟨l'.toArray⟩, by go_num, rfl, rfl, by rw [str_list]; exact HST.out, by rw [HLZ.out]; have := HRL.out; omega, HO3.out, HW3.out⟩
      case measure => simp [intOf]; omega
    ·have hgt : (1099511627776 : Int) < (v : Int) := by omega
     have HR := Lib.hid (HF.out (fun h => hvb h.2))
     subst hok
     go_wp2_with (fail)
     refine bodyPost_ret (v := .tuple #[.agg #[.slice none 0 0, .int .i64 0, .int .i64 0, .int .i64 0, .string ⟨#[]⟩], .int .i64 8]) (by simp [results, Tryz.results14, go_sem, r0, r1, r2, r3, r4, f0, f1, f2, f3, f4]) rfl ⟨none, 0, by rw [HR.out.1, HR.out.2]; rfl, by rw [HR.out.1]; exact OwnG.nil _ _ _, ?_⟩
     repeat' first | exact HB1.out.trans HW2.out | refine Bel.setCell ?_ (by simp) _ | refine Bel.drewN ?_ _
  ·have hii : ¬ (i : Int) < (many : Int) := by omega
   obtain ⟨hNl, ⟨m, hm, hm40⟩, hA⟩ := rd_end HI.out him
   have HUN := Lib.hid (show unpackM t = if rightM (toMS N R.data.toList) = true ∧ encM (toMS N R.data.toList) = t then some (toMS N R.data.toList) else none by
    unfold unpackM; rw [readM_A, hA]; rfl)
   obtain ⟨g, ncap, hv, _, _, _, hcell⟩ := ownG_cells intOk13 HO.out (by intro e; rw [e] at hNl; simp at hNl; omega)
   simp only [Value.slice.injEq, true_and] at hv
   obtain ⟨rfl, rfl⟩ := hv
   obtain ⟨n0, n1, n2, n3, N', hN⟩ : ∃ n0 n1 n2 n3 N', N = n0 :: n1 :: n2 :: n3 :: N' := by
    match N, hNl with
    | n0 :: n1 :: n2 :: n3 :: N', _ => exact ⟨n0, n1, n2, n3, N', rfl⟩
    | [_, _, _], h => simp at h; omega
    | [_, _], h => simp at h; omega
    | [_], h => simp at h; omega
    | [], h => simp at h; omega
   have c0 : wr.cell? ⟨g, 0, none⟩ = some (.int .i64 n0) := hcell 0 n0 (by rw [hN]; rfl) 0 _ rfl
   have c1 : wr.cell? ⟨g, 1, none⟩ = some (.int .i64 n1) := hcell 1 n1 (by rw [hN]; rfl) 0 _ rfl
   have c2 : wr.cell? ⟨g, 2, none⟩ = some (.int .i64 n2) := hcell 2 n2 (by rw [hN]; rfl) 0 _ rfl
   have HGW := Lib.hid (show ∀ k, (Value.slice (some ⟨g, 0, none⟩) N.length nc).ownBlock = some k → k < wr.heap.size from fun k hk => (HO.out.lt k hk).2)
   have hl0 : 0 < N.length := by omega
   have hl1 : (1 : Int) < (N.length : Int) := by omega
   have hl2 : (2 : Int) < (N.length : Int) := by omega
   have HN := Lib.hid hN
   have HNLE := Lib.hid (show N.length = 4 + 2 * m by omega)
   clear hA hcell hN hNl
   go_wp2_with (fail)
   refine wp_region_held_drew (S := fun z => z.cell? ⟨g, 0, none⟩ = some (.int .i64 n0) ∧ z.cell? ⟨g, 1, none⟩ = some (.int .i64 n1) ∧ z.cell? ⟨g, 2, none⟩ = some (.int .i64 n2)) (by kernel_rfl) ⟨c0, c1, c2⟩ (fun hHeld => ?_)
   refine tq ⟨some 47, .move (.tmp 4), 52, "ref.go:75", #[], none⟩ ?_ 0 rfl ?_ ?_;rotate_left;·(intros;go_simp<;>with_reducible rfl)
   try simp only[Act.put,sqA,sqB,sqC]
   refine tq ⟨some 48, .indexAddr 52 (.tmp 47) (.const (.int .i64 0)), 0, "ref.go:75", #[⟨0, .data⟩], none⟩ ?_ 1 rfl ?_ ?_;rotate_left;·(intros;go_simp<;>with_reducible rfl)
   try simp only[Act.put,sqA,sqB,sqC]
   refine tq ⟨some 49, .load 3 (.tmp 48), 3, "ref.go:75", #[⟨1, .data⟩], none⟩ ?_ 2 rfl ?_ ?_;rotate_left;·(intros;go_simp<;>with_reducible rfl)
   try simp only[Act.put,sqA,sqB,sqC]
   refine tq ⟨some 50, .move (.tmp 4), 52, "ref.go:75", #[], none⟩ ?_ 3 rfl ?_ ?_;rotate_left;·(intros;go_simp<;>with_reducible rfl)
   try simp only[Act.put,sqA,sqB,sqC]
   refine tq ⟨some 51, .indexAddr 52 (.tmp 50) (.const (.int .i64 1)), 0, "ref.go:75", #[⟨3, .data⟩], none⟩ ?_ 4 rfl ?_ ?_;rotate_left;·(intros;go_simp<;>with_reducible rfl)
   try simp only[Act.put,sqA,sqB,sqC]
   refine tq ⟨some 52, .load 3 (.tmp 51), 3, "ref.go:75", #[⟨4, .data⟩], none⟩ ?_ 5 rfl ?_ ?_;rotate_left;·(intros;go_simp<;>with_reducible rfl)
   try simp only[Act.put,sqA,sqB,sqC]
   refine tq ⟨some 53, .move (.tmp 4), 52, "ref.go:75", #[], none⟩ ?_ 6 rfl ?_ ?_;rotate_left;·(intros;go_simp<;>with_reducible rfl)
   try simp only[Act.put,sqA,sqB,sqC]
   refine tq ⟨some 54, .indexAddr 52 (.tmp 53) (.const (.int .i64 2)), 0, "ref.go:75", #[⟨6, .data⟩], none⟩ ?_ 7 rfl ?_ ?_;rotate_left;·(intros;go_simp<;>with_reducible rfl)
   try simp only[Act.put,sqA,sqB,sqC]
   refine tq ⟨some 55, .load 3 (.tmp 54), 3, "ref.go:75", #[⟨7, .data⟩], none⟩ ?_ 8 rfl ?_ ?_;rotate_left;·(intros;go_simp<;>with_reducible rfl)
   try simp only[Act.put,sqA,sqB,sqC]
   refine tq ⟨some 56, .move (.tmp 5), 9, "ref.go:75", #[], none⟩ ?_ 9 rfl ?_ ?_;rotate_left;·(intros;go_simp<;>with_reducible rfl)
   try simp only[Act.put,sqA,sqB,sqC]
   refine tq ⟨some 57, .build 28 #[(1, .tmp 49), (2, .tmp 52), (3, .tmp 55), (4, .tmp 56)], 28, "ref.go:75", #[⟨2, .data⟩, ⟨5, .data⟩, ⟨8, .data⟩, ⟨9, .data⟩], none⟩ ?_ 10 rfl ?_ ?_;rotate_left;·(intros;go_simp<;>with_reducible rfl)
   try simp only[Act.put,sqA,sqB,sqC]
   refine wpAnyH_ready (rs := [11]) (by kernel_rfl) (by simp) ?_
   refine ar1 ⟨some 11, .alloc 28, 0, "ref.go:75", #[], none⟩ rfl (fun K hK => ?_)
   go_simp
   obtain ⟨X, hX⟩ : ∃ X, X = wr.heap.size := ⟨_, rfl⟩
   obtain ⟨x2, hx2⟩ : ∃ x, x = (wr.alloc (.cells #[.slice none 0 0, .int .i64 0, .int .i64 0, .int .i64 0, .string ⟨#[]⟩] 28)).drew := ⟨_, rfl⟩
   have hkX : x2.heap[X]? = some (.cells #[.slice none 0 0, .int .i64 0, .int .i64 0, .int .i64 0, .string ⟨#[]⟩] 28 (0, 0)) := by rw [hx2, hX]; exact heap_alloc_new wr _
   have hb2 : Bel wr x2 := by rw [hx2]; exact ((Bel.refl wr).alloc _).drew
   have hs2 : x2.heap.size = X + 1 := by rw [hx2, hX]; simp
   refine hK.out _ _ (by rw [← hx2]; exact ⟨cl13 hb2 c0, cl13 hb2 c1, cl13 hb2 c2⟩) (fun hHeld => ?_);clear hK K;try simp only[Act.put,sqA,sqB,sqC]
   rw [← hx2, ← hX]
   have HKX := Lib.hid hkX
   have HBX := Lib.hid hb2
   have HSX := Lib.hid hs2
   have HX := Lib.hid hX
   have r0 : x2.cell? ⟨X, 0, none⟩ = some (.slice none 0 0) := by simp [World.cell?, hkX]
   have r1 : x2.cell? ⟨X, 1, none⟩ = some (.int .i64 0) := by simp [World.cell?, hkX]
   have r2 : x2.cell? ⟨X, 2, none⟩ = some (.int .i64 0) := by simp [World.cell?, hkX]
   have r3 : x2.cell? ⟨X, 3, none⟩ = some (.int .i64 0) := by simp [World.cell?, hkX]
   have r4 : x2.cell? ⟨X, 4, none⟩ = some (.string ⟨#[]⟩) := by simp [World.cell?, hkX]
   have f0 : x2.frozen? ⟨X, 0, none⟩ = false := by simp [World.frozen?, hkX]
   have f1 : x2.frozen? ⟨X, 1, none⟩ = false := by simp [World.frozen?, hkX]
   have f2 : x2.frozen? ⟨X, 2, none⟩ = false := by simp [World.frozen?, hkX]
   have f3 : x2.frozen? ⟨X, 3, none⟩ = false := by simp [World.frozen?, hkX]
   have f4 : x2.frozen? ⟨X, 4, none⟩ = false := by simp [World.frozen?, hkX]
   have HC := Lib.hid (And.intro c0 (And.intro c1 c2))
   clear hx2 hkX hb2 hs2 hX c0 c1 c2
   refine wpAnyH_ready (rs := [12]) (by kernel_rfl) (by simp) ?_
   refine ar1 ⟨none, .store 28 (.tmp 11) (.tmp 57), 0, "ref.go:75", #[⟨11, .data⟩, ⟨10, .data⟩, ⟨0, .phase⟩, ⟨1, .phase⟩, ⟨2, .phase⟩, ⟨3, .phase⟩, ⟨4, .phase⟩, ⟨5, .phase⟩, ⟨6, .phase⟩, ⟨7, .phase⟩, ⟨8, .phase⟩, ⟨9, .phase⟩, ⟨10, .phase⟩, ⟨11, .phase⟩], none⟩ rfl (fun K hK => ?_)
   go_simp
   obtain ⟨x3, hx3⟩ : ∃ x, x = (((((x2.setCell ⟨X, 0, none⟩ (.slice none 0 0)).setCell ⟨X, 1, none⟩ (.int .i64 n0)).setCell ⟨X, 2, none⟩ (.int .i64 n1)).setCell ⟨X, 3, none⟩ (.int .i64 n2)).setCell ⟨X, 4, none⟩ (.string R)) := ⟨_, rfl⟩
   have hk3 : x3.heap[X]? = some (.cells #[.slice none 0 0, .int .i64 n0, .int .i64 n1, .int .i64 n2, .string R] 28 (0, 0)) := by rw [hx3]; exact set5 HKX.out
   have hb3 : Bel wr x3 := by rw [hx3]; exact keep_bel1 keep5 HBX.out (by rw [HX.out]; exact Nat.le_refl _)
   have hs3 : x3.heap.size = X + 1 := by rw [hx3]; simp [World.setCell, HSX.out]
   refine hK.out _ _ (by rw [← hx3]; exact ⟨cl13 hb3 HC.out.1, cl13 hb3 HC.out.2.1, cl13 hb3 HC.out.2.2⟩) (fun hHeld => ?_);clear hK K;try simp only[Act.put,sqA,sqB,sqC]
   rw [← hx3]
   refine wpAnyH_done (by kernel_rfl) ?_ _
   have HK3 := Lib.hid hk3
   have HW3 := Lib.hid (HW.out.trans hb3)
   have HS3 := Lib.hid hs3
   have HO3 := Lib.hid (HO.out.bel hb3)
   clear hx3 hk3 hb3 hs3 r0 r1 r2 r3 r4 f0 f1 f2 f3 f4
   have HST := Lib.hid (show toMS N R.data.toList = ⟨placesL N', n0, n1, n2, R⟩ by rw [HN.out]; unfold toMS; rw [ba_list]; rfl)
   have hN'l : N'.length = 2 * m := by have h1 := HNLE.out; rw [HN.out] at h1; simp only [List.length_cons] at h1; omega
   have HGX := Lib.hid (show g < X by have := HGW.out g rfl; have := HX.out; omega)
   have HN'L := Lib.hid hN'l
   clear hN'l
   go_wp2_with (fail)
   go_loopw [12] (fun iv y => ∃ (j : Nat) (pv : Value), iv = .int .i64 ((4 + 2 * j : Nat) : Int) ∧ j ≤ m ∧ OwnG plElR (X + 1) y pv (placesL (N'.take (2 * j))) ∧ y.heap[X]? = some (.cells #[pv, .int .i64 n0, .int .i64 n1, .int .i64 n2, .string R] 28 (0, 0)) ∧ Keep [X] x3 y) (fun iv _ => 100 - (intOf iv).toNat)
   case atStart => exact ⟨0, .slice none 0 0, rfl, Nat.zero_le _, OwnG.nil _ _ _, HK3.out, Keep.refl _ _⟩
   case round =>
    obtain ⟨j, pv, rfl, hjm, hown, hbx, hkp⟩ := hrel
    have HOW := Lib.hid hown
    have HBX := Lib.hid hbx
    have HKP := Lib.hid hkp
    have hsz := hkp.size
    have HZ := Lib.hid (show X + 1 ≤ wr.heap.size by rw [← HS3.out]; exact hsz)
    obtain ⟨pp, pc, rfl⟩ := ownG_len hown
    obtain ⟨k, hk⟩ : ∃ k, k = 4 + 2 * j := ⟨_, rfl⟩
    rw [← hk]
    have HKE := Lib.hid hk
    clear hown hbx hkp hsz hk
    by_cases hlt : j < m
    ·have hkl : k + 1 < N.length := by have := HNLE.out; have := HKE.out; omega
     have hki : (k : Int) + 1 < (N.length : Int) := by omega
     have hki2 : (k : Int) < (N.length : Int) := by omega
     have hkw : IntKind.i64.wrap ((k : Int) + 1) = (k : Int) + 1 := by rw [IntKind.wrap_i64]; have := HNLE.out; have := HKE.out; omega
     have hk0 : (0 : Int) ≤ (k : Int) + 1 := by omega
     have hok : OwnG intEl13 w1.heap.size wr (.slice (some ⟨g, 0, none⟩) N.length nc) N := HO3.out.keep HKP.out (fun b hb hm => by
      rw [List.mem_singleton] at hm
      simp only [Value.ownBlock, Option.some.injEq] at hb
      have := HGX.out; omega)
     obtain ⟨g', ncap', hv', _, _, _, hcell⟩ := ownG_cells intOk13 hok (by intro e; rw [e] at hkl; simp at hkl)
     simp only [Value.slice.injEq, Option.some.injEq, Addr.mk.injEq, and_true, true_and] at hv'
     obtain ⟨rfl, rfl⟩ := hv'
     have q0 : wr.cell? ⟨g, k, none⟩ = some (.int .i64 N[k]) := by
      have := hcell k N[k] (List.getElem?_eq_getElem (by omega)) 0 _ rfl
      rwa [show k * intEl13.n + 0 = k from by show k * 1 + 0 = k; omega] at this
     have q1 : wr.cell? ⟨g, k + 1, none⟩ = some (.int .i64 N[k + 1]) := by
      have := hcell (k + 1) N[k + 1] (List.getElem?_eq_getElem hkl) 0 _ rfl
      rwa [show (k + 1) * intEl13.n + 0 = k + 1 from by show (k + 1) * 1 + 0 = k + 1; omega] at this
     have HPL := Lib.hid (show placesL (N'.take (2 * (j + 1))) = placesL (N'.take (2 * j)) ++ [⟨N[k], N[k + 1]⟩] by
      have h1 := HNLE.out
      have h2 := HN'L.out
      have h3 := HKE.out
      have e1 : N[k] = N'[2 * j]'(by omega) := by
       have : N[k]? = N'[2 * j]? := by rw [HN.out, HKE.out, show 4 + 2 * j = 2 * j + 1 + 1 + 1 + 1 by omega]; simp
       rw [List.getElem?_eq_getElem (by omega), List.getElem?_eq_getElem (by omega)] at this
       simpa using this
      have e2 : N[k + 1] = N'[2 * j + 1]'(by omega) := by
       have : N[k + 1]? = N'[2 * j + 1]? := by rw [HN.out, HKE.out, show 4 + 2 * j + 1 = 2 * j + 1 + 1 + 1 + 1 + 1 by omega]; simp
       rw [List.getElem?_eq_getElem (by omega), List.getElem?_eq_getElem (by omega)] at this
       simpa using this
      rw [places_take j N' (by omega), e1, e2])
     have hpl : (placesL (N'.take (2 * j))).length = j := by rw [places_len, List.length_take, HN'L.out]; omega
     generalize N[k] = n at *
     generalize N[k + 1] = l at *
     obtain ⟨P0, hP0⟩ : ∃ P0, P0 = placesL (N'.take (2 * j)) := ⟨_, rfl⟩
     rw [← hP0] at HOW HBX HPL hpl
     have HPL0 := Lib.hid hpl
     have c0 := box_cell HBX.out 0
     have g0 := box_frozen HBX.out 0
     have hgx := HGX.out
     have HS := Lib.hid (show ∀ z, Below (X + 1) wr z → ((z.cell? ⟨X, 0, none⟩ = some (.slice pp P0.length pc) ∧ z.frozen? ⟨X, 0, none⟩ = false) ∧ (z.cell? ⟨g, k, none⟩ = some (.int .i64 n) ∧ z.cell? ⟨g, k + 1, none⟩ = some (.int .i64 l)) ∧ Below (X + 1) wr z) from fun z hz =>
      ⟨⟨(hz.cell (by show X < X + 1; omega)).trans c0, (hz.frozen (by show X < X + 1; omega)).trans g0⟩, ⟨(hz.cell (by show g < X + 1; omega)).trans q0, (hz.cell (by show g < X + 1; omega)).trans q1⟩, hz⟩)
     have HB0 := Lib.hid (show Below (X + 1) wr wr.drew from (Below.refl _ _).drew)
     clear hok hcell hP0 hpl q0 q1 c0 g0 hgx
     go_wp2_with (fail)
     refine region_L 15 (S := fun z => (z.cell? ⟨X, 0, none⟩ = some (.slice pp P0.length pc) ∧ z.frozen? ⟨X, 0, none⟩ = false) ∧ (z.cell? ⟨g, k, none⟩ = some (.int .i64 n) ∧ z.cell? ⟨g, k + 1, none⟩ = some (.int .i64 l)) ∧ Below (X + 1) wr z) (by kernel_rfl) (HS.out _ HB0.out) (fun hHeld => ?_)
     refine AnyL.tk (oi := ⟨some 65, .fieldAddr 28 (.tmp 11) 0, 0, "ref.go:77", #[], none⟩) (v := ?_) 0 rfl ?_ ?_;rotate_left;·(intros;go_simp<;>with_reducible rfl)
     try simp only[Act.put,sqA,sqB,sqC]
     refine AnyL.tk (oi := ⟨some 66, .load 26 (.tmp 65), 26, "ref.go:77", #[⟨0, .data⟩], none⟩) (v := ?_) 1 rfl ?_ ?_;rotate_left;·(intros;go_simp<;>with_reducible rfl)
     try simp only[Act.put,sqA,sqB,sqC]
     refine AnyL.tk (oi := ⟨some 67, .move (.tmp 4), 52, "ref.go:77", #[], none⟩) (v := ?_) 2 rfl ?_ ?_;rotate_left;·(intros;go_simp<;>with_reducible rfl)
     try simp only[Act.put,sqA,sqB,sqC]
     refine AnyL.tk (oi := ⟨some 68, .move (.tmp 12), 3, "ref.go:77", #[], none⟩) (v := ?_) 3 rfl ?_ ?_;rotate_left;·(intros;go_simp<;>with_reducible rfl)
     try simp only[Act.put,sqA,sqB,sqC]
     refine AnyL.tk (oi := ⟨some 69, .indexAddr 52 (.tmp 67) (.tmp 68), 0, "ref.go:77", #[⟨2, .data⟩, ⟨3, .data⟩], none⟩) (v := ?_) 4 rfl ?_ ?_;rotate_left;·(intros;go_simp<;>with_reducible rfl)
     try simp only[Act.put,sqA,sqB,sqC]
     refine AnyL.tk (oi := ⟨some 70, .load 3 (.tmp 69), 3, "ref.go:77", #[⟨4, .data⟩], none⟩) (v := ?_) 5 rfl ?_ ?_;rotate_left;·(intros;go_simp<;>with_reducible rfl)
     try simp only[Act.put,sqA,sqB,sqC]
     refine AnyL.tk (oi := ⟨some 71, .move (.tmp 4), 52, "ref.go:77", #[], none⟩) (v := ?_) 6 rfl ?_ ?_;rotate_left;·(intros;go_simp<;>with_reducible rfl)
     try simp only[Act.put,sqA,sqB,sqC]
     refine AnyL.tk (oi := ⟨some 72, .move (.tmp 12), 3, "ref.go:77", #[], none⟩) (v := ?_) 7 rfl ?_ ?_;rotate_left;·(intros;go_simp<;>with_reducible rfl)
     try simp only[Act.put,sqA,sqB,sqC]
     refine AnyL.tk (oi := ⟨some 73, .binOp .add 3 (.tmp 72) (.const (.int .i64 1)) 3, 3, "ref.go:77", #[⟨7, .data⟩], none⟩) (v := ?_) 8 rfl ?_ ?_;rotate_left;·(intros;go_simp<;>with_reducible rfl)
     try simp only[Act.put,sqA,sqB,sqC]
     refine AnyL.tk (oi := ⟨some 74, .indexAddr 52 (.tmp 71) (.tmp 73), 0, "ref.go:77", #[⟨6, .data⟩, ⟨8, .data⟩], none⟩) (v := ?_) 9 rfl ?_ ?_;rotate_left;·(intros;go_simp<;>with_reducible rfl)
     try simp only[Act.put,sqA,sqB,sqC]
     refine AnyL.tk (oi := ⟨some 75, .load 3 (.tmp 74), 3, "ref.go:77", #[⟨9, .data⟩], none⟩) (v := ?_) 10 rfl ?_ ?_;rotate_left;·(intros;go_simp<;>with_reducible rfl)
     try simp only[Act.put,sqA,sqB,sqC]
     refine AnyL.tk (oi := ⟨some 76, .build 96 #[(0, .tmp 70), (1, .tmp 75)], 96, "ref.go:77", #[⟨5, .data⟩, ⟨10, .data⟩], none⟩) (v := ?_) 11 rfl ?_ ?_;rotate_left;·(intros;go_simp<;>with_reducible rfl)
     try simp only[Act.put,sqA,sqB,sqC]
     clear hHeld
     refine AnyL.ready (rs := [12]) (by kernel_rfl) (by simp) ?_
     refine (AllL.cons (o := ⟨some 77, .buildSlice 26 1 #[(0, .tmp 76)], 26, "ref.go:77", #[⟨11, .data⟩], none⟩) rfl (fun K hK => ?_) AllL.nil)
     go_simp
     obtain ⟨YL, hYL⟩ : ∃ n, n = wr.heap.size := ⟨_, rfl⟩
     obtain ⟨x4, hx4⟩ : ∃ x, x = (wr.alloc (.cells #[.int .i64 n, .int .i64 l] 96)).drew := ⟨_, rfl⟩
     have HLL := Lib.hid (show x4.heap[YL]? = some (.cells #[.int .i64 n, .int .i64 l] 96 (0, 0)) by rw [hx4, hYL]; exact heap_alloc_new wr _)
     have hb4 : Bel wr x4 := by rw [hx4]; exact ((Bel.refl wr).alloc _).drew
     have HB4 := Lib.hid (show Below (X + 1) wr x4 by rw [hx4]; exact ((Below.refl _ _).alloc HZ.out _).drew)
     have HOW4 := Lib.hid (HOW.out.bel hb4)
     have HZ4 := Lib.hid (show X + 1 ≤ x4.heap.size from Nat.le_trans HZ.out hb4.size)
     refine hK.out _ _ (fun _ => by rw [← hx4]; exact HS.out _ HB4.out) ?_
     clear hK K
     try simp only[Act.put,sqA,sqB,sqC]
     rw [← hx4, ← hYL]
     clear hx4 hYL hb4
     refine AnyL.ready (rs := [13]) (by kernel_rfl) (by simp) ?_
     refine (AllL.cons (o := ⟨some 78, .call ⟨.builtin .append, #[.tmp 66, .tmp 77], #[26, 26]⟩, 26, "ref.go:77", #[⟨1, .data⟩, ⟨12, .data⟩], none⟩) rfl (fun K hK => ?_) AllL.nil)
     refine step_append_seg plOkR rfl (.tmp 66) (.tmp 77) rfl rfl HOW4.out [(⟨n, l⟩ : PL)] rfl (src_at13 [(⟨n, l⟩ : PL)] HLL.out rfl rfl) (by have := HPL0.out; simp only [List.length_cons, List.length_nil]; unfold maxLen; omega) (by have := HPL0.out; simp only [List.length_cons, List.length_nil]; omega) HZ4.out ?_
     intro v8 w8 ho8 hg8 hb8
     have HB8 := Lib.hid (show Below (X + 1) wr w8 from Below.trans HB4.out hb8)
     have HO8 := Lib.hid ho8
     obtain ⟨p8, cap8, rfl⟩ := ownG_len ho8
     clear ho8 hg8 hb8
     refine hK.out _ _ (fun _ => HS.out _ HB8.out) ?_
     clear hK K
     try simp only[Act.put,sqA,sqB,sqC]
     have hHeld := HS.out _ HB8.out
     refine AnyL.tk (oi := ⟨some 79, .fieldAddr 28 (.tmp 11) 0, 0, "ref.go:77", #[⟨0, .phase⟩, ⟨1, .phase⟩, ⟨2, .phase⟩, ⟨3, .phase⟩, ⟨4, .phase⟩, ⟨5, .phase⟩, ⟨6, .phase⟩, ⟨7, .phase⟩, ⟨8, .phase⟩, ⟨9, .phase⟩, ⟨10, .phase⟩, ⟨11, .phase⟩, ⟨12, .phase⟩, ⟨13, .phase⟩], none⟩) (v := ?_) 14 rfl ?_ ?_;rotate_left;·(intros;go_simp<;>with_reducible rfl)
     try simp only[Act.put,sqA,sqB,sqC]
     clear hHeld
     refine AnyL.ready (rs := [15]) (by kernel_rfl) (by simp) ?_
     refine (AllL.cons (o := ⟨none, .store 26 (.tmp 79) (.tmp 78), 0, "ref.go:77", #[⟨14, .data⟩, ⟨13, .data⟩, ⟨13, .chain⟩, ⟨0, .phase⟩, ⟨1, .phase⟩, ⟨2, .phase⟩, ⟨3, .phase⟩, ⟨4, .phase⟩, ⟨5, .phase⟩, ⟨6, .phase⟩, ⟨7, .phase⟩, ⟨8, .phase⟩, ⟨9, .phase⟩, ⟨10, .phase⟩, ⟨11, .phase⟩, ⟨12, .phase⟩, ⟨13, .phase⟩], none⟩) rfl (fun K hK => ?_) AllL.nil)
     obtain ⟨⟨s0, s1⟩, -⟩ := HS.out _ HB8.out
     go_simp
     refine hK.out _ _ (fun h => absurd rfl h) ?_
     clear hK K
     try simp only[Act.put,sqA,sqB,sqC]
     refine AnyL.done (by kernel_rfl) ?_ _
     clear s0 s1
     have HBX8 := Lib.hid ((HB8.out.block X (by omega)).trans HBX.out)
     have HPL8 := Lib.hid (show (P0 ++ [(⟨n, l⟩ : PL)]).length = P0.length + 1 by simp)
     have hw2 : IntKind.i64.wrap ((k : Int) + 2) = (k : Int) + 2 := by rw [IntKind.wrap_i64]; have := HNLE.out; have := HKE.out; omega
     go_wp2_with (fail)
     go_roundw
     case rel =>
      refine ⟨j + 1, .slice p8 (P0.length + 1) cap8, ?_, hlt, ?_, blk_set HBX8.out 0 _, (keep_below HKP.out HB8.out (by rw [HS3.out]; exact Nat.le_refl _)).setCell (p := ⟨X, 0, none⟩) (Or.inl (by simp)) _⟩
      ·have := HKE.out
       congr 1; omega
      ·rw [HPL.out]
       have h := HO8.out
       rw [HPL8.out] at h
       exact h.setCell (p := ⟨X, 0, none⟩) (by show X < X + 1; omega) _
     case measure => have := HKE.out; have := HNLE.out; simp [intOf]; omega
    ·obtain rfl : j = m := by omega
     have hki : ¬ (k : Int) + 1 < (N.length : Int) := by have := HNLE.out; have := HKE.out; omega
     have hkw : IntKind.i64.wrap ((k : Int) + 1) = (k : Int) + 1 := by rw [IntKind.wrap_i64]; have := HNLE.out; have := HKE.out; omega
     have htk : N'.take (2 * j) = N' := List.take_of_length_le (by rw [HN'L.out]; exact Nat.le_refl _)
     rw [htk] at HOW HBX
     obtain ⟨st, hst⟩ : ∃ st : MS, st = ⟨placesL N', n0, n1, n2, R⟩ := ⟨_, rfl⟩
     have HSTE := Lib.hid (HST.out.trans hst.symm)
     have HSTD := Lib.hid hst
     have hpl : (placesL N').length = j := by rw [places_len, HN'L.out]; omega
     have HPK := Lib.hid (show ∀ z, Bel wr z → Calls Tryz.prog 12 #[.agg #[.slice pp (placesL N').length pc, .int .i64 n0, .int .i64 n1, .int .i64 n2, .string R]] z fun r w' => r = .returned (packV st) ∧ Bel z w' from fun z hz => by
      have := rpack13_any pp pc st z (by rw [hst]; exact (pls_ownR HOW.out).bel hz) (by rw [hst]; show (placesL N').length ≤ _; omega) (by rw [hst]; show R.size ≤ _; omega)
      rw [hst] at this ⊢
      exact this)
     obtain ⟨FF, hFF⟩ : ∃ FF, FF = (placesL N').length := ⟨_, rfl⟩
     have HFF := Lib.hid hFF
     rw [← hFF] at HPK HOW HBX
     obtain ⟨⟨c0, c1, c2, c3, c4⟩, -⟩ := box5 HBX.out
     have HRW := Lib.hid (show wr.heap[w.heap.size]? = some (.cells #[.slice none 0 0, .int .i64 0, .int .i64 0, .int .i64 0, .string ⟨#[]⟩] 28 (0, 0)) from
      (HKP.out.block _ (Nat.lt_of_lt_of_le HS1.out HW3.out.size) (by rw [List.mem_singleton]; have h1 := HS1.out; have h2 := HW.out.size; have h3 := HX.out; omega)).trans (box_bel HRK.out HW3.out))
     have HBB := Lib.hid (show Bel w wr from keep_bel1 HKP.out (HB1.out.trans HW3.out) (by have h1 := HS1.out; have h2 := HW.out.size; have h3 := HX.out; omega))
     clear htk hpl hst hFF
     go_wp2_with (fail)
     refine (HPK.out _ (Bel.refl _)).mono ?_
     rintro e w5 ⟨rfl, hb5⟩
     have HB5 := Lib.hid (HBB.out.trans hb5)
     obtain ⟨⟨r0, r1, r2, r3, r4⟩, f0, f1, f2, f3, f4⟩ := box5 (box_bel HRW.out hb5)
     obtain ⟨⟨d0, d1, d2, d3, d4⟩, -⟩ := box5 (box_bel HBX.out hb5)
     have HO5 := Lib.hid (HOW.out.bel hb5)
     clear hb5 c0 c1 c2 c3 c4
     cases hr : rightM st with
     | false =>
      have HPV := Lib.hid (pack_no hr)
      have HR := Lib.hid (HNO.out (by rw [HUN.out, HSTE.out, if_neg (by rw [hr]; simp)]))
      clear hr
      rw [HPV.out]
      go_wp2_with (fail)
      refine bodyPost_ret (v := .tuple #[.agg #[.slice none 0 0, .int .i64 0, .int .i64 0, .int .i64 0, .string ⟨#[]⟩], .int .i64 8]) (by simp [results, Tryz.results14, go_sem, r0, r1, r2, r3, r4, f0, f1, f2, f3, f4]) rfl ⟨none, 0, by rw [HR.out.1, HR.out.2]; rfl, by rw [HR.out.1]; exact OwnG.nil _ _ _, ?_⟩
      repeat' first | exact HB5.out | refine Bel.setCell ?_ (by simp) _ | refine Bel.drewN ?_ _
     | true =>
      have HPV := Lib.hid (pack_yes hr)
      rw [HPV.out]
      by_cases het : encM st = t
      ·have HR := Lib.hid (show unpackM t = some st by rw [HUN.out, HSTE.out, if_pos ⟨hr, het⟩])
       have HR2 := Lib.hid (unp_some HR.out)
       have hse : (⟨(encM st).toArray⟩ : ByteArray) = s := by rw [het, HT.out, ba_list]
       clear hr het
       rw [hse]
       go_wp2_with (fail)
       have hlow : w.heap.size < X + 1 := by have h1 := HS1.out; have h2 := HW.out.size; have h3 := HX.out; omega
       refine bodyPost_ret (v := .tuple #[.agg #[.slice pp FF pc, .int .i64 n0, .int .i64 n1, .int .i64 n2, .string R], .int .i64 0]) (by simp [results, Tryz.results14, go_sem, r0, r1, r2, r3, r4, f0, f1, f2, f3, f4]) rfl ⟨pp, pc, by rw [HR2.out.1, HR2.out.2, HSTD.out, HFF.out], ?_, ?_⟩
       ·rw [HR2.out.1, HSTD.out]
        show OwnG plElR w.heap.size _ (.slice pp (placesL N').length pc) (placesL N')
        rw [← HFF.out]
        exact OwnG.low (B := X + 1) (((((HO5.out.setCell hlow _).setCell hlow _).setCell hlow _).setCell hlow _).setCell hlow _) (by omega)
       ·repeat' first | exact HB5.out | refine Bel.setCell ?_ (by simp) _ | refine Bel.drewN ?_ _
      ·have HR := Lib.hid (HNO.out (by rw [HUN.out, HSTE.out, if_neg (fun h => het h.2)]))
       have hse : ((encM st) == s.toList) = false := by
        rw [ByteArray.toList_eq, ← HT.out, beq_eq_false_iff_ne]; exact het
       clear hr het
       go_wp2_with (fail)
       refine bodyPost_ret (v := .tuple #[.agg #[.slice none 0 0, .int .i64 0, .int .i64 0, .int .i64 0, .string ⟨#[]⟩], .int .i64 8]) (by simp [results, Tryz.results14, go_sem, r0, r1, r2, r3, r4, f0, f1, f2, f3, f4]) rfl ⟨none, 0, by rw [HR.out.1, HR.out.2]; rfl, by rw [HR.out.1]; exact OwnG.nil _ _ _, ?_⟩
       repeat' first | exact HB5.out | refine Bel.setCell ?_ (by simp) _ | refine Bel.drewN ?_ _
end Go.Proofs.YtfbiinnenlgkfaaGreatDoor
