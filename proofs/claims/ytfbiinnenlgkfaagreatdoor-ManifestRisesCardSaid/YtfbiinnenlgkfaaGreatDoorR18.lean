/- FCrash, FWf, FDoes, FSt, FMadeH, FRop, FRop2, FRadd, FRcr, laid together. -/
import Derived.Test.YtfbiinnenlgkfaaGreatDoorR17
import Derived.Test.YtfbiinnenlgkfaaGreatDoorR2
import Derived.Test.YtfbiinnenlgkfaaGreatDoorR9
set_option linter.unusedSimpArgs false
set_option linter.unusedVariables false
namespace Go.Proofs.YtfbiinnenlgkfaaGreatDoor
open Go.RowKit Go.Deep Go.Maps

def crashF (lf sp : List Int) : Nat → List FI → List FI
 | _, [] => []
 | k, x :: L => if x.safe = x.bytes.length then x :: crashF lf sp k L else crX (atN lf k) (atN sp k) x :: crashF lf sp (k + 1) L
def onM (M : RS) : RS := { M with turns := -1, gone := false }
def crashS (lf sp : List Int) (M : RS) : RS := { onM M with L := crashF lf sp 0 M.L }
theorem IntsAt.keep {w x : World} {p : Option Addr} {L : List Int} {G : List Nat} (h : IntsAt w p L) (hk : Keep G w x) (hb : ∀ a, p = some a → L ≠ [] → a.block ∉ G) : IntsAt x p L := by
 intro i hi
 obtain ⟨a, ha, hc⟩ := h i hi
 exact ⟨a, ha, hk.cell hc (by rw [add_block]; exact hb a ha (by rintro rfl; simp at hi))⟩
theorem srt_names {L K : List FI} (h : L.map (·.name) = K.map (·.name)) (hs : Srt L) : Srt K := by
 have e : ∀ {L : List FI}, Srt L ↔ (L.map (·.name)).Pairwise (fun a b => Op.bytesLess a b = true) := by intro L; rw [Srt, List.pairwise_map]
 rw [e] at hs ⊢
 rw [← h]; exact hs
theorem ins_at {x y : FI} {B : List FI} : ∀ {A : List FI}, Srt (A ++ x :: B) → y.name = x.name → insS y (A ++ x :: B) = A ++ y :: B
 | [], hs, hn => by rw [List.nil_append, ins_cons, hn, bl_irrefl]; simp
 | a :: A, hs, hn => by
  rw [List.cons_append] at hs
  have h2 := srt_cons.1 hs
  have : Op.bytesLess a.name y.name = true := by rw [hn]; exact h2.1 x (by simp)
  rw [List.cons_append, ins_cons, if_pos this, ins_at h2.2 hn, List.cons_append]
theorem at_in64 {L : List Int} (h : ∀ n ∈ L, in64 n) (k : Nat) : in64 (atN L k) := by
 unfold atN
 cases hk : L[k]? with
 | none => exact ⟨by decide, by decide⟩
 | some a => exact h a (List.mem_of_getElem? hk)
theorem crX_name (l s : Int) (x : FI) : (crX l s x).name = x.name := rfl
def CrRel (n₀ : Nat) (w2 : World) (b : Nat) (M : RS) (mv : Value) (t : Int) (F : List Nat) (lf sp : List Int) (k i : Value) (x : World) : Prop :=
 ∃ (j kk : Nat) (dn : List FI), i = .int .i64 j ∧ k = .int .i64 kk ∧ j ≤ M.L.length ∧ kk ≤ j ∧ crashF lf sp 0 M.L = dn ++ crashF lf sp kk (M.L.drop j) ∧ (dn ++ M.L.drop j).map (·.name) = M.L.map (·.name) ∧ dn.length = j ∧
  Hdr x b (onM M) mv t ∧ FilesAt n₀ x mv (dn ++ M.L.drop j) F ∧ Keep F w2 x

set_option maxHeartbeats 4000000 in
set_option maxRecDepth 20000 in
theorem pcrash_any (n₀ : Nat) (w : World) (b : Nat) (M : RS) (F : List Nat) (lf sp : SI) (h : ProgAt n₀ w b M F) (hS : Srt M.L) (hL : M.L.length ≤ 1000) (hB : ∀ x ∈ M.L, x.bytes.length ≤ 1000000000 ∧ x.safe ≤ x.bytes.length ∧ x.name.length ≤ 1000)
  (hlf : SI.ok w lf) (hsp : SI.ok w sp) (nl : ∀ a, lf.p = some a → lf.L ≠ [] → a.block ∉ F) (ns : ∀ a, sp.p = some a → sp.L ≠ [] → a.block ∉ F) :
  Calls Tryz.prog 31 #[.pointer (some ⟨b, 0, none⟩), lf.val, sp.val] w fun e w' => (∃ u, e = .returned u) ∧ ProgTo n₀ w w' b (crashS lf.L sp.L M) F := by
 have HP := Lib.hid h
 obtain ⟨⟨mv, t, hb, ht, h64, hf⟩, hlow, hbF, hFw⟩ := h
 have c2 : w.cell? ⟨b, 2, none⟩ = some (.bool (decide (0 ≤ M.turns))) := by simp [World.cell?, hb]
 have c4 : w.cell? ⟨b, 4, none⟩ = some (.bool M.gone) := by simp [World.cell?, hb]
 have f2 : w.frozen? ⟨b, 2, none⟩ = false := by simp [World.frozen?, hb]
 have f4 : w.frozen? ⟨b, 4, none⟩ = false := by simp [World.frozen?, hb]
 have HH := Lib.hid (show Hdr w b M mv t from ⟨hb, ht, h64⟩)
 have HS := Lib.hid hS
 have HBD := Lib.hid hB
 have HFW := Lib.hid hFw
 have HFA := Lib.hid hf
 have HLF := Lib.hid hlf
 have HSP := Lib.hid hsp
 have HNL := Lib.hid nl
 have HNS := Lib.hid ns
 have hbw : b < w.heap.size := (hFw b hbF).2
 clear hb hf hFw ht hS hB hlf hsp nl ns
 unfold SI.val
 go_enter Tryz.func31, Tryz.ntmps31
 go_wp2_with (fail)
 obtain ⟨w1, hw1⟩ : ∃ w1, w1 = (w.setCell ⟨b, 4, none⟩ (.bool false)).setCell ⟨b, 2, none⟩ (.bool false) := ⟨_, rfl⟩
 rw [← hw1]
 have hK1 : Keep [b] w w1 := by
  rw [hw1]
  exact ((Keep.refl _ w).setCell (p := ⟨b, 4, none⟩) (Or.inl (by simp)) _).setCell (p := ⟨b, 2, none⟩) (Or.inl (by simp)) _
 have hH1 : Hdr w1 b (onM M) mv t := by
  rw [hw1]
  exact ⟨by rw [blk_set (blk_set HH.out.1 4 _) 2 _]; rfl, fun h => by simp [onM] at h, HH.out.2.2⟩
 have hP1 : ProgTo n₀ w w1 b (onM M) F := HP.out.set2 (M' := onM M) (fun mv' t' h1 h2 h3 => ⟨t', by rw [hw1, blk_set (blk_set h1 4 _) 2 _]; rfl, fun h => by simp [onM] at h, h3⟩) rfl hK1
 have hF1 : FilesAt n₀ w1 mv M.L F := by
  rcases HFA.out with hf | ⟨mb, D, V, rfl, hV, hmF, hvF⟩
  ·exact Or.inl hf
  ·refine Or.inr ⟨mb, D, V, rfl, hV.keep hK1 (by have := HH.out.ne hV.own; simpa using fun e => this e.symm) (fun y hy _ k hk1 hk2 => ?_), hmF, hvF⟩
   rw [List.mem_singleton] at hk2
   subst hk2
   exact HH.out.ne_row (hV.val y hy (by simp)) (by rw [Option.mem_toList]; exact hk1)
 have hPA1 : ProgAt n₀ w1 b (onM M) F := ⟨⟨mv, t, hH1.1, hH1.2.1, hH1.2.2, hF1⟩, hlow, hbF, fun k hk => ⟨(HFW.out k hk).1, Nat.lt_of_lt_of_le (HFW.out k hk).2 hK1.size⟩⟩
 have KF1 := Lib.hid (hK1.mono (G := F) (fun x hx => by rw [List.mem_singleton] at hx; rw [hx]; exact hbF))
 have HH1 := Lib.hid hH1
 have HF1 := Lib.hid hF1
 have HPA1 := Lib.hid hPA1
 have HX1 := Lib.hid hw1
 clear hw1 hK1 hH1 hP1 hF1 hPA1 c2 c4 f2 f4
 refine (pnames_any n₀ w1 b (onM M) F HPA1.out HS.out hL).mono ?_
 rintro e w2 ⟨v, rfl, hnm, hb2⟩
 change OwnG strEl w1.heap.size w2 v (M.L.map (·.name)) at hnm
 have HB2 := Lib.hid hb2
 have HNM := Lib.hid hnm
 obtain ⟨np, ncap, hnv⟩ := ownG_len hnm
 rw [List.length_map] at hnv
 subst hnv
 have KF2 := Lib.hid (KF1.out.then hb2)
 clear hnm hb2
 go_wp2_with (fail)
 go_loopw [6, 19] (fun k i x => CrRel n₀ w2 b M mv t F lf.L sp.L k i x) (fun _ i _ => M.L.length - (intOf i).toNat)
 case atStart => exact ⟨0, 0, [], rfl, rfl, Nat.zero_le _, Nat.le_refl _, by simp, by simp, rfl, HH1.out.keep (Keep.of_bel HB2.out []) (by simp), by simpa using HF1.out.bel HB2.out, Keep.refl _ _⟩
 case round =>
  obtain ⟨j, kk, dn, rfl, rfl, hj, hkj, hcr, hnms, hdl, hhd, hfs, hkp⟩ := hrel
  have HCR := Lib.hid hcr
  have HNS2 := Lib.hid hnms
  have HDL := Lib.hid hdl
  have HHD := Lib.hid hhd
  have HFS := Lib.hid hfs
  have HKP := Lib.hid hkp
  clear hcr hnms hdl hhd hfs hkp
  by_cases hlt : j < M.L.length
  ·have hne : M.L.map (·.name) ≠ [] := by intro e; rw [List.map_eq_nil_iff] at e; rw [e] at hlt; simp at hlt
   have hnF : ∀ k, (Value.slice np (M.L.map (·.name)).length ncap).ownBlock = some k → k ∉ F := fun k hk hk2 => by
    have h1 := (HNM.out.lt k (by rw [List.length_map] at hk; exact hk)).1
    have h2 := (HFW.out k hk2).2
    have h3 := KF1.out.size
    omega
   have hnm2 := HNM.out.keep HKP.out (fun k hk => hnF k (by rw [List.length_map]; exact hk))
   obtain ⟨g, ncap', hv, _, hgl, _, hcs⟩ := ownG_cells strOk hnm2 hne
   rw [List.length_map] at hv
   simp only [Value.slice.injEq, true_and] at hv
   obtain ⟨rfl, rfl⟩ := hv
   obtain ⟨y, hy⟩ : ∃ y, y = M.L[j] := ⟨_, rfl⟩
   have d0 := hcs j M.L[j].name (by rw [List.getElem?_map, List.getElem?_eq_getElem hlt]; rfl) 0 _ rfl
   rw [← hy] at d0
   have HBY := Lib.hid (HBD.out M.L[j] (List.getElem_mem hlt))
   rw [← hy] at HBY
   have hdrop : M.L.drop j = y :: M.L.drop (j + 1) := by rw [hy]; exact List.drop_eq_getElem_cons hlt
   have HDR := Lib.hid hdrop
   rw [hdrop] at HFS HCR HNS2
   have HS2 := Lib.hid (srt_names HNS2.out.symm HS.out)
   have hym : y ∈ dn ++ y :: M.L.drop (j + 1) := by simp
   have hgy := getF_of_mem HS2.out hym
   rcases HFS.out with ⟨_, h0⟩ | ⟨mb, D, V, hmv, hV, hmF, hvF⟩
   ·simp at h0
   subst hmv
   obtain ⟨p, cap, hp, -⟩ := own_len (hV.val y hym (by simp))
   have HV := Lib.hid hV
   have HGY := Lib.hid hgy
   have HPV := Lib.hid hp
   have HMF := Lib.hid hmF
   have HVF := Lib.hid hvF
   obtain ⟨hb1, hb2, hb3⟩ := HBY.out
   have hsz : (⟨y.name.toArray⟩ : ByteArray).size ≤ maxLen := by show y.name.toArray.size ≤ _; rw [List.size_toArray]; unfold maxLen; omega
   have hnmL : (⟨y.name.toArray⟩ : ByteArray).data.toList = y.name := by simp
   have HLK := Lib.hid (fun z (hz : Bel wr z) => run_look_some (hV.bel hz) ⟨y.name.toArray⟩ hsz (by rw [hnmL]; exact hgy) false)
   rw [hnmL, hp] at HLK
   have c1 : wr.cell? ⟨b, 1, none⟩ = some (.map (some mb)) := by simp [World.cell?, HHD.out.1]
   have hbx : b < wr.heap.size := block_lt_of_cell c1
   have HMEM := Lib.hid hym
   have hsz2 := Lib.hid hsz
   have HNML := Lib.hid hnmL
   have hjk : kk ≤ 1000000 := by omega
   simp only [strEl, Nat.mul_one, Nat.add_zero] at d0
   clear hcs hnm2 hne hnF hy hdrop hym hgy hV hp hmF hvF hnmL hsz
   by_cases hsv : y.safe = y.bytes.length
   ·have hbe : ((y.safe : Int) == (y.bytes.length : Int)) = true := by rw [beq_iff_eq, hsv]
    have HSV := Lib.hid hsv
    clear hsv
    go_wp2_with (at_lookup; refine wpList_look (HLK.out _ (Bel.refl _)) rfl _ _ rfl rfl rfl ?_; unfold conV)
    refine (issaved_any _ p y.bytes.length cap y.safe).mono ?_
    rintro e w3 ⟨rfl, hb4⟩
    rw [hbe]
    have HB4 := Lib.hid (((Bel.refl wr).alloc _).trans hb4)
    clear hb4 hbe
    go_wp2_with (fail)
    go_roundw
    case rel =>
     refine ⟨j + 1, kk, dn ++ [y], by go_num, rfl, by omega, by omega, ?_, by simpa using HNS2.out, by simp [HDL.out], HHD.out.keep (Keep.of_bel HB4.out []) (by simp), ?_, HKP.out.then HB4.out⟩
     ·rw [HCR.out, crashF, if_pos HSV.out]; simp
     ·have := HFS.out.bel HB4.out
      simpa using this
    case measure => simp [intOf]; omega
   ·have hbe : ((y.safe : Int) == (y.bytes.length : Int)) = false := by rw [beq_eq_false_iff_ne]; omega
    have HSV := Lib.hid hsv
    clear hsv
    go_wp2_with (at_lookup; refine wpList_look (HLK.out _ (Bel.refl _)) rfl _ _ rfl rfl rfl ?_; unfold conV)
    refine (issaved_any _ p y.bytes.length cap y.safe).mono ?_
    rintro e w3 ⟨rfl, hb4⟩
    rw [hbe]
    have HB4 := Lib.hid (((Bel.refl wr).alloc _).trans hb4)
    have e0 : w3.cell? ⟨wr.heap.size, 0, none⟩ = some (.slice p y.bytes.length cap) := cell_later hb4 (by go_simp)
    have e1 : w3.cell? ⟨wr.heap.size, 1, none⟩ = some (.int .i64 y.safe) := cell_later hb4 (by go_simp)
    have e4 : w3.cell? ⟨b, 1, none⟩ = some (.map (some mb)) := cell_later HB4.out c1
    clear hb4 hbe
    go_wp2_with (fail)
    have KW3 := Lib.hid ((KF2.out.trans HKP.out (fun x hx => Or.inl hx)).then HB4.out)
    have hil := HLF.out.1.keep KW3.out HNL.out
    have his := HSP.out.1.keep KW3.out HNS.out
    have HIlf := Lib.hid (fun z (hz : Bel w3 z) => hil.bel hz)
    have HIsp := Lib.hid (fun z (hz : Bel w3 z) => his.bel hz)
    have Llf := Lib.hid HLF.out.2.1
    have Lsp := Lib.hid HSP.out.2.1
    have HAQ := Lib.hid (at_in64 HLF.out.2.2 kk)
    have HOW := Lib.hid (show Own n₀ wr (.slice p y.bytes.length cap) y.bytes from HPV.out ▸ HV.out.val y HMEM.out (by simp))
    have HQ9 := Lib.hid (own_old HOW.out (Nat.le_refl _))
    have HQB := Lib.hid (HHD.out.ne_row HOW.out)
    have HRF := Lib.hid (show ∀ k ∈ (Value.slice p y.bytes.length cap).ownBlock.toList, k ∈ F from fun k hk => HVF.out y HMEM.out k (by rw [HPV.out]; rwa [Option.mem_toList] at hk))
    have NB9 : wr.heap.size ≠ mb := by have := HV.out.lt; omega
    have N4 := HHD.out.ne HV.out.own
    have HLEN := Lib.hid (show (dn ++ y :: M.L.drop (j + 1)).length ≤ 1000000 by have := congrArg List.length HNS2.out; simp only [List.length_map] at this; omega)
    have D0 := (Bel.refl w3).drew
    clear hil his
    refine wp_region_held_drew (S := fun z => (z.cell? ⟨wr.heap.size, 0, none⟩ = some (.slice p y.bytes.length cap) ∧ z.cell? ⟨wr.heap.size, 1, none⟩ = some (.int .i64 y.safe) ∧ z.cell? ⟨b, 1, none⟩ = some (.map (some mb)))) (by kernel_rfl) ⟨e0, e1, e4⟩ (fun hHeld => ?_)
    refine tq ⟨some 32, .move (.tmp 0), 55, "file.go:161", #[], none⟩ ?_ 0 rfl ?_ ?_;rotate_left;·(intros;go_simp<;>with_reducible rfl)
    try simp only[Act.put,sqA,sqB,sqC]
    refine tq ⟨some 33, .nilCheck (.tmp 32), 0, "file.go:161", #[⟨0, .data⟩], none⟩ ?_ 1 rfl ?_ ?_;rotate_left;·(intros;go_simp<;>with_reducible rfl)
    try simp only[Act.put,sqA,sqB,sqC]
    refine tq ⟨some 34, .fieldAddr 113 (.tmp 33) 1, 0, "file.go:161", #[⟨1, .data⟩], none⟩ ?_ 2 rfl ?_ ?_;rotate_left;·(intros;go_simp<;>with_reducible rfl)
    try simp only[Act.put,sqA,sqB,sqC]
    refine tq ⟨some 35, .load 111 (.tmp 34), 111, "file.go:161", #[⟨2, .data⟩], none⟩ ?_ 3 rfl ?_ ?_;rotate_left;·(intros;go_simp<;>with_reducible rfl)
    try simp only[Act.put,sqA,sqB,sqC]
    refine tq ⟨some 36, .move (.tmp 8), 9, "file.go:161", #[], none⟩ ?_ 4 rfl ?_ ?_;rotate_left;·(intros;go_simp<;>with_reducible rfl)
    try simp only[Act.put,sqA,sqB,sqC]
    refine tq ⟨some 37, .load 116 (.tmp 9), 116, "file.go:161", #[], none⟩ ?_ 5 rfl ?_ ?_;rotate_left;·(intros;go_simp<;>with_reducible rfl)
    try simp only[Act.put,sqA,sqB,sqC]
    refine tq ⟨some 38, .move (.tmp 1), 52, "file.go:161", #[], none⟩ ?_ 6 rfl ?_ ?_;rotate_left;·(intros;go_simp<;>with_reducible rfl)
    try simp only[Act.put,sqA,sqB,sqC]
    refine tq ⟨some 39, .move (.tmp 6), 3, "file.go:161", #[], none⟩ ?_ 7 rfl ?_ ?_;rotate_left;·(intros;go_simp<;>with_reducible rfl)
    try simp only[Act.put,sqA,sqB,sqC]
    refine tq ⟨some 41, .move (.tmp 2), 52, "file.go:161", #[], none⟩ ?_ 9 rfl ?_ ?_;rotate_left;·(intros;go_simp<;>with_reducible rfl)
    try simp only[Act.put,sqA,sqB,sqC]
    refine tq ⟨some 42, .move (.tmp 6), 3, "file.go:161", #[], none⟩ ?_ 10 rfl ?_ ?_;rotate_left;·(intros;go_simp<;>with_reducible rfl)
    try simp only[Act.put,sqA,sqB,sqC]
    refine wpAnyH_ready (rs := [8]) (by kernel_rfl) (by simp) ?_
    refine ar1 ⟨some 40, .call ⟨.value (.func 57), #[.tmp 38, .tmp 39], #[52, 3]⟩, 3, "file.go:161", #[⟨6, .data⟩, ⟨7, .data⟩], none⟩ rfl (fun K hK => ?_)
    ·go_simp
     refine (pat_any _ lf.p lf.cap lf.L kk (HIlf.out _ D0) Llf.out hjk).mono ?_
     rintro e wa ⟨rfl, hdwa⟩
     have Dwa := Lib.hid (Bel.trans D0 hdwa.bel)
     have Swa : (wa.cell? ⟨wr.heap.size, 0, none⟩ = some (.slice p y.bytes.length cap) ∧ wa.cell? ⟨wr.heap.size, 1, none⟩ = some (.int .i64 y.safe) ∧ wa.cell? ⟨b, 1, none⟩ = some (.map (some mb))) := ⟨cell_later Dwa.out e0, cell_later Dwa.out e1, cell_later Dwa.out e4⟩
     dsimp only
     refine hK.out _ _ Swa (fun hHeldwa => ?_)
     clear hK K hdwa
     try simp only[Act.put,sqA,sqB,sqC]
     refine wpAnyH_ready (rs := [11]) (by kernel_rfl) (by simp) ?_
     refine ar1 ⟨some 43, .call ⟨.value (.func 57), #[.tmp 41, .tmp 42], #[52, 3]⟩, 3, "file.go:161", #[⟨9, .data⟩, ⟨10, .data⟩, ⟨8, .chain⟩], none⟩ rfl (fun K hK => ?_)
     go_simp
     refine (pat_any _ sp.p sp.cap sp.L kk (HIsp.out _ Dwa.out) Lsp.out hjk).mono ?_
     rintro e wb ⟨rfl, hdwb⟩
     have Dwb := Lib.hid (Bel.trans Dwa.out hdwb.bel)
     have Swb : (wb.cell? ⟨wr.heap.size, 0, none⟩ = some (.slice p y.bytes.length cap) ∧ wb.cell? ⟨wr.heap.size, 1, none⟩ = some (.int .i64 y.safe) ∧ wb.cell? ⟨b, 1, none⟩ = some (.map (some mb))) := ⟨cell_later Dwb.out e0, cell_later Dwb.out e1, cell_later Dwb.out e4⟩
     dsimp only
     refine hK.out _ _ Swb (fun hHeldwb => ?_)
     clear hK K hdwb
     try simp only[Act.put,sqA,sqB,sqC]
     refine wpAnyH_ready (rs := [12]) (by kernel_rfl) (by simp) ?_
     refine ar1 ⟨some 44, .call ⟨.value (.func 56), #[.tmp 37, .tmp 40, .tmp 43], #[116, 3, 3]⟩, 116, "file.go:161", #[⟨5, .data⟩, ⟨8, .data⟩, ⟨11, .data⟩, ⟨11, .chain⟩], none⟩ rfl (fun K hK => ?_)
     go_simp
     refine (crashed_any n₀ _ p y.bytes.length cap y.safe y.bytes (atN lf.L kk) (atN sp.L kk) (HOW.out.bel (HB4.out.trans Dwb.out)) hb2 hb1 HAQ.out).mono ?_
     rintro e w5 ⟨rfl, hv5, hk5⟩
     have HV5 := Lib.hid hv5
     have HK5 := Lib.hid (((Keep.of_bel (HB4.out.trans Dwb.out) _).trans hk5 (fun x hx => Or.inl hx)))
     have S5 : (w5.cell? ⟨wr.heap.size, 0, none⟩ = some (.slice p y.bytes.length cap) ∧ w5.cell? ⟨wr.heap.size, 1, none⟩ = some (.int .i64 y.safe) ∧ w5.cell? ⟨b, 1, none⟩ = some (.map (some mb))) := ⟨hk5.cell Swb.1 HQ9.out, hk5.cell Swb.2.1 HQ9.out, hk5.cell Swb.2.2 HQB.out⟩
     have HV2 := Lib.hid (show FilesV n₀ w5 mb D V (dn ++ y :: M.L.drop (j + 1)) (some y.name) from HV.out.but HMEM.out (by rw [HPV.out]; exact HK5.out))
     clear hv5 hk5
     dsimp only
     refine hK.out _ _ S5 (fun hHeld5 => ?_)
     clear hK K
     try simp only[Act.put,sqA,sqB,sqC]
     refine wpAnyH_ready (rs := [13]) (by kernel_rfl) (by simp) ?_
     refine ar1 ⟨none, .mapUpdate 111 (.tmp 35) (.tmp 36) (.tmp 44), 0, "file.go:161", #[⟨3, .data⟩, ⟨4, .data⟩, ⟨12, .data⟩, ⟨12, .chain⟩, ⟨0, .phase⟩, ⟨1, .phase⟩, ⟨2, .phase⟩, ⟨3, .phase⟩, ⟨4, .phase⟩, ⟨5, .phase⟩, ⟨6, .phase⟩, ⟨7, .phase⟩, ⟨8, .phase⟩, ⟨9, .phase⟩, ⟨10, .phase⟩, ⟨11, .phase⟩, ⟨12, .phase⟩], none⟩ rfl (fun K hK => ?_)
     refine step_store (mb := mb) (s := ⟨y.name.toArray⟩) (val := .agg #[.slice p (y.safe + leftN (atN lf.L kk) (y.bytes.length - y.safe)) cap, .int .i64 (y.safe + leftN (atN lf.L kk) (y.bytes.length - y.safe) : Nat)]) rfl (.tmp 35) (.tmp 36) (.tmp 44) rfl rfl rfl rfl HV2.out.own HLEN.out hsz2.out ?_
     intro w6 ho hk6
     refine hK.out _ _ ⟨hk6.cell S5.1 (by simpa using NB9), hk6.cell S5.2.1 (by simpa using NB9), hk6.cell S5.2.2 (by simpa using N4)⟩ (fun hHeld6 => ?_)
     clear hK K
     try simp only[Act.put,sqA,sqB,sqC]
     refine wpAnyH_done (by kernel_rfl) ?_ _
     have HO := Lib.hid ho
     have HK6 := Lib.hid hk6
     clear ho hk6 S5
     go_wp2_with (fail)
     go_roundw
     case rel =>
      have hval := HV5.out.keep HK6.out (fun k hk1 hk2 => by
       rw [List.mem_singleton] at hk2
       subst hk2
       exact HV2.out.ne_row HV5.out hk1)
      have hput := FilesV.put (y := crX (atN lf.L kk) (atN sp.L kk) y) (v' := .slice p (y.safe + leftN (atN lf.L kk) (y.bytes.length - y.safe)) cap) HS2.out (by rw [crX_name]; exact HV2.out) (x := w6) (n := (dn ++ y :: M.L.drop (j + 1)).length + 1) (by
        have := HO.out
        simp only [List.toList_toArray] at this
        exact this) HK6.out hval (fun z hz hne k hk => by
        rw [crX_name] at hne
        exact HV.out.apart y HMEM.out z hz (fun e => hne e.symm) k (by rw [HPV.out, slice_block p _ (y.safe + leftN (atN lf.L kk) (y.bytes.length - y.safe)) cap]; exact hk))
      rw [ins_at HS2.out (crX_name _ _ _)] at hput
      have hKF : Keep F w2 w6 := ((HKP.out.trans (HK5.out.mono (G := F) HRF.out) (fun x hx => Or.inl hx))).trans (HK6.out.mono (G := F) (fun x hx => by rw [List.mem_singleton] at hx; rw [hx]; exact HMF.out)) (fun x hx => Or.inl hx)
      refine ⟨j + 1, kk + 1, dn ++ [crX (atN lf.L kk) (atN sp.L kk) y], by go_num, by go_num, by omega, by omega, ?_, by have := HNS2.out; simpa [crX_name] using this, by simp [HDL.out], (HHD.out.keep HK5.out HQB.out).keep HK6.out (by simpa using N4), ?_, hKF⟩
      ·rw [HCR.out, crashF, if_neg HSV.out]; simp
      ·refine Or.inr ⟨mb, _, _, rfl, by simpa using hput, HMF.out, fun z hz k hk => ?_⟩
       by_cases he : z.name = y.name
       ·simp only [crX_name, he, if_true] at hk
        exact HVF.out y HMEM.out k (by rw [HPV.out, slice_block p _ (y.safe + leftN (atN lf.L kk) (y.bytes.length - y.safe)) cap]; exact hk)
       ·simp only [crX_name, he, if_false] at hk
        refine HVF.out z ?_ k hk
        simp only [List.append_assoc, List.singleton_append, List.mem_append, List.mem_cons] at hz ⊢
        rcases hz with hz | rfl | hz
        ·exact Or.inl hz
        ·exact absurd (crX_name _ _ _) he
        ·exact Or.inr (Or.inr hz)
     case measure => simp [intOf]; omega
  ·obtain rfl : j = M.L.length := by omega
   go_wp2_with (fail)
   go_end0
   have e : M.L.drop M.L.length = [] := List.drop_length ..
   rw [e] at HFS HCR
   have ec : crashF lf.L sp.L 0 M.L = dn := by rw [HCR.out]; simp [crashF]
   refine ⟨⟨_, rfl⟩, F, ⟨⟨mv, t, HHD.out.1, HHD.out.2.1, HHD.out.2.2, ?_⟩, hlow, hbF, fun k hk => ⟨(HFW.out k hk).1, Nat.lt_of_lt_of_le (HFW.out k hk).2 (Nat.le_trans KF2.out.size HKP.out.size)⟩⟩, KF2.out.trans HKP.out (fun x hx => Or.inl hx), fun k hk => Or.inl hk⟩
   show FilesAt n₀ _ mv (crashF lf.L sp.L 0 M.L) F
   rw [ec]
   simpa using HFS.out

structure RS.ok (M : RS) : Prop where
 srt : Srt M.L
 len : M.L.length ≤ 60
 room : 0 ≤ M.room ∧ M.room ≤ 10000000
 fits : (bytesN M.L : Int) ≤ M.room
 turns : -1 ≤ M.turns ∧ M.turns ≤ 9223372036854775807
 each : ∀ x ∈ M.L, nameB x.name = true ∧ x.safe ≤ x.bytes.length
theorem new_ok (room : Int) (h : 0 ≤ room ∧ room ≤ 10000000) : (newS room).ok :=
 ⟨List.Pairwise.nil, by simp [newS], h, by simp [newS, bytesN]; exact h.1, by simp [newS], fun x hx => by cases hx⟩
theorem RS.ok.files {M : RS} (h : M.ok) {L' : List FI} (h1 : Srt L') (h2 : L'.length ≤ 60) (h3 : (bytesN L' : Int) ≤ M.room) (h4 : ∀ x ∈ L', nameB x.name = true ∧ x.safe ≤ x.bytes.length) : RS.ok { M with L := L' } := ⟨h1, h2, h.room, h3, h.turns, h4⟩
theorem turn_ok {M : RS} (h : M.ok) : (turnS M).2.ok := by
 obtain ⟨h1, h2, h3, h4, h5, h6⟩ := h
 unfold turnS
 split
 ·exact ⟨h1, h2, h3, h4, h5, h6⟩
 ·split
  ·exact ⟨h1, h2, h3, h4, by simp only []; omega, h6⟩
  ·exact ⟨h1, h2, h3, h4, h5, h6⟩
theorem turn_room (M : RS) : (turnS M).2.room = M.room := by unfold turnS; split; rfl; split <;> rfl
theorem chg_ok {M : RS} (h : M.ok) {L' : List FI} (h1 : Srt L') (h2 : L'.length ≤ 60) (h3 : (bytesN L' : Int) ≤ M.room) (h4 : ∀ x ∈ L', nameB x.name = true ∧ x.safe ≤ x.bytes.length) : (chgS M L').2.ok := by
 unfold chgS
 split
 ·exact turn_ok h
 ·exact (turn_ok h).files h1 h2 (by rw [turn_room]; exact h3) h4
theorem name_len {nm : List UInt8} (h : nameB nm = true) : nm.length ≤ 24 := by
 unfold nameB at h
 simp at h
 exact h.2.2
theorem ins_old_ok {M : RS} (h : M.ok) {nm : List UInt8} {y x : FI} (hy : getF nm M.L = some y) (hn : x.name = y.name) (hb : x.bytes.length ≤ y.bytes.length) (hs : x.safe ≤ x.bytes.length) : (chgS M (insS x M.L)).2.ok := by
 have hg := getF_of_mem h.srt (getF_mem hy)
 refine chg_ok h (srt_ins x h.srt) ?_ ?_ ?_
 ·rw [len_ins x h.srt, hn, hg]; exact h.len
 ·have := bytes_ins x h.srt
  rw [hn, hg] at this
  simp only [szO] at this
  have := h.fits
  omega
 ·intro z hz
  rcases mem_ins hz with rfl | hz
  ·exact ⟨by rw [hn]; exact (h.each y (getF_mem hy)).1, hs⟩
  ·exact h.each z hz
theorem adm_zero {nm : List UInt8} {k : Nat} {M : RS} (h : admS nm k M = 0) : M.gone = false ∧ nameB nm = true ∧ ¬ ((getF nm M.L).isSome = false ∧ 60 ≤ M.L.length) ∧ ¬ M.room < (bytesN M.L : Int) + k := by
 unfold admS at h
 split at h
 ·cases h
 ·rename_i hg
  split at h
  ·cases h
  ·rename_i hn
   split at h
   ·cases h
   ·rename_i hm
    split at h
    ·cases h
    ·rename_i hf
     exact ⟨by simpa using hg, by simpa using hn, hm, hf⟩
theorem addF_len (nm s : List UInt8) (L : List FI) : (addF nm s L).bytes.length = szO (getF nm L) + s.length := by
 unfold addF szO
 cases getF nm L with
 | none => simp
 | some y => simp
theorem addF_safe {nm s : List UInt8} {L : List FI} (h : ∀ x ∈ L, nameB x.name = true ∧ x.safe ≤ x.bytes.length) : (addF nm s L).safe ≤ (addF nm s L).bytes.length := by
 unfold addF
 cases hy : getF nm L with
 | none => simp
 | some y => have := (h y (getF_mem hy)).2; simp; omega
theorem add_ok {M : RS} (h : M.ok) (nm s : List UInt8) : (addS nm s M).2.ok := by
 unfold addS
 split
 ·rename_i ha
  obtain ⟨h1, h2, h3, h4⟩ := adm_zero ha
  refine chg_ok h (srt_ins _ h.srt) ?_ ?_ ?_
  ·rw [len_ins _ h.srt, addF_name]
   split
   ·exact h.len
   ·rename_i hc
    rw [Bool.not_eq_true] at hc
    have : ¬ 60 ≤ M.L.length := fun h60 => h3 ⟨hc, h60⟩
    omega
  ·have := bytes_ins (addF nm s M.L) h.srt
   rw [addF_name, addF_len] at this
   omega
  ·intro z hz
   rcases mem_ins hz with rfl | hz
   ·exact ⟨by rw [addF_name]; exact h2, addF_safe h.each⟩
   ·exact h.each z hz
 ·exact h
theorem on_ok {M : RS} (h : M.ok) (nm : List UInt8) {k : FI → Int × RS} (hk : ∀ y, getF nm M.L = some y → (k y).2.ok) : (onS nm M k).2.ok := by
 unfold onS
 split
 ·exact h
 ·cases hy : getF nm M.L with
  | none => exact h
  | some y => exact hk y hy
theorem flush_ok {M : RS} (h : M.ok) (nm : List UInt8) : (flushS nm M).2.ok := on_ok h nm fun y hy => ins_old_ok h hy rfl (Nat.le_refl _) (Nat.le_refl _)
theorem cut_ok {M : RS} (h : M.ok) (nm : List UInt8) (n : Int) : (cutS nm n M).2.ok := on_ok h nm fun y hy => by
 split
 ·exact h
 ·rename_i hn
  refine ins_old_ok h hy rfl (by simp; omega) ?_
  have : (y.bytes.take n.toNat).length = n.toNat := by rw [List.length_take]; omega
  show min y.safe n.toNat ≤ (y.bytes.take n.toNat).length
  omega
theorem out_files {M : RS} (h : M.ok) (nm : List UInt8) : Srt (outS nm M.L) ∧ (outS nm M.L).length ≤ M.L.length ∧ bytesN (outS nm M.L) ≤ bytesN M.L ∧ ∀ x ∈ outS nm M.L, nameB x.name = true ∧ x.safe ≤ x.bytes.length := by
 refine ⟨srt_out nm h.srt, ?_, ?_, fun x hx => h.each x (mem_out hx)⟩
 ·rw [len_out nm h.srt]; split <;> omega
 ·have := bytes_out nm h.srt; omega
theorem drop_ok {M : RS} (h : M.ok) (nm : List UInt8) : (dropS nm M).2.ok := on_ok h nm fun y hy => by
 obtain ⟨h1, h2, h3, h4⟩ := out_files h nm
 exact chg_ok h h1 (Nat.le_trans h2 h.len) (by have := h.fits; omega) h4
theorem lim_ok {M : RS} (h : M.ok) (t : Int) (ht : in64 t) : (limS t M).ok := by
 obtain ⟨h1, h2, h3, h4, h5, h6⟩ := h
 obtain ⟨t1, t2⟩ := ht
 exact ⟨h1, h2, h3, h4, by unfold limS; simp only []; split <;> omega, h6⟩
theorem left_le (l : Int) (k : Nat) : leftN l k ≤ k := by unfold leftN; omega
theorem crX_len (l s : Int) (x : FI) (h : x.safe ≤ x.bytes.length) : (crX l s x).bytes.length = x.safe + leftN l (x.bytes.length - x.safe) := by
 have := left_le l (x.bytes.length - x.safe)
 unfold crX
 simp only []
 split
 ·rw [List.length_take]; omega
 ·rw [List.length_set, List.length_take]; omega
theorem crash_names (lf sp : List Int) : ∀ (L : List FI) (k : Nat), (crashF lf sp k L).map (·.name) = L.map (·.name)
 | [], _ => rfl
 | x :: L, k => by
  rw [crashF]
  split
  ·rw [List.map_cons, crash_names, List.map_cons]
  ·rw [List.map_cons, crash_names, List.map_cons]; rfl
theorem crash_bytes (lf sp : List Int) : ∀ (L : List FI) (k : Nat), (∀ x ∈ L, x.safe ≤ x.bytes.length) → bytesN (crashF lf sp k L) ≤ bytesN L
 | [], _, _ => Nat.le_refl _
 | x :: L, k, h => by
  rw [crashF]
  split
  ·have := crash_bytes lf sp L k (fun y hy => h y (by simp [hy]))
   simp only [bytesN]; omega
  ·have := crash_bytes lf sp L (k + 1) (fun y hy => h y (by simp [hy]))
   have h1 := crX_len (atN lf k) (atN sp k) x (h x (by simp))
   have h2 := left_le (atN lf k) (x.bytes.length - x.safe)
   have h3 := h x (by simp)
   simp only [bytesN]; omega
theorem crash_each (lf sp : List Int) : ∀ (L : List FI) (k : Nat), (∀ x ∈ L, nameB x.name = true ∧ x.safe ≤ x.bytes.length) → ∀ x ∈ crashF lf sp k L, nameB x.name = true ∧ x.safe ≤ x.bytes.length
 | [], _, _, x, hx => by cases hx
 | y :: L, k, h, x, hx => by
  rw [crashF] at hx
  split at hx
  ·rcases List.mem_cons.1 hx with rfl | hx
   ·exact h x (by simp)
   ·exact crash_each lf sp L k (fun z hz => h z (by simp [hz])) x hx
  ·rcases List.mem_cons.1 hx with rfl | hx
   ·exact ⟨(h y (by simp)).1, by rw [crX_len _ _ _ (h y (by simp)).2]; exact Nat.le_refl _⟩
   ·exact crash_each lf sp L (k + 1) (fun z hz => h z (by simp [hz])) x hx
theorem crash_ok {M : RS} (h : M.ok) (lf sp : List Int) : (crashS lf sp M).ok := by
 have hn := crash_names lf sp M.L 0
 refine ⟨srt_names hn.symm h.srt, ?_, h.room, ?_, by simp [crashS, onM], crash_each lf sp M.L 0 h.each⟩
 ·have := congrArg List.length hn
  simp only [List.length_map] at this
  show (crashF lf sp 0 M.L).length ≤ 60
  rw [this]; exact h.len
 ·have := crash_bytes lf sp M.L 0 (fun x hx => (h.each x hx).2)
  have := h.fits
  show ((bytesN (crashF lf sp 0 M.L) : Nat) : Int) ≤ M.room
  omega
def pickN (c : Int) (n : Nat) : Nat := if c < 0 then (-(c + 1)).toNat % n else c.toNat % n
theorem pickN_lt (c : Int) {n : Nat} (h : 0 < n) : pickN c n < n := by unfold pickN; split <;> exact Nat.mod_lt _ h
def AV.small (a : AV) : Bool := decide (a.data.size ≤ 500) && decide (a.name.size ≤ 100) && decide (a.to.size ≤ 100) && decide (a.left.L.length ≤ 80) && decide (a.spoil.L.length ≤ 80)

structure ArgOut (F : List Nat) (a : AV) : Prop where
 left : ∀ d, a.left.p = some d → a.left.L ≠ [] → d.block ∉ F
 spoil : ∀ d, a.spoil.p = some d → a.spoil.L ≠ [] → d.block ∉ F
theorem each_ok {M : RS} (h : M.ok) : ∀ x ∈ M.L, x.bytes.length ≤ 1000000000 ∧ x.safe ≤ x.bytes.length ∧ x.name.length ≤ 1000 := fun x hx =>
 ⟨Nat.le_trans (bytes_mem hx) (by have := h.fits; have := h.room; omega), (h.each x hx).2, Nat.le_trans (name_len (h.each x hx).1) (by omega)⟩
theorem ProgTo.before {n₀ : Nat} {w y x : World} {b : Nat} {M : RS} {F : List Nat} (h : ProgTo n₀ y x b M F) (hb : Bel w y) : ProgTo n₀ w x b M F := by
 obtain ⟨G, h1, h2, h3⟩ := h
 exact ⟨G, h1, (Keep.of_bel hb F).trans h2 (fun x hx => Or.inl hx), fun k hk => (h3 k hk).imp id (fun h => Nat.le_trans hb.size h)⟩

def St (w₀ x : World) (b : Nat) (M : RS) : Prop := (∃ F, ProgAt w₀.heap.size x b M F) ∧ Bel w₀ x ∧ M.ok
section
variable {w₀ x y : World} {b : Nat} {M M' : RS} {F : List Nat}
theorem St.bel (h : St w₀ x b M) (hb : Bel x y) : St w₀ y b M := by
 obtain ⟨⟨F, h1⟩, h2, h3⟩ := h
 exact ⟨⟨F, h1.bel hb⟩, h2.trans hb, h3⟩
theorem St.low (h : St w₀ x b M) : Bel w₀ x := h.2.1
theorem St.good (h : St w₀ x b M) : M.ok := h.2.2
theorem good_len (h : M.ok) : M.L.length ≤ 1000 := Nat.le_trans h.len (by omega)
theorem good_bytes (h : M.ok) : bytesN M.L ≤ 1000000000 := by have := h.fits; have := h.room; omega
end
theorem ints_low {w : World} {s : SI} (h : SI.ok w s) : ∀ d, s.p = some d → s.L ≠ [] → d.block < w.heap.size := by
 intro d hd hne
 obtain ⟨a, ha, hc⟩ := h.1 0 (List.length_pos_iff.2 hne)
 obtain rfl : d = a := by rw [hd] at ha; simpa using ha
 have := block_lt_of_cell hc
 rwa [add_block] at this

theorem own_low {B B' : Nat} {w : World} {v : Value} {l : List UInt8} (h : Own B w v l) (hB : B' ≤ B) : Own B' w v l := by
 obtain ⟨h1, h2⟩ := h
 refine ⟨h1, ?_⟩
 rcases h2 with h2 | ⟨g, cap, cur, hv, hg, r⟩
 ·exact Or.inl h2
 ·exact Or.inr ⟨g, cap, cur, hv, Nat.le_trans hB hg, r⟩
theorem prog_low {n n' : Nat} {w : World} {b : Nat} {M : RS} {F : List Nat} (h : ProgAt n w b M F) (hn : n' ≤ n) : ProgAt n' w b M F := by
 refine ⟨?_, Nat.le_trans hn h.low, h.mem, fun k hk => ⟨Nat.le_trans hn (h.within k hk).1, (h.within k hk).2⟩⟩
 obtain ⟨mv, t, a1, a2, a3, a4⟩ := h.ex
 refine ⟨mv, t, a1, a2, a3, ?_⟩
 rcases a4 with a4 | ⟨mb, D, V, a5, a6, a7, a8⟩
 ·exact Or.inl a4
 ·exact Or.inr ⟨mb, D, V, a5, ⟨a6.own, Nat.le_trans hn a6.low, a6.size, a6.has, a6.at_, (fun y hy he => own_low (a6.val y hy he) hn), a6.apart⟩, a7, a8⟩

def RefP (n₀ : Nat) (w : World) (b : Nat) (M : RS) (F : List Nat) : Prop := ∃ v, RefAt n₀ w b M v ∧ b ∈ F ∧ (∀ k, v.ownBlock = some k → k ∈ F) ∧ ∀ k ∈ F, n₀ ≤ k ∧ k < w.heap.size
def RefTo (n₀ : Nat) (w x : World) (b : Nat) (M : RS) (F : List Nat) : Prop := ∃ G, RefP n₀ x b M G ∧ Keep F w x ∧ ∀ k ∈ G, k ∈ F ∨ w.heap.size ≤ k
def thereG (nm : List UInt8) (M : RS) : FI × Int := if M.gone then (noFile, 7) else match getF nm M.L with
  | some y => (y, 0)
  | none => (noFile, 4)
theorem there_eq (nm : List UInt8) {M : RS} (hs : Srt M.L) : thereS nm M = thereG nm M := by
 unfold thereS thereG
 cases hI : isN nm M.L with
 | true =>
  have h1 := find_getF nm hs hI
  have h2 := is_getF nm hs
  rw [hI] at h2
  cases hy : getF nm M.L with
  | none => rw [hy] at h2; cases h2
  | some y => rw [h1, hy]; rfl
 | false =>
  have h2 := is_getF nm hs
  rw [hI] at h2
  cases hy : getF nm M.L with
  | some y => rw [hy] at h2; cases h2
  | none => rfl
section
variable {n₀ : Nat} {w x y : World} {b : Nat} {M M' : RS} {F : List Nat} {v v' : Value}
theorem ref_to (hb : b ∈ F) (hv : ∀ k, v.ownBlock = some k → k ∈ F) (hF : ∀ k ∈ F, n₀ ≤ k ∧ k < w.heap.size) (hn : n₀ ≤ w.heap.size) (h : RefAt n₀ x b M v') (hk : Keep F w x) (hv' : v' = v ∨ ∀ k, v'.ownBlock = some k → w.heap.size ≤ k ∧ k < x.heap.size) : RefTo n₀ w x b M F := by
 refine ⟨F ++ v'.ownBlock.toList, ⟨v', h, by simp [hb], fun k hk => by simp [hk], fun k hk' => ?_⟩, hk, fun k hk' => ?_⟩
 ·rw [List.mem_append] at hk'
  rcases hk' with hk' | hk'
  ·exact ⟨(hF k hk').1, Nat.lt_of_lt_of_le (hF k hk').2 hk.size⟩
  ·have e : v'.ownBlock = some k := by simpa using hk'
   rcases hv' with rfl | hv'
   ·have := hF k (hv k e)
    exact ⟨this.1, Nat.lt_of_lt_of_le this.2 hk.size⟩
   ·exact ⟨Nat.le_trans hn (hv' k e).1, (hv' k e).2⟩
 ·rw [List.mem_append] at hk'
  rcases hk' with hk' | hk'
  ·exact Or.inl hk'
  ·have e : v'.ownBlock = some k := by simpa using hk'
   rcases hv' with rfl | hv'
   ·exact Or.inl (hv k e)
   ·exact Or.inr (hv' k e).1
theorem own_lt (h : RefAt n₀ w b M v) : ∀ k, v.ownBlock = some k → n₀ ≤ k ∧ k < w.heap.size := h.own.lt
end
theorem one_in {b n : Nat} {F : List Nat} (hb : b ∈ F) : ∀ x ∈ [b], x ∈ F ∨ n ≤ x := fun x hx => by rw [List.mem_singleton] at hx; subst hx; exact Or.inl hb
theorem RefAt.far {n₀ : Nat} {w x : World} {b B i : Nat} {M M' : RS} {v : Value} (h : RefAt n₀ w b M v) (h2 : RefAt n₀ x b M' v) (hB : w.heap.size ≤ B) (u : Value) : RefAt n₀ (x.setCell ⟨B, i, none⟩ u) b M' v :=
 h2.keep (keep_set x B i u) (by have := h.lt; rw [List.mem_singleton]; omega) (fun k hk => by have := (own_lt h k hk).2; rw [List.mem_singleton]; omega)
theorem fturn_zero {M : RS} (h : M.turns = 0) : turnS M = (7, { M with gone := true }) := by unfold turnS; rw [if_pos h]
theorem turn_one {M : RS} (h : ¬ M.turns = 0) : (turnS M).1 = 0 := by unfold turnS; rw [if_neg h]; split <;> rfl

set_option maxHeartbeats 4000000 in
set_option maxRecDepth 20000 in
theorem rflush_any (n₀ : Nat) (w : World) (b : Nat) (M : RS) (F : List Nat) (s : ByteArray) (h : RefP n₀ w b M F) (hM : M.ok) :
  Calls Tryz.prog 104 #[.pointer (some ⟨b, 0, none⟩), .string s] w fun e w' => e = .returned (.int .i64 (flushS s.data.toList M).1) ∧ RefTo n₀ w w' b (flushS s.data.toList M).2 F := by
 obtain ⟨v, h, hb, hv, hF⟩ := h
 have HR := Lib.hid h
 have HM := Lib.hid hM
 have hn : n₀ ≤ w.heap.size := Nat.le_of_lt (Nat.lt_of_le_of_lt h.low h.lt)
 have HTo := Lib.hid (fun x M' v' => ref_to (x := x) (M := M') (v' := v') hb hv hF hn)
 have hbF := Lib.hid hb
 clear h hM hb hv hF
 go_enter Tryz.func104, Tryz.ntmps104
 go_wp2_with (fail)
 refine (there_any n₀ _ b M v s HR.out (by have := HM.out.len; omega)).mono ?_
 rintro e w1 ⟨rfl, hb1⟩
 have HB := Lib.hid hb1
 clear hb1
 rw [there_eq _ HM.out.srt]
 unfold fileW
 cases hg : M.gone with
 | true =>
  have HA := Lib.hid (show flushS s.data.toList M = (7, M) by unfold flushS onS; rw [if_pos hg])
  have HT := Lib.hid (show thereG s.data.toList M = (noFile, 7) by unfold thereG; rw [if_pos hg])
  clear hg
  rw [HT.out]
  unfold noFile
  go_wp2_with (fail)
  go_ret
  rw [HA.out]
  exact ⟨rfl, HTo.out _ _ _ (HR.out.bel (HB.out.alloc _)) (Keep.of_bel (HB.out.alloc _) F) (Or.inl rfl)⟩
 | false =>
  cases hy : getF s.data.toList M.L with
  | none =>
   have HA := Lib.hid (show flushS s.data.toList M = (4, M) by unfold flushS onS; rw [if_neg (by rw [hg]; simp), hy])
   have HT := Lib.hid (show thereG s.data.toList M = (noFile, 4) by unfold thereG; rw [if_neg (by rw [hg]; simp), hy])
   clear hg hy
   rw [HT.out]
   unfold noFile
   go_wp2_with (fail)
   go_ret
   rw [HA.out]
   exact ⟨rfl, HTo.out _ _ _ (HR.out.bel (HB.out.alloc _)) (Keep.of_bel (HB.out.alloc _) F) (Or.inl rfl)⟩
  | some y =>
   have HA := Lib.hid (show flushS s.data.toList M = chgS M (insS { y with safe := y.bytes.length } M.L) by unfold flushS onS; rw [if_neg (by rw [hg]; simp), hy])
   have HT := Lib.hid (show thereG s.data.toList M = (y, 0) by unfold thereG; rw [if_neg (by rw [hg]; simp), hy])
   clear hg hy
   rw [HT.out]
   go_wp2_with (fail)
   refine (turn_any n₀ _ b M v (HR.out.bel (HB.out.alloc _)) HM.out.turns).mono ?_
   rintro e w2 ⟨rfl, h2, hk2⟩
   by_cases ht : M.turns = 0
   ·have HC := Lib.hid (show flushS s.data.toList M = (7, (turnS M).2) by rw [HA.out]; unfold chgS; rw [if_pos ht])
    have HT1 := Lib.hid (show (turnS M).1 = 7 by rw [fturn_zero ht])
    rw [HT1.out]
    have H2 := Lib.hid h2
    have HK2 := Lib.hid hk2
    clear h2 hk2 ht
    go_wp2_with (fail)
    go_ret
    rw [HC.out]
    exact ⟨rfl, HTo.out _ _ _ H2.out ((Keep.of_bel (HB.out.alloc _) F).trans HK2.out (fun x hx => by rw [List.mem_singleton] at hx; subst hx; exact Or.inl hbF.out)) (Or.inl rfl)⟩
   ·have HC := Lib.hid (show flushS s.data.toList M = (0, { (turnS M).2 with L := insS { y with safe := y.bytes.length } M.L }) by rw [HA.out]; unfold chgS; rw [if_neg ht])
    have HT1 := Lib.hid (turn_one ht)
    rw [HT1.out]
    have H2 := Lib.hid h2
    have HK2 := Lib.hid hk2
    clear h2 hk2 ht
    have hbw := HR.out.lt
    have hw1 := HB.out.size
    have hnb : w1.heap.size ∉ [b] := by rw [List.mem_singleton]; omega
    have p0 : w2.cell? ⟨w1.heap.size, 0, none⟩ = some (.string ⟨y.name.toArray⟩) := HK2.out.cell (by go_simp) hnb
    have p1 : w2.cell? ⟨w1.heap.size, 1, none⟩ = some (.string ⟨y.bytes.toArray⟩) := HK2.out.cell (by go_simp) hnb
    have p2 : w2.cell? ⟨w1.heap.size, 2, none⟩ = some (.int .i64 y.safe) := HK2.out.cell (by go_simp) hnb
    have pf : ∀ i, w2.frozen? ⟨w1.heap.size, i, none⟩ = false := fun i => (HK2.out.frozen (by simp) hnb).trans (by simp)
    have hys : (⟨y.bytes.toArray⟩ : ByteArray).size = y.bytes.length := by show y.bytes.toArray.size = _; simp
    go_wp2_with (fail)
    refine (fput_any n₀ _ b (turnS M).2 v (HR.out.far H2.out hw1 _) { y with safe := y.bytes.length } (by rw [turn_L]; have := HM.out.len; omega) (by have := HK2.out.size; simp at this ⊢; omega)).mono ?_
    rintro e w3 ⟨⟨u, rfl⟩, v', h4, hv4, hk4⟩
    rw [turn_L] at h4
    have H4 := Lib.hid h4
    have HV4 := Lib.hid hv4
    have HK4 := Lib.hid hk4
    clear h4 hv4 hk4
    go_wp2_with (fail)
    go_ret
    rw [HC.out]
    have K2 := ((Keep.of_bel (HB.out.alloc _) F).trans HK2.out (one_in hbF.out)).setCell (p := ⟨w1.heap.size, 2, none⟩) (Or.inr hw1) (.int .i64 y.bytes.length)
    exact ⟨rfl, HTo.out _ _ _ H4.out (K2.trans HK4.out (one_in hbF.out)) (Or.inr fun k hk => ⟨Nat.le_trans K2.size (HV4.out k hk), (own_lt H4.out k hk).2⟩)⟩

theorem good_bytes' {M : RS} (h : M.ok) : bytesN M.L ≤ 1000000000 := by have := h.fits; have := h.room; omega
set_option maxHeartbeats 4000000 in
set_option maxRecDepth 20000 in
theorem rcut_any (n₀ : Nat) (w : World) (b : Nat) (M : RS) (F : List Nat) (s : ByteArray) (n : Int) (hn64 : in64 n) (h : RefP n₀ w b M F) (hM : M.ok) :
  Calls Tryz.prog 103 #[.pointer (some ⟨b, 0, none⟩), .string s, .int .i64 n] w fun e w' => e = .returned (.int .i64 (cutS s.data.toList n M).1) ∧ RefTo n₀ w w' b (cutS s.data.toList n M).2 F := by
 obtain ⟨v, h, hb, hv, hF⟩ := h
 have HR := Lib.hid h
 have HM := Lib.hid hM
 have hn : n₀ ≤ w.heap.size := Nat.le_of_lt (Nat.lt_of_le_of_lt h.low h.lt)
 have HTo := Lib.hid (fun x M' v' => ref_to (x := x) (M := M') (v' := v') hb hv hF hn)
 have hbF := Lib.hid hb
 clear h hM hb hv hF
 obtain ⟨hn1, hn2⟩ := hn64
 go_enter Tryz.func103, Tryz.ntmps103
 go_wp2_with (fail)
 refine (there_any n₀ _ b M v s HR.out (by have := HM.out.len; omega)).mono ?_
 rintro e w1 ⟨rfl, hb1⟩
 have HB := Lib.hid hb1
 clear hb1
 rw [there_eq _ HM.out.srt]
 unfold fileW
 cases hg : M.gone with
 | true =>
  have HA := Lib.hid (show cutS s.data.toList n M = (7, M) by unfold cutS onS; rw [if_pos hg])
  have HT := Lib.hid (show thereG s.data.toList M = (noFile, 7) by unfold thereG; rw [if_pos hg])
  clear hg
  rw [HT.out]
  unfold noFile
  go_wp2_with (fail)
  go_ret
  rw [HA.out]
  exact ⟨rfl, HTo.out _ _ _ (HR.out.bel (HB.out.alloc _)) (Keep.of_bel (HB.out.alloc _) F) (Or.inl rfl)⟩
 | false =>
  cases hy : getF s.data.toList M.L with
  | none =>
   have HA := Lib.hid (show cutS s.data.toList n M = (4, M) by unfold cutS onS; rw [if_neg (by rw [hg]; simp), hy])
   have HT := Lib.hid (show thereG s.data.toList M = (noFile, 4) by unfold thereG; rw [if_neg (by rw [hg]; simp), hy])
   clear hg hy
   rw [HT.out]
   unfold noFile
   go_wp2_with (fail)
   go_ret
   rw [HA.out]
   exact ⟨rfl, HTo.out _ _ _ (HR.out.bel (HB.out.alloc _)) (Keep.of_bel (HB.out.alloc _) F) (Or.inl rfl)⟩
  | some y =>
   have HT := Lib.hid (show thereG s.data.toList M = (y, 0) by unfold thereG; rw [if_neg (by rw [hg]; simp), hy])
   by_cases hc : n < 0 ∨ (y.bytes.length : Int) < n
   ·have HA := Lib.hid (show cutS s.data.toList n M = (2, M) by unfold cutS onS; rw [if_neg (by rw [hg]; simp), hy]; simp only []; rw [if_pos hc])
    clear hg hy
    rw [HT.out]
    have hys : (⟨y.bytes.toArray⟩ : ByteArray).size = y.bytes.length := by show y.bytes.toArray.size = _; simp
    by_cases hc0 : n < 0
    ·go_wp2_with (fail)
     go_ret
     rw [HA.out]
     exact ⟨rfl, HTo.out _ _ _ (HR.out.bel (HB.out.alloc _)) (Keep.of_bel (HB.out.alloc _) F) (Or.inl rfl)⟩
    ·have hc1 : (y.bytes.length : Int) < n := by omega
     have hc2 : ¬ n < 0 := hc0
     go_wp2_with (fail)
     go_ret
     rw [HA.out]
     exact ⟨rfl, HTo.out _ _ _ (HR.out.bel (HB.out.alloc _)) (Keep.of_bel (HB.out.alloc _) F) (Or.inl rfl)⟩
   obtain ⟨n, rfl⟩ : ∃ k : Nat, n = k := ⟨n.toNat, by omega⟩
   have hnl : n ≤ y.bytes.length := by omega
   have HA := Lib.hid (show cutS s.data.toList n M = chgS M (insS { y with bytes := y.bytes.take n, safe := min y.safe n } M.L) by unfold cutS onS; rw [if_neg (by rw [hg]; simp), hy]; simp only []; rw [if_neg hc]; rfl)
   have hbn := bytes_mem (getF_mem hy)
   have hbm := good_bytes' HM.out
   clear hg hy hc
   rw [HT.out]
   have hys : (⟨y.bytes.toArray⟩ : ByteArray).size = y.bytes.length := by show y.bytes.toArray.size = _; simp
   go_wp2_with (fail)
   refine (turn_any n₀ _ b M v (HR.out.bel (HB.out.alloc _)) HM.out.turns).mono ?_
   rintro e w2 ⟨rfl, h2, hk2⟩
   by_cases ht : M.turns = 0
   ·have HC := Lib.hid (show cutS s.data.toList n M = (7, (turnS M).2) by rw [HA.out]; unfold chgS; rw [if_pos ht])
    have HT1 := Lib.hid (show (turnS M).1 = 7 by rw [fturn_zero ht])
    rw [HT1.out]
    have H2 := Lib.hid h2
    have HK2 := Lib.hid hk2
    clear h2 hk2 ht
    go_wp2_with (fail)
    go_ret
    rw [HC.out]
    exact ⟨rfl, HTo.out _ _ _ H2.out ((Keep.of_bel (HB.out.alloc _) F).trans HK2.out (one_in hbF.out)) (Or.inl rfl)⟩
   have HC := Lib.hid (show cutS s.data.toList n M = (0, { (turnS M).2 with L := insS { y with bytes := y.bytes.take n, safe := min y.safe n } M.L }) by rw [HA.out]; unfold chgS; rw [if_neg ht])
   have HT1 := Lib.hid (turn_one ht)
   rw [HT1.out]
   have H2 := Lib.hid h2
   have HK2 := Lib.hid hk2
   clear h2 hk2 ht
   have hbw := HR.out.lt
   have hw1 := HB.out.size
   have hnb : w1.heap.size ∉ [b] := by rw [List.mem_singleton]; omega
   have p0 : w2.cell? ⟨w1.heap.size, 0, none⟩ = some (.string ⟨y.name.toArray⟩) := HK2.out.cell (by go_simp) hnb
   have p1 : w2.cell? ⟨w1.heap.size, 1, none⟩ = some (.string ⟨y.bytes.toArray⟩) := HK2.out.cell (by go_simp) hnb
   have p2 : w2.cell? ⟨w1.heap.size, 2, none⟩ = some (.int .i64 y.safe) := HK2.out.cell (by go_simp) hnb
   have pf : ∀ i, w2.frozen? ⟨w1.heap.size, i, none⟩ = false := fun i => (HK2.out.frozen (by simp) hnb).trans (by simp)
   have hys : (⟨y.bytes.toArray⟩ : ByteArray).size = y.bytes.length := by show y.bytes.toArray.size = _; simp
   go_wp2_with (fail)
   have hmin : min (y.safe : Int) (n : Int) = ((min y.safe n : Nat) : Int) := by omega
   have hext : (⟨y.bytes.toArray⟩ : ByteArray).extract 0 n = ⟨(y.bytes.take n).toArray⟩ := by apply ByteArray.ext; simp [ByteArray.data_extract]
   rw [hmin, hext]
   have hf2 := (HR.out.far (i := 1) H2.out hw1 (.string ⟨(y.bytes.take n).toArray⟩))
   refine (fput_any n₀ _ b (turnS M).2 v (HR.out.far hf2 hw1 _) { y with bytes := y.bytes.take n, safe := min y.safe n } (by rw [turn_L]; have := HM.out.len; omega) (by have := HK2.out.size; simp at this ⊢; omega)).mono ?_
   rintro e w3 ⟨⟨u, rfl⟩, v', h4, hv4, hk4⟩
   rw [turn_L] at h4
   have H4 := Lib.hid h4
   have HV4 := Lib.hid hv4
   have HK4 := Lib.hid hk4
   clear h4 hv4 hk4
   go_wp2_with (fail)
   go_ret
   rw [HC.out]
   have K2 := (((Keep.of_bel (HB.out.alloc _) F).trans HK2.out (one_in hbF.out)).setCell (p := ⟨w1.heap.size, 1, none⟩) (Or.inr hw1) (.string ⟨(y.bytes.take n).toArray⟩)).setCell (p := ⟨w1.heap.size, 2, none⟩) (Or.inr hw1) (.int .i64 ((min y.safe n : Nat) : Int))
   exact ⟨rfl, HTo.out _ _ _ H4.out (K2.trans HK4.out (one_in hbF.out)) (Or.inr fun k hk => ⟨Nat.le_trans K2.size (HV4.out k hk), (own_lt H4.out k hk).2⟩)⟩


set_option maxHeartbeats 4000000 in
set_option maxRecDepth 20000 in
theorem radd_any (n₀ : Nat) (w : World) (b : Nat) (M : RS) (F : List Nat) (s u : ByteArray) (hs : s.size ≤ 1000000) (hu : u.size ≤ 1000000) (h : RefP n₀ w b M F) (hM : M.ok) :
  Calls Tryz.prog 36 #[.pointer (some ⟨b, 0, none⟩), .string s, .string u] w fun e w' => e = .returned (.int .i64 (addS s.data.toList u.data.toList M).1) ∧ RefTo n₀ w w' b (addS s.data.toList u.data.toList M).2 F := by
 obtain ⟨v, h, hb, hv, hF⟩ := h
 have HR := Lib.hid h
 have HM := Lib.hid hM
 have hn : n₀ ≤ w.heap.size := Nat.le_of_lt (Nat.lt_of_le_of_lt h.low h.lt)
 have HTo := Lib.hid (fun x M' v' => ref_to (x := x) (M := M') (v' := v') hb hv hF hn)
 have hbF := Lib.hid hb
 clear h hb hv hF
 have hsm : s.size ≤ maxLen := by unfold maxLen; omega
 have hul : u.data.toList.length = u.size := rfl
 have HS : isN s.data.toList M.L = (getF s.data.toList M.L).isSome := is_getF _ hM.srt
 have hbm := good_bytes' hM
 obtain ⟨hr1, hr2⟩ := hM.room
 have hlen := hM.len
 clear hM
 obtain ⟨p, cap, rfl⟩ := ownG_len HR.out.own
 have HFI := Lib.hid (show isN s.data.toList M.L = true → findN s.data.toList M.L < M.L.length from fun h => by
  rcases Nat.lt_or_ge (findN s.data.toList M.L) M.L.length with k | k
  ·exact k
  ·rw [is_end _ M.L (by omega)] at h; cases h)
 have HFG := Lib.hid (show isN s.data.toList M.L = true → M.L[findN s.data.toList M.L]? = getF s.data.toList M.L from fun h => find_getF _ HM.out.srt h)
 have hfle := find_le s.data.toList M.L
 go_enter Tryz.func36, Tryz.ntmps36
 go_wp2_with (fail)
 refine (find_any n₀ _ b M _ s HR.out (by omega)).mono ?_
 rintro e w0 ⟨rfl, hd0⟩
 have HB0 := Lib.hid hd0.bel
 clear hd0
 rw [HS] at HFI HFG ⊢
 clear HS
 generalize findN s.data.toList M.L = fn at *
 go_wp2_with (fail)
 refine (rname_any s _ hsm).mono ?_
 rintro e w1 ⟨rfl, hd1⟩
 have HB := Lib.hid (HB0.out.trans hd1.bel)
 clear hd1
 have HR1 := Lib.hid (HR.out.bel HB.out)
 obtain ⟨c0, c1, c2, c3⟩ := HR1.out.cells
 cases hg : M.gone with
 | true =>
  have HA := Lib.hid (show addS s.data.toList u.data.toList M = (7, M) by unfold addS admS; rw [if_pos hg]; rfl)
  rw [hg] at c3
  clear hg
  go_wp2_with (fail)
  go_ret
  rw [HA.out]
  exact ⟨rfl, HTo.out _ _ _ HR1.out (Keep.of_bel HB.out F) (Or.inl rfl)⟩
 | false =>
 rw [hg] at c3
 cases hnm : nameB s.data.toList with
 | false =>
  have HA := Lib.hid (show addS s.data.toList u.data.toList M = (3, M) by unfold addS admS; rw [hg, hnm]; rfl)
  clear hg hnm
  go_wp2_with (fail)
  go_ret
  rw [HA.out]
  exact ⟨rfl, HTo.out _ _ _ HR1.out (Keep.of_bel HB.out F) (Or.inl rfl)⟩
 | true =>
 by_cases hm : (getF s.data.toList M.L).isSome = false ∧ 60 ≤ M.L.length
 ·have HA := Lib.hid (show addS s.data.toList u.data.toList M = (11, M) by unfold addS admS; rw [hg, hnm, if_pos hm]; rfl)
  obtain ⟨hm1, hm2⟩ := hm
  rw [hm1]
  clear hg hnm hm1
  go_wp2_with (fail)
  go_ret
  rw [HA.out]
  exact ⟨rfl, HTo.out _ _ _ HR1.out (Keep.of_bel HB.out F) (Or.inl rfl)⟩
 have hroad : (getF s.data.toList M.L).isSome = true ∨ ((getF s.data.toList M.L).isSome = false ∧ M.L.length < 60) := by
  cases hi : (getF s.data.toList M.L).isSome with
  | true => exact Or.inl rfl
  | false => exact Or.inr ⟨rfl, by rw [hi] at hm; simp at hm; exact hm⟩
 have HQ := Lib.hid (show ¬ M.room < (bytesN M.L : Int) + (u.size : Nat) → addS s.data.toList u.data.toList M = chgS M (insS (addF s.data.toList u.data.toList M.L) M.L) from fun hfull => by
  unfold addS admS; rw [hg, hnm, if_neg hm, hul, if_neg hfull]; rfl)
 have HQ6 := Lib.hid (show M.room < (bytesN M.L : Int) + (u.size : Nat) → addS s.data.toList u.data.toList M = (6, M) from fun hfull => by
  unfold addS admS; rw [hg, hnm, if_neg hm, hul, if_pos hfull]; rfl)
 clear hg hnm hm
 rcases hroad with hi | ⟨hi, hlt⟩
 ·rw [hi] at HFI HFG ⊢
  have hfl := HFI.out rfl
  have hfg := HFG.out rfl
  rw [List.getElem?_eq_getElem hfl] at hfg
  obtain ⟨x, hx⟩ : ∃ x, x = M.L[fn] := ⟨_, rfl⟩
  rw [← hx] at hfg
  have hne : M.L ≠ [] := by intro e; rw [e] at hfl; simp at hfl
  have HAF := Lib.hid (show addF s.data.toList u.data.toList M.L = { x with bytes := x.bytes ++ u.data.toList } by unfold addF; rw [← hfg])
  have hxb := bytes_mem (getF_mem hfg.symm)
  clear hfg hi HFI HFG
  go_wp2_with (fail)
  have hwr : IntKind.i64.wrap ((bytesN M.L : Int) + (u.size : Nat)) = (bytesN M.L : Int) + (u.size : Nat) := wrap_i64_in (by omega) (by omega)
  refine wp_region_held_drew (S := fun y => y.cell? ⟨b, 1, none⟩ = some (.int .i64 M.room)) (by kernel_rfl) c1 (fun hHeld => ?_)
  refine tq ⟨some 40, .move (.tmp 0), 63, "ref.go:95", #[], none⟩ ?_ 0 rfl ?_ ?_;rotate_left;·(intros;go_simp<;>with_reducible rfl)
  try simp only[Act.put,sqA,sqB,sqC]
  refine tq ⟨some 42, .move (.tmp 2), 9, "ref.go:95", #[], none⟩ ?_ 2 rfl ?_ ?_;rotate_left;·(intros;go_simp<;>with_reducible rfl)
  try simp only[Act.put,sqA,sqB,sqC]
  refine tq ⟨some 43, .call ⟨.builtin .len, #[.tmp 42], #[9]⟩, 3, "ref.go:95", #[⟨2, .data⟩], none⟩ ?_ 3 rfl ?_ ?_;rotate_left;·(intros;go_simp<;>with_reducible rfl)
  try simp only[Act.put,sqA,sqB,sqC]
  refine tq ⟨some 45, .move (.tmp 0), 63, "ref.go:95", #[], none⟩ ?_ 5 rfl ?_ ?_;rotate_left;·(intros;go_simp<;>with_reducible rfl)
  try simp only[Act.put,sqA,sqB,sqC]
  refine tq ⟨some 46, .nilCheck (.tmp 45), 0, "ref.go:95", #[⟨5, .data⟩], none⟩ ?_ 6 rfl ?_ ?_;rotate_left;·(intros;go_simp<;>with_reducible rfl)
  try simp only[Act.put,sqA,sqB,sqC]
  refine tq ⟨some 47, .fieldAddr 70 (.tmp 46) 1, 0, "ref.go:95", #[⟨6, .data⟩], none⟩ ?_ 7 rfl ?_ ?_;rotate_left;·(intros;go_simp<;>with_reducible rfl)
  try simp only[Act.put,sqA,sqB,sqC]
  refine tq ⟨some 48, .load 3 (.tmp 47), 3, "ref.go:95", #[⟨7, .data⟩], none⟩ ?_ 8 rfl ?_ ?_;rotate_left;·(intros;go_simp<;>with_reducible rfl)
  try simp only[Act.put,sqA,sqB,sqC]
  refine wpAnyH_ready (rs := [1]) (by kernel_rfl) (by simp) ?_
  refine ar1 ⟨some 41, .call ⟨.value (.func 25), #[.tmp 40], #[63]⟩, 3, "ref.go:95", #[⟨0, .data⟩], none⟩ rfl (fun K hK => ?_)
  go_simp
  refine (used_any n₀ _ b M _ (HR1.out.bel (Bel.refl w1).drew) (by omega) hbm).mono ?_
  rintro e w2 ⟨rfl, hd2⟩
  have D1 := Lib.hid ((Bel.refl w1).drew.trans hd2.bel)
  clear hd2
  have d1 := cell_later D1.out c1
  dsimp only
  refine hK.out _ _ d1 (fun hHeld => ?_);clear hK K;try simp only[Act.put,sqA,sqB,sqC]
  have HB2 := Lib.hid (HB.out.trans D1.out)
  by_cases hfull : M.room < (bytesN M.L : Int) + (u.size : Nat)
  ·have HA := Lib.hid (HQ6.out (by omega))
   refine tq ⟨some 44, .binOp .add 3 (.tmp 41) (.tmp 43) 3, 3, "ref.go:95", #[⟨1, .data⟩, ⟨3, .data⟩], none⟩ ?_ 4 rfl ?_ ?_;rotate_left;·(intros;go_simp<;>with_reducible rfl)
   try simp only[Act.put,sqA,sqB,sqC]
   refine tq ⟨some 49, .binOp .gtr 3 (.tmp 44) (.tmp 48) 3, 4, "ref.go:95", #[⟨4, .data⟩, ⟨8, .data⟩], none⟩ ?_ 9 rfl ?_ ?_;rotate_left;·(intros;go_simp<;>with_reducible rfl)
   try simp only[Act.put,sqA,sqB,sqC]
   refine tq ⟨some 39, .assign (.tmp 49), 4, "ref.go:95", #[⟨9, .data⟩, ⟨1, .chain⟩], none⟩ ?_ 10 rfl ?_ ?_;rotate_left;·(intros;go_simp<;>with_reducible rfl)
   try simp only[Act.put,sqA,sqB,sqC]
   refine wpAnyH_done (by kernel_rfl) ?_ _
   go_wp2_with (fail)
   go_ret
   rw [HA.out]
   exact ⟨rfl, HTo.out _ _ _ (HR.out.bel HB2.out) (Keep.of_bel HB2.out F) (Or.inl rfl)⟩
  have HA := Lib.hid (HQ.out (by omega))
  clear HQ HQ6
  refine tq ⟨some 44, .binOp .add 3 (.tmp 41) (.tmp 43) 3, 3, "ref.go:95", #[⟨1, .data⟩, ⟨3, .data⟩], none⟩ ?_ 4 rfl ?_ ?_;rotate_left;·(intros;go_simp<;>with_reducible rfl)
  try simp only[Act.put,sqA,sqB,sqC]
  refine tq ⟨some 49, .binOp .gtr 3 (.tmp 44) (.tmp 48) 3, 4, "ref.go:95", #[⟨4, .data⟩, ⟨8, .data⟩], none⟩ ?_ 9 rfl ?_ ?_;rotate_left;·(intros;go_simp<;>with_reducible rfl)
  try simp only[Act.put,sqA,sqB,sqC]
  refine tq ⟨some 39, .assign (.tmp 49), 4, "ref.go:95", #[⟨9, .data⟩, ⟨1, .chain⟩], none⟩ ?_ 10 rfl ?_ ?_;rotate_left;·(intros;go_simp<;>with_reducible rfl)
  try simp only[Act.put,sqA,sqB,sqC]
  refine wpAnyH_done (by kernel_rfl) ?_ _
  go_wp2_with (fail)
  refine (turn_any n₀ _ b M _ (HR.out.bel HB2.out) HM.out.turns).mono ?_
  rintro e w3 ⟨rfl, h2, hk2⟩
  by_cases ht : M.turns = 0
  ·have HC := Lib.hid (show addS s.data.toList u.data.toList M = (7, (turnS M).2) by rw [HA.out]; unfold chgS; rw [if_pos ht])
   have HT1 := Lib.hid (show (turnS M).1 = 7 by rw [fturn_zero ht])
   rw [HT1.out]
   have H2 := Lib.hid h2
   have HK2 := Lib.hid hk2
   clear h2 hk2 ht
   go_wp2_with (fail)
   go_ret
   rw [HC.out]
   exact ⟨rfl, HTo.out _ _ _ H2.out ((Keep.of_bel HB2.out F).trans HK2.out (one_in hbF.out)) (Or.inl rfl)⟩
  have HC := Lib.hid (show addS s.data.toList u.data.toList M = (0, { (turnS M).2 with L := insS (addF s.data.toList u.data.toList M.L) M.L }) by rw [HA.out]; unfold chgS; rw [if_neg ht])
  have HT1 := Lib.hid (turn_one ht)
  rw [HT1.out]
  have H2 := Lib.hid h2
  have HK2 := Lib.hid hk2
  clear h2 hk2 ht
  obtain ⟨e0, -, -, -⟩ := H2.out.cells
  have hb3 : b < w3.heap.size := H2.out.lt
  obtain ⟨g, cap', hv, _, hgl, _, hcs⟩ := ownG_cells fileOk (show OwnG fileEl n₀ w3 _ M.L by have := H2.out.own; rwa [turn_L] at this) hne
  cases hv
  have d0 := hcs fn x (by rw [List.getElem?_eq_getElem hfl, hx]) 0 _ rfl
  have d1 := hcs fn x (by rw [List.getElem?_eq_getElem hfl, hx]) 1 _ rfl
  have d2 := hcs fn x (by rw [List.getElem?_eq_getElem hfl, hx]) 2 _ rfl
  simp only [fileEl, Nat.add_zero] at d0 d1 d2
  clear hcs hx
  have hxs : (⟨x.bytes.toArray⟩ : ByteArray).size = x.bytes.length := by show x.bytes.toArray.size = _; simp
  have hub : x.bytes.length + u.size ≤ 2000000000 := by omega
  have hw3 : w.heap.size ≤ w3.heap.size := Nat.le_trans HB2.out.size HK2.out.size
  go_wp2_with (fail)
  have hcat : (⟨x.bytes.toArray⟩ : ByteArray) ++ u = ⟨(x.bytes ++ u.data.toList).toArray⟩ := by apply ByteArray.ext; simp
  have hfv : fileV (addF s.data.toList u.data.toList M.L) = .agg #[.string ⟨x.name.toArray⟩, .string ((⟨x.bytes.toArray⟩ : ByteArray) ++ u), .int .i64 x.safe] := by rw [HAF.out, hcat]; unfold fileV; simp
  have P := fput_any n₀ _ b _ _ (H2.out.bel ((Bel.refl w3).alloc (.cells #[.string ⟨x.name.toArray⟩, .string ((⟨x.bytes.toArray⟩ : ByteArray) ++ u), .int .i64 x.safe] 74))) (addF s.data.toList u.data.toList M.L) (by rw [turn_L]; omega) (by simp; omega)
  rw [hfv] at P
  refine P.mono ?_
  rintro e w4 ⟨⟨uu, rfl⟩, v4, h5, hv5, hk5⟩
  rw [turn_L] at h5
  have H5 := Lib.hid h5
  have HV5 := Lib.hid hv5
  have HK5 := Lib.hid hk5
  clear h5 hv5 hk5 P
  go_wp2_with (fail)
  go_ret
  rw [HC.out]
  have K2 := ((Keep.of_bel HB2.out F).trans HK2.out (one_in hbF.out)).alloc (.cells #[.string ⟨x.name.toArray⟩, .string ((⟨x.bytes.toArray⟩ : ByteArray) ++ u), .int .i64 x.safe] 74)
  exact ⟨rfl, HTo.out _ _ _ H5.out (K2.trans HK5.out (one_in hbF.out)) (Or.inr fun k hk => ⟨Nat.le_trans K2.size (HV5.out k hk), (own_lt H5.out k hk).2⟩)⟩
 ·rw [hi] at HFI HFG ⊢
  have hnone : getF s.data.toList M.L = none := by
   cases hy : getF s.data.toList M.L with
   | none => rfl
   | some y => rw [hy] at hi; cases hi
  have HAF := Lib.hid (show addF s.data.toList u.data.toList M.L = ⟨s.data.toList, u.data.toList, 0⟩ by unfold addF; rw [hnone])
  clear hi HFI HFG hnone
  go_wp2_with (fail)
  have hwr : IntKind.i64.wrap ((bytesN M.L : Int) + (u.size : Nat)) = (bytesN M.L : Int) + (u.size : Nat) := wrap_i64_in (by omega) (by omega)
  refine wp_region_held_drew (S := fun y => y.cell? ⟨b, 1, none⟩ = some (.int .i64 M.room)) (by kernel_rfl) c1 (fun hHeld => ?_)
  refine tq ⟨some 40, .move (.tmp 0), 63, "ref.go:95", #[], none⟩ ?_ 0 rfl ?_ ?_;rotate_left;·(intros;go_simp<;>with_reducible rfl)
  try simp only[Act.put,sqA,sqB,sqC]
  refine tq ⟨some 42, .move (.tmp 2), 9, "ref.go:95", #[], none⟩ ?_ 2 rfl ?_ ?_;rotate_left;·(intros;go_simp<;>with_reducible rfl)
  try simp only[Act.put,sqA,sqB,sqC]
  refine tq ⟨some 43, .call ⟨.builtin .len, #[.tmp 42], #[9]⟩, 3, "ref.go:95", #[⟨2, .data⟩], none⟩ ?_ 3 rfl ?_ ?_;rotate_left;·(intros;go_simp<;>with_reducible rfl)
  try simp only[Act.put,sqA,sqB,sqC]
  refine tq ⟨some 45, .move (.tmp 0), 63, "ref.go:95", #[], none⟩ ?_ 5 rfl ?_ ?_;rotate_left;·(intros;go_simp<;>with_reducible rfl)
  try simp only[Act.put,sqA,sqB,sqC]
  refine tq ⟨some 46, .nilCheck (.tmp 45), 0, "ref.go:95", #[⟨5, .data⟩], none⟩ ?_ 6 rfl ?_ ?_;rotate_left;·(intros;go_simp<;>with_reducible rfl)
  try simp only[Act.put,sqA,sqB,sqC]
  refine tq ⟨some 47, .fieldAddr 70 (.tmp 46) 1, 0, "ref.go:95", #[⟨6, .data⟩], none⟩ ?_ 7 rfl ?_ ?_;rotate_left;·(intros;go_simp<;>with_reducible rfl)
  try simp only[Act.put,sqA,sqB,sqC]
  refine tq ⟨some 48, .load 3 (.tmp 47), 3, "ref.go:95", #[⟨7, .data⟩], none⟩ ?_ 8 rfl ?_ ?_;rotate_left;·(intros;go_simp<;>with_reducible rfl)
  try simp only[Act.put,sqA,sqB,sqC]
  refine wpAnyH_ready (rs := [1]) (by kernel_rfl) (by simp) ?_
  refine ar1 ⟨some 41, .call ⟨.value (.func 25), #[.tmp 40], #[63]⟩, 3, "ref.go:95", #[⟨0, .data⟩], none⟩ rfl (fun K hK => ?_)
  go_simp
  refine (used_any n₀ _ b M _ (HR1.out.bel (Bel.refl w1).drew) (by omega) hbm).mono ?_
  rintro e w2 ⟨rfl, hd2⟩
  have D1 := Lib.hid ((Bel.refl w1).drew.trans hd2.bel)
  clear hd2
  have d1 := cell_later D1.out c1
  dsimp only
  refine hK.out _ _ d1 (fun hHeld => ?_);clear hK K;try simp only[Act.put,sqA,sqB,sqC]
  have HB2 := Lib.hid (HB.out.trans D1.out)
  by_cases hfull : M.room < (bytesN M.L : Int) + (u.size : Nat)
  ·have HA := Lib.hid (HQ6.out (by omega))
   refine tq ⟨some 44, .binOp .add 3 (.tmp 41) (.tmp 43) 3, 3, "ref.go:95", #[⟨1, .data⟩, ⟨3, .data⟩], none⟩ ?_ 4 rfl ?_ ?_;rotate_left;·(intros;go_simp<;>with_reducible rfl)
   try simp only[Act.put,sqA,sqB,sqC]
   refine tq ⟨some 49, .binOp .gtr 3 (.tmp 44) (.tmp 48) 3, 4, "ref.go:95", #[⟨4, .data⟩, ⟨8, .data⟩], none⟩ ?_ 9 rfl ?_ ?_;rotate_left;·(intros;go_simp<;>with_reducible rfl)
   try simp only[Act.put,sqA,sqB,sqC]
   refine tq ⟨some 39, .assign (.tmp 49), 4, "ref.go:95", #[⟨9, .data⟩, ⟨1, .chain⟩], none⟩ ?_ 10 rfl ?_ ?_;rotate_left;·(intros;go_simp<;>with_reducible rfl)
   try simp only[Act.put,sqA,sqB,sqC]
   refine wpAnyH_done (by kernel_rfl) ?_ _
   go_wp2_with (fail)
   go_ret
   rw [HA.out]
   exact ⟨rfl, HTo.out _ _ _ (HR.out.bel HB2.out) (Keep.of_bel HB2.out F) (Or.inl rfl)⟩
  have HA := Lib.hid (HQ.out (by omega))
  clear HQ HQ6
  refine tq ⟨some 44, .binOp .add 3 (.tmp 41) (.tmp 43) 3, 3, "ref.go:95", #[⟨1, .data⟩, ⟨3, .data⟩], none⟩ ?_ 4 rfl ?_ ?_;rotate_left;·(intros;go_simp<;>with_reducible rfl)
  try simp only[Act.put,sqA,sqB,sqC]
  refine tq ⟨some 49, .binOp .gtr 3 (.tmp 44) (.tmp 48) 3, 4, "ref.go:95", #[⟨4, .data⟩, ⟨8, .data⟩], none⟩ ?_ 9 rfl ?_ ?_;rotate_left;·(intros;go_simp<;>with_reducible rfl)
  try simp only[Act.put,sqA,sqB,sqC]
  refine tq ⟨some 39, .assign (.tmp 49), 4, "ref.go:95", #[⟨9, .data⟩, ⟨1, .chain⟩], none⟩ ?_ 10 rfl ?_ ?_;rotate_left;·(intros;go_simp<;>with_reducible rfl)
  try simp only[Act.put,sqA,sqB,sqC]
  refine wpAnyH_done (by kernel_rfl) ?_ _
  go_wp2_with (fail)
  refine (turn_any n₀ _ b M _ (HR.out.bel HB2.out) HM.out.turns).mono ?_
  rintro e w3 ⟨rfl, h2, hk2⟩
  by_cases ht : M.turns = 0
  ·have HC := Lib.hid (show addS s.data.toList u.data.toList M = (7, (turnS M).2) by rw [HA.out]; unfold chgS; rw [if_pos ht])
   have HT1 := Lib.hid (show (turnS M).1 = 7 by rw [fturn_zero ht])
   rw [HT1.out]
   have H2 := Lib.hid h2
   have HK2 := Lib.hid hk2
   clear h2 hk2 ht
   go_wp2_with (fail)
   go_ret
   rw [HC.out]
   exact ⟨rfl, HTo.out _ _ _ H2.out ((Keep.of_bel HB2.out F).trans HK2.out (one_in hbF.out)) (Or.inl rfl)⟩
  have HC := Lib.hid (show addS s.data.toList u.data.toList M = (0, { (turnS M).2 with L := insS (addF s.data.toList u.data.toList M.L) M.L }) by rw [HA.out]; unfold chgS; rw [if_neg ht])
  have HT1 := Lib.hid (turn_one ht)
  rw [HT1.out]
  have H2 := Lib.hid h2
  have HK2 := Lib.hid hk2
  clear h2 hk2 ht
  obtain ⟨e0, -, -, -⟩ := H2.out.cells
  have hb3 : b < w3.heap.size := H2.out.lt
  have hw3 : w.heap.size ≤ w3.heap.size := Nat.le_trans HB2.out.size HK2.out.size
  go_wp2_with (fail)
  have hcat : (⟨#[]⟩ : ByteArray) ++ u = ⟨(u.data.toList).toArray⟩ := by apply ByteArray.ext; simp
  have hfv : fileV (addF s.data.toList u.data.toList M.L) = .agg #[.string s, .string ((⟨#[]⟩ : ByteArray) ++ u), .int .i64 0] := by rw [HAF.out, hcat]; unfold fileV; simp
  have P := fput_any n₀ _ b _ _ (H2.out.bel ((Bel.refl w3).alloc (.cells #[.string s, .string ((⟨#[]⟩ : ByteArray) ++ u), .int .i64 0] 74))) (addF s.data.toList u.data.toList M.L) (by rw [turn_L]; omega) (by simp; omega)
  rw [hfv] at P
  refine P.mono ?_
  rintro e w4 ⟨⟨uu, rfl⟩, v4, h5, hv5, hk5⟩
  rw [turn_L] at h5
  have H5 := Lib.hid h5
  have HV5 := Lib.hid hv5
  have HK5 := Lib.hid hk5
  clear h5 hv5 hk5 P
  go_wp2_with (fail)
  go_ret
  rw [HC.out]
  have K2 := ((Keep.of_bel HB2.out F).trans HK2.out (one_in hbF.out)).alloc (.cells #[.string s, .string ((⟨#[]⟩ : ByteArray) ++ u), .int .i64 0] 74)
  exact ⟨rfl, HTo.out _ _ _ H5.out (K2.trans HK5.out (one_in hbF.out)) (Or.inr fun k hk => ⟨Nat.le_trans K2.size (HV5.out k hk), (own_lt H5.out k hk).2⟩)⟩

end Go.Proofs.YtfbiinnenlgkfaaGreatDoor
