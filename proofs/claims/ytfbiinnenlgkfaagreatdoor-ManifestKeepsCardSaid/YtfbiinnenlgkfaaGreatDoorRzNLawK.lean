/- ManifestKeeps. -/
import Derived.Test.YtfbiinnenlgkfaaGreatDoorR32
import Derived.Test.YtfbiinnenlgkfaaGreatDoorR31
import Derived.Test.YtfbiinnenlgkfaaGreatDoorR27
import Derived.Deep.RegionHeld
import Derived.Test.YtfbiinnenlgkfaaGreatDoorR2
set_option linter.unusedSimpArgs false
set_option linter.unusedVariables false
set_option maxRecDepth 100000
namespace Go.Proofs.YtfbiinnenlgkfaaGreatDoor
open Go.RowKit Go.Deep Go.Maps

structure StB (w x : World) (R : List Nat) (B Wb Nb : Nat) (st : MS) (p : Option Addr) (c : Nat) : Prop where
 box : x.heap[B]? = some (.cells #[.slice p st.files.length c, .int .i64 st.next, .int .i64 st.seq, .int .i64 st.log, .string st.mt] 24 (0, 0))
 at_ : PlsAt x p st.files
 blk : st.files ≠ [] → ∀ k, p = some k → (k.block ∈ R ∨ k.block < w.heap.size) ∧ k.block ≠ Wb ∧ k.block ≠ Nb
 len : st.files.length ≤ 60 ∧ st.mt.size ≤ 30000 ∧ asB st = true
section
variable {w x y : World} {R R' : List Nat} {B Wb Nb c : Nat} {st : MS} {p : Option Addr}
theorem StB.kr (h : StB w x R B Wb Nb st p c) (hk : KeepR R x y) (hx : Bel w x) (hy : Bel w y) (hB : B ∈ R) (hR : ∀ k ∈ R, k ∈ R') : StB w y R' B Wb Nb st p c :=
 ⟨(hk B hB).trans h.box, h.at_.kr hk hx hy (fun hne k hk' => (h.blk hne k hk').1), fun hne k hk' => ⟨(h.blk hne k hk').1.imp (hR _) id, (h.blk hne k hk').2⟩, h.len⟩
theorem StB.bel (h : StB w x R B Wb Nb st p c) (hb : Bel x y) (hR : ∀ k ∈ R, k ∈ R') : StB w y R' B Wb Nb st p c :=
 ⟨box_bel h.box hb, h.at_.bel hb, fun hne k hk' => ⟨(h.blk hne k hk').1.imp (hR _) id, (h.blk hne k hk').2⟩, h.len⟩
theorem StB.keep (h : StB w x R B Wb Nb st p c) {K : List Nat} (hk : Keep K x y) (hB : B ∉ K) (hK : ∀ k ∈ K, k = Wb ∨ k = Nb) : StB w y R B Wb Nb st p c :=
 ⟨hk.at h.box hB, h.at_.keep hk (fun hne k hk' hm => by
  have h1 := (h.blk hne k hk').2
  rcases hK _ hm with e | e
  ·exact h1.1 e
  ·exact h1.2 e), h.blk, h.len⟩
theorem StB.set {st1 : MS} {p1 : Option Addr} {c1 : Nat} (h : StB w x R B Wb Nb st p c) (hat : PlsAt x p1 st1.files) (hbl : st1.files ≠ [] → ∀ k, p1 = some k → (k.block ∈ R ∨ k.block < w.heap.size) ∧ k.block ≠ Wb ∧ k.block ≠ Nb) (hlen : st1.files.length ≤ 60 ∧ st1.mt.size ≤ 30000 ∧ asB st1 = true) (hB : B = Wb ∨ B = Nb) :
  StB w (((((x.setCell ⟨B, 0, none⟩ (.slice p1 st1.files.length c1)).setCell ⟨B, 1, none⟩ (.int .i64 st1.next)).setCell ⟨B, 2, none⟩ (.int .i64 st1.seq)).setCell ⟨B, 3, none⟩ (.int .i64 st1.log)).setCell ⟨B, 4, none⟩ (.string st1.mt)) R B Wb Nb st1 p1 c1 :=
 ⟨set5 h.box, hat.keep keep5 (fun hne k hk' hm => by
  rw [List.mem_singleton] at hm
  have h1 := (hbl hne k hk').2
  rcases hB with e | e
  ·exact h1.1 (hm.trans e)
  ·exact h1.2 (hm.trans e)), hbl, hlen⟩
end
section
variable {P : Program} {ops : Array Oper} {Q : Exit → Act → World → Prop} {a : Act} {w : World} {rest : List Oper} {d : Option Tmp} {t ty : TypeId} {x v : Operand} {ps : String} {af : Array Edge} {g : Option (Nat × Bool)}
theorem stop_ld (h : Stopped (wpList P ops Q (⟨d, .load t x, ty, ps, af, g⟩ :: rest) a w)) : wpList P ops Q (⟨d, .load t x, ty, ps, af, g⟩ :: rest) a w := h
theorem stop_st (h : Stopped (wpList P ops Q (⟨d, .store t x v, ty, ps, af, g⟩ :: rest) a w)) : wpList P ops Q (⟨d, .store t x v, ty, ps, af, g⟩ :: rest) a w := h
end
def KsRel13 (w : World) (ws ms b r mb jb rb qb : Nat) (q0 : SD) (Wb Nb n : Nat) (i : Value) (x : World) : Prop :=
 ∃ (k : Nat) (p : SD) (R : List Nat) (was next : MS) (wp np : Option Addr) (wc nc : Nat), i = .int .i64 k ∧ k ≤ n ∧ LM w x ws ms b r mb jb rb qb p q0 R ∧ Inv13 k p ∧ KI p was next ∧ (Wb ∈ R ∧ Nb ∈ R) ∧
  StB w x R Wb Wb Nb was wp wc ∧ StB w x R Nb Wb Nb next np nc
set_option maxHeartbeats 32000000 in
theorem law_keeps13_any (w : World) (p : Option Addr) (cap : Nat) (L : List NV) (turn again : Int) (left spoil : SI) (hstd : Std w) (h : NActs w p L) (hL : L.length ≤ maxLen) (hturn : -9223372036854775808 ≤ turn ∧ turn ≤ 9223372036854775807) (hagain : -9223372036854775808 ≤ again ∧ again ≤ 9223372036854775807) (hlf : SI.ok w left) (hsp : SI.ok w spoil) :
  Calls Tryz.prog 6 #[.slice p L.length cap, .int .i64 turn, .slice left.p left.L.length left.cap, .slice spoil.p spoil.L.length spoil.cap, .int .i64 again] w fun e w' => e = .returned (.bool true) ∧ Bel w w' := by
 have HS := Lib.hid hstd
 have H := Lib.hid h
 have HL := Lib.hid hL
 have HTU := Lib.hid (show in64 turn from hturn)
 have HAG := Lib.hid (show in64 again from hagain)
 have HLF := Lib.hid hlf
 have HSP := Lib.hid hsp
 clear hstd h hL hlf hsp
 cases hsm : nsmallB L with
 | false =>
  have HSM := Lib.hid hsm; clear hsm
  go_enter Tryz.func6, Tryz.ntmps6
  go_wp2_with (fail)
  refine (shown13_any w HS.out).mono ?_
  rintro e w1 ⟨rfl, hb1⟩
  have HB1 := Lib.hid hb1; clear hb1
  go_wp2_with (fail)
  refine (nsmall_any w1 p cap L (H.out.bel HB1.out) HL.out).mono ?_
  rintro e w2 ⟨rfl, hb2⟩
  rw [HSM.out]
  have HB2 := Lib.hid (HB1.out.trans hb2); clear hb2
  go_wp2_with (fail)
  go_ret
  exact ⟨rfl, HB2.out⟩
 | true =>
 obtain ⟨hl60, hall⟩ := nsmall_get hsm
 have HALL := Lib.hid hall
 have HSM := Lib.hid hsm
 clear hsm hall
 have hll := HLF.out.2.1
 have hsl := HSP.out.2.1
 by_cases hlf60 : (60 : Int) < (left.L.length : Int)
 ·go_enter Tryz.func6, Tryz.ntmps6
  go_wp2_with (fail)
  refine (shown13_any w HS.out).mono ?_
  rintro e w1 ⟨rfl, hb1⟩
  have HB1 := Lib.hid hb1; clear hb1
  go_wp2_with (fail)
  refine (nsmall_any w1 p cap L (H.out.bel HB1.out) HL.out).mono ?_
  rintro e w2 ⟨rfl, hb2⟩
  rw [HSM.out]
  have HB2 := Lib.hid (HB1.out.trans hb2); clear hb2
  go_wp2_with (fail)
  go_ret
  exact ⟨rfl, HB2.out⟩
 by_cases hsp60 : (60 : Int) < (spoil.L.length : Int)
 ·go_enter Tryz.func6, Tryz.ntmps6
  go_wp2_with (fail)
  refine (shown13_any w HS.out).mono ?_
  rintro e w1 ⟨rfl, hb1⟩
  have HB1 := Lib.hid hb1; clear hb1
  go_wp2_with (fail)
  refine (nsmall_any w1 p cap L (H.out.bel HB1.out) HL.out).mono ?_
  rintro e w2 ⟨rfl, hb2⟩
  rw [HSM.out]
  have HB2 := Lib.hid (HB1.out.trans hb2); clear hb2
  go_wp2_with (fail)
  go_ret
  exact ⟨rfl, HB2.out⟩
 go_enter Tryz.func6, Tryz.ntmps6
 go_wp2_with (fail)
 refine (shown13_any w HS.out).mono ?_
 rintro e w1 ⟨rfl, hb1⟩
 have HB1 := Lib.hid hb1; clear hb1
 go_wp2_with (fail)
 refine (nsmall_any w1 p cap L (H.out.bel HB1.out) HL.out).mono ?_
 rintro e w2 ⟨rfl, hb2⟩
 rw [HSM.out]
 have HB2 := Lib.hid (HB1.out.trans hb2); clear hb2
 go_wp2_with (fail)
 refine (begin13_any w _ HS.out HB2.out 1000000 ⟨by omega, by omega⟩).mono ?_
 rintro e w3 ⟨ws, ms, b, r, mb, jb, rb, qb, rfl, h3⟩
 obtain ⟨q0, hq0⟩ : ∃ q0 : SD, q0 = ⟨mbM 1000000, initM, 0⟩ := ⟨_, rfl⟩
 have HQ0 := Lib.hid hq0
 have HI0 := Lib.hid (show Inv13 0 q0 by rw [hq0]; exact Inv13.begin _ (by omega))
 rw [← hq0] at h3
 have H3 := Lib.hid h3
 clear h3 hq0
 obtain ⟨s0, -, -, -⟩ := H3.out.cells
 go_wp2_with (fail)
 refine wp_region_held_drew (S := fun z => z.cell? ⟨ws, 0, none⟩ = some (.pointer (some ⟨b, 0, none⟩))) (by kernel_rfl) s0 (fun hHeld => ?_)
 refine tq ⟨some 52, .move (.tmp 13), 46, "law.go:230", #[], none⟩ ?_ 0 rfl ?_ ?_;rotate_left;·(intros;go_simp<;>with_reducible rfl)
 try simp only[Act.put,sqA,sqB,sqC]
 refine tq ⟨some 53, .nilCheck (.tmp 52), 0, "law.go:230", #[⟨0, .data⟩], none⟩ ?_ 1 rfl ?_ ?_;rotate_left;·(intros;go_simp<;>with_reducible rfl)
 try simp only[Act.put,sqA,sqB,sqC]
 refine tq ⟨some 54, .fieldAddr 58 (.tmp 53) 0, 0, "law.go:230", #[⟨1, .data⟩], none⟩ ?_ 2 rfl ?_ ?_;rotate_left;·(intros;go_simp<;>with_reducible rfl)
 try simp only[Act.put,sqA,sqB,sqC]
 refine tq ⟨some 55, .load 55 (.tmp 54), 55, "law.go:230", #[⟨2, .data⟩], none⟩ ?_ 3 rfl ?_ ?_;rotate_left;·(intros;go_simp<;>with_reducible rfl)
 try simp only[Act.put,sqA,sqB,sqC]
 refine tq ⟨some 56, .move (.tmp 1), 3, "law.go:230", #[], none⟩ ?_ 4 rfl ?_ ?_;rotate_left;·(intros;go_simp<;>with_reducible rfl)
 try simp only[Act.put,sqA,sqB,sqC]
 refine wpAnyH_ready (rs := [5]) (by kernel_rfl) (by simp) ?_
 refine ar1 ⟨some 57, .call ⟨.value (.func 21), #[.tmp 56, .const (.int .i64 100)], #[3, 3]⟩, 3, "law.go:230", #[⟨4, .data⟩], none⟩ rfl (fun K hK => ?_)
 go_simp
 refine (pick13_at turn _ 100 _ HTU.out (by omega) (by omega) rfl).mono ?_
 rintro e z ⟨rfl, rfl⟩
 dsimp only
 refine hK.out _ _ hHeld (fun hHeld => ?_);clear hK K;try simp only[Act.put,sqA,sqB,sqC]
 refine wpAnyH_ready (rs := [6]) (by kernel_rfl) (by simp) ?_
 refine ar1 ⟨some 58, .call ⟨.value (.func 28), #[.tmp 55, .tmp 57], #[55, 3]⟩, 0, "law.go:230", #[⟨3, .data⟩, ⟨5, .data⟩, ⟨5, .chain⟩], none⟩ rfl (fun K hK => ?_)
 go_simp
 refine (tm_limit H3.out.tm (Bel.refl _).drew _ (pickN_ok turn 100 (by omega) (by omega))).mono ?_
 rintro e y0 ⟨⟨u, rfl⟩, ht0, hk0⟩
 obtain ⟨p1, hp1⟩ : ∃ p1 : SD, p1 = ⟨limS ((pickN turn 100 : Nat) : Int) q0.M, q0.s, q0.n⟩ := ⟨_, rfl⟩
 have H4 := Lib.hid (show LM w y0 ws ms b r mb jb rb qb p1 q0 [] by rw [hp1]; exact H3.out.to ht0 hk0)
 have HI1 := Lib.hid (show Inv13 0 p1 by rw [hp1]; exact ⟨HI0.out.right, HI0.out.some_, HI0.out.last, HI0.out.room, HI0.out.n⟩)
 have HK1 := Lib.hid (show KI p1 initM initM by rw [hp1, HQ0.out]; exact KI.begin _ _ _)
 have HPS := Lib.hid (show p1.s = initM by rw [hp1, HQ0.out])
 clear ht0 hk0 hp1 s0
 obtain ⟨s0, s1, -, -⟩ := H4.out.cells
 dsimp only
 refine hK.out _ _ s0 (fun hHeld => ?_);clear hK K;try simp only[Act.put,sqA,sqB,sqC]
 refine wpAnyH_done (by kernel_rfl) ?_ _
 clear hHeld s0
 go_wp2_with (fail)
 refine (tm_state H4.out.tm (by first | exact Bel.refl _ | exact (Bel.refl _).drew) (by rw [HPS.out]; decide)).mono ?_
 rintro e y1 ⟨ip, ic, rfl, ho1, hb1⟩
 rw [HPS.out] at ho1 ⊢
 have HO1 := Lib.hid ho1
 have HBY1 := Lib.hid (show Bel y0 y1 from by first | exact hb1 | exact (Bel.refl _).drew.trans hb1)
 clear ho1 hb1 s1
 go_wp2_with (fail)
 obtain ⟨im, him⟩ : ∃ im, im = initM := ⟨_, rfl⟩
 have HIM := Lib.hid him
 rw [← him] at HO1 HK1 ⊢
 clear him
 obtain ⟨Wb, hwb⟩ : ∃ Wb, Wb = y1.heap.size := ⟨_, rfl⟩
 rw [← hwb]
 obtain ⟨Nb, hnb⟩ : ∃ Nb, Nb = Wb + 1 := ⟨_, rfl⟩
 rw [← hnb]
 obtain ⟨y2, hy2⟩ : ∃ y2, y2 = (y1.alloc (.cells #[.slice ip im.files.length ic, .int .i64 im.next, .int .i64 im.seq, .int .i64 im.log, .string im.mt] 24)).alloc (.cells #[.slice ip im.files.length ic, .int .i64 im.next, .int .i64 im.seq, .int .i64 im.log, .string im.mt] 24) := ⟨_, rfl⟩
 have HB2' := Lib.hid (show Bel y0 y2 by rw [hy2]; exact (HBY1.out.alloc _).alloc _)
 have HSZ2 := Lib.hid (show y0.heap.size ≤ Wb ∧ Nb < y2.heap.size ∧ Nb = Wb + 1 by have := HBY1.out.size; rw [hy2, hnb, hwb]; simp; exact this)
 have HX1 := Lib.hid (show y2.heap[Wb]? = some (.cells #[.slice ip im.files.length ic, .int .i64 im.next, .int .i64 im.seq, .int .i64 im.log, .string im.mt] 24 (0, 0)) by rw [hy2, hwb]; exact heap_two y1 _ _)
 have HX2 := Lib.hid (show y2.heap[Nb]? = some (.cells #[.slice ip im.files.length ic, .int .i64 im.next, .int .i64 im.seq, .int .i64 im.log, .string im.mt] 24 (0, 0)) by
  have h1 := heap_alloc_new (y1.alloc (.cells #[.slice ip im.files.length ic, .int .i64 im.next, .int .i64 im.seq, .int .i64 im.log, .string im.mt] 24)) (.cells #[.slice ip im.files.length ic, .int .i64 im.next, .int .i64 im.seq, .int .i64 im.log, .string im.mt] 24)
  have h2 : (y1.alloc (.cells #[.slice ip im.files.length ic, .int .i64 im.next, .int .i64 im.seq, .int .i64 im.log, .string im.mt] 24)).heap.size = Nb := by rw [hnb, hwb]; simp
  rw [h2, ← hy2] at h1
  exact h1)
 have HPI := Lib.hid (show PlsAt y2 ip im.files by rw [hy2]; exact (pls_ownP HO1.out).bel (((Bel.refl y1).alloc _).alloc _))
 have HIS := Lib.hid (show im.files = [] ∧ im.mt.size ≤ 30000 ∧ asB im = true by rw [HIM.out]; exact ⟨rfl, by decide, by decide⟩)
 have HL2 := Lib.hid (show LM w y2 ws ms b r mb jb rb qb p1 q0 (news y0 y2 ++ []) from H4.out.grow HB2'.out (fun k hk => mem_news.1 hk))
 rw [← hy2]
 clear hy2 hnb hwb HO1 HBY1
 have HWN := Lib.hid (show Wb ∈ news y0 y2 ++ [] ∧ Nb ∈ news y0 y2 ++ [] by
  have := HSZ2.out
  exact ⟨List.mem_append_left _ (mem_news.2 ⟨by omega, by omega⟩), List.mem_append_left _ (mem_news.2 ⟨by omega, by omega⟩)⟩)
 have hwn : Wb ≠ Nb := by have := HSZ2.out; omega
 have HWNN := Lib.hid (show w.heap.size ≤ Wb ∧ w.heap.size ≤ Nb by have := HSZ2.out; have := H4.out.low.size; omega)
 have HWMS := Lib.hid (show Wb ≠ ws ∧ Wb ≠ ms ∧ Nb ≠ ws ∧ Nb ≠ ms by
  have h1 := H4.out.tm.lt ws (by simp)
  have h2 := H4.out.tm.lt ms (by simp)
  have := HSZ2.out; omega)
 go_loopw [18] (fun i x => KsRel13 w ws ms b r mb jb rb qb q0 Wb Nb L.length i x) (fun i _ => L.length - (intOf i).toNat)
 case atStart => exact ⟨0, p1, _, im, im, ip, ip, ic, ic, rfl, Nat.zero_le _, HL2.out, HI1.out, HK1.out, HWN.out,
  ⟨HX1.out, HPI.out, fun h => absurd HIS.out.1 h, by rw [HIS.out.1]; exact ⟨Nat.zero_le _, HIS.out.2.1, HIS.out.2.2⟩⟩, ⟨HX2.out, HPI.out, fun h => absurd HIS.out.1 h, by rw [HIS.out.1]; exact ⟨Nat.zero_le _, HIS.out.2.1, HIS.out.2.2⟩⟩⟩
 case round =>
  clear HL2 HI1 HK1 HWN HX1 HX2 HPI HIS HIM H4 H3 HPS HI0 HQ0 HB2' HB1 HB2
  obtain ⟨k, pd, R0, was, next, wp, np, wc, nc, rfl, hk, hx, hinv, hki, hwn2, hsw, hsn⟩ := hrel
  have HX := Lib.hid hx
  have HI := Lib.hid hinv
  have HKI := Lib.hid hki
  have HWN := Lib.hid hwn2
  have HSW := Lib.hid hsw
  have HSN := Lib.hid hsn
  clear hx hinv hki hwn2 hsw hsn
  by_cases hlt : k < L.length
  ·have hii : (k : Int) < (L.length : Int) := by omega
   obtain ⟨s0, -, -, -⟩ := HX.out.cells
   go_wp2_with (fail)
   refine (tm_dead HX.out.tm (by first | exact Bel.refl _ | exact (Bel.refl _).drew)).mono ?_
   rintro e y1 ⟨rfl, hb1⟩
   have HB1 := Lib.hid (show Bel wr y1 from by first | exact hb1 | exact (Bel.refl _).drew.trans hb1)
   clear hb1 s0
   cases hg : pd.M.gone with
   | false =>
    have HPW := Lib.hid (HKI.out.hold hg).1
    have HG := Lib.hid hg
    clear hg
    obtain ⟨ad, B, O, sp, rfl, hp, hcs, hok⟩ := nact_at H.out HX.out.low hlt
    have HACT := Lib.hid (fun x' (hx' : Bel w x') => nact_at H.out hx' hlt)
    have HSG := Lib.hid (HALL.out _ (List.getElem_mem hlt))
    obtain ⟨a, ha⟩ : ∃ a, a = L[k] := ⟨_, rfl⟩
    rw [← ha] at hok HSG HACT
    have HOK := Lib.hid hok
    have HACT := Lib.hid (show ∀ z', Bel w z' → (z'.cell? ⟨B, O, sp⟩ = some (.int .i64 a.op) ∧ z'.cell? ⟨B, O + 1, none⟩ = some (.int .i64 a.n) ∧ z'.cell? ⟨B, O + 2, none⟩ = some (.slice a.p a.st.files.length a.c) ∧ z'.cell? ⟨B, O + 3, none⟩ = some (.int .i64 a.st.next) ∧ z'.cell? ⟨B, O + 4, none⟩ = some (.int .i64 a.st.seq) ∧ z'.cell? ⟨B, O + 5, none⟩ = some (.int .i64 a.st.log) ∧ z'.cell? ⟨B, O + 6, none⟩ = some (.string a.st.mt) ∧ z'.cell? ⟨B, O + 7, none⟩ = some (.slice a.left.p a.left.L.length a.left.cap) ∧ z'.cell? ⟨B, O + 8, none⟩ = some (.slice a.spoil.p a.spoil.L.length a.spoil.cap)) from fun z' hz => by
     obtain ⟨a', B', O', sp', ha', hp', hcs', -⟩ := HACT.out z' hz
     obtain rfl : ad = a' := by simpa using ha'
     rw [hp, Addr.mk.injEq] at hp'
     obtain ⟨rfl, rfl, rfl⟩ := hp'
     exact hcs')
    clear ha hok hcs
    have HWR := Lib.hid (right_was HKI.out.right)
    have HAR := Lib.hid HSW.out.len.2.2
    have HWL := Lib.hid (show was.files.length ≤ 100000 ∧ was.mt.size ≤ 30000 by have := HSW.out.len; omega)
    have HWB := Lib.hid (HSW.out.bel HB1.out (fun _ h => h)).box
    have HWP := Lib.hid (HSW.out.bel HB1.out (fun _ h => h)).at_
    have HL0 := Lib.hid (show LM w y1 ws ms b r mb jb rb qb pd q0 R0 from HX.out.bel HB1.out)
    obtain ⟨⟨b0, b1, b2, b3, b4⟩, -⟩ := box5 HWB.out
    go_wp2_with (fail)
    refine (as13_any wp wc was _ (HWP.out.bel (by first | exact Bel.refl _ | exact (Bel.refl _).drew)) (by have := HWL.out; omega) (by have := HWL.out; omega)).mono ?_
    rintro e y2 ⟨xp, xc, rfl, hxo, hxb⟩
    rw [as_yes HAR.out] at hxo ⊢
    have HXO := Lib.hid hxo
    have HXB := Lib.hid (show Bel y1 y2 from by first | exact hxb | exact (Bel.refl _).drew.trans hxb)
    clear hxo hxb b0 b1 b2 b3 b4
    go_wp2_with (fail)
    obtain ⟨x2, hx2⟩ : ∃ x2, x2 = y2.alloc (.cells #[.slice xp was.files.length xc, .int .i64 was.next, .int .i64 was.seq, .int .i64 was.log, .string was.mt] 28) := ⟨_, rfl⟩
    obtain ⟨Xb, hxbq⟩ : ∃ Xb, Xb = y2.heap.size := ⟨_, rfl⟩
    have HB2 := Lib.hid (show Bel y1 x2 by rw [hx2]; exact HXB.out.alloc _)
    have HXX := Lib.hid (show x2.heap[Xb]? = some (.cells #[.slice xp was.files.length xc, .int .i64 was.next, .int .i64 was.seq, .int .i64 was.log, .string was.mt] 28 (0, 0)) by rw [hx2, hxbq]; exact heap_alloc_new y2 _)
    rw [← hx2, ← hxbq]
    clear hx2 hxbq HXO HXB
    obtain ⟨⟨b0, b1, b2, b3, b4⟩, -⟩ := box5 HXX.out
    have HRS := Lib.hid (show ∀ z', Bel x2 z' → (z'.cell? ⟨B, O, sp⟩ = some (.int .i64 a.op) ∧ z'.cell? ⟨B, O + 1, none⟩ = some (.int .i64 a.n) ∧ z'.cell? ⟨B, O + 2, none⟩ = some (.slice a.p a.st.files.length a.c) ∧ z'.cell? ⟨B, O + 3, none⟩ = some (.int .i64 a.st.next) ∧ z'.cell? ⟨B, O + 4, none⟩ = some (.int .i64 a.st.seq) ∧ z'.cell? ⟨B, O + 5, none⟩ = some (.int .i64 a.st.log) ∧ z'.cell? ⟨B, O + 6, none⟩ = some (.string a.st.mt) ∧ z'.cell? ⟨B, O + 7, none⟩ = some (.slice a.left.p a.left.L.length a.left.cap) ∧ z'.cell? ⟨B, O + 8, none⟩ = some (.slice a.spoil.p a.spoil.L.length a.spoil.cap)) ∧ z'.cell? ⟨Xb, 0, none⟩ = some (.slice xp was.files.length xc) ∧ z'.cell? ⟨Xb, 1, none⟩ = some (.int .i64 was.next) ∧ z'.cell? ⟨Xb, 2, none⟩ = some (.int .i64 was.seq) ∧ z'.cell? ⟨Xb, 3, none⟩ = some (.int .i64 was.log) ∧ z'.cell? ⟨Xb, 4, none⟩ = some (.string was.mt) from fun z' hz => by
     obtain ⟨⟨b0, b1, b2, b3, b4⟩, -⟩ := box5 (box_bel HXX.out hz)
     exact ⟨HACT.out z' (HL0.out.low.trans (HB2.out.trans hz)), b0, b1, b2, b3, b4⟩)
    clear b0 b1 b2 b3 b4
    obtain ⟨st, hst⟩ : ∃ st, st = stateM a was := ⟨_, rfl⟩
    have HSTQ := Lib.hid hst
    have HST := Lib.hid (show ∀ z', Bel x2 z' → Calls Tryz.prog 29 #[.agg #[.int .i64 a.op, .int .i64 a.n, .slice a.p a.st.files.length a.c, .int .i64 a.st.next, .int .i64 a.st.seq, .int .i64 a.st.log, .string a.st.mt, .slice a.left.p a.left.L.length a.left.cap, .slice a.spoil.p a.spoil.L.length a.spoil.cap],
      .agg #[.slice xp was.files.length xc, .int .i64 was.next, .int .i64 was.seq, .int .i64 was.log, .string was.mt]] z' fun e y => ∃ pp pc, e = .returned (.agg #[.slice pp st.files.length pc, .int .i64 st.next, .int .i64 st.seq, .int .i64 st.log, .string st.mt]) ∧ PlsAt y pp st.files ∧ (pp = a.p ∨ ∀ q, pp = some q → z'.heap.size ≤ q.block) ∧ Bel z' y from fun z' hz => by
     rw [hst]
     exact state13_any a was xp xc z' (HOK.out.bel (HL0.out.low.trans (HB2.out.trans hz))) HWR.out)
    have HSS := Lib.hid (show st.files.length ≤ 60 ∧ st.mt.size ≤ 1000 ∧ asB st = true by rw [hst]; exact state_small HSG.out was)
    have HAP := Lib.hid (show st.files ≠ [] → ∀ k, a.p = some k → k.block < w.heap.size from fun hne k hk => HOK.out.at_.lt (fun e => hne (by rw [hst]; exact state_nil e was)) k hk)
    clear hst
    refine wp_region_held_drew (S := fun z => (z.cell? ⟨B, O, sp⟩ = some (.int .i64 a.op) ∧ z.cell? ⟨B, O + 1, none⟩ = some (.int .i64 a.n) ∧ z.cell? ⟨B, O + 2, none⟩ = some (.slice a.p a.st.files.length a.c) ∧ z.cell? ⟨B, O + 3, none⟩ = some (.int .i64 a.st.next) ∧ z.cell? ⟨B, O + 4, none⟩ = some (.int .i64 a.st.seq) ∧ z.cell? ⟨B, O + 5, none⟩ = some (.int .i64 a.st.log) ∧ z.cell? ⟨B, O + 6, none⟩ = some (.string a.st.mt) ∧ z.cell? ⟨B, O + 7, none⟩ = some (.slice a.left.p a.left.L.length a.left.cap) ∧ z.cell? ⟨B, O + 8, none⟩ = some (.slice a.spoil.p a.spoil.L.length a.spoil.cap)) ∧ z.cell? ⟨Xb, 0, none⟩ = some (.slice xp was.files.length xc) ∧ z.cell? ⟨Xb, 1, none⟩ = some (.int .i64 was.next) ∧ z.cell? ⟨Xb, 2, none⟩ = some (.int .i64 was.seq) ∧ z.cell? ⟨Xb, 3, none⟩ = some (.int .i64 was.log) ∧ z.cell? ⟨Xb, 4, none⟩ = some (.string was.mt)) (by kernel_rfl) (HRS.out _ (Bel.refl _).drew) (fun hHeld => ?_)
    refine tq ⟨some 84, .move (.tmp 0), 44, "law.go:235", #[], none⟩ ?_ 0 rfl ?_ ?_;rotate_left;·(intros;go_simp<;>with_reducible rfl)
    try simp only[Act.put,sqA,sqB,sqC]
    refine tq ⟨some 85, .move (.tmp 18), 3, "law.go:235", #[], none⟩ ?_ 1 rfl ?_ ?_;rotate_left;·(intros;go_simp<;>with_reducible rfl)
    try simp only[Act.put,sqA,sqB,sqC]
    refine tq ⟨some 86, .indexAddr 44 (.tmp 84) (.tmp 85), 0, "law.go:235", #[⟨0, .data⟩, ⟨1, .data⟩], none⟩ ?_ 2 rfl ?_ ?_;rotate_left;·(intros;go_simp<;>with_reducible rfl)
    try simp only[Act.put,sqA,sqB,sqC]
    refine tq ⟨some 87, .load 54 (.tmp 86), 54, "law.go:235", #[⟨2, .data⟩], none⟩ ?_ 3 rfl ?_ ?_;rotate_left;·(intros;go_simp<;>with_reducible rfl)
    try simp only[Act.put,sqA,sqB,sqC]
    refine tq ⟨some 88, .load 28 (.tmp 19), 28, "law.go:235", #[], none⟩ ?_ 4 rfl ?_ ?_;rotate_left;·(intros;go_simp<;>with_reducible rfl)
    try simp only[Act.put,sqA,sqB,sqC]
    refine wpAnyH_ready (rs := [5, 6]) (by kernel_rfl) (by simp) ?_
    refine (AllReadyH.cons (o := ⟨some 89, .call ⟨.value (.func 29), #[.tmp 87, .tmp 88], #[54, 28]⟩, 24, "law.go:235", #[⟨3, .data⟩, ⟨4, .data⟩], none⟩) rfl (fun K hK => ?_) (AllReadyH.cons (o := ⟨some 21, .alloc 24, 0, "law.go:235", #[], none⟩) rfl (fun K hK => ?_) AllReadyH.nil))
    ·go_simp
     refine (HST.out _ (Bel.refl _).drew).mono ?_
     rintro e y ⟨pp, pc, rfl, hpl, hpb, hb⟩
     have HB := Lib.hid (show Bel x2 y from (Bel.refl x2).drew.trans hb)
     have HPL := Lib.hid hpl
     have HPB := Lib.hid (show pp = a.p ∨ ∀ q, pp = some q → x2.heap.size ≤ q.block from hpb)
     clear hpl hpb hb
     dsimp only
     refine hK.out _ _ (HRS.out _ HB.out) (fun hHeld => ?_);clear hK K;try simp only[Act.put,sqA,sqB,sqC]
     refine wpAnyH_ready (rs := [6]) (by kernel_rfl) (by simp) ?_
     refine ar1 ⟨some 21, .alloc 24, 0, "law.go:235", #[], none⟩ rfl (fun K hK => ?_)
     go_simp
     obtain ⟨yy, hyy⟩ : ∃ yy, yy = y.alloc (.cells #[.slice none 0 0, .int .i64 0, .int .i64 0, .int .i64 0, .string ⟨#[]⟩] 24) := ⟨_, rfl⟩
     obtain ⟨Sb, hsb⟩ : ∃ Sb, Sb = y.heap.size := ⟨_, rfl⟩
     have HBS := Lib.hid (show yy.heap[Sb]? = some (.cells #[.slice none 0 0, .int .i64 0, .int .i64 0, .int .i64 0, .string ⟨#[]⟩] 24 (0, 0)) by rw [hyy, hsb]; exact heap_alloc_new y _)
     have HYY := Lib.hid (show Bel x2 yy by rw [hyy]; exact HB.out.alloc _)
     have HSB := Lib.hid (show x2.heap.size ≤ Sb ∧ Sb < yy.heap.size by have := HB.out.size; rw [hyy, hsb]; simp; exact this)
     have HPLY := Lib.hid (show PlsAt yy pp st.files by rw [hyy]; exact HPL.out.bel ((Bel.refl y).alloc _))
     have HNE := Lib.hid (show st.files ≠ [] → ∀ k, pp = some k → k.block ≠ Sb ∧ ((x2.heap.size ≤ k.block ∧ k.block < yy.heap.size) ∨ k.block < w.heap.size) from fun hne k hk => by
      have h1 := HPL.out.lt hne k hk
      refine ⟨by omega, ?_⟩
      rcases HPB.out with e | h
      ·exact Or.inr (HAP.out hne k (by rw [← e]; exact hk))
      ·exact Or.inl ⟨h k hk, by rw [hyy]; simp; omega⟩)
     rw [← hyy, ← hsb]
     clear hyy hsb HB HPL HPB HAP
     refine hK.out _ _ (HRS.out _ HYY.out) (fun hHeld => ?_);clear hK K;try simp only[Act.put,sqA,sqB,sqC]
     refine wpAnyH_ready (rs := [7]) (by kernel_rfl) (by simp) ?_
     refine ar1 ⟨none, .store 24 (.tmp 21) (.tmp 89), 0, "law.go:235", #[⟨6, .data⟩, ⟨5, .data⟩, ⟨5, .chain⟩, ⟨0, .phase⟩, ⟨1, .phase⟩, ⟨2, .phase⟩, ⟨3, .phase⟩, ⟨4, .phase⟩, ⟨5, .phase⟩, ⟨6, .phase⟩], none⟩ rfl (fun K hK => ?_)
     obtain ⟨⟨b0, b1, b2, b3, b4⟩, g0, g1, g2, g3, g4⟩ := box5 HBS.out
     go_simp
     obtain ⟨x3, hx3⟩ : ∃ x3, x3 = (((((yy.setCell ⟨Sb, 0, none⟩ (.slice pp st.files.length pc)).setCell ⟨Sb, 1, none⟩ (.int .i64 st.next)).setCell ⟨Sb, 2, none⟩ (.int .i64 st.seq)).setCell ⟨Sb, 3, none⟩ (.int .i64 st.log)).setCell ⟨Sb, 4, none⟩ (.string st.mt)) := ⟨_, rfl⟩
     have HB3 := Lib.hid (show Bel x2 x3 by rw [hx3]; exact keep_bel1 keep5 HYY.out HSB.out.1)
     have HBS3 := Lib.hid (show x3.heap[Sb]? = some (.cells #[.slice pp st.files.length pc, .int .i64 st.next, .int .i64 st.seq, .int .i64 st.log, .string st.mt] 24 (0, 0)) by rw [hx3]; exact set5 HBS.out)
     have HPL3 := Lib.hid (show PlsAt x3 pp st.files by rw [hx3]; exact HPLY.out.keep keep5 (fun hne k hk => by rw [List.mem_singleton]; exact (HNE.out hne k hk).1))
     have HZ3 := Lib.hid (show x3.heap.size = yy.heap.size by rw [hx3]; simp)
     have HL3 := Lib.hid (show LM w x3 ws ms b r mb jb rb qb pd q0 (news y1 x3 ++ R0) from HL0.out.grow (HB2.out.trans HB3.out) (fun k hk => mem_news.1 hk))
     have HNE3 := Lib.hid (show st.files ≠ [] → ∀ k, pp = some k → k.block ∈ news y1 x3 ++ R0 ∨ k.block < w.heap.size from fun hne k hk => by
      rcases (HNE.out hne k hk).2 with h | h
      ·refine Or.inl (List.mem_append_left _ (mem_news.2 ⟨?_, ?_⟩))
       ·have := HB2.out.size; omega
       ·have := HZ3.out; omega
      ·exact Or.inr h)
     have HSBN := Lib.hid (show Sb ∈ news y1 x3 ++ R0 from List.mem_append_left _ (mem_news.2 ⟨by have := HB2.out.size; have := HSB.out; omega, by have := HSB.out; have := HZ3.out; omega⟩))
     rw [← hx3]
     clear hx3 b0 b1 b2 b3 b4 g0 g1 g2 g3 g4
     refine hK.out _ _ (HRS.out _ HB3.out) (fun hHeld => ?_);clear hK K;try simp only[Act.put,sqA,sqB,sqC]
     refine wpAnyH_done (by kernel_rfl) ?_ _
     have HSBW := Lib.hid (show y1.heap.size ≤ Sb by have := HB2.out.size; have := HSB.out; omega)
     have HNW := Lib.hid (show st.files ≠ [] → ∀ k, pp = some k → k.block ≠ Wb ∧ k.block ≠ Nb from fun hne k hk => by
      have h1 := (HNE.out hne k hk).2
      have h2 : Wb < y1.heap.size ∧ Nb < y1.heap.size := ⟨Nat.lt_of_lt_of_le (HX.out.tm.lt Wb (by simp [HWN.out.1])) HB1.out.size, Nat.lt_of_lt_of_le (HX.out.tm.lt Nb (by simp [HWN.out.2])) HB1.out.size⟩
      have h3 := HWNN.out
      have h4 := HB2.out.size
      omega)
     clear hHeld HRS HPLY HNE HBS HYY HSB
     obtain ⟨⟨b0, b1, b2, b3, b4⟩, -⟩ := box5 HBS3.out
     obtain ⟨-, s1, -, -⟩ := HL3.out.cells
     go_wp2_with (fail)
     refine wp_region_held_drew (S := fun z => z.cell? ⟨ws, 1, none⟩ = some (.pointer (some ⟨mb, 0, none⟩)) ∧ z.cell? ⟨Sb, 0, none⟩ = some (.slice pp st.files.length pc) ∧ z.cell? ⟨Sb, 1, none⟩ = some (.int .i64 st.next) ∧ z.cell? ⟨Sb, 2, none⟩ = some (.int .i64 st.seq) ∧ z.cell? ⟨Sb, 3, none⟩ = some (.int .i64 st.log) ∧ z.cell? ⟨Sb, 4, none⟩ = some (.string st.mt)) (by kernel_rfl) ⟨s1, b0, b1, b2, b3, b4⟩ (fun hHeld => ?_)
     clear b0 b1 b2 b3 b4 s1
     refine tq ⟨some 90, .move (.tmp 13), 46, "law.go:236", #[], none⟩ ?_ 0 rfl ?_ ?_;rotate_left;·(intros;go_simp<;>with_reducible rfl)
     try simp only[Act.put,sqA,sqB,sqC]
     refine tq ⟨some 91, .nilCheck (.tmp 90), 0, "law.go:236", #[⟨0, .data⟩], none⟩ ?_ 1 rfl ?_ ?_;rotate_left;·(intros;go_simp<;>with_reducible rfl)
     try simp only[Act.put,sqA,sqB,sqC]
     refine tq ⟨some 92, .fieldAddr 58 (.tmp 91) 1, 0, "law.go:236", #[⟨1, .data⟩], none⟩ ?_ 2 rfl ?_ ?_;rotate_left;·(intros;go_simp<;>with_reducible rfl)
     try simp only[Act.put,sqA,sqB,sqC]
     refine tq ⟨some 93, .load 56 (.tmp 92), 56, "law.go:236", #[⟨2, .data⟩], none⟩ ?_ 3 rfl ?_ ?_;rotate_left;·(intros;go_simp<;>with_reducible rfl)
     try simp only[Act.put,sqA,sqB,sqC]
     refine tq ⟨some 94, .load 24 (.tmp 21), 24, "law.go:236", #[], none⟩ ?_ 4 rfl ?_ ?_;rotate_left;·(intros;go_simp<;>with_reducible rfl)
     try simp only[Act.put,sqA,sqB,sqC]
     refine wpAnyH_ready (rs := [5]) (by kernel_rfl) (by simp) ?_
     refine ar1 ⟨some 95, .call ⟨.value (.func 30), #[.tmp 93, .tmp 94], #[56, 24]⟩, 31, "law.go:236", #[⟨3, .data⟩, ⟨4, .data⟩], none⟩ rfl (fun K hK => ?_)
     go_simp
     refine (tm_set HL3.out.tm (Bel.refl _).drew pp pc st (HPL3.out.bel (Bel.refl _).drew) (fun hne k hk => (HNE3.out hne k hk).imp (fun h => by simp only [List.mem_cons]; exact Or.inr (Or.inr h)) id) (by have := HSS.out; omega) (by have := HSS.out; omega) HI.out.some_ (by have := HI.out.last; omega) (by have := HI.out.n; omega)).mono ?_
     rintro e y4 ⟨rfl, ht4, hk4⟩
     have HL4 := Lib.hid (HL3.out.to ht4 hk4)
     have HK4 := Lib.hid hk4
     have HBS4 := Lib.hid ((hk4 Sb (by simp only [List.mem_cons]; exact Or.inr (Or.inr HSBN.out))).trans HBS3.out)
     clear ht4 hk4
     obtain ⟨⟨b0, b1, b2, b3, b4⟩, -⟩ := box5 HBS4.out
     obtain ⟨-, s1, -, -⟩ := HL4.out.cells
     dsimp only
     refine hK.out _ _ ⟨s1, b0, b1, b2, b3, b4⟩ (fun hHeld => ?_)
     clear hK K b0 b1 b2 b3 b4 s1
     try simp only[Act.put,sqA,sqB,sqC]
     refine tq ⟨some 22, .assign (.tmp 95), 31, "law.go:236", #[⟨5, .data⟩, ⟨5, .chain⟩, ⟨0, .phase⟩, ⟨1, .phase⟩, ⟨2, .phase⟩, ⟨3, .phase⟩, ⟨4, .phase⟩, ⟨5, .phase⟩], none⟩ ?_ 6 rfl ?_ ?_;rotate_left;·(intros;go_simp<;>with_reducible rfl)
     try simp only[Act.put,sqA,sqB,sqC]
     refine wpAnyH_done (by kernel_rfl) ?_ _
     clear hHeld
     have HGR := Lib.hid (show ∀ k ∈ R0, k ∈ news y1 x3 ++ R0 from fun k hk => List.mem_append_right _ hk)
     have HSW4 := Lib.hid (((HSW.out.bel HB1.out (fun _ h => h)).bel (HB2.out.trans HB3.out) HGR.out).kr (R' := news y1 x3 ++ R0) (fun k hk => HK4.out k (by simp only [List.mem_cons]; exact Or.inr (Or.inr hk))) HL3.out.low HL4.out.low (HGR.out _ HWN.out.1) (fun _ h => h))
     have HSN4 := Lib.hid (((HSN.out.bel HB1.out (fun _ h => h)).bel (HB2.out.trans HB3.out) HGR.out).kr (R' := news y1 x3 ++ R0) (fun k hk => HK4.out k (by simp only [List.mem_cons]; exact Or.inr (Or.inr hk))) HL3.out.low HL4.out.low (HGR.out _ HWN.out.2) (fun _ h => h))
     have HPL4 := Lib.hid (HPL3.out.kr (w := w) HK4.out HL3.out.low HL4.out.low (fun hne k hk => (HNE3.out hne k hk).imp (fun h => by simp only [List.mem_cons]; exact Or.inr (Or.inr h)) id))
     have HWN4 := Lib.hid (show Wb ∈ news y1 x3 ++ R0 ∧ Nb ∈ news y1 x3 ++ R0 from ⟨HGR.out _ HWN.out.1, HGR.out _ HWN.out.2⟩)
     have HWLT := Lib.hid (show Wb < y1.heap.size ∧ Nb < y1.heap.size from ⟨Nat.lt_of_lt_of_le (HX.out.tm.lt Wb (by simp [HWN.out.1])) HB1.out.size, Nat.lt_of_lt_of_le (HX.out.tm.lt Nb (by simp [HWN.out.2])) HB1.out.size⟩)
     have HKS := Lib.hid (HKI.out.set HI.out HX.out.tm.good (by omega) HG.out st)
     have HIS := Lib.hid (HI.out.set HX.out.tm.good (by omega) st)
     obtain ⟨rs, hrs⟩ : ∃ rs, rs = mset pd.s pd.n st pd.M := ⟨_, rfl⟩
     rw [← hrs]
     have HKS := Lib.hid (show KI ⟨rs.M, rs.s, rs.n⟩ (if rs.e = 0 then st else was) (if rs.e = 7 then st else if rs.e = 0 then st else was) by rw [hrs]; exact HKS.out)
     have HIS := Lib.hid (show Inv13 (k + 1) ⟨rs.M, rs.s, rs.n⟩ by rw [hrs]; exact HIS.out)
     rw [← hrs] at HL4
     obtain ⟨er, her⟩ : ∃ er, er = rs.e := ⟨_, rfl⟩
     rw [← her] at HKS ⊢
     obtain ⟨pe, hpe⟩ : ∃ pe : SD, pe = ⟨rs.M, rs.s, rs.n⟩ := ⟨_, rfl⟩
     rw [← hpe] at HKS HIS HL4
     clear hrs her hpe HK4 HL3 HB3 HSTQ HST
     have HLEN := Lib.hid (show st.files.length ≤ 60 ∧ st.mt.size ≤ 30000 ∧ asB st = true by have := HSS.out; exact ⟨this.1, by omega, this.2.2⟩)
     have HBLK := Lib.hid (show st.files ≠ [] → ∀ k, pp = some k → (k.block ∈ news y1 x3 ++ R0 ∨ k.block < w.heap.size) ∧ k.block ≠ Wb ∧ k.block ≠ Nb from fun hne k hk => ⟨HNE3.out hne k hk, HNW.out hne k hk⟩)
     have hsw1 : Sb ≠ Wb := by have := HSBW.out; have := HWLT.out; omega
     have hsn1 : Sb ≠ Nb := by have := HSBW.out; have := HWLT.out; omega
     obtain ⟨⟨b0, b1, b2, b3, b4⟩, -⟩ := box5 HBS4.out
     obtain ⟨⟨v0, v1, v2, v3, v4⟩, f0, f1, f2, f3, f4⟩ := box5 HSW4.out.box
     obtain ⟨⟨n0, n1, n2, n3, n4⟩, g0, g1, g2, g3, g4⟩ := box5 HSN4.out.box
     by_cases he0 : er = 0
     ·subst he0
      have HKZ := Lib.hid (show KI pe st st by have := HKS.out; simpa using this)
      obtain ⟨z1, hz1⟩ : ∃ z1, z1 = (((((y4.setCell ⟨Wb, 0, none⟩ (.slice pp st.files.length pc)).setCell ⟨Wb, 1, none⟩ (.int .i64 st.next)).setCell ⟨Wb, 2, none⟩ (.int .i64 st.seq)).setCell ⟨Wb, 3, none⟩ (.int .i64 st.log)).setCell ⟨Wb, 4, none⟩ (.string st.mt)) := ⟨_, rfl⟩
      obtain ⟨z2, hz2⟩ : ∃ z2, z2 = (((((z1.setCell ⟨Nb, 0, none⟩ (.slice pp st.files.length pc)).setCell ⟨Nb, 1, none⟩ (.int .i64 st.next)).setCell ⟨Nb, 2, none⟩ (.int .i64 st.seq)).setCell ⟨Nb, 3, none⟩ (.int .i64 st.log)).setCell ⟨Nb, 4, none⟩ (.string st.mt)) := ⟨_, rfl⟩
      have HLA := Lib.hid (show LM w z1 ws ms b r mb jb rb qb pe q0 (news y1 x3 ++ R0) by rw [hz1]; exact HL4.out.other keep5 (fun k hk => by rw [List.mem_singleton] at hk; subst hk; exact ⟨HWNN.out.1, HWN4.out.1, HWMS.out.1, HWMS.out.2.1⟩))
      have HSWA := Lib.hid (show StB w z1 (news y1 x3 ++ R0) Wb Wb Nb st pp pc by rw [hz1]; exact HSW4.out.set HPL4.out HBLK.out HLEN.out (Or.inl rfl))
      have HSNA := Lib.hid (show StB w z1 (news y1 x3 ++ R0) Nb Wb Nb next np nc by rw [hz1]; exact HSN4.out.keep keep5 (by rw [List.mem_singleton]; exact fun e => hwn e.symm) (fun k hk => Or.inl (List.mem_singleton.1 hk)))
      have HLB := Lib.hid (show LM w z2 ws ms b r mb jb rb qb pe q0 (news y1 x3 ++ R0) by rw [hz2]; exact HLA.out.other keep5 (fun k hk => by rw [List.mem_singleton] at hk; subst hk; exact ⟨HWNN.out.2, HWN4.out.2, HWMS.out.2.2.1, HWMS.out.2.2.2⟩))
      have HSNB := Lib.hid (show StB w z2 (news y1 x3 ++ R0) Nb Wb Nb st pp pc by rw [hz2]; exact HSNA.out.set HSWA.out.at_ HBLK.out HLEN.out (Or.inr rfl))
      have HSWB := Lib.hid (show StB w z2 (news y1 x3 ++ R0) Wb Wb Nb st pp pc by rw [hz2]; exact HSWA.out.keep keep5 (by rw [List.mem_singleton]; exact hwn) (fun k hk => Or.inr (List.mem_singleton.1 hk)))
      have HZE1 := Lib.hid hz1
      have HZE2 := Lib.hid hz2
      clear hz1 hz2
      go_wp2_with (with_reducible refine stop_ld ?_)
      refine go_on ?_
      go_wp2_with (with_reducible refine stop_st ?_)
      refine go_on ?_
      go_wp2_with (with_reducible refine stop_ld ?_)
      rw [← HZE1.out]
      clear b0 b1 b2 b3 b4 v0 v1 v2 v3 v4 n0 n1 n2 n3 n4 f0 f1 f2 f3 f4 g0 g1 g2 g3 g4
      obtain ⟨⟨v0, v1, v2, v3, v4⟩, -⟩ := box5 HSWA.out.box
      obtain ⟨⟨n0, n1, n2, n3, n4⟩, g0, g1, g2, g3, g4⟩ := box5 HSNA.out.box
      refine go_on ?_
      go_wp2_with (with_reducible refine stop_st ?_)
      refine go_on ?_
      go_wp2_with (fail)
      rw [← HZE2.out]
      go_roundw
      case rel => exact ⟨k + 1, pe, news y1 x3 ++ R0, st, st, pp, pp, pc, pc, by go_num, by omega, HLB.out, HIS.out, HKZ.out, HWN4.out, HSWB.out, HSNB.out⟩
      case measure => simp [intOf]; omega
     ·have he1 : (er == 0) = false := by rw [beq_eq_false_iff_ne]; exact he0
      obtain ⟨z1, hz1⟩ : ∃ z1, z1 = (((((y4.setCell ⟨Nb, 0, none⟩ (.slice wp was.files.length wc)).setCell ⟨Nb, 1, none⟩ (.int .i64 was.next)).setCell ⟨Nb, 2, none⟩ (.int .i64 was.seq)).setCell ⟨Nb, 3, none⟩ (.int .i64 was.log)).setCell ⟨Nb, 4, none⟩ (.string was.mt)) := ⟨_, rfl⟩
      have HLA := Lib.hid (show LM w z1 ws ms b r mb jb rb qb pe q0 (news y1 x3 ++ R0) by rw [hz1]; exact HL4.out.other keep5 (fun k hk => by rw [List.mem_singleton] at hk; subst hk; exact ⟨HWNN.out.2, HWN4.out.2, HWMS.out.2.2.1, HWMS.out.2.2.2⟩))
      have HSNA := Lib.hid (show StB w z1 (news y1 x3 ++ R0) Nb Wb Nb was wp wc by rw [hz1]; exact HSN4.out.set HSW4.out.at_ HSW4.out.blk HSW4.out.len (Or.inr rfl))
      have HSWA := Lib.hid (show StB w z1 (news y1 x3 ++ R0) Wb Wb Nb was wp wc by rw [hz1]; exact HSW4.out.keep keep5 (by rw [List.mem_singleton]; exact hwn) (fun k hk => Or.inr (List.mem_singleton.1 hk)))
      by_cases he7 : er = 7
      ·subst he7
       have HKZ := Lib.hid (show KI pe was st by have := HKS.out; simpa using this)
       have HKZ1 := Lib.hid (show y4.heap[Sb]? = some (.cells #[.slice pp st.files.length pc, .int .i64 st.next, .int .i64 st.seq, .int .i64 st.log, .string st.mt] 24 (0, 0)) → z1.heap[Sb]? = some (.cells #[.slice pp st.files.length pc, .int .i64 st.next, .int .i64 st.seq, .int .i64 st.log, .string st.mt] 24 (0, 0)) from fun h => by rw [hz1]; exact keep5.at h (by rw [List.mem_singleton]; exact hsn1))
       have HPLZ := Lib.hid (show PlsAt z1 pp st.files by rw [hz1]; exact HPL4.out.keep keep5 (fun hne k hk => by rw [List.mem_singleton]; exact (HBLK.out hne k hk).2.2))
       obtain ⟨z2, hz2⟩ : ∃ z2, z2 = (((((z1.setCell ⟨Nb, 0, none⟩ (.slice pp st.files.length pc)).setCell ⟨Nb, 1, none⟩ (.int .i64 st.next)).setCell ⟨Nb, 2, none⟩ (.int .i64 st.seq)).setCell ⟨Nb, 3, none⟩ (.int .i64 st.log)).setCell ⟨Nb, 4, none⟩ (.string st.mt)) := ⟨_, rfl⟩
       have HLB := Lib.hid (show LM w z2 ws ms b r mb jb rb qb pe q0 (news y1 x3 ++ R0) by rw [hz2]; exact HLA.out.other keep5 (fun k hk => by rw [List.mem_singleton] at hk; subst hk; exact ⟨HWNN.out.2, HWN4.out.2, HWMS.out.2.2.1, HWMS.out.2.2.2⟩))
       have HSNB := Lib.hid (show StB w z2 (news y1 x3 ++ R0) Nb Wb Nb st pp pc by rw [hz2]; exact HSNA.out.set HPLZ.out HBLK.out HLEN.out (Or.inr rfl))
       have HSWB := Lib.hid (show StB w z2 (news y1 x3 ++ R0) Wb Wb Nb was wp wc by rw [hz2]; exact HSWA.out.keep keep5 (by rw [List.mem_singleton]; exact hwn) (fun k hk => Or.inr (List.mem_singleton.1 hk)))
       have HZE1 := Lib.hid hz1
       have HZE2 := Lib.hid hz2
       clear hz1 hz2
       go_wp2_with (with_reducible refine stop_ld ?_)
       refine go_on ?_
       go_wp2_with (with_reducible refine stop_st ?_)
       refine go_on ?_
       go_wp2_with (with_reducible refine stop_ld ?_)
       rw [← HZE1.out]
       clear b0 b1 b2 b3 b4 v0 v1 v2 v3 v4 n0 n1 n2 n3 n4 f0 f1 f2 f3 f4 g0 g1 g2 g3 g4
       obtain ⟨⟨b0, b1, b2, b3, b4⟩, -⟩ := box5 (HKZ1.out HBS4.out)
       obtain ⟨⟨n0, n1, n2, n3, n4⟩, g0, g1, g2, g3, g4⟩ := box5 HSNA.out.box
       refine go_on ?_
       go_wp2_with (with_reducible refine stop_st ?_)
       refine go_on ?_
       go_wp2_with (fail)
       rw [← HZE2.out]
       go_roundw
       case rel => exact ⟨k + 1, pe, news y1 x3 ++ R0, was, st, wp, pp, wc, pc, by go_num, by omega, HLB.out, HIS.out, HKZ.out, HWN4.out, HSWB.out, HSNB.out⟩
       case measure => simp [intOf]; omega
      ·have he2 : (er == 7) = false := by rw [beq_eq_false_iff_ne]; exact he7
       have HKZ := Lib.hid (show KI pe was was by have := HKS.out; rw [if_neg he0, if_neg he7] at this; exact this)
       have HZE1 := Lib.hid hz1
       clear hz1
       go_wp2_with (with_reducible refine stop_ld ?_)
       refine go_on ?_
       go_wp2_with (with_reducible refine stop_st ?_)
       refine go_on ?_
       go_wp2_with (fail)
       rw [← HZE1.out]
       go_roundw
       case rel => exact ⟨k + 1, pe, news y1 x3 ++ R0, was, was, wp, wp, wc, wc, by go_num, by omega, HLA.out, HIS.out, HKZ.out, HWN4.out, HSWA.out, HSNA.out⟩
       case measure => simp [intOf]; omega
    ·go_simp
     obtain ⟨y, hyy⟩ : ∃ y, y = (x2.alloc (.cells #[.slice none 0 0, .int .i64 0, .int .i64 0, .int .i64 0, .string ⟨#[]⟩] 24)).drew := ⟨_, rfl⟩
     obtain ⟨Sb, hsb⟩ : ∃ Sb, Sb = x2.heap.size := ⟨_, rfl⟩
     have HBY := Lib.hid (show y.heap[Sb]? = some (.cells #[.slice none 0 0, .int .i64 0, .int .i64 0, .int .i64 0, .string ⟨#[]⟩] 24 (0, 0)) by rw [hyy, hsb]; exact heap_alloc_new x2 _)
     have HY := Lib.hid (show Bel x2 y by rw [hyy]; exact ((Bel.refl x2).alloc _).drew)
     have hysz : y.heap.size = Sb + 1 := by rw [hyy, hsb]; simp
     have HYZ := Lib.hid hysz
     have HSZ := Lib.hid hsb
     rw [← hyy, ← hsb]
     clear hyy hsb
     refine hK.out _ _ (HRS.out _ HY.out) (fun hHeld => ?_);clear hK K;try simp only[Act.put,sqA,sqB,sqC]
     refine wpAnyH_ready (rs := [5]) (by kernel_rfl) (by simp) ?_
     refine ar1 ⟨some 89, .call ⟨.value (.func 29), #[.tmp 87, .tmp 88], #[54, 28]⟩, 24, "law.go:235", #[⟨3, .data⟩, ⟨4, .data⟩], none⟩ rfl (fun K hK => ?_)
     go_simp
     refine (HST.out y HY.out).mono ?_
     rintro e yy ⟨pp, pc, rfl, hpl, hpb, hb⟩
     have HBS := Lib.hid (box_bel HBY.out hb)
     have HYY := Lib.hid (HY.out.trans hb)
     have HSB := Lib.hid (show x2.heap.size ≤ Sb ∧ Sb < yy.heap.size by have := hb.size; have := HSZ.out; omega)
     have HPLY := Lib.hid hpl
     have HNE := Lib.hid (show st.files ≠ [] → ∀ k, pp = some k → k.block ≠ Sb ∧ ((x2.heap.size ≤ k.block ∧ k.block < yy.heap.size) ∨ k.block < w.heap.size) from fun hne k hk => by
      have h1 := hpl.lt hne k hk
      have h2 := HSZ.out
      have h3 := (HL0.out.low.trans HB2.out).size
      rcases hpb with e | h
      ·have := HAP.out hne k (by rw [← e]; exact hk)
       exact ⟨by omega, Or.inr this⟩
      ·have := h k hk
       exact ⟨by omega, Or.inl ⟨by omega, h1⟩⟩)
     clear hpl hpb hb HAP HBY
     dsimp only
     refine hK.out _ _ (HRS.out _ HYY.out) (fun hHeld => ?_);clear hK K;try simp only[Act.put,sqA,sqB,sqC]
     refine wpAnyH_ready (rs := [7]) (by kernel_rfl) (by simp) ?_
     refine ar1 ⟨none, .store 24 (.tmp 21) (.tmp 89), 0, "law.go:235", #[⟨6, .data⟩, ⟨5, .data⟩, ⟨5, .chain⟩, ⟨0, .phase⟩, ⟨1, .phase⟩, ⟨2, .phase⟩, ⟨3, .phase⟩, ⟨4, .phase⟩, ⟨5, .phase⟩, ⟨6, .phase⟩], none⟩ rfl (fun K hK => ?_)
     obtain ⟨⟨b0, b1, b2, b3, b4⟩, g0, g1, g2, g3, g4⟩ := box5 HBS.out
     go_simp
     obtain ⟨x3, hx3⟩ : ∃ x3, x3 = (((((yy.setCell ⟨Sb, 0, none⟩ (.slice pp st.files.length pc)).setCell ⟨Sb, 1, none⟩ (.int .i64 st.next)).setCell ⟨Sb, 2, none⟩ (.int .i64 st.seq)).setCell ⟨Sb, 3, none⟩ (.int .i64 st.log)).setCell ⟨Sb, 4, none⟩ (.string st.mt)) := ⟨_, rfl⟩
     have HB3 := Lib.hid (show Bel x2 x3 by rw [hx3]; exact keep_bel1 keep5 HYY.out HSB.out.1)
     have HBS3 := Lib.hid (show x3.heap[Sb]? = some (.cells #[.slice pp st.files.length pc, .int .i64 st.next, .int .i64 st.seq, .int .i64 st.log, .string st.mt] 24 (0, 0)) by rw [hx3]; exact set5 HBS.out)
     have HPL3 := Lib.hid (show PlsAt x3 pp st.files by rw [hx3]; exact HPLY.out.keep keep5 (fun hne k hk => by rw [List.mem_singleton]; exact (HNE.out hne k hk).1))
     have HZ3 := Lib.hid (show x3.heap.size = yy.heap.size by rw [hx3]; simp)
     have HL3 := Lib.hid (show LM w x3 ws ms b r mb jb rb qb pd q0 (news y1 x3 ++ R0) from HL0.out.grow (HB2.out.trans HB3.out) (fun k hk => mem_news.1 hk))
     have HNE3 := Lib.hid (show st.files ≠ [] → ∀ k, pp = some k → k.block ∈ news y1 x3 ++ R0 ∨ k.block < w.heap.size from fun hne k hk => by
      rcases (HNE.out hne k hk).2 with h | h
      ·refine Or.inl (List.mem_append_left _ (mem_news.2 ⟨?_, ?_⟩))
       ·have := HB2.out.size; omega
       ·have := HZ3.out; omega
      ·exact Or.inr h)
     have HSBN := Lib.hid (show Sb ∈ news y1 x3 ++ R0 from List.mem_append_left _ (mem_news.2 ⟨by have := HB2.out.size; have := HSB.out; omega, by have := HSB.out; have := HZ3.out; omega⟩))
     rw [← hx3]
     clear hx3 b0 b1 b2 b3 b4 g0 g1 g2 g3 g4
     refine hK.out _ _ (HRS.out _ HB3.out) (fun hHeld => ?_);clear hK K;try simp only[Act.put,sqA,sqB,sqC]
     refine wpAnyH_done (by kernel_rfl) ?_ _
     have HSBW := Lib.hid (show y1.heap.size ≤ Sb by have := HB2.out.size; have := HSB.out; omega)
     have HNW := Lib.hid (show st.files ≠ [] → ∀ k, pp = some k → k.block ≠ Wb ∧ k.block ≠ Nb from fun hne k hk => by
      have h1 := (HNE.out hne k hk).2
      have h2 : Wb < y1.heap.size ∧ Nb < y1.heap.size := ⟨Nat.lt_of_lt_of_le (HX.out.tm.lt Wb (by simp [HWN.out.1])) HB1.out.size, Nat.lt_of_lt_of_le (HX.out.tm.lt Nb (by simp [HWN.out.2])) HB1.out.size⟩
      have h3 := HWNN.out
      have h4 := HB2.out.size
      omega)
     clear hHeld HRS HPLY HNE HBS HYY HSB
     obtain ⟨⟨b0, b1, b2, b3, b4⟩, -⟩ := box5 HBS3.out
     obtain ⟨-, s1, -, -⟩ := HL3.out.cells
     go_wp2_with (fail)
     refine wp_region_held_drew (S := fun z => z.cell? ⟨ws, 1, none⟩ = some (.pointer (some ⟨mb, 0, none⟩)) ∧ z.cell? ⟨Sb, 0, none⟩ = some (.slice pp st.files.length pc) ∧ z.cell? ⟨Sb, 1, none⟩ = some (.int .i64 st.next) ∧ z.cell? ⟨Sb, 2, none⟩ = some (.int .i64 st.seq) ∧ z.cell? ⟨Sb, 3, none⟩ = some (.int .i64 st.log) ∧ z.cell? ⟨Sb, 4, none⟩ = some (.string st.mt)) (by kernel_rfl) ⟨s1, b0, b1, b2, b3, b4⟩ (fun hHeld => ?_)
     clear b0 b1 b2 b3 b4 s1
     refine tq ⟨some 90, .move (.tmp 13), 46, "law.go:236", #[], none⟩ ?_ 0 rfl ?_ ?_;rotate_left;·(intros;go_simp<;>with_reducible rfl)
     try simp only[Act.put,sqA,sqB,sqC]
     refine tq ⟨some 91, .nilCheck (.tmp 90), 0, "law.go:236", #[⟨0, .data⟩], none⟩ ?_ 1 rfl ?_ ?_;rotate_left;·(intros;go_simp<;>with_reducible rfl)
     try simp only[Act.put,sqA,sqB,sqC]
     refine tq ⟨some 92, .fieldAddr 58 (.tmp 91) 1, 0, "law.go:236", #[⟨1, .data⟩], none⟩ ?_ 2 rfl ?_ ?_;rotate_left;·(intros;go_simp<;>with_reducible rfl)
     try simp only[Act.put,sqA,sqB,sqC]
     refine tq ⟨some 93, .load 56 (.tmp 92), 56, "law.go:236", #[⟨2, .data⟩], none⟩ ?_ 3 rfl ?_ ?_;rotate_left;·(intros;go_simp<;>with_reducible rfl)
     try simp only[Act.put,sqA,sqB,sqC]
     refine tq ⟨some 94, .load 24 (.tmp 21), 24, "law.go:236", #[], none⟩ ?_ 4 rfl ?_ ?_;rotate_left;·(intros;go_simp<;>with_reducible rfl)
     try simp only[Act.put,sqA,sqB,sqC]
     refine wpAnyH_ready (rs := [5]) (by kernel_rfl) (by simp) ?_
     refine ar1 ⟨some 95, .call ⟨.value (.func 30), #[.tmp 93, .tmp 94], #[56, 24]⟩, 31, "law.go:236", #[⟨3, .data⟩, ⟨4, .data⟩], none⟩ rfl (fun K hK => ?_)
     go_simp
     refine (tm_set HL3.out.tm (Bel.refl _).drew pp pc st (HPL3.out.bel (Bel.refl _).drew) (fun hne k hk => (HNE3.out hne k hk).imp (fun h => by simp only [List.mem_cons]; exact Or.inr (Or.inr h)) id) (by have := HSS.out; omega) (by have := HSS.out; omega) HI.out.some_ (by have := HI.out.last; omega) (by have := HI.out.n; omega)).mono ?_
     rintro e y4 ⟨rfl, ht4, hk4⟩
     have HL4 := Lib.hid (HL3.out.to ht4 hk4)
     have HK4 := Lib.hid hk4
     have HBS4 := Lib.hid ((hk4 Sb (by simp only [List.mem_cons]; exact Or.inr (Or.inr HSBN.out))).trans HBS3.out)
     clear ht4 hk4
     obtain ⟨⟨b0, b1, b2, b3, b4⟩, -⟩ := box5 HBS4.out
     obtain ⟨-, s1, -, -⟩ := HL4.out.cells
     dsimp only
     refine hK.out _ _ ⟨s1, b0, b1, b2, b3, b4⟩ (fun hHeld => ?_)
     clear hK K b0 b1 b2 b3 b4 s1
     try simp only[Act.put,sqA,sqB,sqC]
     refine tq ⟨some 22, .assign (.tmp 95), 31, "law.go:236", #[⟨5, .data⟩, ⟨5, .chain⟩, ⟨0, .phase⟩, ⟨1, .phase⟩, ⟨2, .phase⟩, ⟨3, .phase⟩, ⟨4, .phase⟩, ⟨5, .phase⟩], none⟩ ?_ 6 rfl ?_ ?_;rotate_left;·(intros;go_simp<;>with_reducible rfl)
     try simp only[Act.put,sqA,sqB,sqC]
     refine wpAnyH_done (by kernel_rfl) ?_ _
     clear hHeld
     have HGR := Lib.hid (show ∀ k ∈ R0, k ∈ news y1 x3 ++ R0 from fun k hk => List.mem_append_right _ hk)
     have HSW4 := Lib.hid (((HSW.out.bel HB1.out (fun _ h => h)).bel (HB2.out.trans HB3.out) HGR.out).kr (R' := news y1 x3 ++ R0) (fun k hk => HK4.out k (by simp only [List.mem_cons]; exact Or.inr (Or.inr hk))) HL3.out.low HL4.out.low (HGR.out _ HWN.out.1) (fun _ h => h))
     have HSN4 := Lib.hid (((HSN.out.bel HB1.out (fun _ h => h)).bel (HB2.out.trans HB3.out) HGR.out).kr (R' := news y1 x3 ++ R0) (fun k hk => HK4.out k (by simp only [List.mem_cons]; exact Or.inr (Or.inr hk))) HL3.out.low HL4.out.low (HGR.out _ HWN.out.2) (fun _ h => h))
     have HPL4 := Lib.hid (HPL3.out.kr (w := w) HK4.out HL3.out.low HL4.out.low (fun hne k hk => (HNE3.out hne k hk).imp (fun h => by simp only [List.mem_cons]; exact Or.inr (Or.inr h)) id))
     have HWN4 := Lib.hid (show Wb ∈ news y1 x3 ++ R0 ∧ Nb ∈ news y1 x3 ++ R0 from ⟨HGR.out _ HWN.out.1, HGR.out _ HWN.out.2⟩)
     have HWLT := Lib.hid (show Wb < y1.heap.size ∧ Nb < y1.heap.size from ⟨Nat.lt_of_lt_of_le (HX.out.tm.lt Wb (by simp [HWN.out.1])) HB1.out.size, Nat.lt_of_lt_of_le (HX.out.tm.lt Nb (by simp [HWN.out.2])) HB1.out.size⟩)
     have HKS := Lib.hid (HKI.out.set HI.out HX.out.tm.good (by omega) HG.out st)
     have HIS := Lib.hid (HI.out.set HX.out.tm.good (by omega) st)
     obtain ⟨rs, hrs⟩ : ∃ rs, rs = mset pd.s pd.n st pd.M := ⟨_, rfl⟩
     rw [← hrs]
     have HKS := Lib.hid (show KI ⟨rs.M, rs.s, rs.n⟩ (if rs.e = 0 then st else was) (if rs.e = 7 then st else if rs.e = 0 then st else was) by rw [hrs]; exact HKS.out)
     have HIS := Lib.hid (show Inv13 (k + 1) ⟨rs.M, rs.s, rs.n⟩ by rw [hrs]; exact HIS.out)
     rw [← hrs] at HL4
     obtain ⟨er, her⟩ : ∃ er, er = rs.e := ⟨_, rfl⟩
     rw [← her] at HKS ⊢
     obtain ⟨pe, hpe⟩ : ∃ pe : SD, pe = ⟨rs.M, rs.s, rs.n⟩ := ⟨_, rfl⟩
     rw [← hpe] at HKS HIS HL4
     clear hrs her hpe HK4 HL3 HB3 HSTQ HST
     have HLEN := Lib.hid (show st.files.length ≤ 60 ∧ st.mt.size ≤ 30000 ∧ asB st = true by have := HSS.out; exact ⟨this.1, by omega, this.2.2⟩)
     have HBLK := Lib.hid (show st.files ≠ [] → ∀ k, pp = some k → (k.block ∈ news y1 x3 ++ R0 ∨ k.block < w.heap.size) ∧ k.block ≠ Wb ∧ k.block ≠ Nb from fun hne k hk => ⟨HNE3.out hne k hk, HNW.out hne k hk⟩)
     have hsw1 : Sb ≠ Wb := by have := HSBW.out; have := HWLT.out; omega
     have hsn1 : Sb ≠ Nb := by have := HSBW.out; have := HWLT.out; omega
     obtain ⟨⟨b0, b1, b2, b3, b4⟩, -⟩ := box5 HBS4.out
     obtain ⟨⟨v0, v1, v2, v3, v4⟩, f0, f1, f2, f3, f4⟩ := box5 HSW4.out.box
     obtain ⟨⟨n0, n1, n2, n3, n4⟩, g0, g1, g2, g3, g4⟩ := box5 HSN4.out.box
     by_cases he0 : er = 0
     ·subst he0
      have HKZ := Lib.hid (show KI pe st st by have := HKS.out; simpa using this)
      obtain ⟨z1, hz1⟩ : ∃ z1, z1 = (((((y4.setCell ⟨Wb, 0, none⟩ (.slice pp st.files.length pc)).setCell ⟨Wb, 1, none⟩ (.int .i64 st.next)).setCell ⟨Wb, 2, none⟩ (.int .i64 st.seq)).setCell ⟨Wb, 3, none⟩ (.int .i64 st.log)).setCell ⟨Wb, 4, none⟩ (.string st.mt)) := ⟨_, rfl⟩
      obtain ⟨z2, hz2⟩ : ∃ z2, z2 = (((((z1.setCell ⟨Nb, 0, none⟩ (.slice pp st.files.length pc)).setCell ⟨Nb, 1, none⟩ (.int .i64 st.next)).setCell ⟨Nb, 2, none⟩ (.int .i64 st.seq)).setCell ⟨Nb, 3, none⟩ (.int .i64 st.log)).setCell ⟨Nb, 4, none⟩ (.string st.mt)) := ⟨_, rfl⟩
      have HLA := Lib.hid (show LM w z1 ws ms b r mb jb rb qb pe q0 (news y1 x3 ++ R0) by rw [hz1]; exact HL4.out.other keep5 (fun k hk => by rw [List.mem_singleton] at hk; subst hk; exact ⟨HWNN.out.1, HWN4.out.1, HWMS.out.1, HWMS.out.2.1⟩))
      have HSWA := Lib.hid (show StB w z1 (news y1 x3 ++ R0) Wb Wb Nb st pp pc by rw [hz1]; exact HSW4.out.set HPL4.out HBLK.out HLEN.out (Or.inl rfl))
      have HSNA := Lib.hid (show StB w z1 (news y1 x3 ++ R0) Nb Wb Nb next np nc by rw [hz1]; exact HSN4.out.keep keep5 (by rw [List.mem_singleton]; exact fun e => hwn e.symm) (fun k hk => Or.inl (List.mem_singleton.1 hk)))
      have HLB := Lib.hid (show LM w z2 ws ms b r mb jb rb qb pe q0 (news y1 x3 ++ R0) by rw [hz2]; exact HLA.out.other keep5 (fun k hk => by rw [List.mem_singleton] at hk; subst hk; exact ⟨HWNN.out.2, HWN4.out.2, HWMS.out.2.2.1, HWMS.out.2.2.2⟩))
      have HSNB := Lib.hid (show StB w z2 (news y1 x3 ++ R0) Nb Wb Nb st pp pc by rw [hz2]; exact HSNA.out.set HSWA.out.at_ HBLK.out HLEN.out (Or.inr rfl))
      have HSWB := Lib.hid (show StB w z2 (news y1 x3 ++ R0) Wb Wb Nb st pp pc by rw [hz2]; exact HSWA.out.keep keep5 (by rw [List.mem_singleton]; exact hwn) (fun k hk => Or.inr (List.mem_singleton.1 hk)))
      have HZE1 := Lib.hid hz1
      have HZE2 := Lib.hid hz2
      clear hz1 hz2
      go_wp2_with (with_reducible refine stop_ld ?_)
      refine go_on ?_
      go_wp2_with (with_reducible refine stop_st ?_)
      refine go_on ?_
      go_wp2_with (with_reducible refine stop_ld ?_)
      rw [← HZE1.out]
      clear b0 b1 b2 b3 b4 v0 v1 v2 v3 v4 n0 n1 n2 n3 n4 f0 f1 f2 f3 f4 g0 g1 g2 g3 g4
      obtain ⟨⟨v0, v1, v2, v3, v4⟩, -⟩ := box5 HSWA.out.box
      obtain ⟨⟨n0, n1, n2, n3, n4⟩, g0, g1, g2, g3, g4⟩ := box5 HSNA.out.box
      refine go_on ?_
      go_wp2_with (with_reducible refine stop_st ?_)
      refine go_on ?_
      go_wp2_with (fail)
      rw [← HZE2.out]
      go_roundw
      case rel => exact ⟨k + 1, pe, news y1 x3 ++ R0, st, st, pp, pp, pc, pc, by go_num, by omega, HLB.out, HIS.out, HKZ.out, HWN4.out, HSWB.out, HSNB.out⟩
      case measure => simp [intOf]; omega
     ·have he1 : (er == 0) = false := by rw [beq_eq_false_iff_ne]; exact he0
      obtain ⟨z1, hz1⟩ : ∃ z1, z1 = (((((y4.setCell ⟨Nb, 0, none⟩ (.slice wp was.files.length wc)).setCell ⟨Nb, 1, none⟩ (.int .i64 was.next)).setCell ⟨Nb, 2, none⟩ (.int .i64 was.seq)).setCell ⟨Nb, 3, none⟩ (.int .i64 was.log)).setCell ⟨Nb, 4, none⟩ (.string was.mt)) := ⟨_, rfl⟩
      have HLA := Lib.hid (show LM w z1 ws ms b r mb jb rb qb pe q0 (news y1 x3 ++ R0) by rw [hz1]; exact HL4.out.other keep5 (fun k hk => by rw [List.mem_singleton] at hk; subst hk; exact ⟨HWNN.out.2, HWN4.out.2, HWMS.out.2.2.1, HWMS.out.2.2.2⟩))
      have HSNA := Lib.hid (show StB w z1 (news y1 x3 ++ R0) Nb Wb Nb was wp wc by rw [hz1]; exact HSN4.out.set HSW4.out.at_ HSW4.out.blk HSW4.out.len (Or.inr rfl))
      have HSWA := Lib.hid (show StB w z1 (news y1 x3 ++ R0) Wb Wb Nb was wp wc by rw [hz1]; exact HSW4.out.keep keep5 (by rw [List.mem_singleton]; exact hwn) (fun k hk => Or.inr (List.mem_singleton.1 hk)))
      by_cases he7 : er = 7
      ·subst he7
       have HKZ := Lib.hid (show KI pe was st by have := HKS.out; simpa using this)
       have HKZ1 := Lib.hid (show y4.heap[Sb]? = some (.cells #[.slice pp st.files.length pc, .int .i64 st.next, .int .i64 st.seq, .int .i64 st.log, .string st.mt] 24 (0, 0)) → z1.heap[Sb]? = some (.cells #[.slice pp st.files.length pc, .int .i64 st.next, .int .i64 st.seq, .int .i64 st.log, .string st.mt] 24 (0, 0)) from fun h => by rw [hz1]; exact keep5.at h (by rw [List.mem_singleton]; exact hsn1))
       have HPLZ := Lib.hid (show PlsAt z1 pp st.files by rw [hz1]; exact HPL4.out.keep keep5 (fun hne k hk => by rw [List.mem_singleton]; exact (HBLK.out hne k hk).2.2))
       obtain ⟨z2, hz2⟩ : ∃ z2, z2 = (((((z1.setCell ⟨Nb, 0, none⟩ (.slice pp st.files.length pc)).setCell ⟨Nb, 1, none⟩ (.int .i64 st.next)).setCell ⟨Nb, 2, none⟩ (.int .i64 st.seq)).setCell ⟨Nb, 3, none⟩ (.int .i64 st.log)).setCell ⟨Nb, 4, none⟩ (.string st.mt)) := ⟨_, rfl⟩
       have HLB := Lib.hid (show LM w z2 ws ms b r mb jb rb qb pe q0 (news y1 x3 ++ R0) by rw [hz2]; exact HLA.out.other keep5 (fun k hk => by rw [List.mem_singleton] at hk; subst hk; exact ⟨HWNN.out.2, HWN4.out.2, HWMS.out.2.2.1, HWMS.out.2.2.2⟩))
       have HSNB := Lib.hid (show StB w z2 (news y1 x3 ++ R0) Nb Wb Nb st pp pc by rw [hz2]; exact HSNA.out.set HPLZ.out HBLK.out HLEN.out (Or.inr rfl))
       have HSWB := Lib.hid (show StB w z2 (news y1 x3 ++ R0) Wb Wb Nb was wp wc by rw [hz2]; exact HSWA.out.keep keep5 (by rw [List.mem_singleton]; exact hwn) (fun k hk => Or.inr (List.mem_singleton.1 hk)))
       have HZE1 := Lib.hid hz1
       have HZE2 := Lib.hid hz2
       clear hz1 hz2
       go_wp2_with (with_reducible refine stop_ld ?_)
       refine go_on ?_
       go_wp2_with (with_reducible refine stop_st ?_)
       refine go_on ?_
       go_wp2_with (with_reducible refine stop_ld ?_)
       rw [← HZE1.out]
       clear b0 b1 b2 b3 b4 v0 v1 v2 v3 v4 n0 n1 n2 n3 n4 f0 f1 f2 f3 f4 g0 g1 g2 g3 g4
       obtain ⟨⟨b0, b1, b2, b3, b4⟩, -⟩ := box5 (HKZ1.out HBS4.out)
       obtain ⟨⟨n0, n1, n2, n3, n4⟩, g0, g1, g2, g3, g4⟩ := box5 HSNA.out.box
       refine go_on ?_
       go_wp2_with (with_reducible refine stop_st ?_)
       refine go_on ?_
       go_wp2_with (fail)
       rw [← HZE2.out]
       go_roundw
       case rel => exact ⟨k + 1, pe, news y1 x3 ++ R0, was, st, wp, pp, wc, pc, by go_num, by omega, HLB.out, HIS.out, HKZ.out, HWN4.out, HSWB.out, HSNB.out⟩
       case measure => simp [intOf]; omega
      ·have he2 : (er == 7) = false := by rw [beq_eq_false_iff_ne]; exact he7
       have HKZ := Lib.hid (show KI pe was was by have := HKS.out; rw [if_neg he0, if_neg he7] at this; exact this)
       have HZE1 := Lib.hid hz1
       clear hz1
       go_wp2_with (with_reducible refine stop_ld ?_)
       refine go_on ?_
       go_wp2_with (with_reducible refine stop_st ?_)
       refine go_on ?_
       go_wp2_with (fail)
       rw [← HZE1.out]
       go_roundw
       case rel => exact ⟨k + 1, pe, news y1 x3 ++ R0, was, was, wp, wp, wc, wc, by go_num, by omega, HLA.out, HIS.out, HKZ.out, HWN4.out, HSWA.out, HSNA.out⟩
       case measure => simp [intOf]; omega

   | true =>
    have HLZ := Lib.hid (show LM w y1 ws ms b r mb jb rb qb pd q0 R0 from HX.out.bel HB1.out)
    have HSWZ := Lib.hid (HSW.out.bel HB1.out (fun _ h => h))
    have HSNZ := Lib.hid (HSN.out.bel HB1.out (fun _ h => h))
    clear hg
    have HEND := Lib.hid (HKI.out.end_ HLZ.out.tm.good left.L spoil.L spoil.L left.L ((pickN again 4 : Nat) : Int) (pickN_ok again 4 (by omega) (by omega)))
    have HCR := Lib.hid (show ∀ z', Bel y1 z' → _ from fun z' hz => tm_crash HLZ.out.tm hz left spoil HLF.out HSP.out)
    unfold SI.val at HCR
    obtain ⟨s0, -, -, -⟩ := HLZ.out.cells
    go_wp2_with (fail)
    refine (HCR.out _ (by first | exact Bel.refl _ | exact (Bel.refl _).drew)).mono ?_
    rintro e z1 ⟨⟨u, rfl⟩, ht1, hk1⟩
    have HZ1 := Lib.hid (HLZ.out.to ht1 hk1)
    have HSW1 := Lib.hid (HSWZ.out.kr (R' := R0) (fun k hk => hk1 k (by simp only [List.mem_cons]; exact Or.inr (Or.inr hk))) HLZ.out.low ht1.low HWN.out.1 (fun _ h => h))
    have HSN1 := Lib.hid (HSNZ.out.kr (R' := R0) (fun k hk => hk1 k (by simp only [List.mem_cons]; exact Or.inr (Or.inr hk))) HLZ.out.low ht1.low HWN.out.2 (fun _ h => h))
    clear ht1 hk1 s0 HCR
    obtain ⟨s0, -, -, -⟩ := HZ1.out.cells
    go_wp2_with (fail)
    refine wp_region_held_drew (S := fun z => z.cell? ⟨ws, 0, none⟩ = some (.pointer (some ⟨b, 0, none⟩))) (by kernel_rfl) s0 (fun hHeld => ?_)
    refine tq ⟨some 110, .move (.tmp 13), 46, "law.go:246", #[], none⟩ ?_ 0 rfl ?_ ?_;rotate_left;·(intros;go_simp<;>with_reducible rfl)
    try simp only[Act.put,sqA,sqB,sqC]
    refine tq ⟨some 111, .nilCheck (.tmp 110), 0, "law.go:246", #[⟨0, .data⟩], none⟩ ?_ 1 rfl ?_ ?_;rotate_left;·(intros;go_simp<;>with_reducible rfl)
    try simp only[Act.put,sqA,sqB,sqC]
    refine tq ⟨some 112, .fieldAddr 58 (.tmp 111) 0, 0, "law.go:246", #[⟨1, .data⟩], none⟩ ?_ 2 rfl ?_ ?_;rotate_left;·(intros;go_simp<;>with_reducible rfl)
    try simp only[Act.put,sqA,sqB,sqC]
    refine tq ⟨some 113, .load 55 (.tmp 112), 55, "law.go:246", #[⟨2, .data⟩], none⟩ ?_ 3 rfl ?_ ?_;rotate_left;·(intros;go_simp<;>with_reducible rfl)
    try simp only[Act.put,sqA,sqB,sqC]
    refine tq ⟨some 114, .move (.tmp 4), 3, "law.go:246", #[], none⟩ ?_ 4 rfl ?_ ?_;rotate_left;·(intros;go_simp<;>with_reducible rfl)
    try simp only[Act.put,sqA,sqB,sqC]
    refine wpAnyH_ready (rs := [5]) (by kernel_rfl) (by simp) ?_
    refine ar1 ⟨some 115, .call ⟨.value (.func 21), #[.tmp 114, .const (.int .i64 4)], #[3, 3]⟩, 3, "law.go:246", #[⟨4, .data⟩], none⟩ rfl (fun K hK => ?_)
    go_simp
    refine (pick13_at again _ 4 _ HAG.out (by omega) (by omega) rfl).mono ?_
    rintro e z ⟨rfl, rfl⟩
    dsimp only
    refine hK.out _ _ hHeld (fun hHeld => ?_);clear hK K;try simp only[Act.put,sqA,sqB,sqC]
    refine wpAnyH_ready (rs := [6]) (by kernel_rfl) (by simp) ?_
    refine ar1 ⟨some 116, .call ⟨.value (.func 28), #[.tmp 113, .tmp 115], #[55, 3]⟩, 0, "law.go:246", #[⟨3, .data⟩, ⟨5, .data⟩, ⟨5, .chain⟩], none⟩ rfl (fun K hK => ?_)
    go_simp
    refine (tm_limit HZ1.out.tm (Bel.refl _).drew _ (pickN_ok again 4 (by omega) (by omega))).mono ?_
    rintro e z2 ⟨⟨u, rfl⟩, ht2, hk2⟩
    have HZ2 := Lib.hid (HZ1.out.to ht2 hk2)
    have HSW2 := Lib.hid (HSW1.out.kr (R' := R0) (fun k hk => hk2 k (by simp only [List.mem_cons]; exact Or.inr (Or.inr hk))) HZ1.out.low ht2.low HWN.out.1 (fun _ h => h))
    have HSN2 := Lib.hid (HSN1.out.kr (R' := R0) (fun k hk => hk2 k (by simp only [List.mem_cons]; exact Or.inr (Or.inr hk))) HZ1.out.low ht2.low HWN.out.2 (fun _ h => h))
    clear ht2 hk2 s0
    obtain ⟨s0, -, -, -⟩ := HZ2.out.cells
    dsimp only
    refine hK.out _ _ s0 (fun hHeld => ?_);clear hK K;try simp only[Act.put,sqA,sqB,sqC]
    refine wpAnyH_done (by kernel_rfl) ?_ _
    clear hHeld
    obtain ⟨M3, hm3⟩ : ∃ M3, M3 = limS ((pickN again 4 : Nat) : Int) (crashS left.L spoil.L pd.M) := ⟨_, rfl⟩
    have HRM3 := Lib.hid (show M3.room ≤ 1000000 by rw [hm3]; exact HI.out.room)
    rw [← hm3] at HZ2 HEND
    clear hm3
    go_wp2_with (fail)
    refine (tm_open HZ2.out.tm (by first | exact Bel.refl _ | exact (Bel.refl _).drew) HRM3.out).mono ?_
    rintro e zf ⟨hk3, ⟨hne, rfl, ht3⟩ | ⟨h0, mb1, jb1, rfl, ht3⟩⟩
    ·obtain ⟨hq0, hqs⟩ := HEND.out.2 hne
     have HQ0 := Lib.hid hq0
     have HQS := Lib.hid hqs
     obtain ⟨er, her⟩ : ∃ er, er = (jopen manP M3).1 := ⟨_, rfl⟩
     obtain ⟨M4, hm4⟩ : ∃ M4, M4 = (jopen manP M3).2.2 := ⟨_, rfl⟩
     have HRM4 := Lib.hid (show M4.room ≤ 1000000 by rw [hm4, jopen_room]; exact HRM3.out)
     rw [← hm4] at ht3 HQ0 HQS
     rw [← her]
     have he1 : (er != 0) = true := by rw [bne_iff_ne, her]; exact hne
     clear her hm4 hne hq0 hqs HEND
     have HZ3 := Lib.hid (HZ2.out.to ht3 hk3)
     have HSW3 := Lib.hid (HSW2.out.kr (R' := R0) (fun k hk => hk3 k (by simp only [List.mem_cons]; exact Or.inr (Or.inr hk))) HZ2.out.low ht3.low HWN.out.1 (fun _ h => h))
     have HSN3 := Lib.hid (HSN2.out.kr (R' := R0) (fun k hk => hk3 k (by simp only [List.mem_cons]; exact Or.inr (Or.inr hk))) HZ2.out.low ht3.low HWN.out.2 (fun _ h => h))
     have HCR := Lib.hid (show ∀ z', Bel zf z' → _ from fun z' hz => tm_crash HZ3.out.tm hz spoil left HSP.out HLF.out)
     unfold SI.val at HCR
     clear ht3 hk3 s0
     obtain ⟨s0, -, -, -⟩ := HZ3.out.cells
     go_wp2_with (fail)
     refine (HCR.out _ (by first | exact Bel.refl _ | exact (Bel.refl _).drew)).mono ?_
     rintro e z4 ⟨⟨u, rfl⟩, ht4, hk4⟩
     have HZ4 := Lib.hid (HZ3.out.to ht4 hk4)
     have HSW4 := Lib.hid (HSW3.out.kr (R' := R0) (fun k hk => hk4 k (by simp only [List.mem_cons]; exact Or.inr (Or.inr hk))) HZ3.out.low ht4.low HWN.out.1 (fun _ h => h))
     have HSN4 := Lib.hid (HSN3.out.kr (R' := R0) (fun k hk => hk4 k (by simp only [List.mem_cons]; exact Or.inr (Or.inr hk))) HZ3.out.low ht4.low HWN.out.2 (fun _ h => h))
     clear ht4 hk4 s0 HCR
     obtain ⟨s0, -, -, -⟩ := HZ4.out.cells
     go_wp2_with (fail)
     refine (tm_open HZ4.out.tm (by first | exact Bel.refl _ | exact (Bel.refl _).drew) HRM4.out).mono ?_
     clear zf HZ3 HSW3 HSN3
     rintro e zf ⟨hk3, ⟨hne, rfl, ht3⟩ | ⟨h0, mb1, jb1, rfl, ht3⟩⟩
     ·exact absurd HQ0.out hne
     ·obtain ⟨pf, hpf⟩ : ∃ pf : SD, pf = ⟨(jopen manP (crashS spoil.L left.L M4)).2.2, lastM initM (jopen manP (crashS spoil.L left.L M4)).2.1, 0⟩ := ⟨_, rfl⟩
      have HOR := Lib.hid (show pf.s = was ∨ pf.s = next by rw [hpf]; exact HQS.out)
      have HRF := Lib.hid (show rightM pf.s = true by rw [hpf]; exact last_right _ (by decide))
      have HTF := Lib.hid (show TM w zf b r mb1 jb1 rb qb pf q0 (ws :: ms :: R0) by rw [hpf]; exact ht3)
      have HSWF := Lib.hid (HSW4.out.kr (R' := R0) (fun k hk => hk3 k (by simp only [List.mem_cons]; exact Or.inr (Or.inr hk))) HZ4.out.low ht3.low HWN.out.1 (fun _ h => h))
      have HSNF := Lib.hid (HSN4.out.kr (R' := R0) (fun k hk => hk3 k (by simp only [List.mem_cons]; exact Or.inr (Or.inr hk))) HZ4.out.low ht3.low HWN.out.2 (fun _ h => h))
      clear ht3 hk3 s0 hpf h0
      have HRS := Lib.hid (show ∀ z', Bel zf z' → (z'.cell? ⟨Wb, 0, none⟩ = some (.slice wp was.files.length wc) ∧ z'.cell? ⟨Wb, 1, none⟩ = some (.int .i64 was.next) ∧ z'.cell? ⟨Wb, 2, none⟩ = some (.int .i64 was.seq) ∧ z'.cell? ⟨Wb, 3, none⟩ = some (.int .i64 was.log) ∧ z'.cell? ⟨Wb, 4, none⟩ = some (.string was.mt)) ∧ z'.cell? ⟨Nb, 0, none⟩ = some (.slice np next.files.length nc) ∧ z'.cell? ⟨Nb, 1, none⟩ = some (.int .i64 next.next) ∧ z'.cell? ⟨Nb, 2, none⟩ = some (.int .i64 next.seq) ∧ z'.cell? ⟨Nb, 3, none⟩ = some (.int .i64 next.log) ∧ z'.cell? ⟨Nb, 4, none⟩ = some (.string next.mt) from fun z' hz => by
       obtain ⟨⟨b0, b1, b2, b3, b4⟩, -⟩ := box5 (box_bel HSWF.out.box hz)
       obtain ⟨⟨d0, d1, d2, d3, d4⟩, -⟩ := box5 (box_bel HSNF.out.box hz)
       exact ⟨⟨b0, b1, b2, b3, b4⟩, d0, d1, d2, d3, d4⟩)
      go_wp2_with (fail)
      refine wp_region_held_drew (S := fun z => (z.cell? ⟨Wb, 0, none⟩ = some (.slice wp was.files.length wc) ∧ z.cell? ⟨Wb, 1, none⟩ = some (.int .i64 was.next) ∧ z.cell? ⟨Wb, 2, none⟩ = some (.int .i64 was.seq) ∧ z.cell? ⟨Wb, 3, none⟩ = some (.int .i64 was.log) ∧ z.cell? ⟨Wb, 4, none⟩ = some (.string was.mt)) ∧ z.cell? ⟨Nb, 0, none⟩ = some (.slice np next.files.length nc) ∧ z.cell? ⟨Nb, 1, none⟩ = some (.int .i64 next.next) ∧ z.cell? ⟨Nb, 2, none⟩ = some (.int .i64 next.seq) ∧ z.cell? ⟨Nb, 3, none⟩ = some (.int .i64 next.log) ∧ z.cell? ⟨Nb, 4, none⟩ = some (.string next.mt)) (by kernel_rfl) (HRS.out _ (Bel.refl _).drew) (fun hHeld => ?_)
      refine tq ⟨some 142, .move (.tmp 23), 56, "law.go:252", #[], none⟩ ?_ 0 rfl ?_ ?_;rotate_left;·(intros;go_simp<;>with_reducible rfl)
      try simp only[Act.put,sqA,sqB,sqC]
      refine tq ⟨some 143, .binOp .neq 56 (.tmp 142) (.const (.pointer none)) 56, 4, "law.go:252", #[⟨0, .data⟩], none⟩ ?_ 1 rfl ?_ ?_;rotate_left;·(intros;go_simp<;>with_reducible rfl)
      try simp only[Act.put,sqA,sqB,sqC]
      refine tq ⟨some 144, .move (.tmp 143), 4, "law.go:252", #[⟨1, .data⟩], none⟩ ?_ 2 rfl ?_ ?_;rotate_left;·(intros;go_simp<;>with_reducible rfl)
      try simp only[Act.put,sqA,sqB,sqC]
      refine tq ⟨some 145, .move (.tmp 24), 31, "law.go:252", #[⟨2, .guard⟩], some (2, true)⟩ ?_ 3 rfl ?_ ?_;rotate_left;·(intros;go_simp<;>with_reducible rfl)
      try simp only[Act.put,sqA,sqB,sqC]
      refine tq ⟨some 146, .binOp .eql 31 (.tmp 145) (.const (.int .i64 0)) 31, 4, "law.go:252", #[⟨3, .data⟩, ⟨2, .guard⟩], some (2, true)⟩ ?_ 4 rfl ?_ ?_;rotate_left;·(intros;go_simp<;>with_reducible rfl)
      try simp only[Act.put,sqA,sqB,sqC]
      refine tq ⟨some 147, .pick (.tmp 144) (.tmp 146) (.const (.bool false)), 4, "law.go:252", #[⟨2, .data⟩, ⟨4, .data⟩], none⟩ ?_ 5 rfl ?_ ?_;rotate_left;·(intros;go_simp<;>with_reducible rfl)
      try simp only[Act.put,sqA,sqB,sqC]
      refine tq ⟨some 148, .move (.tmp 147), 4, "law.go:252", #[⟨5, .data⟩, ⟨2, .chain⟩], none⟩ ?_ 6 rfl ?_ ?_;rotate_left;·(intros;go_simp<;>with_reducible rfl)
      try simp only[Act.put,sqA,sqB,sqC]
      refine tq ⟨some 149, .move (.tmp 23), 56, "law.go:252", #[⟨6, .guard⟩], some (6, true)⟩ ?_ 7 rfl ?_ ?_;rotate_left;·(intros;go_simp<;>with_reducible rfl)
      try simp only[Act.put,sqA,sqB,sqC]
      refine tq ⟨some 151, .load 24 (.tmp 16), 24, "law.go:252", #[⟨6, .guard⟩], some (6, true)⟩ ?_ 9 rfl ?_ ?_;rotate_left;·(intros;go_simp<;>with_reducible rfl)
      try simp only[Act.put,sqA,sqB,sqC]
      refine wpAnyH_ready (rs := [8]) (by kernel_rfl) (by simp) ?_
      refine ar1 ⟨some 150, .call ⟨.value (.func 23), #[.tmp 149], #[56]⟩, 24, "law.go:252", #[⟨7, .data⟩, ⟨6, .chain⟩, ⟨6, .guard⟩], some (6, true)⟩ rfl (fun K hK => ?_)
      go_simp
      refine (tm_state HTF.out (Bel.refl _).drew (right_files HRF.out)).mono ?_
      rintro e u1 ⟨sp1, sc1, rfl, ho1, hb1⟩
      have HU1 := Lib.hid (show Bel zf u1 from (Bel.refl zf).drew.trans hb1)
      have HP1 := Lib.hid (pls_ownP ho1)
      clear ho1 hb1
      dsimp only
      refine hK.out _ _ (HRS.out _ HU1.out) (fun hHeld => ?_);clear hK K;try simp only[Act.put,sqA,sqB,sqC]
      refine wpAnyH_ready (rs := [10]) (by kernel_rfl) (by simp) ?_
      refine ar1 ⟨some 152, .call ⟨.value (.func 18), #[.tmp 150, .tmp 151], #[24, 24]⟩, 4, "law.go:252", #[⟨8, .data⟩, ⟨9, .data⟩, ⟨8, .chain⟩, ⟨6, .guard⟩], some (6, true)⟩ rfl (fun K hK => ?_)
      go_simp
      refine (same13_any sp1 wp sc1 wc pf.s was _ HP1.out (HSWF.out.at_.bel HU1.out) (by have := right_files HRF.out; omega) (by have := HSWF.out.len; omega) (by have := HSWF.out.len; omega)).mono ?_
      rintro e u2 ⟨rfl, hb2⟩
      have HU2 := Lib.hid (HU1.out.trans hb2)
      clear hb2
      dsimp only
      refine hK.out _ _ (HRS.out _ HU2.out) (fun hHeld => ?_);clear hK K
      by_cases hws : pf.s = was
      ·rw [HSWF.out.len.2.2, eqM_yes hws]
       clear hws
       try simp only[Act.put,sqA,sqB,sqC]
       refine tq ⟨some 153, .move (.tmp 152), 4, "law.go:252", #[⟨10, .data⟩, ⟨10, .chain⟩, ⟨6, .guard⟩], some (6, true)⟩ ?_ 11 rfl ?_ ?_;rotate_left;·(intros;go_simp<;>with_reducible rfl)
       try simp only[Act.put,sqA,sqB,sqC]
       refine wpAnyH_take (i := 12) (oi := ⟨some 154, .move (.tmp 23), 56, "law.go:252", #[⟨11, .guard⟩], some (11, false)⟩) (v := undef) rfl (by kernel_rfl) (by kernel_rfl) (by kernel_rfl) (fun _ _ _ h => h) (Or.inr ⟨by rfl, rfl⟩) (by assumption) ?_
       try simp only[Act.put,sqA,sqB,sqC]
       refine wpAnyH_take (i := 13) (oi := ⟨some 155, .call ⟨.value (.func 23), #[.tmp 154], #[56]⟩, 24, "law.go:252", #[⟨12, .data⟩, ⟨11, .chain⟩, ⟨11, .guard⟩], some (11, false)⟩) (v := undef) rfl (by kernel_rfl) (by kernel_rfl) (by kernel_rfl) (fun _ _ _ h => h) (Or.inr ⟨by rfl, rfl⟩) (by assumption) ?_
       try simp only[Act.put,sqA,sqB,sqC]
       refine wpAnyH_take (i := 14) (oi := ⟨some 156, .load 24 (.tmp 17), 24, "law.go:252", #[⟨11, .guard⟩], some (11, false)⟩) (v := undef) rfl (by kernel_rfl) (by kernel_rfl) (by kernel_rfl) (fun _ _ _ h => h) (Or.inr ⟨by rfl, rfl⟩) (by assumption) ?_
       try simp only[Act.put,sqA,sqB,sqC]
       refine wpAnyH_take (i := 15) (oi := ⟨some 157, .call ⟨.value (.func 18), #[.tmp 155, .tmp 156], #[24, 24]⟩, 4, "law.go:252", #[⟨13, .data⟩, ⟨14, .data⟩, ⟨13, .chain⟩, ⟨11, .guard⟩], some (11, false)⟩) (v := undef) rfl (by kernel_rfl) (by kernel_rfl) (by kernel_rfl) (fun _ _ _ h => h) (Or.inr ⟨by rfl, rfl⟩) (by assumption) ?_
       try simp only[Act.put,sqA,sqB,sqC]
       refine tq ⟨some 158, .pick (.tmp 153) (.const (.bool true)) (.tmp 157), 4, "law.go:252", #[⟨11, .data⟩, ⟨15, .data⟩, ⟨6, .guard⟩], some (6, true)⟩ ?_ 16 rfl ?_ ?_;rotate_left;·(intros;go_simp<;>with_reducible rfl)
       try simp only[Act.put,sqA,sqB,sqC]
       refine tq ⟨some 159, .pick (.tmp 148) (.tmp 158) (.const (.bool false)), 4, "law.go:252", #[⟨6, .data⟩, ⟨16, .data⟩], none⟩ ?_ 17 rfl ?_ ?_;rotate_left;·(intros;go_simp<;>with_reducible rfl)
       try simp only[Act.put,sqA,sqB,sqC]
       refine tq ⟨some 10, .assign (.tmp 159), 4, "law.go:252", #[⟨17, .data⟩, ⟨15, .chain⟩, ⟨0, .phase⟩, ⟨1, .phase⟩, ⟨2, .phase⟩, ⟨3, .phase⟩, ⟨4, .phase⟩, ⟨5, .phase⟩, ⟨6, .phase⟩, ⟨7, .phase⟩, ⟨8, .phase⟩, ⟨9, .phase⟩, ⟨10, .phase⟩, ⟨11, .phase⟩, ⟨12, .phase⟩, ⟨13, .phase⟩, ⟨14, .phase⟩, ⟨15, .phase⟩, ⟨16, .phase⟩, ⟨17, .phase⟩], none⟩ ?_ 18 rfl ?_ ?_;rotate_left;·(intros;go_simp<;>with_reducible rfl)
       try simp only[Act.put,sqA,sqB,sqC]
       refine wpAnyH_done (by kernel_rfl) ?_ _
       clear hHeld
       go_wp2_with (fail)
       go_ret
       exact ⟨rfl, HTF.out.low.trans HU2.out⟩
      ·rw [eqM_no hws, Bool.and_false]
       have hnx := Lib.hid (show pf.s = next from HOR.out.resolve_left hws)
       clear hws
       try simp only[Act.put,sqA,sqB,sqC]
       refine tq ⟨some 153, .move (.tmp 152), 4, "law.go:252", #[⟨10, .data⟩, ⟨10, .chain⟩, ⟨6, .guard⟩], some (6, true)⟩ ?_ 11 rfl ?_ ?_;rotate_left;·(intros;go_simp<;>with_reducible rfl)
       try simp only[Act.put,sqA,sqB,sqC]
       refine tq ⟨some 154, .move (.tmp 23), 56, "law.go:252", #[⟨11, .guard⟩], some (11, false)⟩ ?_ 12 rfl ?_ ?_;rotate_left;·(intros;go_simp<;>with_reducible rfl)
       try simp only[Act.put,sqA,sqB,sqC]
       refine tq ⟨some 156, .load 24 (.tmp 17), 24, "law.go:252", #[⟨11, .guard⟩], some (11, false)⟩ ?_ 14 rfl ?_ ?_;rotate_left;·(intros;go_simp<;>with_reducible rfl)
       try simp only[Act.put,sqA,sqB,sqC]
       refine wpAnyH_ready (rs := [13]) (by kernel_rfl) (by simp) ?_
       refine ar1 ⟨some 155, .call ⟨.value (.func 23), #[.tmp 154], #[56]⟩, 24, "law.go:252", #[⟨12, .data⟩, ⟨11, .chain⟩, ⟨11, .guard⟩], some (11, false)⟩ rfl (fun K hK => ?_)
       go_simp
       refine (tm_state HTF.out HU2.out (right_files HRF.out)).mono ?_
       rintro e u3 ⟨sp3, sc3, rfl, ho3, hb3⟩
       have HU3 := Lib.hid (show Bel zf u3 from HU2.out.trans hb3)
       have HP3 := Lib.hid (pls_ownP ho3)
       clear ho3 hb3
       dsimp only
       refine hK.out _ _ (HRS.out _ HU3.out) (fun hHeld => ?_);clear hK K;try simp only[Act.put,sqA,sqB,sqC]
       refine wpAnyH_ready (rs := [15]) (by kernel_rfl) (by simp) ?_
       refine ar1 ⟨some 157, .call ⟨.value (.func 18), #[.tmp 155, .tmp 156], #[24, 24]⟩, 4, "law.go:252", #[⟨13, .data⟩, ⟨14, .data⟩, ⟨13, .chain⟩, ⟨11, .guard⟩], some (11, false)⟩ rfl (fun K hK => ?_)
       go_simp
       refine (same13_any sp3 np sc3 nc pf.s next _ HP3.out (HSNF.out.at_.bel HU3.out) (by have := right_files HRF.out; omega) (by have := HSNF.out.len; omega) (by have := HSNF.out.len; omega)).mono ?_
       rintro e u4 ⟨rfl, hb4⟩
       rw [HSNF.out.len.2.2, eqM_yes hnx.out]
       have HU4 := Lib.hid (HU3.out.trans hb4)
       clear hb4
       dsimp only
       refine hK.out _ _ (HRS.out _ HU4.out) (fun hHeld => ?_);clear hK K;try simp only[Act.put,sqA,sqB,sqC]
       refine tq ⟨some 158, .pick (.tmp 153) (.const (.bool true)) (.tmp 157), 4, "law.go:252", #[⟨11, .data⟩, ⟨15, .data⟩, ⟨6, .guard⟩], some (6, true)⟩ ?_ 16 rfl ?_ ?_;rotate_left;·(intros;go_simp<;>with_reducible rfl)
       try simp only[Act.put,sqA,sqB,sqC]
       refine tq ⟨some 159, .pick (.tmp 148) (.tmp 158) (.const (.bool false)), 4, "law.go:252", #[⟨6, .data⟩, ⟨16, .data⟩], none⟩ ?_ 17 rfl ?_ ?_;rotate_left;·(intros;go_simp<;>with_reducible rfl)
       try simp only[Act.put,sqA,sqB,sqC]
       refine tq ⟨some 10, .assign (.tmp 159), 4, "law.go:252", #[⟨17, .data⟩, ⟨15, .chain⟩, ⟨0, .phase⟩, ⟨1, .phase⟩, ⟨2, .phase⟩, ⟨3, .phase⟩, ⟨4, .phase⟩, ⟨5, .phase⟩, ⟨6, .phase⟩, ⟨7, .phase⟩, ⟨8, .phase⟩, ⟨9, .phase⟩, ⟨10, .phase⟩, ⟨11, .phase⟩, ⟨12, .phase⟩, ⟨13, .phase⟩, ⟨14, .phase⟩, ⟨15, .phase⟩, ⟨16, .phase⟩, ⟨17, .phase⟩], none⟩ ?_ 18 rfl ?_ ?_;rotate_left;·(intros;go_simp<;>with_reducible rfl)
       try simp only[Act.put,sqA,sqB,sqC]
       refine wpAnyH_done (by kernel_rfl) ?_ _
       clear hHeld hnx
       go_wp2_with (fail)
       go_ret
       exact ⟨rfl, HTF.out.low.trans HU4.out⟩
    ·obtain ⟨pf, hpf⟩ : ∃ pf : SD, pf = ⟨(jopen manP M3).2.2, lastM initM (jopen manP M3).2.1, 0⟩ := ⟨_, rfl⟩
     have HOR := Lib.hid (show pf.s = was ∨ pf.s = next by rw [hpf]; exact HEND.out.1 h0)
     have HRF := Lib.hid (show rightM pf.s = true by rw [hpf]; exact last_right _ (by decide))
     have HTF := Lib.hid (show TM w zf b r mb1 jb1 rb qb pf q0 (ws :: ms :: R0) by rw [hpf]; exact ht3)
     have HSWF := Lib.hid (HSW2.out.kr (R' := R0) (fun k hk => hk3 k (by simp only [List.mem_cons]; exact Or.inr (Or.inr hk))) HZ2.out.low ht3.low HWN.out.1 (fun _ h => h))
     have HSNF := Lib.hid (HSN2.out.kr (R' := R0) (fun k hk => hk3 k (by simp only [List.mem_cons]; exact Or.inr (Or.inr hk))) HZ2.out.low ht3.low HWN.out.2 (fun _ h => h))
     clear ht3 hk3 s0 hpf h0 HEND
     have HRS := Lib.hid (show ∀ z', Bel zf z' → (z'.cell? ⟨Wb, 0, none⟩ = some (.slice wp was.files.length wc) ∧ z'.cell? ⟨Wb, 1, none⟩ = some (.int .i64 was.next) ∧ z'.cell? ⟨Wb, 2, none⟩ = some (.int .i64 was.seq) ∧ z'.cell? ⟨Wb, 3, none⟩ = some (.int .i64 was.log) ∧ z'.cell? ⟨Wb, 4, none⟩ = some (.string was.mt)) ∧ z'.cell? ⟨Nb, 0, none⟩ = some (.slice np next.files.length nc) ∧ z'.cell? ⟨Nb, 1, none⟩ = some (.int .i64 next.next) ∧ z'.cell? ⟨Nb, 2, none⟩ = some (.int .i64 next.seq) ∧ z'.cell? ⟨Nb, 3, none⟩ = some (.int .i64 next.log) ∧ z'.cell? ⟨Nb, 4, none⟩ = some (.string next.mt) from fun z' hz => by
      obtain ⟨⟨b0, b1, b2, b3, b4⟩, -⟩ := box5 (box_bel HSWF.out.box hz)
      obtain ⟨⟨d0, d1, d2, d3, d4⟩, -⟩ := box5 (box_bel HSNF.out.box hz)
      exact ⟨⟨b0, b1, b2, b3, b4⟩, d0, d1, d2, d3, d4⟩)
     go_wp2_with (fail)
     refine wp_region_held_drew (S := fun z => (z.cell? ⟨Wb, 0, none⟩ = some (.slice wp was.files.length wc) ∧ z.cell? ⟨Wb, 1, none⟩ = some (.int .i64 was.next) ∧ z.cell? ⟨Wb, 2, none⟩ = some (.int .i64 was.seq) ∧ z.cell? ⟨Wb, 3, none⟩ = some (.int .i64 was.log) ∧ z.cell? ⟨Wb, 4, none⟩ = some (.string was.mt)) ∧ z.cell? ⟨Nb, 0, none⟩ = some (.slice np next.files.length nc) ∧ z.cell? ⟨Nb, 1, none⟩ = some (.int .i64 next.next) ∧ z.cell? ⟨Nb, 2, none⟩ = some (.int .i64 next.seq) ∧ z.cell? ⟨Nb, 3, none⟩ = some (.int .i64 next.log) ∧ z.cell? ⟨Nb, 4, none⟩ = some (.string next.mt)) (by kernel_rfl) (HRS.out _ (Bel.refl _).drew) (fun hHeld => ?_)
     refine tq ⟨some 142, .move (.tmp 23), 56, "law.go:252", #[], none⟩ ?_ 0 rfl ?_ ?_;rotate_left;·(intros;go_simp<;>with_reducible rfl)
     try simp only[Act.put,sqA,sqB,sqC]
     refine tq ⟨some 143, .binOp .neq 56 (.tmp 142) (.const (.pointer none)) 56, 4, "law.go:252", #[⟨0, .data⟩], none⟩ ?_ 1 rfl ?_ ?_;rotate_left;·(intros;go_simp<;>with_reducible rfl)
     try simp only[Act.put,sqA,sqB,sqC]
     refine tq ⟨some 144, .move (.tmp 143), 4, "law.go:252", #[⟨1, .data⟩], none⟩ ?_ 2 rfl ?_ ?_;rotate_left;·(intros;go_simp<;>with_reducible rfl)
     try simp only[Act.put,sqA,sqB,sqC]
     refine tq ⟨some 145, .move (.tmp 24), 31, "law.go:252", #[⟨2, .guard⟩], some (2, true)⟩ ?_ 3 rfl ?_ ?_;rotate_left;·(intros;go_simp<;>with_reducible rfl)
     try simp only[Act.put,sqA,sqB,sqC]
     refine tq ⟨some 146, .binOp .eql 31 (.tmp 145) (.const (.int .i64 0)) 31, 4, "law.go:252", #[⟨3, .data⟩, ⟨2, .guard⟩], some (2, true)⟩ ?_ 4 rfl ?_ ?_;rotate_left;·(intros;go_simp<;>with_reducible rfl)
     try simp only[Act.put,sqA,sqB,sqC]
     refine tq ⟨some 147, .pick (.tmp 144) (.tmp 146) (.const (.bool false)), 4, "law.go:252", #[⟨2, .data⟩, ⟨4, .data⟩], none⟩ ?_ 5 rfl ?_ ?_;rotate_left;·(intros;go_simp<;>with_reducible rfl)
     try simp only[Act.put,sqA,sqB,sqC]
     refine tq ⟨some 148, .move (.tmp 147), 4, "law.go:252", #[⟨5, .data⟩, ⟨2, .chain⟩], none⟩ ?_ 6 rfl ?_ ?_;rotate_left;·(intros;go_simp<;>with_reducible rfl)
     try simp only[Act.put,sqA,sqB,sqC]
     refine tq ⟨some 149, .move (.tmp 23), 56, "law.go:252", #[⟨6, .guard⟩], some (6, true)⟩ ?_ 7 rfl ?_ ?_;rotate_left;·(intros;go_simp<;>with_reducible rfl)
     try simp only[Act.put,sqA,sqB,sqC]
     refine tq ⟨some 151, .load 24 (.tmp 16), 24, "law.go:252", #[⟨6, .guard⟩], some (6, true)⟩ ?_ 9 rfl ?_ ?_;rotate_left;·(intros;go_simp<;>with_reducible rfl)
     try simp only[Act.put,sqA,sqB,sqC]
     refine wpAnyH_ready (rs := [8]) (by kernel_rfl) (by simp) ?_
     refine ar1 ⟨some 150, .call ⟨.value (.func 23), #[.tmp 149], #[56]⟩, 24, "law.go:252", #[⟨7, .data⟩, ⟨6, .chain⟩, ⟨6, .guard⟩], some (6, true)⟩ rfl (fun K hK => ?_)
     go_simp
     refine (tm_state HTF.out (Bel.refl _).drew (right_files HRF.out)).mono ?_
     rintro e u1 ⟨sp1, sc1, rfl, ho1, hb1⟩
     have HU1 := Lib.hid (show Bel zf u1 from (Bel.refl zf).drew.trans hb1)
     have HP1 := Lib.hid (pls_ownP ho1)
     clear ho1 hb1
     dsimp only
     refine hK.out _ _ (HRS.out _ HU1.out) (fun hHeld => ?_);clear hK K;try simp only[Act.put,sqA,sqB,sqC]
     refine wpAnyH_ready (rs := [10]) (by kernel_rfl) (by simp) ?_
     refine ar1 ⟨some 152, .call ⟨.value (.func 18), #[.tmp 150, .tmp 151], #[24, 24]⟩, 4, "law.go:252", #[⟨8, .data⟩, ⟨9, .data⟩, ⟨8, .chain⟩, ⟨6, .guard⟩], some (6, true)⟩ rfl (fun K hK => ?_)
     go_simp
     refine (same13_any sp1 wp sc1 wc pf.s was _ HP1.out (HSWF.out.at_.bel HU1.out) (by have := right_files HRF.out; omega) (by have := HSWF.out.len; omega) (by have := HSWF.out.len; omega)).mono ?_
     rintro e u2 ⟨rfl, hb2⟩
     have HU2 := Lib.hid (HU1.out.trans hb2)
     clear hb2
     dsimp only
     refine hK.out _ _ (HRS.out _ HU2.out) (fun hHeld => ?_);clear hK K
     by_cases hws : pf.s = was
     ·rw [HSWF.out.len.2.2, eqM_yes hws]
      clear hws
      try simp only[Act.put,sqA,sqB,sqC]
      refine tq ⟨some 153, .move (.tmp 152), 4, "law.go:252", #[⟨10, .data⟩, ⟨10, .chain⟩, ⟨6, .guard⟩], some (6, true)⟩ ?_ 11 rfl ?_ ?_;rotate_left;·(intros;go_simp<;>with_reducible rfl)
      try simp only[Act.put,sqA,sqB,sqC]
      refine wpAnyH_take (i := 12) (oi := ⟨some 154, .move (.tmp 23), 56, "law.go:252", #[⟨11, .guard⟩], some (11, false)⟩) (v := undef) rfl (by kernel_rfl) (by kernel_rfl) (by kernel_rfl) (fun _ _ _ h => h) (Or.inr ⟨by rfl, rfl⟩) (by assumption) ?_
      try simp only[Act.put,sqA,sqB,sqC]
      refine wpAnyH_take (i := 13) (oi := ⟨some 155, .call ⟨.value (.func 23), #[.tmp 154], #[56]⟩, 24, "law.go:252", #[⟨12, .data⟩, ⟨11, .chain⟩, ⟨11, .guard⟩], some (11, false)⟩) (v := undef) rfl (by kernel_rfl) (by kernel_rfl) (by kernel_rfl) (fun _ _ _ h => h) (Or.inr ⟨by rfl, rfl⟩) (by assumption) ?_
      try simp only[Act.put,sqA,sqB,sqC]
      refine wpAnyH_take (i := 14) (oi := ⟨some 156, .load 24 (.tmp 17), 24, "law.go:252", #[⟨11, .guard⟩], some (11, false)⟩) (v := undef) rfl (by kernel_rfl) (by kernel_rfl) (by kernel_rfl) (fun _ _ _ h => h) (Or.inr ⟨by rfl, rfl⟩) (by assumption) ?_
      try simp only[Act.put,sqA,sqB,sqC]
      refine wpAnyH_take (i := 15) (oi := ⟨some 157, .call ⟨.value (.func 18), #[.tmp 155, .tmp 156], #[24, 24]⟩, 4, "law.go:252", #[⟨13, .data⟩, ⟨14, .data⟩, ⟨13, .chain⟩, ⟨11, .guard⟩], some (11, false)⟩) (v := undef) rfl (by kernel_rfl) (by kernel_rfl) (by kernel_rfl) (fun _ _ _ h => h) (Or.inr ⟨by rfl, rfl⟩) (by assumption) ?_
      try simp only[Act.put,sqA,sqB,sqC]
      refine tq ⟨some 158, .pick (.tmp 153) (.const (.bool true)) (.tmp 157), 4, "law.go:252", #[⟨11, .data⟩, ⟨15, .data⟩, ⟨6, .guard⟩], some (6, true)⟩ ?_ 16 rfl ?_ ?_;rotate_left;·(intros;go_simp<;>with_reducible rfl)
      try simp only[Act.put,sqA,sqB,sqC]
      refine tq ⟨some 159, .pick (.tmp 148) (.tmp 158) (.const (.bool false)), 4, "law.go:252", #[⟨6, .data⟩, ⟨16, .data⟩], none⟩ ?_ 17 rfl ?_ ?_;rotate_left;·(intros;go_simp<;>with_reducible rfl)
      try simp only[Act.put,sqA,sqB,sqC]
      refine tq ⟨some 10, .assign (.tmp 159), 4, "law.go:252", #[⟨17, .data⟩, ⟨15, .chain⟩, ⟨0, .phase⟩, ⟨1, .phase⟩, ⟨2, .phase⟩, ⟨3, .phase⟩, ⟨4, .phase⟩, ⟨5, .phase⟩, ⟨6, .phase⟩, ⟨7, .phase⟩, ⟨8, .phase⟩, ⟨9, .phase⟩, ⟨10, .phase⟩, ⟨11, .phase⟩, ⟨12, .phase⟩, ⟨13, .phase⟩, ⟨14, .phase⟩, ⟨15, .phase⟩, ⟨16, .phase⟩, ⟨17, .phase⟩], none⟩ ?_ 18 rfl ?_ ?_;rotate_left;·(intros;go_simp<;>with_reducible rfl)
      try simp only[Act.put,sqA,sqB,sqC]
      refine wpAnyH_done (by kernel_rfl) ?_ _
      clear hHeld
      go_wp2_with (fail)
      go_ret
      exact ⟨rfl, HTF.out.low.trans HU2.out⟩
     ·rw [eqM_no hws, Bool.and_false]
      have hnx := Lib.hid (show pf.s = next from HOR.out.resolve_left hws)
      clear hws
      try simp only[Act.put,sqA,sqB,sqC]
      refine tq ⟨some 153, .move (.tmp 152), 4, "law.go:252", #[⟨10, .data⟩, ⟨10, .chain⟩, ⟨6, .guard⟩], some (6, true)⟩ ?_ 11 rfl ?_ ?_;rotate_left;·(intros;go_simp<;>with_reducible rfl)
      try simp only[Act.put,sqA,sqB,sqC]
      refine tq ⟨some 154, .move (.tmp 23), 56, "law.go:252", #[⟨11, .guard⟩], some (11, false)⟩ ?_ 12 rfl ?_ ?_;rotate_left;·(intros;go_simp<;>with_reducible rfl)
      try simp only[Act.put,sqA,sqB,sqC]
      refine tq ⟨some 156, .load 24 (.tmp 17), 24, "law.go:252", #[⟨11, .guard⟩], some (11, false)⟩ ?_ 14 rfl ?_ ?_;rotate_left;·(intros;go_simp<;>with_reducible rfl)
      try simp only[Act.put,sqA,sqB,sqC]
      refine wpAnyH_ready (rs := [13]) (by kernel_rfl) (by simp) ?_
      refine ar1 ⟨some 155, .call ⟨.value (.func 23), #[.tmp 154], #[56]⟩, 24, "law.go:252", #[⟨12, .data⟩, ⟨11, .chain⟩, ⟨11, .guard⟩], some (11, false)⟩ rfl (fun K hK => ?_)
      go_simp
      refine (tm_state HTF.out HU2.out (right_files HRF.out)).mono ?_
      rintro e u3 ⟨sp3, sc3, rfl, ho3, hb3⟩
      have HU3 := Lib.hid (show Bel zf u3 from HU2.out.trans hb3)
      have HP3 := Lib.hid (pls_ownP ho3)
      clear ho3 hb3
      dsimp only
      refine hK.out _ _ (HRS.out _ HU3.out) (fun hHeld => ?_);clear hK K;try simp only[Act.put,sqA,sqB,sqC]
      refine wpAnyH_ready (rs := [15]) (by kernel_rfl) (by simp) ?_
      refine ar1 ⟨some 157, .call ⟨.value (.func 18), #[.tmp 155, .tmp 156], #[24, 24]⟩, 4, "law.go:252", #[⟨13, .data⟩, ⟨14, .data⟩, ⟨13, .chain⟩, ⟨11, .guard⟩], some (11, false)⟩ rfl (fun K hK => ?_)
      go_simp
      refine (same13_any sp3 np sc3 nc pf.s next _ HP3.out (HSNF.out.at_.bel HU3.out) (by have := right_files HRF.out; omega) (by have := HSNF.out.len; omega) (by have := HSNF.out.len; omega)).mono ?_
      rintro e u4 ⟨rfl, hb4⟩
      rw [HSNF.out.len.2.2, eqM_yes hnx.out]
      have HU4 := Lib.hid (HU3.out.trans hb4)
      clear hb4
      dsimp only
      refine hK.out _ _ (HRS.out _ HU4.out) (fun hHeld => ?_);clear hK K;try simp only[Act.put,sqA,sqB,sqC]
      refine tq ⟨some 158, .pick (.tmp 153) (.const (.bool true)) (.tmp 157), 4, "law.go:252", #[⟨11, .data⟩, ⟨15, .data⟩, ⟨6, .guard⟩], some (6, true)⟩ ?_ 16 rfl ?_ ?_;rotate_left;·(intros;go_simp<;>with_reducible rfl)
      try simp only[Act.put,sqA,sqB,sqC]
      refine tq ⟨some 159, .pick (.tmp 148) (.tmp 158) (.const (.bool false)), 4, "law.go:252", #[⟨6, .data⟩, ⟨16, .data⟩], none⟩ ?_ 17 rfl ?_ ?_;rotate_left;·(intros;go_simp<;>with_reducible rfl)
      try simp only[Act.put,sqA,sqB,sqC]
      refine tq ⟨some 10, .assign (.tmp 159), 4, "law.go:252", #[⟨17, .data⟩, ⟨15, .chain⟩, ⟨0, .phase⟩, ⟨1, .phase⟩, ⟨2, .phase⟩, ⟨3, .phase⟩, ⟨4, .phase⟩, ⟨5, .phase⟩, ⟨6, .phase⟩, ⟨7, .phase⟩, ⟨8, .phase⟩, ⟨9, .phase⟩, ⟨10, .phase⟩, ⟨11, .phase⟩, ⟨12, .phase⟩, ⟨13, .phase⟩, ⟨14, .phase⟩, ⟨15, .phase⟩, ⟨16, .phase⟩, ⟨17, .phase⟩], none⟩ ?_ 18 rfl ?_ ?_;rotate_left;·(intros;go_simp<;>with_reducible rfl)
      try simp only[Act.put,sqA,sqB,sqC]
      refine wpAnyH_done (by kernel_rfl) ?_ _
      clear hHeld hnx
      go_wp2_with (fail)
      go_ret
      exact ⟨rfl, HTF.out.low.trans HU4.out⟩
  ·have hii : ¬ (k : Int) < (L.length : Int) := by omega
   have HLZ := HX
   have HSWZ := HSW
   have HSNZ := HSN
   have HEND := Lib.hid (HKI.out.end_ HLZ.out.tm.good left.L spoil.L spoil.L left.L ((pickN again 4 : Nat) : Int) (pickN_ok again 4 (by omega) (by omega)))
   have HCR := Lib.hid (show ∀ z', Bel wr z' → _ from fun z' hz => tm_crash HLZ.out.tm hz left spoil HLF.out HSP.out)
   unfold SI.val at HCR
   obtain ⟨s0, -, -, -⟩ := HLZ.out.cells
   go_wp2_with (fail)
   refine (HCR.out _ (by first | exact Bel.refl _ | exact (Bel.refl _).drew)).mono ?_
   rintro e z1 ⟨⟨u, rfl⟩, ht1, hk1⟩
   have HZ1 := Lib.hid (HLZ.out.to ht1 hk1)
   have HSW1 := Lib.hid (HSWZ.out.kr (R' := R0) (fun k hk => hk1 k (by simp only [List.mem_cons]; exact Or.inr (Or.inr hk))) HLZ.out.low ht1.low HWN.out.1 (fun _ h => h))
   have HSN1 := Lib.hid (HSNZ.out.kr (R' := R0) (fun k hk => hk1 k (by simp only [List.mem_cons]; exact Or.inr (Or.inr hk))) HLZ.out.low ht1.low HWN.out.2 (fun _ h => h))
   clear ht1 hk1 s0 HCR
   obtain ⟨s0, -, -, -⟩ := HZ1.out.cells
   go_wp2_with (fail)
   refine wp_region_held_drew (S := fun z => z.cell? ⟨ws, 0, none⟩ = some (.pointer (some ⟨b, 0, none⟩))) (by kernel_rfl) s0 (fun hHeld => ?_)
   refine tq ⟨some 110, .move (.tmp 13), 46, "law.go:246", #[], none⟩ ?_ 0 rfl ?_ ?_;rotate_left;·(intros;go_simp<;>with_reducible rfl)
   try simp only[Act.put,sqA,sqB,sqC]
   refine tq ⟨some 111, .nilCheck (.tmp 110), 0, "law.go:246", #[⟨0, .data⟩], none⟩ ?_ 1 rfl ?_ ?_;rotate_left;·(intros;go_simp<;>with_reducible rfl)
   try simp only[Act.put,sqA,sqB,sqC]
   refine tq ⟨some 112, .fieldAddr 58 (.tmp 111) 0, 0, "law.go:246", #[⟨1, .data⟩], none⟩ ?_ 2 rfl ?_ ?_;rotate_left;·(intros;go_simp<;>with_reducible rfl)
   try simp only[Act.put,sqA,sqB,sqC]
   refine tq ⟨some 113, .load 55 (.tmp 112), 55, "law.go:246", #[⟨2, .data⟩], none⟩ ?_ 3 rfl ?_ ?_;rotate_left;·(intros;go_simp<;>with_reducible rfl)
   try simp only[Act.put,sqA,sqB,sqC]
   refine tq ⟨some 114, .move (.tmp 4), 3, "law.go:246", #[], none⟩ ?_ 4 rfl ?_ ?_;rotate_left;·(intros;go_simp<;>with_reducible rfl)
   try simp only[Act.put,sqA,sqB,sqC]
   refine wpAnyH_ready (rs := [5]) (by kernel_rfl) (by simp) ?_
   refine ar1 ⟨some 115, .call ⟨.value (.func 21), #[.tmp 114, .const (.int .i64 4)], #[3, 3]⟩, 3, "law.go:246", #[⟨4, .data⟩], none⟩ rfl (fun K hK => ?_)
   go_simp
   refine (pick13_at again _ 4 _ HAG.out (by omega) (by omega) rfl).mono ?_
   rintro e z ⟨rfl, rfl⟩
   dsimp only
   refine hK.out _ _ hHeld (fun hHeld => ?_);clear hK K;try simp only[Act.put,sqA,sqB,sqC]
   refine wpAnyH_ready (rs := [6]) (by kernel_rfl) (by simp) ?_
   refine ar1 ⟨some 116, .call ⟨.value (.func 28), #[.tmp 113, .tmp 115], #[55, 3]⟩, 0, "law.go:246", #[⟨3, .data⟩, ⟨5, .data⟩, ⟨5, .chain⟩], none⟩ rfl (fun K hK => ?_)
   go_simp
   refine (tm_limit HZ1.out.tm (Bel.refl _).drew _ (pickN_ok again 4 (by omega) (by omega))).mono ?_
   rintro e z2 ⟨⟨u, rfl⟩, ht2, hk2⟩
   have HZ2 := Lib.hid (HZ1.out.to ht2 hk2)
   have HSW2 := Lib.hid (HSW1.out.kr (R' := R0) (fun k hk => hk2 k (by simp only [List.mem_cons]; exact Or.inr (Or.inr hk))) HZ1.out.low ht2.low HWN.out.1 (fun _ h => h))
   have HSN2 := Lib.hid (HSN1.out.kr (R' := R0) (fun k hk => hk2 k (by simp only [List.mem_cons]; exact Or.inr (Or.inr hk))) HZ1.out.low ht2.low HWN.out.2 (fun _ h => h))
   clear ht2 hk2 s0
   obtain ⟨s0, -, -, -⟩ := HZ2.out.cells
   dsimp only
   refine hK.out _ _ s0 (fun hHeld => ?_);clear hK K;try simp only[Act.put,sqA,sqB,sqC]
   refine wpAnyH_done (by kernel_rfl) ?_ _
   clear hHeld
   obtain ⟨M3, hm3⟩ : ∃ M3, M3 = limS ((pickN again 4 : Nat) : Int) (crashS left.L spoil.L pd.M) := ⟨_, rfl⟩
   have HRM3 := Lib.hid (show M3.room ≤ 1000000 by rw [hm3]; exact HI.out.room)
   rw [← hm3] at HZ2 HEND
   clear hm3
   go_wp2_with (fail)
   refine (tm_open HZ2.out.tm (by first | exact Bel.refl _ | exact (Bel.refl _).drew) HRM3.out).mono ?_
   rintro e zf ⟨hk3, ⟨hne, rfl, ht3⟩ | ⟨h0, mb1, jb1, rfl, ht3⟩⟩
   ·obtain ⟨hq0, hqs⟩ := HEND.out.2 hne
    have HQ0 := Lib.hid hq0
    have HQS := Lib.hid hqs
    obtain ⟨er, her⟩ : ∃ er, er = (jopen manP M3).1 := ⟨_, rfl⟩
    obtain ⟨M4, hm4⟩ : ∃ M4, M4 = (jopen manP M3).2.2 := ⟨_, rfl⟩
    have HRM4 := Lib.hid (show M4.room ≤ 1000000 by rw [hm4, jopen_room]; exact HRM3.out)
    rw [← hm4] at ht3 HQ0 HQS
    rw [← her]
    have he1 : (er != 0) = true := by rw [bne_iff_ne, her]; exact hne
    clear her hm4 hne hq0 hqs HEND
    have HZ3 := Lib.hid (HZ2.out.to ht3 hk3)
    have HSW3 := Lib.hid (HSW2.out.kr (R' := R0) (fun k hk => hk3 k (by simp only [List.mem_cons]; exact Or.inr (Or.inr hk))) HZ2.out.low ht3.low HWN.out.1 (fun _ h => h))
    have HSN3 := Lib.hid (HSN2.out.kr (R' := R0) (fun k hk => hk3 k (by simp only [List.mem_cons]; exact Or.inr (Or.inr hk))) HZ2.out.low ht3.low HWN.out.2 (fun _ h => h))
    have HCR := Lib.hid (show ∀ z', Bel zf z' → _ from fun z' hz => tm_crash HZ3.out.tm hz spoil left HSP.out HLF.out)
    unfold SI.val at HCR
    clear ht3 hk3 s0
    obtain ⟨s0, -, -, -⟩ := HZ3.out.cells
    go_wp2_with (fail)
    refine (HCR.out _ (by first | exact Bel.refl _ | exact (Bel.refl _).drew)).mono ?_
    rintro e z4 ⟨⟨u, rfl⟩, ht4, hk4⟩
    have HZ4 := Lib.hid (HZ3.out.to ht4 hk4)
    have HSW4 := Lib.hid (HSW3.out.kr (R' := R0) (fun k hk => hk4 k (by simp only [List.mem_cons]; exact Or.inr (Or.inr hk))) HZ3.out.low ht4.low HWN.out.1 (fun _ h => h))
    have HSN4 := Lib.hid (HSN3.out.kr (R' := R0) (fun k hk => hk4 k (by simp only [List.mem_cons]; exact Or.inr (Or.inr hk))) HZ3.out.low ht4.low HWN.out.2 (fun _ h => h))
    clear ht4 hk4 s0 HCR
    obtain ⟨s0, -, -, -⟩ := HZ4.out.cells
    go_wp2_with (fail)
    refine (tm_open HZ4.out.tm (by first | exact Bel.refl _ | exact (Bel.refl _).drew) HRM4.out).mono ?_
    clear zf HZ3 HSW3 HSN3
    rintro e zf ⟨hk3, ⟨hne, rfl, ht3⟩ | ⟨h0, mb1, jb1, rfl, ht3⟩⟩
    ·exact absurd HQ0.out hne
    ·obtain ⟨pf, hpf⟩ : ∃ pf : SD, pf = ⟨(jopen manP (crashS spoil.L left.L M4)).2.2, lastM initM (jopen manP (crashS spoil.L left.L M4)).2.1, 0⟩ := ⟨_, rfl⟩
     have HOR := Lib.hid (show pf.s = was ∨ pf.s = next by rw [hpf]; exact HQS.out)
     have HRF := Lib.hid (show rightM pf.s = true by rw [hpf]; exact last_right _ (by decide))
     have HTF := Lib.hid (show TM w zf b r mb1 jb1 rb qb pf q0 (ws :: ms :: R0) by rw [hpf]; exact ht3)
     have HSWF := Lib.hid (HSW4.out.kr (R' := R0) (fun k hk => hk3 k (by simp only [List.mem_cons]; exact Or.inr (Or.inr hk))) HZ4.out.low ht3.low HWN.out.1 (fun _ h => h))
     have HSNF := Lib.hid (HSN4.out.kr (R' := R0) (fun k hk => hk3 k (by simp only [List.mem_cons]; exact Or.inr (Or.inr hk))) HZ4.out.low ht3.low HWN.out.2 (fun _ h => h))
     clear ht3 hk3 s0 hpf h0
     have HRS := Lib.hid (show ∀ z', Bel zf z' → (z'.cell? ⟨Wb, 0, none⟩ = some (.slice wp was.files.length wc) ∧ z'.cell? ⟨Wb, 1, none⟩ = some (.int .i64 was.next) ∧ z'.cell? ⟨Wb, 2, none⟩ = some (.int .i64 was.seq) ∧ z'.cell? ⟨Wb, 3, none⟩ = some (.int .i64 was.log) ∧ z'.cell? ⟨Wb, 4, none⟩ = some (.string was.mt)) ∧ z'.cell? ⟨Nb, 0, none⟩ = some (.slice np next.files.length nc) ∧ z'.cell? ⟨Nb, 1, none⟩ = some (.int .i64 next.next) ∧ z'.cell? ⟨Nb, 2, none⟩ = some (.int .i64 next.seq) ∧ z'.cell? ⟨Nb, 3, none⟩ = some (.int .i64 next.log) ∧ z'.cell? ⟨Nb, 4, none⟩ = some (.string next.mt) from fun z' hz => by
      obtain ⟨⟨b0, b1, b2, b3, b4⟩, -⟩ := box5 (box_bel HSWF.out.box hz)
      obtain ⟨⟨d0, d1, d2, d3, d4⟩, -⟩ := box5 (box_bel HSNF.out.box hz)
      exact ⟨⟨b0, b1, b2, b3, b4⟩, d0, d1, d2, d3, d4⟩)
     go_wp2_with (fail)
     refine wp_region_held_drew (S := fun z => (z.cell? ⟨Wb, 0, none⟩ = some (.slice wp was.files.length wc) ∧ z.cell? ⟨Wb, 1, none⟩ = some (.int .i64 was.next) ∧ z.cell? ⟨Wb, 2, none⟩ = some (.int .i64 was.seq) ∧ z.cell? ⟨Wb, 3, none⟩ = some (.int .i64 was.log) ∧ z.cell? ⟨Wb, 4, none⟩ = some (.string was.mt)) ∧ z.cell? ⟨Nb, 0, none⟩ = some (.slice np next.files.length nc) ∧ z.cell? ⟨Nb, 1, none⟩ = some (.int .i64 next.next) ∧ z.cell? ⟨Nb, 2, none⟩ = some (.int .i64 next.seq) ∧ z.cell? ⟨Nb, 3, none⟩ = some (.int .i64 next.log) ∧ z.cell? ⟨Nb, 4, none⟩ = some (.string next.mt)) (by kernel_rfl) (HRS.out _ (Bel.refl _).drew) (fun hHeld => ?_)
     refine tq ⟨some 142, .move (.tmp 23), 56, "law.go:252", #[], none⟩ ?_ 0 rfl ?_ ?_;rotate_left;·(intros;go_simp<;>with_reducible rfl)
     try simp only[Act.put,sqA,sqB,sqC]
     refine tq ⟨some 143, .binOp .neq 56 (.tmp 142) (.const (.pointer none)) 56, 4, "law.go:252", #[⟨0, .data⟩], none⟩ ?_ 1 rfl ?_ ?_;rotate_left;·(intros;go_simp<;>with_reducible rfl)
     try simp only[Act.put,sqA,sqB,sqC]
     refine tq ⟨some 144, .move (.tmp 143), 4, "law.go:252", #[⟨1, .data⟩], none⟩ ?_ 2 rfl ?_ ?_;rotate_left;·(intros;go_simp<;>with_reducible rfl)
     try simp only[Act.put,sqA,sqB,sqC]
     refine tq ⟨some 145, .move (.tmp 24), 31, "law.go:252", #[⟨2, .guard⟩], some (2, true)⟩ ?_ 3 rfl ?_ ?_;rotate_left;·(intros;go_simp<;>with_reducible rfl)
     try simp only[Act.put,sqA,sqB,sqC]
     refine tq ⟨some 146, .binOp .eql 31 (.tmp 145) (.const (.int .i64 0)) 31, 4, "law.go:252", #[⟨3, .data⟩, ⟨2, .guard⟩], some (2, true)⟩ ?_ 4 rfl ?_ ?_;rotate_left;·(intros;go_simp<;>with_reducible rfl)
     try simp only[Act.put,sqA,sqB,sqC]
     refine tq ⟨some 147, .pick (.tmp 144) (.tmp 146) (.const (.bool false)), 4, "law.go:252", #[⟨2, .data⟩, ⟨4, .data⟩], none⟩ ?_ 5 rfl ?_ ?_;rotate_left;·(intros;go_simp<;>with_reducible rfl)
     try simp only[Act.put,sqA,sqB,sqC]
     refine tq ⟨some 148, .move (.tmp 147), 4, "law.go:252", #[⟨5, .data⟩, ⟨2, .chain⟩], none⟩ ?_ 6 rfl ?_ ?_;rotate_left;·(intros;go_simp<;>with_reducible rfl)
     try simp only[Act.put,sqA,sqB,sqC]
     refine tq ⟨some 149, .move (.tmp 23), 56, "law.go:252", #[⟨6, .guard⟩], some (6, true)⟩ ?_ 7 rfl ?_ ?_;rotate_left;·(intros;go_simp<;>with_reducible rfl)
     try simp only[Act.put,sqA,sqB,sqC]
     refine tq ⟨some 151, .load 24 (.tmp 16), 24, "law.go:252", #[⟨6, .guard⟩], some (6, true)⟩ ?_ 9 rfl ?_ ?_;rotate_left;·(intros;go_simp<;>with_reducible rfl)
     try simp only[Act.put,sqA,sqB,sqC]
     refine wpAnyH_ready (rs := [8]) (by kernel_rfl) (by simp) ?_
     refine ar1 ⟨some 150, .call ⟨.value (.func 23), #[.tmp 149], #[56]⟩, 24, "law.go:252", #[⟨7, .data⟩, ⟨6, .chain⟩, ⟨6, .guard⟩], some (6, true)⟩ rfl (fun K hK => ?_)
     go_simp
     refine (tm_state HTF.out (Bel.refl _).drew (right_files HRF.out)).mono ?_
     rintro e u1 ⟨sp1, sc1, rfl, ho1, hb1⟩
     have HU1 := Lib.hid (show Bel zf u1 from (Bel.refl zf).drew.trans hb1)
     have HP1 := Lib.hid (pls_ownP ho1)
     clear ho1 hb1
     dsimp only
     refine hK.out _ _ (HRS.out _ HU1.out) (fun hHeld => ?_);clear hK K;try simp only[Act.put,sqA,sqB,sqC]
     refine wpAnyH_ready (rs := [10]) (by kernel_rfl) (by simp) ?_
     refine ar1 ⟨some 152, .call ⟨.value (.func 18), #[.tmp 150, .tmp 151], #[24, 24]⟩, 4, "law.go:252", #[⟨8, .data⟩, ⟨9, .data⟩, ⟨8, .chain⟩, ⟨6, .guard⟩], some (6, true)⟩ rfl (fun K hK => ?_)
     go_simp
     refine (same13_any sp1 wp sc1 wc pf.s was _ HP1.out (HSWF.out.at_.bel HU1.out) (by have := right_files HRF.out; omega) (by have := HSWF.out.len; omega) (by have := HSWF.out.len; omega)).mono ?_
     rintro e u2 ⟨rfl, hb2⟩
     have HU2 := Lib.hid (HU1.out.trans hb2)
     clear hb2
     dsimp only
     refine hK.out _ _ (HRS.out _ HU2.out) (fun hHeld => ?_);clear hK K
     by_cases hws : pf.s = was
     ·rw [HSWF.out.len.2.2, eqM_yes hws]
      clear hws
      try simp only[Act.put,sqA,sqB,sqC]
      refine tq ⟨some 153, .move (.tmp 152), 4, "law.go:252", #[⟨10, .data⟩, ⟨10, .chain⟩, ⟨6, .guard⟩], some (6, true)⟩ ?_ 11 rfl ?_ ?_;rotate_left;·(intros;go_simp<;>with_reducible rfl)
      try simp only[Act.put,sqA,sqB,sqC]
      refine wpAnyH_take (i := 12) (oi := ⟨some 154, .move (.tmp 23), 56, "law.go:252", #[⟨11, .guard⟩], some (11, false)⟩) (v := undef) rfl (by kernel_rfl) (by kernel_rfl) (by kernel_rfl) (fun _ _ _ h => h) (Or.inr ⟨by rfl, rfl⟩) (by assumption) ?_
      try simp only[Act.put,sqA,sqB,sqC]
      refine wpAnyH_take (i := 13) (oi := ⟨some 155, .call ⟨.value (.func 23), #[.tmp 154], #[56]⟩, 24, "law.go:252", #[⟨12, .data⟩, ⟨11, .chain⟩, ⟨11, .guard⟩], some (11, false)⟩) (v := undef) rfl (by kernel_rfl) (by kernel_rfl) (by kernel_rfl) (fun _ _ _ h => h) (Or.inr ⟨by rfl, rfl⟩) (by assumption) ?_
      try simp only[Act.put,sqA,sqB,sqC]
      refine wpAnyH_take (i := 14) (oi := ⟨some 156, .load 24 (.tmp 17), 24, "law.go:252", #[⟨11, .guard⟩], some (11, false)⟩) (v := undef) rfl (by kernel_rfl) (by kernel_rfl) (by kernel_rfl) (fun _ _ _ h => h) (Or.inr ⟨by rfl, rfl⟩) (by assumption) ?_
      try simp only[Act.put,sqA,sqB,sqC]
      refine wpAnyH_take (i := 15) (oi := ⟨some 157, .call ⟨.value (.func 18), #[.tmp 155, .tmp 156], #[24, 24]⟩, 4, "law.go:252", #[⟨13, .data⟩, ⟨14, .data⟩, ⟨13, .chain⟩, ⟨11, .guard⟩], some (11, false)⟩) (v := undef) rfl (by kernel_rfl) (by kernel_rfl) (by kernel_rfl) (fun _ _ _ h => h) (Or.inr ⟨by rfl, rfl⟩) (by assumption) ?_
      try simp only[Act.put,sqA,sqB,sqC]
      refine tq ⟨some 158, .pick (.tmp 153) (.const (.bool true)) (.tmp 157), 4, "law.go:252", #[⟨11, .data⟩, ⟨15, .data⟩, ⟨6, .guard⟩], some (6, true)⟩ ?_ 16 rfl ?_ ?_;rotate_left;·(intros;go_simp<;>with_reducible rfl)
      try simp only[Act.put,sqA,sqB,sqC]
      refine tq ⟨some 159, .pick (.tmp 148) (.tmp 158) (.const (.bool false)), 4, "law.go:252", #[⟨6, .data⟩, ⟨16, .data⟩], none⟩ ?_ 17 rfl ?_ ?_;rotate_left;·(intros;go_simp<;>with_reducible rfl)
      try simp only[Act.put,sqA,sqB,sqC]
      refine tq ⟨some 10, .assign (.tmp 159), 4, "law.go:252", #[⟨17, .data⟩, ⟨15, .chain⟩, ⟨0, .phase⟩, ⟨1, .phase⟩, ⟨2, .phase⟩, ⟨3, .phase⟩, ⟨4, .phase⟩, ⟨5, .phase⟩, ⟨6, .phase⟩, ⟨7, .phase⟩, ⟨8, .phase⟩, ⟨9, .phase⟩, ⟨10, .phase⟩, ⟨11, .phase⟩, ⟨12, .phase⟩, ⟨13, .phase⟩, ⟨14, .phase⟩, ⟨15, .phase⟩, ⟨16, .phase⟩, ⟨17, .phase⟩], none⟩ ?_ 18 rfl ?_ ?_;rotate_left;·(intros;go_simp<;>with_reducible rfl)
      try simp only[Act.put,sqA,sqB,sqC]
      refine wpAnyH_done (by kernel_rfl) ?_ _
      clear hHeld
      go_wp2_with (fail)
      go_ret
      exact ⟨rfl, HTF.out.low.trans HU2.out⟩
     ·rw [eqM_no hws, Bool.and_false]
      have hnx := Lib.hid (show pf.s = next from HOR.out.resolve_left hws)
      clear hws
      try simp only[Act.put,sqA,sqB,sqC]
      refine tq ⟨some 153, .move (.tmp 152), 4, "law.go:252", #[⟨10, .data⟩, ⟨10, .chain⟩, ⟨6, .guard⟩], some (6, true)⟩ ?_ 11 rfl ?_ ?_;rotate_left;·(intros;go_simp<;>with_reducible rfl)
      try simp only[Act.put,sqA,sqB,sqC]
      refine tq ⟨some 154, .move (.tmp 23), 56, "law.go:252", #[⟨11, .guard⟩], some (11, false)⟩ ?_ 12 rfl ?_ ?_;rotate_left;·(intros;go_simp<;>with_reducible rfl)
      try simp only[Act.put,sqA,sqB,sqC]
      refine tq ⟨some 156, .load 24 (.tmp 17), 24, "law.go:252", #[⟨11, .guard⟩], some (11, false)⟩ ?_ 14 rfl ?_ ?_;rotate_left;·(intros;go_simp<;>with_reducible rfl)
      try simp only[Act.put,sqA,sqB,sqC]
      refine wpAnyH_ready (rs := [13]) (by kernel_rfl) (by simp) ?_
      refine ar1 ⟨some 155, .call ⟨.value (.func 23), #[.tmp 154], #[56]⟩, 24, "law.go:252", #[⟨12, .data⟩, ⟨11, .chain⟩, ⟨11, .guard⟩], some (11, false)⟩ rfl (fun K hK => ?_)
      go_simp
      refine (tm_state HTF.out HU2.out (right_files HRF.out)).mono ?_
      rintro e u3 ⟨sp3, sc3, rfl, ho3, hb3⟩
      have HU3 := Lib.hid (show Bel zf u3 from HU2.out.trans hb3)
      have HP3 := Lib.hid (pls_ownP ho3)
      clear ho3 hb3
      dsimp only
      refine hK.out _ _ (HRS.out _ HU3.out) (fun hHeld => ?_);clear hK K;try simp only[Act.put,sqA,sqB,sqC]
      refine wpAnyH_ready (rs := [15]) (by kernel_rfl) (by simp) ?_
      refine ar1 ⟨some 157, .call ⟨.value (.func 18), #[.tmp 155, .tmp 156], #[24, 24]⟩, 4, "law.go:252", #[⟨13, .data⟩, ⟨14, .data⟩, ⟨13, .chain⟩, ⟨11, .guard⟩], some (11, false)⟩ rfl (fun K hK => ?_)
      go_simp
      refine (same13_any sp3 np sc3 nc pf.s next _ HP3.out (HSNF.out.at_.bel HU3.out) (by have := right_files HRF.out; omega) (by have := HSNF.out.len; omega) (by have := HSNF.out.len; omega)).mono ?_
      rintro e u4 ⟨rfl, hb4⟩
      rw [HSNF.out.len.2.2, eqM_yes hnx.out]
      have HU4 := Lib.hid (HU3.out.trans hb4)
      clear hb4
      dsimp only
      refine hK.out _ _ (HRS.out _ HU4.out) (fun hHeld => ?_);clear hK K;try simp only[Act.put,sqA,sqB,sqC]
      refine tq ⟨some 158, .pick (.tmp 153) (.const (.bool true)) (.tmp 157), 4, "law.go:252", #[⟨11, .data⟩, ⟨15, .data⟩, ⟨6, .guard⟩], some (6, true)⟩ ?_ 16 rfl ?_ ?_;rotate_left;·(intros;go_simp<;>with_reducible rfl)
      try simp only[Act.put,sqA,sqB,sqC]
      refine tq ⟨some 159, .pick (.tmp 148) (.tmp 158) (.const (.bool false)), 4, "law.go:252", #[⟨6, .data⟩, ⟨16, .data⟩], none⟩ ?_ 17 rfl ?_ ?_;rotate_left;·(intros;go_simp<;>with_reducible rfl)
      try simp only[Act.put,sqA,sqB,sqC]
      refine tq ⟨some 10, .assign (.tmp 159), 4, "law.go:252", #[⟨17, .data⟩, ⟨15, .chain⟩, ⟨0, .phase⟩, ⟨1, .phase⟩, ⟨2, .phase⟩, ⟨3, .phase⟩, ⟨4, .phase⟩, ⟨5, .phase⟩, ⟨6, .phase⟩, ⟨7, .phase⟩, ⟨8, .phase⟩, ⟨9, .phase⟩, ⟨10, .phase⟩, ⟨11, .phase⟩, ⟨12, .phase⟩, ⟨13, .phase⟩, ⟨14, .phase⟩, ⟨15, .phase⟩, ⟨16, .phase⟩, ⟨17, .phase⟩], none⟩ ?_ 18 rfl ?_ ?_;rotate_left;·(intros;go_simp<;>with_reducible rfl)
      try simp only[Act.put,sqA,sqB,sqC]
      refine wpAnyH_done (by kernel_rfl) ?_ _
      clear hHeld hnx
      go_wp2_with (fail)
      go_ret
      exact ⟨rfl, HTF.out.low.trans HU4.out⟩
   ·obtain ⟨pf, hpf⟩ : ∃ pf : SD, pf = ⟨(jopen manP M3).2.2, lastM initM (jopen manP M3).2.1, 0⟩ := ⟨_, rfl⟩
    have HOR := Lib.hid (show pf.s = was ∨ pf.s = next by rw [hpf]; exact HEND.out.1 h0)
    have HRF := Lib.hid (show rightM pf.s = true by rw [hpf]; exact last_right _ (by decide))
    have HTF := Lib.hid (show TM w zf b r mb1 jb1 rb qb pf q0 (ws :: ms :: R0) by rw [hpf]; exact ht3)
    have HSWF := Lib.hid (HSW2.out.kr (R' := R0) (fun k hk => hk3 k (by simp only [List.mem_cons]; exact Or.inr (Or.inr hk))) HZ2.out.low ht3.low HWN.out.1 (fun _ h => h))
    have HSNF := Lib.hid (HSN2.out.kr (R' := R0) (fun k hk => hk3 k (by simp only [List.mem_cons]; exact Or.inr (Or.inr hk))) HZ2.out.low ht3.low HWN.out.2 (fun _ h => h))
    clear ht3 hk3 s0 hpf h0 HEND
    have HRS := Lib.hid (show ∀ z', Bel zf z' → (z'.cell? ⟨Wb, 0, none⟩ = some (.slice wp was.files.length wc) ∧ z'.cell? ⟨Wb, 1, none⟩ = some (.int .i64 was.next) ∧ z'.cell? ⟨Wb, 2, none⟩ = some (.int .i64 was.seq) ∧ z'.cell? ⟨Wb, 3, none⟩ = some (.int .i64 was.log) ∧ z'.cell? ⟨Wb, 4, none⟩ = some (.string was.mt)) ∧ z'.cell? ⟨Nb, 0, none⟩ = some (.slice np next.files.length nc) ∧ z'.cell? ⟨Nb, 1, none⟩ = some (.int .i64 next.next) ∧ z'.cell? ⟨Nb, 2, none⟩ = some (.int .i64 next.seq) ∧ z'.cell? ⟨Nb, 3, none⟩ = some (.int .i64 next.log) ∧ z'.cell? ⟨Nb, 4, none⟩ = some (.string next.mt) from fun z' hz => by
     obtain ⟨⟨b0, b1, b2, b3, b4⟩, -⟩ := box5 (box_bel HSWF.out.box hz)
     obtain ⟨⟨d0, d1, d2, d3, d4⟩, -⟩ := box5 (box_bel HSNF.out.box hz)
     exact ⟨⟨b0, b1, b2, b3, b4⟩, d0, d1, d2, d3, d4⟩)
    go_wp2_with (fail)
    refine wp_region_held_drew (S := fun z => (z.cell? ⟨Wb, 0, none⟩ = some (.slice wp was.files.length wc) ∧ z.cell? ⟨Wb, 1, none⟩ = some (.int .i64 was.next) ∧ z.cell? ⟨Wb, 2, none⟩ = some (.int .i64 was.seq) ∧ z.cell? ⟨Wb, 3, none⟩ = some (.int .i64 was.log) ∧ z.cell? ⟨Wb, 4, none⟩ = some (.string was.mt)) ∧ z.cell? ⟨Nb, 0, none⟩ = some (.slice np next.files.length nc) ∧ z.cell? ⟨Nb, 1, none⟩ = some (.int .i64 next.next) ∧ z.cell? ⟨Nb, 2, none⟩ = some (.int .i64 next.seq) ∧ z.cell? ⟨Nb, 3, none⟩ = some (.int .i64 next.log) ∧ z.cell? ⟨Nb, 4, none⟩ = some (.string next.mt)) (by kernel_rfl) (HRS.out _ (Bel.refl _).drew) (fun hHeld => ?_)
    refine tq ⟨some 142, .move (.tmp 23), 56, "law.go:252", #[], none⟩ ?_ 0 rfl ?_ ?_;rotate_left;·(intros;go_simp<;>with_reducible rfl)
    try simp only[Act.put,sqA,sqB,sqC]
    refine tq ⟨some 143, .binOp .neq 56 (.tmp 142) (.const (.pointer none)) 56, 4, "law.go:252", #[⟨0, .data⟩], none⟩ ?_ 1 rfl ?_ ?_;rotate_left;·(intros;go_simp<;>with_reducible rfl)
    try simp only[Act.put,sqA,sqB,sqC]
    refine tq ⟨some 144, .move (.tmp 143), 4, "law.go:252", #[⟨1, .data⟩], none⟩ ?_ 2 rfl ?_ ?_;rotate_left;·(intros;go_simp<;>with_reducible rfl)
    try simp only[Act.put,sqA,sqB,sqC]
    refine tq ⟨some 145, .move (.tmp 24), 31, "law.go:252", #[⟨2, .guard⟩], some (2, true)⟩ ?_ 3 rfl ?_ ?_;rotate_left;·(intros;go_simp<;>with_reducible rfl)
    try simp only[Act.put,sqA,sqB,sqC]
    refine tq ⟨some 146, .binOp .eql 31 (.tmp 145) (.const (.int .i64 0)) 31, 4, "law.go:252", #[⟨3, .data⟩, ⟨2, .guard⟩], some (2, true)⟩ ?_ 4 rfl ?_ ?_;rotate_left;·(intros;go_simp<;>with_reducible rfl)
    try simp only[Act.put,sqA,sqB,sqC]
    refine tq ⟨some 147, .pick (.tmp 144) (.tmp 146) (.const (.bool false)), 4, "law.go:252", #[⟨2, .data⟩, ⟨4, .data⟩], none⟩ ?_ 5 rfl ?_ ?_;rotate_left;·(intros;go_simp<;>with_reducible rfl)
    try simp only[Act.put,sqA,sqB,sqC]
    refine tq ⟨some 148, .move (.tmp 147), 4, "law.go:252", #[⟨5, .data⟩, ⟨2, .chain⟩], none⟩ ?_ 6 rfl ?_ ?_;rotate_left;·(intros;go_simp<;>with_reducible rfl)
    try simp only[Act.put,sqA,sqB,sqC]
    refine tq ⟨some 149, .move (.tmp 23), 56, "law.go:252", #[⟨6, .guard⟩], some (6, true)⟩ ?_ 7 rfl ?_ ?_;rotate_left;·(intros;go_simp<;>with_reducible rfl)
    try simp only[Act.put,sqA,sqB,sqC]
    refine tq ⟨some 151, .load 24 (.tmp 16), 24, "law.go:252", #[⟨6, .guard⟩], some (6, true)⟩ ?_ 9 rfl ?_ ?_;rotate_left;·(intros;go_simp<;>with_reducible rfl)
    try simp only[Act.put,sqA,sqB,sqC]
    refine wpAnyH_ready (rs := [8]) (by kernel_rfl) (by simp) ?_
    refine ar1 ⟨some 150, .call ⟨.value (.func 23), #[.tmp 149], #[56]⟩, 24, "law.go:252", #[⟨7, .data⟩, ⟨6, .chain⟩, ⟨6, .guard⟩], some (6, true)⟩ rfl (fun K hK => ?_)
    go_simp
    refine (tm_state HTF.out (Bel.refl _).drew (right_files HRF.out)).mono ?_
    rintro e u1 ⟨sp1, sc1, rfl, ho1, hb1⟩
    have HU1 := Lib.hid (show Bel zf u1 from (Bel.refl zf).drew.trans hb1)
    have HP1 := Lib.hid (pls_ownP ho1)
    clear ho1 hb1
    dsimp only
    refine hK.out _ _ (HRS.out _ HU1.out) (fun hHeld => ?_);clear hK K;try simp only[Act.put,sqA,sqB,sqC]
    refine wpAnyH_ready (rs := [10]) (by kernel_rfl) (by simp) ?_
    refine ar1 ⟨some 152, .call ⟨.value (.func 18), #[.tmp 150, .tmp 151], #[24, 24]⟩, 4, "law.go:252", #[⟨8, .data⟩, ⟨9, .data⟩, ⟨8, .chain⟩, ⟨6, .guard⟩], some (6, true)⟩ rfl (fun K hK => ?_)
    go_simp
    refine (same13_any sp1 wp sc1 wc pf.s was _ HP1.out (HSWF.out.at_.bel HU1.out) (by have := right_files HRF.out; omega) (by have := HSWF.out.len; omega) (by have := HSWF.out.len; omega)).mono ?_
    rintro e u2 ⟨rfl, hb2⟩
    have HU2 := Lib.hid (HU1.out.trans hb2)
    clear hb2
    dsimp only
    refine hK.out _ _ (HRS.out _ HU2.out) (fun hHeld => ?_);clear hK K
    by_cases hws : pf.s = was
    ·rw [HSWF.out.len.2.2, eqM_yes hws]
     clear hws
     try simp only[Act.put,sqA,sqB,sqC]
     refine tq ⟨some 153, .move (.tmp 152), 4, "law.go:252", #[⟨10, .data⟩, ⟨10, .chain⟩, ⟨6, .guard⟩], some (6, true)⟩ ?_ 11 rfl ?_ ?_;rotate_left;·(intros;go_simp<;>with_reducible rfl)
     try simp only[Act.put,sqA,sqB,sqC]
     refine wpAnyH_take (i := 12) (oi := ⟨some 154, .move (.tmp 23), 56, "law.go:252", #[⟨11, .guard⟩], some (11, false)⟩) (v := undef) rfl (by kernel_rfl) (by kernel_rfl) (by kernel_rfl) (fun _ _ _ h => h) (Or.inr ⟨by rfl, rfl⟩) (by assumption) ?_
     try simp only[Act.put,sqA,sqB,sqC]
     refine wpAnyH_take (i := 13) (oi := ⟨some 155, .call ⟨.value (.func 23), #[.tmp 154], #[56]⟩, 24, "law.go:252", #[⟨12, .data⟩, ⟨11, .chain⟩, ⟨11, .guard⟩], some (11, false)⟩) (v := undef) rfl (by kernel_rfl) (by kernel_rfl) (by kernel_rfl) (fun _ _ _ h => h) (Or.inr ⟨by rfl, rfl⟩) (by assumption) ?_
     try simp only[Act.put,sqA,sqB,sqC]
     refine wpAnyH_take (i := 14) (oi := ⟨some 156, .load 24 (.tmp 17), 24, "law.go:252", #[⟨11, .guard⟩], some (11, false)⟩) (v := undef) rfl (by kernel_rfl) (by kernel_rfl) (by kernel_rfl) (fun _ _ _ h => h) (Or.inr ⟨by rfl, rfl⟩) (by assumption) ?_
     try simp only[Act.put,sqA,sqB,sqC]
     refine wpAnyH_take (i := 15) (oi := ⟨some 157, .call ⟨.value (.func 18), #[.tmp 155, .tmp 156], #[24, 24]⟩, 4, "law.go:252", #[⟨13, .data⟩, ⟨14, .data⟩, ⟨13, .chain⟩, ⟨11, .guard⟩], some (11, false)⟩) (v := undef) rfl (by kernel_rfl) (by kernel_rfl) (by kernel_rfl) (fun _ _ _ h => h) (Or.inr ⟨by rfl, rfl⟩) (by assumption) ?_
     try simp only[Act.put,sqA,sqB,sqC]
     refine tq ⟨some 158, .pick (.tmp 153) (.const (.bool true)) (.tmp 157), 4, "law.go:252", #[⟨11, .data⟩, ⟨15, .data⟩, ⟨6, .guard⟩], some (6, true)⟩ ?_ 16 rfl ?_ ?_;rotate_left;·(intros;go_simp<;>with_reducible rfl)
     try simp only[Act.put,sqA,sqB,sqC]
     refine tq ⟨some 159, .pick (.tmp 148) (.tmp 158) (.const (.bool false)), 4, "law.go:252", #[⟨6, .data⟩, ⟨16, .data⟩], none⟩ ?_ 17 rfl ?_ ?_;rotate_left;·(intros;go_simp<;>with_reducible rfl)
     try simp only[Act.put,sqA,sqB,sqC]
     refine tq ⟨some 10, .assign (.tmp 159), 4, "law.go:252", #[⟨17, .data⟩, ⟨15, .chain⟩, ⟨0, .phase⟩, ⟨1, .phase⟩, ⟨2, .phase⟩, ⟨3, .phase⟩, ⟨4, .phase⟩, ⟨5, .phase⟩, ⟨6, .phase⟩, ⟨7, .phase⟩, ⟨8, .phase⟩, ⟨9, .phase⟩, ⟨10, .phase⟩, ⟨11, .phase⟩, ⟨12, .phase⟩, ⟨13, .phase⟩, ⟨14, .phase⟩, ⟨15, .phase⟩, ⟨16, .phase⟩, ⟨17, .phase⟩], none⟩ ?_ 18 rfl ?_ ?_;rotate_left;·(intros;go_simp<;>with_reducible rfl)
     try simp only[Act.put,sqA,sqB,sqC]
     refine wpAnyH_done (by kernel_rfl) ?_ _
     clear hHeld
     go_wp2_with (fail)
     go_ret
     exact ⟨rfl, HTF.out.low.trans HU2.out⟩
    ·rw [eqM_no hws, Bool.and_false]
     have hnx := Lib.hid (show pf.s = next from HOR.out.resolve_left hws)
     clear hws
     try simp only[Act.put,sqA,sqB,sqC]
     refine tq ⟨some 153, .move (.tmp 152), 4, "law.go:252", #[⟨10, .data⟩, ⟨10, .chain⟩, ⟨6, .guard⟩], some (6, true)⟩ ?_ 11 rfl ?_ ?_;rotate_left;·(intros;go_simp<;>with_reducible rfl)
     try simp only[Act.put,sqA,sqB,sqC]
     refine tq ⟨some 154, .move (.tmp 23), 56, "law.go:252", #[⟨11, .guard⟩], some (11, false)⟩ ?_ 12 rfl ?_ ?_;rotate_left;·(intros;go_simp<;>with_reducible rfl)
     try simp only[Act.put,sqA,sqB,sqC]
     refine tq ⟨some 156, .load 24 (.tmp 17), 24, "law.go:252", #[⟨11, .guard⟩], some (11, false)⟩ ?_ 14 rfl ?_ ?_;rotate_left;·(intros;go_simp<;>with_reducible rfl)
     try simp only[Act.put,sqA,sqB,sqC]
     refine wpAnyH_ready (rs := [13]) (by kernel_rfl) (by simp) ?_
     refine ar1 ⟨some 155, .call ⟨.value (.func 23), #[.tmp 154], #[56]⟩, 24, "law.go:252", #[⟨12, .data⟩, ⟨11, .chain⟩, ⟨11, .guard⟩], some (11, false)⟩ rfl (fun K hK => ?_)
     go_simp
     refine (tm_state HTF.out HU2.out (right_files HRF.out)).mono ?_
     rintro e u3 ⟨sp3, sc3, rfl, ho3, hb3⟩
     have HU3 := Lib.hid (show Bel zf u3 from HU2.out.trans hb3)
     have HP3 := Lib.hid (pls_ownP ho3)
     clear ho3 hb3
     dsimp only
     refine hK.out _ _ (HRS.out _ HU3.out) (fun hHeld => ?_);clear hK K;try simp only[Act.put,sqA,sqB,sqC]
     refine wpAnyH_ready (rs := [15]) (by kernel_rfl) (by simp) ?_
     refine ar1 ⟨some 157, .call ⟨.value (.func 18), #[.tmp 155, .tmp 156], #[24, 24]⟩, 4, "law.go:252", #[⟨13, .data⟩, ⟨14, .data⟩, ⟨13, .chain⟩, ⟨11, .guard⟩], some (11, false)⟩ rfl (fun K hK => ?_)
     go_simp
     refine (same13_any sp3 np sc3 nc pf.s next _ HP3.out (HSNF.out.at_.bel HU3.out) (by have := right_files HRF.out; omega) (by have := HSNF.out.len; omega) (by have := HSNF.out.len; omega)).mono ?_
     rintro e u4 ⟨rfl, hb4⟩
     rw [HSNF.out.len.2.2, eqM_yes hnx.out]
     have HU4 := Lib.hid (HU3.out.trans hb4)
     clear hb4
     dsimp only
     refine hK.out _ _ (HRS.out _ HU4.out) (fun hHeld => ?_);clear hK K;try simp only[Act.put,sqA,sqB,sqC]
     refine tq ⟨some 158, .pick (.tmp 153) (.const (.bool true)) (.tmp 157), 4, "law.go:252", #[⟨11, .data⟩, ⟨15, .data⟩, ⟨6, .guard⟩], some (6, true)⟩ ?_ 16 rfl ?_ ?_;rotate_left;·(intros;go_simp<;>with_reducible rfl)
     try simp only[Act.put,sqA,sqB,sqC]
     refine tq ⟨some 159, .pick (.tmp 148) (.tmp 158) (.const (.bool false)), 4, "law.go:252", #[⟨6, .data⟩, ⟨16, .data⟩], none⟩ ?_ 17 rfl ?_ ?_;rotate_left;·(intros;go_simp<;>with_reducible rfl)
     try simp only[Act.put,sqA,sqB,sqC]
     refine tq ⟨some 10, .assign (.tmp 159), 4, "law.go:252", #[⟨17, .data⟩, ⟨15, .chain⟩, ⟨0, .phase⟩, ⟨1, .phase⟩, ⟨2, .phase⟩, ⟨3, .phase⟩, ⟨4, .phase⟩, ⟨5, .phase⟩, ⟨6, .phase⟩, ⟨7, .phase⟩, ⟨8, .phase⟩, ⟨9, .phase⟩, ⟨10, .phase⟩, ⟨11, .phase⟩, ⟨12, .phase⟩, ⟨13, .phase⟩, ⟨14, .phase⟩, ⟨15, .phase⟩, ⟨16, .phase⟩, ⟨17, .phase⟩], none⟩ ?_ 18 rfl ?_ ?_;rotate_left;·(intros;go_simp<;>with_reducible rfl)
     try simp only[Act.put,sqA,sqB,sqC]
     refine wpAnyH_done (by kernel_rfl) ?_ _
     clear hHeld hnx
     go_wp2_with (fail)
     go_ret
     exact ⟨rfl, HTF.out.low.trans HU4.out⟩
end Go.Proofs.YtfbiinnenlgkfaaGreatDoor
