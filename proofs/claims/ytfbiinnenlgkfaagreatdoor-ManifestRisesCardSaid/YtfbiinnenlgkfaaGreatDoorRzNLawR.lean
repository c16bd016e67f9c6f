/- ManifestRises. -/
import Derived.Test.YtfbiinnenlgkfaaGreatDoorR32
import Derived.Test.YtfbiinnenlgkfaaGreatDoorR31
import Derived.Deep.RegionHeld
import Derived.Test.YtfbiinnenlgkfaaGreatDoorR27
import Derived.Test.YtfbiinnenlgkfaaGreatDoorR2
set_option linter.unusedSimpArgs false
set_option linter.unusedVariables false
set_option maxRecDepth 100000
namespace Go.Proofs.YtfbiinnenlgkfaaGreatDoor
open Go.RowKit Go.Deep Go.Maps

def RsRel13 (w : World) (ws ms b r mb jb rb qb : Nat) (q0 : SD) (n : Nat) (i : Value) (x : World) : Prop :=
 ∃ (k : Nat) (p : SD), i = .int .i64 k ∧ k ≤ n ∧ LM w x ws ms b r mb jb rb qb p q0 [] ∧ Rise k p
theorem hold_begin (room : Int) : HoldS manP (mbM room).L (fun _ => []) := ⟨by show segsL manP [⟨mf1, [], 0⟩] ≠ []; rw [msegs1]; simp, fun n hn => by
 rw [show segsL manP (mbM room).L = [1] from msegs1 _ _, List.mem_singleton] at hn
 subst hn
 rw [mfile1]; rfl, fun n l hl => by cases hl⟩
theorem Rise.begin (room : Int) (h0 : 0 ≤ room) (h : room ≤ 1000000) : Rise 0 ⟨mbM room, initM, 0⟩ := ⟨Inv13.begin room h, by have := jopen_ok manP (new_ok room ⟨h0, by omega⟩); rw [mb_open room h0] at this; exact this, ⟨rfl, rfl⟩, ⟨_, hold_begin room⟩, Nat.zero_le _, by show 1 ≤ 1 + (0 + 7) / 8; omega⟩
set_option maxHeartbeats 16000000 in
theorem law_rises13_any (w : World) (p : Option Addr) (cap : Nat) (L : List NV) (hstd : Std w) (h : NActs w p L) (hL : L.length ≤ maxLen) :
  Calls Tryz.prog 7 #[.slice p L.length cap] w fun e w' => e = .returned (.bool true) ∧ Bel w w' := by
 have HS := Lib.hid hstd
 have H := Lib.hid h
 have HL := Lib.hid hL
 clear hstd h hL
 cases hsm : nsmallB L with
 | false =>
  have HSM := Lib.hid hsm; clear hsm
  go_enter Tryz.func7, Tryz.ntmps7
  go_wp2_with (fail)
  refine (shown13_any w HS.out).mono ?_
  rintro e w1 ⟨rfl, hb1⟩
  have HB1 := Lib.hid hb1; clear hb1
  go_wp2_with (fail)
  refine (nsmall_any w1 p cap L (H.out.bel HB1.out) HL.out).mono ?_
  rintro e w2 ⟨rfl, hb2⟩
  rw [HSM.out]
  have HB2 := Lib.hid (HB1.out.trans hb2); clear hb2
  go_wp2_with (fail)
  go_ret
  exact ⟨rfl, HB2.out⟩
 | true =>
 obtain ⟨hl60, hall⟩ := nsmall_get hsm
 have HALL := Lib.hid hall
 have HSM := Lib.hid hsm
 clear hsm hall
 go_enter Tryz.func7, Tryz.ntmps7
 go_wp2_with (fail)
 refine (shown13_any w HS.out).mono ?_
 rintro e w1 ⟨rfl, hb1⟩
 have HB1 := Lib.hid hb1; clear hb1
 go_wp2_with (fail)
 refine (nsmall_any w1 p cap L (H.out.bel HB1.out) HL.out).mono ?_
 rintro e w2 ⟨rfl, hb2⟩
 rw [HSM.out]
 have HB2 := Lib.hid (HB1.out.trans hb2); clear hb2
 go_wp2_with (fail)
 refine (begin13_any w _ HS.out HB2.out 1000000 ⟨by omega, by omega⟩).mono ?_
 rintro e w3 ⟨ws, ms, b, r, mb, jb, rb, qb, rfl, h3⟩
 obtain ⟨q0, hq0⟩ : ∃ q0 : SD, q0 = ⟨mbM 1000000, initM, 0⟩ := ⟨_, rfl⟩
 have HR0 := Lib.hid (show Rise 0 q0 by rw [hq0]; exact Rise.begin _ (by omega) (by omega))
 rw [← hq0] at h3
 have H3 := Lib.hid h3
 clear h3 hq0
 go_wp2_with (fail)
 go_loopw [8] (fun i x => RsRel13 w ws ms b r mb jb rb qb q0 L.length i x) (fun i _ => L.length - (intOf i).toNat)
 case atStart => exact ⟨0, q0, rfl, Nat.zero_le _, H3.out, HR0.out⟩
 case round =>
  clear H3 HR0 HB2 HB1
  obtain ⟨k, pd, rfl, hk, hx, hrise⟩ := hrel
  have HX := Lib.hid hx
  have HRI := Lib.hid hrise
  have HI := Lib.hid hrise.inv
  clear hx hrise
  by_cases hlt : k < L.length
  ·have hii : (k : Int) < (L.length : Int) := by omega
   obtain ⟨ad, B, O, sp, rfl, hp, hcs, hok⟩ := nact_at H.out HX.out.low hlt
   have HACT := Lib.hid (fun x' (hx' : Bel w x') => nact_at H.out hx' hlt)
   have HSG := Lib.hid (HALL.out _ (List.getElem_mem hlt))
   obtain ⟨a, ha⟩ : ∃ a, a = L[k] := ⟨_, rfl⟩
   rw [← ha] at hok HSG HACT
   have HOK := Lib.hid hok
   have HACT := Lib.hid (show ∀ z', Bel w z' → (z'.cell? ⟨B, O, sp⟩ = some (.int .i64 a.op) ∧ z'.cell? ⟨B, O + 1, none⟩ = some (.int .i64 a.n) ∧ z'.cell? ⟨B, O + 2, none⟩ = some (.slice a.p a.st.files.length a.c) ∧ z'.cell? ⟨B, O + 3, none⟩ = some (.int .i64 a.st.next) ∧ z'.cell? ⟨B, O + 4, none⟩ = some (.int .i64 a.st.seq) ∧ z'.cell? ⟨B, O + 5, none⟩ = some (.int .i64 a.st.log) ∧ z'.cell? ⟨B, O + 6, none⟩ = some (.string a.st.mt) ∧ z'.cell? ⟨B, O + 7, none⟩ = some (.slice a.left.p a.left.L.length a.left.cap) ∧ z'.cell? ⟨B, O + 8, none⟩ = some (.slice a.spoil.p a.spoil.L.length a.spoil.cap)) from fun z' hz => by
    obtain ⟨a', B', O', sp', ha', hp', hcs', -⟩ := HACT.out z' hz
    obtain rfl : ad = a' := by simpa using ha'
    rw [hp, Addr.mk.injEq] at hp'
    obtain ⟨rfl, rfl, rfl⟩ := hp'
    exact hcs')
   clear ha hok hcs
   obtain ⟨-, s1, -, -⟩ := HX.out.cells
   go_wp2_with (fail)
   refine (tm_state HX.out.tm (by first | exact Bel.refl _ | exact (Bel.refl _).drew) (right_files HI.out.right)).mono ?_
   rintro e y1 ⟨wp, wc, rfl, ho1, hb1⟩
   have HO1 := Lib.hid ho1
   have HBY1 := Lib.hid (show Bel wr y1 from by first | exact hb1 | exact (Bel.refl _).drew.trans hb1)
   clear ho1 hb1 s1
   go_wp2_with (fail)
   obtain ⟨was, hwas⟩ : ∃ was, was = pd.s := ⟨_, rfl⟩
   obtain ⟨W0, hw0⟩ : ∃ W0, W0 = y1.alloc (.cells #[.slice wp was.files.length wc, .int .i64 was.next, .int .i64 was.seq, .int .i64 was.log, .string was.mt] 24) := ⟨_, rfl⟩
   obtain ⟨Wb, hwb⟩ : ∃ Wb, Wb = y1.heap.size := ⟨_, rfl⟩
   have HWAS := Lib.hid hwas
   have HWR := Lib.hid (show (0 ≤ was.next ∧ was.next ≤ 1099511627776) ∧ (0 ≤ was.seq ∧ was.seq ≤ 1099511627776) ∧ (0 ≤ was.log ∧ was.log ≤ 1099511627776) by rw [hwas]; exact right_was HI.out.right)
   have HAR := Lib.hid (show asB was = true by rw [hwas]; exact as_right HI.out.right)
   have HWL := Lib.hid (show was.files.length ≤ 100000 ∧ was.mt.size ≤ 30000 by rw [hwas]; exact ⟨right_files HI.out.right, (right_parts HI.out.right).2.2.2.2.2⟩)
   have HB0 := Lib.hid (show Bel wr W0 by rw [hw0]; exact HBY1.out.alloc _)
   have HWB := Lib.hid (show W0.heap[Wb]? = some (.cells #[.slice wp was.files.length wc, .int .i64 was.next, .int .i64 was.seq, .int .i64 was.log, .string was.mt] 24 (0, 0)) by rw [hw0, hwb]; exact heap_alloc_new y1 _)
   have HWO := Lib.hid (show OwnG plElP wr.heap.size W0 (.slice wp was.files.length wc) was.files by
    rw [hw0, hwas]; exact OwnG.alloc (by first | exact HO1.out | exact HO1.out) _)
   have HWP := Lib.hid (pls_ownP HWO.out)
   have HWBZ := Lib.hid (show wr.heap.size ≤ Wb ∧ Wb < W0.heap.size by have := HBY1.out.size; rw [hw0, hwb]; simp; exact this)
   have HL0 := Lib.hid (show LM w W0 ws ms b r mb jb rb qb pd q0 (news wr W0 ++ []) from HX.out.grow HB0.out (fun k hk => mem_news.1 hk))
   rw [← hwas, ← hw0, ← hwb]
   clear hw0 hwb hwas HO1 HBY1
   obtain ⟨⟨b0, b1, b2, b3, b4⟩, -⟩ := box5 HWB.out
   go_wp2_with (fail)
   refine (as13_any wp wc was _ (HWP.out.bel (by first | exact Bel.refl _ | exact (Bel.refl _).drew)) (by have := HWL.out; omega) (by have := HWL.out; omega)).mono ?_
   rintro e y2 ⟨xp, xc, rfl, hxo, hxb⟩
   rw [as_yes HAR.out] at hxo ⊢
   have HXO := Lib.hid hxo
   have HXB := Lib.hid (show Bel W0 y2 from by first | exact hxb | exact (Bel.refl _).drew.trans hxb)
   clear hxo hxb b0 b1 b2 b3 b4
   go_wp2_with (fail)
   obtain ⟨x2, hx2⟩ : ∃ x2, x2 = y2.alloc (.cells #[.slice xp was.files.length xc, .int .i64 was.next, .int .i64 was.seq, .int .i64 was.log, .string was.mt] 28) := ⟨_, rfl⟩
   obtain ⟨Xb, hxbq⟩ : ∃ Xb, Xb = y2.heap.size := ⟨_, rfl⟩
   have HB2 := Lib.hid (show Bel W0 x2 by rw [hx2]; exact HXB.out.alloc _)
   have HXX := Lib.hid (show x2.heap[Xb]? = some (.cells #[.slice xp was.files.length xc, .int .i64 was.next, .int .i64 was.seq, .int .i64 was.log, .string was.mt] 28 (0, 0)) by rw [hx2, hxbq]; exact heap_alloc_new y2 _)
   rw [← hx2, ← hxbq]
   clear hx2 hxbq HXO HXB
   obtain ⟨⟨b0, b1, b2, b3, b4⟩, -⟩ := box5 HXX.out
   have HRS := Lib.hid (show ∀ z', Bel x2 z' → (z'.cell? ⟨B, O, sp⟩ = some (.int .i64 a.op) ∧ z'.cell? ⟨B, O + 1, none⟩ = some (.int .i64 a.n) ∧ z'.cell? ⟨B, O + 2, none⟩ = some (.slice a.p a.st.files.length a.c) ∧ z'.cell? ⟨B, O + 3, none⟩ = some (.int .i64 a.st.next) ∧ z'.cell? ⟨B, O + 4, none⟩ = some (.int .i64 a.st.seq) ∧ z'.cell? ⟨B, O + 5, none⟩ = some (.int .i64 a.st.log) ∧ z'.cell? ⟨B, O + 6, none⟩ = some (.string a.st.mt) ∧ z'.cell? ⟨B, O + 7, none⟩ = some (.slice a.left.p a.left.L.length a.left.cap) ∧ z'.cell? ⟨B, O + 8, none⟩ = some (.slice a.spoil.p a.spoil.L.length a.spoil.cap)) ∧ z'.cell? ⟨Xb, 0, none⟩ = some (.slice xp was.files.length xc) ∧ z'.cell? ⟨Xb, 1, none⟩ = some (.int .i64 was.next) ∧ z'.cell? ⟨Xb, 2, none⟩ = some (.int .i64 was.seq) ∧ z'.cell? ⟨Xb, 3, none⟩ = some (.int .i64 was.log) ∧ z'.cell? ⟨Xb, 4, none⟩ = some (.string was.mt) from fun z' hz => by
    obtain ⟨⟨b0, b1, b2, b3, b4⟩, -⟩ := box5 (box_bel HXX.out hz)
    exact ⟨HACT.out z' (HL0.out.low.trans (HB2.out.trans hz)), b0, b1, b2, b3, b4⟩)
   clear b0 b1 b2 b3 b4
   obtain ⟨st, hst⟩ : ∃ st, st = stateM a was := ⟨_, rfl⟩
   have HSTQ := Lib.hid hst
   have HST := Lib.hid (show ∀ z', Bel x2 z' → Calls Tryz.prog 29 #[.agg #[.int .i64 a.op, .int .i64 a.n, .slice a.p a.st.files.length a.c, .int .i64 a.st.next, .int .i64 a.st.seq, .int .i64 a.st.log, .string a.st.mt, .slice a.left.p a.left.L.length a.left.cap, .slice a.spoil.p a.spoil.L.length a.spoil.cap],
     .agg #[.slice xp was.files.length xc, .int .i64 was.next, .int .i64 was.seq, .int .i64 was.log, .string was.mt]] z' fun e y => ∃ pp pc, e = .returned (.agg #[.slice pp st.files.length pc, .int .i64 st.next, .int .i64 st.seq, .int .i64 st.log, .string st.mt]) ∧ PlsAt y pp st.files ∧ (pp = a.p ∨ ∀ q, pp = some q → z'.heap.size ≤ q.block) ∧ Bel z' y from fun z' hz => by
    rw [hst]
    exact state13_any a was xp xc z' (HOK.out.bel (HL0.out.low.trans (HB2.out.trans hz))) HWR.out)
   have HSS := Lib.hid (show st.files.length ≤ 60 ∧ st.mt.size ≤ 1000 ∧ asB st = true by rw [hst]; exact state_small HSG.out was)
   have HAP := Lib.hid (show st.files ≠ [] → ∀ k, a.p = some k → k.block < w.heap.size from fun hne k hk => HOK.out.at_.lt (fun e => hne (by rw [hst]; exact state_nil e was)) k hk)
   clear hst
   refine wp_region_held_drew (S := fun z => (z.cell? ⟨B, O, sp⟩ = some (.int .i64 a.op) ∧ z.cell? ⟨B, O + 1, none⟩ = some (.int .i64 a.n) ∧ z.cell? ⟨B, O + 2, none⟩ = some (.slice a.p a.st.files.length a.c) ∧ z.cell? ⟨B, O + 3, none⟩ = some (.int .i64 a.st.next) ∧ z.cell? ⟨B, O + 4, none⟩ = some (.int .i64 a.st.seq) ∧ z.cell? ⟨B, O + 5, none⟩ = some (.int .i64 a.st.log) ∧ z.cell? ⟨B, O + 6, none⟩ = some (.string a.st.mt) ∧ z.cell? ⟨B, O + 7, none⟩ = some (.slice a.left.p a.left.L.length a.left.cap) ∧ z.cell? ⟨B, O + 8, none⟩ = some (.slice a.spoil.p a.spoil.L.length a.spoil.cap)) ∧ z.cell? ⟨Xb, 0, none⟩ = some (.slice xp was.files.length xc) ∧ z.cell? ⟨Xb, 1, none⟩ = some (.int .i64 was.next) ∧ z.cell? ⟨Xb, 2, none⟩ = some (.int .i64 was.seq) ∧ z.cell? ⟨Xb, 3, none⟩ = some (.int .i64 was.log) ∧ z.cell? ⟨Xb, 4, none⟩ = some (.string was.mt)) (by kernel_rfl) (HRS.out _ (Bel.refl _).drew) (fun hHeld => ?_)
   refine tq ⟨some 48, .move (.tmp 0), 44, "law.go:269", #[], none⟩ ?_ 0 rfl ?_ ?_;rotate_left;·(intros;go_simp<;>with_reducible rfl)
   try simp only[Act.put,sqA,sqB,sqC]
   refine tq ⟨some 49, .move (.tmp 8), 3, "law.go:269", #[], none⟩ ?_ 1 rfl ?_ ?_;rotate_left;·(intros;go_simp<;>with_reducible rfl)
   try simp only[Act.put,sqA,sqB,sqC]
   refine tq ⟨some 50, .indexAddr 44 (.tmp 48) (.tmp 49), 0, "law.go:269", #[⟨0, .data⟩, ⟨1, .data⟩], none⟩ ?_ 2 rfl ?_ ?_;rotate_left;·(intros;go_simp<;>with_reducible rfl)
   try simp only[Act.put,sqA,sqB,sqC]
   refine tq ⟨some 51, .load 54 (.tmp 50), 54, "law.go:269", #[⟨2, .data⟩], none⟩ ?_ 3 rfl ?_ ?_;rotate_left;·(intros;go_simp<;>with_reducible rfl)
   try simp only[Act.put,sqA,sqB,sqC]
   refine tq ⟨some 52, .load 28 (.tmp 10), 28, "law.go:269", #[], none⟩ ?_ 4 rfl ?_ ?_;rotate_left;·(intros;go_simp<;>with_reducible rfl)
   try simp only[Act.put,sqA,sqB,sqC]
   refine wpAnyH_ready (rs := [5, 6]) (by kernel_rfl) (by simp) ?_
   refine (AllReadyH.cons (o := ⟨some 53, .call ⟨.value (.func 29), #[.tmp 51, .tmp 52], #[54, 28]⟩, 24, "law.go:269", #[⟨3, .data⟩, ⟨4, .data⟩], none⟩) rfl (fun K hK => ?_) (AllReadyH.cons (o := ⟨some 12, .alloc 24, 0, "law.go:269", #[], none⟩) rfl (fun K hK => ?_) AllReadyH.nil))
   ·go_simp
    refine (HST.out _ (Bel.refl _).drew).mono ?_
    rintro e y ⟨pp, pc, rfl, hpl, hpb, hb⟩
    have HB := Lib.hid (show Bel x2 y from (Bel.refl x2).drew.trans hb)
    have HPL := Lib.hid hpl
    have HPB := Lib.hid (show pp = a.p ∨ ∀ q, pp = some q → x2.heap.size ≤ q.block from hpb)
    clear hpl hpb hb
    dsimp only
    refine hK.out _ _ (HRS.out _ HB.out) (fun hHeld => ?_);clear hK K;try simp only[Act.put,sqA,sqB,sqC]
    refine wpAnyH_ready (rs := [6]) (by kernel_rfl) (by simp) ?_
    refine ar1 ⟨some 12, .alloc 24, 0, "law.go:269", #[], none⟩ rfl (fun K hK => ?_)
    go_simp
    obtain ⟨yy, hyy⟩ : ∃ yy, yy = y.alloc (.cells #[.slice none 0 0, .int .i64 0, .int .i64 0, .int .i64 0, .string ⟨#[]⟩] 24) := ⟨_, rfl⟩
    obtain ⟨Sb, hsb⟩ : ∃ Sb, Sb = y.heap.size := ⟨_, rfl⟩
    have HBS := Lib.hid (show yy.heap[Sb]? = some (.cells #[.slice none 0 0, .int .i64 0, .int .i64 0, .int .i64 0, .string ⟨#[]⟩] 24 (0, 0)) by rw [hyy, hsb]; exact heap_alloc_new y _)
    have HYY := Lib.hid (show Bel x2 yy by rw [hyy]; exact HB.out.alloc _)
    have HSB := Lib.hid (show x2.heap.size ≤ Sb ∧ Sb < yy.heap.size by have := HB.out.size; rw [hyy, hsb]; simp; exact this)
    have HPLY := Lib.hid (show PlsAt yy pp st.files by rw [hyy]; exact HPL.out.bel ((Bel.refl y).alloc _))
    have HNE := Lib.hid (show st.files ≠ [] → ∀ k, pp = some k → k.block ≠ Sb ∧ ((x2.heap.size ≤ k.block ∧ k.block < yy.heap.size) ∨ k.block < w.heap.size) from fun hne k hk => by
     have h1 := HPL.out.lt hne k hk
     refine ⟨by omega, ?_⟩
     rcases HPB.out with e | h
     ·exact Or.inr (HAP.out hne k (by rw [← e]; exact hk))
     ·exact Or.inl ⟨h k hk, by rw [hyy]; simp; omega⟩)
    rw [← hyy, ← hsb]
    clear hyy hsb HB HPL HPB HAP
    refine hK.out _ _ (HRS.out _ HYY.out) (fun hHeld => ?_);clear hK K;try simp only[Act.put,sqA,sqB,sqC]
    refine wpAnyH_ready (rs := [7]) (by kernel_rfl) (by simp) ?_
    refine ar1 ⟨none, .store 24 (.tmp 12) (.tmp 53), 0, "law.go:269", #[⟨6, .data⟩, ⟨5, .data⟩, ⟨5, .chain⟩, ⟨0, .phase⟩, ⟨1, .phase⟩, ⟨2, .phase⟩, ⟨3, .phase⟩, ⟨4, .phase⟩, ⟨5, .phase⟩, ⟨6, .phase⟩], none⟩ rfl (fun K hK => ?_)
    obtain ⟨⟨b0, b1, b2, b3, b4⟩, g0, g1, g2, g3, g4⟩ := box5 HBS.out
    go_simp
    obtain ⟨x3, hx3⟩ : ∃ x3, x3 = (((((yy.setCell ⟨Sb, 0, none⟩ (.slice pp st.files.length pc)).setCell ⟨Sb, 1, none⟩ (.int .i64 st.next)).setCell ⟨Sb, 2, none⟩ (.int .i64 st.seq)).setCell ⟨Sb, 3, none⟩ (.int .i64 st.log)).setCell ⟨Sb, 4, none⟩ (.string st.mt)) := ⟨_, rfl⟩
    have HB3 := Lib.hid (show Bel x2 x3 by rw [hx3]; exact keep_bel1 keep5 HYY.out HSB.out.1)
    have HBS3 := Lib.hid (show x3.heap[Sb]? = some (.cells #[.slice pp st.files.length pc, .int .i64 st.next, .int .i64 st.seq, .int .i64 st.log, .string st.mt] 24 (0, 0)) by rw [hx3]; exact set5 HBS.out)
    have HPL3 := Lib.hid (show PlsAt x3 pp st.files by rw [hx3]; exact HPLY.out.keep keep5 (fun hne k hk => by rw [List.mem_singleton]; exact (HNE.out hne k hk).1))
    have HZ3 := Lib.hid (show x3.heap.size = yy.heap.size by rw [hx3]; simp)
    have HL3 := Lib.hid (show LM w x3 ws ms b r mb jb rb qb pd q0 (news W0 x3 ++ (news wr W0 ++ [])) from HL0.out.grow (HB2.out.trans HB3.out) (fun k hk => mem_news.1 hk))
    have HNE3 := Lib.hid (show st.files ≠ [] → ∀ k, pp = some k → k.block ∈ news W0 x3 ++ (news wr W0 ++ []) ∨ k.block < w.heap.size from fun hne k hk => by
     rcases (HNE.out hne k hk).2 with h | h
     ·refine Or.inl (List.mem_append_left _ (mem_news.2 ⟨?_, ?_⟩))
      ·have := HB2.out.size; omega
      ·have := HZ3.out; omega
     ·exact Or.inr h)
    have HSBN := Lib.hid (show Sb ∈ news W0 x3 ++ (news wr W0 ++ []) from List.mem_append_left _ (mem_news.2 ⟨by have := HB2.out.size; have := HSB.out; omega, by have := HSB.out; have := HZ3.out; omega⟩))
    rw [← hx3]
    clear hx3 b0 b1 b2 b3 b4 g0 g1 g2 g3 g4
    refine hK.out _ _ (HRS.out _ HB3.out) (fun hHeld => ?_);clear hK K;try simp only[Act.put,sqA,sqB,sqC]
    refine wpAnyH_done (by kernel_rfl) ?_ _
    clear hHeld HRS HPLY HNE HBS HYY HSB
    obtain ⟨⟨b0, b1, b2, b3, b4⟩, -⟩ := box5 HBS3.out
    obtain ⟨-, s1, -, -⟩ := HL3.out.cells
    go_wp2_with (fail)
    refine wp_region_held_drew (S := fun z => z.cell? ⟨ws, 1, none⟩ = some (.pointer (some ⟨mb, 0, none⟩)) ∧ z.cell? ⟨Sb, 0, none⟩ = some (.slice pp st.files.length pc) ∧ z.cell? ⟨Sb, 1, none⟩ = some (.int .i64 st.next) ∧ z.cell? ⟨Sb, 2, none⟩ = some (.int .i64 st.seq) ∧ z.cell? ⟨Sb, 3, none⟩ = some (.int .i64 st.log) ∧ z.cell? ⟨Sb, 4, none⟩ = some (.string st.mt)) (by kernel_rfl) ⟨s1, b0, b1, b2, b3, b4⟩ (fun hHeld => ?_)
    clear b0 b1 b2 b3 b4 s1
    refine tq ⟨some 54, .move (.tmp 5), 46, "law.go:270", #[], none⟩ ?_ 0 rfl ?_ ?_;rotate_left;·(intros;go_simp<;>with_reducible rfl)
    try simp only[Act.put,sqA,sqB,sqC]
    refine tq ⟨some 55, .nilCheck (.tmp 54), 0, "law.go:270", #[⟨0, .data⟩], none⟩ ?_ 1 rfl ?_ ?_;rotate_left;·(intros;go_simp<;>with_reducible rfl)
    try simp only[Act.put,sqA,sqB,sqC]
    refine tq ⟨some 56, .fieldAddr 58 (.tmp 55) 1, 0, "law.go:270", #[⟨1, .data⟩], none⟩ ?_ 2 rfl ?_ ?_;rotate_left;·(intros;go_simp<;>with_reducible rfl)
    try simp only[Act.put,sqA,sqB,sqC]
    refine tq ⟨some 57, .load 56 (.tmp 56), 56, "law.go:270", #[⟨2, .data⟩], none⟩ ?_ 3 rfl ?_ ?_;rotate_left;·(intros;go_simp<;>with_reducible rfl)
    try simp only[Act.put,sqA,sqB,sqC]
    refine tq ⟨some 58, .load 24 (.tmp 12), 24, "law.go:270", #[], none⟩ ?_ 4 rfl ?_ ?_;rotate_left;·(intros;go_simp<;>with_reducible rfl)
    try simp only[Act.put,sqA,sqB,sqC]
    refine wpAnyH_ready (rs := [5]) (by kernel_rfl) (by simp) ?_
    refine ar1 ⟨some 59, .call ⟨.value (.func 30), #[.tmp 57, .tmp 58], #[56, 24]⟩, 31, "law.go:270", #[⟨3, .data⟩, ⟨4, .data⟩], none⟩ rfl (fun K hK => ?_)
    go_simp
    refine (tm_set HL3.out.tm (Bel.refl _).drew pp pc st (HPL3.out.bel (Bel.refl _).drew) (fun hne k hk => (HNE3.out hne k hk).imp (fun h => by simp only [List.mem_cons]; exact Or.inr (Or.inr h)) id) (by have := HSS.out; omega) (by have := HSS.out; omega) HI.out.some_ (by have := HI.out.last; omega) (by have := HI.out.n; omega)).mono ?_
    rintro e y4 ⟨rfl, ht4, hk4⟩
    have HL4 := Lib.hid (HL3.out.to ht4 hk4)
    have HK4 := Lib.hid hk4
    have HBS4 := Lib.hid ((hk4 Sb (by simp only [List.mem_cons]; exact Or.inr (Or.inr HSBN.out))).trans HBS3.out)
    clear ht4 hk4
    obtain ⟨⟨b0, b1, b2, b3, b4⟩, -⟩ := box5 HBS4.out
    obtain ⟨-, s1, -, -⟩ := HL4.out.cells
    dsimp only
    refine hK.out _ _ ⟨s1, b0, b1, b2, b3, b4⟩ (fun hHeld => ?_)
    clear hK K b0 b1 b2 b3 b4 s1
    try simp only[Act.put,sqA,sqB,sqC]
    refine tq ⟨some 13, .assign (.tmp 59), 31, "law.go:270", #[⟨5, .data⟩, ⟨5, .chain⟩, ⟨0, .phase⟩, ⟨1, .phase⟩, ⟨2, .phase⟩, ⟨3, .phase⟩, ⟨4, .phase⟩, ⟨5, .phase⟩], none⟩ ?_ 6 rfl ?_ ?_;rotate_left;·(intros;go_simp<;>with_reducible rfl)
    try simp only[Act.put,sqA,sqB,sqC]
    refine wpAnyH_done (by kernel_rfl) ?_ _
    clear hHeld
    have HWB4 := Lib.hid ((HK4.out Wb (by simp [mem_news.2 HWBZ.out])).trans (box_bel HWB.out (HB2.out.trans HB3.out)))
    have HWP4 := Lib.hid ((HWP.out.bel (HB2.out.trans HB3.out)).kr (w := w) HK4.out HL3.out.low HL4.out.low (fun hne k hk => Or.inl (by
     have h1 := own_lt13 HWO.out k hk
     simp only [List.mem_cons, List.mem_append]
     exact Or.inr (Or.inr (Or.inr (Or.inl (mem_news.2 h1)))))))
    have HPL4 := Lib.hid (HPL3.out.kr (w := w) HK4.out HL3.out.low HL4.out.low (fun hne k hk => (HNE3.out hne k hk).imp (fun h => by simp only [List.mem_cons]; exact Or.inr (Or.inr h)) id))
    have HSET := Lib.hid (HRI.out.set (s := st) (by omega) HSS.out.2.1)
    obtain ⟨rs, hrs⟩ : ∃ rs, rs = mset pd.s pd.n st pd.M := ⟨_, rfl⟩
    rw [← hrs]
    have HSET := Lib.hid (show Rise (k + 1) ⟨rs.M, rs.s, rs.n⟩ ∧ (rs.e = 0 → rs.s = st) ∧ (rs.e ≠ 0 → rs.s = was) ∧ was.next ≤ rs.s.next ∧ was.seq ≤ rs.s.seq ∧ was.log ≤ rs.s.log by rw [hrs, HWAS.out]; exact HSET.out)
    rw [← hrs] at HL4
    clear hrs HK4 HL3 HB3
    obtain ⟨-, s1, -, -⟩ := HL4.out.cells
    go_wp2_with (fail)
    refine (tm_state HL4.out.tm (by first | exact Bel.refl _ | exact (Bel.refl _).drew) (right_files HSET.out.1.inv.right)).mono ?_
    rintro e y5 ⟨np, nc, rfl, ho5, hb5⟩
    have HB5 := Lib.hid (show Bel y4 y5 from by first | exact hb5 | exact (Bel.refl _).drew.trans hb5)
    have HNP := Lib.hid (pls_ownP ho5)
    clear ho5 hb5 s1
    obtain ⟨now, hnow⟩ : ∃ now, now = rs.s := ⟨_, rfl⟩
    obtain ⟨er, her⟩ : ∃ er, er = rs.e := ⟨_, rfl⟩
    rw [← hnow] at HNP ⊢
    rw [← her]
    have HNN := Lib.hid (show now.next ≥ was.next ∧ now.seq ≥ was.seq ∧ now.log ≥ was.log by rw [hnow]; exact HSET.out.2.2.2)
    have HNR := Lib.hid (show now.files.length ≤ 100000 by rw [hnow]; exact right_files HSET.out.1.inv.right)
    have HE0 := Lib.hid (show er = 0 → now = st by rw [hnow, her]; exact HSET.out.2.1)
    have HE1 := Lib.hid (show er ≠ 0 → now = was by rw [hnow, her]; exact HSET.out.2.2.1)
    have HRS1 := Lib.hid HSET.out.1
    clear hnow her HSET
    have hn1 : ¬ now.next < was.next := by have := HNN.out; omega
    have hn2 : ¬ now.seq < was.seq := by have := HNN.out; omega
    have hn3 : ¬ now.log < was.log := by have := HNN.out; omega
    obtain ⟨y6, hy6⟩ : ∃ y6, y6 = y5.alloc (.cells #[.slice np now.files.length nc, .int .i64 now.next, .int .i64 now.seq, .int .i64 now.log, .string now.mt] 24) := ⟨_, rfl⟩
    have HB6 := Lib.hid (show Bel y4 y6 by rw [hy6]; exact HB5.out.alloc _)
    obtain ⟨Nb, hnb⟩ : ∃ Nb, Nb = y5.heap.size := ⟨_, rfl⟩
    have HNB := Lib.hid (show y6.heap[Nb]? = some (.cells #[.slice np now.files.length nc, .int .i64 now.next, .int .i64 now.seq, .int .i64 now.log, .string now.mt] 24 (0, 0)) by rw [hy6, hnb]; exact heap_alloc_new y5 _)
    obtain ⟨⟨d0, d1, d2, d3, d4⟩, -⟩ := box5 HNB.out
    obtain ⟨⟨b0, b1, b2, b3, b4⟩, -⟩ := box5 (box_bel HBS4.out HB6.out)
    obtain ⟨⟨v0, v1, v2, v3, v4⟩, -⟩ := box5 (box_bel HWB4.out HB6.out)
    have HNP6 := Lib.hid (show PlsAt y6 np now.files by rw [hy6]; exact HNP.out.bel ((Bel.refl y5).alloc _))
    have HPL6 := Lib.hid (HPL4.out.bel HB6.out)
    have HWP6 := Lib.hid (HWP4.out.bel HB6.out)
    rw [hy6, hnb] at d0 d1 d2 d3 d4
    rw [hy6] at b0 b1 b2 b3 b4 v0 v1 v2 v3 v4
    by_cases he0 : er = 0
    ·obtain rfl := HE0.out he0
     subst he0
     go_wp2_with (fail)
     rw [← hy6, ← hnb]
     clear d0 d1 d2 d3 d4 b0 b1 b2 b3 b4 v0 v1 v2 v3 v4 hy6 hnb
     refine (same13_any np pp nc pc now now _ (HNP6.out.bel (by first | exact Bel.refl _ | exact (Bel.refl _).drew)) (HPL6.out.bel (by first | exact Bel.refl _ | exact (Bel.refl _).drew)) (by have := HNR.out; omega) (by have := HNR.out; omega) (by have := HSS.out; omega)).mono ?_
     rintro e y7 ⟨rfl, hb7⟩
     rw [HSS.out.2.2, eqM_yes rfl]
     have HB7 := Lib.hid (show Bel y4 y7 from HB6.out.trans (by first | exact hb7 | exact (Bel.refl _).drew.trans hb7))
     obtain ⟨⟨d0, d1, d2, d3, d4⟩, -⟩ := box5 (box_bel HNB.out (show Bel y6 y7 from by first | exact hb7 | exact (Bel.refl _).drew.trans hb7))
     obtain ⟨⟨v0, v1, v2, v3, v4⟩, -⟩ := box5 (box_bel HWB4.out HB7.out)
     clear hb7
     obtain ⟨s0, -, -, -⟩ := (HL4.out.bel HB7.out).cells
     go_wp2_with (fail)
     refine (tm_names HL4.out.tm (HB7.out.trans (by first | exact Bel.refl _ | exact (Bel.refl _).drew))).mono ?_
     rintro e y8 ⟨⟨nv, rfl, hnl⟩, hb8⟩
     obtain ⟨qp, qc, hnv⟩ := ownG_len hnl
     rw [List.length_map] at hnv
     subst hnv
     have HB8 := Lib.hid (show Bel y4 y8 from HB7.out.trans (by first | exact hb8 | exact (Bel.refl _).drew.trans hb8))
     have h9 : ¬ (9 : Int) < (rs.M.L.length : Int) := by have h1 := HRS1.out.len; have h2 := HRS1.out.inv.n; simp only at h1 h2; omega
     clear hnl hb8 s0 d0 d1 d2 d3 d4 v0 v1 v2 v3 v4
     go_wp2_with (fail)
     go_roundw
     case rel => exact ⟨k + 1, ⟨rs.M, rs.s, rs.n⟩, by go_num, by omega, (HL4.out.bel HB8.out).less (fun k hk => by cases hk), HRS1.out⟩
     case measure => simp [intOf]; omega
    ·obtain rfl := HE1.out he0
     have he1 : (er == 0) = false := by rw [beq_eq_false_iff_ne]; exact he0
     have he2 : (er != 0) = true := by rw [bne_iff_ne]; exact he0
     go_wp2_with (fail)
     rw [← hy6, ← hnb]
     clear d0 d1 d2 d3 d4 b0 b1 b2 b3 b4 v0 v1 v2 v3 v4 hy6 hnb
     refine (same13_any np wp nc wc now now _ (HNP6.out.bel (by first | exact Bel.refl _ | exact (Bel.refl _).drew)) (HWP6.out.bel (by first | exact Bel.refl _ | exact (Bel.refl _).drew)) (by have := HNR.out; omega) (by have := HNR.out; omega) (by have := HWL.out; omega)).mono ?_
     rintro e y7 ⟨rfl, hb7⟩
     rw [HAR.out, eqM_yes rfl]
     have HB7 := Lib.hid (show Bel y4 y7 from HB6.out.trans (by first | exact hb7 | exact (Bel.refl _).drew.trans hb7))
     obtain ⟨⟨d0, d1, d2, d3, d4⟩, -⟩ := box5 (box_bel HNB.out (show Bel y6 y7 from by first | exact hb7 | exact (Bel.refl _).drew.trans hb7))
     obtain ⟨⟨v0, v1, v2, v3, v4⟩, -⟩ := box5 (box_bel HWB4.out HB7.out)
     clear hb7
     obtain ⟨s0, -, -, -⟩ := (HL4.out.bel HB7.out).cells
     go_wp2_with (fail)
     refine (tm_names HL4.out.tm (HB7.out.trans (by first | exact Bel.refl _ | exact (Bel.refl _).drew))).mono ?_
     rintro e y8 ⟨⟨nv, rfl, hnl⟩, hb8⟩
     obtain ⟨qp, qc, hnv⟩ := ownG_len hnl
     rw [List.length_map] at hnv
     subst hnv
     have HB8 := Lib.hid (show Bel y4 y8 from HB7.out.trans (by first | exact hb8 | exact (Bel.refl _).drew.trans hb8))
     have h9 : ¬ (9 : Int) < (rs.M.L.length : Int) := by have h1 := HRS1.out.len; have h2 := HRS1.out.inv.n; simp only at h1 h2; omega
     clear hnl hb8 s0 d0 d1 d2 d3 d4 v0 v1 v2 v3 v4
     go_wp2_with (fail)
     go_roundw
     case rel => exact ⟨k + 1, ⟨rs.M, rs.s, rs.n⟩, by go_num, by omega, (HL4.out.bel HB8.out).less (fun k hk => by cases hk), HRS1.out⟩
     case measure => simp [intOf]; omega
   ·go_simp
    obtain ⟨y, hyy⟩ : ∃ y, y = (x2.alloc (.cells #[.slice none 0 0, .int .i64 0, .int .i64 0, .int .i64 0, .string ⟨#[]⟩] 24)).drew := ⟨_, rfl⟩
    obtain ⟨Sb, hsb⟩ : ∃ Sb, Sb = x2.heap.size := ⟨_, rfl⟩
    have HBY := Lib.hid (show y.heap[Sb]? = some (.cells #[.slice none 0 0, .int .i64 0, .int .i64 0, .int .i64 0, .string ⟨#[]⟩] 24 (0, 0)) by rw [hyy, hsb]; exact heap_alloc_new x2 _)
    have HY := Lib.hid (show Bel x2 y by rw [hyy]; exact ((Bel.refl x2).alloc _).drew)
    have hysz : y.heap.size = Sb + 1 := by rw [hyy, hsb]; simp
    have HYZ := Lib.hid hysz
    have HSZ := Lib.hid hsb
    rw [← hyy, ← hsb]
    clear hyy hsb
    refine hK.out _ _ (HRS.out _ HY.out) (fun hHeld => ?_);clear hK K;try simp only[Act.put,sqA,sqB,sqC]
    refine wpAnyH_ready (rs := [5]) (by kernel_rfl) (by simp) ?_
    refine ar1 ⟨some 53, .call ⟨.value (.func 29), #[.tmp 51, .tmp 52], #[54, 28]⟩, 24, "law.go:269", #[⟨3, .data⟩, ⟨4, .data⟩], none⟩ rfl (fun K hK => ?_)
    go_simp
    refine (HST.out y HY.out).mono ?_
    rintro e yy ⟨pp, pc, rfl, hpl, hpb, hb⟩
    have HBS := Lib.hid (box_bel HBY.out hb)
    have HYY := Lib.hid (HY.out.trans hb)
    have HSB := Lib.hid (show x2.heap.size ≤ Sb ∧ Sb < yy.heap.size by have := hb.size; have := HSZ.out; omega)
    have HPLY := Lib.hid hpl
    have HNE := Lib.hid (show st.files ≠ [] → ∀ k, pp = some k → k.block ≠ Sb ∧ ((x2.heap.size ≤ k.block ∧ k.block < yy.heap.size) ∨ k.block < w.heap.size) from fun hne k hk => by
     have h1 := hpl.lt hne k hk
     have h2 := HSZ.out
     have h3 := (HL0.out.low.trans HB2.out).size
     rcases hpb with e | h
     ·have := HAP.out hne k (by rw [← e]; exact hk)
      exact ⟨by omega, Or.inr this⟩
     ·have := h k hk
      exact ⟨by omega, Or.inl ⟨by omega, h1⟩⟩)
    clear hpl hpb hb HAP HBY
    dsimp only
    refine hK.out _ _ (HRS.out _ HYY.out) (fun hHeld => ?_);clear hK K;try simp only[Act.put,sqA,sqB,sqC]
    refine wpAnyH_ready (rs := [7]) (by kernel_rfl) (by simp) ?_
    refine ar1 ⟨none, .store 24 (.tmp 12) (.tmp 53), 0, "law.go:269", #[⟨6, .data⟩, ⟨5, .data⟩, ⟨5, .chain⟩, ⟨0, .phase⟩, ⟨1, .phase⟩, ⟨2, .phase⟩, ⟨3, .phase⟩, ⟨4, .phase⟩, ⟨5, .phase⟩, ⟨6, .phase⟩], none⟩ rfl (fun K hK => ?_)
    obtain ⟨⟨b0, b1, b2, b3, b4⟩, g0, g1, g2, g3, g4⟩ := box5 HBS.out
    go_simp
    obtain ⟨x3, hx3⟩ : ∃ x3, x3 = (((((yy.setCell ⟨Sb, 0, none⟩ (.slice pp st.files.length pc)).setCell ⟨Sb, 1, none⟩ (.int .i64 st.next)).setCell ⟨Sb, 2, none⟩ (.int .i64 st.seq)).setCell ⟨Sb, 3, none⟩ (.int .i64 st.log)).setCell ⟨Sb, 4, none⟩ (.string st.mt)) := ⟨_, rfl⟩
    have HB3 := Lib.hid (show Bel x2 x3 by rw [hx3]; exact keep_bel1 keep5 HYY.out HSB.out.1)
    have HBS3 := Lib.hid (show x3.heap[Sb]? = some (.cells #[.slice pp st.files.length pc, .int .i64 st.next, .int .i64 st.seq, .int .i64 st.log, .string st.mt] 24 (0, 0)) by rw [hx3]; exact set5 HBS.out)
    have HPL3 := Lib.hid (show PlsAt x3 pp st.files by rw [hx3]; exact HPLY.out.keep keep5 (fun hne k hk => by rw [List.mem_singleton]; exact (HNE.out hne k hk).1))
    have HZ3 := Lib.hid (show x3.heap.size = yy.heap.size by rw [hx3]; simp)
    have HL3 := Lib.hid (show LM w x3 ws ms b r mb jb rb qb pd q0 (news W0 x3 ++ (news wr W0 ++ [])) from HL0.out.grow (HB2.out.trans HB3.out) (fun k hk => mem_news.1 hk))
    have HNE3 := Lib.hid (show st.files ≠ [] → ∀ k, pp = some k → k.block ∈ news W0 x3 ++ (news wr W0 ++ []) ∨ k.block < w.heap.size from fun hne k hk => by
     rcases (HNE.out hne k hk).2 with h | h
     ·refine Or.inl (List.mem_append_left _ (mem_news.2 ⟨?_, ?_⟩))
      ·have := HB2.out.size; omega
      ·have := HZ3.out; omega
     ·exact Or.inr h)
    have HSBN := Lib.hid (show Sb ∈ news W0 x3 ++ (news wr W0 ++ []) from List.mem_append_left _ (mem_news.2 ⟨by have := HB2.out.size; have := HSB.out; omega, by have := HSB.out; have := HZ3.out; omega⟩))
    rw [← hx3]
    clear hx3 b0 b1 b2 b3 b4 g0 g1 g2 g3 g4
    refine hK.out _ _ (HRS.out _ HB3.out) (fun hHeld => ?_);clear hK K;try simp only[Act.put,sqA,sqB,sqC]
    refine wpAnyH_done (by kernel_rfl) ?_ _
    clear hHeld HRS HPLY HNE HBS HYY HSB
    obtain ⟨⟨b0, b1, b2, b3, b4⟩, -⟩ := box5 HBS3.out
    obtain ⟨-, s1, -, -⟩ := HL3.out.cells
    go_wp2_with (fail)
    refine wp_region_held_drew (S := fun z => z.cell? ⟨ws, 1, none⟩ = some (.pointer (some ⟨mb, 0, none⟩)) ∧ z.cell? ⟨Sb, 0, none⟩ = some (.slice pp st.files.length pc) ∧ z.cell? ⟨Sb, 1, none⟩ = some (.int .i64 st.next) ∧ z.cell? ⟨Sb, 2, none⟩ = some (.int .i64 st.seq) ∧ z.cell? ⟨Sb, 3, none⟩ = some (.int .i64 st.log) ∧ z.cell? ⟨Sb, 4, none⟩ = some (.string st.mt)) (by kernel_rfl) ⟨s1, b0, b1, b2, b3, b4⟩ (fun hHeld => ?_)
    clear b0 b1 b2 b3 b4 s1
    refine tq ⟨some 54, .move (.tmp 5), 46, "law.go:270", #[], none⟩ ?_ 0 rfl ?_ ?_;rotate_left;·(intros;go_simp<;>with_reducible rfl)
    try simp only[Act.put,sqA,sqB,sqC]
    refine tq ⟨some 55, .nilCheck (.tmp 54), 0, "law.go:270", #[⟨0, .data⟩], none⟩ ?_ 1 rfl ?_ ?_;rotate_left;·(intros;go_simp<;>with_reducible rfl)
    try simp only[Act.put,sqA,sqB,sqC]
    refine tq ⟨some 56, .fieldAddr 58 (.tmp 55) 1, 0, "law.go:270", #[⟨1, .data⟩], none⟩ ?_ 2 rfl ?_ ?_;rotate_left;·(intros;go_simp<;>with_reducible rfl)
    try simp only[Act.put,sqA,sqB,sqC]
    refine tq ⟨some 57, .load 56 (.tmp 56), 56, "law.go:270", #[⟨2, .data⟩], none⟩ ?_ 3 rfl ?_ ?_;rotate_left;·(intros;go_simp<;>with_reducible rfl)
    try simp only[Act.put,sqA,sqB,sqC]
    refine tq ⟨some 58, .load 24 (.tmp 12), 24, "law.go:270", #[], none⟩ ?_ 4 rfl ?_ ?_;rotate_left;·(intros;go_simp<;>with_reducible rfl)
    try simp only[Act.put,sqA,sqB,sqC]
    refine wpAnyH_ready (rs := [5]) (by kernel_rfl) (by simp) ?_
    refine ar1 ⟨some 59, .call ⟨.value (.func 30), #[.tmp 57, .tmp 58], #[56, 24]⟩, 31, "law.go:270", #[⟨3, .data⟩, ⟨4, .data⟩], none⟩ rfl (fun K hK => ?_)
    go_simp
    refine (tm_set HL3.out.tm (Bel.refl _).drew pp pc st (HPL3.out.bel (Bel.refl _).drew) (fun hne k hk => (HNE3.out hne k hk).imp (fun h => by simp only [List.mem_cons]; exact Or.inr (Or.inr h)) id) (by have := HSS.out; omega) (by have := HSS.out; omega) HI.out.some_ (by have := HI.out.last; omega) (by have := HI.out.n; omega)).mono ?_
    rintro e y4 ⟨rfl, ht4, hk4⟩
    have HL4 := Lib.hid (HL3.out.to ht4 hk4)
    have HK4 := Lib.hid hk4
    have HBS4 := Lib.hid ((hk4 Sb (by simp only [List.mem_cons]; exact Or.inr (Or.inr HSBN.out))).trans HBS3.out)
    clear ht4 hk4
    obtain ⟨⟨b0, b1, b2, b3, b4⟩, -⟩ := box5 HBS4.out
    obtain ⟨-, s1, -, -⟩ := HL4.out.cells
    dsimp only
    refine hK.out _ _ ⟨s1, b0, b1, b2, b3, b4⟩ (fun hHeld => ?_)
    clear hK K b0 b1 b2 b3 b4 s1
    try simp only[Act.put,sqA,sqB,sqC]
    refine tq ⟨some 13, .assign (.tmp 59), 31, "law.go:270", #[⟨5, .data⟩, ⟨5, .chain⟩, ⟨0, .phase⟩, ⟨1, .phase⟩, ⟨2, .phase⟩, ⟨3, .phase⟩, ⟨4, .phase⟩, ⟨5, .phase⟩], none⟩ ?_ 6 rfl ?_ ?_;rotate_left;·(intros;go_simp<;>with_reducible rfl)
    try simp only[Act.put,sqA,sqB,sqC]
    refine wpAnyH_done (by kernel_rfl) ?_ _
    clear hHeld
    have HWB4 := Lib.hid ((HK4.out Wb (by simp [mem_news.2 HWBZ.out])).trans (box_bel HWB.out (HB2.out.trans HB3.out)))
    have HWP4 := Lib.hid ((HWP.out.bel (HB2.out.trans HB3.out)).kr (w := w) HK4.out HL3.out.low HL4.out.low (fun hne k hk => Or.inl (by
     have h1 := own_lt13 HWO.out k hk
     simp only [List.mem_cons, List.mem_append]
     exact Or.inr (Or.inr (Or.inr (Or.inl (mem_news.2 h1)))))))
    have HPL4 := Lib.hid (HPL3.out.kr (w := w) HK4.out HL3.out.low HL4.out.low (fun hne k hk => (HNE3.out hne k hk).imp (fun h => by simp only [List.mem_cons]; exact Or.inr (Or.inr h)) id))
    have HSET := Lib.hid (HRI.out.set (s := st) (by omega) HSS.out.2.1)
    obtain ⟨rs, hrs⟩ : ∃ rs, rs = mset pd.s pd.n st pd.M := ⟨_, rfl⟩
    rw [← hrs]
    have HSET := Lib.hid (show Rise (k + 1) ⟨rs.M, rs.s, rs.n⟩ ∧ (rs.e = 0 → rs.s = st) ∧ (rs.e ≠ 0 → rs.s = was) ∧ was.next ≤ rs.s.next ∧ was.seq ≤ rs.s.seq ∧ was.log ≤ rs.s.log by rw [hrs, HWAS.out]; exact HSET.out)
    rw [← hrs] at HL4
    clear hrs HK4 HL3 HB3
    obtain ⟨-, s1, -, -⟩ := HL4.out.cells
    go_wp2_with (fail)
    refine (tm_state HL4.out.tm (by first | exact Bel.refl _ | exact (Bel.refl _).drew) (right_files HSET.out.1.inv.right)).mono ?_
    rintro e y5 ⟨np, nc, rfl, ho5, hb5⟩
    have HB5 := Lib.hid (show Bel y4 y5 from by first | exact hb5 | exact (Bel.refl _).drew.trans hb5)
    have HNP := Lib.hid (pls_ownP ho5)
    clear ho5 hb5 s1
    obtain ⟨now, hnow⟩ : ∃ now, now = rs.s := ⟨_, rfl⟩
    obtain ⟨er, her⟩ : ∃ er, er = rs.e := ⟨_, rfl⟩
    rw [← hnow] at HNP ⊢
    rw [← her]
    have HNN := Lib.hid (show now.next ≥ was.next ∧ now.seq ≥ was.seq ∧ now.log ≥ was.log by rw [hnow]; exact HSET.out.2.2.2)
    have HNR := Lib.hid (show now.files.length ≤ 100000 by rw [hnow]; exact right_files HSET.out.1.inv.right)
    have HE0 := Lib.hid (show er = 0 → now = st by rw [hnow, her]; exact HSET.out.2.1)
    have HE1 := Lib.hid (show er ≠ 0 → now = was by rw [hnow, her]; exact HSET.out.2.2.1)
    have HRS1 := Lib.hid HSET.out.1
    clear hnow her HSET
    have hn1 : ¬ now.next < was.next := by have := HNN.out; omega
    have hn2 : ¬ now.seq < was.seq := by have := HNN.out; omega
    have hn3 : ¬ now.log < was.log := by have := HNN.out; omega
    obtain ⟨y6, hy6⟩ : ∃ y6, y6 = y5.alloc (.cells #[.slice np now.files.length nc, .int .i64 now.next, .int .i64 now.seq, .int .i64 now.log, .string now.mt] 24) := ⟨_, rfl⟩
    have HB6 := Lib.hid (show Bel y4 y6 by rw [hy6]; exact HB5.out.alloc _)
    obtain ⟨Nb, hnb⟩ : ∃ Nb, Nb = y5.heap.size := ⟨_, rfl⟩
    have HNB := Lib.hid (show y6.heap[Nb]? = some (.cells #[.slice np now.files.length nc, .int .i64 now.next, .int .i64 now.seq, .int .i64 now.log, .string now.mt] 24 (0, 0)) by rw [hy6, hnb]; exact heap_alloc_new y5 _)
    obtain ⟨⟨d0, d1, d2, d3, d4⟩, -⟩ := box5 HNB.out
    obtain ⟨⟨b0, b1, b2, b3, b4⟩, -⟩ := box5 (box_bel HBS4.out HB6.out)
    obtain ⟨⟨v0, v1, v2, v3, v4⟩, -⟩ := box5 (box_bel HWB4.out HB6.out)
    have HNP6 := Lib.hid (show PlsAt y6 np now.files by rw [hy6]; exact HNP.out.bel ((Bel.refl y5).alloc _))
    have HPL6 := Lib.hid (HPL4.out.bel HB6.out)
    have HWP6 := Lib.hid (HWP4.out.bel HB6.out)
    rw [hy6, hnb] at d0 d1 d2 d3 d4
    rw [hy6] at b0 b1 b2 b3 b4 v0 v1 v2 v3 v4
    by_cases he0 : er = 0
    ·obtain rfl := HE0.out he0
     subst he0
     go_wp2_with (fail)
     rw [← hy6, ← hnb]
     clear d0 d1 d2 d3 d4 b0 b1 b2 b3 b4 v0 v1 v2 v3 v4 hy6 hnb
     refine (same13_any np pp nc pc now now _ (HNP6.out.bel (by first | exact Bel.refl _ | exact (Bel.refl _).drew)) (HPL6.out.bel (by first | exact Bel.refl _ | exact (Bel.refl _).drew)) (by have := HNR.out; omega) (by have := HNR.out; omega) (by have := HSS.out; omega)).mono ?_
     rintro e y7 ⟨rfl, hb7⟩
     rw [HSS.out.2.2, eqM_yes rfl]
     have HB7 := Lib.hid (show Bel y4 y7 from HB6.out.trans (by first | exact hb7 | exact (Bel.refl _).drew.trans hb7))
     obtain ⟨⟨d0, d1, d2, d3, d4⟩, -⟩ := box5 (box_bel HNB.out (show Bel y6 y7 from by first | exact hb7 | exact (Bel.refl _).drew.trans hb7))
     obtain ⟨⟨v0, v1, v2, v3, v4⟩, -⟩ := box5 (box_bel HWB4.out HB7.out)
     clear hb7
     obtain ⟨s0, -, -, -⟩ := (HL4.out.bel HB7.out).cells
     go_wp2_with (fail)
     refine (tm_names HL4.out.tm (HB7.out.trans (by first | exact Bel.refl _ | exact (Bel.refl _).drew))).mono ?_
     rintro e y8 ⟨⟨nv, rfl, hnl⟩, hb8⟩
     obtain ⟨qp, qc, hnv⟩ := ownG_len hnl
     rw [List.length_map] at hnv
     subst hnv
     have HB8 := Lib.hid (show Bel y4 y8 from HB7.out.trans (by first | exact hb8 | exact (Bel.refl _).drew.trans hb8))
     have h9 : ¬ (9 : Int) < (rs.M.L.length : Int) := by have h1 := HRS1.out.len; have h2 := HRS1.out.inv.n; simp only at h1 h2; omega
     clear hnl hb8 s0 d0 d1 d2 d3 d4 v0 v1 v2 v3 v4
     go_wp2_with (fail)
     go_roundw
     case rel => exact ⟨k + 1, ⟨rs.M, rs.s, rs.n⟩, by go_num, by omega, (HL4.out.bel HB8.out).less (fun k hk => by cases hk), HRS1.out⟩
     case measure => simp [intOf]; omega
    ·obtain rfl := HE1.out he0
     have he1 : (er == 0) = false := by rw [beq_eq_false_iff_ne]; exact he0
     have he2 : (er != 0) = true := by rw [bne_iff_ne]; exact he0
     go_wp2_with (fail)
     rw [← hy6, ← hnb]
     clear d0 d1 d2 d3 d4 b0 b1 b2 b3 b4 v0 v1 v2 v3 v4 hy6 hnb
     refine (same13_any np wp nc wc now now _ (HNP6.out.bel (by first | exact Bel.refl _ | exact (Bel.refl _).drew)) (HWP6.out.bel (by first | exact Bel.refl _ | exact (Bel.refl _).drew)) (by have := HNR.out; omega) (by have := HNR.out; omega) (by have := HWL.out; omega)).mono ?_
     rintro e y7 ⟨rfl, hb7⟩
     rw [HAR.out, eqM_yes rfl]
     have HB7 := Lib.hid (show Bel y4 y7 from HB6.out.trans (by first | exact hb7 | exact (Bel.refl _).drew.trans hb7))
     obtain ⟨⟨d0, d1, d2, d3, d4⟩, -⟩ := box5 (box_bel HNB.out (show Bel y6 y7 from by first | exact hb7 | exact (Bel.refl _).drew.trans hb7))
     obtain ⟨⟨v0, v1, v2, v3, v4⟩, -⟩ := box5 (box_bel HWB4.out HB7.out)
     clear hb7
     obtain ⟨s0, -, -, -⟩ := (HL4.out.bel HB7.out).cells
     go_wp2_with (fail)
     refine (tm_names HL4.out.tm (HB7.out.trans (by first | exact Bel.refl _ | exact (Bel.refl _).drew))).mono ?_
     rintro e y8 ⟨⟨nv, rfl, hnl⟩, hb8⟩
     obtain ⟨qp, qc, hnv⟩ := ownG_len hnl
     rw [List.length_map] at hnv
     subst hnv
     have HB8 := Lib.hid (show Bel y4 y8 from HB7.out.trans (by first | exact hb8 | exact (Bel.refl _).drew.trans hb8))
     have h9 : ¬ (9 : Int) < (rs.M.L.length : Int) := by have h1 := HRS1.out.len; have h2 := HRS1.out.inv.n; simp only at h1 h2; omega
     clear hnl hb8 s0 d0 d1 d2 d3 d4 v0 v1 v2 v3 v4
     go_wp2_with (fail)
     go_roundw
     case rel => exact ⟨k + 1, ⟨rs.M, rs.s, rs.n⟩, by go_num, by omega, (HL4.out.bel HB8.out).less (fun k hk => by cases hk), HRS1.out⟩
     case measure => simp [intOf]; omega

  ·obtain rfl : k = L.length := by omega
   have hii : ¬ (L.length : Int) < (L.length : Int) := by omega
   go_wp2_with (fail)
   go_ret
   exact ⟨rfl, HX.out.low⟩
end Go.Proofs.YtfbiinnenlgkfaaGreatDoor
