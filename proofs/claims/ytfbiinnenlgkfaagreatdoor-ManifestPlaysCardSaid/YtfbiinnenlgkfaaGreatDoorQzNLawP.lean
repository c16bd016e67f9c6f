/- ManifestPlays. -/
import Derived.Test.YtfbiinnenlgkfaaGreatDoorQ25
import Derived.Test.YtfbiinnenlgkfaaGreatDoorQ23
import Derived.Deep.RegionHeld
import Derived.Test.YtfbiinnenlgkfaaGreatDoorQ2
set_option linter.unusedSimpArgs false
set_option linter.unusedVariables false
set_option maxRecDepth 100000
namespace Go.Proofs.YtfbiinnenlgkfaaGreatDoor
open Go.RowKit Go.Deep Go.Maps

def PlRel13 (w : World) (ws ms b r n : Nat) (i : Value) (x : World) : Prop :=
 ∃ (k : Nat) (p : SD) (mb jb rb qb : Nat), i = .int .i64 k ∧ k ≤ n ∧ LM w x ws ms b r mb jb rb qb p p [] ∧ Inv13 k p
def NmRel13 (w1 : World) (n : Nat) (i : Value) (x : World) : Prop := ∃ k : Nat, i = .int .i64 k ∧ k ≤ n ∧ Bel w1 x
set_option maxHeartbeats 16000000 in
theorem law_plays13_any (w : World) (room : Int) (p : Option Addr) (cap : Nat) (L : List NV) (hstd : Std w) (h : NActs w p L) (hL : L.length ≤ maxLen) (hroom : -9223372036854775808 ≤ room ∧ room ≤ 9223372036854775807) :
  Calls Tryz.prog 5 #[.int .i64 room, .slice p L.length cap] w fun e w' => e = .returned (.bool true) ∧ Bel w w' := by
 have HS := Lib.hid hstd
 have H := Lib.hid h
 have HL := Lib.hid hL
 have HRO := Lib.hid (show in64 room from hroom)
 clear hstd h hL
 cases hsm : nsmallB L with
 | false =>
  have HSM := Lib.hid hsm; clear hsm
  go_enter Tryz.func5, Tryz.ntmps5
  go_wp2_with (fail)
  refine (shown13_any w HS.out).mono ?_
  rintro e w1 ⟨rfl, hb1⟩
  have HB1 := Lib.hid hb1; clear hb1
  go_wp2_with (fail)
  refine (nsmall_any w1 p cap L (H.out.bel HB1.out) HL.out).mono ?_
  rintro e w2 ⟨rfl, hb2⟩
  rw [HSM.out]
  have HB2 := Lib.hid (HB1.out.trans hb2); clear hb2
  go_wp2_with (fail)
  go_ret
  exact ⟨rfl, HB2.out⟩
 | true =>
 obtain ⟨hl60, hall⟩ := nsmall_get hsm
 have HALL := Lib.hid hall
 have HSM := Lib.hid hsm
 clear hsm hall
 have HPK := Lib.hid (pickN_lt room (n := 50000) (by omega))
 obtain ⟨rm, hrm⟩ : ∃ rm : Nat, rm = pickN room 50000 := ⟨_, rfl⟩
 have HRM := Lib.hid hrm
 have hrml : rm < 50000 := by rw [hrm]; exact HPK.out
 have hrw : IntKind.i64.wrap (10 + (rm : Int)) = 10 + (rm : Int) := by rw [IntKind.wrap_i64]; omega
 clear hrm HPK
 go_enter Tryz.func5, Tryz.ntmps5
 go_wp2_with (fail)
 refine (shown13_any w HS.out).mono ?_
 rintro e w1 ⟨rfl, hb1⟩
 have HB1 := Lib.hid hb1; clear hb1
 go_wp2_with (fail)
 refine (nsmall_any w1 p cap L (H.out.bel HB1.out) HL.out).mono ?_
 rintro e w2 ⟨rfl, hb2⟩
 rw [HSM.out]
 have HB2 := Lib.hid (HB1.out.trans hb2); clear hb2
 go_wp2_with (fail)
 refine (pick13_at room _ 50000 _ HRO.out (by omega) (by omega) rfl).mono ?_
 rintro e z ⟨rfl, rfl⟩
 rw [← HRM.out]
 go_wp2_with (fail)
 refine (begin13_any w _ HS.out HB2.out (10 + (rm : Int)) ⟨by omega, by omega⟩).mono ?_
 rintro e w3 ⟨ws, ms, b, r, mb, jb, rb, qb, rfl, h3⟩
 have H3 := Lib.hid h3
 clear h3
 go_wp2_with (fail)
 go_loopw [10] (fun i x => PlRel13 w ws ms b r L.length i x) (fun i _ => L.length - (intOf i).toNat)
 case atStart => exact ⟨0, _, mb, jb, rb, qb, rfl, Nat.zero_le _, H3.out, Inv13.begin _ (by omega)⟩
 case round =>
  clear H3 mb jb rb qb
  obtain ⟨k, pd, mb, jb, rb, qb, rfl, hk, hx, hinv⟩ := hrel
  have HX := Lib.hid hx
  have HI := Lib.hid hinv
  clear hx hinv
  by_cases hlt : k < L.length
  ·have hii : (k : Int) < (L.length : Int) := by omega
   obtain ⟨ad, B, O, sp, rfl, hp, ⟨c0, c1, c2, c3, c4, c5, c6, c7, c8⟩, hok⟩ := nact_at H.out HX.out.low hlt
   have HSG := Lib.hid (HALL.out _ (List.getElem_mem hlt))
   obtain ⟨a, ha⟩ : ∃ a, a = L[k] := ⟨_, rfl⟩
   rw [← ha] at c0 c1 c2 c3 c4 c5 c6 c7 c8 hok HSG
   have HOK := Lib.hid hok
   clear ha hok
   go_wp2_with (fail)
   refine (does13_any w _ ws ms b r mb jb rb qb pd a k HX.out HOK.out HSG.out HI.out (by omega)).mono ?_
   rintro e w4 ⟨rfl, mb1, jb1, rb1, qb1, h4⟩
   have HI4 := Lib.hid (HI.out.does HX.out.tm.good (by omega) a)
   obtain ⟨q, hq⟩ : ∃ q, q = doM a pd := ⟨_, rfl⟩
   rw [← hq] at h4 HI4
   have H4 := Lib.hid h4
   have HRR := Lib.hid (show ∃ v, RefAt w.heap.size w4 r q.M v from by
    obtain ⟨F, D, G, E, h1, h2, -⟩ := h4.tm
    obtain ⟨v, hv, -⟩ := h2.prog
    exact ⟨v, hv⟩)
   clear hq h4 c0 c1 c2 c3 c4 c5 c6 c7 c8
   obtain ⟨v, hv⟩ := HRR.out
   obtain ⟨-, -, -, v3⟩ := hv.cells
   obtain ⟨fp, fc, hrb, hrp⟩ := H4.out.tm.rbox
   have HRP := Lib.hid hrp
   obtain ⟨s0, s1, t0, t1⟩ := H4.out.cells
   have HS0 := Lib.hid s0
   have HT0 := Lib.hid t0
   have HV3 := Lib.hid v3
   clear hv HRR v3 s0 t0 hrp
   go_wp2_with (fail)
   have HRS := Lib.hid (show ∀ z', Bel w4 z' → z'.cell? ⟨ws, 1, none⟩ = some (.pointer (some ⟨mb1, 0, none⟩)) ∧ z'.cell? ⟨ms, 1, none⟩ = some (.pointer (some ⟨rb1, 0, none⟩)) ∧ z'.cell? ⟨rb1, 1, none⟩ = some (.slice fp q.s.files.length fc) ∧ z'.cell? ⟨rb1, 2, none⟩ = some (.int .i64 q.s.next) ∧ z'.cell? ⟨rb1, 3, none⟩ = some (.int .i64 q.s.seq) ∧ z'.cell? ⟨rb1, 4, none⟩ = some (.int .i64 q.s.log) ∧ z'.cell? ⟨rb1, 5, none⟩ = some (.string q.s.mt) from fun z' hz => by
    obtain ⟨⟨-, r1, r2, r3, r4, r5, -⟩, -⟩ := box7 (box_bel hrb hz)
    obtain ⟨-, s1, -, t1⟩ := (H4.out.bel hz).cells
    exact ⟨s1, t1, r1, r2, r3, r4, r5⟩)
   clear hrb s1 t1
   refine wp_region_held_drew (S := fun z => z.cell? ⟨ws, 1, none⟩ = some (.pointer (some ⟨mb1, 0, none⟩)) ∧ z.cell? ⟨ms, 1, none⟩ = some (.pointer (some ⟨rb1, 0, none⟩)) ∧ z.cell? ⟨rb1, 1, none⟩ = some (.slice fp q.s.files.length fc) ∧ z.cell? ⟨rb1, 2, none⟩ = some (.int .i64 q.s.next) ∧ z.cell? ⟨rb1, 3, none⟩ = some (.int .i64 q.s.seq) ∧ z.cell? ⟨rb1, 4, none⟩ = some (.int .i64 q.s.log) ∧ z.cell? ⟨rb1, 5, none⟩ = some (.string q.s.mt)) (by kernel_rfl) (HRS.out _ (Bel.refl _).drew) (fun hHeld => ?_)
   refine tq ⟨some 48, .move (.tmp 7), 46, "law.go:202", #[], none⟩ ?_ 0 rfl ?_ ?_;rotate_left;·(intros;go_simp<;>with_reducible rfl)
   try simp only[Act.put,sqA,sqB,sqC]
   refine tq ⟨some 49, .nilCheck (.tmp 48), 0, "law.go:202", #[⟨0, .data⟩], none⟩ ?_ 1 rfl ?_ ?_;rotate_left;·(intros;go_simp<;>with_reducible rfl)
   try simp only[Act.put,sqA,sqB,sqC]
   refine tq ⟨some 50, .fieldAddr 58 (.tmp 49) 1, 0, "law.go:202", #[⟨1, .data⟩], none⟩ ?_ 2 rfl ?_ ?_;rotate_left;·(intros;go_simp<;>with_reducible rfl)
   try simp only[Act.put,sqA,sqB,sqC]
   refine tq ⟨some 51, .load 56 (.tmp 50), 56, "law.go:202", #[⟨2, .data⟩], none⟩ ?_ 3 rfl ?_ ?_;rotate_left;·(intros;go_simp<;>with_reducible rfl)
   try simp only[Act.put,sqA,sqB,sqC]
   refine tq ⟨some 53, .move (.tmp 8), 47, "law.go:202", #[], none⟩ ?_ 5 rfl ?_ ?_;rotate_left;·(intros;go_simp<;>with_reducible rfl)
   try simp only[Act.put,sqA,sqB,sqC]
   refine tq ⟨some 54, .nilCheck (.tmp 53), 0, "law.go:202", #[⟨5, .data⟩], none⟩ ?_ 6 rfl ?_ ?_;rotate_left;·(intros;go_simp<;>with_reducible rfl)
   try simp only[Act.put,sqA,sqB,sqC]
   refine tq ⟨some 55, .fieldAddr 66 (.tmp 54) 1, 0, "law.go:202", #[⟨6, .data⟩], none⟩ ?_ 7 rfl ?_ ?_;rotate_left;·(intros;go_simp<;>with_reducible rfl)
   try simp only[Act.put,sqA,sqB,sqC]
   refine tq ⟨some 56, .load 64 (.tmp 55), 64, "law.go:202", #[⟨7, .data⟩], none⟩ ?_ 8 rfl ?_ ?_;rotate_left;·(intros;go_simp<;>with_reducible rfl)
   try simp only[Act.put,sqA,sqB,sqC]
   refine tq ⟨some 57, .nilCheck (.tmp 56), 0, "law.go:202", #[⟨8, .data⟩], none⟩ ?_ 9 rfl ?_ ?_;rotate_left;·(intros;go_simp<;>with_reducible rfl)
   try simp only[Act.put,sqA,sqB,sqC]
   refine tq ⟨some 58, .fieldAddr 62 (.tmp 57) 1, 0, "law.go:202", #[⟨9, .data⟩], none⟩ ?_ 10 rfl ?_ ?_;rotate_left;·(intros;go_simp<;>with_reducible rfl)
   try simp only[Act.put,sqA,sqB,sqC]
   refine tq ⟨some 59, .load 28 (.tmp 58), 28, "law.go:202", #[⟨10, .data⟩], none⟩ ?_ 11 rfl ?_ ?_;rotate_left;·(intros;go_simp<;>with_reducible rfl)
   try simp only[Act.put,sqA,sqB,sqC]
   refine wpAnyH_ready (rs := [4]) (by kernel_rfl) (by simp) ?_
   refine ar1 ⟨some 52, .call ⟨.value (.func 23), #[.tmp 51], #[56]⟩, 24, "law.go:202", #[⟨3, .data⟩], none⟩ rfl (fun K hK => ?_)
   go_simp
   refine (tm_state H4.out.tm (Bel.refl _).drew (right_files HI4.out.right)).mono ?_
   rintro e w5 ⟨sp5, sc5, rfl, ho5, hb5⟩
   have HB5 := Lib.hid (show Bel w4 w5 from (Bel.refl w4).drew.trans hb5)
   have HP5 := Lib.hid (pls_ownP ho5)
   clear ho5 hb5
   dsimp only
   refine hK.out _ _ (HRS.out _ HB5.out) (fun hHeld => ?_);clear hK K;try simp only[Act.put,sqA,sqB,sqC]
   refine wpAnyH_ready (rs := [12]) (by kernel_rfl) (by simp) ?_
   refine ar1 ⟨some 60, .call ⟨.value (.func 17), #[.tmp 52, .tmp 59], #[24, 28]⟩, 4, "law.go:202", #[⟨4, .data⟩, ⟨11, .data⟩, ⟨4, .chain⟩], none⟩ rfl (fun K hK => ?_)
   go_simp
   refine (alike13_any sp5 fp sc5 fc q.s q.s _ HP5.out (HRP.out.bel HB5.out) (by have := right_files HI4.out.right; omega) (by have := right_files HI4.out.right; omega)).mono ?_
   rintro e w6 ⟨rfl, hb6⟩
   rw [eqM_yes rfl]
   have HB6 := Lib.hid (HB5.out.trans hb6)
   clear hb6
   dsimp only
   refine hK.out _ _ (HRS.out _ HB6.out) (fun hHeld => ?_);clear hK K;try simp only[Act.put,sqA,sqB,sqC]
   refine tq ⟨some 12, .assign (.tmp 60), 4, "law.go:202", #[⟨12, .data⟩, ⟨12, .chain⟩, ⟨0, .phase⟩, ⟨1, .phase⟩, ⟨2, .phase⟩, ⟨3, .phase⟩, ⟨4, .phase⟩, ⟨5, .phase⟩, ⟨6, .phase⟩, ⟨7, .phase⟩, ⟨8, .phase⟩, ⟨9, .phase⟩, ⟨10, .phase⟩, ⟨11, .phase⟩, ⟨12, .phase⟩], none⟩ ?_ 13 rfl ?_ ?_;rotate_left;·(intros;go_simp<;>with_reducible rfl)
   try simp only[Act.put,sqA,sqB,sqC]
   refine wpAnyH_done (by kernel_rfl) ?_ _
   clear hHeld HRS
   go_wp2_with (fail)
   refine wp_region_held_drew (S := fun z => z.cell? ⟨ws, 0, none⟩ = some (.pointer (some ⟨b, 0, none⟩)) ∧ z.cell? ⟨ms, 0, none⟩ = some (.pointer (some ⟨r, 0, none⟩)) ∧ z.cell? ⟨r, 3, none⟩ = some (.bool q.M.gone)) (by kernel_rfl) ⟨cell_later HB6.out.drew HS0.out, cell_later HB6.out.drew HT0.out, cell_later HB6.out.drew HV3.out⟩ (fun hHeld => ?_)
   refine tq ⟨some 61, .move (.tmp 11), 4, "law.go:203", #[], none⟩ ?_ 0 rfl ?_ ?_;rotate_left;·(intros;go_simp<;>with_reducible rfl)
   try simp only[Act.put,sqA,sqB,sqC]
   refine tq ⟨some 62, .unOp .not 4 (.tmp 61), 4, "law.go:203", #[⟨0, .data⟩], none⟩ ?_ 1 rfl ?_ ?_;rotate_left;·(intros;go_simp<;>with_reducible rfl)
   try simp only[Act.put,sqA,sqB,sqC]
   refine tq ⟨some 63, .move (.tmp 62), 4, "law.go:203", #[⟨1, .data⟩], none⟩ ?_ 2 rfl ?_ ?_;rotate_left;·(intros;go_simp<;>with_reducible rfl)
   try simp only[Act.put,sqA,sqB,sqC]
   refine tq ⟨some 64, .move (.tmp 12), 4, "law.go:203", #[⟨2, .guard⟩], some (2, false)⟩ ?_ 3 rfl ?_ ?_;rotate_left;·(intros;go_simp<;>with_reducible rfl)
   try simp only[Act.put,sqA,sqB,sqC]
   refine tq ⟨some 65, .unOp .not 4 (.tmp 64), 4, "law.go:203", #[⟨3, .data⟩, ⟨2, .guard⟩], some (2, false)⟩ ?_ 4 rfl ?_ ?_;rotate_left;·(intros;go_simp<;>with_reducible rfl)
   try simp only[Act.put,sqA,sqB,sqC]
   refine tq ⟨some 66, .pick (.tmp 63) (.const (.bool true)) (.tmp 65), 4, "law.go:203", #[⟨2, .data⟩, ⟨4, .data⟩], none⟩ ?_ 5 rfl ?_ ?_;rotate_left;·(intros;go_simp<;>with_reducible rfl)
   try simp only[Act.put,sqA,sqB,sqC]
   refine tq ⟨some 67, .move (.tmp 66), 4, "law.go:203", #[⟨5, .data⟩, ⟨2, .chain⟩], none⟩ ?_ 6 rfl ?_ ?_;rotate_left;·(intros;go_simp<;>with_reducible rfl)
   try simp only[Act.put,sqA,sqB,sqC]
   refine tq ⟨some 68, .move (.tmp 7), 46, "law.go:203", #[⟨6, .guard⟩], some (6, false)⟩ ?_ 7 rfl ?_ ?_;rotate_left;·(intros;go_simp<;>with_reducible rfl)
   try simp only[Act.put,sqA,sqB,sqC]
   refine tq ⟨some 69, .nilCheck (.tmp 68), 0, "law.go:203", #[⟨7, .data⟩, ⟨6, .guard⟩], some (6, false)⟩ ?_ 8 rfl ?_ ?_;rotate_left;·(intros;go_simp<;>with_reducible rfl)
   try simp only[Act.put,sqA,sqB,sqC]
   refine tq ⟨some 70, .fieldAddr 58 (.tmp 69) 0, 0, "law.go:203", #[⟨8, .data⟩, ⟨6, .guard⟩], some (6, false)⟩ ?_ 9 rfl ?_ ?_;rotate_left;·(intros;go_simp<;>with_reducible rfl)
   try simp only[Act.put,sqA,sqB,sqC]
   refine tq ⟨some 71, .load 55 (.tmp 70), 55, "law.go:203", #[⟨9, .data⟩, ⟨6, .guard⟩], some (6, false)⟩ ?_ 10 rfl ?_ ?_;rotate_left;·(intros;go_simp<;>with_reducible rfl)
   try simp only[Act.put,sqA,sqB,sqC]
   refine tq ⟨some 73, .move (.tmp 8), 47, "law.go:203", #[⟨6, .guard⟩], some (6, false)⟩ ?_ 12 rfl ?_ ?_;rotate_left;·(intros;go_simp<;>with_reducible rfl)
   try simp only[Act.put,sqA,sqB,sqC]
   refine tq ⟨some 74, .nilCheck (.tmp 73), 0, "law.go:203", #[⟨12, .data⟩, ⟨6, .guard⟩], some (6, false)⟩ ?_ 13 rfl ?_ ?_;rotate_left;·(intros;go_simp<;>with_reducible rfl)
   try simp only[Act.put,sqA,sqB,sqC]
   refine tq ⟨some 75, .fieldAddr 66 (.tmp 74) 0, 0, "law.go:203", #[⟨13, .data⟩, ⟨6, .guard⟩], some (6, false)⟩ ?_ 14 rfl ?_ ?_;rotate_left;·(intros;go_simp<;>with_reducible rfl)
   try simp only[Act.put,sqA,sqB,sqC]
   refine tq ⟨some 76, .load 63 (.tmp 75), 63, "law.go:203", #[⟨14, .data⟩, ⟨6, .guard⟩], some (6, false)⟩ ?_ 15 rfl ?_ ?_;rotate_left;·(intros;go_simp<;>with_reducible rfl)
   try simp only[Act.put,sqA,sqB,sqC]
   refine wpAnyH_ready (rs := [11]) (by kernel_rfl) (by simp) ?_
   refine ar1 ⟨some 72, .call ⟨.value (.func 24), #[.tmp 71], #[55]⟩, 3, "law.go:203", #[⟨10, .data⟩, ⟨6, .chain⟩, ⟨6, .guard⟩], some (6, false)⟩ rfl (fun K hK => ?_)
   go_simp
   refine (tm_used H4.out.tm (HB6.out.trans (Bel.refl _).drew)).mono ?_
   rintro e w7 ⟨rfl, hb7⟩
   have HB7 := Lib.hid (HB6.out.trans ((Bel.refl _).drew.trans hb7))
   clear hb7
   dsimp only
   refine hK.out _ _ ⟨cell_later HB7.out HS0.out, cell_later HB7.out HT0.out, cell_later HB7.out HV3.out⟩ (fun hHeld => ?_);clear hK K;try simp only[Act.put,sqA,sqB,sqC]
   refine wpAnyH_ready (rs := [16]) (by kernel_rfl) (by simp) ?_
   refine ar1 ⟨some 77, .call ⟨.value (.func 25), #[.tmp 76], #[63]⟩, 3, "law.go:203", #[⟨15, .data⟩, ⟨11, .chain⟩, ⟨6, .guard⟩], some (6, false)⟩ rfl (fun K hK => ?_)
   go_simp
   refine (tm_rused H4.out.tm HB7.out).mono ?_
   rintro e w8 ⟨rfl, hb8⟩
   have HB8 := Lib.hid (HB7.out.trans hb8)
   clear hb8
   dsimp only
   refine hK.out _ _ ⟨cell_later HB8.out HS0.out, cell_later HB8.out HT0.out, cell_later HB8.out HV3.out⟩ (fun hHeld => ?_);clear hK K;try simp only[Act.put,sqA,sqB,sqC]
   refine tq ⟨some 78, .binOp .neq 3 (.tmp 72) (.tmp 77) 3, 4, "law.go:203", #[⟨11, .data⟩, ⟨16, .data⟩, ⟨6, .guard⟩], some (6, false)⟩ ?_ 17 rfl ?_ ?_;rotate_left;·(intros;go_simp<;>with_reducible rfl)
   try simp only[Act.put,sqA,sqB,sqC]
   refine tq ⟨some 79, .pick (.tmp 67) (.const (.bool true)) (.tmp 78), 4, "law.go:203", #[⟨6, .data⟩, ⟨17, .data⟩], none⟩ ?_ 18 rfl ?_ ?_;rotate_left;·(intros;go_simp<;>with_reducible rfl)
   try simp only[Act.put,sqA,sqB,sqC]
   refine tq ⟨some 80, .move (.tmp 79), 4, "law.go:203", #[⟨18, .data⟩, ⟨16, .chain⟩], none⟩ ?_ 19 rfl ?_ ?_;rotate_left;·(intros;go_simp<;>with_reducible rfl)
   try simp only[Act.put,sqA,sqB,sqC]
   refine tq ⟨some 81, .move (.tmp 7), 46, "law.go:203", #[⟨19, .guard⟩], some (19, false)⟩ ?_ 20 rfl ?_ ?_;rotate_left;·(intros;go_simp<;>with_reducible rfl)
   try simp only[Act.put,sqA,sqB,sqC]
   refine tq ⟨some 82, .nilCheck (.tmp 81), 0, "law.go:203", #[⟨20, .data⟩, ⟨19, .guard⟩], some (19, false)⟩ ?_ 21 rfl ?_ ?_;rotate_left;·(intros;go_simp<;>with_reducible rfl)
   try simp only[Act.put,sqA,sqB,sqC]
   refine tq ⟨some 83, .fieldAddr 58 (.tmp 82) 0, 0, "law.go:203", #[⟨21, .data⟩, ⟨19, .guard⟩], some (19, false)⟩ ?_ 22 rfl ?_ ?_;rotate_left;·(intros;go_simp<;>with_reducible rfl)
   try simp only[Act.put,sqA,sqB,sqC]
   refine tq ⟨some 84, .load 55 (.tmp 83), 55, "law.go:203", #[⟨22, .data⟩, ⟨19, .guard⟩], some (19, false)⟩ ?_ 23 rfl ?_ ?_;rotate_left;·(intros;go_simp<;>with_reducible rfl)
   try simp only[Act.put,sqA,sqB,sqC]
   refine tq ⟨some 86, .move (.tmp 8), 47, "law.go:203", #[⟨19, .guard⟩], some (19, false)⟩ ?_ 25 rfl ?_ ?_;rotate_left;·(intros;go_simp<;>with_reducible rfl)
   try simp only[Act.put,sqA,sqB,sqC]
   refine tq ⟨some 87, .nilCheck (.tmp 86), 0, "law.go:203", #[⟨25, .data⟩, ⟨19, .guard⟩], some (19, false)⟩ ?_ 26 rfl ?_ ?_;rotate_left;·(intros;go_simp<;>with_reducible rfl)
   try simp only[Act.put,sqA,sqB,sqC]
   refine tq ⟨some 88, .fieldAddr 66 (.tmp 87) 0, 0, "law.go:203", #[⟨26, .data⟩, ⟨19, .guard⟩], some (19, false)⟩ ?_ 27 rfl ?_ ?_;rotate_left;·(intros;go_simp<;>with_reducible rfl)
   try simp only[Act.put,sqA,sqB,sqC]
   refine tq ⟨some 89, .load 63 (.tmp 88), 63, "law.go:203", #[⟨27, .data⟩, ⟨19, .guard⟩], some (19, false)⟩ ?_ 28 rfl ?_ ?_;rotate_left;·(intros;go_simp<;>with_reducible rfl)
   try simp only[Act.put,sqA,sqB,sqC]
   refine tq ⟨some 90, .nilCheck (.tmp 89), 0, "law.go:203", #[⟨28, .data⟩, ⟨19, .guard⟩], some (19, false)⟩ ?_ 29 rfl ?_ ?_;rotate_left;·(intros;go_simp<;>with_reducible rfl)
   try simp only[Act.put,sqA,sqB,sqC]
   refine tq ⟨some 91, .fieldAddr 70 (.tmp 90) 3, 0, "law.go:203", #[⟨29, .data⟩, ⟨19, .guard⟩], some (19, false)⟩ ?_ 30 rfl ?_ ?_;rotate_left;·(intros;go_simp<;>with_reducible rfl)
   try simp only[Act.put,sqA,sqB,sqC]
   refine tq ⟨some 92, .load 4 (.tmp 91), 4, "law.go:203", #[⟨30, .data⟩, ⟨19, .guard⟩], some (19, false)⟩ ?_ 31 rfl ?_ ?_;rotate_left;·(intros;go_simp<;>with_reducible rfl)
   try simp only[Act.put,sqA,sqB,sqC]
   refine wpAnyH_ready (rs := [24]) (by kernel_rfl) (by simp) ?_
   refine ar1 ⟨some 85, .call ⟨.value (.func 26), #[.tmp 84], #[55]⟩, 4, "law.go:203", #[⟨23, .data⟩, ⟨19, .chain⟩, ⟨19, .guard⟩], some (19, false)⟩ rfl (fun K hK => ?_)
   go_simp
   refine (tm_dead H4.out.tm HB8.out).mono ?_
   rintro e w9 ⟨rfl, hb9⟩
   have HB9 := Lib.hid (HB8.out.trans hb9)
   clear hb9
   dsimp only
   refine hK.out _ _ ⟨cell_later HB9.out HS0.out, cell_later HB9.out HT0.out, cell_later HB9.out HV3.out⟩ (fun hHeld => ?_);clear hK K;try simp only[Act.put,sqA,sqB,sqC]
   refine tq ⟨some 93, .binOp .neq 4 (.tmp 85) (.tmp 92) 4, 4, "law.go:203", #[⟨24, .data⟩, ⟨31, .data⟩, ⟨19, .guard⟩], some (19, false)⟩ ?_ 32 rfl ?_ ?_;rotate_left;·(intros;go_simp<;>with_reducible rfl)
   try simp only[Act.put,sqA,sqB,sqC]
   refine tq ⟨some 94, .pick (.tmp 80) (.const (.bool true)) (.tmp 93), 4, "law.go:203", #[⟨19, .data⟩, ⟨32, .data⟩], none⟩ ?_ 33 rfl ?_ ?_;rotate_left;·(intros;go_simp<;>with_reducible rfl)
   try simp only[Act.put,sqA,sqB,sqC]
   refine wpAnyH_done (by kernel_rfl) ?_ _
   clear hHeld
   go_wp2_with (fail)
   go_roundw
   case rel => exact ⟨k + 1, q, mb1, jb1, rb1, qb1, by go_num, by omega, H4.out.bel HB9.out, HI4.out⟩
   case measure => simp [intOf]; omega
  ·obtain rfl : k = L.length := by omega
   have hii : ¬ (L.length : Int) < (L.length : Int) := by omega
   obtain ⟨s0, -, t0, -⟩ := HX.out.cells
   have HRR := Lib.hid (show ∃ v, RefAt w.heap.size wr r pd.M v from by
    obtain ⟨F, D, G, E, h1, h2, -⟩ := HX.out.tm
    obtain ⟨v, hv, -⟩ := h2.prog
    exact ⟨v, hv⟩)
   obtain ⟨v, hv⟩ := HRR.out
   have HV := Lib.hid hv
   obtain ⟨rp, rcap, rfl⟩ := ownG_len hv.own
   obtain ⟨v0, -, -, -⟩ := hv.cells
   have HT0 := Lib.hid t0
   have HV0 := Lib.hid v0
   clear HRR hv
   go_wp2_with (fail)
   refine (tm_names HX.out.tm (by first | exact Bel.refl _ | exact (Bel.refl _).drew)).mono ?_
   rintro e w5 ⟨⟨nv, rfl, hnl⟩, hb5⟩
   obtain ⟨np, ncap, hnv⟩ := ownG_len hnl
   rw [List.length_map] at hnv
   subst hnv
   have HNM := Lib.hid hnl
   have HB5 := Lib.hid (show Bel wr w5 from by first | exact hb5 | exact (Bel.refl _).drew.trans hb5)
   have t0' := cell_later HB5.out HT0.out
   have v0' := cell_later HB5.out HV0.out
   clear hnl hb5 s0 t0 v0
   go_wp2_with (fail)
   go_loopw [14] (fun i y => NmRel13 w5 pd.M.L.length i y) (fun i _ => pd.M.L.length - (intOf i).toNat)
   case atStart => exact ⟨0, rfl, Nat.zero_le _, Bel.refl _⟩
   case round =>
    clear t0' v0'
    obtain ⟨k, rfl, hk, hbel⟩ := hrel
    have HBW := Lib.hid hbel
    clear hbel
    by_cases hlt : k < pd.M.L.length
    ·have hkk : (k : Int) < (pd.M.L.length : Int) := by omega
     have hne : pd.M.L.map (·.name) ≠ [] := by intro e; rw [List.map_eq_nil_iff] at e; rw [e] at hlt; simp at hlt
     obtain ⟨g, ncap', hv, _, hgl, _, hcs⟩ := ownG_cells strOk (HNM.out.bel HBW.out) hne
     rw [List.length_map] at hv
     simp only [Value.slice.injEq, true_and] at hv
     obtain ⟨rfl, rfl⟩ := hv
     have hne2 : pd.M.L ≠ [] := by intro e; rw [e] at hlt; simp at hlt
     obtain ⟨g2, rcap', hv, _, hgl2, _, hcs2⟩ := ownG_cells fileOk (HV.out.own.bel (HB5.out.trans HBW.out)) hne2
     simp only [Value.slice.injEq, true_and] at hv
     obtain ⟨rfl, rfl⟩ := hv
     obtain ⟨y, hy⟩ : ∃ y, y = pd.M.L[k] := ⟨_, rfl⟩
     have e0 := hcs k pd.M.L[k].name (by rw [List.getElem?_map, List.getElem?_eq_getElem hlt]; rfl) 0 _ rfl
     rw [← hy] at e0
     simp only [strEl, Nat.mul_one, Nat.add_zero] at e0
     have f0 := hcs2 k y (by rw [hy, List.getElem?_eq_getElem hlt]) 0 _ rfl
     simp only [fileEl, Nat.add_zero] at f0
     have t0 := cell_later (HB5.out.trans HBW.out) HT0.out
     have v0 := cell_later (HB5.out.trans HBW.out) HV0.out
     have hgood := good_len HX.out.tm.good
     clear hy hcs hcs2 hne hne2
     go_wp2_with (fail)
     refine wp_region_held_drew (S := fun z => z.cell? ⟨g, k, none⟩ = some (.string ⟨y.name.toArray⟩) ∧ z.cell? ⟨ms, 0, none⟩ = some (.pointer (some ⟨r, 0, none⟩)) ∧ z.cell? ⟨r, 0, none⟩ = some (.slice (some ⟨g2, 0, none⟩) pd.M.L.length rcap) ∧ z.cell? ⟨g2, k * 3, none⟩ = some (.string ⟨y.name.toArray⟩)) (by kernel_rfl) ⟨e0, t0, v0, f0⟩ (fun hHeld => ?_)
     refine tq ⟨some 117, .move (.tmp 13), 71, "law.go:212", #[], none⟩ ?_ 0 rfl ?_ ?_;rotate_left;·(intros;go_simp<;>with_reducible rfl)
     try simp only[Act.put,sqA,sqB,sqC]
     refine tq ⟨some 118, .move (.tmp 14), 3, "law.go:212", #[], none⟩ ?_ 1 rfl ?_ ?_;rotate_left;·(intros;go_simp<;>with_reducible rfl)
     try simp only[Act.put,sqA,sqB,sqC]
     refine tq ⟨some 119, .indexAddr 71 (.tmp 117) (.tmp 118), 0, "law.go:212", #[⟨0, .data⟩, ⟨1, .data⟩], none⟩ ?_ 2 rfl ?_ ?_;rotate_left;·(intros;go_simp<;>with_reducible rfl)
     try simp only[Act.put,sqA,sqB,sqC]
     refine tq ⟨some 120, .load 9 (.tmp 119), 9, "law.go:212", #[⟨2, .data⟩], none⟩ ?_ 3 rfl ?_ ?_;rotate_left;·(intros;go_simp<;>with_reducible rfl)
     try simp only[Act.put,sqA,sqB,sqC]
     refine tq ⟨some 121, .move (.tmp 8), 47, "law.go:212", #[], none⟩ ?_ 4 rfl ?_ ?_;rotate_left;·(intros;go_simp<;>with_reducible rfl)
     try simp only[Act.put,sqA,sqB,sqC]
     refine tq ⟨some 122, .nilCheck (.tmp 121), 0, "law.go:212", #[⟨4, .data⟩], none⟩ ?_ 5 rfl ?_ ?_;rotate_left;·(intros;go_simp<;>with_reducible rfl)
     try simp only[Act.put,sqA,sqB,sqC]
     refine tq ⟨some 123, .fieldAddr 66 (.tmp 122) 0, 0, "law.go:212", #[⟨5, .data⟩], none⟩ ?_ 6 rfl ?_ ?_;rotate_left;·(intros;go_simp<;>with_reducible rfl)
     try simp only[Act.put,sqA,sqB,sqC]
     refine tq ⟨some 124, .load 63 (.tmp 123), 63, "law.go:212", #[⟨6, .data⟩], none⟩ ?_ 7 rfl ?_ ?_;rotate_left;·(intros;go_simp<;>with_reducible rfl)
     try simp only[Act.put,sqA,sqB,sqC]
     refine tq ⟨some 125, .nilCheck (.tmp 124), 0, "law.go:212", #[⟨7, .data⟩], none⟩ ?_ 8 rfl ?_ ?_;rotate_left;·(intros;go_simp<;>with_reducible rfl)
     try simp only[Act.put,sqA,sqB,sqC]
     refine tq ⟨some 126, .fieldAddr 70 (.tmp 125) 0, 0, "law.go:212", #[⟨8, .data⟩], none⟩ ?_ 9 rfl ?_ ?_;rotate_left;·(intros;go_simp<;>with_reducible rfl)
     try simp only[Act.put,sqA,sqB,sqC]
     refine tq ⟨some 127, .load 68 (.tmp 126), 68, "law.go:212", #[⟨9, .data⟩], none⟩ ?_ 10 rfl ?_ ?_;rotate_left;·(intros;go_simp<;>with_reducible rfl)
     try simp only[Act.put,sqA,sqB,sqC]
     refine tq ⟨some 128, .move (.tmp 14), 3, "law.go:212", #[], none⟩ ?_ 11 rfl ?_ ?_;rotate_left;·(intros;go_simp<;>with_reducible rfl)
     try simp only[Act.put,sqA,sqB,sqC]
     refine tq ⟨some 129, .indexAddr 68 (.tmp 127) (.tmp 128), 0, "law.go:212", #[⟨10, .data⟩, ⟨11, .data⟩], none⟩ ?_ 12 rfl ?_ ?_;rotate_left;·(intros;go_simp<;>with_reducible rfl)
     try simp only[Act.put,sqA,sqB,sqC]
     refine tq ⟨some 130, .fieldAddr 74 (.tmp 129) 0, 0, "law.go:212", #[⟨12, .data⟩], none⟩ ?_ 13 rfl ?_ ?_;rotate_left;·(intros;go_simp<;>with_reducible rfl)
     try simp only[Act.put,sqA,sqB,sqC]
     refine tq ⟨some 131, .load 9 (.tmp 130), 9, "law.go:212", #[⟨13, .data⟩], none⟩ ?_ 14 rfl ?_ ?_;rotate_left;·(intros;go_simp<;>with_reducible rfl)
     try simp only[Act.put,sqA,sqB,sqC]
     refine tq ⟨some 132, .binOp .neq 9 (.tmp 120) (.tmp 131) 9, 4, "law.go:212", #[⟨3, .data⟩, ⟨14, .data⟩], none⟩ ?_ 15 rfl ?_ ?_;rotate_left;·(intros;go_simp<;>with_reducible rfl)
     try simp only[Act.put,sqA,sqB,sqC]
     refine wpAnyH_done (by kernel_rfl) ?_ _
     go_wp2_with (fail)
     go_roundw
     case rel => exact ⟨k + 1, by go_num, by omega, HBW.out.drew⟩
     case measure => simp [intOf]; omega
    ·obtain rfl : k = pd.M.L.length := by omega
     have hkk : ¬ (pd.M.L.length : Int) < (pd.M.L.length : Int) := by omega
     go_wp2_with (fail)
     go_ret
     exact ⟨rfl, HX.out.low.trans (HB5.out.trans HBW.out)⟩
end Go.Proofs.YtfbiinnenlgkfaaGreatDoor
