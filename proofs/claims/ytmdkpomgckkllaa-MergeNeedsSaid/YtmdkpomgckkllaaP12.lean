/- GPBoth, GPMrg, GPIdx, GGrp, GLaw2, GLaw3, GLaw4, laid together. -/
import Derived.Test.YtmdkpomgckkllaaP3
import Derived.Test.YtmdkpomgckkllaaP11
import Derived.Test.YtmdkpomgckkllaaP7
import Derived.Deep.RegionHeld
import Derived.Laws.MakeOwn
import Derived.Deep.QuietTactic
import Derived.BigQuiet
import Derived.Test.YtmdkpomgckkllaaP10
set_option linter.unusedSimpArgs false
set_option linter.unusedVariables false
/- The program's both: two sorted rows made one. -/
set_option maxRecDepth 100000
namespace Go.Proofs.Ytmdkpomgckkllaa
open Go.RowKit Go.Deep

theorem ent_head {w : World} {p : Option Addr} {x : EB} {A : List EB} (h : EntsAt w p (x :: A)) : ∃ B O sp, p = some ⟨B, O, sp⟩ ∧ w.cell? ⟨B, O, sp⟩ = some (.string x.k) ∧ w.cell? ⟨B, O + 1, none⟩ = some (.int .i64 x.q) ∧ w.cell? ⟨B, O + 2, none⟩ = some (.bool x.d) ∧ w.cell? ⟨B, O + 3, none⟩ = some (.string x.v) := by
  obtain ⟨a, ha, B, O, sp, hB, c⟩ := h 0 (by simp)
  rw [Nat.zero_mul, show a.add 0 = a from rfl] at hB
  subst hB
  exact ⟨B, O, sp, ha, c⟩
theorem ents_tail {w : World} {p : Option Addr} {x : EB} {A : List EB} (h : EntsAt w p (x :: A)) {c : Nat} (hc : A.length + 1 ≤ c) : EntsAt w (cutP p 1 c 4) A := by
  have := ents_drop h 1 c (by simpa using hc)
  simpa using this
/-- A row that is begun, and what is left of the two. -/
def BothAt (w : World) (La Lb : List EB) (av bv rv : Value) (x : World) : Prop :=
  ∃ (A B D : List EB) (pa pb : Option Addr) (ca cb : Nat), av = .slice pa A.length ca ∧ bv = .slice pb B.length cb ∧ EntsAt w pa A ∧ EntsAt w pb B ∧ A.length ≤ ca ∧ B.length ≤ cb ∧ (pa = none → ca = 0) ∧ (pb = none → cb = 0) ∧
    OwnG entEl w.heap.size x rv D ∧ D ++ bothL A B = bothL La Lb ∧ D.length + A.length + B.length ≤ La.length + Lb.length ∧ Bel w x
theorem cut_one (B O c : Nat) (sp : Option Nat) : cutP (some ⟨B, O, sp⟩) 1 c 4 = if c = 1 then some ⟨B, O, sp⟩ else some ⟨B, O + 4, none⟩ := by unfold cutP; split <;> rfl
theorem cut_none {p : Option Addr} {n c k : Nat} (hp : p = none → c = 0) : cutP p n c k = none → c - n = 0 := by
  intro h
  unfold cutP at h
  split at h
  · omega
  · cases p with
    | none => have := hp rfl; omega
    | some a => cases h
def lenOf12 : Value → Nat
  | .slice _ n _ => n
  | _ => 0
theorem entInfo12 : (Try.prog.info? 36).map (fun i => (i.zero, i.size, i.bytes)) = some (some (.agg #[.string ⟨#[]⟩, .int .i64 0, .bool false, .string ⟨#[]⟩]), 4, 48) := by kernel_rfl
set_option maxHeartbeats 4000000 in
theorem pboth_any (pa pb : Option Addr) (ca cb : Nat) (La Lb : List EB) (w : World) (ha : EntsAt w pa La) (hb : EntsAt w pb Lb) (hca : La.length ≤ ca) (hcb : Lb.length ≤ cb) (hna : pa = none → ca = 0) (hnb : pb = none → cb = 0) (hl : La.length + Lb.length ≤ 10000) :
    Calls Try.prog 40 #[.slice pa La.length ca, .slice pb Lb.length cb, .func (.func 26) #[] #[]] w fun r w' => ∃ v, r = .returned v ∧ OwnG entEl w.heap.size w' v (bothL La Lb) ∧ Bel w w' := by
  have HA := Lib.hid ha; have HB := Lib.hid hb
  have HNA := Lib.hid hna; have HNB := Lib.hid hnb
  clear ha hb hna hnb
  obtain ⟨i0, hi, hz0, hz1, hz2⟩ := info_parts entInfo12
  obtain ⟨wm, hmk, hown0, hgr⟩ := run_make_own (P := Try.prog) (w := w) w.heap.size 27 36 i0 _ 4 Try.underlying27 hi hz0 hz1 .i64 .i64 (La.length + Lb.length) (by rw [hz2]; omega) (by unfold maxLen; omega) (Nat.le_refl _)
  rw [Int.natCast_add] at hmk
  have HM := Lib.hid (show OwnG entEl w.heap.size wm (.slice (some ⟨w.heap.size, 0, none⟩) 0 (La.length + Lb.length)) [] from hown0)
  have hbm : Bel w wm := ⟨hgr.os, hgr.tape, hgr.output, hgr.size, fun k hk => hgr.block k hk (by simp)⟩
  have HBM := Lib.hid hbm
  clear hown0 hgr hbm hi hz0 hz1 hz2
  go_enter Try.func40, Try.ntmps40
  go_wp2_with (fail)
  clear hmk
  go_loopw [0, 1, 7] (fun av bv rv x => BothAt w La Lb av bv rv x) (fun av bv _ _ => lenOf12 av + lenOf12 bv)
  case atStart => exact ⟨La, Lb, [], pa, pb, ca, cb, rfl, rfl, HA.out, HB.out, hca, hcb, HNA.out, HNB.out, HM.out, rfl, by simp, HBM.out⟩
  case round =>
    obtain ⟨A, B, D, qa, qb, da, db, rfl, rfl, ha, hb, hda, hdb, hna, hnb, hown, hD, hlen, hw⟩ := hrel
    have HA1 := Lib.hid ha; have HB1 := Lib.hid hb; have HNA1 := Lib.hid hna; have HNB1 := Lib.hid hnb
    have HO := Lib.hid hown; have HDD := Lib.hid hD; have HW := Lib.hid hw; have HLEN := Lib.hid hlen
    have HDA := Lib.hid hda; have HDB := Lib.hid hdb
    clear hna hnb hD HA HB HNA HNB HM HBM
    obtain ⟨rp, rc, rfl⟩ := ownG_len hown
    cases A with
    | nil =>
      have HSA := Lib.hid (show SrcAt entEl wr (.slice qa 0 da) ([] : List EB) from SrcAt.of_ents (HA1.out.bel HW.out) HNA1.out)
      have HSB := Lib.hid (show ∀ z, Bel w z → SrcAt entEl z (.slice qb B.length db) (B) from fun z hz => SrcAt.of_ents (HB1.out.bel hz) HNB1.out)
      simp only [List.length_cons, List.length_nil] at hlen ⊢
      clear hown hw ha hb
      go_wp2_with (at_builtin; refine stop_here ?_)
      refine go_on ?_
      refine append_all entOk rfl _ _ rfl rfl HO.out ([] : List EB) rfl HSA.out (by simp only [List.length_cons, List.length_nil]; unfold maxLen; omega) (by simp only [List.length_cons, List.length_nil]; omega) HW.out.size ?_
      intro v7 w7 ho7 hk7 _
      have HO7 := Lib.hid ho7
      have HW7 := Lib.hid (HW.out.trans_below (hk7.own HW.out.size (fun kk hkk => (HO.out.lt kk hkk).1)))
      clear ho7 hk7
      go_wp2_with (at_builtin; refine stop_here ?_)
      refine go_on ?_
      refine append_all entOk rfl _ _ rfl rfl HO7.out (B) rfl (HSB.out _ HW7.out) (by simp only [List.length_append, List.length_cons, List.length_nil]; unfold maxLen; omega) (by simp only [List.length_append, List.length_cons, List.length_nil]; omega) HW7.out.size ?_
      intro v8 w8 ho8 hk8 _
      have HO8 := Lib.hid ho8
      have HW8 := Lib.hid (HW7.out.trans_below (hk8.own HW7.out.size (fun kk hkk => (HO7.out.lt kk hkk).1)))
      clear ho8 hk8
      go_wp2_with (fail)
      go_ret
      exact ⟨_, rfl, by rw [← HDD.out, both_nil_l]; simpa using HO8.out, HW8.out⟩
    | cons x A =>
      cases B with
      | nil =>
        have hxa : ¬ ((A.length : Int) + 1 ≤ 0) := by omega
        have hwA : (0 : Int) < (A.length : Int) + 1 := by omega
        have HSA := Lib.hid (show SrcAt entEl wr (.slice qa (A.length + 1) da) (x :: A) from SrcAt.of_ents (HA1.out.bel HW.out) HNA1.out)
        have HSB := Lib.hid (show ∀ z, Bel w z → SrcAt entEl z (.slice qb 0 db) ([] : List EB) from fun z hz => SrcAt.of_ents (HB1.out.bel hz) HNB1.out)
        simp only [List.length_cons, List.length_nil] at hlen ⊢
        clear hown hw ha hb
        go_wp2_with (at_builtin; refine stop_here ?_)
        refine go_on ?_
        refine append_all entOk rfl _ _ rfl rfl HO.out (x :: A) rfl HSA.out (by simp only [List.length_cons, List.length_nil]; unfold maxLen; omega) (by simp only [List.length_cons, List.length_nil]; omega) HW.out.size ?_
        intro v7 w7 ho7 hk7 _
        have HO7 := Lib.hid ho7
        have HW7 := Lib.hid (HW.out.trans_below (hk7.own HW.out.size (fun kk hkk => (HO.out.lt kk hkk).1)))
        clear ho7 hk7
        go_wp2_with (at_builtin; refine stop_here ?_)
        refine go_on ?_
        refine append_all entOk rfl _ _ rfl rfl HO7.out ([] : List EB) rfl (HSB.out _ HW7.out) (by simp only [List.length_append, List.length_cons, List.length_nil]; unfold maxLen; omega) (by simp only [List.length_append, List.length_cons, List.length_nil]; omega) HW7.out.size ?_
        intro v8 w8 ho8 hk8 _
        have HO8 := Lib.hid ho8
        have HW8 := Lib.hid (HW7.out.trans_below (hk8.own HW7.out.size (fun kk hkk => (HO7.out.lt kk hkk).1)))
        clear ho8 hk8
        go_wp2_with (fail)
        go_ret
        exact ⟨_, rfl, by rw [← HDD.out, both_nil_r]; simpa using HO8.out, HW8.out⟩
      | cons y B =>
        obtain ⟨B0, O0, sp0, rfl, -⟩ := ent_head ha
        obtain ⟨B1, O1, sp1, rfl, -⟩ := ent_head hb
        have HSW := Lib.hid (fun z (hz : Bel w z) => (show (z.cell? ⟨B0, O0, sp0⟩ = some (.string x.k) ∧ z.cell? ⟨B0, O0 + 1, none⟩ = some (.int .i64 x.q) ∧ z.cell? ⟨B0, O0 + 2, none⟩ = some (.bool x.d) ∧ z.cell? ⟨B0, O0 + 3, none⟩ = some (.string x.v)) ∧ z.cell? ⟨B1, O1, sp1⟩ = some (.string y.k) ∧ z.cell? ⟨B1, O1 + 1, none⟩ = some (.int .i64 y.q) ∧ z.cell? ⟨B1, O1 + 2, none⟩ = some (.bool y.d) ∧ z.cell? ⟨B1, O1 + 3, none⟩ = some (.string y.v) from by
          obtain ⟨_, _, _, e0, h0⟩ := ent_head (ha.bel hz)
          cases e0
          obtain ⟨_, _, _, e1, h1⟩ := ent_head (hb.bel hz)
          cases e1
          exact ⟨h0, h1⟩))
        have HS := Lib.hid (fun z (hz : Bel wr z) => HSW.out z (hw.trans hz))
        obtain ⟨⟨z0, z1, z2, z3⟩, y0, y1, y2, y3⟩ := HSW.out _ hw
        have HTA := Lib.hid (ents_tail ha hda)
        have HTB := Lib.hid (ents_tail hb hdb)
        have HCA := Lib.hid (cut_none (n := 1) (k := 4) HNA1.out)
        have HCB := Lib.hid (cut_none (n := 1) (k := 4) HNB1.out)
        rw [cut_one] at HTA HTB HCA HCB
        simp only [List.length_cons] at hlen hda hdb ⊢
        have hDl : D.length ≤ 10000 := by omega
        have hAl : A.length ≤ 10000 := by omega
        have hBl : B.length ≤ 10000 := by omega
        clear hown hw ha hb hlen hl hca hcb
        have hwA : (0 : Int) < (A.length : Int) + 1 := by omega
        have hwB : (0 : Int) < (B.length : Int) + 1 := by omega
        have hw1A : (1 : Int) ≤ (A.length : Int) + 1 := by omega
        have hw1B : (1 : Int) ≤ (B.length : Int) + 1 := by omega
        go_wp2_with (fail)
        refine wp_region_held_drew (S := fun z => (z.cell? ⟨B0, O0, sp0⟩ = some (.string x.k) ∧ z.cell? ⟨B0, O0 + 1, none⟩ = some (.int .i64 x.q) ∧ z.cell? ⟨B0, O0 + 2, none⟩ = some (.bool x.d) ∧ z.cell? ⟨B0, O0 + 3, none⟩ = some (.string x.v)) ∧ z.cell? ⟨B1, O1, sp1⟩ = some (.string y.k) ∧ z.cell? ⟨B1, O1 + 1, none⟩ = some (.int .i64 y.q) ∧ z.cell? ⟨B1, O1 + 2, none⟩ = some (.bool y.d) ∧ z.cell? ⟨B1, O1 + 3, none⟩ = some (.string y.v)) (by kernel_rfl) (HS.out _ (Bel.refl wr).drew) (fun hHeld => ?_)
        refine wpAnyH_take (i := 0) (oi := { dst := some 25, op := Op.move (Operand.tmp 2), type := 45, pos := "row.go:34", after := #[], guard := none }) (v := ?_) rfl (by kernel_rfl) (by kernel_rfl) (by kernel_rfl) (fun _ _ _ h => h) (Or.inl ⟨by rfl, ?_⟩) (by assumption) ?_
        rotate_left
        · (intro w hSw; (try dsimp only at hSw); first | (go_simp; done) | (go_simp; with_reducible rfl))
        try simp only [Act.put, List.setIfInBounds_toArray, List.set_cons_zero, List.set_cons_succ]
        refine wpAnyH_take (i := 1) (oi := { dst := some 26, op := Op.move (Operand.tmp 0), type := 27, pos := "row.go:34", after := #[], guard := none }) (v := ?_) rfl (by kernel_rfl) (by kernel_rfl) (by kernel_rfl) (fun _ _ _ h => h) (Or.inl ⟨by rfl, ?_⟩) (by assumption) ?_
        rotate_left
        · (intro w hSw; (try dsimp only at hSw); first | (go_simp; done) | (go_simp; with_reducible rfl))
        try simp only [Act.put, List.setIfInBounds_toArray, List.set_cons_zero, List.set_cons_succ]
        refine wpAnyH_take (i := 2) (oi := { dst := some 27, op := Op.indexAddr 27 (Operand.tmp 26) (Operand.const (Value.int IntKind.i64 0)), type := 0, pos := "row.go:34", after := #[{ on := 1, ground := Ground.data }], guard := none }) (v := ?_) rfl (by kernel_rfl) (by kernel_rfl) (by kernel_rfl) (fun _ _ _ h => h) (Or.inl ⟨by rfl, ?_⟩) (by assumption) ?_
        rotate_left
        · (intro w hSw; (try dsimp only at hSw); first | (go_simp; done) | (go_simp; with_reducible rfl))
        try simp only [Act.put, List.setIfInBounds_toArray, List.set_cons_zero, List.set_cons_succ]
        refine wpAnyH_take (i := 3) (oi := { dst := some 28, op := Op.load 36 (Operand.tmp 27), type := 36, pos := "row.go:34", after := #[{ on := 2, ground := Ground.data }], guard := none }) (v := ?_) rfl (by kernel_rfl) (by kernel_rfl) (by kernel_rfl) (fun _ _ _ h => h) (Or.inl ⟨by rfl, ?_⟩) (by assumption) ?_
        rotate_left
        · (intro w hSw; (try dsimp only at hSw); first | (go_simp; done) | (go_simp; with_reducible rfl))
        try simp only [Act.put, List.setIfInBounds_toArray, List.set_cons_zero, List.set_cons_succ]
        refine wpAnyH_take (i := 4) (oi := { dst := some 29, op := Op.move (Operand.tmp 1), type := 27, pos := "row.go:34", after := #[], guard := none }) (v := ?_) rfl (by kernel_rfl) (by kernel_rfl) (by kernel_rfl) (fun _ _ _ h => h) (Or.inl ⟨by rfl, ?_⟩) (by assumption) ?_
        rotate_left
        · (intro w hSw; (try dsimp only at hSw); first | (go_simp; done) | (go_simp; with_reducible rfl))
        try simp only [Act.put, List.setIfInBounds_toArray, List.set_cons_zero, List.set_cons_succ]
        refine wpAnyH_take (i := 5) (oi := { dst := some 30, op := Op.indexAddr 27 (Operand.tmp 29) (Operand.const (Value.int IntKind.i64 0)), type := 0, pos := "row.go:34", after := #[{ on := 4, ground := Ground.data }], guard := none }) (v := ?_) rfl (by kernel_rfl) (by kernel_rfl) (by kernel_rfl) (fun _ _ _ h => h) (Or.inl ⟨by rfl, ?_⟩) (by assumption) ?_
        rotate_left
        · (intro w hSw; (try dsimp only at hSw); first | (go_simp; done) | (go_simp; with_reducible rfl))
        try simp only [Act.put, List.setIfInBounds_toArray, List.set_cons_zero, List.set_cons_succ]
        refine wpAnyH_take (i := 6) (oi := { dst := some 31, op := Op.load 36 (Operand.tmp 30), type := 36, pos := "row.go:34", after := #[{ on := 5, ground := Ground.data }], guard := none }) (v := ?_) rfl (by kernel_rfl) (by kernel_rfl) (by kernel_rfl) (fun _ _ _ h => h) (Or.inl ⟨by rfl, ?_⟩) (by assumption) ?_
        rotate_left
        · (intro w hSw; (try dsimp only at hSw); first | (go_simp; done) | (go_simp; with_reducible rfl))
        try simp only [Act.put, List.setIfInBounds_toArray, List.set_cons_zero, List.set_cons_succ]
        refine wpAnyH_ready (rs := [7]) (by kernel_rfl) (by simp) ?_
        refine AllReadyH.cons (o := { dst := some 32, op := Op.call { callee := Callee.value (Operand.tmp 25), args := #[Operand.tmp 28, Operand.tmp 31], argTypes := #[36, 36] }, type := 4, pos := "row.go:34", after := #[{ on := 0, ground := Ground.data }, { on := 3, ground := Ground.data }, { on := 6, ground := Ground.data }], guard := none }) rfl (fun K hK => ?_) AllReadyH.nil
        go_simp
        refine (pless_any x y _).mono ?_
        rintro r w2 ⟨rfl, hb2⟩
        have HB2 := Lib.hid ((Bel.refl wr).drew.trans hb2)
        dsimp only
        refine hK.out _ _ (HS.out _ HB2.out) (fun hHeld => ?_)
        clear hK K hb2
        try simp only [Act.put, List.setIfInBounds_toArray, List.set_cons_zero, List.set_cons_succ]
        refine wpAnyH_take (i := 8) (oi := { dst := some 24, op := Op.assign (Operand.tmp 32), type := 4, pos := "row.go:34", after := #[{ on := 7, ground := Ground.data }, { on := 7, ground := Ground.chain }], guard := none }) (v := ?_) rfl (by kernel_rfl) (by kernel_rfl) (by kernel_rfl) (fun _ _ _ h => h) (Or.inl ⟨by rfl, ?_⟩) (by assumption) ?_
        rotate_left
        · (intro w hSw; (try dsimp only at hSw); first | (go_simp; done) | (go_simp; with_reducible rfl))
        try simp only [Act.put, List.setIfInBounds_toArray, List.set_cons_zero, List.set_cons_succ]
        refine wpAnyH_done (by kernel_rfl) ?_ _
        clear hHeld
        cases hl1 : lessB x y with
        | true =>
          have HX := Lib.hid (both_left (a := A) (b := B) hl1)
          clear hl1
          go_wp2_with (fail)
          refine wp_region_held_drew (S := (fun z => (z.cell? ⟨B0, O0, sp0⟩ = some (.string x.k) ∧ z.cell? ⟨B0, O0 + 1, none⟩ = some (.int .i64 x.q) ∧ z.cell? ⟨B0, O0 + 2, none⟩ = some (.bool x.d) ∧ z.cell? ⟨B0, O0 + 3, none⟩ = some (.string x.v)) ∧ z.cell? ⟨B1, O1, sp1⟩ = some (.string y.k) ∧ z.cell? ⟨B1, O1 + 1, none⟩ = some (.int .i64 y.q) ∧ z.cell? ⟨B1, O1 + 2, none⟩ = some (.bool y.d) ∧ z.cell? ⟨B1, O1 + 3, none⟩ = some (.string y.v))) (by kernel_rfl) (HS.out _ HB2.out.drew) (fun hHeld => ?_)
          refine wpAnyH_take (i := 0) (oi := { dst := some 33, op := Op.move (Operand.tmp 7), type := 27, pos := "row.go:35", after := #[], guard := none }) (v := ?_) rfl (by kernel_rfl) (by kernel_rfl) (by kernel_rfl) (fun _ _ _ h => h) (Or.inl ⟨by rfl, ?_⟩) (by assumption) ?_
          rotate_left
          · (intro w hSw; (try dsimp only at hSw); first | (go_simp; done) | (go_simp; with_reducible rfl))
          try simp only [Act.put, List.setIfInBounds_toArray, List.set_cons_zero, List.set_cons_succ]
          refine wpAnyH_take (i := 1) (oi := { dst := some 34, op := Op.move (Operand.tmp 0), type := 27, pos := "row.go:35", after := #[], guard := none }) (v := ?_) rfl (by kernel_rfl) (by kernel_rfl) (by kernel_rfl) (fun _ _ _ h => h) (Or.inl ⟨by rfl, ?_⟩) (by assumption) ?_
          rotate_left
          · (intro w hSw; (try dsimp only at hSw); first | (go_simp; done) | (go_simp; with_reducible rfl))
          try simp only [Act.put, List.setIfInBounds_toArray, List.set_cons_zero, List.set_cons_succ]
          refine wpAnyH_take (i := 2) (oi := { dst := some 35, op := Op.indexAddr 27 (Operand.tmp 34) (Operand.const (Value.int IntKind.i64 0)), type := 0, pos := "row.go:35", after := #[{ on := 1, ground := Ground.data }], guard := none }) (v := ?_) rfl (by kernel_rfl) (by kernel_rfl) (by kernel_rfl) (fun _ _ _ h => h) (Or.inl ⟨by rfl, ?_⟩) (by assumption) ?_
          rotate_left
          · (intro w hSw; (try dsimp only at hSw); first | (go_simp; done) | (go_simp; with_reducible rfl))
          try simp only [Act.put, List.setIfInBounds_toArray, List.set_cons_zero, List.set_cons_succ]
          refine wpAnyH_take (i := 3) (oi := { dst := some 36, op := Op.load 36 (Operand.tmp 35), type := 36, pos := "row.go:35", after := #[{ on := 2, ground := Ground.data }], guard := none }) (v := ?_) rfl (by kernel_rfl) (by kernel_rfl) (by kernel_rfl) (fun _ _ _ h => h) (Or.inl ⟨by rfl, ?_⟩) (by assumption) ?_
          rotate_left
          · (intro w hSw; (try dsimp only at hSw); first | (go_simp; done) | (go_simp; with_reducible rfl))
          try simp only [Act.put, List.setIfInBounds_toArray, List.set_cons_zero, List.set_cons_succ]
          refine wpAnyH_take (i := 6) (oi := { dst := some 39, op := Op.move (Operand.tmp 0), type := 27, pos := "row.go:35", after := #[], guard := none }) (v := ?_) rfl (by kernel_rfl) (by kernel_rfl) (by kernel_rfl) (fun _ _ _ h => h) (Or.inl ⟨by rfl, ?_⟩) (by assumption) ?_
          rotate_left
          · (intro w hSw; (try dsimp only at hSw); first | (go_simp; done) | (go_simp; with_reducible rfl))
          try simp only [Act.put, List.setIfInBounds_toArray, List.set_cons_zero, List.set_cons_succ]
          refine wpAnyH_take (i := 7) (oi := { dst := some 40, op := Op.slice 27 (Operand.tmp 39) (some (Operand.const (Value.int IntKind.i64 1))) none none, type := 27, pos := "row.go:35", after := #[{ on := 6, ground := Ground.data }], guard := none }) (v := ?_) rfl (by kernel_rfl) (by kernel_rfl) (by kernel_rfl) (fun _ _ _ h => h) (Or.inl ⟨by rfl, ?_⟩) (by assumption) ?_
          rotate_left
          · (intro w hSw; (try dsimp only at hSw); first | (go_simp; done) | (go_simp; with_reducible rfl))
          try simp only [Act.put, List.setIfInBounds_toArray, List.set_cons_zero, List.set_cons_succ]
          refine wpAnyH_ready (rs := [4]) (by kernel_rfl) (by simp) ?_
          refine AllReadyH.cons (o := { dst := some 37, op := Op.buildSlice 27 1 #[(0, Operand.tmp 36)], type := 27, pos := "row.go:35", after := #[{ on := 3, ground := Ground.data }], guard := none }) rfl (fun K hK => ?_) AllReadyH.nil
          go_simp
          have hbq := HB2.out.drew.alloc (.cells #[.string x.k, .int .i64 x.q, .bool x.d, .string x.v] 36)
          have HLIT := Lib.hid (tnew12 w2.drew (.cells #[.string x.k, .int .i64 x.q, .bool x.d, .string x.v] 36))
          have HO3 := Lib.hid (((HO.out.bel HB2.out).drew).alloc (.cells #[.string x.k, .int .i64 x.q, .bool x.d, .string x.v] 36))
          refine hK.out _ _ (HS.out _ hbq) (fun hHeld => ?_)
          clear hK K
          try simp only [Act.put, List.setIfInBounds_toArray, List.set_cons_zero, List.set_cons_succ]
          obtain ⟨w3, hw3⟩ : ∃ z, z = (w2.alloc (.cells #[.string x.k, .int .i64 x.q, .bool x.d, .string x.v] 36)).drew := ⟨_, rfl⟩
          have HB3 := Lib.hid (show Bel wr w3 by rw [hw3]; exact hbq)
          replace HLIT := Lib.hid (show w3.heap[w2.heap.size]? = some (.cells #[.string x.k, .int .i64 x.q, .bool x.d, .string x.v] 36 (0, 0)) by rw [hw3]; exact HLIT.out)
          replace HO3 := Lib.hid (show OwnG entEl w.heap.size w3 (.slice rp D.length rc) D by rw [hw3]; exact HO3.out)
          clear hbq
          rw [← hw3] at hHeld ⊢
          clear hw3
          refine wpAnyH_ready (rs := [5]) (by kernel_rfl) (by simp) ?_
          refine AllReadyH.cons (o := { dst := some 38, op := Op.call { callee := Callee.builtin Builtin.append, args := #[Operand.tmp 33, Operand.tmp 37], argTypes := #[27, 27] }, type := 27, pos := "row.go:35", after := #[{ on := 0, ground := Ground.data }, { on := 4, ground := Ground.data }], guard := none }) rfl (fun K hK => ?_) AllReadyH.nil
          refine step_append_all entOk rfl (.tmp 33) (.tmp 37) rfl rfl HO3.out [x] rfl (src_at [x] HLIT.out rfl rfl) (by simp only [List.length_singleton]; unfold maxLen; omega) (by simp only [List.length_singleton]; omega) (HW.out.trans HB3.out).size ?_
          intro v7 w7 ho7 hk7 _
          have HO7 := Lib.hid ho7
          have HW7 := Lib.hid ((HW.out.trans HB3.out).trans_below (hk7.own (HW.out.trans HB3.out).size (fun kk hkk => (HO3.out.lt kk hkk).1)))
          clear ho7 hk7
          refine hK.out _ _ (HSW.out _ HW7.out) (fun hHeld => ?_)
          clear hK K
          try simp only [Act.put, List.setIfInBounds_toArray, List.set_cons_zero, List.set_cons_succ]
          refine wpAnyH_take (i := 8) (oi := { dst := some 7, op := Op.assign (Operand.tmp 38), type := 27, pos := "row.go:35", after := #[{ on := 5, ground := Ground.data }, { on := 5, ground := Ground.chain }, { on := 0, ground := Ground.phase }, { on := 1, ground := Ground.phase }, { on := 2, ground := Ground.phase }, { on := 3, ground := Ground.phase }, { on := 4, ground := Ground.phase }, { on := 5, ground := Ground.phase }, { on := 6, ground := Ground.textOnly Departure.lateStores }, { on := 7, ground := Ground.textOnly Departure.lateStoresUnsure }], guard := none }) (v := ?_) rfl (by kernel_rfl) (by kernel_rfl) (by kernel_rfl) (fun _ _ _ h => h) (Or.inl ⟨by rfl, ?_⟩) (by assumption) ?_
          rotate_left
          · (intro w hSw; (try dsimp only at hSw); first | (go_simp; done) | (go_simp; with_reducible rfl))
          try simp only [Act.put, List.setIfInBounds_toArray, List.set_cons_zero, List.set_cons_succ]
          refine wpAnyH_take (i := 9) (oi := { dst := some 0, op := Op.assign (Operand.tmp 40), type := 27, pos := "row.go:35", after := #[{ on := 7, ground := Ground.data }, { on := 8, ground := Ground.chain }, { on := 0, ground := Ground.phase }, { on := 1, ground := Ground.phase }, { on := 2, ground := Ground.phase }, { on := 3, ground := Ground.phase }, { on := 4, ground := Ground.phase }, { on := 5, ground := Ground.phase }, { on := 6, ground := Ground.phase }, { on := 7, ground := Ground.phase }, { on := 8, ground := Ground.phase }], guard := none }) (v := ?_) rfl (by kernel_rfl) (by kernel_rfl) (by kernel_rfl) (fun _ _ _ h => h) (Or.inl ⟨by rfl, ?_⟩) (by assumption) ?_
          rotate_left
          · (intro w hSw; (try dsimp only at hSw); first | (go_simp; done) | (go_simp; with_reducible rfl))
          try simp only [Act.put, List.setIfInBounds_toArray, List.set_cons_zero, List.set_cons_succ]
          refine wpAnyH_done (by kernel_rfl) ?_ _
          clear hHeld
          go_wp2_with (fail)
          exact ⟨⟨A, y :: B, D ++ [x], _, _, _, db, rfl, rfl, HTA.out, HB1.out, by omega, HDB.out, HCA.out, HNB1.out, HO7.out, by rw [List.append_assoc, List.singleton_append, ← HX.out]; exact HDD.out, by have := HLEN.out; simp only [List.length_append, List.length_cons, List.length_nil] at this ⊢; omega, HW7.out⟩, by simp only [lenOf12]; omega⟩
        | false =>
          have HL1 := Lib.hid hl1
          clear hl1
          go_wp2_with (fail)
          refine wp_region_held_drew (S := fun z => (z.cell? ⟨B0, O0, sp0⟩ = some (.string x.k) ∧ z.cell? ⟨B0, O0 + 1, none⟩ = some (.int .i64 x.q) ∧ z.cell? ⟨B0, O0 + 2, none⟩ = some (.bool x.d) ∧ z.cell? ⟨B0, O0 + 3, none⟩ = some (.string x.v)) ∧ z.cell? ⟨B1, O1, sp1⟩ = some (.string y.k) ∧ z.cell? ⟨B1, O1 + 1, none⟩ = some (.int .i64 y.q) ∧ z.cell? ⟨B1, O1 + 2, none⟩ = some (.bool y.d) ∧ z.cell? ⟨B1, O1 + 3, none⟩ = some (.string y.v)) (by kernel_rfl) (HS.out _ (HB2.out).drew) (fun hHeld => ?_)
          refine wpAnyH_take (i := 0) (oi := { dst := some 42, op := Op.move (Operand.tmp 2), type := 45, pos := "row.go:36", after := #[], guard := none }) (v := ?_) rfl (by kernel_rfl) (by kernel_rfl) (by kernel_rfl) (fun _ _ _ h => h) (Or.inl ⟨by rfl, ?_⟩) (by assumption) ?_
          rotate_left
          · (intro w hSw; (try dsimp only at hSw); first | (go_simp; done) | (go_simp; with_reducible rfl))
          try simp only [Act.put, List.setIfInBounds_toArray, List.set_cons_zero, List.set_cons_succ]
          refine wpAnyH_take (i := 1) (oi := { dst := some 43, op := Op.move (Operand.tmp 1), type := 27, pos := "row.go:36", after := #[], guard := none }) (v := ?_) rfl (by kernel_rfl) (by kernel_rfl) (by kernel_rfl) (fun _ _ _ h => h) (Or.inl ⟨by rfl, ?_⟩) (by assumption) ?_
          rotate_left
          · (intro w hSw; (try dsimp only at hSw); first | (go_simp; done) | (go_simp; with_reducible rfl))
          try simp only [Act.put, List.setIfInBounds_toArray, List.set_cons_zero, List.set_cons_succ]
          refine wpAnyH_take (i := 2) (oi := { dst := some 44, op := Op.indexAddr 27 (Operand.tmp 43) (Operand.const (Value.int IntKind.i64 0)), type := 0, pos := "row.go:36", after := #[{ on := 1, ground := Ground.data }], guard := none }) (v := ?_) rfl (by kernel_rfl) (by kernel_rfl) (by kernel_rfl) (fun _ _ _ h => h) (Or.inl ⟨by rfl, ?_⟩) (by assumption) ?_
          rotate_left
          · (intro w hSw; (try dsimp only at hSw); first | (go_simp; done) | (go_simp; with_reducible rfl))
          try simp only [Act.put, List.setIfInBounds_toArray, List.set_cons_zero, List.set_cons_succ]
          refine wpAnyH_take (i := 3) (oi := { dst := some 45, op := Op.load 36 (Operand.tmp 44), type := 36, pos := "row.go:36", after := #[{ on := 2, ground := Ground.data }], guard := none }) (v := ?_) rfl (by kernel_rfl) (by kernel_rfl) (by kernel_rfl) (fun _ _ _ h => h) (Or.inl ⟨by rfl, ?_⟩) (by assumption) ?_
          rotate_left
          · (intro w hSw; (try dsimp only at hSw); first | (go_simp; done) | (go_simp; with_reducible rfl))
          try simp only [Act.put, List.setIfInBounds_toArray, List.set_cons_zero, List.set_cons_succ]
          refine wpAnyH_take (i := 4) (oi := { dst := some 46, op := Op.move (Operand.tmp 0), type := 27, pos := "row.go:36", after := #[], guard := none }) (v := ?_) rfl (by kernel_rfl) (by kernel_rfl) (by kernel_rfl) (fun _ _ _ h => h) (Or.inl ⟨by rfl, ?_⟩) (by assumption) ?_
          rotate_left
          · (intro w hSw; (try dsimp only at hSw); first | (go_simp; done) | (go_simp; with_reducible rfl))
          try simp only [Act.put, List.setIfInBounds_toArray, List.set_cons_zero, List.set_cons_succ]
          refine wpAnyH_take (i := 5) (oi := { dst := some 47, op := Op.indexAddr 27 (Operand.tmp 46) (Operand.const (Value.int IntKind.i64 0)), type := 0, pos := "row.go:36", after := #[{ on := 4, ground := Ground.data }], guard := none }) (v := ?_) rfl (by kernel_rfl) (by kernel_rfl) (by kernel_rfl) (fun _ _ _ h => h) (Or.inl ⟨by rfl, ?_⟩) (by assumption) ?_
          rotate_left
          · (intro w hSw; (try dsimp only at hSw); first | (go_simp; done) | (go_simp; with_reducible rfl))
          try simp only [Act.put, List.setIfInBounds_toArray, List.set_cons_zero, List.set_cons_succ]
          refine wpAnyH_take (i := 6) (oi := { dst := some 48, op := Op.load 36 (Operand.tmp 47), type := 36, pos := "row.go:36", after := #[{ on := 5, ground := Ground.data }], guard := none }) (v := ?_) rfl (by kernel_rfl) (by kernel_rfl) (by kernel_rfl) (fun _ _ _ h => h) (Or.inl ⟨by rfl, ?_⟩) (by assumption) ?_
          rotate_left
          · (intro w hSw; (try dsimp only at hSw); first | (go_simp; done) | (go_simp; with_reducible rfl))
          try simp only [Act.put, List.setIfInBounds_toArray, List.set_cons_zero, List.set_cons_succ]
          refine wpAnyH_ready (rs := [7]) (by kernel_rfl) (by simp) ?_
          refine AllReadyH.cons (o := { dst := some 49, op := Op.call { callee := Callee.value (Operand.tmp 42), args := #[Operand.tmp 45, Operand.tmp 48], argTypes := #[36, 36] }, type := 4, pos := "row.go:36", after := #[{ on := 0, ground := Ground.data }, { on := 3, ground := Ground.data }, { on := 6, ground := Ground.data }], guard := none }) rfl (fun K hK => ?_) AllReadyH.nil
          go_simp
          refine (pless_any y x _).mono ?_
          rintro r w4 ⟨rfl, hb4⟩
          have HB4 := Lib.hid ((HB2.out).drew.trans hb4)
          dsimp only
          refine hK.out _ _ (HS.out _ HB4.out) (fun hHeld => ?_)
          clear hK K hb4
          try simp only [Act.put, List.setIfInBounds_toArray, List.set_cons_zero, List.set_cons_succ]
          refine wpAnyH_take (i := 8) (oi := { dst := some 41, op := Op.assign (Operand.tmp 49), type := 4, pos := "row.go:36", after := #[{ on := 7, ground := Ground.data }, { on := 7, ground := Ground.chain }], guard := none }) (v := ?_) rfl (by kernel_rfl) (by kernel_rfl) (by kernel_rfl) (fun _ _ _ h => h) (Or.inl ⟨by rfl, ?_⟩) (by assumption) ?_
          rotate_left
          · (intro w hSw; (try dsimp only at hSw); first | (go_simp; done) | (go_simp; with_reducible rfl))
          try simp only [Act.put, List.setIfInBounds_toArray, List.set_cons_zero, List.set_cons_succ]
          refine wpAnyH_done (by kernel_rfl) ?_ _
          clear hHeld
          cases hl2 : lessB y x with
          | true =>
            have HX := Lib.hid (both_right (a := A) (b := B) HL1.out hl2)
            clear hl2
            go_wp2_with (fail)
            refine wp_region_held_drew (S := (fun z => (z.cell? ⟨B0, O0, sp0⟩ = some (.string x.k) ∧ z.cell? ⟨B0, O0 + 1, none⟩ = some (.int .i64 x.q) ∧ z.cell? ⟨B0, O0 + 2, none⟩ = some (.bool x.d) ∧ z.cell? ⟨B0, O0 + 3, none⟩ = some (.string x.v)) ∧ z.cell? ⟨B1, O1, sp1⟩ = some (.string y.k) ∧ z.cell? ⟨B1, O1 + 1, none⟩ = some (.int .i64 y.q) ∧ z.cell? ⟨B1, O1 + 2, none⟩ = some (.bool y.d) ∧ z.cell? ⟨B1, O1 + 3, none⟩ = some (.string y.v))) (by kernel_rfl) (HS.out _ HB4.out.drew) (fun hHeld => ?_)
            refine wpAnyH_take (i := 0) (oi := { dst := some 50, op := Op.move (Operand.tmp 7), type := 27, pos := "row.go:37", after := #[], guard := none }) (v := ?_) rfl (by kernel_rfl) (by kernel_rfl) (by kernel_rfl) (fun _ _ _ h => h) (Or.inl ⟨by rfl, ?_⟩) (by assumption) ?_
            rotate_left
            · (intro w hSw; (try dsimp only at hSw); first | (go_simp; done) | (go_simp; with_reducible rfl))
            try simp only [Act.put, List.setIfInBounds_toArray, List.set_cons_zero, List.set_cons_succ]
            refine wpAnyH_take (i := 1) (oi := { dst := some 51, op := Op.move (Operand.tmp 1), type := 27, pos := "row.go:37", after := #[], guard := none }) (v := ?_) rfl (by kernel_rfl) (by kernel_rfl) (by kernel_rfl) (fun _ _ _ h => h) (Or.inl ⟨by rfl, ?_⟩) (by assumption) ?_
            rotate_left
            · (intro w hSw; (try dsimp only at hSw); first | (go_simp; done) | (go_simp; with_reducible rfl))
            try simp only [Act.put, List.setIfInBounds_toArray, List.set_cons_zero, List.set_cons_succ]
            refine wpAnyH_take (i := 2) (oi := { dst := some 52, op := Op.indexAddr 27 (Operand.tmp 51) (Operand.const (Value.int IntKind.i64 0)), type := 0, pos := "row.go:37", after := #[{ on := 1, ground := Ground.data }], guard := none }) (v := ?_) rfl (by kernel_rfl) (by kernel_rfl) (by kernel_rfl) (fun _ _ _ h => h) (Or.inl ⟨by rfl, ?_⟩) (by assumption) ?_
            rotate_left
            · (intro w hSw; (try dsimp only at hSw); first | (go_simp; done) | (go_simp; with_reducible rfl))
            try simp only [Act.put, List.setIfInBounds_toArray, List.set_cons_zero, List.set_cons_succ]
            refine wpAnyH_take (i := 3) (oi := { dst := some 53, op := Op.load 36 (Operand.tmp 52), type := 36, pos := "row.go:37", after := #[{ on := 2, ground := Ground.data }], guard := none }) (v := ?_) rfl (by kernel_rfl) (by kernel_rfl) (by kernel_rfl) (fun _ _ _ h => h) (Or.inl ⟨by rfl, ?_⟩) (by assumption) ?_
            rotate_left
            · (intro w hSw; (try dsimp only at hSw); first | (go_simp; done) | (go_simp; with_reducible rfl))
            try simp only [Act.put, List.setIfInBounds_toArray, List.set_cons_zero, List.set_cons_succ]
            refine wpAnyH_take (i := 6) (oi := { dst := some 56, op := Op.move (Operand.tmp 1), type := 27, pos := "row.go:37", after := #[], guard := none }) (v := ?_) rfl (by kernel_rfl) (by kernel_rfl) (by kernel_rfl) (fun _ _ _ h => h) (Or.inl ⟨by rfl, ?_⟩) (by assumption) ?_
            rotate_left
            · (intro w hSw; (try dsimp only at hSw); first | (go_simp; done) | (go_simp; with_reducible rfl))
            try simp only [Act.put, List.setIfInBounds_toArray, List.set_cons_zero, List.set_cons_succ]
            refine wpAnyH_take (i := 7) (oi := { dst := some 57, op := Op.slice 27 (Operand.tmp 56) (some (Operand.const (Value.int IntKind.i64 1))) none none, type := 27, pos := "row.go:37", after := #[{ on := 6, ground := Ground.data }], guard := none }) (v := ?_) rfl (by kernel_rfl) (by kernel_rfl) (by kernel_rfl) (fun _ _ _ h => h) (Or.inl ⟨by rfl, ?_⟩) (by assumption) ?_
            rotate_left
            · (intro w hSw; (try dsimp only at hSw); first | (go_simp; done) | (go_simp; with_reducible rfl))
            try simp only [Act.put, List.setIfInBounds_toArray, List.set_cons_zero, List.set_cons_succ]
            refine wpAnyH_ready (rs := [4]) (by kernel_rfl) (by simp) ?_
            refine AllReadyH.cons (o := { dst := some 54, op := Op.buildSlice 27 1 #[(0, Operand.tmp 53)], type := 27, pos := "row.go:37", after := #[{ on := 3, ground := Ground.data }], guard := none }) rfl (fun K hK => ?_) AllReadyH.nil
            go_simp
            have hbq := HB4.out.drew.alloc (.cells #[.string y.k, .int .i64 y.q, .bool y.d, .string y.v] 36)
            have HLIT := Lib.hid (tnew12 w4.drew (.cells #[.string y.k, .int .i64 y.q, .bool y.d, .string y.v] 36))
            have HO3 := Lib.hid (((HO.out.bel HB4.out).drew).alloc (.cells #[.string y.k, .int .i64 y.q, .bool y.d, .string y.v] 36))
            refine hK.out _ _ (HS.out _ hbq) (fun hHeld => ?_)
            clear hK K
            try simp only [Act.put, List.setIfInBounds_toArray, List.set_cons_zero, List.set_cons_succ]
            obtain ⟨w3, hw3⟩ : ∃ z, z = (w4.alloc (.cells #[.string y.k, .int .i64 y.q, .bool y.d, .string y.v] 36)).drew := ⟨_, rfl⟩
            have HB3 := Lib.hid (show Bel wr w3 by rw [hw3]; exact hbq)
            replace HLIT := Lib.hid (show w3.heap[w4.heap.size]? = some (.cells #[.string y.k, .int .i64 y.q, .bool y.d, .string y.v] 36 (0, 0)) by rw [hw3]; exact HLIT.out)
            replace HO3 := Lib.hid (show OwnG entEl w.heap.size w3 (.slice rp D.length rc) D by rw [hw3]; exact HO3.out)
            clear hbq
            rw [← hw3] at hHeld ⊢
            clear hw3
            refine wpAnyH_ready (rs := [5]) (by kernel_rfl) (by simp) ?_
            refine AllReadyH.cons (o := { dst := some 55, op := Op.call { callee := Callee.builtin Builtin.append, args := #[Operand.tmp 50, Operand.tmp 54], argTypes := #[27, 27] }, type := 27, pos := "row.go:37", after := #[{ on := 0, ground := Ground.data }, { on := 4, ground := Ground.data }], guard := none }) rfl (fun K hK => ?_) AllReadyH.nil
            refine step_append_all entOk rfl (.tmp 50) (.tmp 54) rfl rfl HO3.out [y] rfl (src_at [y] HLIT.out rfl rfl) (by simp only [List.length_singleton]; unfold maxLen; omega) (by simp only [List.length_singleton]; omega) (HW.out.trans HB3.out).size ?_
            intro v7 w7 ho7 hk7 _
            have HO7 := Lib.hid ho7
            have HW7 := Lib.hid ((HW.out.trans HB3.out).trans_below (hk7.own (HW.out.trans HB3.out).size (fun kk hkk => (HO3.out.lt kk hkk).1)))
            clear ho7 hk7
            refine hK.out _ _ (HSW.out _ HW7.out) (fun hHeld => ?_)
            clear hK K
            try simp only [Act.put, List.setIfInBounds_toArray, List.set_cons_zero, List.set_cons_succ]
            refine wpAnyH_take (i := 8) (oi := { dst := some 7, op := Op.assign (Operand.tmp 55), type := 27, pos := "row.go:37", after := #[{ on := 5, ground := Ground.data }, { on := 5, ground := Ground.chain }, { on := 0, ground := Ground.phase }, { on := 1, ground := Ground.phase }, { on := 2, ground := Ground.phase }, { on := 3, ground := Ground.phase }, { on := 4, ground := Ground.phase }, { on := 5, ground := Ground.phase }, { on := 6, ground := Ground.textOnly Departure.lateStores }, { on := 7, ground := Ground.textOnly Departure.lateStoresUnsure }], guard := none }) (v := ?_) rfl (by kernel_rfl) (by kernel_rfl) (by kernel_rfl) (fun _ _ _ h => h) (Or.inl ⟨by rfl, ?_⟩) (by assumption) ?_
            rotate_left
            · (intro w hSw; (try dsimp only at hSw); first | (go_simp; done) | (go_simp; with_reducible rfl))
            try simp only [Act.put, List.setIfInBounds_toArray, List.set_cons_zero, List.set_cons_succ]
            refine wpAnyH_take (i := 9) (oi := { dst := some 1, op := Op.assign (Operand.tmp 57), type := 27, pos := "row.go:37", after := #[{ on := 7, ground := Ground.data }, { on := 8, ground := Ground.chain }, { on := 0, ground := Ground.phase }, { on := 1, ground := Ground.phase }, { on := 2, ground := Ground.phase }, { on := 3, ground := Ground.phase }, { on := 4, ground := Ground.phase }, { on := 5, ground := Ground.phase }, { on := 6, ground := Ground.phase }, { on := 7, ground := Ground.phase }, { on := 8, ground := Ground.phase }], guard := none }) (v := ?_) rfl (by kernel_rfl) (by kernel_rfl) (by kernel_rfl) (fun _ _ _ h => h) (Or.inl ⟨by rfl, ?_⟩) (by assumption) ?_
            rotate_left
            · (intro w hSw; (try dsimp only at hSw); first | (go_simp; done) | (go_simp; with_reducible rfl))
            try simp only [Act.put, List.setIfInBounds_toArray, List.set_cons_zero, List.set_cons_succ]
            refine wpAnyH_done (by kernel_rfl) ?_ _
            clear hHeld
            go_wp2_with (fail)
            exact ⟨⟨x :: A, B, D ++ [y], _, _, da, _, rfl, rfl, HA1.out, HTB.out, HDA.out, by omega, HNA1.out, HCB.out, HO7.out, by rw [List.append_assoc, List.singleton_append, ← HX.out]; exact HDD.out, by have := HLEN.out; simp only [List.length_append, List.length_cons, List.length_nil] at this ⊢; omega, HW7.out⟩, by simp only [lenOf12]; omega⟩
          | false =>
            have HX := Lib.hid (both_drop (a := A) (b := B) HL1.out hl2)
            clear hl2
            go_wp2_with (fail)
            exact ⟨⟨x :: A, B, D, _, _, da, _, rfl, rfl, HA1.out, HTB.out, HDA.out, by omega, HNA1.out, HCB.out, HO.out.bel HB4.out, by rw [← HX.out]; exact HDD.out, by have := HLEN.out; simp only [List.length_cons] at this ⊢; omega, HW.out.trans HB4.out⟩, by simp only [lenOf12]; omega⟩
end Go.Proofs.Ytmdkpomgckkllaa
/- The program's Merge: rows are halved. -/
set_option maxRecDepth 100000
namespace Go.Proofs.Ytmdkpomgckkllaa
open Go.RowKit Go.Deep

theorem half12 (n : Nat) (hn : n ≤ 1000) : IntKind.i64.wrap ((n : Int) / 2) = ((n / 2 : Nat) : Int) := by rw [IntKind.wrap_i64]; omega
theorem cutP_one (p : Option Addr) (n c : Nat) : cutP p n c 1 = if c = n then p else Option.map (fun x => x.add n) p := by unfold cutP; rw [Nat.mul_one]
theorem halves12 {R : List (List EB)} (n : Nat) : mergeB (mergeB (R.take n).flatten ++ mergeB (R.drop n).flatten) = mergeB R.flatten := by
  rw [merge_parts, ← List.flatten_append, List.take_append_drop]
set_option maxHeartbeats 4000000 in
theorem pmerged_any : ∀ (N : Nat) (p : Option Addr) (cap : Nat) (R : List (List EB)) (w : World), R.length ≤ N → RowsAt w p R → R.length ≤ cap → R.length ≤ 10 → (∀ L ∈ R, Srt L ∧ L.length ≤ 500) →
    Calls Try.prog 25 #[.slice p R.length cap, .func (.func 26) #[] #[]] w fun r w' => ∃ v, r = .returned v ∧ OwnG entEl w.heap.size w' v (mergeB R.flatten) ∧ Bel w w' := by
  intro N
  induction N with
  | zero =>
    intro p cap R w hN h hcap h10 hR
    obtain rfl : R = [] := List.length_eq_zero_iff.1 (by omega)
    clear h hcap h10 hR
    go_enter Try.func25, Try.ntmps25
    go_wp2_with (fail)
    go_ret
    exact ⟨_, rfl, OwnG.nil _ _ _, Bel.refl w⟩
  | succ N ih =>
    intro p cap R w hN h hcap h10 hR
    have IH := Lib.hid ih
    clear ih
    match R, hN, h, hcap, h10, hR with
    | [], hN, h, hcap, h10, hR =>
      clear h hcap h10 hR hN
      go_enter Try.func25, Try.ntmps25
      go_wp2_with (fail)
      go_ret
      exact ⟨_, rfl, OwnG.nil _ _ _, Bel.refl w⟩
    | [L], hN, h, hcap, h10, hR =>
      obtain ⟨a, q, c, rfl, h1, h2, h3⟩ := h 0 (by simp)
      rw [show a.add 0 = a from rfl] at h1
      have HC := Lib.hid (pclone_any q c L w h2 (by have := (hR L (by simp)).2; omega))
      have HM := Lib.hid (show mergeB [L].flatten = L by simp only [List.flatten_cons, List.flatten_nil, List.append_nil]; exact merge_self (hR L (by simp)).1)
      have h1' : w.cell? a = some (.slice q L.length c) := h1
      clear h hcap h10 hR hN h1 h2 h3
      go_enter Try.func25, Try.ntmps25
      go_wp2_with (fail)
      refine HC.out.mono ?_
      rintro r w2 ⟨v, rfl, ho, hb⟩
      have HO := Lib.hid ho; have HB := Lib.hid hb
      clear ho hb
      go_wp2_with (fail)
      go_ret
      exact ⟨_, rfl, by rw [HM.out]; exact HO.out, HB.out⟩
    | X :: Y :: R', hN, h, hcap, h10, hR =>
      obtain ⟨R, hRR⟩ : ∃ R, R = X :: Y :: R' := ⟨_, rfl⟩
      have hl2 : 2 ≤ R.length := by rw [hRR]; simp
      rw [← hRR] at hN h hcap h10 hR ⊢
      clear hRR
      obtain ⟨n, hn⟩ : ∃ n, n = R.length / 2 := ⟨_, rfl⟩
      have hn1 : n ≤ R.length := by omega
      have hn2 : 1 ≤ n := by omega
      have hn3 : n < R.length := by omega
      have hz : ¬ (R.length : Int) = 0 := by omega
      have ho : ¬ (R.length : Int) = 1 := by omega
      have hq := half12 R.length (by omega)
      rw [← hn] at hq
      have hni : (n : Int) ≤ (R.length : Int) := by omega
      have hnc : (n : Int) ≤ (cap : Int) := by omega
      have hn0 : (0 : Int) ≤ (n : Int) := by omega
      have hlt : (R.take n).length = n := by rw [List.length_take]; omega
      have hld : (R.drop n).length = R.length - n := List.length_drop
      have HT := Lib.hid (fun z (hz : Bel w z) => IH.out p cap (R.take n) z (by rw [hlt]; omega) (rows_take (h.bel hz) n) (by rw [hlt]; omega) (by rw [hlt]; omega) (fun L hL => hR L (List.mem_of_mem_take hL)))
      have HD := Lib.hid (fun z (hz : Bel w z) => IH.out (cutP p n cap 1) (cap - n) (R.drop n) z (by rw [hld]; omega) (rows_drop (h.bel hz) n cap hcap) (by rw [hld]; omega) (by rw [hld]; omega) (fun L hL => hR L (List.mem_of_mem_drop hL)))
      rw [hlt] at HT
      rw [hld] at HD
      simp only [cutP_one] at HD
      have HH := Lib.hid (halves12 (R := R) n)
      have hsz : ∀ (Q : List (List EB)), Q.length ≤ 10 → (∀ L ∈ Q, Srt L ∧ L.length ≤ 500) → Q.flatten.length ≤ 5000 := fun Q hQ hQ' => by
        have : Q.flatten.length ≤ Q.length * 500 := by
          clear hQ
          induction Q with
          | nil => simp
          | cons L Q ih =>
            have h1 := (hQ' L (by simp)).2
            have h2 := ih (fun L hL => hQ' L (by simp [hL]))
            simp only [List.flatten_cons, List.length_append, List.length_cons]
            omega
        omega
      have hs1 := hsz (R.take n) (by omega) (fun L hL => hR L (List.mem_of_mem_take hL))
      have hs2 := hsz (R.drop n) (by omega) (fun L hL => hR L (List.mem_of_mem_drop hL))
      have hm1 := merge_len (R.take n).flatten
      have hm2 := merge_len (R.drop n).flatten
      have HSA := Lib.hid (merge_pair (R.take n).flatten)
      have HSB := Lib.hid (merge_pair (R.drop n).flatten)
      obtain ⟨A, hA⟩ : ∃ A, A = mergeB (R.take n).flatten := ⟨_, rfl⟩
      obtain ⟨B, hB⟩ : ∃ B, B = mergeB (R.drop n).flatten := ⟨_, rfl⟩
      rw [← hA] at HT HH hm1 HSA
      rw [← hB] at HD HH hm2 HSB
      have hAl : A.length ≤ 5000 := by omega
      have hBl : B.length ≤ 5000 := by omega
      have HBO := Lib.hid (both_is HSA.out HSB.out)
      clear hlt hld hsz hs1 hs2 hm1 hm2 hA hB h hR hN IH hn
      go_enter Try.func25, Try.ntmps25
      go_wp2_with (fail)
      refine wp_region_held_drew (S := fun _ => True) (by kernel_rfl) trivial (fun hHeld => ?_)
      refine wpAnyH_take (i := 0) (oi := { dst := some 9, op := Op.move (Operand.tmp 0), type := 22, pos := "row.go:25", after := #[], guard := none }) (v := ?_) rfl (by kernel_rfl) (by kernel_rfl) (by kernel_rfl) (fun _ _ _ h => h) (Or.inl ⟨by rfl, ?_⟩) (by assumption) ?_
      rotate_left
      · (intro w hSw; (try dsimp only at hSw); first | (go_simp; done) | (go_simp; with_reducible rfl))
      try simp only [Act.put, List.setIfInBounds_toArray, List.set_cons_zero, List.set_cons_succ]
      refine wpAnyH_take (i := 1) (oi := { dst := some 10, op := Op.move (Operand.tmp 5), type := 3, pos := "row.go:25", after := #[], guard := none }) (v := ?_) rfl (by kernel_rfl) (by kernel_rfl) (by kernel_rfl) (fun _ _ _ h => h) (Or.inl ⟨by rfl, ?_⟩) (by assumption) ?_
      rotate_left
      · (intro w hSw; (try dsimp only at hSw); first | (go_simp; done) | (go_simp; with_reducible rfl))
      try simp only [Act.put, List.setIfInBounds_toArray, List.set_cons_zero, List.set_cons_succ]
      refine wpAnyH_take (i := 2) (oi := { dst := some 11, op := Op.binOp BinOp.quo 3 (Operand.tmp 10) (Operand.const (Value.int IntKind.i64 2)) 3, type := 3, pos := "row.go:25", after := #[{ on := 1, ground := Ground.data }], guard := none }) (v := ?_) rfl (by kernel_rfl) (by kernel_rfl) (by kernel_rfl) (fun _ _ _ h => h) (Or.inl ⟨by rfl, ?_⟩) (by assumption) ?_
      rotate_left
      · (intro w hSw; (try dsimp only at hSw); first | (go_simp; done) | (go_simp; with_reducible rfl))
      try simp only [Act.put, List.setIfInBounds_toArray, List.set_cons_zero, List.set_cons_succ]
      refine wpAnyH_take (i := 3) (oi := { dst := some 12, op := Op.slice 22 (Operand.tmp 9) none (some (Operand.tmp 11)) none, type := 22, pos := "row.go:25", after := #[{ on := 0, ground := Ground.data }, { on := 2, ground := Ground.data }], guard := none }) (v := ?_) rfl (by kernel_rfl) (by kernel_rfl) (by kernel_rfl) (fun _ _ _ h => h) (Or.inl ⟨by rfl, ?_⟩) (by assumption) ?_
      rotate_left
      · (intro w hSw; (try dsimp only at hSw); first | (go_simp; done) | (go_simp; with_reducible rfl))
      try simp only [Act.put, List.setIfInBounds_toArray, List.set_cons_zero, List.set_cons_succ]
      refine wpAnyH_take (i := 4) (oi := { dst := some 13, op := Op.move (Operand.tmp 1), type := 45, pos := "row.go:25", after := #[], guard := none }) (v := ?_) rfl (by kernel_rfl) (by kernel_rfl) (by kernel_rfl) (fun _ _ _ h => h) (Or.inl ⟨by rfl, ?_⟩) (by assumption) ?_
      rotate_left
      · (intro w hSw; (try dsimp only at hSw); first | (go_simp; done) | (go_simp; with_reducible rfl))
      try simp only [Act.put, List.setIfInBounds_toArray, List.set_cons_zero, List.set_cons_succ]
      refine wpAnyH_take (i := 6) (oi := { dst := some 15, op := Op.move (Operand.tmp 0), type := 22, pos := "row.go:25", after := #[], guard := none }) (v := ?_) rfl (by kernel_rfl) (by kernel_rfl) (by kernel_rfl) (fun _ _ _ h => h) (Or.inl ⟨by rfl, ?_⟩) (by assumption) ?_
      rotate_left
      · (intro w hSw; (try dsimp only at hSw); first | (go_simp; done) | (go_simp; with_reducible rfl))
      try simp only [Act.put, List.setIfInBounds_toArray, List.set_cons_zero, List.set_cons_succ]
      refine wpAnyH_take (i := 7) (oi := { dst := some 16, op := Op.move (Operand.tmp 5), type := 3, pos := "row.go:25", after := #[], guard := none }) (v := ?_) rfl (by kernel_rfl) (by kernel_rfl) (by kernel_rfl) (fun _ _ _ h => h) (Or.inl ⟨by rfl, ?_⟩) (by assumption) ?_
      rotate_left
      · (intro w hSw; (try dsimp only at hSw); first | (go_simp; done) | (go_simp; with_reducible rfl))
      try simp only [Act.put, List.setIfInBounds_toArray, List.set_cons_zero, List.set_cons_succ]
      refine wpAnyH_take (i := 8) (oi := { dst := some 17, op := Op.binOp BinOp.quo 3 (Operand.tmp 16) (Operand.const (Value.int IntKind.i64 2)) 3, type := 3, pos := "row.go:25", after := #[{ on := 7, ground := Ground.data }], guard := none }) (v := ?_) rfl (by kernel_rfl) (by kernel_rfl) (by kernel_rfl) (fun _ _ _ h => h) (Or.inl ⟨by rfl, ?_⟩) (by assumption) ?_
      rotate_left
      · (intro w hSw; (try dsimp only at hSw); first | (go_simp; done) | (go_simp; with_reducible rfl))
      try simp only [Act.put, List.setIfInBounds_toArray, List.set_cons_zero, List.set_cons_succ]
      refine wpAnyH_take (i := 9) (oi := { dst := some 18, op := Op.slice 22 (Operand.tmp 15) (some (Operand.tmp 17)) none none, type := 22, pos := "row.go:25", after := #[{ on := 6, ground := Ground.data }, { on := 8, ground := Ground.data }], guard := none }) (v := ?_) rfl (by kernel_rfl) (by kernel_rfl) (by kernel_rfl) (fun _ _ _ h => h) (Or.inl ⟨by rfl, ?_⟩) (by assumption) ?_
      rotate_left
      · (intro w hSw; (try dsimp only at hSw); first | (go_simp; done) | (go_simp; with_reducible rfl))
      try simp only [Act.put, List.setIfInBounds_toArray, List.set_cons_zero, List.set_cons_succ]
      refine wpAnyH_take (i := 10) (oi := { dst := some 19, op := Op.move (Operand.tmp 1), type := 45, pos := "row.go:25", after := #[], guard := none }) (v := ?_) rfl (by kernel_rfl) (by kernel_rfl) (by kernel_rfl) (fun _ _ _ h => h) (Or.inl ⟨by rfl, ?_⟩) (by assumption) ?_
      rotate_left
      · (intro w hSw; (try dsimp only at hSw); first | (go_simp; done) | (go_simp; with_reducible rfl))
      try simp only [Act.put, List.setIfInBounds_toArray, List.set_cons_zero, List.set_cons_succ]
      refine wpAnyH_take (i := 12) (oi := { dst := some 21, op := Op.move (Operand.tmp 1), type := 45, pos := "row.go:25", after := #[], guard := none }) (v := ?_) rfl (by kernel_rfl) (by kernel_rfl) (by kernel_rfl) (fun _ _ _ h => h) (Or.inl ⟨by rfl, ?_⟩) (by assumption) ?_
      rotate_left
      · (intro w hSw; (try dsimp only at hSw); first | (go_simp; done) | (go_simp; with_reducible rfl))
      try simp only [Act.put, List.setIfInBounds_toArray, List.set_cons_zero, List.set_cons_succ]
      refine wpAnyH_ready (rs := [5]) (by kernel_rfl) (by simp) ?_
      refine AllReadyH.cons (o := { dst := some 14, op := Op.call { callee := Callee.value (Operand.func 25), args := #[Operand.tmp 12, Operand.tmp 13], argTypes := #[22, 45] }, type := 27, pos := "row.go:25", after := #[{ on := 3, ground := Ground.data }, { on := 4, ground := Ground.data }], guard := none }) rfl (fun K hK => ?_) AllReadyH.nil
      go_simp
      refine (HT.out _ (Bel.refl w).drew).mono ?_
      rintro r w2 ⟨v2, rfl, ho2, hb2⟩
      have HO2 := Lib.hid ho2
      have HB2 := Lib.hid ((Bel.refl w).drew.trans hb2)
      dsimp only
      refine hK.out _ _ trivial (fun hHeld => ?_)
      clear hK K hb2 ho2
      try simp only [Act.put, List.setIfInBounds_toArray, List.set_cons_zero, List.set_cons_succ]
      refine wpAnyH_ready (rs := [11]) (by kernel_rfl) (by simp) ?_
      refine AllReadyH.cons (o := { dst := some 20, op := Op.call { callee := Callee.value (Operand.func 25), args := #[Operand.tmp 18, Operand.tmp 19], argTypes := #[22, 45] }, type := 27, pos := "row.go:25", after := #[{ on := 9, ground := Ground.data }, { on := 10, ground := Ground.data }, { on := 5, ground := Ground.chain }], guard := none }) rfl (fun K hK => ?_) AllReadyH.nil
      go_simp
      refine (HD.out _ HB2.out).mono ?_
      rintro r w3 ⟨v3, rfl, ho3, hb3⟩
      have HO3 := Lib.hid ho3
      have HB3 := Lib.hid (HB2.out.trans hb3)
      have HO2b := Lib.hid (HO2.out.bel hb3)
      dsimp only
      refine hK.out _ _ trivial (fun hHeld => ?_)
      clear hK K hb3 ho3
      try simp only [Act.put, List.setIfInBounds_toArray, List.set_cons_zero, List.set_cons_succ]
      obtain ⟨p2, c2, rfl, he2, hc2⟩ := ownG_ents12 HO2b.out
      obtain ⟨p3, c3, rfl, he3, hc3⟩ := ownG_ents12 HO3.out
      have HBT := Lib.hid (pboth_any p2 p3 c2 c3 A B w3 he2 he3 hc2 hc3 (ownG_none HO2b.out) (ownG_none HO3.out) (by omega))
      clear he2 he3
      refine wpAnyH_ready (rs := [13]) (by kernel_rfl) (by simp) ?_
      refine AllReadyH.cons (o := { dst := some 22, op := Op.call { callee := Callee.value (Operand.func 40), args := #[Operand.tmp 14, Operand.tmp 20, Operand.tmp 21], argTypes := #[27, 27, 45] }, type := 27, pos := "row.go:25", after := #[{ on := 5, ground := Ground.data }, { on := 11, ground := Ground.data }, { on := 12, ground := Ground.data }, { on := 11, ground := Ground.chain }], guard := none }) rfl (fun K hK => ?_) AllReadyH.nil
      go_simp
      refine HBT.out.mono ?_
      rintro r w4 ⟨v4, rfl, ho4, hb4⟩
      have HO4 := Lib.hid ho4
      have HB4 := Lib.hid (HB3.out.trans hb4)
      dsimp only
      refine hK.out _ _ trivial (fun hHeld => ?_)
      clear hK K hb4 ho4
      try simp only [Act.put, List.setIfInBounds_toArray, List.set_cons_zero, List.set_cons_succ]
      refine wpAnyH_take (i := 14) (oi := { dst := some 4, op := Op.assign (Operand.tmp 22), type := 27, pos := "row.go:25", after := #[{ on := 13, ground := Ground.data }, { on := 13, ground := Ground.chain }, { on := 0, ground := Ground.phase }, { on := 1, ground := Ground.phase }, { on := 2, ground := Ground.phase }, { on := 3, ground := Ground.phase }, { on := 4, ground := Ground.phase }, { on := 5, ground := Ground.phase }, { on := 6, ground := Ground.phase }, { on := 7, ground := Ground.phase }, { on := 8, ground := Ground.phase }, { on := 9, ground := Ground.phase }, { on := 10, ground := Ground.phase }, { on := 11, ground := Ground.phase }, { on := 12, ground := Ground.phase }, { on := 13, ground := Ground.phase }], guard := none }) (v := ?_) rfl (by kernel_rfl) (by kernel_rfl) (by kernel_rfl) (fun _ _ _ h => h) (Or.inl ⟨by rfl, ?_⟩) (by assumption) ?_
      rotate_left
      · (intro w hSw; (try dsimp only at hSw); first | (go_simp; done) | (go_simp; with_reducible rfl))
      try simp only [Act.put, List.setIfInBounds_toArray, List.set_cons_zero, List.set_cons_succ]
      refine wpAnyH_done (by kernel_rfl) ?_ _
      go_wp2_with (fail)
      go_ret
      exact ⟨_, rfl, by rw [← HH.out, ← HBO.out]; exact HO4.out.low HB3.out.size, HB4.out⟩
theorem pmerge_any (p : Option Addr) (cap : Nat) (R : List (List EB)) (w : World) (h : RowsAt w p R) (hcap : R.length ≤ cap) (h10 : R.length ≤ 10) (hR : ∀ L ∈ R, Srt L ∧ L.length ≤ 500) :
    Calls Try.prog 11 #[.slice p R.length cap] w fun r w' => ∃ v, r = .returned v ∧ OwnG entEl w.heap.size w' v (mergeB R.flatten) ∧ Bel w w' := by
  have HC := Lib.hid (pmerged_any R.length p cap R w (Nat.le_refl _) h hcap h10 hR)
  clear h hR
  go_enter Try.func11, Try.ntmps11
  go_wp2_with (fail)
  refine HC.out.mono ?_
  rintro r w2 ⟨v, rfl, ho, hb⟩
  have HO := Lib.hid ho; have HB := Lib.hid hb
  clear ho hb
  go_wp2_with (fail)
  go_ret
  exact ⟨_, rfl, HO.out, HB.out⟩
end Go.Proofs.Ytmdkpomgckkllaa
/- slices.IndexFunc of entries over any closure; what keys and Visible ask of an entry. -/
set_option maxRecDepth 100000
namespace Go.Proofs.Ytmdkpomgckkllaa
open Go.RowKit Go.Deep

/-- The place of the first such element; behind all where there is none. -/
def idxF (P : EB → Bool) : List EB → Nat
  | [] => 0
  | x :: l => if P x = true then 0 else idxF P l + 1
theorem idx_at {P : EB → Bool} : ∀ {L : List EB} {k : Nat} (hk : k < L.length), (∀ j (h : j < L.length), j < k → P L[j] = false) → P L[k] = true → idxF P L = k
  | x :: l, 0, hk, _, h => by rw [idxF, if_pos (show P x = true from h)]
  | x :: l, k + 1, hk, h1, h => by
    have h0 := h1 0 (by simp) (by omega)
    rw [idxF, if_neg (by rw [show P x = false from h0]; simp), idx_at (k := k) (by simpa using hk) (fun j hj hjk => h1 (j + 1) (by simp; omega) (by omega)) h]
theorem idx_no {P : EB → Bool} : ∀ {L : List EB}, (∀ j (h : j < L.length), P L[j] = false) → idxF P L = L.length
  | [], _ => rfl
  | x :: l, h => by
    have h0 := h 0 (by simp)
    rw [idxF, if_neg (by rw [show P x = false from h0]; simp), idx_no (L := l) (fun j hj => h (j + 1) (by simp; omega))]; simp
theorem idx_le (P : EB → Bool) : ∀ L : List EB, idxF P L ≤ L.length
  | [] => Nat.le_refl _
  | x :: l => by
    rw [idxF]
    split
    · simp
    · have := idx_le P l; simp only [List.length_cons]; omega
def idxI12 (n i : Nat) : Int := if i < n then i else -1
theorem idxI_yes {n i : Nat} (h : i < n) : idxI12 n i = i := if_pos h
theorem idxI_no {n i : Nat} (h : ¬ i < n) : idxI12 n i = -1 := if_neg h
set_option maxHeartbeats 1000000 in
theorem pidx_any (p : Option Addr) (cap : Nat) (L : List EB) (g : Nat) (u : Value) (P : EB → Bool) (w : World) (h : EntsAt w p L) (hL : L.length ≤ 100000)
    (hcall : ∀ (kv : Value) (x : World), (callFunc g #[kv, u]).run Try.prog x = .ok (.enter g #[kv, u]) x)
    (hc : ∀ (e : EB) (x : World), Bel w x → Calls Try.prog g #[.agg #[.string e.k, .int .i64 e.q, .bool e.d, .string e.v], u] x fun r w' => r = .returned (.bool (P e)) ∧ Bel x w') :
    Calls Try.prog 29 #[.slice p L.length cap, .func (.func g) #[] #[u]] w fun r w' => r = .returned (.int .i64 (idxI12 L.length (idxF P L))) ∧ Bel w w' := by
  have H := Lib.hid h; have HC := Lib.hid hc
  clear h hc
  go_enter Try.func29, Try.ntmps29
  go_wp2_with (fail)
  go_loopw [8] (fun iv x => ∃ k : Nat, k ≤ L.length ∧ iv = .int .i64 k ∧ (∀ j (h : j < L.length), j < k → P L[j] = false) ∧ Bel w x) (fun iv _ => L.length - (intOf iv).toNat)
  case atStart => exact ⟨0, Nat.zero_le _, rfl, fun _ _ h => by omega, Bel.refl w⟩
  case round =>
    obtain ⟨k, hk, rfl, hall, hw⟩ := hrel
    have HW := Lib.hid hw
    by_cases hkl : k < L.length
    · obtain ⟨a, ha0, -⟩ := (H.out.bel hw) k hkl
      subst ha0
      obtain ⟨B, O, sp, ha, z0, z1, z2, z3⟩ := ent_at12 (H.out.bel hw) hkl
      have HCK := Lib.hid (HC.out L[k] wr hw)
      have HNX := Lib.hid (show P L[k] = false → ∀ j (h : j < L.length), j < k + 1 → P L[j] = false from fun hh j h hj => by
        by_cases e : j = k
        · subst e; exact hh
        · exact hall j h (by omega))
      have HYS := Lib.hid (show P L[k] = true → idxF P L = k from fun hh => idx_at hkl hall hh)
      have hii : (k : Int) < (L.length : Int) := by omega
      generalize L[k] = e0 at *
      clear hw hall
      go_wp2_with (fail)
      refine HCK.out.mono ?_
      rintro r w2 ⟨rfl, hb2⟩
      have HW2 := Lib.hid (HW.out.trans hb2)
      clear hb2
      cases hp : P e0 with
      | false =>
        have HA := Lib.hid (HNX.out hp)
        clear hp
        go_wp2_with (fail)
        go_roundw
        case rel => exact ⟨k + 1, hkl, by go_num, HA.out, HW2.out⟩
        case measure => simp [intOf]; omega
      | true =>
        have HA := Lib.hid (show idxI12 L.length (idxF P L) = (k : Int) by rw [HYS.out hp, idxI_yes hkl])
        clear hp
        go_wp2_with (fail)
        go_ret
        exact ⟨by rw [HA.out]; rfl, HW2.out⟩
    · have HA := Lib.hid (show idxI12 L.length (idxF P L) = -1 by rw [idx_no (fun j h => hall j h (by omega)), idxI_no (by omega)])
      have hii : ¬ (k : Int) < (L.length : Int) := by omega
      clear hw hall
      go_wp2_with (fail)
      go_ret
      exact ⟨by rw [HA.out]; rfl, HW.out⟩
theorem run_enter12 {f : FuncId} {fn : Func} {c : Code} (hf : Try.prog.funcs[f]? = some fn) (hname : (fn.name == "runtime.NumGoroutine") = false) (hb : fn.body = some c) (args : Array Value) (w : World) : (callFunc f args).run Try.prog w = .ok (.enter f args) w := by
  have h1 : fn.name ≠ "runtime.NumGoroutine" := by simpa using hname
  simp [callFunc, hf, h1, hb]
/-- Another key than the one in the box. -/
theorem pkeyne_any (b : Nat) (key : ByteArray) (e : EB) (w : World) (hb : w.cell? ⟨b, 0, none⟩ = some (.string key)) :
    Calls Try.prog 42 #[.agg #[.string e.k, .int .i64 e.q, .bool e.d, .string e.v], .pointer (some ⟨b, 0, none⟩)] w fun r w' => r = .returned (.bool (!(e.k.toList == key.toList))) ∧ Bel w w' := by
  have hlt := blk_of_cell hb
  have q0 := cl12 ((Bel.refl w).alloc (.cells #[.string e.k, .int .i64 e.q, .bool e.d, .string e.v] 36)) hb
  go_enter Try.func42, Try.ntmps42
  go_wp2_with (fail)
  go_ret
  exact ⟨rfl, (Bel.refl w).alloc _⟩
theorem pseqle_any (b : Nat) (s : Int) (e : EB) (w : World) (hb : w.cell? ⟨b, 0, none⟩ = some (.int .i64 s)) :
    Calls Try.prog 30 #[.agg #[.string e.k, .int .i64 e.q, .bool e.d, .string e.v], .pointer (some ⟨b, 0, none⟩)] w fun r w' => r = .returned (.bool (decide (e.q ≤ s))) ∧ Bel w w' := by
  have hlt := blk_of_cell hb
  have q0 := cl12 ((Bel.refl w).alloc (.cells #[.string e.k, .int .i64 e.q, .bool e.d, .string e.v] 36)) hb
  go_enter Try.func30, Try.ntmps30
  go_wp2_with (fail)
  go_ret
  exact ⟨rfl, (Bel.refl w).alloc _⟩
end Go.Proofs.Ytmdkpomgckkllaa
/- Mathematics of chapter 12, third part: a sorted row by its keys: what is seen and needed of each key's entries. -/
namespace Go.Proofs.Ytmdkpomgckkllaa
open Go.RowKit

/-- How many entries have the first one's key. -/
def hdN (x : EB) (l : List EB) : Nat := idxF (fun e => !(e.k.toList == x.k.toList)) (x :: l)
theorem hdN_eq (x : EB) (l : List EB) : hdN x l = idxF (fun e => !(e.k.toList == x.k.toList)) l + 1 := by
  unfold hdN
  rw [idxF, if_neg (by simp)]
theorem hdN_pos (x : EB) (l : List EB) : 1 ≤ hdN x l := by rw [hdN_eq]; omega
theorem hdN_le (x : EB) (l : List EB) : hdN x l ≤ l.length + 1 := by have := idx_le (fun e => !(e.k.toList == x.k.toList)) (x :: l); simpa [hdN] using this
/-- A key's entries, and where they lie. -/
structure GR where
  p : Option Addr
  c : Nat
  g : List EB
def grpsA (p : Option Addr) (c : Nat) : (L : List EB) → List GR
  | [] => []
  | x :: l => ⟨p, c, (x :: l).take (hdN x l)⟩ :: grpsA (cutP p (hdN x l) c 4) (c - hdN x l) ((x :: l).drop (hdN x l))
termination_by L => L.length
decreasing_by
  have := hdN_pos x l
  simp only [List.length_drop, List.length_cons]; omega
theorem grpsA_nil (p : Option Addr) (c : Nat) : grpsA p c [] = [] := by rw [grpsA]
theorem grpsA_cons (p : Option Addr) (c : Nat) (x : EB) (l : List EB) : grpsA p c (x :: l) = ⟨p, c, (x :: l).take (hdN x l)⟩ :: grpsA (cutP p (hdN x l) c 4) (c - hdN x l) ((x :: l).drop (hdN x l)) := by rw [grpsA]
theorem grps_len : ∀ (n : Nat) (p : Option Addr) (c : Nat) (L : List EB), L.length ≤ n → (grpsA p c L).length ≤ L.length
  | _, p, c, [], _ => by rw [grpsA_nil]; simp
  | 0, p, c, x :: l, h => by simp at h
  | n + 1, p, c, x :: l, h => by
    rw [grpsA_cons]
    have h1 := hdN_pos x l
    have h2 := grps_len n (cutP p (hdN x l) c 4) (c - hdN x l) ((x :: l).drop (hdN x l)) (by simp only [List.length_drop, List.length_cons] at h ⊢; omega)
    simp only [List.length_drop, List.length_cons] at h2 ⊢
    omega
theorem grps_at {w : World} : ∀ (n : Nat) (p : Option Addr) (c : Nat) (L : List EB), L.length ≤ n → EntsAt w p L → L.length ≤ c → ∀ t ∈ grpsA p c L, EntsAt w t.p t.g ∧ t.g.length ≤ t.c ∧ t.g.length ≤ L.length ∧ ∀ e ∈ t.g, e ∈ L
  | _, p, c, [], _, _, _, t, ht => by rw [grpsA_nil] at ht; cases ht
  | 0, p, c, x :: l, h, _, _, _, _ => by simp at h
  | n + 1, p, c, x :: l, h, he, hc, t, ht => by
    rw [grpsA_cons] at ht
    have h1 := hdN_pos x l
    rcases List.mem_cons.1 ht with rfl | ht
    · refine ⟨ents_take he _, ?_, ?_, fun e he => List.mem_of_mem_take he⟩
      · simp only [List.length_take]; omega
      · simp only [List.length_take]; omega
    · obtain ⟨i1, i2, i3, i4⟩ := grps_at n _ _ _ (by simp only [List.length_drop, List.length_cons] at h ⊢; omega) (ents_drop he (hdN x l) c hc) (by simp only [List.length_drop]; omega) t ht
      refine ⟨i1, i2, ?_, fun e he => List.mem_of_mem_drop (i4 e he)⟩
      simp only [List.length_drop] at i3; omega

-- one key's entries
/-- One key's entries, the newest first. -/
def OneKey (g : List EB) : Prop := g.Pairwise (fun a b => b.q < a.q) ∧ ∀ a ∈ g, ∀ b ∈ g, a.k.data.toList = b.k.data.toList
theorem less_key {a b : EB} (h : lessB a b = true) (hk : a.k.data.toList = b.k.data.toList) : b.q < a.q := by
  unfold lessB at h
  rw [hk, less_irrefl, Bool.false_or, Bool.and_eq_true, decide_eq_true_iff] at h
  exact h.2
theorem one_of {g : List EB} (h : Srt g) (hk : ∀ a ∈ g, ∀ b ∈ g, a.k.data.toList = b.k.data.toList) : OneKey g :=
  ⟨List.Pairwise.imp_of_mem (fun {a b} ha hb hab => less_key hab (hk a ha b hb)) h, hk⟩
theorem idx_take {P : EB → Bool} : ∀ {L : List EB}, ∀ e ∈ L.take (idxF P L), P e = false
  | [], e, he => by cases he
  | x :: l, e, he => by
    rw [idxF] at he
    cases hx : P x with
    | true => rw [if_pos hx] at he; cases he
    | false =>
      rw [if_neg (by rw [hx]; simp), List.take_succ_cons] at he
      rcases List.mem_cons.1 he with rfl | he
      · exact hx
      · exact idx_take e he
theorem idx_drop {P : EB → Bool} : ∀ {L : List EB}, L.drop (idxF P L) = [] ∨ ∃ y r, L.drop (idxF P L) = y :: r ∧ P y = true
  | [] => .inl rfl
  | x :: l => by
    rw [idxF]
    cases hx : P x with
    | true => rw [if_pos rfl]; exact .inr ⟨x, l, rfl, hx⟩
    | false =>
      rw [if_neg (by simp), List.drop_succ_cons]
      exact idx_drop
/-- The first key's entries, and the others. -/
theorem hd_split {x : EB} {l : List EB} (h : Srt (x :: l)) : OneKey ((x :: l).take (hdN x l)) ∧ (∀ a ∈ (x :: l).take (hdN x l), ∀ b ∈ (x :: l).drop (hdN x l), keyB b a = false ∧ keyB a b = false) ∧ Srt ((x :: l).drop (hdN x l)) := by
  have hkey : ∀ e ∈ (x :: l).take (hdN x l), e.k.data.toList = x.k.data.toList := fun e he => by
    have := idx_take (P := fun e => !(e.k.toList == x.k.toList)) e he
    rw [Bool.not_eq_false', beq_iff_eq, ByteArray.toList_eq, ByteArray.toList_eq] at this
    exact this
  have hs1 : Srt ((x :: l).take (hdN x l)) := h.sublist (List.take_sublist _ _)
  have hs2 : Srt ((x :: l).drop (hdN x l)) := h.sublist (List.drop_sublist _ _)
  refine ⟨one_of hs1 (fun a ha b hb => (hkey a ha).trans (hkey b hb).symm), ?_, hs2⟩
  have hne : ∀ b ∈ (x :: l).drop (hdN x l), b.k.data.toList ≠ x.k.data.toList := by
    intro b hb
    have h3 : Srt ((x :: l).take (hdN x l) ++ (x :: l).drop (hdN x l)) := by rw [List.take_append_drop]; exact h
    rw [Srt, List.pairwise_append] at h3
    have hx0 : x ∈ (x :: l).take (hdN x l) := by
      obtain ⟨n, hn⟩ : ∃ n, hdN x l = n + 1 := ⟨_, hdN_eq x l⟩
      rw [hn, List.take_succ_cons]; simp
    rcases idx_drop (P := fun e => !(e.k.toList == x.k.toList)) (L := x :: l) with h4 | ⟨y, r, h4, h5⟩
    · rw [show (x :: l).drop (hdN x l) = [] from h4] at hb; cases hb
    · rw [show (x :: l).drop (hdN x l) = y :: r from h4] at hb hs2 h3
      have hyx : y.k.data.toList ≠ x.k.data.toList := by
        rw [Bool.not_eq_true', beq_eq_false_iff_ne, ByteArray.toList_eq, ByteArray.toList_eq] at h5
        exact h5
      have hxy : Op.bytesLess x.k.data.toList y.k.data.toList = true := by
        have := h3.2.2 x hx0 y (by simp)
        unfold lessB at this
        rw [Bool.or_eq_true, Bool.and_eq_true, beq_iff_eq] at this
        rcases this with h | ⟨h, _⟩
        · exact h
        · exact absurd h.symm hyx
      rcases List.mem_cons.1 hb with rfl | hb
      · exact hyx
      · have hyb := (List.pairwise_cons.1 hs2).1 b hb
        intro hbx
        unfold lessB at hyb
        rw [Bool.or_eq_true, Bool.and_eq_true, beq_iff_eq] at hyb
        rcases hyb with h | ⟨h, _⟩
        · have := less_trans hxy h
          rw [hbx, less_irrefl] at this; cases this
        · exact hyx (h.trans hbx)
  intro a ha b hb
  unfold keyB
  rw [beq_eq_false_iff_ne, beq_eq_false_iff_ne, hkey a ha]
  exact ⟨hne b hb, fun e => hne b hb e.symm⟩
theorem newB_left {g r : List EB} {s : Int} {e : EB} (h : ∀ c ∈ r, keyB c e = false) : newB (g ++ r) s e = newB g s e := by
  unfold newB
  rw [List.all_append, show r.all (fun c => !(keyB c e && decide (c.q ≤ s) && decide (e.q < c.q))) = true from List.all_eq_true.2 (fun c hc => by rw [h c hc]; rfl), Bool.and_true]
theorem newB_right {g r : List EB} {s : Int} {e : EB} (h : ∀ c ∈ g, keyB c e = false) : newB (g ++ r) s e = newB r s e := by
  unfold newB
  rw [List.all_append, show g.all (fun c => !(keyB c e && decide (c.q ≤ s) && decide (e.q < c.q))) = true from List.all_eq_true.2 (fun c hc => by rw [h c hc]; rfl), Bool.true_and]
theorem ends_left {g r : List EB} {e : EB} (h : ∀ c ∈ r, keyB c e = false) : endsB (g ++ r) e = endsB g e := by
  unfold endsB
  rw [List.all_append, show r.all (fun c => !(keyB c e && decide (c.q < e.q)) || c.d) = true from List.all_eq_true.2 (fun c hc => by rw [h c hc]; rfl), Bool.and_true]
theorem ends_right {g r : List EB} {e : EB} (h : ∀ c ∈ g, keyB c e = false) : endsB (g ++ r) e = endsB r e := by
  unfold endsB
  rw [List.all_append, show g.all (fun c => !(keyB c e && decide (c.q < e.q)) || c.d) = true from List.all_eq_true.2 (fun c hc => by rw [h c hc]; rfl), Bool.true_and]
theorem need_left {g r : List EB} {S : List Int} {e : EB} (h : ∀ c ∈ r, keyB c e = false) : needB (g ++ r) S e = needB g S e := by
  unfold needB
  simp only [newB_left h]
theorem need_right {g r : List EB} {S : List Int} {e : EB} (h : ∀ c ∈ g, keyB c e = false) : needB (g ++ r) S e = needB r S e := by
  unfold needB
  simp only [newB_right h]
theorem vis_app {g r : List EB} {s : Int} (h : ∀ a ∈ g, ∀ b ∈ r, keyB b a = false ∧ keyB a b = false) : visL s (g ++ r) = visL s g ++ visL s r := by
  unfold visL
  rw [List.filter_append]
  congr 1
  · exact List.filter_congr (fun e he => by rw [newB_left (fun c hc => (h e he c hc).1)])
  · exact List.filter_congr (fun e he => by rw [newB_right (fun c hc => (h c hc e he).2)])
theorem thin_app {g r : List EB} {S : List Int} {last : Bool} (h : ∀ a ∈ g, ∀ b ∈ r, keyB b a = false ∧ keyB a b = false) : thinL S last (g ++ r) = thinL S last g ++ thinL S last r := by
  have hn : (g ++ r).filter (needB (g ++ r) S) = g.filter (needB g S) ++ r.filter (needB r S) := by
    rw [List.filter_append]
    congr 1
    · exact List.filter_congr (fun e he => need_left (fun c hc => (h e he c hc).1))
    · exact List.filter_congr (fun e he => need_right (fun c hc => (h c hc e he).2))
  unfold thinL
  rw [hn]
  cases last with
  | false => rfl
  | true =>
    simp only [if_true]
    rw [List.filter_append]
    congr 1
    · exact List.filter_congr (fun e he => by rw [ends_left (fun c hc => (h e (List.mem_filter.1 he).1 c (List.mem_filter.1 hc).1).1)])
    · exact List.filter_congr (fun e he => by rw [ends_right (fun c hc => (h c (List.mem_filter.1 hc).1 e (List.mem_filter.1 he).1).2)])
/-- Of one key: the first one at or below the number, if it is not dead. -/
def vis1 (s : Int) (g : List EB) : List EB := match g.drop (idxF (fun e => decide (e.q ≤ s)) g) with
  | [] => []
  | e :: _ => if e.d = true then [] else [e]
theorem vis_one {s : Int} : ∀ {g : List EB}, OneKey g → visL s g = vis1 s g
  | [], _ => rfl
  | x :: t, h => by
    have h1 := List.pairwise_cons.1 h.1
    have ht : OneKey t := ⟨h1.2, fun a ha b hb => h.2 a (by simp [ha]) b (by simp [hb])⟩
    have hk : ∀ e ∈ t, keyB x e = true := fun e he => by unfold keyB; rw [beq_iff_eq]; exact h.2 x (by simp) e (by simp [he])
    by_cases hq : x.q ≤ s
    · have hi : idxF (fun e => decide (e.q ≤ s)) (x :: t) = 0 := by rw [idxF, if_pos (decide_eq_true hq)]
      have hno : t.filter (fun e => newB (x :: t) s e && !e.d) = [] := by
        rw [List.filter_eq_nil_iff]
        intro e he hh
        rw [Bool.and_eq_true] at hh
        have := (newB_iff.1 hh.1).2 x (by simp) (h.2 x (by simp) e (by simp [he])) hq
        have := h1.1 e he
        omega
      have hx : newB (x :: t) s x = true := newB_iff.2 ⟨hq, fun c hc _ _ => by
        rcases List.mem_cons.1 hc with rfl | hc
        · exact Int.le_refl _
        · have := h1.1 c hc; omega⟩
      unfold visL vis1
      rw [hi, List.drop_zero, List.filter_cons, hno, hx]
      cases hd : x.d <;> simp [hd]
    · have hi : idxF (fun e => decide (e.q ≤ s)) (x :: t) = idxF (fun e => decide (e.q ≤ s)) t + 1 := by rw [idxF, if_neg (by simpa using hq)]
      have hx : newB (x :: t) s x = false := by
        cases hn : newB (x :: t) s x with
        | false => rfl
        | true => exact absurd (newB_iff.1 hn).1 hq
      have ih := vis_one (s := s) ht
      unfold visL vis1 at ih ⊢
      rw [hi, List.drop_succ_cons, ← ih, List.filter_cons, hx]
      simp only [Bool.false_and, Bool.false_eq_true, if_false]
      refine List.filter_congr (fun e he => ?_)
      congr 1
      have : newB ([x] ++ t) s e = newB t s e := by
        unfold newB
        rw [List.all_append]
        simp [hq]
      exact this
/-- By keys it is as at once. -/
theorem vis_grps {s : Int} : ∀ (n : Nat) (p : Option Addr) (c : Nat) (L : List EB), L.length ≤ n → Srt L → ((grpsA p c L).map (fun t => vis1 s t.g)).flatten = visL s L
  | _, p, c, [], _, _ => by rw [grpsA_nil]; rfl
  | 0, p, c, x :: l, h, _ => by simp at h
  | n + 1, p, c, x :: l, h, hs => by
    obtain ⟨h1, h2, h3⟩ := hd_split hs
    have hp := hdN_pos x l
    have ih := vis_grps (s := s) n (cutP p (hdN x l) c 4) (c - hdN x l) ((x :: l).drop (hdN x l)) (by simp only [List.length_drop, List.length_cons] at h ⊢; omega) h3
    rw [grpsA_cons, List.map_cons, List.flatten_cons, ih, ← vis_one h1, ← vis_app h2, List.take_append_drop]
theorem thin_grps {S : List Int} {last : Bool} : ∀ (n : Nat) (p : Option Addr) (c : Nat) (L : List EB), L.length ≤ n → Srt L → ((grpsA p c L).map (fun t => thinL S last t.g)).flatten = thinL S last L
  | _, p, c, [], _, _ => by rw [grpsA_nil, thin_nil]; rfl
  | 0, p, c, x :: l, h, _ => by simp at h
  | n + 1, p, c, x :: l, h, hs => by
    obtain ⟨h1, h2, h3⟩ := hd_split hs
    have hp := hdN_pos x l
    have ih := thin_grps (S := S) (last := last) n (cutP p (hdN x l) c 4) (c - hdN x l) ((x :: l).drop (hdN x l)) (by simp only [List.length_drop, List.length_cons] at h ⊢; omega) h3
    rw [grpsA_cons, List.map_cons, List.flatten_cons, ih, ← thin_app h2, List.take_append_drop]
theorem grps_one : ∀ (n : Nat) (p : Option Addr) (c : Nat) (L : List EB), L.length ≤ n → Srt L → ∀ t ∈ grpsA p c L, OneKey t.g
  | _, p, c, [], _, _, t, ht => by rw [grpsA_nil] at ht; cases ht
  | 0, p, c, x :: l, h, _, _, _ => by simp at h
  | n + 1, p, c, x :: l, h, hs, t, ht => by
    obtain ⟨h1, h2, h3⟩ := hd_split hs
    have hp := hdN_pos x l
    rw [grpsA_cons] at ht
    rcases List.mem_cons.1 ht with rfl | ht
    · exact h1
    · exact grps_one n _ _ _ (by simp only [List.length_drop, List.length_cons] at h ⊢; omega) h3 t ht
-- what is needed of one key
/-- Those that stand between a number that is asked for and the one ahead. -/
def askL (S : List Int) : Option Int → List EB → List EB
  | _, [] => []
  | none, x :: t => x :: askL S (some x.q) t
  | some q, x :: t => if S.any (fun s => decide (x.q ≤ s) && decide (s < q)) = true then x :: askL S (some x.q) t else askL S (some x.q) t
theorem ask_rest {S : List Int} (k : List UInt8) : ∀ (t pre : List EB) (q : Int), (pre ++ t).Pairwise (fun a b => b.q < a.q) → (∀ a ∈ pre ++ t, a.k.data.toList = k) → (∃ c ∈ pre, c.q = q) → (∀ c ∈ pre, q ≤ c.q ∧ c.q ≤ 4611686018427387904) →
    t.filter (needB (pre ++ t) S) = askL S (some q) t
  | [], pre, q, _, _, _, _ => rfl
  | x :: t, pre, q, hp, hk, ⟨c0, hc0, hc0q⟩, hq => by
    have hp' := hp
    rw [List.pairwise_append, List.pairwise_cons] at hp
    have hxq : x.q < q := by have := hp.2.2 c0 hc0 x (by simp); omega
    have ih := ask_rest (S := S) k t (pre ++ [x]) x.q (by rw [List.append_assoc]; exact hp') (by rw [List.append_assoc]; exact hk) ⟨x, by simp, rfl⟩ (fun c hc => by
      rcases List.mem_append.1 hc with hc | hc
      · have h1 := hp.2.2 c hc x (by simp)
        exact ⟨by omega, (hq c hc).2⟩
      · rw [List.mem_singleton] at hc; subst hc
        have := (hq c0 hc0).2
        exact ⟨Int.le_refl _, by omega⟩)
    rw [List.append_assoc, List.singleton_append] at ih
    have h0 : newB (pre ++ x :: t) 4611686018427387904 x = false := by
      cases hn : newB (pre ++ x :: t) 4611686018427387904 x with
      | false => rfl
      | true =>
        have := (newB_iff.1 hn).2 c0 (by simp [hc0]) ((hk c0 (by simp [hc0])).trans (hk x (by simp)).symm) (hq c0 hc0).2
        omega
    have h1 : ∀ s, newB (pre ++ x :: t) s x = (decide (x.q ≤ s) && decide (s < q)) := by
      intro s
      have hiff : newB (pre ++ x :: t) s x = true ↔ (x.q ≤ s ∧ s < q) := by
        rw [newB_iff]
        refine and_congr Iff.rfl ⟨fun h => ?_, fun h c hc _ hcs => ?_⟩
        · apply Int.not_le.1
          intro hqs
          have := h c0 (by simp [hc0]) ((hk c0 (by simp [hc0])).trans (hk x (by simp)).symm) (by omega)
          omega
        · rcases List.mem_append.1 hc with hc | hc
          · have := (hq c hc).1; omega
          · rcases List.mem_cons.1 hc with rfl | hc
            · exact Int.le_refl _
            · have := hp.2.1.1 c hc; omega
      cases hn : newB (pre ++ x :: t) s x with
      | true =>
        have := hiff.1 hn
        rw [decide_eq_true this.1, decide_eq_true this.2]; rfl
      | false =>
        by_cases h1 : x.q ≤ s
        · by_cases h2 : s < q
          · rw [hiff.2 ⟨h1, h2⟩] at hn; cases hn
          · rw [decide_eq_false h2, Bool.and_false]
        · rw [decide_eq_false h1, Bool.false_and]
    have h2 : needB (pre ++ x :: t) S x = S.any (fun s => decide (x.q ≤ s) && decide (s < q)) := by
      unfold needB
      rw [h0, Bool.false_or]
      congr 1
      funext s
      exact h1 s
    rw [List.filter_cons, h2, ih, askL]
theorem ask_one {S : List Int} {g : List EB} (h : OneKey g) (hq : ∀ e ∈ g, e.q ≤ 4611686018427387904) : g.filter (needB g S) = askL S none g := by
  cases g with
  | nil => rfl
  | cons x t =>
    have h1 := List.pairwise_cons.1 h.1
    have hx : needB (x :: t) S x = true := by
      unfold needB
      rw [newB_iff.2 ⟨hq x (by simp), fun c hc _ _ => by
        rcases List.mem_cons.1 hc with rfl | hc
        · exact Int.le_refl _
        · have := h1.1 c hc; omega⟩]
      rfl
    have := ask_rest (S := S) x.k.data.toList t [x] x.q (by simpa using h.1) (fun a ha => h.2 a (by simpa using ha) x (by simp)) ⟨x, by simp, rfl⟩ (fun c hc => by rw [List.mem_singleton] at hc; subst hc; exact ⟨Int.le_refl _, hq c (by simp)⟩)
    rw [List.filter_cons, hx, if_pos rfl, show askL S none (x :: t) = x :: askL S (some x.q) t from rfl, ← this]
    rfl
theorem ask_same {S T : List Int} (h : ∀ s, s ∈ S ↔ s ∈ T) : ∀ (g : List EB) (o : Option Int), askL S o g = askL T o g
  | [], o => by cases o <;> rfl
  | x :: t, none => by show x :: _ = x :: _; rw [ask_same h t]
  | x :: t, some q => by
    have : ∀ f : Int → Bool, S.any f = T.any f := fun f => by
      cases hS : S.any f with
      | true =>
        rw [List.any_eq_true] at hS
        obtain ⟨s, hs, hf⟩ := hS
        exact (List.any_eq_true.2 ⟨s, (h s).1 hs, hf⟩).symm
      | false =>
        cases hT : T.any f with
        | false => rfl
        | true =>
          rw [List.any_eq_true] at hT
          obtain ⟨s, hs, hf⟩ := hT
          rw [List.any_eq_true.2 ⟨s, (h s).2 hs, hf⟩] at hS; cases hS
    rw [askL, askL, this, ask_same h t]
theorem ask_sub {S : List Int} : ∀ (g : List EB) (o : Option Int), (askL S o g).Sublist g
  | [], o => by cases o <;> exact List.Sublist.refl _
  | x :: t, none => (ask_sub t _).cons_cons x
  | x :: t, some q => by
    rw [askL]
    split
    · exact (ask_sub t _).cons_cons x
    · exact (ask_sub t _).cons x
/-- Without the dead ones at its end. -/
theorem cut_end {g : List EB} (h : OneKey g) {n : Nat} (hn : n ≤ g.length) (h1 : ∀ j (hj : j < g.length), n ≤ j → g[j].d = true) (h2 : ∀ (h0 : 0 < n), (g[n - 1]'(by omega)).d = false) : g.filter (fun e => !endsB g e) = g.take n := by
  have hsplit : g = g.take n ++ g.drop n := (List.take_append_drop n g).symm
  have hd : ∀ e ∈ g.drop n, e.d = true := by
    intro e he
    obtain ⟨j, hj, rfl⟩ := List.getElem_of_mem he
    rw [List.getElem_drop]
    exact h1 _ _ (by omega)
  have hp : ∀ a ∈ g.take n, ∀ b ∈ g.drop n, b.q < a.q := by
    have := h.1
    rw [hsplit, List.pairwise_append] at this
    exact this.2.2
  have e1 : (g.drop n).filter (fun e => !endsB g e) = [] := by
    rw [List.filter_eq_nil_iff]
    intro e he hh
    rw [Bool.not_eq_true'] at hh
    have : endsB g e = true := ends_iff.2 ⟨hd e he, fun c hc _ hcq => by
      rw [hsplit] at hc
      rcases List.mem_append.1 hc with hc | hc
      · have := hp c hc e he; omega
      · exact hd c hc⟩
    rw [this] at hh; cases hh
  have e2 : (g.take n).filter (fun e => !endsB g e) = g.take n := by
    rw [List.filter_eq_self]
    intro e he
    have hn0 : 0 < n := by
      rcases Nat.eq_zero_or_pos n with h | h
      · subst h; cases he
      · exact h
    have hlast := h2 hn0
    have hmem : g[n - 1]'(by omega) ∈ g := List.getElem_mem _
    rw [Bool.not_eq_true']
    cases hE : endsB g e with
    | false => rfl
    | true =>
      exfalso
      have hE' := ends_iff.1 hE
      obtain ⟨j, hj, rfl⟩ := List.getElem_of_mem he
      have hj' : j < n := by rw [List.length_take] at hj; omega
      rw [List.getElem_take] at hE'
      by_cases hjn : j = n - 1
      · subst hjn
        rw [hE'.1] at hlast; cases hlast
      · have hlt : (g[n - 1]'(by omega)).q < (g[j]'(by omega)).q := List.pairwise_iff_getElem.1 h.1 j (n - 1) (by omega) (by omega) (by omega)
        have := hE'.2 _ hmem (h.2 _ hmem _ (List.getElem_mem _)) hlt
        rw [this] at hlast; cases hlast
  have e3 : g.filter (fun e => !endsB g e) = (g.take n).filter (fun e => !endsB g e) ++ (g.drop n).filter (fun e => !endsB g e) := by
    rw [← List.filter_append, List.take_append_drop]
  rw [e3, e1, e2, List.append_nil]
end Go.Proofs.Ytmdkpomgckkllaa
/- The law MergeSorts over the program's contracts. -/
set_option maxRecDepth 100000
namespace Go.Proofs.Ytmdkpomgckkllaa
open Go.RowKit Go.Deep

set_option maxHeartbeats 8000000 in
theorem law_sorts12 {KG : GK} (p q : Option Addr) (cap cq : Nat) (R : List (List EB)) (L : List EB) (w : World) (hok : KG.Ok w) (h : RowsAt w p R) (hE : EntsAt w q L) (hR : R.length ≤ 9223372036854775807) (hl : ∀ L ∈ R, L.length ≤ 9223372036854775807 ∧ fitsL L) (hLl : L.length ≤ 9223372036854775807) (hLf : fitsL L) :
    Calls Try.prog 4 #[.slice p R.length cap, .slice q L.length cq] w fun r w' => r = .returned (.bool true) ∧ Bel w w' := by
  have HOK := Lib.hid hok; have H := Lib.hid h; have HL := Lib.hid hl; have HE := Lib.hid hE; have HLF := Lib.hid hLf
  clear hok h hl hE hLf
  go_enter Try.func4, Try.ntmps4
  go_wp2_with (fail)
  refine (shown12_any w HOK.out).mono ?_
  rintro r w1 ⟨rfl, hb⟩
  have HB1 := Lib.hid hb
  clear hb
  go_wp2_with (fail)
  refine (lrows_any p cap R w1 (H.out.bel HB1.out) hR HL.out).mono ?_
  rintro r w2 ⟨hb, hcase⟩
  have HB2 := Lib.hid (HB1.out.trans hb)
  have HCS := Lib.hid hcase
  clear hb hcase
  have HSM := Lib.hid (small12_any q cq L w2 (HE.out.bel HB2.out) hLl HLF.out)
  rcases HCS.out with ⟨hrw, q2, c2, rfl, hcc, hrr⟩ | ⟨v, rfl⟩
  · have hgd := good_rows hrw (fun L hL => (HL.out L hL).2)
    have hR8 := hrw.1
    obtain ⟨Q, hQ⟩ : ∃ Q, Q = R.map mergeB := ⟨_, rfl⟩
    have hQl : R.length = Q.length := by rw [hQ, List.length_map]
    rw [← hQ] at hgd hrr
    rw [hQl] at hcc ⊢
    have hQ8 : Q.length ≤ 8 := by omega
    have HRR := Lib.hid hrr
    have HGD := Lib.hid hgd
    have HFL := Lib.hid (flat_good hQ8 hgd)
    clear hrw hrr hgd hQ hQl hR8 HCS
    go_wp2_with (fail)
    refine HSM.out.mono ?_
    rintro r w3 ⟨hd3, (⟨hsm, rfl⟩ | rfl)⟩
    · have hL60 := hsm.1
      have HS3 := Lib.hid hd3.bel
      have HB3 := Lib.hid (HB2.out.trans hd3.bel)
      clear hd3 hsm HSM
      go_wp2_with (fail)
      refine (KG.sorted q cq L w3 (KG.okBel HOK.out HB3.out) (HE.out.bel HB3.out) (by omega) HLF.out).mono ?_
      rintro r w4 ⟨rfl, hb⟩
      have HS4 := Lib.hid hb
      have HB4 := Lib.hid (HB3.out.trans hb)
      clear hb
      go_wp2_with (fail)
      refine (rsorted_any q cq L w4 (HE.out.bel HB4.out) (by omega) HLF.out).mono ?_
      rintro r w5 ⟨rfl, hb⟩
      have HS5 := Lib.hid hb
      have HB5 := Lib.hid (HB4.out.trans hb)
      clear hb
      generalize srtB L = sb at *
      have hnn : (sb != sb) = false := by cases sb <;> rfl
      go_wp2_with (fail)
      refine (KG.merge q2 c2 Q w5 (KG.okBel HOK.out HB5.out) (HRR.out.bel ((HS3.out.trans HS4.out).trans HS5.out)) hcc (by omega) (good_kit HGD.out)).mono ?_
      rintro r w6 ⟨pm, cm, rfl, he, hcp, hb⟩
      have HB6 := Lib.hid (HB5.out.trans hb)
      have HR6 := Lib.hid (HRR.out.bel (((HS3.out.trans HS4.out).trans HS5.out).trans hb))
      have HM6 := Lib.hid he
      clear he hb hcp
      have hml := merge_len Q.flatten
      have hfl480 := HFL.out.1
      have hm480 : (mergeB Q.flatten).length ≤ 480 := by omega
      have HSB := Lib.hid (srtB_iff.2 (merge_pair Q.flatten))
      have HMF := Lib.hid (merge_fits HFL.out.2.1)
      have HMM := Lib.hid (show ∀ e ∈ mergeB Q.flatten, e ∈ Q.flatten from fun e he => merge_mem he)
      have HMK := Lib.hid (show ∀ e ∈ Q.flatten, (mergeB Q.flatten).any (fun c => decide (sameB c e)) = true from fun e he => by
        obtain ⟨c, hc, hs⟩ := merge_has he
        exact List.any_eq_true.2 ⟨c, hc, decide_eq_true hs⟩)
      obtain ⟨M, hM⟩ : ∃ M, M = mergeB Q.flatten := ⟨_, rfl⟩
      rw [← hM] at hm480 HSB HMF HMM HMK HM6 ⊢
      clear hM hml hfl480
      go_wp2_with (fail)
      refine (KG.srt_is pm cm M true w6 HSB.out (KG.okBel HOK.out HB6.out) HM6.out (by omega) HMF.out).mono ?_
      rintro r w7 ⟨rfl, hb⟩
      have HB7 := Lib.hid (HB6.out.trans hb)
      have HR7 := Lib.hid (HR6.out.bel hb)
      have HM7 := Lib.hid (HM6.out.bel hb)
      clear hb HR6 HM6 HSB HS3 HS4 HS5
      go_wp2_with (fail)
      go_loopw [10] (fun iv x => ∃ i : Nat, i ≤ M.length ∧ iv = .int .i64 i ∧ Bel w7 x) (fun iv _ => M.length - (intOf iv).toNat)
      case atStart => exact ⟨0, Nat.zero_le _, rfl, Bel.refl w7⟩
      case round =>
        obtain ⟨i, hi, rfl, hw⟩ := hrel
        have HW := Lib.hid hw
        by_cases hil : i < M.length
        · obtain ⟨a, ha0, -⟩ := (HM7.out.bel hw) i hil
          subst ha0
          obtain ⟨B, O, sp, ha, z0, z1, z2, z3⟩ := ent_at12 (HM7.out.bel hw) hil
          have HH := Lib.hid (lhas_any q2 c2 Q M[i] wr (HR7.out.bel hw) (by omega) (fun L hL => Nat.le_trans (HGD.out L hL).len (by decide)) (HMM.out _ (List.getElem_mem hil)))
          have hii : (i : Int) < (M.length : Int) := by omega
          generalize M[i] = e0 at *
          clear hw
          go_wp2_with (fail)
          refine HH.out.mono ?_
          rintro r w8 ⟨rfl, hb⟩
          have HB8 := Lib.hid (HW.out.trans hb)
          clear hb
          go_wp2_with (fail)
          go_roundw
          case rel => exact ⟨i + 1, hil, by go_num, HB8.out⟩
          case measure => simp [intOf]; omega
        · obtain rfl : i = M.length := by omega
          have hii : ¬ (M.length : Int) < (M.length : Int) := by omega
          have HR8 := Lib.hid (HR7.out.bel hw)
          have HM8 := Lib.hid (HM7.out.bel hw)
          have HB8 := Lib.hid (HB7.out.trans hw)
          clear hw
          go_wp2_with (fail)
          go_loopw [11] (fun iv x => ∃ i : Nat, i ≤ Q.length ∧ iv = .int .i64 i ∧ Bel wr x) (fun iv _ => Q.length - (intOf iv).toNat)
          case atStart => exact ⟨0, Nat.zero_le _, rfl, Bel.refl wr⟩
          case round =>
            obtain ⟨i, hi, rfl, hw⟩ := hrel
            have HW := Lib.hid hw
            by_cases hil : i < Q.length
            · obtain ⟨a, rq, rc, rfl, hq, hrow, -⟩ := (HR8.out.bel hw) i hil
              obtain ⟨B, O, sp, ha⟩ : ∃ B O sp, a.add i = ⟨B, O, sp⟩ := ⟨_, _, _, rfl⟩
              rw [ha] at hq
              have HQC := Lib.hid hq
              have HROW := Lib.hid hrow
              have HQF := Lib.hid (show ∀ e ∈ Q[i], e ∈ Q.flatten from fun e he => List.mem_flatten.2 ⟨_, List.getElem_mem hil, he⟩)
              have hl60 := (HGD.out Q[i] (List.getElem_mem hil)).len
              have hii : (i : Int) < (Q.length : Int) := by omega
              generalize Q[i] = N at *
              clear hw hrow
              go_wp2_with (fail)
              go_loopw [12] (fun kv x => ∃ k : Nat, k ≤ N.length ∧ kv = .int .i64 k ∧ Bel wr x) (fun kv _ => N.length - (intOf kv).toNat)
              case atStart => exact ⟨0, Nat.zero_le _, rfl, Bel.refl wr⟩
              case round =>
                obtain ⟨k, hk, rfl, hw2⟩ := hrel
                have HW2 := Lib.hid hw2
                have hq' := cl12 hw2 HQC.out
                by_cases hkl : k < N.length
                · obtain ⟨a2, ha2, -⟩ := (HROW.out.bel hw2) k hkl
                  subst ha2
                  obtain ⟨B2, O2, sp2, ha3, z0, z1, z2, z3⟩ := ent_at12 (HROW.out.bel hw2) hkl
                  have HKN := Lib.hid (lknown_any pm cm M N[k] wr (HM8.out.bel (HW.out.trans hw2)) (by omega))
                  have HKY := Lib.hid (HMK.out _ (HQF.out _ (List.getElem_mem hkl)))
                  have hki : (k : Int) < (N.length : Int) := by omega
                  generalize N[k] = e0 at *
                  clear hw2 hq
                  go_wp2_with (fail)
                  refine HKN.out.mono ?_
                  rintro r w9 ⟨rfl, hb⟩
                  have HB9 := Lib.hid (HW2.out.trans hb)
                  rw [HKY.out]
                  clear hb
                  go_wp2_with (fail)
                  go_roundw
                  case rel => exact ⟨k + 1, hkl, by go_num, HB9.out⟩
                  case measure => simp [intOf]; omega
                · obtain rfl : k = N.length := by omega
                  have hki : ¬ (N.length : Int) < (N.length : Int) := by omega
                  clear hw2 hq
                  go_wp2_with (fail)
                  go_roundw
                  case rel => exact ⟨i + 1, hil, by go_num, HW.out.trans HW2.out⟩
                  case measure => simp [intOf]; omega
            · obtain rfl : i = Q.length := by omega
              have hii : ¬ (Q.length : Int) < (Q.length : Int) := by omega
              clear hw
              go_wp2_with (fail)
              go_ret
              exact ⟨rfl, HB8.out.trans HW.out⟩
    · have HB3 := Lib.hid (HB2.out.trans hd3.bel)
      clear hd3 HSM
      go_wp2_with (fail)
      go_ret
      exact ⟨rfl, HB3.out⟩
  · clear HCS
    go_wp2_with (fail)
    refine HSM.out.mono ?_
    rintro r w3 ⟨hd3, (⟨hsm, rfl⟩ | rfl)⟩
    all_goals
      have HB3 := Lib.hid (HB2.out.trans hd3.bel)
      clear hd3 HSM
      go_wp2_with (fail)
      go_ret
      exact ⟨rfl, HB3.out⟩
end Go.Proofs.Ytmdkpomgckkllaa
/- The law MergeThins over the program's contracts. -/
set_option maxRecDepth 100000
namespace Go.Proofs.Ytmdkpomgckkllaa
open Go.RowKit Go.Deep

set_option maxHeartbeats 8000000 in
theorem law_thins12 {KG : GK} (p qs : Option Addr) (cap cs : Nat) (L : List EB) (S : List Int) (last : Bool) (w : World) (hok : KG.Ok w) (hE : EntsAt w p L) (hcap : L.length ≤ cap) (hLl : L.length ≤ 9223372036854775807) (hLf : fitsL L) (hI : IntsAt12 w qs S) (hSl : S.length ≤ 9223372036854775807) :
    Calls Try.prog 5 #[.slice p L.length cap, .slice qs S.length cs, .bool last] w fun r w' => r = .returned (.bool true) ∧ Bel w w' := by
  have HOK := Lib.hid hok; have HE := Lib.hid hE; have HLF := Lib.hid hLf
  have HI := Lib.hid hI
  clear hok hE hLf hI
  go_enter Try.func5, Try.ntmps5
  go_wp2_with (fail)
  refine (shown12_any w HOK.out).mono ?_
  rintro r w1 ⟨rfl, hb⟩
  have HB1 := Lib.hid hb
  clear hb
  have HAL := Lib.hid ((Bel.refl w1).alloc (.cells #[.slice p L.length cap] 27))
  have HRW := Lib.hid (lrows_any (some ⟨w1.heap.size, 0, none⟩) 1 [L] (w1.alloc (.cells #[.slice p L.length cap] 27)) (rows_lit1 (tnew12 w1 _) rfl ((HE.out.bel HB1.out).bel HAL.out) hcap) (by simp) (fun M hM => by rw [List.mem_singleton] at hM; subst hM; exact ⟨hLl, HLF.out⟩))
  go_wp2_with (fail)
  refine HRW.out.mono ?_
  rintro r w2 ⟨hb, hcase⟩
  have HB2 := Lib.hid ((HB1.out.trans HAL.out).trans hb)
  clear hb HRW HAL
  rcases hcase with ⟨hrw, q2, c2, rfl, hcc, hrr⟩ | ⟨v, rfl⟩
  · have hgd0 : Good12 (mergeB L) := good_merge (hrw.2 L (by simp)) HLF.out
    obtain ⟨N, hN⟩ : ∃ N, N = mergeB L := ⟨_, rfl⟩
    rw [show [L].map mergeB = [mergeB L] from rfl] at hrr
    rw [← hN] at hgd0 hrr
    rw [show [L].length = 1 from rfl] at hcc ⊢
    have HRR := Lib.hid hrr
    have HGD := Lib.hid hgd0
    have hN60 := hgd0.len
    obtain ⟨a0, p0, c0, rfl, hcell, he0, hc0⟩ := hrr 0 (by simp)
    rw [show a0.add 0 = a0 from rfl] at hcell
    obtain ⟨B0, O0, sp0⟩ := a0
    have HE0 := Lib.hid (show EntsAt w2 p0 N from he0)
    have HC0 := Lib.hid (show N.length ≤ c0 from hc0)
    have hcell' : w2.cell? ⟨B0, O0, sp0⟩ = some (.slice p0 N.length c0) := hcell
    have HCELL := Lib.hid hcell'
    have HQ62 := Lib.hid (show ∀ e ∈ N, e.q ≤ 4611686018427387904 from fun e he => by have := (hgd0.low e he).1; omega)
    have HFN := Lib.hid (show ∀ e ∈ N, e ∈ [N].flatten from fun e he => by simpa using he)
    clear hrw hrr hgd0 he0 hcell hc0 hN
    by_cases hS20 : S.length ≤ 20
    · have hS20' : (S.length : Int) ≤ 20 := by omega
      have hcell2 := HCELL.out
      go_wp2_with (fail)
      refine (KG.thin p0 qs c0 cs N S last w2 (KG.okBel HOK.out HB2.out) HE0.out HC0.out (HI.out.bel HB2.out) HGD.out.srt (by omega) hS20 HGD.out.fits HQ62.out).mono ?_
      rintro r w3 ⟨pt, ct, rfl, he, hcp, hb⟩
      have HS3 := Lib.hid hb
      have HB3 := Lib.hid (HB2.out.trans hb)
      have HEt := Lib.hid (show ∀ z, Bel w3 z → EntsAt z pt (thinL S last N) from fun z hz => he.bel hz)
      have HCt := Lib.hid hcp
      clear he hb
      have HTS := Lib.hid (thin_srt (S := S) (last := last) HGD.out.srt)
      have htl : (thinL S last N).length ≤ N.length := (thin_sublist S last N).length_le
      have HTV := Lib.hid (vis_thin (S := S) (last := last) (L := N) (s := 1125899906842624) (.inr (fun e he => ⟨by have := (HGD.out.low e he).1; omega, HQ62.out e he⟩)))
      have HTW := Lib.hid (show ∀ s ∈ S, visL s (thinL S last N) = visL s N from fun s hs => vis_thin (.inl hs))
      have HT2 := Lib.hid (thin_twice S last N)
      have HTM := Lib.hid (show ∀ e ∈ thinL S last N, e ∈ N from fun e he => (thin_sub e he).1)
      obtain ⟨T, hT⟩ : ∃ T, T = thinL S last N := ⟨_, rfl⟩
      rw [← hT] at HTS HTV HTW HT2 HTM htl HEt HCt ⊢
      clear hT
      have HTF := Lib.hid (show fitsL T from fun e he => HGD.out.fits e (HTM.out e he))
      have HTQ := Lib.hid (show ∀ e ∈ T, e.q ≤ 4611686018427387904 from fun e he => HQ62.out e (HTM.out e he))
      have HVL := Lib.hid (show ∀ s, (visL s N).length ≤ 60 from fun s => Nat.le_trans (List.length_filter_le _ _) hN60)
      have HSS := Lib.hid (show ∀ z, Bel w3 z → z.cell? ⟨B0, O0, sp0⟩ = some (.slice p0 N.length c0) from fun z hz => cl12 (HS3.out.trans hz) HCELL.out)
      have hTN : decide (N.length < T.length) = false := decide_eq_false (by omega)
      clear hcell2 hcell'
      go_wp2_with (fail)
      refine wp_region_held_drew (S := fun z => z.cell? ⟨B0, O0, sp0⟩ = some (.slice p0 N.length c0)) (by kernel_rfl) (HSS.out _ (Bel.refl w3).drew) (fun hHeld => ?_)
      obtain ⟨w4, hw⟩ : ∃ z, z = World.drew w3 := ⟨_, rfl⟩
      have hb : Bel w3 w4 := by rw [hw]; exact (Bel.refl _).drew
      rw [← hw] at hHeld ⊢
      clear hw
      have HS4 := Lib.hid hb
      have HB4 := Lib.hid (HB3.out.trans hb)
      clear hb
      refine wpAnyH_take (i := 0) (oi := { dst := some 38, op := Op.move (Operand.tmp 10), type := 27, pos := "law.go:134", after := #[], guard := none }) (v := ?_) rfl (by kernel_rfl) (by kernel_rfl) (by kernel_rfl) (fun _ _ _ h => h) (Or.inl ⟨by rfl, ?_⟩) (by assumption) ?_
      rotate_left
      · (intro w hSw; (try dsimp only at hSw); first | (go_simp; done) | (go_simp; with_reducible rfl))
      try simp only [Act.put, List.setIfInBounds_toArray, List.set_cons_zero, List.set_cons_succ]
      refine wpAnyH_take (i := 2) (oi := { dst := some 40, op := Op.move (Operand.tmp 8), type := 22, pos := "law.go:134", after := #[], guard := none }) (v := ?_) rfl (by kernel_rfl) (by kernel_rfl) (by kernel_rfl) (fun _ _ _ h => h) (Or.inl ⟨by rfl, ?_⟩) (by assumption) ?_
      rotate_left
      · (intro w hSw; (try dsimp only at hSw); first | (go_simp; done) | (go_simp; with_reducible rfl))
      try simp only [Act.put, List.setIfInBounds_toArray, List.set_cons_zero, List.set_cons_succ]
      refine wpAnyH_take (i := 3) (oi := { dst := some 41, op := Op.indexAddr 22 (Operand.tmp 40) (Operand.const (Value.int IntKind.i64 0)), type := 0, pos := "law.go:134", after := #[{ on := 2, ground := Ground.data }], guard := none }) (v := ?_) rfl (by kernel_rfl) (by kernel_rfl) (by kernel_rfl) (fun _ _ _ h => h) (Or.inl ⟨by rfl, ?_⟩) (by assumption) ?_
      rotate_left
      · (intro w hSw; (try dsimp only at hSw); first | (go_simp; done) | (go_simp; with_reducible rfl))
      try simp only [Act.put, List.setIfInBounds_toArray, List.set_cons_zero, List.set_cons_succ]
      refine wpAnyH_take (i := 4) (oi := { dst := some 42, op := Op.load 27 (Operand.tmp 41), type := 27, pos := "law.go:134", after := #[{ on := 3, ground := Ground.data }], guard := none }) (v := ?_) rfl (by kernel_rfl) (by kernel_rfl) (by kernel_rfl) (fun _ _ _ h => h) (Or.inl ⟨by rfl, ?_⟩) (by assumption) ?_
      rotate_left
      · (intro w hSw; (try dsimp only at hSw); first | (go_simp; done) | (go_simp; with_reducible rfl))
      try simp only [Act.put, List.setIfInBounds_toArray, List.set_cons_zero, List.set_cons_succ]
      refine wpAnyH_ready (rs := [1]) (by kernel_rfl) (by simp) ?_
      refine AllReadyH.cons (o := { dst := some 39, op := Op.call { callee := Callee.value (Operand.func 14), args := #[Operand.tmp 38, Operand.const (Value.int IntKind.i64 1125899906842624)], argTypes := #[27, 3] }, type := 27, pos := "law.go:134", after := #[{ on := 0, ground := Ground.data }], guard := none }) rfl (fun K hK => ?_) AllReadyH.nil
      go_simp
      refine (KG.vis_is pt ct T (visL 1125899906842624 N) 1125899906842624 w4 HTV.out (KG.okBel HOK.out HB4.out) (HEt.out _ HS4.out) HCt.out HTS.out (by omega) HTF.out).mono ?_
      rintro r w5 ⟨pa, ca, rfl, he, hcp, hb⟩
      have HS5 := Lib.hid hb
      have HB5 := Lib.hid (HB4.out.trans hb)
      have HEa := Lib.hid (show ∀ z, Bel w5 z → EntsAt z pa (visL 1125899906842624 N) from fun z hz => he.bel hz)
      have HCa := Lib.hid hcp
      clear he hb
      dsimp only
      refine hK.out _ _ (HSS.out _ (HS4.out.trans HS5.out)) (fun hHeld => ?_)
      clear hK K
      try simp only [Act.put, List.setIfInBounds_toArray, List.set_cons_zero, List.set_cons_succ]
      refine wpAnyH_ready (rs := [5]) (by kernel_rfl) (by simp) ?_
      refine AllReadyH.cons (o := { dst := some 43, op := Op.call { callee := Callee.value (Operand.func 14), args := #[Operand.tmp 42, Operand.const (Value.int IntKind.i64 1125899906842624)], argTypes := #[27, 3] }, type := 27, pos := "law.go:134", after := #[{ on := 4, ground := Ground.data }, { on := 1, ground := Ground.chain }], guard := none }) rfl (fun K hK => ?_) AllReadyH.nil
      go_simp
      refine (KG.visible p0 c0 N 1125899906842624 w5 (KG.okBel HOK.out HB5.out) (HE0.out.bel ((HS3.out.trans HS4.out).trans HS5.out)) HC0.out HGD.out.srt (by omega) HGD.out.fits).mono ?_
      rintro r w6 ⟨pb, cb, rfl, he, hcp, hb⟩
      have HS6 := Lib.hid hb
      have HB6 := Lib.hid (HB5.out.trans hb)
      have HEb := Lib.hid (show ∀ z, Bel w6 z → EntsAt z pb (visL 1125899906842624 N) from fun z hz => he.bel hz)
      have HCb := Lib.hid hcp
      clear he hb
      dsimp only
      refine hK.out _ _ (HSS.out _ ((HS4.out.trans HS5.out).trans HS6.out)) (fun hHeld => ?_)
      clear hK K
      try simp only [Act.put, List.setIfInBounds_toArray, List.set_cons_zero, List.set_cons_succ]
      refine wpAnyH_ready (rs := [6]) (by kernel_rfl) (by simp) ?_
      refine AllReadyH.cons (o := { dst := some 44, op := Op.call { callee := Callee.value (Operand.func 13), args := #[Operand.tmp 39, Operand.tmp 43], argTypes := #[27, 27] }, type := 4, pos := "law.go:134", after := #[{ on := 1, ground := Ground.data }, { on := 5, ground := Ground.data }, { on := 5, ground := Ground.chain }], guard := none }) rfl (fun K hK => ?_) AllReadyH.nil
      go_simp
      refine (same12_any pa pb ca cb (visL 1125899906842624 N) w6 (HEa.out _ HS6.out) (HEb.out _ (Bel.refl w6)) (by have := HVL.out 1125899906842624; omega)).mono ?_
      rintro r w7 ⟨rfl, hb⟩
      replace hb := hb.bel
      have HS7 := Lib.hid hb
      have HB7 := Lib.hid (HB6.out.trans hb)
      clear hb
      dsimp only
      refine hK.out _ _ (HSS.out _ (((HS4.out.trans HS5.out).trans HS6.out).trans HS7.out)) (fun hHeld => ?_)
      clear hK K
      try simp only [Act.put, List.setIfInBounds_toArray, List.set_cons_zero, List.set_cons_succ]
      refine wpAnyH_take (i := 7) (oi := { dst := some 45, op := Op.unOp UnOp.not 4 (Operand.tmp 44), type := 4, pos := "law.go:134", after := #[{ on := 6, ground := Ground.data }], guard := none }) (v := ?_) rfl (by kernel_rfl) (by kernel_rfl) (by kernel_rfl) (fun _ _ _ h => h) (Or.inl ⟨by rfl, ?_⟩) (by assumption) ?_
      rotate_left
      · (intro w hSw; (try dsimp only at hSw); first | (go_simp; done) | (go_simp; with_reducible rfl))
      try simp only [Act.put, List.setIfInBounds_toArray, List.set_cons_zero, List.set_cons_succ]
      refine wpAnyH_take (i := 8) (oi := { dst := some 46, op := Op.move (Operand.tmp 45), type := 4, pos := "law.go:134", after := #[{ on := 7, ground := Ground.data }, { on := 6, ground := Ground.chain }], guard := none }) (v := ?_) rfl (by kernel_rfl) (by kernel_rfl) (by kernel_rfl) (fun _ _ _ h => h) (Or.inl ⟨by rfl, ?_⟩) (by assumption) ?_
      rotate_left
      · (intro w hSw; (try dsimp only at hSw); first | (go_simp; done) | (go_simp; with_reducible rfl))
      try simp only [Act.put, List.setIfInBounds_toArray, List.set_cons_zero, List.set_cons_succ]
      refine wpAnyH_take (i := 9) (oi := { dst := some 47, op := Op.move (Operand.tmp 10), type := 27, pos := "law.go:134", after := #[{ on := 8, ground := Ground.guard }], guard := some (8, false) }) (v := ?_) rfl (by kernel_rfl) (by kernel_rfl) (by kernel_rfl) (fun _ _ _ h => h) (Or.inl ⟨by rfl, ?_⟩) (by assumption) ?_
      rotate_left
      · (intro w hSw; (try dsimp only at hSw); first | (go_simp; done) | (go_simp; with_reducible rfl))
      try simp only [Act.put, List.setIfInBounds_toArray, List.set_cons_zero, List.set_cons_succ]
      refine wpAnyH_take (i := 10) (oi := { dst := some 48, op := Op.call { callee := Callee.builtin Builtin.len, args := #[Operand.tmp 47], argTypes := #[27] }, type := 3, pos := "law.go:134", after := #[{ on := 9, ground := Ground.data }, { on := 8, ground := Ground.guard }], guard := some (8, false) }) (v := ?_) rfl (by kernel_rfl) (by kernel_rfl) (by kernel_rfl) (fun _ _ _ h => h) (Or.inl ⟨by rfl, ?_⟩) (by assumption) ?_
      rotate_left
      · (intro w hSw; (try dsimp only at hSw); first | (go_simp; done) | (go_simp; with_reducible rfl))
      try simp only [Act.put, List.setIfInBounds_toArray, List.set_cons_zero, List.set_cons_succ]
      refine wpAnyH_take (i := 11) (oi := { dst := some 49, op := Op.move (Operand.tmp 8), type := 22, pos := "law.go:134", after := #[{ on := 8, ground := Ground.guard }], guard := some (8, false) }) (v := ?_) rfl (by kernel_rfl) (by kernel_rfl) (by kernel_rfl) (fun _ _ _ h => h) (Or.inl ⟨by rfl, ?_⟩) (by assumption) ?_
      rotate_left
      · (intro w hSw; (try dsimp only at hSw); first | (go_simp; done) | (go_simp; with_reducible rfl))
      try simp only [Act.put, List.setIfInBounds_toArray, List.set_cons_zero, List.set_cons_succ]
      refine wpAnyH_take (i := 12) (oi := { dst := some 50, op := Op.indexAddr 22 (Operand.tmp 49) (Operand.const (Value.int IntKind.i64 0)), type := 0, pos := "law.go:134", after := #[{ on := 11, ground := Ground.data }, { on := 8, ground := Ground.guard }], guard := some (8, false) }) (v := ?_) rfl (by kernel_rfl) (by kernel_rfl) (by kernel_rfl) (fun _ _ _ h => h) (Or.inl ⟨by rfl, ?_⟩) (by assumption) ?_
      rotate_left
      · (intro w hSw; (try dsimp only at hSw); first | (go_simp; done) | (go_simp; with_reducible rfl))
      try simp only [Act.put, List.setIfInBounds_toArray, List.set_cons_zero, List.set_cons_succ]
      refine wpAnyH_take (i := 13) (oi := { dst := some 51, op := Op.load 27 (Operand.tmp 50), type := 27, pos := "law.go:134", after := #[{ on := 12, ground := Ground.data }, { on := 8, ground := Ground.guard }], guard := some (8, false) }) (v := ?_) rfl (by kernel_rfl) (by kernel_rfl) (by kernel_rfl) (fun _ _ _ h => h) (Or.inl ⟨by rfl, ?_⟩) (by assumption) ?_
      rotate_left
      · (intro w hSw; (try dsimp only at hSw); first | (go_simp; done) | (go_simp; with_reducible rfl))
      try simp only [Act.put, List.setIfInBounds_toArray, List.set_cons_zero, List.set_cons_succ]
      refine wpAnyH_take (i := 14) (oi := { dst := some 52, op := Op.call { callee := Callee.builtin Builtin.len, args := #[Operand.tmp 51], argTypes := #[27] }, type := 3, pos := "law.go:134", after := #[{ on := 13, ground := Ground.data }, { on := 8, ground := Ground.guard }], guard := some (8, false) }) (v := ?_) rfl (by kernel_rfl) (by kernel_rfl) (by kernel_rfl) (fun _ _ _ h => h) (Or.inl ⟨by rfl, ?_⟩) (by assumption) ?_
      rotate_left
      · (intro w hSw; (try dsimp only at hSw); first | (go_simp; done) | (go_simp; with_reducible rfl))
      try simp only [Act.put, List.setIfInBounds_toArray, List.set_cons_zero, List.set_cons_succ]
      refine wpAnyH_take (i := 15) (oi := { dst := some 53, op := Op.binOp BinOp.gtr 3 (Operand.tmp 48) (Operand.tmp 52) 3, type := 4, pos := "law.go:134", after := #[{ on := 10, ground := Ground.data }, { on := 14, ground := Ground.data }, { on := 8, ground := Ground.guard }], guard := some (8, false) }) (v := ?_) rfl (by kernel_rfl) (by kernel_rfl) (by kernel_rfl) (fun _ _ _ h => h) (Or.inl ⟨by rfl, ?_⟩) (by assumption) ?_
      rotate_left
      · (intro w hSw; (try dsimp only at hSw); first | (go_simp; done) | (go_simp; with_reducible rfl))
      try simp only [Act.put, List.setIfInBounds_toArray, List.set_cons_zero, List.set_cons_succ]
      refine wpAnyH_take (i := 16) (oi := { dst := some 54, op := Op.pick (Operand.tmp 46) (Operand.const (Value.bool true)) (Operand.tmp 53), type := 4, pos := "law.go:134", after := #[{ on := 8, ground := Ground.data }, { on := 15, ground := Ground.data }], guard := none }) (v := ?_) rfl (by kernel_rfl) (by kernel_rfl) (by kernel_rfl) (fun _ _ _ h => h) (Or.inl ⟨by rfl, ?_⟩) (by assumption) ?_
      rotate_left
      · (intro w hSw; (try dsimp only at hSw); first | (go_simp; done) | (go_simp; with_reducible rfl))
      try simp only [Act.put, List.setIfInBounds_toArray, List.set_cons_zero, List.set_cons_succ]
      refine wpAnyH_take (i := 17) (oi := { dst := some 55, op := Op.move (Operand.tmp 54), type := 4, pos := "law.go:134", after := #[{ on := 16, ground := Ground.data }, { on := 8, ground := Ground.chain }], guard := none }) (v := ?_) rfl (by kernel_rfl) (by kernel_rfl) (by kernel_rfl) (fun _ _ _ h => h) (Or.inl ⟨by rfl, ?_⟩) (by assumption) ?_
      rotate_left
      · (intro w hSw; (try dsimp only at hSw); first | (go_simp; done) | (go_simp; with_reducible rfl))
      try simp only [Act.put, List.setIfInBounds_toArray, List.set_cons_zero, List.set_cons_succ]
      refine wpAnyH_take (i := 18) (oi := { dst := some 56, op := Op.move (Operand.tmp 10), type := 27, pos := "law.go:134", after := #[{ on := 17, ground := Ground.guard }], guard := some (17, false) }) (v := ?_) rfl (by kernel_rfl) (by kernel_rfl) (by kernel_rfl) (fun _ _ _ h => h) (Or.inl ⟨by rfl, ?_⟩) (by assumption) ?_
      rotate_left
      · (intro w hSw; (try dsimp only at hSw); first | (go_simp; done) | (go_simp; with_reducible rfl))
      try simp only [Act.put, List.setIfInBounds_toArray, List.set_cons_zero, List.set_cons_succ]
      refine wpAnyH_ready (rs := [19]) (by kernel_rfl) (by simp) ?_
      refine AllReadyH.cons (o := { dst := some 57, op := Op.call { callee := Callee.value (Operand.func 19), args := #[Operand.tmp 56], argTypes := #[27] }, type := 4, pos := "law.go:134", after := #[{ on := 18, ground := Ground.data }, { on := 17, ground := Ground.chain }, { on := 17, ground := Ground.guard }], guard := some (17, false) }) rfl (fun K hK => ?_) AllReadyH.nil
      go_simp
      refine (KG.srt_is pt ct T true w7 (srtB_iff.2 HTS.out) (KG.okBel HOK.out HB7.out) (HEt.out _ (((HS4.out.trans HS5.out).trans HS6.out).trans HS7.out)) (by omega) HTF.out).mono ?_
      rintro r w8 ⟨rfl, hb⟩
      skip
      have HS8 := Lib.hid hb
      have HB8 := Lib.hid (HB7.out.trans hb)
      clear hb
      dsimp only
      refine hK.out _ _ (HSS.out _ ((((HS4.out.trans HS5.out).trans HS6.out).trans HS7.out).trans HS8.out)) (fun hHeld => ?_)
      clear hK K
      try simp only [Act.put, List.setIfInBounds_toArray, List.set_cons_zero, List.set_cons_succ]
      refine wpAnyH_take (i := 20) (oi := { dst := some 58, op := Op.unOp UnOp.not 4 (Operand.tmp 57), type := 4, pos := "law.go:134", after := #[{ on := 19, ground := Ground.data }, { on := 17, ground := Ground.guard }], guard := some (17, false) }) (v := ?_) rfl (by kernel_rfl) (by kernel_rfl) (by kernel_rfl) (fun _ _ _ h => h) (Or.inl ⟨by rfl, ?_⟩) (by assumption) ?_
      rotate_left
      · (intro w hSw; (try dsimp only at hSw); first | (go_simp; done) | (go_simp; with_reducible rfl))
      try simp only [Act.put, List.setIfInBounds_toArray, List.set_cons_zero, List.set_cons_succ]
      refine wpAnyH_take (i := 21) (oi := { dst := some 59, op := Op.pick (Operand.tmp 55) (Operand.const (Value.bool true)) (Operand.tmp 58), type := 4, pos := "law.go:134", after := #[{ on := 17, ground := Ground.data }, { on := 20, ground := Ground.data }], guard := none }) (v := ?_) rfl (by kernel_rfl) (by kernel_rfl) (by kernel_rfl) (fun _ _ _ h => h) (Or.inl ⟨by rfl, ?_⟩) (by assumption) ?_
      rotate_left
      · (intro w hSw; (try dsimp only at hSw); first | (go_simp; done) | (go_simp; with_reducible rfl))
      try simp only [Act.put, List.setIfInBounds_toArray, List.set_cons_zero, List.set_cons_succ]
      refine wpAnyH_done (by kernel_rfl) ?_ _
      clear hHeld
      go_wp2_with (fail)
      have HTR1 := Lib.hid (show EntsAt w8 pt T from (HEt.out _ ((((HS4.out.trans HS5.out).trans HS6.out).trans HS7.out).trans HS8.out)))
      have HNR1 := Lib.hid (show EntsAt w8 p0 N from HE0.out.bel (((((HS3.out.trans HS4.out).trans HS5.out).trans HS6.out).trans HS7.out).trans HS8.out))
      have HRR1 := Lib.hid (show RowsAt w8 (some ⟨B0, O0, sp0⟩) [N] from HRR.out.bel (((((HS3.out.trans HS4.out).trans HS5.out).trans HS6.out).trans HS7.out).trans HS8.out))
      have HC1 := Lib.hid (HSS.out _ ((((HS4.out.trans HS5.out).trans HS6.out).trans HS7.out).trans HS8.out))
      clear HSS
      go_loopw [11] (fun iv x => ∃ i : Nat, i ≤ T.length ∧ iv = .int .i64 i ∧ Bel w8 x) (fun iv _ => T.length - (intOf iv).toNat)
      case atStart => exact ⟨0, Nat.zero_le _, rfl, Bel.refl _⟩
      case round =>
        obtain ⟨i, hi, rfl, hw⟩ := hrel
        have HW := Lib.hid hw
        by_cases hil : i < T.length
        · obtain ⟨a, ha0, -⟩ := (HTR1.out.bel hw) i hil
          subst ha0
          obtain ⟨B, O, sp, ha, z0, z1, z2, z3⟩ := ent_at12 (HTR1.out.bel hw) hil
          have HH := Lib.hid (lhas_any (some ⟨B0, O0, sp0⟩) c2 [N] T[i] wr (HRR1.out.bel hw) (by simp) (fun L hL => by rw [List.mem_singleton] at hL; subst hL; omega) (HFN.out _ (HTM.out _ (List.getElem_mem hil))))
          rw [show [N].length = 1 from rfl] at HH
          have hii : (i : Int) < (T.length : Int) := by omega
          generalize T[i] = e0 at *
          clear hw
          go_wp2_with (fail)
          refine HH.out.mono ?_
          rintro r w8 ⟨rfl, hb⟩
          have HB8 := Lib.hid (HW.out.trans hb)
          clear hb
          go_wp2_with (fail)
          go_roundw
          case rel => exact ⟨i + 1, hil, by go_num, HB8.out⟩
          case measure => simp [intOf]; omega
        · obtain rfl : i = T.length := by omega
          have hii : ¬ (T.length : Int) < (T.length : Int) := by omega
          have HBL := Lib.hid (HB8.out.trans hw)
          have HTR2 := Lib.hid (HTR1.out.bel hw)
          have HNR2 := Lib.hid (HNR1.out.bel hw)
          have HCR2 := Lib.hid (cl12 hw HC1.out)
          clear hw
          go_wp2_with (fail)
          go_loopw [12] (fun jv x => ∃ m : Nat, m ≤ S.length ∧ jv = .int .i64 m ∧ Bel wr x) (fun jv _ => S.length - (intOf jv).toNat)
          case atStart => exact ⟨0, Nat.zero_le _, rfl, Bel.refl wr⟩
          case round =>
            obtain ⟨m, hm, rfl, hw2⟩ := hrel
            have HW2 := Lib.hid hw2
            have HBR := Lib.hid (HBL.out.trans hw2)
            have HTR := Lib.hid (HTR2.out.bel hw2)
            have HNR := Lib.hid (HNR2.out.bel hw2)
            have HIR := Lib.hid (HI.out.bel HBR.out)
            by_cases hml : m < S.length
            · obtain ⟨B1, O1, sp1, a1, ha1, hb1, y0⟩ := ints_at12 HIR.out hml
              have hcr := cl12 hw2 HCR2.out
              have HVS := Lib.hid (HTW.out S[m] (List.getElem_mem hml))
              subst ha1
              have hmi : (m : Int) < (S.length : Int) := by omega
              generalize S[m] = s0 at *
              clear hw2
              have HSS := Lib.hid (show ∀ z, Bel wr z → z.cell? ⟨B0, O0, sp0⟩ = some (.slice p0 N.length c0) ∧ z.cell? ⟨B1, O1, sp1⟩ = some (.int .i64 s0) from fun z hz => ⟨cl12 hz hcr, cl12 hz y0⟩)
              have HST' := Lib.hid (Bel.refl wr)
              go_wp2_with (fail)
              refine wp_region_held_drew (S := fun z => z.cell? ⟨B0, O0, sp0⟩ = some (.slice p0 N.length c0) ∧ z.cell? ⟨B1, O1, sp1⟩ = some (.int .i64 s0)) (by kernel_rfl) (HSS.out _ (Bel.refl wr).drew) (fun hHeld => ?_)
              obtain ⟨w101, hw⟩ : ∃ z, z = World.drew wr := ⟨_, rfl⟩
              have hb : Bel wr w101 := by rw [hw]; exact (Bel.refl _).drew
              rw [← hw] at hHeld ⊢
              clear hw
              have HS101 := Lib.hid hb
              have HB101 := Lib.hid (HBR.out.trans hb)
              clear hb
              refine wpAnyH_take (i := 0) (oi := { dst := some 79, op := Op.move (Operand.tmp 10), type := 27, pos := "law.go:143", after := #[], guard := none }) (v := ?_) rfl (by kernel_rfl) (by kernel_rfl) (by kernel_rfl) (fun _ _ _ h => h) (Or.inl ⟨by rfl, ?_⟩) (by assumption) ?_
              rotate_left
              · (intro w hSw; (try dsimp only at hSw); first | (go_simp; done) | (go_simp; with_reducible rfl))
              try simp only [Act.put, List.setIfInBounds_toArray, List.set_cons_zero, List.set_cons_succ]
              refine wpAnyH_take (i := 1) (oi := { dst := some 80, op := Op.move (Operand.tmp 1), type := 23, pos := "law.go:143", after := #[], guard := none }) (v := ?_) rfl (by kernel_rfl) (by kernel_rfl) (by kernel_rfl) (fun _ _ _ h => h) (Or.inl ⟨by rfl, ?_⟩) (by assumption) ?_
              rotate_left
              · (intro w hSw; (try dsimp only at hSw); first | (go_simp; done) | (go_simp; with_reducible rfl))
              try simp only [Act.put, List.setIfInBounds_toArray, List.set_cons_zero, List.set_cons_succ]
              refine wpAnyH_take (i := 2) (oi := { dst := some 81, op := Op.move (Operand.tmp 12), type := 3, pos := "law.go:143", after := #[], guard := none }) (v := ?_) rfl (by kernel_rfl) (by kernel_rfl) (by kernel_rfl) (fun _ _ _ h => h) (Or.inl ⟨by rfl, ?_⟩) (by assumption) ?_
              rotate_left
              · (intro w hSw; (try dsimp only at hSw); first | (go_simp; done) | (go_simp; with_reducible rfl))
              try simp only [Act.put, List.setIfInBounds_toArray, List.set_cons_zero, List.set_cons_succ]
              refine wpAnyH_take (i := 3) (oi := { dst := some 82, op := Op.indexAddr 23 (Operand.tmp 80) (Operand.tmp 81), type := 0, pos := "law.go:143", after := #[{ on := 1, ground := Ground.data }, { on := 2, ground := Ground.data }], guard := none }) (v := ?_) rfl (by kernel_rfl) (by kernel_rfl) (by kernel_rfl) (fun _ _ _ h => h) (Or.inl ⟨by rfl, ?_⟩) (by assumption) ?_
              rotate_left
              · (intro w hSw; (try dsimp only at hSw); first | (go_simp; done) | (go_simp; with_reducible rfl))
              try simp only [Act.put, List.setIfInBounds_toArray, List.set_cons_zero, List.set_cons_succ]
              refine wpAnyH_take (i := 4) (oi := { dst := some 83, op := Op.load 3 (Operand.tmp 82), type := 3, pos := "law.go:143", after := #[{ on := 3, ground := Ground.data }], guard := none }) (v := ?_) rfl (by kernel_rfl) (by kernel_rfl) (by kernel_rfl) (fun _ _ _ h => h) (Or.inl ⟨by rfl, ?_⟩) (by assumption) ?_
              rotate_left
              · (intro w hSw; (try dsimp only at hSw); first | (go_simp; done) | (go_simp; with_reducible rfl))
              try simp only [Act.put, List.setIfInBounds_toArray, List.set_cons_zero, List.set_cons_succ]
              refine wpAnyH_take (i := 6) (oi := { dst := some 85, op := Op.move (Operand.tmp 8), type := 22, pos := "law.go:143", after := #[], guard := none }) (v := ?_) rfl (by kernel_rfl) (by kernel_rfl) (by kernel_rfl) (fun _ _ _ h => h) (Or.inl ⟨by rfl, ?_⟩) (by assumption) ?_
              rotate_left
              · (intro w hSw; (try dsimp only at hSw); first | (go_simp; done) | (go_simp; with_reducible rfl))
              try simp only [Act.put, List.setIfInBounds_toArray, List.set_cons_zero, List.set_cons_succ]
              refine wpAnyH_take (i := 7) (oi := { dst := some 86, op := Op.indexAddr 22 (Operand.tmp 85) (Operand.const (Value.int IntKind.i64 0)), type := 0, pos := "law.go:143", after := #[{ on := 6, ground := Ground.data }], guard := none }) (v := ?_) rfl (by kernel_rfl) (by kernel_rfl) (by kernel_rfl) (fun _ _ _ h => h) (Or.inl ⟨by rfl, ?_⟩) (by assumption) ?_
              rotate_left
              · (intro w hSw; (try dsimp only at hSw); first | (go_simp; done) | (go_simp; with_reducible rfl))
              try simp only [Act.put, List.setIfInBounds_toArray, List.set_cons_zero, List.set_cons_succ]
              refine wpAnyH_take (i := 8) (oi := { dst := some 87, op := Op.load 27 (Operand.tmp 86), type := 27, pos := "law.go:143", after := #[{ on := 7, ground := Ground.data }], guard := none }) (v := ?_) rfl (by kernel_rfl) (by kernel_rfl) (by kernel_rfl) (fun _ _ _ h => h) (Or.inl ⟨by rfl, ?_⟩) (by assumption) ?_
              rotate_left
              · (intro w hSw; (try dsimp only at hSw); first | (go_simp; done) | (go_simp; with_reducible rfl))
              try simp only [Act.put, List.setIfInBounds_toArray, List.set_cons_zero, List.set_cons_succ]
              refine wpAnyH_take (i := 9) (oi := { dst := some 88, op := Op.move (Operand.tmp 1), type := 23, pos := "law.go:143", after := #[], guard := none }) (v := ?_) rfl (by kernel_rfl) (by kernel_rfl) (by kernel_rfl) (fun _ _ _ h => h) (Or.inl ⟨by rfl, ?_⟩) (by assumption) ?_
              rotate_left
              · (intro w hSw; (try dsimp only at hSw); first | (go_simp; done) | (go_simp; with_reducible rfl))
              try simp only [Act.put, List.setIfInBounds_toArray, List.set_cons_zero, List.set_cons_succ]
              refine wpAnyH_take (i := 10) (oi := { dst := some 89, op := Op.move (Operand.tmp 12), type := 3, pos := "law.go:143", after := #[], guard := none }) (v := ?_) rfl (by kernel_rfl) (by kernel_rfl) (by kernel_rfl) (fun _ _ _ h => h) (Or.inl ⟨by rfl, ?_⟩) (by assumption) ?_
              rotate_left
              · (intro w hSw; (try dsimp only at hSw); first | (go_simp; done) | (go_simp; with_reducible rfl))
              try simp only [Act.put, List.setIfInBounds_toArray, List.set_cons_zero, List.set_cons_succ]
              refine wpAnyH_take (i := 11) (oi := { dst := some 90, op := Op.indexAddr 23 (Operand.tmp 88) (Operand.tmp 89), type := 0, pos := "law.go:143", after := #[{ on := 9, ground := Ground.data }, { on := 10, ground := Ground.data }], guard := none }) (v := ?_) rfl (by kernel_rfl) (by kernel_rfl) (by kernel_rfl) (fun _ _ _ h => h) (Or.inl ⟨by rfl, ?_⟩) (by assumption) ?_
              rotate_left
              · (intro w hSw; (try dsimp only at hSw); first | (go_simp; done) | (go_simp; with_reducible rfl))
              try simp only [Act.put, List.setIfInBounds_toArray, List.set_cons_zero, List.set_cons_succ]
              refine wpAnyH_take (i := 12) (oi := { dst := some 91, op := Op.load 3 (Operand.tmp 90), type := 3, pos := "law.go:143", after := #[{ on := 11, ground := Ground.data }], guard := none }) (v := ?_) rfl (by kernel_rfl) (by kernel_rfl) (by kernel_rfl) (fun _ _ _ h => h) (Or.inl ⟨by rfl, ?_⟩) (by assumption) ?_
              rotate_left
              · (intro w hSw; (try dsimp only at hSw); first | (go_simp; done) | (go_simp; with_reducible rfl))
              try simp only [Act.put, List.setIfInBounds_toArray, List.set_cons_zero, List.set_cons_succ]
              refine wpAnyH_ready (rs := [5]) (by kernel_rfl) (by simp) ?_
              refine AllReadyH.cons (o := { dst := some 84, op := Op.call { callee := Callee.value (Operand.func 14), args := #[Operand.tmp 79, Operand.tmp 83], argTypes := #[27, 3] }, type := 27, pos := "law.go:143", after := #[{ on := 0, ground := Ground.data }, { on := 4, ground := Ground.data }], guard := none }) rfl (fun K hK => ?_) AllReadyH.nil
              go_simp
              refine (KG.vis_is pt ct T (visL s0 N) s0 w101 HVS.out (KG.okBel HOK.out HB101.out) (HTR.out.bel HS101.out) HCt.out HTS.out (by omega) HTF.out).mono ?_
              rintro r w102 ⟨pa, ca, rfl, he, hcp, hb⟩
              have HS102 := Lib.hid hb
              have HB102 := Lib.hid (HB101.out.trans hb)
              have HEa := Lib.hid (show ∀ z, Bel w102 z → EntsAt z pa (visL s0 N) from fun z hz => he.bel hz)
              have HCa := Lib.hid hcp
              clear he hb
              dsimp only
              refine hK.out _ _ (HSS.out _ (HS101.out.trans HS102.out)) (fun hHeld => ?_)
              clear hK K
              try simp only [Act.put, List.setIfInBounds_toArray, List.set_cons_zero, List.set_cons_succ]
              refine wpAnyH_ready (rs := [13]) (by kernel_rfl) (by simp) ?_
              refine AllReadyH.cons (o := { dst := some 92, op := Op.call { callee := Callee.value (Operand.func 14), args := #[Operand.tmp 87, Operand.tmp 91], argTypes := #[27, 3] }, type := 27, pos := "law.go:143", after := #[{ on := 8, ground := Ground.data }, { on := 12, ground := Ground.data }, { on := 5, ground := Ground.chain }], guard := none }) rfl (fun K hK => ?_) AllReadyH.nil
              go_simp
              refine (KG.visible p0 c0 N s0 w102 (KG.okBel HOK.out HB102.out) (HNR.out.bel (HS101.out.trans HS102.out)) HC0.out HGD.out.srt (by omega) HGD.out.fits).mono ?_
              rintro r w103 ⟨pb, cb, rfl, he, hcp, hb⟩
              have HS103 := Lib.hid hb
              have HB103 := Lib.hid (HB102.out.trans hb)
              have HEb := Lib.hid (show ∀ z, Bel w103 z → EntsAt z pb (visL s0 N) from fun z hz => he.bel hz)
              have HCb := Lib.hid hcp
              clear he hb
              dsimp only
              refine hK.out _ _ (HSS.out _ ((HS101.out.trans HS102.out).trans HS103.out)) (fun hHeld => ?_)
              clear hK K
              try simp only [Act.put, List.setIfInBounds_toArray, List.set_cons_zero, List.set_cons_succ]
              refine wpAnyH_ready (rs := [14]) (by kernel_rfl) (by simp) ?_
              refine AllReadyH.cons (o := { dst := some 93, op := Op.call { callee := Callee.value (Operand.func 13), args := #[Operand.tmp 84, Operand.tmp 92], argTypes := #[27, 27] }, type := 4, pos := "law.go:143", after := #[{ on := 5, ground := Ground.data }, { on := 13, ground := Ground.data }, { on := 13, ground := Ground.chain }], guard := none }) rfl (fun K hK => ?_) AllReadyH.nil
              go_simp
              refine (same12_any pa pb ca cb (visL s0 N) w103 (HEa.out _ HS103.out) (HEb.out _ (Bel.refl w103)) (by have := HVL.out s0; omega)).mono ?_
              rintro r w104 ⟨rfl, hb⟩
              replace hb := hb.bel
              have HS104 := Lib.hid hb
              have HB104 := Lib.hid (HB103.out.trans hb)
              clear hb
              dsimp only
              refine hK.out _ _ (HSS.out _ (((HS101.out.trans HS102.out).trans HS103.out).trans HS104.out)) (fun hHeld => ?_)
              clear hK K
              try simp only [Act.put, List.setIfInBounds_toArray, List.set_cons_zero, List.set_cons_succ]
              refine wpAnyH_take (i := 15) (oi := { dst := some 94, op := Op.unOp UnOp.not 4 (Operand.tmp 93), type := 4, pos := "law.go:143", after := #[{ on := 14, ground := Ground.data }], guard := none }) (v := ?_) rfl (by kernel_rfl) (by kernel_rfl) (by kernel_rfl) (fun _ _ _ h => h) (Or.inl ⟨by rfl, ?_⟩) (by assumption) ?_
              rotate_left
              · (intro w hSw; (try dsimp only at hSw); first | (go_simp; done) | (go_simp; with_reducible rfl))
              try simp only [Act.put, List.setIfInBounds_toArray, List.set_cons_zero, List.set_cons_succ]
              refine wpAnyH_done (by kernel_rfl) ?_ _
              clear hHeld
              go_wp2_with (fail)
              go_roundw
              case rel => exact ⟨m + 1, hml, by go_num, HW2.out.trans (((HS101.out.trans HS102.out).trans HS103.out).trans HS104.out)⟩
              case measure => simp [intOf]; omega
            · obtain rfl : m = S.length := by omega
              have hmi : ¬ (S.length : Int) < (S.length : Int) := by omega
              clear hw2
              go_wp2_with (fail)
              refine (KG.thin_is pt qs ct cs T T S last wr HT2.out (KG.okBel HOK.out HBR.out) HTR.out HCt.out (HIR.out) HTS.out (by omega) hS20 HTF.out HTQ.out).mono ?_
              rintro r w201 ⟨px, cx, rfl, he, hcp, hb⟩
              have HS201 := Lib.hid hb
              have HB201 := Lib.hid (HBR.out.trans hb)
              have HEx := Lib.hid (show ∀ z, Bel w201 z → EntsAt z px (T) from fun z hz => he.bel hz)
              have HCx := Lib.hid hcp
              clear he hb
              go_wp2_with (fail)
              refine (same12_any px pt cx ct T w201 (HEx.out _ (Bel.refl w201)) (HTR.out.bel HS201.out) (by omega)).mono ?_
              rintro r w202 ⟨rfl, hb⟩
              replace hb := hb.bel
              have HS202 := Lib.hid hb
              have HB202 := Lib.hid (HB201.out.trans hb)
              clear hb
              go_wp2_with (fail)
              refine (KG.thin_is none qs 0 cs [] [] S last w202 (thin_nil S last) (KG.okBel HOK.out HB202.out) (EntsAt.nil _ _) (Nat.le_refl _) (HIR.out.bel (HS201.out.trans HS202.out)) List.Pairwise.nil (by simp) hS20 (fun e he => by cases he) (fun e he => by cases he)).mono ?_
              rintro r w203 ⟨py, cy, rfl, he, hcp, hb⟩
              have HS203 := Lib.hid hb
              have HB203 := Lib.hid (HB202.out.trans hb)
              have HEy := Lib.hid (show ∀ z, Bel w203 z → EntsAt z py ([]) from fun z hz => he.bel hz)
              have HCy := Lib.hid hcp
              clear he hb
              go_wp2_with (fail)
              go_ret
              exact ⟨rfl, HB203.out⟩
    · have hS20' : ¬ (S.length : Int) ≤ 20 := by omega
      clear hcell'
      go_wp2_with (fail)
      go_ret
      exact ⟨rfl, HB2.out⟩
  · go_wp2_with (fail)
    go_ret
    exact ⟨rfl, HB2.out⟩
end Go.Proofs.Ytmdkpomgckkllaa
/- The law MergeParts over the program's contracts. -/
set_option maxRecDepth 100000
namespace Go.Proofs.Ytmdkpomgckkllaa
open Go.RowKit Go.Deep

theorem halves12' {Q : List (List EB)} (k : Nat) : mergeB [mergeB (Q.take k).flatten, mergeB (Q.drop k).flatten].flatten = mergeB Q.flatten := by
  rw [List.flatten_cons, List.flatten_cons, List.flatten_nil, List.append_nil, merge_parts, ← List.flatten_append, List.take_append_drop]
theorem merge_good (Q : List (List EB)) (hQ : Q.length ≤ 8) (h : ∀ L ∈ Q, Good12 L) : Srt (mergeB Q.flatten) ∧ (mergeB Q.flatten).length ≤ 500 ∧ fitsL (mergeB Q.flatten) := by
  obtain ⟨h1, h2, -⟩ := flat_good hQ h
  have := merge_len Q.flatten
  exact ⟨merge_pair _, by omega, merge_fits h2⟩
theorem two_good {A D : List EB} (hA : Srt A ∧ A.length ≤ 500 ∧ fitsL A) (hD : Srt D ∧ D.length ≤ 500 ∧ fitsL D) : ∀ L ∈ [A, D], Srt L ∧ L.length ≤ 500 ∧ fitsL L := fun L hL => by
  simp only [List.mem_cons, List.not_mem_nil, or_false] at hL
  rcases hL with rfl | rfl
  · exact hA
  · exact hD
theorem mid_merge {Q : List EB} (h : Srt Q) : mergeB [[], Q, []].flatten = Q := by
  rw [show [[], Q, []].flatten = Q by simp]; exact merge_self h
theorem twice_merge {Q : List EB} (h : Srt Q) : mergeB [Q, Q].flatten = Q := by
  rw [show [Q, Q].flatten = Q ++ Q by simp]; exact merge_twice h
theorem mid_good {Q : List EB} (h : Good12 Q) : ∀ L ∈ [[], Q, []], Srt L ∧ L.length ≤ 500 ∧ fitsL L := fun L hL => by
  simp only [List.mem_cons, List.not_mem_nil, or_false] at hL
  rcases hL with rfl | rfl | rfl
  · exact ⟨List.Pairwise.nil, by simp, fun e he => by cases he⟩
  · exact ⟨h.srt, Nat.le_trans h.len (by decide), h.fits⟩
  · exact ⟨List.Pairwise.nil, by simp, fun e he => by cases he⟩
theorem twice_good {Q : List EB} (h : Good12 Q) : ∀ L ∈ [Q, Q], Srt L ∧ L.length ≤ 500 ∧ fitsL L := fun L hL => by
  simp only [List.mem_cons, List.not_mem_nil, or_false] at hL
  rcases hL with rfl | rfl <;> exact ⟨h.srt, Nat.le_trans h.len (by decide), h.fits⟩
theorem rows_lit3 {w : World} {B n c : Nat} {q : Option Addr} {M : List EB} (h : w.heap[B]? = some (.cells #[.slice none 0 0, .slice q n c, .slice none 0 0] 27 (0, 0))) (hn : n = M.length) (hM : EntsAt w q M) (hc : M.length ≤ c) : RowsAt w (some ⟨B, 0, none⟩) [[], M, []] := by
  subst hn
  intro i hi
  have h2 : i < 3 := hi
  match i, h2 with
  | 0, _ => exact ⟨_, none, 0, rfl, by show w.cell? ⟨B, 0, none⟩ = _; simp [World.cell?, h], EntsAt.nil _ _, Nat.le_refl _⟩
  | 1, _ => exact ⟨_, q, c, rfl, by show w.cell? ⟨B, 1, none⟩ = _; simp [World.cell?, h], hM, hc⟩
  | 2, _ => exact ⟨_, none, 0, rfl, by show w.cell? ⟨B, 2, none⟩ = _; simp [World.cell?, h], EntsAt.nil _ _, Nat.le_refl _⟩
theorem rows_lit2' {w : World} {B n c : Nat} {q : Option Addr} {M : List EB} (h : w.heap[B]? = some (.cells #[.slice q n c, .slice q n c] 27 (0, 0))) (hn : n = M.length) (hM : EntsAt w q M) (hc : M.length ≤ c) : RowsAt w (some ⟨B, 0, none⟩) [M, M] := by
  subst hn; exact rows_lit2 h hM hM hc hc
theorem GK.mrg_at (K : GK) (p : Option Addr) (cap n : Nat) (R : List (List EB)) (w : World) (hn : n = R.length) (ho : K.Ok w) (h : RowsAt w p R) (hc : R.length ≤ cap) (hl : R.length ≤ 10) (hR : ∀ L ∈ R, Srt L ∧ L.length ≤ 500 ∧ fitsL L) : Calls Try.prog 11 #[.slice p n cap] w (Gives12 w (mergeB R.flatten)) := by
  subst hn; exact K.merge p cap R w ho h hc hl hR
theorem rows_drop1 {w : World} {a : Addr} {R : List (List EB)} (h : RowsAt w (some a) R) (n c : Nat) (hc : R.length ≤ c) (hn : c ≠ n) : RowsAt w (some (a.add n)) (R.drop n) := by
  have := rows_drop h n c hc
  unfold cutP at this
  rw [if_neg hn, Nat.mul_one] at this
  exact this
/-- A place within: the rest of a number, its sign left out. -/
theorem rem12 (s : Int) (n : Nat) (h0 : 0 < n) (hn : n ≤ 8) (hs : -9223372036854775808 ≤ s) (hs' : s ≤ 9223372036854775807) : ∃ k : Nat, k < n ∧ ((s.tmod n = (k : Int) ∧ 0 ≤ s.tmod n) ∨ (s.tmod n = -(k : Int) ∧ s.tmod n < 0)) := by
  have h1 : (s.tmod n).natAbs < n := by
    have := Int.natAbs_tmod s n
    rw [this]
    simpa using Nat.mod_lt s.natAbs h0
  rcases Int.lt_or_le (s.tmod n) 0 with h | h
  · exact ⟨(s.tmod n).natAbs, h1, .inr ⟨by omega, h⟩⟩
  · exact ⟨(s.tmod n).natAbs, h1, .inl ⟨by omega, h⟩⟩
set_option maxHeartbeats 8000000 in
theorem law_parts12 {KG : GK} (p : Option Addr) (cap : Nat) (R : List (List EB)) (s : Int) (w : World) (hok : KG.Ok w) (h : RowsAt w p R) (hR : R.length ≤ 9223372036854775807) (hl : ∀ L ∈ R, L.length ≤ 9223372036854775807 ∧ fitsL L) (hs : -9223372036854775808 ≤ s) (hs' : s ≤ 9223372036854775807) :
    Calls Try.prog 6 #[.slice p R.length cap, .int .i64 s] w fun r w' => r = .returned (.bool true) ∧ Bel w w' := by
  have HOK := Lib.hid hok; have H := Lib.hid h; have HL := Lib.hid hl
  have HB0 := Lib.hid (Bel.refl w)
  clear hok h hl
  go_enter Try.func6, Try.ntmps6
  go_wp2_with (fail)
  refine (shown12_any w HOK.out).mono ?_
  rintro r w1 ⟨rfl, hb⟩
  have HB1 := Lib.hid hb
  clear hb
  go_wp2_with (fail)
  refine (lrows_any p cap R w1 (H.out.bel HB1.out) hR HL.out).mono ?_
  rintro r w2 ⟨hb, hcase⟩
  have HB2 := Lib.hid (HB1.out.trans hb)
  clear hb
  rcases hcase with ⟨hrw, q2, c2, rfl, hcc, hrr⟩ | ⟨v, rfl⟩
  · have hgd := good_rows hrw (fun L hL => (HL.out L hL).2)
    have hR8 := hrw.1
    obtain ⟨Q, hQ⟩ : ∃ Q, Q = R.map mergeB := ⟨_, rfl⟩
    have hQl : R.length = Q.length := by rw [hQ, List.length_map]
    rw [← hQ] at hgd hrr
    rw [hQl] at hcc ⊢
    have hQ8 : Q.length ≤ 8 := by omega
    have HRR := Lib.hid hrr
    have HGD := Lib.hid hgd
    have HFL := Lib.hid (flat_good hQ8 hgd)
    by_cases h0 : Q.length = 0
    · have h0' : (Q.length : Int) = 0 := by omega
      clear hrw hrr hgd hQ hQl hR8
      go_wp2_with (fail)
      go_ret
      exact ⟨rfl, HB2.out⟩
    · have h0' : ¬ (Q.length : Int) = 0 := by omega
      have h0p : 0 < Q.length := by omega
      obtain ⟨a0, p0, c0, rfl, hcell, he0, hc0⟩ := hrr 0 h0p
      rw [show a0.add 0 = a0 from rfl] at hcell
      obtain ⟨B0, O0, sp0⟩ := a0
      have HE0 := Lib.hid he0
      have HQ0 := Lib.hid (hgd Q[0] (List.getElem_mem h0p))
      obtain ⟨Q0, hQ0⟩ : ∃ Q0, Q0 = Q[0] := ⟨_, rfl⟩
      rw [← hQ0] at hcell HE0 HQ0 hc0
      clear hQ0 he0
      obtain ⟨k, hk, hrem⟩ := rem12 s Q.length h0p hQ8 hs hs'
      have hkl : (Q.take k).length = k := by rw [List.length_take]; omega
      have hkd : (Q.drop k).length = Q.length - k := List.length_drop
      have hki : (k : Int) ≤ (Q.length : Int) := by omega
      have hkc : (k : Int) ≤ (c2 : Int) := by omega
      have hk0 : (0 : Int) ≤ (k : Int) := by omega
      have hwk : IntKind.i64.wrap (k : Int) = (k : Int) := by rw [IntKind.wrap_i64]; omega
      clear hrw hrr hgd hQ hQl hR8
      rcases hrem with ⟨hr1, hr2⟩ | ⟨hr1, hr2⟩
      · go_wp2_with (fail)
        refine (KG.mrg_at (some ⟨B0, O0, sp0⟩) c2 k (Q.take k) w2 hkl.symm (KG.okBel HOK.out HB2.out) (rows_take HRR.out k) (by rw [hkl]; omega) (by rw [hkl]; omega) (good_kit (fun L hL => HGD.out L (List.mem_of_mem_take hL)))).mono ?_
        rintro r w3 ⟨pa, ca, rfl, he, hcp, hb⟩
        have HS3 := Lib.hid hb
        have HB3 := Lib.hid (HB2.out.trans hb)
        have HEa := Lib.hid (show ∀ z, Bel w3 z → EntsAt z pa (mergeB (Q.take k).flatten) from fun z hz => he.bel hz)
        have HCa := Lib.hid hcp
        clear he hb
        go_wp2_with (fail)
        refine (KG.mrg_at (some ((⟨B0, O0, sp0⟩ : Addr).add k)) (c2 - k) (Q.length - k) (Q.drop k) w3 hkd.symm (KG.okBel HOK.out HB3.out) (rows_drop1 (HRR.out.bel HS3.out) k c2 hcc (by omega)) (by rw [hkd]; omega) (by rw [hkd]; omega) (good_kit (fun L hL => HGD.out L (List.mem_of_mem_drop hL)))).mono ?_
        rintro r w4 ⟨pb, cb, rfl, he, hcp, hb⟩
        have HS4 := Lib.hid hb
        have HB4 := Lib.hid (HB3.out.trans hb)
        have HEb := Lib.hid (show ∀ z, Bel w4 z → EntsAt z pb (mergeB (Q.drop k).flatten) from fun z hz => he.bel hz)
        have HCb := Lib.hid hcp
        clear he hb
        have HMF := Lib.hid (halves12' (Q := Q) k)
        have HGA := Lib.hid (merge_good (Q.take k) (by rw [hkl]; omega) (fun L hL => HGD.out L (List.mem_of_mem_take hL)))
        have HGB := Lib.hid (merge_good (Q.drop k) (by rw [hkd]; omega) (fun L hL => HGD.out L (List.mem_of_mem_drop hL)))
        obtain ⟨A, hA⟩ : ∃ A, A = mergeB (Q.take k).flatten := ⟨_, rfl⟩
        obtain ⟨D, hD⟩ : ∃ D, D = mergeB (Q.drop k).flatten := ⟨_, rfl⟩
        rw [← hA] at HGA HMF HEa HCa ⊢
        rw [← hD] at HGB HMF HEb HCb ⊢
        have hml := merge_len Q.flatten
        have hfl480 := HFL.out.1
        have hm480 : (mergeB Q.flatten).length ≤ 480 := by omega
        obtain ⟨M, hM⟩ : ∃ M, M = mergeB Q.flatten := ⟨_, rfl⟩
        have HMM := Lib.hid hM.symm
        rw [← hM] at HMF hm480
        clear hA hD hM hml hfl480 hkl hkd
        have HSS := Lib.hid (show ∀ z, Bel w4 z → z.cell? ⟨B0, O0, sp0⟩ = some (.slice p0 Q0.length c0) from fun z hz => cl12 (HB4.out.trans hz |> fun h => (HS3.out.trans HS4.out).trans hz) hcell)
        go_wp2_with (fail)
        refine wp_region_held_drew (S := fun z => z.cell? ⟨B0, O0, sp0⟩ = some (.slice p0 Q0.length c0)) (by kernel_rfl) (HSS.out _ (Bel.refl w4).drew) (fun hHeld => ?_)
        obtain ⟨w5, hw⟩ : ∃ z, z = World.drew w4 := ⟨_, rfl⟩
        have hb : Bel w4 w5 := by rw [hw]; exact (Bel.refl _).drew
        rw [← hw] at hHeld ⊢
        clear hw
        have HS5 := Lib.hid hb
        have HB5 := Lib.hid (HB4.out.trans hb)
        clear hb
        refine wpAnyH_take (i := 0) (oi := { dst := some 45, op := Op.move (Operand.tmp 9), type := 27, pos := "law.go:163", after := #[], guard := none }) (v := ?_) rfl (by kernel_rfl) (by kernel_rfl) (by kernel_rfl) (fun _ _ _ h => h) (Or.inl ⟨by rfl, ?_⟩) (by assumption) ?_
        rotate_left
        · (intro w hSw; (try dsimp only at hSw); first | (go_simp; done) | (go_simp; with_reducible rfl))
        try simp only [Act.put, List.setIfInBounds_toArray, List.set_cons_zero, List.set_cons_succ]
        refine wpAnyH_take (i := 1) (oi := { dst := some 46, op := Op.move (Operand.tmp 10), type := 27, pos := "law.go:163", after := #[], guard := none }) (v := ?_) rfl (by kernel_rfl) (by kernel_rfl) (by kernel_rfl) (fun _ _ _ h => h) (Or.inl ⟨by rfl, ?_⟩) (by assumption) ?_
        rotate_left
        · (intro w hSw; (try dsimp only at hSw); first | (go_simp; done) | (go_simp; with_reducible rfl))
        try simp only [Act.put, List.setIfInBounds_toArray, List.set_cons_zero, List.set_cons_succ]
        refine wpAnyH_take (i := 4) (oi := { dst := some 49, op := Op.move (Operand.tmp 6), type := 22, pos := "law.go:163", after := #[], guard := none }) (v := ?_) rfl (by kernel_rfl) (by kernel_rfl) (by kernel_rfl) (fun _ _ _ h => h) (Or.inl ⟨by rfl, ?_⟩) (by assumption) ?_
        rotate_left
        · (intro w hSw; (try dsimp only at hSw); first | (go_simp; done) | (go_simp; with_reducible rfl))
        try simp only [Act.put, List.setIfInBounds_toArray, List.set_cons_zero, List.set_cons_succ]
        refine wpAnyH_ready (rs := [2]) (by kernel_rfl) (by simp) ?_
        refine AllReadyH.cons (o := { dst := some 47, op := Op.buildSlice 22 2 #[(0, Operand.tmp 45), (1, Operand.tmp 46)], type := 22, pos := "law.go:163", after := #[{ on := 0, ground := Ground.data }, { on := 1, ground := Ground.data }], guard := none }) rfl (fun K hK => ?_) AllReadyH.nil
        go_simp
        have hb := (Bel.refl w5).alloc (.cells #[.slice pa A.length ca, .slice pb D.length cb] 27)
        have HLITl := Lib.hid (tnew12 w5 (.cells #[.slice pa A.length ca, .slice pb D.length cb] 27))
        have HS6' := Lib.hid hb
        refine hK.out _ _ (HSS.out _ (HS5.out.trans hb)) (fun hHeld => ?_)
        clear hK K
        try simp only [Act.put, List.setIfInBounds_toArray, List.set_cons_zero, List.set_cons_succ]
        obtain ⟨w6, hw⟩ : ∃ z, z = World.alloc w5 (.cells #[.slice pa A.length ca, .slice pb D.length cb] 27) := ⟨_, rfl⟩
        rw [← hw] at hHeld HLITl hb ⊢
        clear hw HS6'
        obtain ⟨Bl, hBl⟩ : ∃ b, b = w5.heap.size := ⟨_, rfl⟩
        rw [← hBl] at HLITl ⊢
        clear hBl
        have HS6 := Lib.hid hb
        have HB6 := Lib.hid (HB5.out.trans hb)
        clear hb
        refine wpAnyH_ready (rs := [3]) (by kernel_rfl) (by simp) ?_
        refine AllReadyH.cons (o := { dst := some 48, op := Op.call { callee := Callee.value (Operand.func 11), args := #[Operand.tmp 47], argTypes := #[22] }, type := 27, pos := "law.go:163", after := #[{ on := 2, ground := Ground.data }], guard := none }) rfl (fun K hK => ?_) AllReadyH.nil
        go_simp
        refine (KG.mrg_is (some ⟨Bl, 0, none⟩) 2 [A, D] M w6 HMF.out (KG.okBel HOK.out HB6.out) (rows_lit2 HLITl.out (HEa.out _ ((HS4.out.trans HS5.out).trans HS6.out)) (HEb.out _ (HS5.out.trans HS6.out)) HCa.out HCb.out) (by simp) (by simp) (two_good HGA.out HGB.out)).mono ?_
        rintro r w7 ⟨pm, cm, rfl, he, hcp, hb⟩
        have HS7 := Lib.hid hb
        have HB7 := Lib.hid (HB6.out.trans hb)
        have HEm := Lib.hid (show ∀ z, Bel w7 z → EntsAt z pm (M) from fun z hz => he.bel hz)
        have HCm := Lib.hid hcp
        clear he hb
        dsimp only
        refine hK.out _ _ (HSS.out _ ((HS5.out.trans HS6.out).trans HS7.out)) (fun hHeld => ?_)
        clear hK K
        try simp only [Act.put, List.setIfInBounds_toArray, List.set_cons_zero, List.set_cons_succ]
        refine wpAnyH_ready (rs := [5]) (by kernel_rfl) (by simp) ?_
        refine AllReadyH.cons (o := { dst := some 50, op := Op.call { callee := Callee.value (Operand.func 11), args := #[Operand.tmp 49], argTypes := #[22] }, type := 27, pos := "law.go:163", after := #[{ on := 4, ground := Ground.data }, { on := 3, ground := Ground.chain }], guard := none }) rfl (fun K hK => ?_) AllReadyH.nil
        go_simp
        refine (KG.mrg_is (some ⟨B0, O0, sp0⟩) c2 Q M w7 HMM.out (KG.okBel HOK.out HB7.out) (HRR.out.bel ((((HS3.out.trans HS4.out).trans HS5.out).trans HS6.out).trans HS7.out)) hcc (by omega) (good_kit HGD.out)).mono ?_
        rintro r w8 ⟨pn, cn, rfl, he, hcp, hb⟩
        have HS8 := Lib.hid hb
        have HB8 := Lib.hid (HB7.out.trans hb)
        have HEn := Lib.hid (show ∀ z, Bel w8 z → EntsAt z pn (M) from fun z hz => he.bel hz)
        have HCn := Lib.hid hcp
        clear he hb
        dsimp only
        refine hK.out _ _ (HSS.out _ (((HS5.out.trans HS6.out).trans HS7.out).trans HS8.out)) (fun hHeld => ?_)
        clear hK K
        try simp only [Act.put, List.setIfInBounds_toArray, List.set_cons_zero, List.set_cons_succ]
        refine wpAnyH_ready (rs := [6]) (by kernel_rfl) (by simp) ?_
        refine AllReadyH.cons (o := { dst := some 51, op := Op.call { callee := Callee.value (Operand.func 13), args := #[Operand.tmp 48, Operand.tmp 50], argTypes := #[27, 27] }, type := 4, pos := "law.go:163", after := #[{ on := 3, ground := Ground.data }, { on := 5, ground := Ground.data }, { on := 5, ground := Ground.chain }], guard := none }) rfl (fun K hK => ?_) AllReadyH.nil
        go_simp
        refine (same12_any pm pn cm cn M w8 (HEm.out _ HS8.out) (HEn.out _ (Bel.refl w8)) (by omega)).mono ?_
        rintro r w9 ⟨rfl, hb⟩
        replace hb := hb.bel
        have HS9 := Lib.hid hb
        have HB9 := Lib.hid (HB8.out.trans hb)
        clear hb
        dsimp only
        refine hK.out _ _ (HSS.out _ ((((HS5.out.trans HS6.out).trans HS7.out).trans HS8.out).trans HS9.out)) (fun hHeld => ?_)
        clear hK K
        try simp only [Act.put, List.setIfInBounds_toArray, List.set_cons_zero, List.set_cons_succ]
        refine wpAnyH_take (i := 7) (oi := { dst := some 52, op := Op.move (Operand.tmp 51), type := 4, pos := "law.go:163", after := #[{ on := 6, ground := Ground.data }, { on := 6, ground := Ground.chain }], guard := none }) (v := ?_) rfl (by kernel_rfl) (by kernel_rfl) (by kernel_rfl) (fun _ _ _ h => h) (Or.inl ⟨by rfl, ?_⟩) (by assumption) ?_
        rotate_left
        · (intro w hSw; (try dsimp only at hSw); first | (go_simp; done) | (go_simp; with_reducible rfl))
        try simp only [Act.put, List.setIfInBounds_toArray, List.set_cons_zero, List.set_cons_succ]
        refine wpAnyH_take (i := 8) (oi := { dst := some 53, op := Op.move (Operand.tmp 6), type := 22, pos := "law.go:163", after := #[{ on := 7, ground := Ground.guard }], guard := some (7, true) }) (v := ?_) rfl (by kernel_rfl) (by kernel_rfl) (by kernel_rfl) (fun _ _ _ h => h) (Or.inl ⟨by rfl, ?_⟩) (by assumption) ?_
        rotate_left
        · (intro w hSw; (try dsimp only at hSw); first | (go_simp; done) | (go_simp; with_reducible rfl))
        try simp only [Act.put, List.setIfInBounds_toArray, List.set_cons_zero, List.set_cons_succ]
        refine wpAnyH_take (i := 9) (oi := { dst := some 54, op := Op.indexAddr 22 (Operand.tmp 53) (Operand.const (Value.int IntKind.i64 0)), type := 0, pos := "law.go:163", after := #[{ on := 8, ground := Ground.data }, { on := 7, ground := Ground.guard }], guard := some (7, true) }) (v := ?_) rfl (by kernel_rfl) (by kernel_rfl) (by kernel_rfl) (fun _ _ _ h => h) (Or.inl ⟨by rfl, ?_⟩) (by assumption) ?_
        rotate_left
        · (intro w hSw; (try dsimp only at hSw); first | (go_simp; done) | (go_simp; with_reducible rfl))
        try simp only [Act.put, List.setIfInBounds_toArray, List.set_cons_zero, List.set_cons_succ]
        refine wpAnyH_take (i := 10) (oi := { dst := some 55, op := Op.load 27 (Operand.tmp 54), type := 27, pos := "law.go:163", after := #[{ on := 9, ground := Ground.data }, { on := 7, ground := Ground.guard }], guard := some (7, true) }) (v := ?_) rfl (by kernel_rfl) (by kernel_rfl) (by kernel_rfl) (fun _ _ _ h => h) (Or.inl ⟨by rfl, ?_⟩) (by assumption) ?_
        rotate_left
        · (intro w hSw; (try dsimp only at hSw); first | (go_simp; done) | (go_simp; with_reducible rfl))
        try simp only [Act.put, List.setIfInBounds_toArray, List.set_cons_zero, List.set_cons_succ]
        refine wpAnyH_take (i := 13) (oi := { dst := some 58, op := Op.move (Operand.tmp 6), type := 22, pos := "law.go:163", after := #[{ on := 7, ground := Ground.guard }], guard := some (7, true) }) (v := ?_) rfl (by kernel_rfl) (by kernel_rfl) (by kernel_rfl) (fun _ _ _ h => h) (Or.inl ⟨by rfl, ?_⟩) (by assumption) ?_
        rotate_left
        · (intro w hSw; (try dsimp only at hSw); first | (go_simp; done) | (go_simp; with_reducible rfl))
        try simp only [Act.put, List.setIfInBounds_toArray, List.set_cons_zero, List.set_cons_succ]
        refine wpAnyH_take (i := 14) (oi := { dst := some 59, op := Op.indexAddr 22 (Operand.tmp 58) (Operand.const (Value.int IntKind.i64 0)), type := 0, pos := "law.go:163", after := #[{ on := 13, ground := Ground.data }, { on := 7, ground := Ground.guard }], guard := some (7, true) }) (v := ?_) rfl (by kernel_rfl) (by kernel_rfl) (by kernel_rfl) (fun _ _ _ h => h) (Or.inl ⟨by rfl, ?_⟩) (by assumption) ?_
        rotate_left
        · (intro w hSw; (try dsimp only at hSw); first | (go_simp; done) | (go_simp; with_reducible rfl))
        try simp only [Act.put, List.setIfInBounds_toArray, List.set_cons_zero, List.set_cons_succ]
        refine wpAnyH_take (i := 15) (oi := { dst := some 60, op := Op.load 27 (Operand.tmp 59), type := 27, pos := "law.go:163", after := #[{ on := 14, ground := Ground.data }, { on := 7, ground := Ground.guard }], guard := some (7, true) }) (v := ?_) rfl (by kernel_rfl) (by kernel_rfl) (by kernel_rfl) (fun _ _ _ h => h) (Or.inl ⟨by rfl, ?_⟩) (by assumption) ?_
        rotate_left
        · (intro w hSw; (try dsimp only at hSw); first | (go_simp; done) | (go_simp; with_reducible rfl))
        try simp only [Act.put, List.setIfInBounds_toArray, List.set_cons_zero, List.set_cons_succ]
        refine wpAnyH_ready (rs := [11]) (by kernel_rfl) (by simp) ?_
        refine AllReadyH.cons (o := { dst := some 56, op := Op.buildSlice 22 3 #[(0, Operand.const (Value.slice none 0 0)), (1, Operand.tmp 55), (2, Operand.const (Value.slice none 0 0))], type := 22, pos := "law.go:163", after := #[{ on := 10, ground := Ground.data }, { on := 7, ground := Ground.guard }], guard := some (7, true) }) rfl (fun K hK => ?_) AllReadyH.nil
        go_simp
        have hb := (Bel.refl w9).alloc (.cells #[.slice none 0 0, .slice p0 Q0.length c0, .slice none 0 0] 27)
        have HLITx := Lib.hid (tnew12 w9 (.cells #[.slice none 0 0, .slice p0 Q0.length c0, .slice none 0 0] 27))
        have HS10' := Lib.hid hb
        refine hK.out _ _ (HSS.out _ (((((HS5.out.trans HS6.out).trans HS7.out).trans HS8.out).trans HS9.out).trans hb)) (fun hHeld => ?_)
        clear hK K
        try simp only [Act.put, List.setIfInBounds_toArray, List.set_cons_zero, List.set_cons_succ]
        obtain ⟨w10, hw⟩ : ∃ z, z = World.alloc w9 (.cells #[.slice none 0 0, .slice p0 Q0.length c0, .slice none 0 0] 27) := ⟨_, rfl⟩
        rw [← hw] at hHeld HLITx hb ⊢
        clear hw HS10'
        obtain ⟨Bx, hBx⟩ : ∃ b, b = w9.heap.size := ⟨_, rfl⟩
        rw [← hBx] at HLITx ⊢
        clear hBx
        have HS10 := Lib.hid hb
        have HB10 := Lib.hid (HB9.out.trans hb)
        clear hb
        refine wpAnyH_ready (rs := [12]) (by kernel_rfl) (by simp) ?_
        refine AllReadyH.cons (o := { dst := some 57, op := Op.call { callee := Callee.value (Operand.func 11), args := #[Operand.tmp 56], argTypes := #[22] }, type := 27, pos := "law.go:163", after := #[{ on := 11, ground := Ground.data }, { on := 7, ground := Ground.chain }, { on := 7, ground := Ground.guard }], guard := some (7, true) }) rfl (fun K hK => ?_) AllReadyH.nil
        go_simp
        refine (KG.mrg_is (some ⟨Bx, 0, none⟩) 3 [[], Q0, []] Q0 w10 (mid_merge HQ0.out.srt) (KG.okBel HOK.out HB10.out) (rows_lit3 HLITx.out rfl (HE0.out.bel (((((((HS3.out.trans HS4.out).trans HS5.out).trans HS6.out).trans HS7.out).trans HS8.out).trans HS9.out).trans HS10.out)) hc0) (by simp) (by simp) (mid_good HQ0.out)).mono ?_
        rintro r w11 ⟨py, cy, rfl, he, hcp, hb⟩
        have HS11 := Lib.hid hb
        have HB11 := Lib.hid (HB10.out.trans hb)
        have HEy := Lib.hid (show ∀ z, Bel w11 z → EntsAt z py (Q0) from fun z hz => he.bel hz)
        have HCy := Lib.hid hcp
        clear he hb
        dsimp only
        refine hK.out _ _ (HSS.out _ ((((((HS5.out.trans HS6.out).trans HS7.out).trans HS8.out).trans HS9.out).trans HS10.out).trans HS11.out)) (fun hHeld => ?_)
        clear hK K
        try simp only [Act.put, List.setIfInBounds_toArray, List.set_cons_zero, List.set_cons_succ]
        refine wpAnyH_ready (rs := [16]) (by kernel_rfl) (by simp) ?_
        refine AllReadyH.cons (o := { dst := some 61, op := Op.call { callee := Callee.value (Operand.func 13), args := #[Operand.tmp 57, Operand.tmp 60], argTypes := #[27, 27] }, type := 4, pos := "law.go:163", after := #[{ on := 12, ground := Ground.data }, { on := 15, ground := Ground.data }, { on := 12, ground := Ground.chain }, { on := 7, ground := Ground.guard }], guard := some (7, true) }) rfl (fun K hK => ?_) AllReadyH.nil
        go_simp
        refine (same12_at py p0 Q0.length Q0.length cy c0 Q0 w11 (HEy.out _ (Bel.refl w11)) (HE0.out.bel ((((((((HS3.out.trans HS4.out).trans HS5.out).trans HS6.out).trans HS7.out).trans HS8.out).trans HS9.out).trans HS10.out).trans HS11.out)) (by have := HQ0.out.len; omega) rfl rfl).mono ?_
        rintro r w12 ⟨rfl, hb⟩
        replace hb := hb.bel
        have HS12 := Lib.hid hb
        have HB12 := Lib.hid (HB11.out.trans hb)
        clear hb
        dsimp only
        refine hK.out _ _ (HSS.out _ (((((((HS5.out.trans HS6.out).trans HS7.out).trans HS8.out).trans HS9.out).trans HS10.out).trans HS11.out).trans HS12.out)) (fun hHeld => ?_)
        clear hK K
        try simp only [Act.put, List.setIfInBounds_toArray, List.set_cons_zero, List.set_cons_succ]
        refine wpAnyH_take (i := 17) (oi := { dst := some 62, op := Op.pick (Operand.tmp 52) (Operand.tmp 61) (Operand.const (Value.bool false)), type := 4, pos := "law.go:163", after := #[{ on := 7, ground := Ground.data }, { on := 16, ground := Ground.data }], guard := none }) (v := ?_) rfl (by kernel_rfl) (by kernel_rfl) (by kernel_rfl) (fun _ _ _ h => h) (Or.inl ⟨by rfl, ?_⟩) (by assumption) ?_
        rotate_left
        · (intro w hSw; (try dsimp only at hSw); first | (go_simp; done) | (go_simp; with_reducible rfl))
        try simp only [Act.put, List.setIfInBounds_toArray, List.set_cons_zero, List.set_cons_succ]
        refine wpAnyH_take (i := 18) (oi := { dst := some 63, op := Op.move (Operand.tmp 62), type := 4, pos := "law.go:163", after := #[{ on := 17, ground := Ground.data }, { on := 16, ground := Ground.chain }], guard := none }) (v := ?_) rfl (by kernel_rfl) (by kernel_rfl) (by kernel_rfl) (fun _ _ _ h => h) (Or.inl ⟨by rfl, ?_⟩) (by assumption) ?_
        rotate_left
        · (intro w hSw; (try dsimp only at hSw); first | (go_simp; done) | (go_simp; with_reducible rfl))
        try simp only [Act.put, List.setIfInBounds_toArray, List.set_cons_zero, List.set_cons_succ]
        refine wpAnyH_take (i := 19) (oi := { dst := some 64, op := Op.move (Operand.tmp 6), type := 22, pos := "law.go:163", after := #[{ on := 18, ground := Ground.guard }], guard := some (18, true) }) (v := ?_) rfl (by kernel_rfl) (by kernel_rfl) (by kernel_rfl) (fun _ _ _ h => h) (Or.inl ⟨by rfl, ?_⟩) (by assumption) ?_
        rotate_left
        · (intro w hSw; (try dsimp only at hSw); first | (go_simp; done) | (go_simp; with_reducible rfl))
        try simp only [Act.put, List.setIfInBounds_toArray, List.set_cons_zero, List.set_cons_succ]
        refine wpAnyH_take (i := 20) (oi := { dst := some 65, op := Op.indexAddr 22 (Operand.tmp 64) (Operand.const (Value.int IntKind.i64 0)), type := 0, pos := "law.go:163", after := #[{ on := 19, ground := Ground.data }, { on := 18, ground := Ground.guard }], guard := some (18, true) }) (v := ?_) rfl (by kernel_rfl) (by kernel_rfl) (by kernel_rfl) (fun _ _ _ h => h) (Or.inl ⟨by rfl, ?_⟩) (by assumption) ?_
        rotate_left
        · (intro w hSw; (try dsimp only at hSw); first | (go_simp; done) | (go_simp; with_reducible rfl))
        try simp only [Act.put, List.setIfInBounds_toArray, List.set_cons_zero, List.set_cons_succ]
        refine wpAnyH_take (i := 21) (oi := { dst := some 66, op := Op.load 27 (Operand.tmp 65), type := 27, pos := "law.go:163", after := #[{ on := 20, ground := Ground.data }, { on := 18, ground := Ground.guard }], guard := some (18, true) }) (v := ?_) rfl (by kernel_rfl) (by kernel_rfl) (by kernel_rfl) (fun _ _ _ h => h) (Or.inl ⟨by rfl, ?_⟩) (by assumption) ?_
        rotate_left
        · (intro w hSw; (try dsimp only at hSw); first | (go_simp; done) | (go_simp; with_reducible rfl))
        try simp only [Act.put, List.setIfInBounds_toArray, List.set_cons_zero, List.set_cons_succ]
        refine wpAnyH_take (i := 22) (oi := { dst := some 67, op := Op.move (Operand.tmp 6), type := 22, pos := "law.go:163", after := #[{ on := 18, ground := Ground.guard }], guard := some (18, true) }) (v := ?_) rfl (by kernel_rfl) (by kernel_rfl) (by kernel_rfl) (fun _ _ _ h => h) (Or.inl ⟨by rfl, ?_⟩) (by assumption) ?_
        rotate_left
        · (intro w hSw; (try dsimp only at hSw); first | (go_simp; done) | (go_simp; with_reducible rfl))
        try simp only [Act.put, List.setIfInBounds_toArray, List.set_cons_zero, List.set_cons_succ]
        refine wpAnyH_take (i := 23) (oi := { dst := some 68, op := Op.indexAddr 22 (Operand.tmp 67) (Operand.const (Value.int IntKind.i64 0)), type := 0, pos := "law.go:163", after := #[{ on := 22, ground := Ground.data }, { on := 18, ground := Ground.guard }], guard := some (18, true) }) (v := ?_) rfl (by kernel_rfl) (by kernel_rfl) (by kernel_rfl) (fun _ _ _ h => h) (Or.inl ⟨by rfl, ?_⟩) (by assumption) ?_
        rotate_left
        · (intro w hSw; (try dsimp only at hSw); first | (go_simp; done) | (go_simp; with_reducible rfl))
        try simp only [Act.put, List.setIfInBounds_toArray, List.set_cons_zero, List.set_cons_succ]
        refine wpAnyH_take (i := 24) (oi := { dst := some 69, op := Op.load 27 (Operand.tmp 68), type := 27, pos := "law.go:163", after := #[{ on := 23, ground := Ground.data }, { on := 18, ground := Ground.guard }], guard := some (18, true) }) (v := ?_) rfl (by kernel_rfl) (by kernel_rfl) (by kernel_rfl) (fun _ _ _ h => h) (Or.inl ⟨by rfl, ?_⟩) (by assumption) ?_
        rotate_left
        · (intro w hSw; (try dsimp only at hSw); first | (go_simp; done) | (go_simp; with_reducible rfl))
        try simp only [Act.put, List.setIfInBounds_toArray, List.set_cons_zero, List.set_cons_succ]
        refine wpAnyH_take (i := 27) (oi := { dst := some 72, op := Op.move (Operand.tmp 6), type := 22, pos := "law.go:163", after := #[{ on := 18, ground := Ground.guard }], guard := some (18, true) }) (v := ?_) rfl (by kernel_rfl) (by kernel_rfl) (by kernel_rfl) (fun _ _ _ h => h) (Or.inl ⟨by rfl, ?_⟩) (by assumption) ?_
        rotate_left
        · (intro w hSw; (try dsimp only at hSw); first | (go_simp; done) | (go_simp; with_reducible rfl))
        try simp only [Act.put, List.setIfInBounds_toArray, List.set_cons_zero, List.set_cons_succ]
        refine wpAnyH_take (i := 28) (oi := { dst := some 73, op := Op.indexAddr 22 (Operand.tmp 72) (Operand.const (Value.int IntKind.i64 0)), type := 0, pos := "law.go:163", after := #[{ on := 27, ground := Ground.data }, { on := 18, ground := Ground.guard }], guard := some (18, true) }) (v := ?_) rfl (by kernel_rfl) (by kernel_rfl) (by kernel_rfl) (fun _ _ _ h => h) (Or.inl ⟨by rfl, ?_⟩) (by assumption) ?_
        rotate_left
        · (intro w hSw; (try dsimp only at hSw); first | (go_simp; done) | (go_simp; with_reducible rfl))
        try simp only [Act.put, List.setIfInBounds_toArray, List.set_cons_zero, List.set_cons_succ]
        refine wpAnyH_take (i := 29) (oi := { dst := some 74, op := Op.load 27 (Operand.tmp 73), type := 27, pos := "law.go:163", after := #[{ on := 28, ground := Ground.data }, { on := 18, ground := Ground.guard }], guard := some (18, true) }) (v := ?_) rfl (by kernel_rfl) (by kernel_rfl) (by kernel_rfl) (fun _ _ _ h => h) (Or.inl ⟨by rfl, ?_⟩) (by assumption) ?_
        rotate_left
        · (intro w hSw; (try dsimp only at hSw); first | (go_simp; done) | (go_simp; with_reducible rfl))
        try simp only [Act.put, List.setIfInBounds_toArray, List.set_cons_zero, List.set_cons_succ]
        refine wpAnyH_ready (rs := [25]) (by kernel_rfl) (by simp) ?_
        refine AllReadyH.cons (o := { dst := some 70, op := Op.buildSlice 22 2 #[(0, Operand.tmp 66), (1, Operand.tmp 69)], type := 22, pos := "law.go:163", after := #[{ on := 21, ground := Ground.data }, { on := 24, ground := Ground.data }, { on := 18, ground := Ground.guard }], guard := some (18, true) }) rfl (fun K hK => ?_) AllReadyH.nil
        go_simp
        have hb := (Bel.refl w12).alloc (.cells #[.slice p0 Q0.length c0, .slice p0 Q0.length c0] 27)
        have HLITu := Lib.hid (tnew12 w12 (.cells #[.slice p0 Q0.length c0, .slice p0 Q0.length c0] 27))
        have HS13' := Lib.hid hb
        refine hK.out _ _ (HSS.out _ ((((((((HS5.out.trans HS6.out).trans HS7.out).trans HS8.out).trans HS9.out).trans HS10.out).trans HS11.out).trans HS12.out).trans hb)) (fun hHeld => ?_)
        clear hK K
        try simp only [Act.put, List.setIfInBounds_toArray, List.set_cons_zero, List.set_cons_succ]
        obtain ⟨w13, hw⟩ : ∃ z, z = World.alloc w12 (.cells #[.slice p0 Q0.length c0, .slice p0 Q0.length c0] 27) := ⟨_, rfl⟩
        rw [← hw] at hHeld HLITu hb ⊢
        clear hw HS13'
        obtain ⟨Bu, hBu⟩ : ∃ b, b = w12.heap.size := ⟨_, rfl⟩
        rw [← hBu] at HLITu ⊢
        clear hBu
        have HS13 := Lib.hid hb
        have HB13 := Lib.hid (HB12.out.trans hb)
        clear hb
        refine wpAnyH_ready (rs := [26]) (by kernel_rfl) (by simp) ?_
        refine AllReadyH.cons (o := { dst := some 71, op := Op.call { callee := Callee.value (Operand.func 11), args := #[Operand.tmp 70], argTypes := #[22] }, type := 27, pos := "law.go:163", after := #[{ on := 25, ground := Ground.data }, { on := 18, ground := Ground.chain }, { on := 18, ground := Ground.guard }], guard := some (18, true) }) rfl (fun K hK => ?_) AllReadyH.nil
        go_simp
        refine (KG.mrg_is (some ⟨Bu, 0, none⟩) 2 [Q0, Q0] Q0 w13 (twice_merge HQ0.out.srt) (KG.okBel HOK.out HB13.out) (rows_lit2' HLITu.out rfl (HE0.out.bel ((((((((((HS3.out.trans HS4.out).trans HS5.out).trans HS6.out).trans HS7.out).trans HS8.out).trans HS9.out).trans HS10.out).trans HS11.out).trans HS12.out).trans HS13.out)) hc0) (by simp) (by simp) (twice_good HQ0.out)).mono ?_
        rintro r w14 ⟨pv, cv, rfl, he, hcp, hb⟩
        have HS14 := Lib.hid hb
        have HB14 := Lib.hid (HB13.out.trans hb)
        have HEv := Lib.hid (show ∀ z, Bel w14 z → EntsAt z pv (Q0) from fun z hz => he.bel hz)
        have HCv := Lib.hid hcp
        clear he hb
        dsimp only
        refine hK.out _ _ (HSS.out _ (((((((((HS5.out.trans HS6.out).trans HS7.out).trans HS8.out).trans HS9.out).trans HS10.out).trans HS11.out).trans HS12.out).trans HS13.out).trans HS14.out)) (fun hHeld => ?_)
        clear hK K
        try simp only [Act.put, List.setIfInBounds_toArray, List.set_cons_zero, List.set_cons_succ]
        refine wpAnyH_ready (rs := [30]) (by kernel_rfl) (by simp) ?_
        refine AllReadyH.cons (o := { dst := some 75, op := Op.call { callee := Callee.value (Operand.func 13), args := #[Operand.tmp 71, Operand.tmp 74], argTypes := #[27, 27] }, type := 4, pos := "law.go:163", after := #[{ on := 26, ground := Ground.data }, { on := 29, ground := Ground.data }, { on := 26, ground := Ground.chain }, { on := 18, ground := Ground.guard }], guard := some (18, true) }) rfl (fun K hK => ?_) AllReadyH.nil
        go_simp
        refine (same12_at pv p0 Q0.length Q0.length cv c0 Q0 w14 (HEv.out _ (Bel.refl w14)) (HE0.out.bel (((((((((((HS3.out.trans HS4.out).trans HS5.out).trans HS6.out).trans HS7.out).trans HS8.out).trans HS9.out).trans HS10.out).trans HS11.out).trans HS12.out).trans HS13.out).trans HS14.out)) (by have := HQ0.out.len; omega) rfl rfl).mono ?_
        rintro r w15 ⟨rfl, hb⟩
        replace hb := hb.bel
        have HS15 := Lib.hid hb
        have HB15 := Lib.hid (HB14.out.trans hb)
        clear hb
        dsimp only
        refine hK.out _ _ (HSS.out _ ((((((((((HS5.out.trans HS6.out).trans HS7.out).trans HS8.out).trans HS9.out).trans HS10.out).trans HS11.out).trans HS12.out).trans HS13.out).trans HS14.out).trans HS15.out)) (fun hHeld => ?_)
        clear hK K
        try simp only [Act.put, List.setIfInBounds_toArray, List.set_cons_zero, List.set_cons_succ]
        refine wpAnyH_take (i := 31) (oi := { dst := some 76, op := Op.pick (Operand.tmp 63) (Operand.tmp 75) (Operand.const (Value.bool false)), type := 4, pos := "law.go:163", after := #[{ on := 18, ground := Ground.data }, { on := 30, ground := Ground.data }], guard := none }) (v := ?_) rfl (by kernel_rfl) (by kernel_rfl) (by kernel_rfl) (fun _ _ _ h => h) (Or.inl ⟨by rfl, ?_⟩) (by assumption) ?_
        rotate_left
        · (intro w hSw; (try dsimp only at hSw); first | (go_simp; done) | (go_simp; with_reducible rfl))
        try simp only [Act.put, List.setIfInBounds_toArray, List.set_cons_zero, List.set_cons_succ]
        refine wpAnyH_take (i := 32) (oi := { dst := some 4, op := Op.assign (Operand.tmp 76), type := 4, pos := "law.go:163", after := #[{ on := 31, ground := Ground.data }, { on := 30, ground := Ground.chain }, { on := 0, ground := Ground.phase }, { on := 1, ground := Ground.phase }, { on := 2, ground := Ground.phase }, { on := 3, ground := Ground.phase }, { on := 4, ground := Ground.phase }, { on := 5, ground := Ground.phase }, { on := 6, ground := Ground.phase }, { on := 7, ground := Ground.phase }, { on := 8, ground := Ground.phase }, { on := 9, ground := Ground.phase }, { on := 10, ground := Ground.phase }, { on := 11, ground := Ground.phase }, { on := 12, ground := Ground.phase }, { on := 13, ground := Ground.phase }, { on := 14, ground := Ground.phase }, { on := 15, ground := Ground.phase }, { on := 16, ground := Ground.phase }, { on := 17, ground := Ground.phase }, { on := 18, ground := Ground.phase }, { on := 19, ground := Ground.phase }, { on := 20, ground := Ground.phase }, { on := 21, ground := Ground.phase }, { on := 22, ground := Ground.phase }, { on := 23, ground := Ground.phase }, { on := 24, ground := Ground.phase }, { on := 25, ground := Ground.phase }, { on := 26, ground := Ground.phase }, { on := 27, ground := Ground.phase }, { on := 28, ground := Ground.phase }, { on := 29, ground := Ground.phase }, { on := 30, ground := Ground.phase }, { on := 31, ground := Ground.phase }], guard := none }) (v := ?_) rfl (by kernel_rfl) (by kernel_rfl) (by kernel_rfl) (fun _ _ _ h => h) (Or.inl ⟨by rfl, ?_⟩) (by assumption) ?_
        rotate_left
        · (intro w hSw; (try dsimp only at hSw); first | (go_simp; done) | (go_simp; with_reducible rfl))
        try simp only [Act.put, List.setIfInBounds_toArray, List.set_cons_zero, List.set_cons_succ]
        refine wpAnyH_done (by kernel_rfl) ?_ _
        clear hHeld
        go_wp2_with (fail)
        go_ret
        exact ⟨rfl, HB15.out⟩
      · go_wp2_with (fail)
        refine (KG.mrg_at (some ⟨B0, O0, sp0⟩) c2 k (Q.take k) w2 hkl.symm (KG.okBel HOK.out HB2.out) (rows_take HRR.out k) (by rw [hkl]; omega) (by rw [hkl]; omega) (good_kit (fun L hL => HGD.out L (List.mem_of_mem_take hL)))).mono ?_
        rintro r w3 ⟨pa, ca, rfl, he, hcp, hb⟩
        have HS3 := Lib.hid hb
        have HB3 := Lib.hid (HB2.out.trans hb)
        have HEa := Lib.hid (show ∀ z, Bel w3 z → EntsAt z pa (mergeB (Q.take k).flatten) from fun z hz => he.bel hz)
        have HCa := Lib.hid hcp
        clear he hb
        go_wp2_with (fail)
        refine (KG.mrg_at (some ((⟨B0, O0, sp0⟩ : Addr).add k)) (c2 - k) (Q.length - k) (Q.drop k) w3 hkd.symm (KG.okBel HOK.out HB3.out) (rows_drop1 (HRR.out.bel HS3.out) k c2 hcc (by omega)) (by rw [hkd]; omega) (by rw [hkd]; omega) (good_kit (fun L hL => HGD.out L (List.mem_of_mem_drop hL)))).mono ?_
        rintro r w4 ⟨pb, cb, rfl, he, hcp, hb⟩
        have HS4 := Lib.hid hb
        have HB4 := Lib.hid (HB3.out.trans hb)
        have HEb := Lib.hid (show ∀ z, Bel w4 z → EntsAt z pb (mergeB (Q.drop k).flatten) from fun z hz => he.bel hz)
        have HCb := Lib.hid hcp
        clear he hb
        have HMF := Lib.hid (halves12' (Q := Q) k)
        have HGA := Lib.hid (merge_good (Q.take k) (by rw [hkl]; omega) (fun L hL => HGD.out L (List.mem_of_mem_take hL)))
        have HGB := Lib.hid (merge_good (Q.drop k) (by rw [hkd]; omega) (fun L hL => HGD.out L (List.mem_of_mem_drop hL)))
        obtain ⟨A, hA⟩ : ∃ A, A = mergeB (Q.take k).flatten := ⟨_, rfl⟩
        obtain ⟨D, hD⟩ : ∃ D, D = mergeB (Q.drop k).flatten := ⟨_, rfl⟩
        rw [← hA] at HGA HMF HEa HCa ⊢
        rw [← hD] at HGB HMF HEb HCb ⊢
        have hml := merge_len Q.flatten
        have hfl480 := HFL.out.1
        have hm480 : (mergeB Q.flatten).length ≤ 480 := by omega
        obtain ⟨M, hM⟩ : ∃ M, M = mergeB Q.flatten := ⟨_, rfl⟩
        have HMM := Lib.hid hM.symm
        rw [← hM] at HMF hm480
        clear hA hD hM hml hfl480 hkl hkd
        have HSS := Lib.hid (show ∀ z, Bel w4 z → z.cell? ⟨B0, O0, sp0⟩ = some (.slice p0 Q0.length c0) from fun z hz => cl12 (HB4.out.trans hz |> fun h => (HS3.out.trans HS4.out).trans hz) hcell)
        go_wp2_with (fail)
        refine wp_region_held_drew (S := fun z => z.cell? ⟨B0, O0, sp0⟩ = some (.slice p0 Q0.length c0)) (by kernel_rfl) (HSS.out _ (Bel.refl w4).drew) (fun hHeld => ?_)
        obtain ⟨w5, hw⟩ : ∃ z, z = World.drew w4 := ⟨_, rfl⟩
        have hb : Bel w4 w5 := by rw [hw]; exact (Bel.refl _).drew
        rw [← hw] at hHeld ⊢
        clear hw
        have HS5 := Lib.hid hb
        have HB5 := Lib.hid (HB4.out.trans hb)
        clear hb
        refine wpAnyH_take (i := 0) (oi := { dst := some 45, op := Op.move (Operand.tmp 9), type := 27, pos := "law.go:163", after := #[], guard := none }) (v := ?_) rfl (by kernel_rfl) (by kernel_rfl) (by kernel_rfl) (fun _ _ _ h => h) (Or.inl ⟨by rfl, ?_⟩) (by assumption) ?_
        rotate_left
        · (intro w hSw; (try dsimp only at hSw); first | (go_simp; done) | (go_simp; with_reducible rfl))
        try simp only [Act.put, List.setIfInBounds_toArray, List.set_cons_zero, List.set_cons_succ]
        refine wpAnyH_take (i := 1) (oi := { dst := some 46, op := Op.move (Operand.tmp 10), type := 27, pos := "law.go:163", after := #[], guard := none }) (v := ?_) rfl (by kernel_rfl) (by kernel_rfl) (by kernel_rfl) (fun _ _ _ h => h) (Or.inl ⟨by rfl, ?_⟩) (by assumption) ?_
        rotate_left
        · (intro w hSw; (try dsimp only at hSw); first | (go_simp; done) | (go_simp; with_reducible rfl))
        try simp only [Act.put, List.setIfInBounds_toArray, List.set_cons_zero, List.set_cons_succ]
        refine wpAnyH_take (i := 4) (oi := { dst := some 49, op := Op.move (Operand.tmp 6), type := 22, pos := "law.go:163", after := #[], guard := none }) (v := ?_) rfl (by kernel_rfl) (by kernel_rfl) (by kernel_rfl) (fun _ _ _ h => h) (Or.inl ⟨by rfl, ?_⟩) (by assumption) ?_
        rotate_left
        · (intro w hSw; (try dsimp only at hSw); first | (go_simp; done) | (go_simp; with_reducible rfl))
        try simp only [Act.put, List.setIfInBounds_toArray, List.set_cons_zero, List.set_cons_succ]
        refine wpAnyH_ready (rs := [2]) (by kernel_rfl) (by simp) ?_
        refine AllReadyH.cons (o := { dst := some 47, op := Op.buildSlice 22 2 #[(0, Operand.tmp 45), (1, Operand.tmp 46)], type := 22, pos := "law.go:163", after := #[{ on := 0, ground := Ground.data }, { on := 1, ground := Ground.data }], guard := none }) rfl (fun K hK => ?_) AllReadyH.nil
        go_simp
        have hb := (Bel.refl w5).alloc (.cells #[.slice pa A.length ca, .slice pb D.length cb] 27)
        have HLITl := Lib.hid (tnew12 w5 (.cells #[.slice pa A.length ca, .slice pb D.length cb] 27))
        have HS6' := Lib.hid hb
        refine hK.out _ _ (HSS.out _ (HS5.out.trans hb)) (fun hHeld => ?_)
        clear hK K
        try simp only [Act.put, List.setIfInBounds_toArray, List.set_cons_zero, List.set_cons_succ]
        obtain ⟨w6, hw⟩ : ∃ z, z = World.alloc w5 (.cells #[.slice pa A.length ca, .slice pb D.length cb] 27) := ⟨_, rfl⟩
        rw [← hw] at hHeld HLITl hb ⊢
        clear hw HS6'
        obtain ⟨Bl, hBl⟩ : ∃ b, b = w5.heap.size := ⟨_, rfl⟩
        rw [← hBl] at HLITl ⊢
        clear hBl
        have HS6 := Lib.hid hb
        have HB6 := Lib.hid (HB5.out.trans hb)
        clear hb
        refine wpAnyH_ready (rs := [3]) (by kernel_rfl) (by simp) ?_
        refine AllReadyH.cons (o := { dst := some 48, op := Op.call { callee := Callee.value (Operand.func 11), args := #[Operand.tmp 47], argTypes := #[22] }, type := 27, pos := "law.go:163", after := #[{ on := 2, ground := Ground.data }], guard := none }) rfl (fun K hK => ?_) AllReadyH.nil
        go_simp
        refine (KG.mrg_is (some ⟨Bl, 0, none⟩) 2 [A, D] M w6 HMF.out (KG.okBel HOK.out HB6.out) (rows_lit2 HLITl.out (HEa.out _ ((HS4.out.trans HS5.out).trans HS6.out)) (HEb.out _ (HS5.out.trans HS6.out)) HCa.out HCb.out) (by simp) (by simp) (two_good HGA.out HGB.out)).mono ?_
        rintro r w7 ⟨pm, cm, rfl, he, hcp, hb⟩
        have HS7 := Lib.hid hb
        have HB7 := Lib.hid (HB6.out.trans hb)
        have HEm := Lib.hid (show ∀ z, Bel w7 z → EntsAt z pm (M) from fun z hz => he.bel hz)
        have HCm := Lib.hid hcp
        clear he hb
        dsimp only
        refine hK.out _ _ (HSS.out _ ((HS5.out.trans HS6.out).trans HS7.out)) (fun hHeld => ?_)
        clear hK K
        try simp only [Act.put, List.setIfInBounds_toArray, List.set_cons_zero, List.set_cons_succ]
        refine wpAnyH_ready (rs := [5]) (by kernel_rfl) (by simp) ?_
        refine AllReadyH.cons (o := { dst := some 50, op := Op.call { callee := Callee.value (Operand.func 11), args := #[Operand.tmp 49], argTypes := #[22] }, type := 27, pos := "law.go:163", after := #[{ on := 4, ground := Ground.data }, { on := 3, ground := Ground.chain }], guard := none }) rfl (fun K hK => ?_) AllReadyH.nil
        go_simp
        refine (KG.mrg_is (some ⟨B0, O0, sp0⟩) c2 Q M w7 HMM.out (KG.okBel HOK.out HB7.out) (HRR.out.bel ((((HS3.out.trans HS4.out).trans HS5.out).trans HS6.out).trans HS7.out)) hcc (by omega) (good_kit HGD.out)).mono ?_
        rintro r w8 ⟨pn, cn, rfl, he, hcp, hb⟩
        have HS8 := Lib.hid hb
        have HB8 := Lib.hid (HB7.out.trans hb)
        have HEn := Lib.hid (show ∀ z, Bel w8 z → EntsAt z pn (M) from fun z hz => he.bel hz)
        have HCn := Lib.hid hcp
        clear he hb
        dsimp only
        refine hK.out _ _ (HSS.out _ (((HS5.out.trans HS6.out).trans HS7.out).trans HS8.out)) (fun hHeld => ?_)
        clear hK K
        try simp only [Act.put, List.setIfInBounds_toArray, List.set_cons_zero, List.set_cons_succ]
        refine wpAnyH_ready (rs := [6]) (by kernel_rfl) (by simp) ?_
        refine AllReadyH.cons (o := { dst := some 51, op := Op.call { callee := Callee.value (Operand.func 13), args := #[Operand.tmp 48, Operand.tmp 50], argTypes := #[27, 27] }, type := 4, pos := "law.go:163", after := #[{ on := 3, ground := Ground.data }, { on := 5, ground := Ground.data }, { on := 5, ground := Ground.chain }], guard := none }) rfl (fun K hK => ?_) AllReadyH.nil
        go_simp
        refine (same12_any pm pn cm cn M w8 (HEm.out _ HS8.out) (HEn.out _ (Bel.refl w8)) (by omega)).mono ?_
        rintro r w9 ⟨rfl, hb⟩
        replace hb := hb.bel
        have HS9 := Lib.hid hb
        have HB9 := Lib.hid (HB8.out.trans hb)
        clear hb
        dsimp only
        refine hK.out _ _ (HSS.out _ ((((HS5.out.trans HS6.out).trans HS7.out).trans HS8.out).trans HS9.out)) (fun hHeld => ?_)
        clear hK K
        try simp only [Act.put, List.setIfInBounds_toArray, List.set_cons_zero, List.set_cons_succ]
        refine wpAnyH_take (i := 7) (oi := { dst := some 52, op := Op.move (Operand.tmp 51), type := 4, pos := "law.go:163", after := #[{ on := 6, ground := Ground.data }, { on := 6, ground := Ground.chain }], guard := none }) (v := ?_) rfl (by kernel_rfl) (by kernel_rfl) (by kernel_rfl) (fun _ _ _ h => h) (Or.inl ⟨by rfl, ?_⟩) (by assumption) ?_
        rotate_left
        · (intro w hSw; (try dsimp only at hSw); first | (go_simp; done) | (go_simp; with_reducible rfl))
        try simp only [Act.put, List.setIfInBounds_toArray, List.set_cons_zero, List.set_cons_succ]
        refine wpAnyH_take (i := 8) (oi := { dst := some 53, op := Op.move (Operand.tmp 6), type := 22, pos := "law.go:163", after := #[{ on := 7, ground := Ground.guard }], guard := some (7, true) }) (v := ?_) rfl (by kernel_rfl) (by kernel_rfl) (by kernel_rfl) (fun _ _ _ h => h) (Or.inl ⟨by rfl, ?_⟩) (by assumption) ?_
        rotate_left
        · (intro w hSw; (try dsimp only at hSw); first | (go_simp; done) | (go_simp; with_reducible rfl))
        try simp only [Act.put, List.setIfInBounds_toArray, List.set_cons_zero, List.set_cons_succ]
        refine wpAnyH_take (i := 9) (oi := { dst := some 54, op := Op.indexAddr 22 (Operand.tmp 53) (Operand.const (Value.int IntKind.i64 0)), type := 0, pos := "law.go:163", after := #[{ on := 8, ground := Ground.data }, { on := 7, ground := Ground.guard }], guard := some (7, true) }) (v := ?_) rfl (by kernel_rfl) (by kernel_rfl) (by kernel_rfl) (fun _ _ _ h => h) (Or.inl ⟨by rfl, ?_⟩) (by assumption) ?_
        rotate_left
        · (intro w hSw; (try dsimp only at hSw); first | (go_simp; done) | (go_simp; with_reducible rfl))
        try simp only [Act.put, List.setIfInBounds_toArray, List.set_cons_zero, List.set_cons_succ]
        refine wpAnyH_take (i := 10) (oi := { dst := some 55, op := Op.load 27 (Operand.tmp 54), type := 27, pos := "law.go:163", after := #[{ on := 9, ground := Ground.data }, { on := 7, ground := Ground.guard }], guard := some (7, true) }) (v := ?_) rfl (by kernel_rfl) (by kernel_rfl) (by kernel_rfl) (fun _ _ _ h => h) (Or.inl ⟨by rfl, ?_⟩) (by assumption) ?_
        rotate_left
        · (intro w hSw; (try dsimp only at hSw); first | (go_simp; done) | (go_simp; with_reducible rfl))
        try simp only [Act.put, List.setIfInBounds_toArray, List.set_cons_zero, List.set_cons_succ]
        refine wpAnyH_take (i := 13) (oi := { dst := some 58, op := Op.move (Operand.tmp 6), type := 22, pos := "law.go:163", after := #[{ on := 7, ground := Ground.guard }], guard := some (7, true) }) (v := ?_) rfl (by kernel_rfl) (by kernel_rfl) (by kernel_rfl) (fun _ _ _ h => h) (Or.inl ⟨by rfl, ?_⟩) (by assumption) ?_
        rotate_left
        · (intro w hSw; (try dsimp only at hSw); first | (go_simp; done) | (go_simp; with_reducible rfl))
        try simp only [Act.put, List.setIfInBounds_toArray, List.set_cons_zero, List.set_cons_succ]
        refine wpAnyH_take (i := 14) (oi := { dst := some 59, op := Op.indexAddr 22 (Operand.tmp 58) (Operand.const (Value.int IntKind.i64 0)), type := 0, pos := "law.go:163", after := #[{ on := 13, ground := Ground.data }, { on := 7, ground := Ground.guard }], guard := some (7, true) }) (v := ?_) rfl (by kernel_rfl) (by kernel_rfl) (by kernel_rfl) (fun _ _ _ h => h) (Or.inl ⟨by rfl, ?_⟩) (by assumption) ?_
        rotate_left
        · (intro w hSw; (try dsimp only at hSw); first | (go_simp; done) | (go_simp; with_reducible rfl))
        try simp only [Act.put, List.setIfInBounds_toArray, List.set_cons_zero, List.set_cons_succ]
        refine wpAnyH_take (i := 15) (oi := { dst := some 60, op := Op.load 27 (Operand.tmp 59), type := 27, pos := "law.go:163", after := #[{ on := 14, ground := Ground.data }, { on := 7, ground := Ground.guard }], guard := some (7, true) }) (v := ?_) rfl (by kernel_rfl) (by kernel_rfl) (by kernel_rfl) (fun _ _ _ h => h) (Or.inl ⟨by rfl, ?_⟩) (by assumption) ?_
        rotate_left
        · (intro w hSw; (try dsimp only at hSw); first | (go_simp; done) | (go_simp; with_reducible rfl))
        try simp only [Act.put, List.setIfInBounds_toArray, List.set_cons_zero, List.set_cons_succ]
        refine wpAnyH_ready (rs := [11]) (by kernel_rfl) (by simp) ?_
        refine AllReadyH.cons (o := { dst := some 56, op := Op.buildSlice 22 3 #[(0, Operand.const (Value.slice none 0 0)), (1, Operand.tmp 55), (2, Operand.const (Value.slice none 0 0))], type := 22, pos := "law.go:163", after := #[{ on := 10, ground := Ground.data }, { on := 7, ground := Ground.guard }], guard := some (7, true) }) rfl (fun K hK => ?_) AllReadyH.nil
        go_simp
        have hb := (Bel.refl w9).alloc (.cells #[.slice none 0 0, .slice p0 Q0.length c0, .slice none 0 0] 27)
        have HLITx := Lib.hid (tnew12 w9 (.cells #[.slice none 0 0, .slice p0 Q0.length c0, .slice none 0 0] 27))
        have HS10' := Lib.hid hb
        refine hK.out _ _ (HSS.out _ (((((HS5.out.trans HS6.out).trans HS7.out).trans HS8.out).trans HS9.out).trans hb)) (fun hHeld => ?_)
        clear hK K
        try simp only [Act.put, List.setIfInBounds_toArray, List.set_cons_zero, List.set_cons_succ]
        obtain ⟨w10, hw⟩ : ∃ z, z = World.alloc w9 (.cells #[.slice none 0 0, .slice p0 Q0.length c0, .slice none 0 0] 27) := ⟨_, rfl⟩
        rw [← hw] at hHeld HLITx hb ⊢
        clear hw HS10'
        obtain ⟨Bx, hBx⟩ : ∃ b, b = w9.heap.size := ⟨_, rfl⟩
        rw [← hBx] at HLITx ⊢
        clear hBx
        have HS10 := Lib.hid hb
        have HB10 := Lib.hid (HB9.out.trans hb)
        clear hb
        refine wpAnyH_ready (rs := [12]) (by kernel_rfl) (by simp) ?_
        refine AllReadyH.cons (o := { dst := some 57, op := Op.call { callee := Callee.value (Operand.func 11), args := #[Operand.tmp 56], argTypes := #[22] }, type := 27, pos := "law.go:163", after := #[{ on := 11, ground := Ground.data }, { on := 7, ground := Ground.chain }, { on := 7, ground := Ground.guard }], guard := some (7, true) }) rfl (fun K hK => ?_) AllReadyH.nil
        go_simp
        refine (KG.mrg_is (some ⟨Bx, 0, none⟩) 3 [[], Q0, []] Q0 w10 (mid_merge HQ0.out.srt) (KG.okBel HOK.out HB10.out) (rows_lit3 HLITx.out rfl (HE0.out.bel (((((((HS3.out.trans HS4.out).trans HS5.out).trans HS6.out).trans HS7.out).trans HS8.out).trans HS9.out).trans HS10.out)) hc0) (by simp) (by simp) (mid_good HQ0.out)).mono ?_
        rintro r w11 ⟨py, cy, rfl, he, hcp, hb⟩
        have HS11 := Lib.hid hb
        have HB11 := Lib.hid (HB10.out.trans hb)
        have HEy := Lib.hid (show ∀ z, Bel w11 z → EntsAt z py (Q0) from fun z hz => he.bel hz)
        have HCy := Lib.hid hcp
        clear he hb
        dsimp only
        refine hK.out _ _ (HSS.out _ ((((((HS5.out.trans HS6.out).trans HS7.out).trans HS8.out).trans HS9.out).trans HS10.out).trans HS11.out)) (fun hHeld => ?_)
        clear hK K
        try simp only [Act.put, List.setIfInBounds_toArray, List.set_cons_zero, List.set_cons_succ]
        refine wpAnyH_ready (rs := [16]) (by kernel_rfl) (by simp) ?_
        refine AllReadyH.cons (o := { dst := some 61, op := Op.call { callee := Callee.value (Operand.func 13), args := #[Operand.tmp 57, Operand.tmp 60], argTypes := #[27, 27] }, type := 4, pos := "law.go:163", after := #[{ on := 12, ground := Ground.data }, { on := 15, ground := Ground.data }, { on := 12, ground := Ground.chain }, { on := 7, ground := Ground.guard }], guard := some (7, true) }) rfl (fun K hK => ?_) AllReadyH.nil
        go_simp
        refine (same12_at py p0 Q0.length Q0.length cy c0 Q0 w11 (HEy.out _ (Bel.refl w11)) (HE0.out.bel ((((((((HS3.out.trans HS4.out).trans HS5.out).trans HS6.out).trans HS7.out).trans HS8.out).trans HS9.out).trans HS10.out).trans HS11.out)) (by have := HQ0.out.len; omega) rfl rfl).mono ?_
        rintro r w12 ⟨rfl, hb⟩
        replace hb := hb.bel
        have HS12 := Lib.hid hb
        have HB12 := Lib.hid (HB11.out.trans hb)
        clear hb
        dsimp only
        refine hK.out _ _ (HSS.out _ (((((((HS5.out.trans HS6.out).trans HS7.out).trans HS8.out).trans HS9.out).trans HS10.out).trans HS11.out).trans HS12.out)) (fun hHeld => ?_)
        clear hK K
        try simp only [Act.put, List.setIfInBounds_toArray, List.set_cons_zero, List.set_cons_succ]
        refine wpAnyH_take (i := 17) (oi := { dst := some 62, op := Op.pick (Operand.tmp 52) (Operand.tmp 61) (Operand.const (Value.bool false)), type := 4, pos := "law.go:163", after := #[{ on := 7, ground := Ground.data }, { on := 16, ground := Ground.data }], guard := none }) (v := ?_) rfl (by kernel_rfl) (by kernel_rfl) (by kernel_rfl) (fun _ _ _ h => h) (Or.inl ⟨by rfl, ?_⟩) (by assumption) ?_
        rotate_left
        · (intro w hSw; (try dsimp only at hSw); first | (go_simp; done) | (go_simp; with_reducible rfl))
        try simp only [Act.put, List.setIfInBounds_toArray, List.set_cons_zero, List.set_cons_succ]
        refine wpAnyH_take (i := 18) (oi := { dst := some 63, op := Op.move (Operand.tmp 62), type := 4, pos := "law.go:163", after := #[{ on := 17, ground := Ground.data }, { on := 16, ground := Ground.chain }], guard := none }) (v := ?_) rfl (by kernel_rfl) (by kernel_rfl) (by kernel_rfl) (fun _ _ _ h => h) (Or.inl ⟨by rfl, ?_⟩) (by assumption) ?_
        rotate_left
        · (intro w hSw; (try dsimp only at hSw); first | (go_simp; done) | (go_simp; with_reducible rfl))
        try simp only [Act.put, List.setIfInBounds_toArray, List.set_cons_zero, List.set_cons_succ]
        refine wpAnyH_take (i := 19) (oi := { dst := some 64, op := Op.move (Operand.tmp 6), type := 22, pos := "law.go:163", after := #[{ on := 18, ground := Ground.guard }], guard := some (18, true) }) (v := ?_) rfl (by kernel_rfl) (by kernel_rfl) (by kernel_rfl) (fun _ _ _ h => h) (Or.inl ⟨by rfl, ?_⟩) (by assumption) ?_
        rotate_left
        · (intro w hSw; (try dsimp only at hSw); first | (go_simp; done) | (go_simp; with_reducible rfl))
        try simp only [Act.put, List.setIfInBounds_toArray, List.set_cons_zero, List.set_cons_succ]
        refine wpAnyH_take (i := 20) (oi := { dst := some 65, op := Op.indexAddr 22 (Operand.tmp 64) (Operand.const (Value.int IntKind.i64 0)), type := 0, pos := "law.go:163", after := #[{ on := 19, ground := Ground.data }, { on := 18, ground := Ground.guard }], guard := some (18, true) }) (v := ?_) rfl (by kernel_rfl) (by kernel_rfl) (by kernel_rfl) (fun _ _ _ h => h) (Or.inl ⟨by rfl, ?_⟩) (by assumption) ?_
        rotate_left
        · (intro w hSw; (try dsimp only at hSw); first | (go_simp; done) | (go_simp; with_reducible rfl))
        try simp only [Act.put, List.setIfInBounds_toArray, List.set_cons_zero, List.set_cons_succ]
        refine wpAnyH_take (i := 21) (oi := { dst := some 66, op := Op.load 27 (Operand.tmp 65), type := 27, pos := "law.go:163", after := #[{ on := 20, ground := Ground.data }, { on := 18, ground := Ground.guard }], guard := some (18, true) }) (v := ?_) rfl (by kernel_rfl) (by kernel_rfl) (by kernel_rfl) (fun _ _ _ h => h) (Or.inl ⟨by rfl, ?_⟩) (by assumption) ?_
        rotate_left
        · (intro w hSw; (try dsimp only at hSw); first | (go_simp; done) | (go_simp; with_reducible rfl))
        try simp only [Act.put, List.setIfInBounds_toArray, List.set_cons_zero, List.set_cons_succ]
        refine wpAnyH_take (i := 22) (oi := { dst := some 67, op := Op.move (Operand.tmp 6), type := 22, pos := "law.go:163", after := #[{ on := 18, ground := Ground.guard }], guard := some (18, true) }) (v := ?_) rfl (by kernel_rfl) (by kernel_rfl) (by kernel_rfl) (fun _ _ _ h => h) (Or.inl ⟨by rfl, ?_⟩) (by assumption) ?_
        rotate_left
        · (intro w hSw; (try dsimp only at hSw); first | (go_simp; done) | (go_simp; with_reducible rfl))
        try simp only [Act.put, List.setIfInBounds_toArray, List.set_cons_zero, List.set_cons_succ]
        refine wpAnyH_take (i := 23) (oi := { dst := some 68, op := Op.indexAddr 22 (Operand.tmp 67) (Operand.const (Value.int IntKind.i64 0)), type := 0, pos := "law.go:163", after := #[{ on := 22, ground := Ground.data }, { on := 18, ground := Ground.guard }], guard := some (18, true) }) (v := ?_) rfl (by kernel_rfl) (by kernel_rfl) (by kernel_rfl) (fun _ _ _ h => h) (Or.inl ⟨by rfl, ?_⟩) (by assumption) ?_
        rotate_left
        · (intro w hSw; (try dsimp only at hSw); first | (go_simp; done) | (go_simp; with_reducible rfl))
        try simp only [Act.put, List.setIfInBounds_toArray, List.set_cons_zero, List.set_cons_succ]
        refine wpAnyH_take (i := 24) (oi := { dst := some 69, op := Op.load 27 (Operand.tmp 68), type := 27, pos := "law.go:163", after := #[{ on := 23, ground := Ground.data }, { on := 18, ground := Ground.guard }], guard := some (18, true) }) (v := ?_) rfl (by kernel_rfl) (by kernel_rfl) (by kernel_rfl) (fun _ _ _ h => h) (Or.inl ⟨by rfl, ?_⟩) (by assumption) ?_
        rotate_left
        · (intro w hSw; (try dsimp only at hSw); first | (go_simp; done) | (go_simp; with_reducible rfl))
        try simp only [Act.put, List.setIfInBounds_toArray, List.set_cons_zero, List.set_cons_succ]
        refine wpAnyH_take (i := 27) (oi := { dst := some 72, op := Op.move (Operand.tmp 6), type := 22, pos := "law.go:163", after := #[{ on := 18, ground := Ground.guard }], guard := some (18, true) }) (v := ?_) rfl (by kernel_rfl) (by kernel_rfl) (by kernel_rfl) (fun _ _ _ h => h) (Or.inl ⟨by rfl, ?_⟩) (by assumption) ?_
        rotate_left
        · (intro w hSw; (try dsimp only at hSw); first | (go_simp; done) | (go_simp; with_reducible rfl))
        try simp only [Act.put, List.setIfInBounds_toArray, List.set_cons_zero, List.set_cons_succ]
        refine wpAnyH_take (i := 28) (oi := { dst := some 73, op := Op.indexAddr 22 (Operand.tmp 72) (Operand.const (Value.int IntKind.i64 0)), type := 0, pos := "law.go:163", after := #[{ on := 27, ground := Ground.data }, { on := 18, ground := Ground.guard }], guard := some (18, true) }) (v := ?_) rfl (by kernel_rfl) (by kernel_rfl) (by kernel_rfl) (fun _ _ _ h => h) (Or.inl ⟨by rfl, ?_⟩) (by assumption) ?_
        rotate_left
        · (intro w hSw; (try dsimp only at hSw); first | (go_simp; done) | (go_simp; with_reducible rfl))
        try simp only [Act.put, List.setIfInBounds_toArray, List.set_cons_zero, List.set_cons_succ]
        refine wpAnyH_take (i := 29) (oi := { dst := some 74, op := Op.load 27 (Operand.tmp 73), type := 27, pos := "law.go:163", after := #[{ on := 28, ground := Ground.data }, { on := 18, ground := Ground.guard }], guard := some (18, true) }) (v := ?_) rfl (by kernel_rfl) (by kernel_rfl) (by kernel_rfl) (fun _ _ _ h => h) (Or.inl ⟨by rfl, ?_⟩) (by assumption) ?_
        rotate_left
        · (intro w hSw; (try dsimp only at hSw); first | (go_simp; done) | (go_simp; with_reducible rfl))
        try simp only [Act.put, List.setIfInBounds_toArray, List.set_cons_zero, List.set_cons_succ]
        refine wpAnyH_ready (rs := [25]) (by kernel_rfl) (by simp) ?_
        refine AllReadyH.cons (o := { dst := some 70, op := Op.buildSlice 22 2 #[(0, Operand.tmp 66), (1, Operand.tmp 69)], type := 22, pos := "law.go:163", after := #[{ on := 21, ground := Ground.data }, { on := 24, ground := Ground.data }, { on := 18, ground := Ground.guard }], guard := some (18, true) }) rfl (fun K hK => ?_) AllReadyH.nil
        go_simp
        have hb := (Bel.refl w12).alloc (.cells #[.slice p0 Q0.length c0, .slice p0 Q0.length c0] 27)
        have HLITu := Lib.hid (tnew12 w12 (.cells #[.slice p0 Q0.length c0, .slice p0 Q0.length c0] 27))
        have HS13' := Lib.hid hb
        refine hK.out _ _ (HSS.out _ ((((((((HS5.out.trans HS6.out).trans HS7.out).trans HS8.out).trans HS9.out).trans HS10.out).trans HS11.out).trans HS12.out).trans hb)) (fun hHeld => ?_)
        clear hK K
        try simp only [Act.put, List.setIfInBounds_toArray, List.set_cons_zero, List.set_cons_succ]
        obtain ⟨w13, hw⟩ : ∃ z, z = World.alloc w12 (.cells #[.slice p0 Q0.length c0, .slice p0 Q0.length c0] 27) := ⟨_, rfl⟩
        rw [← hw] at hHeld HLITu hb ⊢
        clear hw HS13'
        obtain ⟨Bu, hBu⟩ : ∃ b, b = w12.heap.size := ⟨_, rfl⟩
        rw [← hBu] at HLITu ⊢
        clear hBu
        have HS13 := Lib.hid hb
        have HB13 := Lib.hid (HB12.out.trans hb)
        clear hb
        refine wpAnyH_ready (rs := [26]) (by kernel_rfl) (by simp) ?_
        refine AllReadyH.cons (o := { dst := some 71, op := Op.call { callee := Callee.value (Operand.func 11), args := #[Operand.tmp 70], argTypes := #[22] }, type := 27, pos := "law.go:163", after := #[{ on := 25, ground := Ground.data }, { on := 18, ground := Ground.chain }, { on := 18, ground := Ground.guard }], guard := some (18, true) }) rfl (fun K hK => ?_) AllReadyH.nil
        go_simp
        refine (KG.mrg_is (some ⟨Bu, 0, none⟩) 2 [Q0, Q0] Q0 w13 (twice_merge HQ0.out.srt) (KG.okBel HOK.out HB13.out) (rows_lit2' HLITu.out rfl (HE0.out.bel ((((((((((HS3.out.trans HS4.out).trans HS5.out).trans HS6.out).trans HS7.out).trans HS8.out).trans HS9.out).trans HS10.out).trans HS11.out).trans HS12.out).trans HS13.out)) hc0) (by simp) (by simp) (twice_good HQ0.out)).mono ?_
        rintro r w14 ⟨pv, cv, rfl, he, hcp, hb⟩
        have HS14 := Lib.hid hb
        have HB14 := Lib.hid (HB13.out.trans hb)
        have HEv := Lib.hid (show ∀ z, Bel w14 z → EntsAt z pv (Q0) from fun z hz => he.bel hz)
        have HCv := Lib.hid hcp
        clear he hb
        dsimp only
        refine hK.out _ _ (HSS.out _ (((((((((HS5.out.trans HS6.out).trans HS7.out).trans HS8.out).trans HS9.out).trans HS10.out).trans HS11.out).trans HS12.out).trans HS13.out).trans HS14.out)) (fun hHeld => ?_)
        clear hK K
        try simp only [Act.put, List.setIfInBounds_toArray, List.set_cons_zero, List.set_cons_succ]
        refine wpAnyH_ready (rs := [30]) (by kernel_rfl) (by simp) ?_
        refine AllReadyH.cons (o := { dst := some 75, op := Op.call { callee := Callee.value (Operand.func 13), args := #[Operand.tmp 71, Operand.tmp 74], argTypes := #[27, 27] }, type := 4, pos := "law.go:163", after := #[{ on := 26, ground := Ground.data }, { on := 29, ground := Ground.data }, { on := 26, ground := Ground.chain }, { on := 18, ground := Ground.guard }], guard := some (18, true) }) rfl (fun K hK => ?_) AllReadyH.nil
        go_simp
        refine (same12_at pv p0 Q0.length Q0.length cv c0 Q0 w14 (HEv.out _ (Bel.refl w14)) (HE0.out.bel (((((((((((HS3.out.trans HS4.out).trans HS5.out).trans HS6.out).trans HS7.out).trans HS8.out).trans HS9.out).trans HS10.out).trans HS11.out).trans HS12.out).trans HS13.out).trans HS14.out)) (by have := HQ0.out.len; omega) rfl rfl).mono ?_
        rintro r w15 ⟨rfl, hb⟩
        replace hb := hb.bel
        have HS15 := Lib.hid hb
        have HB15 := Lib.hid (HB14.out.trans hb)
        clear hb
        dsimp only
        refine hK.out _ _ (HSS.out _ ((((((((((HS5.out.trans HS6.out).trans HS7.out).trans HS8.out).trans HS9.out).trans HS10.out).trans HS11.out).trans HS12.out).trans HS13.out).trans HS14.out).trans HS15.out)) (fun hHeld => ?_)
        clear hK K
        try simp only [Act.put, List.setIfInBounds_toArray, List.set_cons_zero, List.set_cons_succ]
        refine wpAnyH_take (i := 31) (oi := { dst := some 76, op := Op.pick (Operand.tmp 63) (Operand.tmp 75) (Operand.const (Value.bool false)), type := 4, pos := "law.go:163", after := #[{ on := 18, ground := Ground.data }, { on := 30, ground := Ground.data }], guard := none }) (v := ?_) rfl (by kernel_rfl) (by kernel_rfl) (by kernel_rfl) (fun _ _ _ h => h) (Or.inl ⟨by rfl, ?_⟩) (by assumption) ?_
        rotate_left
        · (intro w hSw; (try dsimp only at hSw); first | (go_simp; done) | (go_simp; with_reducible rfl))
        try simp only [Act.put, List.setIfInBounds_toArray, List.set_cons_zero, List.set_cons_succ]
        refine wpAnyH_take (i := 32) (oi := { dst := some 4, op := Op.assign (Operand.tmp 76), type := 4, pos := "law.go:163", after := #[{ on := 31, ground := Ground.data }, { on := 30, ground := Ground.chain }, { on := 0, ground := Ground.phase }, { on := 1, ground := Ground.phase }, { on := 2, ground := Ground.phase }, { on := 3, ground := Ground.phase }, { on := 4, ground := Ground.phase }, { on := 5, ground := Ground.phase }, { on := 6, ground := Ground.phase }, { on := 7, ground := Ground.phase }, { on := 8, ground := Ground.phase }, { on := 9, ground := Ground.phase }, { on := 10, ground := Ground.phase }, { on := 11, ground := Ground.phase }, { on := 12, ground := Ground.phase }, { on := 13, ground := Ground.phase }, { on := 14, ground := Ground.phase }, { on := 15, ground := Ground.phase }, { on := 16, ground := Ground.phase }, { on := 17, ground := Ground.phase }, { on := 18, ground := Ground.phase }, { on := 19, ground := Ground.phase }, { on := 20, ground := Ground.phase }, { on := 21, ground := Ground.phase }, { on := 22, ground := Ground.phase }, { on := 23, ground := Ground.phase }, { on := 24, ground := Ground.phase }, { on := 25, ground := Ground.phase }, { on := 26, ground := Ground.phase }, { on := 27, ground := Ground.phase }, { on := 28, ground := Ground.phase }, { on := 29, ground := Ground.phase }, { on := 30, ground := Ground.phase }, { on := 31, ground := Ground.phase }], guard := none }) (v := ?_) rfl (by kernel_rfl) (by kernel_rfl) (by kernel_rfl) (fun _ _ _ h => h) (Or.inl ⟨by rfl, ?_⟩) (by assumption) ?_
        rotate_left
        · (intro w hSw; (try dsimp only at hSw); first | (go_simp; done) | (go_simp; with_reducible rfl))
        try simp only [Act.put, List.setIfInBounds_toArray, List.set_cons_zero, List.set_cons_succ]
        refine wpAnyH_done (by kernel_rfl) ?_ _
        clear hHeld
        go_wp2_with (fail)
        go_ret
        exact ⟨rfl, HB15.out⟩
  · go_wp2_with (fail)
    go_ret
    exact ⟨rfl, HB2.out⟩
end Go.Proofs.Ytmdkpomgckkllaa
