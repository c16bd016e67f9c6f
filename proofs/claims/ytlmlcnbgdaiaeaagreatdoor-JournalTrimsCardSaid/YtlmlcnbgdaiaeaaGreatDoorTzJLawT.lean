/- moultlaw7.JournalTrims. -/
import Derived.Test.YtlmlcnbgdaiaeaaGreatDoorT23
import Derived.Test.YtlmlcnbgdaiaeaaGreatDoorT2
set_option linter.unusedSimpArgs false
set_option linter.unusedVariables false
namespace Go.Proofs.YtlmlcnbgdaiaeaaGreatDoor
open Go.RowKit Go.Deep Go.Maps

theorem lvs_at {w : World} {p : Option Addr} {L : List LV} (h : LvsAt w p L) {k : Nat} (hk : k < L.length) : ∃ a, p = some a ∧ (∀ x, Bel w x → x.cell? (a.add k) = some (.slice L[k].p L[k].l.length L[k].cap)) ∧ LV.ok w L[k] := by
  obtain ⟨a, h1, h2, h3⟩ := h k hk
  exact ⟨a, h1, fun x hx => cell_later hx h2, h3⟩
theorem bools_at {w : World} {p : Option Addr} {L : List Bool} (h : BoolsAt w p L) {k : Nat} (hk : k < L.length) : ∃ a, p = some a ∧ ∀ x, Bel w x → x.cell? (a.add k) = some (.bool L[k]) := by
  obtain ⟨a, h1, h2⟩ := h k hk
  exact ⟨a, h1, fun x hx => cell_later hx h2⟩
def TrLRel (w : World) (B : Nat) (ws ms b r jb rb : Nat) (M' : RS) (n : Nat) (ov av iv : Value) (x : World) : Prop :=
  ∃ (k : Nat) (M : RS) (f : Nat → Bt) (PL : List (Nat × LV)), iv = .int .i64 k ∧ k ≤ n ∧ LW w x ws ms b r jb rb M M' logB 2000 (ov.ownBlock.toList ++ av.ownBlock.toList) ∧ HoldS logB.data.toList M.L f ∧ Alive M ∧ lastN logB.data.toList M.L ≠ 0 ∧ lastN logB.data.toList M.L ≤ 2 * k + 1 ∧ M.room ≤ 1000000 ∧
    OwnG lvEl B x ov (PL.map Prod.snd) ∧ OwnG intEl B x av ((PL.map Prod.fst).map fun n : Nat => (n : Int)) ∧ pairF logB.data.toList M.L f = PL.map (fun q => (q.1, q.2.l)) ∧ PL.length ≤ k ∧ ∀ s ∈ PL, LV.ok w s.2
def FiRel (z : World) (n : Nat) (iv : Value) (x : World) : Prop := ∃ j : Nat, iv = .int .i64 j ∧ j ≤ n ∧ Bel z x
set_option maxHeartbeats 16000000 in
set_option maxRecDepth 20000 in
theorem law_trims7_any (w : World) (p : Option Addr) (cap : Nat) (L : List LV) (q : Option Addr) (qcap : Nat) (T : List Bool) (before : Int) (hstd : Std w) (h : LvsAt w p L) (hL : L.length ≤ maxLen) (hT : BoolsAt w q T) (hTL : T.length ≤ maxLen) (hbefore : -9223372036854775808 ≤ before ∧ before ≤ 9223372036854775807) :
    Calls Tryz.prog 6 #[.slice p L.length cap, .slice q T.length qcap, .int .i64 before] w fun e w' => e = .returned (.bool true) ∧ Bel w w' := by
  have HS := Lib.hid hstd
  have H := Lib.hid h
  have HTB := Lib.hid hT
  have HBF := Lib.hid (show in64 before from hbefore)
  unfold maxLen at hL hTL
  clear hstd h hT
  by_cases h40 : 40 < L.length
  · go_enter Tryz.func6, Tryz.ntmps6
    go_wp2_with (fail)
    refine (jshown_any w HS.out).mono ?_
    rintro e w1 ⟨rfl, hb1⟩
    have HB1 := Lib.hid hb1; clear hb1
    go_wp2_with (fail)
    go_ret
    exact ⟨rfl, HB1.out⟩
  by_cases h100 : 100 < T.length
  · go_enter Tryz.func6, Tryz.ntmps6
    go_wp2_with (fail)
    refine (jshown_any w HS.out).mono ?_
    rintro e w1 ⟨rfl, hb1⟩
    have HB1 := Lib.hid hb1; clear hb1
    go_wp2_with (fail)
    go_ret
    exact ⟨rfl, HB1.out⟩
  go_enter Tryz.func6, Tryz.ntmps6
  go_wp2_with (fail)
  refine (jshown_any w HS.out).mono ?_
  rintro e w1 ⟨rfl, hb1⟩
  have HB1 := Lib.hid hb1; clear hb1
  go_wp2_with (fail)
  refine (jbegin_any w _ HS.out HB1.out 1000000 2000 (by omega)).mono ?_
  rintro e w3 ⟨ws, ms, b, r, jb, rb, rfl, h3⟩
  have H3 := Lib.hid h3
  obtain ⟨B, hBD⟩ : ∃ B, B = max (max ws ms) (max jb rb) + 1 := ⟨_, rfl⟩
  have HBD := Lib.hid hBD
  have LOW := Lib.hid (h3.above hBD).2
  clear hBD
  obtain ⟨M', hM'⟩ : ∃ M', M' = bgM 1000000 := ⟨_, rfl⟩
  have HM' := Lib.hid hM'
  clear h3 hM'
  go_wp2_with (fail)
  go_loopw [11, 12, 13] (fun ov av iv x => TrLRel w B ws ms b r jb rb M' L.length ov av iv x) (fun _ _ iv _ => L.length - (intOf iv).toNat)
  case atStart => exact ⟨0, bgM 1000000, fun _ => [], [], rfl, Nat.zero_le _, by rw [HM'.out]; exact H3.out, bg_hold _, bg_alive _, by rw [logB_list, last_bg7]; omega, by rw [logB_list, last_bg7]; omega, by show (1000000 : Int) ≤ 1000000; omega, OwnG.nil _ _ _, OwnG.nil _ _ _, bg_pair _, Nat.zero_le _, fun s hs => by cases hs⟩
  case round =>
    obtain ⟨k, M, f, PL, rfl, hk, hx, hh, hlv, hl0, hl1, hrm, hov, hav, hpr, hpl, hpo⟩ := hrel
    obtain ⟨op, oc, hv1⟩ := ownG_len hov
    rw [List.length_map] at hv1
    subst hv1
    obtain ⟨ap, ac, hv2⟩ := ownG_len hav
    rw [List.length_map, List.length_map] at hv2
    subst hv2
    have HX0 := Lib.hid hx
    have HH0 := Lib.hid hh
    have HLV0 := Lib.hid hlv
    have HL00 := Lib.hid hl0
    have HL10 := Lib.hid hl1
    have HRM0 := Lib.hid hrm
    have HOV0 := Lib.hid hov
    have HAV0 := Lib.hid hav
    have HPR0 := Lib.hid hpr
    have HPO := Lib.hid hpo
    clear hx hh hlv hl0 hl1 hrm hov hav hpr hpo H3
    by_cases hlt : k < L.length
    · obtain ⟨a, rfl, hcl, hok⟩ := lvs_at H.out hlt
      obtain ⟨y, hy⟩ : ∃ y, y = L[k] := ⟨_, rfl⟩
      rw [← hy] at hcl hok
      have HCL := Lib.hid hcl
      have HOK := Lib.hid hok
      have cl0 := hcl _ HX0.out.low
      clear hy hcl hok
      cases hsm : jsmallB [⟨0, 0, y.p, y.cap, y.l, nilI, nilI⟩] with
      | false =>
        have HSM := Lib.hid hsm; clear hsm
        go_wp2_with (fail)
        refine (jsmall_any _ (some ⟨wr.heap.size, 0, none⟩) 1 [⟨0, 0, y.p, y.cap, y.l, nilI, nilI⟩] (lit_act wr y.p y.cap y.l (HOK.out.1.bel HX0.out.low) HOK.out.2.1 HOK.out.2.2) (by unfold maxLen; simp)).mono ?_
        rintro e x1 ⟨rfl, hd1⟩
        rw [HSM.out]
        have HB1' := Lib.hid ((HX0.out.low.alloc _).trans hd1.bel); clear hd1
        go_wp2_with (fail)
        go_ret
        exact ⟨rfl, HB1'.out⟩
      | true =>
        have HT6 := Lib.hid (show ∀ t ∈ y.l, t.length ≤ 1000000 from fun t ht => Nat.le_trans (strsB_le (by rw [small_one] at hsm; simp at hsm; exact hsm.2) t ht) (by omega))
        have HSM := Lib.hid hsm; clear hsm
        by_cases hkT : k < T.length
        · obtain ⟨d, rfl, hd⟩ := bools_at HTB.out hkT
          have HTC := Lib.hid hd
          clear hd
          have cb := HTC.out _ HX0.out.low
          cases hTk : T[k] with
          | false =>
            rw [hTk] at cb HTC
            clear hTk
            go_wp2_with (fail)
            refine (jsmall_any _ (some ⟨wr.heap.size, 0, none⟩) 1 [⟨0, 0, y.p, y.cap, y.l, nilI, nilI⟩] (lit_act wr y.p y.cap y.l (HOK.out.1.bel HX0.out.low) HOK.out.2.1 HOK.out.2.2) (by unfold maxLen; simp)).mono ?_
            rintro e x1 ⟨rfl, hd1⟩
            rw [HSM.out]
            have HBA := Lib.hid (((Bel.refl wr).alloc (.cells #[.int .i64 0, .int .i64 0, .slice y.p y.l.length y.cap, .slice none 0 0, .slice none 0 0] 37)).trans hd1.bel)
            have HX1 := Lib.hid (HX0.out.bel HBA.out)
            have HOV1 := Lib.hid (HOV0.out.bel HBA.out)
            have HAV1 := Lib.hid (HAV0.out.bel HBA.out)
            clear hd1 cl0
            have cb1 := HTC.out _ HX1.out.low
            clear cb
            have HX := HX1
            have HOV := HOV1
            have HAV := HAV1
            have HH := HH0
            have HLV := HLV0
            have HL0 := HL00
            have HL1 := Lib.hid (show lastN logB.data.toList M.L ≤ 2 * k + 2 by have := HL10.out; omega)
            have HRM := HRM0
            have HPR := HPR0
            clear HX1 HOV1 HAV1 HX0 HOV0 HAV0 HH0 HLV0 HL00 HL10 HRM0 HPR0 HBA
            obtain ⟨-, s1, -, -, -, -⟩ := HX.out.cells
            have cl := HCL.out _ HX.out.low
            obtain ⟨ew, M2, hwr⟩ : ∃ ew M2, jwrite logB.data.toList 2000 y.l M = (ew, M2) := ⟨_, _, rfl⟩
            have HWR := Lib.hid hwr
            have hpost := hold_write (p := logB.data.toList) (most := 2000) HX.out.tw.good (by have := HL1.out; omega) HH.out y.l
            have hlast := doj_last (p := logB.data.toList) (most := 2000) (a := ⟨0, 0, y.p, y.cap, y.l, nilI, nilI⟩) HX.out.tw.good HL0.out (by have := HL1.out; omega) (by rw [logB_list]; decide)
            have halive := jwrite_alive HLV.out logB.data.toList 2000 y.l
            have hroom := jwrite_room logB.data.toList 2000 y.l M
            rw [show doJ logB.data.toList 2000 ⟨0, 0, y.p, y.cap, y.l, nilI, nilI⟩ M = ((jwrite logB.data.toList 2000 y.l M).1, [], (jwrite logB.data.toList 2000 y.l M).2) from rfl] at hlast
            rw [hwr] at hpost hlast halive hroom
            have HPOST := Lib.hid hpost
            have HL0' := Lib.hid (show lastN logB.data.toList M2.L ≠ 0 from hlast.1)
            have HL1' := Lib.hid (show lastN logB.data.toList M2.L ≤ 2 * k + 3 by have h1 : lastN logB.data.toList M2.L ≤ lastN logB.data.toList M.L + 1 := hlast.2; have h2 := HL1.out; omega)
            have HLV' := Lib.hid (show Alive M2 from halive)
            have HRM' := Lib.hid (show M2.room ≤ 1000000 by rw [show M2.room = M.room from hroom]; exact HRM.out)
            clear hwr hpost hlast halive hroom
            go_wp2_with (fail)
            refine wp_region_held_drew (S := fun z => z.cell? ⟨ws, 1, none⟩ = some (.pointer (some ⟨jb, 0, none⟩)) ∧ z.cell? (a.add k) = some (.slice y.p y.l.length y.cap)) (by kernel_rfl) ⟨s1, cl⟩ (fun hHeld => ?_)
            refine tk (oi := { dst := some 75, op := Op.move (Operand.tmp 8), type := 25, pos := "law.go:332", after := #[], guard := none }) (v := ?_) 0 rfl ?_ ?_
            rotate_left
            · (intro w hSw; (try dsimp only at hSw); first | (go_simp; done) | (go_simp; with_reducible rfl))
            try simp only [Act.put, List.setIfInBounds_toArray, List.set_cons_zero, List.set_cons_succ]
            refine tk (oi := { dst := some 76, op := Op.nilCheck (Operand.tmp 75), type := 0, pos := "law.go:332", after := #[{ on := 0, ground := Ground.data }], guard := none }) (v := ?_) 1 rfl ?_ ?_
            rotate_left
            · (intro w hSw; (try dsimp only at hSw); first | (go_simp; done) | (go_simp; with_reducible rfl))
            try simp only [Act.put, List.setIfInBounds_toArray, List.set_cons_zero, List.set_cons_succ]
            refine tk (oi := { dst := some 77, op := Op.fieldAddr 58 (Operand.tmp 76) 1, type := 0, pos := "law.go:332", after := #[{ on := 1, ground := Ground.data }], guard := none }) (v := ?_) 2 rfl ?_ ?_
            rotate_left
            · (intro w hSw; (try dsimp only at hSw); first | (go_simp; done) | (go_simp; with_reducible rfl))
            try simp only [Act.put, List.setIfInBounds_toArray, List.set_cons_zero, List.set_cons_succ]
            refine tk (oi := { dst := some 78, op := Op.load 51 (Operand.tmp 77), type := 51, pos := "law.go:332", after := #[{ on := 2, ground := Ground.data }], guard := none }) (v := ?_) 3 rfl ?_ ?_
            rotate_left
            · (intro w hSw; (try dsimp only at hSw); first | (go_simp; done) | (go_simp; with_reducible rfl))
            try simp only [Act.put, List.setIfInBounds_toArray, List.set_cons_zero, List.set_cons_succ]
            refine tk (oi := { dst := some 79, op := Op.move (Operand.tmp 0), type := 30, pos := "law.go:332", after := #[], guard := none }) (v := ?_) 4 rfl ?_ ?_
            rotate_left
            · (intro w hSw; (try dsimp only at hSw); first | (go_simp; done) | (go_simp; with_reducible rfl))
            try simp only [Act.put, List.setIfInBounds_toArray, List.set_cons_zero, List.set_cons_succ]
            refine tk (oi := { dst := some 80, op := Op.move (Operand.tmp 13), type := 3, pos := "law.go:332", after := #[], guard := none }) (v := ?_) 5 rfl ?_ ?_
            rotate_left
            · (intro w hSw; (try dsimp only at hSw); first | (go_simp; done) | (go_simp; with_reducible rfl))
            try simp only [Act.put, List.setIfInBounds_toArray, List.set_cons_zero, List.set_cons_succ]
            refine tk (oi := { dst := some 81, op := Op.indexAddr 30 (Operand.tmp 79) (Operand.tmp 80), type := 0, pos := "law.go:332", after := #[{ on := 4, ground := Ground.data }, { on := 5, ground := Ground.data }], guard := none }) (v := ?_) 6 rfl ?_ ?_
            rotate_left
            · (intro w hSw; (try dsimp only at hSw); first | (go_simp; done) | (go_simp; with_reducible rfl))
            try simp only [Act.put, List.setIfInBounds_toArray, List.set_cons_zero, List.set_cons_succ]
            refine tk (oi := { dst := some 82, op := Op.load 34 (Operand.tmp 81), type := 34, pos := "law.go:332", after := #[{ on := 6, ground := Ground.data }], guard := none }) (v := ?_) 7 rfl ?_ ?_
            rotate_left
            · (intro w hSw; (try dsimp only at hSw); first | (go_simp; done) | (go_simp; with_reducible rfl))
            try simp only [Act.put, List.setIfInBounds_toArray, List.set_cons_zero, List.set_cons_succ]
            refine wpAnyH_ready (rs := [8]) (by kernel_rfl) (by simp) ?_
            refine AllReadyH.cons (o := { dst := some 83, op := Op.call { callee := Callee.value (Operand.func 23), args := #[Operand.tmp 78, Operand.tmp 82], argTypes := #[51, 34] }, type := 31, pos := "law.go:332", after := #[{ on := 3, ground := Ground.data }, { on := 7, ground := Ground.data }], guard := none }) rfl (fun K hK => ?_) AllReadyH.nil
            go_simp
            refine (lw_write HX.out (Bel.refl _).drew (by decide) y.p y.cap y.l HL0.out (by have := HL1.out; omega) (show in64 2000 from ⟨by omega, by omega⟩) HOK.out.1 HOK.out.2.1 HT6.out).mono ?_
            rintro e x5 ⟨rfl, h5, hk5⟩
            rw [HWR.out] at h5 ⊢
            have H5 := Lib.hid h5
            have HOV5 := Lib.hid (ownG_block HOV.out (fun k hk => hk5 k (by simp [hk])))
            have HAV5 := Lib.hid (ownG_block HAV.out (fun k hk => hk5 k (by simp [hk])))
            obtain ⟨-, t1, -, -, -, -⟩ := h5.cells
            have cl5 := HCL.out _ h5.low
            clear h5 hk5 s1 cl
            dsimp only
            refine hK.out _ _ ⟨t1, cl5⟩ (fun hHeld => ?_)
            clear hK K
            try simp only [Act.put, List.setIfInBounds_toArray, List.set_cons_zero, List.set_cons_succ]
            refine tk (oi := { dst := some 84, op := Op.binOp BinOp.neq 31 (Operand.tmp 83) (Operand.const (Value.int IntKind.i64 0)) 31, type := 4, pos := "law.go:332", after := #[{ on := 8, ground := Ground.data }], guard := none }) (v := ?_) 9 rfl ?_ ?_
            rotate_left
            · (intro w hSw; (try dsimp only at hSw); first | (go_simp; done) | (go_simp; with_reducible rfl))
            try simp only [Act.put, List.setIfInBounds_toArray, List.set_cons_zero, List.set_cons_succ]
            refine wpAnyH_done (by kernel_rfl) ?_ _
            by_cases hew : ew = 0
            · subst hew
              obtain ⟨f2, hh2, hp2⟩ : ∃ f', HoldS logB.data.toList M2.L f' ∧ pairF logB.data.toList M2.L f' = pairF logB.data.toList M.L f ++ [(lastN logB.data.toList M2.L, y.l)] := by
                rcases HPOST.out with ⟨-, h⟩ | ⟨h, -⟩ | ⟨h, -⟩
                · exact h
                · exact absurd rfl h
                · cases h
              have HH2 := Lib.hid hh2
              have HP2 := Lib.hid hp2
              have HBS := Lib.hid (H5.out.above HBD.out).1
              clear hh2 hp2 t1
              go_wp2_with (at_builtin; refine stop_here ?_)
              refine go_on ?_
              refine lw_append (v := .slice op PL.length oc) (H5.out.alloc _) LOW.out lvOk rfl _ _ rfl rfl (HOV5.out.alloc _) (fun k hk => by simp [hk]) [y] rfl (Or.inr ⟨_, _, rfl, cellsG_new _ _ _ _ rfl⟩) (by unfold maxLen; simp only [List.length_map, List.length_singleton]; omega) (by simp only [List.length_map, List.length_singleton]; omega) (Nat.le_trans HBS.out ((Bel.refl x5).alloc _).size) ?_
              intro v6 x6 ho6 h6 hk6
              have HAV6 := Lib.hid (ownG_block (HAV5.out.alloc _) (fun k hk => hk6 k (by simp [hk]) (fun e => own_ne (HOV5.out) (HAV5.out) (by decide) e hk)))
              have HBS6 := Lib.hid (h6.above HBD.out).1
              have H6 := Lib.hid (h6.less (R' := v6.ownBlock.toList ++ (Value.slice ap PL.length ac).ownBlock.toList) (fun k hk => by
                rw [List.mem_append] at hk ⊢
                rcases hk with hk | hk
                · exact Or.inl hk
                · exact Or.inr (by simp [hk])))
              have HOV6 := Lib.hid (show OwnG lvEl B x6 v6 ((PL ++ [(lastN logB.data.toList M2.L, y)]).map Prod.snd) by simpa using ho6)
              obtain ⟨p6, c6, hv6⟩ := ownG_len HOV6.out
              rw [List.length_map, List.length_append, List.length_singleton] at hv6
              subst hv6
              obtain ⟨-, t6, -, -, -, -⟩ := H6.out.cells
              clear ho6 h6 hk6
              go_wp2_with (fail)
              refine (lw_num H6.out (Bel.refl _) (by decide)).mono ?_
              rintro e x7 ⟨rfl, h7, hb7⟩
              have H7 := Lib.hid h7
              have HAV7 := Lib.hid (HAV6.out.bel hb7)
              have HOV7 := Lib.hid (HOV6.out.bel hb7)
              have HBS7 := Lib.hid (Nat.le_trans HBS6.out hb7.size)
              clear h7 hb7 t6
              go_wp2_with (at_builtin; refine stop_here ?_)
              refine go_on ?_
              refine lw_append (v := .slice ap PL.length ac) (H7.out.alloc _) LOW.out intOk rfl _ _ rfl rfl (HAV7.out.alloc _) (fun k hk => by simp [hk]) [((lastN logB.data.toList M2.L : Nat) : Int)] rfl (Or.inr ⟨_, _, rfl, cellsG_new _ _ _ _ rfl⟩) (by unfold maxLen; simp only [List.length_map, List.length_singleton]; omega) (by simp only [List.length_map, List.length_singleton]; omega) (Nat.le_trans HBS7.out ((Bel.refl x7).alloc _).size) ?_
              intro v8 x8 ho8 h8 hk8
              have HOV8 := Lib.hid (ownG_block (HOV7.out.alloc _) (fun k hk => hk8 k (by simp [hk]) (fun e => own_ne (HAV7.out) (HOV7.out) (by decide) e hk)))
              have H8 := Lib.hid (h8.less (R' := (Value.slice p6 (PL.length + 1) c6).ownBlock.toList ++ v8.ownBlock.toList) (fun k hk => by
                rw [List.mem_append] at hk ⊢
                rcases hk with hk | hk
                · exact Or.inr (by simp [hk])
                · exact Or.inl hk))
              have HAV8 := Lib.hid (show OwnG intEl B x8 v8 (((PL ++ [(lastN logB.data.toList M2.L, y)]).map Prod.fst).map fun n : Nat => (n : Int)) by simpa using ho8)
              obtain ⟨p8, c8, hv8⟩ := ownG_len HAV8.out
              rw [List.length_map, List.length_map, List.length_append, List.length_singleton] at hv8
              subst hv8
              clear ho8 h8 hk8
              go_wp2_with (fail)
              go_roundw
              case rel => exact ⟨k + 1, M2, f2, PL ++ [(lastN logB.data.toList M2.L, y)], by go_num, by omega, H8.out, HH2.out, HLV'.out, HL0'.out, by have := HL1'.out; omega, HRM'.out, HOV8.out, HAV8.out, by rw [HP2.out, HPR.out]; simp, by simp; omega, fun s hs => by
                rcases List.mem_append.1 hs with hs | hs
                · exact HPO.out s hs
                · rw [List.mem_singleton] at hs; subst hs; exact HOK.out⟩
              case measure => simp [intOf]; omega
            · obtain ⟨f2, hh2, hp2⟩ : ∃ f', HoldS logB.data.toList M2.L f' ∧ pairF logB.data.toList M2.L f' = pairF logB.data.toList M.L f := by
                rcases HPOST.out with ⟨h, -⟩ | ⟨-, h⟩ | ⟨-, h, -⟩
                · exact absurd h hew
                · exact h
                · have := HLV'.out.2; rw [h] at this; cases this
              have HH2 := Lib.hid hh2
              have HP2 := Lib.hid hp2
              have hx3 : (ew != 0) = true := by rw [bne_iff_ne]; exact hew
              have hx2 : (ew == 0) = false := by rw [beq_eq_false_iff_ne]; exact hew
              clear hh2 hp2 t1 cl5
              go_wp2_with (fail)
              go_roundw
              case rel => exact ⟨k + 1, M2, f2, PL, by go_num, by omega, H5.out, HH2.out, HLV'.out, HL0'.out, by have := HL1'.out; omega, HRM'.out, HOV5.out, HAV5.out, by rw [HP2.out, HPR.out], by omega, HPO.out⟩
              case measure => simp [intOf]; omega
          | true =>
            rw [hTk] at cb HTC
            clear hTk
            go_wp2_with (fail)
            refine (jsmall_any _ (some ⟨wr.heap.size, 0, none⟩) 1 [⟨0, 0, y.p, y.cap, y.l, nilI, nilI⟩] (lit_act wr y.p y.cap y.l (HOK.out.1.bel HX0.out.low) HOK.out.2.1 HOK.out.2.2) (by unfold maxLen; simp)).mono ?_
            rintro e x1 ⟨rfl, hd1⟩
            rw [HSM.out]
            have HBA := Lib.hid (((Bel.refl wr).alloc (.cells #[.int .i64 0, .int .i64 0, .slice y.p y.l.length y.cap, .slice none 0 0, .slice none 0 0] 37)).trans hd1.bel)
            have HX1 := Lib.hid (HX0.out.bel HBA.out)
            have HOV1 := Lib.hid (HOV0.out.bel HBA.out)
            have HAV1 := Lib.hid (HAV0.out.bel HBA.out)
            clear hd1 cl0
            have cb1 := HTC.out _ HX1.out.low
            obtain ⟨-, s1, -, -, -, -⟩ := HX1.out.cells
            clear cb
            obtain ⟨et, M1, htu⟩ : ∃ et M1, jturn logB.data.toList M = (et, M1) := ⟨_, _, rfl⟩
            have HTU := Lib.hid htu
            have hpost := hold_turn (p := logB.data.toList) HX1.out.tw.good (by have := HL10.out; omega) HH0.out
            have hla := jturn_last (p := logB.data.toList) HX1.out.tw.good (by have := HL10.out; omega)
            have halive := jturn_alive HLV0.out logB.data.toList
            have hroom := jturn_room logB.data.toList M
            rw [htu] at hpost hla halive hroom
            have HPOST := Lib.hid hpost
            have HLA := Lib.hid hla
            have HAL := Lib.hid halive
            have HRO := Lib.hid hroom
            clear htu hpost hla halive hroom
            go_wp2_with (fail)
            refine (lw_turn HX1.out (Bel.refl _) (by decide) (by have := HL10.out; omega)).mono ?_
            rintro e x3 ⟨rfl, h3, hk3⟩
            rw [HTU.out] at h3 ⊢
            have H3x := Lib.hid h3
            have HOV3 := Lib.hid (ownG_block HOV1.out (fun k hk => hk3 k (by simp [hk])))
            have HAV3 := Lib.hid (ownG_block HAV1.out (fun k hk => hk3 k (by simp [hk])))
            clear h3 hk3 s1 cb1
            by_cases het : et = 0
            · subst het
              obtain ⟨f1, hh1, hp1, -⟩ := HPOST.out.1 rfl
              have HH := Lib.hid hh1
              have HX := Lib.hid (show LW w x3 ws ms b r jb rb M1 M' logB 2000 ((Value.slice op PL.length oc).ownBlock.toList ++ (Value.slice ap PL.length ac).ownBlock.toList) from H3x.out)
              have HOV := HOV3
              have HAV := HAV3
              have HLV := Lib.hid (show Alive M1 from HAL.out)
              have HL0 := Lib.hid (show lastN logB.data.toList M1.L ≠ 0 by have h1 : lastN logB.data.toList M1.L = lastN logB.data.toList M.L + 1 := HLA.out rfl; omega)
              have HL1 := Lib.hid (show lastN logB.data.toList M1.L ≤ 2 * k + 2 by have h1 : lastN logB.data.toList M1.L = lastN logB.data.toList M.L + 1 := HLA.out rfl; have := HL10.out; omega)
              have HRM := Lib.hid (show M1.room ≤ 1000000 by rw [show M1.room = M.room from HRO.out]; exact HRM0.out)
              have HPR := Lib.hid (show pairF logB.data.toList M1.L f1 = PL.map (fun q => (q.1, q.2.l)) by rw [show pairF logB.data.toList M1.L f1 = pairF logB.data.toList M.L f from hp1]; exact HPR0.out)
              clear hh1 hp1 H3x HOV3 HAV3 HX1 HOV1 HAV1 HX0 HOV0 HAV0 HH0 HLV0 HL00 HL10 HRM0 HPR0 HBA HPOST HLA HAL HRO HTU
              clear M f
              obtain ⟨M, hM⟩ : ∃ M, M = M1 := ⟨_, rfl⟩
              subst hM
              obtain ⟨f, hf⟩ : ∃ f, f = f1 := ⟨_, rfl⟩
              subst hf
              obtain ⟨-, s1, -, -, -, -⟩ := HX.out.cells
              have cl := HCL.out _ HX.out.low
              obtain ⟨ew, M2, hwr⟩ : ∃ ew M2, jwrite logB.data.toList 2000 y.l M = (ew, M2) := ⟨_, _, rfl⟩
              have HWR := Lib.hid hwr
              have hpost := hold_write (p := logB.data.toList) (most := 2000) HX.out.tw.good (by have := HL1.out; omega) HH.out y.l
              have hlast := doj_last (p := logB.data.toList) (most := 2000) (a := ⟨0, 0, y.p, y.cap, y.l, nilI, nilI⟩) HX.out.tw.good HL0.out (by have := HL1.out; omega) (by rw [logB_list]; decide)
              have halive := jwrite_alive HLV.out logB.data.toList 2000 y.l
              have hroom := jwrite_room logB.data.toList 2000 y.l M
              rw [show doJ logB.data.toList 2000 ⟨0, 0, y.p, y.cap, y.l, nilI, nilI⟩ M = ((jwrite logB.data.toList 2000 y.l M).1, [], (jwrite logB.data.toList 2000 y.l M).2) from rfl] at hlast
              rw [hwr] at hpost hlast halive hroom
              have HPOST := Lib.hid hpost
              have HL0' := Lib.hid (show lastN logB.data.toList M2.L ≠ 0 from hlast.1)
              have HL1' := Lib.hid (show lastN logB.data.toList M2.L ≤ 2 * k + 3 by have h1 : lastN logB.data.toList M2.L ≤ lastN logB.data.toList M.L + 1 := hlast.2; have h2 := HL1.out; omega)
              have HLV' := Lib.hid (show Alive M2 from halive)
              have HRM' := Lib.hid (show M2.room ≤ 1000000 by rw [show M2.room = M.room from hroom]; exact HRM.out)
              clear hwr hpost hlast halive hroom
              go_wp2_with (fail)
              refine wp_region_held_drew (S := fun z => z.cell? ⟨ws, 1, none⟩ = some (.pointer (some ⟨jb, 0, none⟩)) ∧ z.cell? (a.add k) = some (.slice y.p y.l.length y.cap)) (by kernel_rfl) ⟨s1, cl⟩ (fun hHeld => ?_)
              refine tk (oi := { dst := some 75, op := Op.move (Operand.tmp 8), type := 25, pos := "law.go:332", after := #[], guard := none }) (v := ?_) 0 rfl ?_ ?_
              rotate_left
              · (intro w hSw; (try dsimp only at hSw); first | (go_simp; done) | (go_simp; with_reducible rfl))
              try simp only [Act.put, List.setIfInBounds_toArray, List.set_cons_zero, List.set_cons_succ]
              refine tk (oi := { dst := some 76, op := Op.nilCheck (Operand.tmp 75), type := 0, pos := "law.go:332", after := #[{ on := 0, ground := Ground.data }], guard := none }) (v := ?_) 1 rfl ?_ ?_
              rotate_left
              · (intro w hSw; (try dsimp only at hSw); first | (go_simp; done) | (go_simp; with_reducible rfl))
              try simp only [Act.put, List.setIfInBounds_toArray, List.set_cons_zero, List.set_cons_succ]
              refine tk (oi := { dst := some 77, op := Op.fieldAddr 58 (Operand.tmp 76) 1, type := 0, pos := "law.go:332", after := #[{ on := 1, ground := Ground.data }], guard := none }) (v := ?_) 2 rfl ?_ ?_
              rotate_left
              · (intro w hSw; (try dsimp only at hSw); first | (go_simp; done) | (go_simp; with_reducible rfl))
              try simp only [Act.put, List.setIfInBounds_toArray, List.set_cons_zero, List.set_cons_succ]
              refine tk (oi := { dst := some 78, op := Op.load 51 (Operand.tmp 77), type := 51, pos := "law.go:332", after := #[{ on := 2, ground := Ground.data }], guard := none }) (v := ?_) 3 rfl ?_ ?_
              rotate_left
              · (intro w hSw; (try dsimp only at hSw); first | (go_simp; done) | (go_simp; with_reducible rfl))
              try simp only [Act.put, List.setIfInBounds_toArray, List.set_cons_zero, List.set_cons_succ]
              refine tk (oi := { dst := some 79, op := Op.move (Operand.tmp 0), type := 30, pos := "law.go:332", after := #[], guard := none }) (v := ?_) 4 rfl ?_ ?_
              rotate_left
              · (intro w hSw; (try dsimp only at hSw); first | (go_simp; done) | (go_simp; with_reducible rfl))
              try simp only [Act.put, List.setIfInBounds_toArray, List.set_cons_zero, List.set_cons_succ]
              refine tk (oi := { dst := some 80, op := Op.move (Operand.tmp 13), type := 3, pos := "law.go:332", after := #[], guard := none }) (v := ?_) 5 rfl ?_ ?_
              rotate_left
              · (intro w hSw; (try dsimp only at hSw); first | (go_simp; done) | (go_simp; with_reducible rfl))
              try simp only [Act.put, List.setIfInBounds_toArray, List.set_cons_zero, List.set_cons_succ]
              refine tk (oi := { dst := some 81, op := Op.indexAddr 30 (Operand.tmp 79) (Operand.tmp 80), type := 0, pos := "law.go:332", after := #[{ on := 4, ground := Ground.data }, { on := 5, ground := Ground.data }], guard := none }) (v := ?_) 6 rfl ?_ ?_
              rotate_left
              · (intro w hSw; (try dsimp only at hSw); first | (go_simp; done) | (go_simp; with_reducible rfl))
              try simp only [Act.put, List.setIfInBounds_toArray, List.set_cons_zero, List.set_cons_succ]
              refine tk (oi := { dst := some 82, op := Op.load 34 (Operand.tmp 81), type := 34, pos := "law.go:332", after := #[{ on := 6, ground := Ground.data }], guard := none }) (v := ?_) 7 rfl ?_ ?_
              rotate_left
              · (intro w hSw; (try dsimp only at hSw); first | (go_simp; done) | (go_simp; with_reducible rfl))
              try simp only [Act.put, List.setIfInBounds_toArray, List.set_cons_zero, List.set_cons_succ]
              refine wpAnyH_ready (rs := [8]) (by kernel_rfl) (by simp) ?_
              refine AllReadyH.cons (o := { dst := some 83, op := Op.call { callee := Callee.value (Operand.func 23), args := #[Operand.tmp 78, Operand.tmp 82], argTypes := #[51, 34] }, type := 31, pos := "law.go:332", after := #[{ on := 3, ground := Ground.data }, { on := 7, ground := Ground.data }], guard := none }) rfl (fun K hK => ?_) AllReadyH.nil
              go_simp
              refine (lw_write HX.out (Bel.refl _).drew (by decide) y.p y.cap y.l HL0.out (by have := HL1.out; omega) (show in64 2000 from ⟨by omega, by omega⟩) HOK.out.1 HOK.out.2.1 HT6.out).mono ?_
              rintro e x5 ⟨rfl, h5, hk5⟩
              rw [HWR.out] at h5 ⊢
              have H5 := Lib.hid h5
              have HOV5 := Lib.hid (ownG_block HOV.out (fun k hk => hk5 k (by simp [hk])))
              have HAV5 := Lib.hid (ownG_block HAV.out (fun k hk => hk5 k (by simp [hk])))
              obtain ⟨-, t1, -, -, -, -⟩ := h5.cells
              have cl5 := HCL.out _ h5.low
              clear h5 hk5 s1 cl
              dsimp only
              refine hK.out _ _ ⟨t1, cl5⟩ (fun hHeld => ?_)
              clear hK K
              try simp only [Act.put, List.setIfInBounds_toArray, List.set_cons_zero, List.set_cons_succ]
              refine tk (oi := { dst := some 84, op := Op.binOp BinOp.neq 31 (Operand.tmp 83) (Operand.const (Value.int IntKind.i64 0)) 31, type := 4, pos := "law.go:332", after := #[{ on := 8, ground := Ground.data }], guard := none }) (v := ?_) 9 rfl ?_ ?_
              rotate_left
              · (intro w hSw; (try dsimp only at hSw); first | (go_simp; done) | (go_simp; with_reducible rfl))
              try simp only [Act.put, List.setIfInBounds_toArray, List.set_cons_zero, List.set_cons_succ]
              refine wpAnyH_done (by kernel_rfl) ?_ _
              by_cases hew : ew = 0
              · subst hew
                obtain ⟨f2, hh2, hp2⟩ : ∃ f', HoldS logB.data.toList M2.L f' ∧ pairF logB.data.toList M2.L f' = pairF logB.data.toList M.L f ++ [(lastN logB.data.toList M2.L, y.l)] := by
                  rcases HPOST.out with ⟨-, h⟩ | ⟨h, -⟩ | ⟨h, -⟩
                  · exact h
                  · exact absurd rfl h
                  · cases h
                have HH2 := Lib.hid hh2
                have HP2 := Lib.hid hp2
                have HBS := Lib.hid (H5.out.above HBD.out).1
                clear hh2 hp2 t1
                go_wp2_with (at_builtin; refine stop_here ?_)
                refine go_on ?_
                refine lw_append (v := .slice op PL.length oc) (H5.out.alloc _) LOW.out lvOk rfl _ _ rfl rfl (HOV5.out.alloc _) (fun k hk => by simp [hk]) [y] rfl (Or.inr ⟨_, _, rfl, cellsG_new _ _ _ _ rfl⟩) (by unfold maxLen; simp only [List.length_map, List.length_singleton]; omega) (by simp only [List.length_map, List.length_singleton]; omega) (Nat.le_trans HBS.out ((Bel.refl x5).alloc _).size) ?_
                intro v6 x6 ho6 h6 hk6
                have HAV6 := Lib.hid (ownG_block (HAV5.out.alloc _) (fun k hk => hk6 k (by simp [hk]) (fun e => own_ne (HOV5.out) (HAV5.out) (by decide) e hk)))
                have HBS6 := Lib.hid (h6.above HBD.out).1
                have H6 := Lib.hid (h6.less (R' := v6.ownBlock.toList ++ (Value.slice ap PL.length ac).ownBlock.toList) (fun k hk => by
                  rw [List.mem_append] at hk ⊢
                  rcases hk with hk | hk
                  · exact Or.inl hk
                  · exact Or.inr (by simp [hk])))
                have HOV6 := Lib.hid (show OwnG lvEl B x6 v6 ((PL ++ [(lastN logB.data.toList M2.L, y)]).map Prod.snd) by simpa using ho6)
                obtain ⟨p6, c6, hv6⟩ := ownG_len HOV6.out
                rw [List.length_map, List.length_append, List.length_singleton] at hv6
                subst hv6
                obtain ⟨-, t6, -, -, -, -⟩ := H6.out.cells
                clear ho6 h6 hk6
                go_wp2_with (fail)
                refine (lw_num H6.out (Bel.refl _) (by decide)).mono ?_
                rintro e x7 ⟨rfl, h7, hb7⟩
                have H7 := Lib.hid h7
                have HAV7 := Lib.hid (HAV6.out.bel hb7)
                have HOV7 := Lib.hid (HOV6.out.bel hb7)
                have HBS7 := Lib.hid (Nat.le_trans HBS6.out hb7.size)
                clear h7 hb7 t6
                go_wp2_with (at_builtin; refine stop_here ?_)
                refine go_on ?_
                refine lw_append (v := .slice ap PL.length ac) (H7.out.alloc _) LOW.out intOk rfl _ _ rfl rfl (HAV7.out.alloc _) (fun k hk => by simp [hk]) [((lastN logB.data.toList M2.L : Nat) : Int)] rfl (Or.inr ⟨_, _, rfl, cellsG_new _ _ _ _ rfl⟩) (by unfold maxLen; simp only [List.length_map, List.length_singleton]; omega) (by simp only [List.length_map, List.length_singleton]; omega) (Nat.le_trans HBS7.out ((Bel.refl x7).alloc _).size) ?_
                intro v8 x8 ho8 h8 hk8
                have HOV8 := Lib.hid (ownG_block (HOV7.out.alloc _) (fun k hk => hk8 k (by simp [hk]) (fun e => own_ne (HAV7.out) (HOV7.out) (by decide) e hk)))
                have H8 := Lib.hid (h8.less (R' := (Value.slice p6 (PL.length + 1) c6).ownBlock.toList ++ v8.ownBlock.toList) (fun k hk => by
                  rw [List.mem_append] at hk ⊢
                  rcases hk with hk | hk
                  · exact Or.inr (by simp [hk])
                  · exact Or.inl hk))
                have HAV8 := Lib.hid (show OwnG intEl B x8 v8 (((PL ++ [(lastN logB.data.toList M2.L, y)]).map Prod.fst).map fun n : Nat => (n : Int)) by simpa using ho8)
                obtain ⟨p8, c8, hv8⟩ := ownG_len HAV8.out
                rw [List.length_map, List.length_map, List.length_append, List.length_singleton] at hv8
                subst hv8
                clear ho8 h8 hk8
                go_wp2_with (fail)
                go_roundw
                case rel => exact ⟨k + 1, M2, f2, PL ++ [(lastN logB.data.toList M2.L, y)], by go_num, by omega, H8.out, HH2.out, HLV'.out, HL0'.out, by have := HL1'.out; omega, HRM'.out, HOV8.out, HAV8.out, by rw [HP2.out, HPR.out]; simp, by simp; omega, fun s hs => by
                  rcases List.mem_append.1 hs with hs | hs
                  · exact HPO.out s hs
                  · rw [List.mem_singleton] at hs; subst hs; exact HOK.out⟩
                case measure => simp [intOf]; omega
              · obtain ⟨f2, hh2, hp2⟩ : ∃ f', HoldS logB.data.toList M2.L f' ∧ pairF logB.data.toList M2.L f' = pairF logB.data.toList M.L f := by
                  rcases HPOST.out with ⟨h, -⟩ | ⟨-, h⟩ | ⟨-, h, -⟩
                  · exact absurd h hew
                  · exact h
                  · have := HLV'.out.2; rw [h] at this; cases this
                have HH2 := Lib.hid hh2
                have HP2 := Lib.hid hp2
                have hx3 : (ew != 0) = true := by rw [bne_iff_ne]; exact hew
                have hx2 : (ew == 0) = false := by rw [beq_eq_false_iff_ne]; exact hew
                clear hh2 hp2 t1 cl5
                go_wp2_with (fail)
                go_roundw
                case rel => exact ⟨k + 1, M2, f2, PL, by go_num, by omega, H5.out, HH2.out, HLV'.out, HL0'.out, by have := HL1'.out; omega, HRM'.out, HOV5.out, HAV5.out, by rw [HP2.out, HPR.out], by omega, HPO.out⟩
                case measure => simp [intOf]; omega
            · have hx3 : (et != 0) = true := by rw [bne_iff_ne]; exact het
              have hx2 : (et == 0) = false := by rw [beq_eq_false_iff_ne]; exact het
              go_wp2_with (fail)
              go_ret
              exact ⟨rfl, H3x.out.low⟩
        · have hnT : ¬ (k : Int) < (T.length : Int) := by omega
          go_wp2_with (fail)
          refine (jsmall_any _ (some ⟨wr.heap.size, 0, none⟩) 1 [⟨0, 0, y.p, y.cap, y.l, nilI, nilI⟩] (lit_act wr y.p y.cap y.l (HOK.out.1.bel HX0.out.low) HOK.out.2.1 HOK.out.2.2) (by unfold maxLen; simp)).mono ?_
          rintro e x1 ⟨rfl, hd1⟩
          rw [HSM.out]
          have HBA := Lib.hid (((Bel.refl wr).alloc (.cells #[.int .i64 0, .int .i64 0, .slice y.p y.l.length y.cap, .slice none 0 0, .slice none 0 0] 37)).trans hd1.bel)
          have HX1 := Lib.hid (HX0.out.bel HBA.out)
          have HOV1 := Lib.hid (HOV0.out.bel HBA.out)
          have HAV1 := Lib.hid (HAV0.out.bel HBA.out)
          clear hd1 cl0
          have HX := HX1
          have HOV := HOV1
          have HAV := HAV1
          have HH := HH0
          have HLV := HLV0
          have HL0 := HL00
          have HL1 := Lib.hid (show lastN logB.data.toList M.L ≤ 2 * k + 2 by have := HL10.out; omega)
          have HRM := HRM0
          have HPR := HPR0
          clear HX1 HOV1 HAV1 HX0 HOV0 HAV0 HH0 HLV0 HL00 HL10 HRM0 HPR0 HBA
          obtain ⟨-, s1, -, -, -, -⟩ := HX.out.cells
          have cl := HCL.out _ HX.out.low
          obtain ⟨ew, M2, hwr⟩ : ∃ ew M2, jwrite logB.data.toList 2000 y.l M = (ew, M2) := ⟨_, _, rfl⟩
          have HWR := Lib.hid hwr
          have hpost := hold_write (p := logB.data.toList) (most := 2000) HX.out.tw.good (by have := HL1.out; omega) HH.out y.l
          have hlast := doj_last (p := logB.data.toList) (most := 2000) (a := ⟨0, 0, y.p, y.cap, y.l, nilI, nilI⟩) HX.out.tw.good HL0.out (by have := HL1.out; omega) (by rw [logB_list]; decide)
          have halive := jwrite_alive HLV.out logB.data.toList 2000 y.l
          have hroom := jwrite_room logB.data.toList 2000 y.l M
          rw [show doJ logB.data.toList 2000 ⟨0, 0, y.p, y.cap, y.l, nilI, nilI⟩ M = ((jwrite logB.data.toList 2000 y.l M).1, [], (jwrite logB.data.toList 2000 y.l M).2) from rfl] at hlast
          rw [hwr] at hpost hlast halive hroom
          have HPOST := Lib.hid hpost
          have HL0' := Lib.hid (show lastN logB.data.toList M2.L ≠ 0 from hlast.1)
          have HL1' := Lib.hid (show lastN logB.data.toList M2.L ≤ 2 * k + 3 by have h1 : lastN logB.data.toList M2.L ≤ lastN logB.data.toList M.L + 1 := hlast.2; have h2 := HL1.out; omega)
          have HLV' := Lib.hid (show Alive M2 from halive)
          have HRM' := Lib.hid (show M2.room ≤ 1000000 by rw [show M2.room = M.room from hroom]; exact HRM.out)
          clear hwr hpost hlast halive hroom
          go_wp2_with (fail)
          refine wp_region_held_drew (S := fun z => z.cell? ⟨ws, 1, none⟩ = some (.pointer (some ⟨jb, 0, none⟩)) ∧ z.cell? (a.add k) = some (.slice y.p y.l.length y.cap)) (by kernel_rfl) ⟨s1, cl⟩ (fun hHeld => ?_)
          refine tk (oi := { dst := some 75, op := Op.move (Operand.tmp 8), type := 25, pos := "law.go:332", after := #[], guard := none }) (v := ?_) 0 rfl ?_ ?_
          rotate_left
          · (intro w hSw; (try dsimp only at hSw); first | (go_simp; done) | (go_simp; with_reducible rfl))
          try simp only [Act.put, List.setIfInBounds_toArray, List.set_cons_zero, List.set_cons_succ]
          refine tk (oi := { dst := some 76, op := Op.nilCheck (Operand.tmp 75), type := 0, pos := "law.go:332", after := #[{ on := 0, ground := Ground.data }], guard := none }) (v := ?_) 1 rfl ?_ ?_
          rotate_left
          · (intro w hSw; (try dsimp only at hSw); first | (go_simp; done) | (go_simp; with_reducible rfl))
          try simp only [Act.put, List.setIfInBounds_toArray, List.set_cons_zero, List.set_cons_succ]
          refine tk (oi := { dst := some 77, op := Op.fieldAddr 58 (Operand.tmp 76) 1, type := 0, pos := "law.go:332", after := #[{ on := 1, ground := Ground.data }], guard := none }) (v := ?_) 2 rfl ?_ ?_
          rotate_left
          · (intro w hSw; (try dsimp only at hSw); first | (go_simp; done) | (go_simp; with_reducible rfl))
          try simp only [Act.put, List.setIfInBounds_toArray, List.set_cons_zero, List.set_cons_succ]
          refine tk (oi := { dst := some 78, op := Op.load 51 (Operand.tmp 77), type := 51, pos := "law.go:332", after := #[{ on := 2, ground := Ground.data }], guard := none }) (v := ?_) 3 rfl ?_ ?_
          rotate_left
          · (intro w hSw; (try dsimp only at hSw); first | (go_simp; done) | (go_simp; with_reducible rfl))
          try simp only [Act.put, List.setIfInBounds_toArray, List.set_cons_zero, List.set_cons_succ]
          refine tk (oi := { dst := some 79, op := Op.move (Operand.tmp 0), type := 30, pos := "law.go:332", after := #[], guard := none }) (v := ?_) 4 rfl ?_ ?_
          rotate_left
          · (intro w hSw; (try dsimp only at hSw); first | (go_simp; done) | (go_simp; with_reducible rfl))
          try simp only [Act.put, List.setIfInBounds_toArray, List.set_cons_zero, List.set_cons_succ]
          refine tk (oi := { dst := some 80, op := Op.move (Operand.tmp 13), type := 3, pos := "law.go:332", after := #[], guard := none }) (v := ?_) 5 rfl ?_ ?_
          rotate_left
          · (intro w hSw; (try dsimp only at hSw); first | (go_simp; done) | (go_simp; with_reducible rfl))
          try simp only [Act.put, List.setIfInBounds_toArray, List.set_cons_zero, List.set_cons_succ]
          refine tk (oi := { dst := some 81, op := Op.indexAddr 30 (Operand.tmp 79) (Operand.tmp 80), type := 0, pos := "law.go:332", after := #[{ on := 4, ground := Ground.data }, { on := 5, ground := Ground.data }], guard := none }) (v := ?_) 6 rfl ?_ ?_
          rotate_left
          · (intro w hSw; (try dsimp only at hSw); first | (go_simp; done) | (go_simp; with_reducible rfl))
          try simp only [Act.put, List.setIfInBounds_toArray, List.set_cons_zero, List.set_cons_succ]
          refine tk (oi := { dst := some 82, op := Op.load 34 (Operand.tmp 81), type := 34, pos := "law.go:332", after := #[{ on := 6, ground := Ground.data }], guard := none }) (v := ?_) 7 rfl ?_ ?_
          rotate_left
          · (intro w hSw; (try dsimp only at hSw); first | (go_simp; done) | (go_simp; with_reducible rfl))
          try simp only [Act.put, List.setIfInBounds_toArray, List.set_cons_zero, List.set_cons_succ]
          refine wpAnyH_ready (rs := [8]) (by kernel_rfl) (by simp) ?_
          refine AllReadyH.cons (o := { dst := some 83, op := Op.call { callee := Callee.value (Operand.func 23), args := #[Operand.tmp 78, Operand.tmp 82], argTypes := #[51, 34] }, type := 31, pos := "law.go:332", after := #[{ on := 3, ground := Ground.data }, { on := 7, ground := Ground.data }], guard := none }) rfl (fun K hK => ?_) AllReadyH.nil
          go_simp
          refine (lw_write HX.out (Bel.refl _).drew (by decide) y.p y.cap y.l HL0.out (by have := HL1.out; omega) (show in64 2000 from ⟨by omega, by omega⟩) HOK.out.1 HOK.out.2.1 HT6.out).mono ?_
          rintro e x5 ⟨rfl, h5, hk5⟩
          rw [HWR.out] at h5 ⊢
          have H5 := Lib.hid h5
          have HOV5 := Lib.hid (ownG_block HOV.out (fun k hk => hk5 k (by simp [hk])))
          have HAV5 := Lib.hid (ownG_block HAV.out (fun k hk => hk5 k (by simp [hk])))
          obtain ⟨-, t1, -, -, -, -⟩ := h5.cells
          have cl5 := HCL.out _ h5.low
          clear h5 hk5 s1 cl
          dsimp only
          refine hK.out _ _ ⟨t1, cl5⟩ (fun hHeld => ?_)
          clear hK K
          try simp only [Act.put, List.setIfInBounds_toArray, List.set_cons_zero, List.set_cons_succ]
          refine tk (oi := { dst := some 84, op := Op.binOp BinOp.neq 31 (Operand.tmp 83) (Operand.const (Value.int IntKind.i64 0)) 31, type := 4, pos := "law.go:332", after := #[{ on := 8, ground := Ground.data }], guard := none }) (v := ?_) 9 rfl ?_ ?_
          rotate_left
          · (intro w hSw; (try dsimp only at hSw); first | (go_simp; done) | (go_simp; with_reducible rfl))
          try simp only [Act.put, List.setIfInBounds_toArray, List.set_cons_zero, List.set_cons_succ]
          refine wpAnyH_done (by kernel_rfl) ?_ _
          by_cases hew : ew = 0
          · subst hew
            obtain ⟨f2, hh2, hp2⟩ : ∃ f', HoldS logB.data.toList M2.L f' ∧ pairF logB.data.toList M2.L f' = pairF logB.data.toList M.L f ++ [(lastN logB.data.toList M2.L, y.l)] := by
              rcases HPOST.out with ⟨-, h⟩ | ⟨h, -⟩ | ⟨h, -⟩
              · exact h
              · exact absurd rfl h
              · cases h
            have HH2 := Lib.hid hh2
            have HP2 := Lib.hid hp2
            have HBS := Lib.hid (H5.out.above HBD.out).1
            clear hh2 hp2 t1
            go_wp2_with (at_builtin; refine stop_here ?_)
            refine go_on ?_
            refine lw_append (v := .slice op PL.length oc) (H5.out.alloc _) LOW.out lvOk rfl _ _ rfl rfl (HOV5.out.alloc _) (fun k hk => by simp [hk]) [y] rfl (Or.inr ⟨_, _, rfl, cellsG_new _ _ _ _ rfl⟩) (by unfold maxLen; simp only [List.length_map, List.length_singleton]; omega) (by simp only [List.length_map, List.length_singleton]; omega) (Nat.le_trans HBS.out ((Bel.refl x5).alloc _).size) ?_
            intro v6 x6 ho6 h6 hk6
            have HAV6 := Lib.hid (ownG_block (HAV5.out.alloc _) (fun k hk => hk6 k (by simp [hk]) (fun e => own_ne (HOV5.out) (HAV5.out) (by decide) e hk)))
            have HBS6 := Lib.hid (h6.above HBD.out).1
            have H6 := Lib.hid (h6.less (R' := v6.ownBlock.toList ++ (Value.slice ap PL.length ac).ownBlock.toList) (fun k hk => by
              rw [List.mem_append] at hk ⊢
              rcases hk with hk | hk
              · exact Or.inl hk
              · exact Or.inr (by simp [hk])))
            have HOV6 := Lib.hid (show OwnG lvEl B x6 v6 ((PL ++ [(lastN logB.data.toList M2.L, y)]).map Prod.snd) by simpa using ho6)
            obtain ⟨p6, c6, hv6⟩ := ownG_len HOV6.out
            rw [List.length_map, List.length_append, List.length_singleton] at hv6
            subst hv6
            obtain ⟨-, t6, -, -, -, -⟩ := H6.out.cells
            clear ho6 h6 hk6
            go_wp2_with (fail)
            refine (lw_num H6.out (Bel.refl _) (by decide)).mono ?_
            rintro e x7 ⟨rfl, h7, hb7⟩
            have H7 := Lib.hid h7
            have HAV7 := Lib.hid (HAV6.out.bel hb7)
            have HOV7 := Lib.hid (HOV6.out.bel hb7)
            have HBS7 := Lib.hid (Nat.le_trans HBS6.out hb7.size)
            clear h7 hb7 t6
            go_wp2_with (at_builtin; refine stop_here ?_)
            refine go_on ?_
            refine lw_append (v := .slice ap PL.length ac) (H7.out.alloc _) LOW.out intOk rfl _ _ rfl rfl (HAV7.out.alloc _) (fun k hk => by simp [hk]) [((lastN logB.data.toList M2.L : Nat) : Int)] rfl (Or.inr ⟨_, _, rfl, cellsG_new _ _ _ _ rfl⟩) (by unfold maxLen; simp only [List.length_map, List.length_singleton]; omega) (by simp only [List.length_map, List.length_singleton]; omega) (Nat.le_trans HBS7.out ((Bel.refl x7).alloc _).size) ?_
            intro v8 x8 ho8 h8 hk8
            have HOV8 := Lib.hid (ownG_block (HOV7.out.alloc _) (fun k hk => hk8 k (by simp [hk]) (fun e => own_ne (HAV7.out) (HOV7.out) (by decide) e hk)))
            have H8 := Lib.hid (h8.less (R' := (Value.slice p6 (PL.length + 1) c6).ownBlock.toList ++ v8.ownBlock.toList) (fun k hk => by
              rw [List.mem_append] at hk ⊢
              rcases hk with hk | hk
              · exact Or.inr (by simp [hk])
              · exact Or.inl hk))
            have HAV8 := Lib.hid (show OwnG intEl B x8 v8 (((PL ++ [(lastN logB.data.toList M2.L, y)]).map Prod.fst).map fun n : Nat => (n : Int)) by simpa using ho8)
            obtain ⟨p8, c8, hv8⟩ := ownG_len HAV8.out
            rw [List.length_map, List.length_map, List.length_append, List.length_singleton] at hv8
            subst hv8
            clear ho8 h8 hk8
            go_wp2_with (fail)
            go_roundw
            case rel => exact ⟨k + 1, M2, f2, PL ++ [(lastN logB.data.toList M2.L, y)], by go_num, by omega, H8.out, HH2.out, HLV'.out, HL0'.out, by have := HL1'.out; omega, HRM'.out, HOV8.out, HAV8.out, by rw [HP2.out, HPR.out]; simp, by simp; omega, fun s hs => by
              rcases List.mem_append.1 hs with hs | hs
              · exact HPO.out s hs
              · rw [List.mem_singleton] at hs; subst hs; exact HOK.out⟩
            case measure => simp [intOf]; omega
          · obtain ⟨f2, hh2, hp2⟩ : ∃ f', HoldS logB.data.toList M2.L f' ∧ pairF logB.data.toList M2.L f' = pairF logB.data.toList M.L f := by
              rcases HPOST.out with ⟨h, -⟩ | ⟨-, h⟩ | ⟨-, h, -⟩
              · exact absurd h hew
              · exact h
              · have := HLV'.out.2; rw [h] at this; cases this
            have HH2 := Lib.hid hh2
            have HP2 := Lib.hid hp2
            have hx3 : (ew != 0) = true := by rw [bne_iff_ne]; exact hew
            have hx2 : (ew == 0) = false := by rw [beq_eq_false_iff_ne]; exact hew
            clear hh2 hp2 t1 cl5
            go_wp2_with (fail)
            go_roundw
            case rel => exact ⟨k + 1, M2, f2, PL, by go_num, by omega, H5.out, HH2.out, HLV'.out, HL0'.out, by have := HL1'.out; omega, HRM'.out, HOV5.out, HAV5.out, by rw [HP2.out, HPR.out], by omega, HPO.out⟩
            case measure => simp [intOf]; omega
    · obtain rfl : k = L.length := by omega
      obtain ⟨k0, hk0⟩ : ∃ k0, k0 = pickN before 30 := ⟨_, rfl⟩
      have HK0 := Lib.hid hk0
      have hk30 : k0 < 30 := by rw [hk0]; exact pickN_lt before (by omega)
      obtain ⟨n0, hn0⟩ : ∃ n0, n0 = lastN logB.data.toList M.L := ⟨_, rfl⟩
      have HN0 := Lib.hid hn0
      have hn9 : n0 ≤ 9999999 := by rw [hn0]; exact last_le _ _
      obtain ⟨et, M2, htr⟩ : ∃ et M2, jtrim logB.data.toList (k0 : Int) M = (et, M2) := ⟨_, _, rfl⟩
      have HTR := Lib.hid htr
      have hht := hold_trim k0 (segsL logB.data.toList M.L) HX0.out.tw.good HLV0.out rfl HH0.out
      have hroom := trim_room logB.data.toList (k0 : Int) (segsL logB.data.toList M.L) M
      rw [show trimL logB.data.toList (k0 : Int) (segsL logB.data.toList M.L) M = (et, M2) from htr] at hht hroom
      obtain ⟨q1, q2, q3, q4, q5⟩ := hht
      obtain rfl : et = 0 := q1
      have HRM2 := Lib.hid (show M2.room ≤ 1000000 by rw [show M2.room = M.room from hroom]; exact HRM0.out)
      have HH2 := Lib.hid (show HoldS logB.data.toList M2.L f from q3)
      have HL2 := Lib.hid (show lastN logB.data.toList M2.L = n0 by rw [hn0]; exact q5)
      have hM2ok : M2.ok := by have := trim_ok logB.data.toList (k0 : Int) (segsL logB.data.toList M.L) HX0.out.tw.good; rwa [show trimL logB.data.toList (k0 : Int) (segsL logB.data.toList M.L) M = (0, M2) from htr] at this
      have hall := trim_all (p := logB.data.toList) (f := f) (L := M.L) (L' := M2.L) (min k0 (lastN logB.data.toList M.L)) q4
      rw [HPR0.out, ← hn0] at hall
      obtain ⟨tw, htw⟩ : ∃ tw, tw = ((PL.map Prod.fst).takeWhile (fun n => decide (n < min k0 n0))).length := ⟨_, rfl⟩
      have HTW := Lib.hid htw
      have hall2 : allF logB.data.toList M2.L f = (PL.map fun q => q.2.l).drop tw := by
        rw [hall, htw]
        simp only [List.map_map]
        rfl
      have HJO := Lib.hid (show jopen logB.data.toList M2 = (0, (PL.map fun q => q.2.l).drop tw, M2) by rw [← hall2]; exact open_holds hM2ok q2.2 (by rw [logB_list]; decide) q3)
      have htwl : tw ≤ PL.length := by rw [htw]; exact Nat.le_trans (tw_le _ _) (by rw [List.length_map]; exact Nat.le_refl _)
      obtain ⟨-, s1, -, -, -, -⟩ := HX0.out.cells
      clear hk0 hn0 htr hroom q2 q3 q4 q5 hM2ok hall hall2 htw
      go_wp2_with (fail)
      refine (jpick_at _ _ 30 _ HBF.out (by omega) (by omega) rfl).mono ?_
      rintro e z ⟨rfl, rfl⟩
      rw [← HK0.out]
      go_wp2_with (fail)
      refine (lw_num HX0.out (Bel.refl _) (by decide)).mono ?_
      rintro e x1 ⟨rfl, h1, hb1⟩
      rw [← HN0.out]
      have H1 := Lib.hid h1
      have HOV1 := Lib.hid (HOV0.out.bel hb1)
      have HAV1 := Lib.hid (HAV0.out.bel hb1)
      obtain ⟨-, t1, -, -, -, -⟩ := h1.cells
      clear h1 hb1 s1
      go_wp2_with (fail)
      refine (lw_trim H1.out (Bel.refl _) (by decide) (k0 : Int) ⟨by omega, by omega⟩).mono ?_
      rintro e x2 ⟨rfl, h2, hk2⟩
      rw [HTR.out] at h2 ⊢
      have H2 := Lib.hid (show LW w x2 ws ms b r jb rb M2 M' logB 2000 ((Value.slice op PL.length oc).ownBlock.toList ++ (Value.slice ap PL.length ac).ownBlock.toList) from h2)
      have HOV2 := Lib.hid (ownG_block HOV1.out (fun k hk => hk2 k (by simp [hk])))
      have HAV2 := Lib.hid (ownG_block HAV1.out (fun k hk => hk2 k (by simp [hk])))
      obtain ⟨-, u1, -, -, -, -⟩ := H2.out.cells
      clear h2 hk2 t1
      go_wp2_with (fail)
      refine (lw_num H2.out (Bel.refl _) (by decide)).mono ?_
      rintro e x3 ⟨rfl, h3, hb3⟩
      rw [HL2.out]
      have H3 := Lib.hid h3
      have HOV3 := Lib.hid (HOV2.out.bel hb3)
      have HAV3 := Lib.hid (HAV2.out.bel hb3)
      clear h3 hb3 u1 HX0 HOV0 HAV0 H1 HOV1 HAV1 H2 HOV2 HAV2 HH0 HLV0 HL00 HL10 HRM0 HPR0 HTR
      go_wp2_with (fail)
      go_loopw [17] (fun iv x => FiRel x3 tw iv x) (fun iv _ => tw - (intOf iv).toNat)
      case atStart => exact ⟨0, rfl, Nat.zero_le _, Bel.refl _⟩
      case round =>
        obtain ⟨j, rfl, hj, hbl⟩ := hrel
        by_cases hjl : j < PL.length
        · have hjm : j < (PL.map Prod.fst).length := by rw [List.length_map]; exact hjl
          obtain ⟨g, cap', hv, _, _, c0⟩ := int_at (HAV3.out.bel hbl) j hjm
          rw [List.length_map] at hv
          simp only [Value.slice.injEq, true_and] at hv
          obtain ⟨rfl, rfl⟩ := hv
          have HGET := Lib.hid (fun (h : j < tw) => tw_get (min k0 n0) (PL.map Prod.fst) j (by rw [← HTW.out]; exact h) hjm)
          have HSTP := Lib.hid (fun (h : j = tw) => tw_stop (min k0 n0) (PL.map Prod.fst) j (by rw [← HTW.out]; exact h) hjm)
          obtain ⟨m, hm⟩ : ∃ m, m = (PL.map Prod.fst)[j] := ⟨_, rfl⟩
          rw [← hm] at c0 HGET HSTP
          clear hm hjm
          by_cases hjt : j < tw
          · have hmc : (m : Int) < min (k0 : Int) (n0 : Int) := by have := HGET.out hjt; omega
            go_wp2_with (fail)
            go_roundw
            case rel => exact ⟨j + 1, by go_num, by omega, hbl⟩
            case measure => simp [intOf]; omega
          · obtain rfl : j = tw := by omega
            have hmc : min (k0 : Int) (n0 : Int) ≤ (m : Int) := by have := HSTP.out rfl; omega
            have HB4 := Lib.hid hbl
            have HX4 := Lib.hid (H3.out.bel hbl)
            have HOV4 := Lib.hid (HOV3.out.bel hbl)
            have HAV4 := Lib.hid (HAV3.out.bel hbl)
            obtain ⟨s0, s1, -, -, -, -⟩ := HX4.out.cells
            clear hbl
            go_wp2_with (fail)
            refine (tw_open HX4.out.tw HS.out (Bel.refl _) logB 2000 (by decide) HRM2.out HJO.out).mono ?_
            rintro e x5 ⟨jv, p5, c5, S, rfl, h5, hk5, hrow, hS, hj, -⟩
            obtain ⟨jb2, rfl, hja, hjs⟩ := hj rfl
            have H5 := Lib.hid h5
            have HRW := Lib.hid hrow
            have HJA := Lib.hid hja
            have HJS := Lib.hid hjs
            have HOV5 := Lib.hid (ownG_block HOV4.out (fun k hk => hk5 k (by simp [hk])))
            have HJ5 := Lib.hid (HX4.out.j.keep (hk5 jb (by simp)))
            obtain ⟨ap5, ac5, hv5, hrw5⟩ := lv_row HOV5.out (fun s hs => by
              rw [List.mem_map] at hs
              obtain ⟨u, hu, rfl⟩ := hs
              exact HPO.out u hu) h5.low
            rw [List.length_map] at hv5
            simp only [Value.slice.injEq, true_and] at hv5
            obtain ⟨rfl, rfl⟩ := hv5
            have hcap5 := own_cap lvOk HOV5.out (by rw [List.length_map])
            rw [List.length_map] at hcap5
            have heach := jopen_each logB.data.toList M2
            rw [HJO.out] at heach
            have HCA := Lib.hid (show ∀ z, Bel x5 z → Calls Tryz.prog 14 #[.slice p5 (PL.length - j) c5, .slice (if oc = j then op else Option.map (fun x => x.add j) op) (PL.length - j) (oc - j)] z fun e y => e = .returned (.bool true) ∧ Bel z y from fun z hz => by
              have hlen : ((PL.map fun q => q.2.l).drop j).length = PL.length - j := by simp
              have hrow2 : RowL (fun _ => True) x5 op (PL.map fun q => q.2.l) := by
                have := hrw5
                rw [List.map_map] at this
                exact this
              have := jall_any z _ _ p5 (if oc = j then op else Option.map (fun x => x.add j) op) c5 (oc - j) ((PL.map fun q => q.2.l).drop j) ((PL.map fun q => q.2.l).drop j) (hrow.bel hz) ((rowl_slice hrow2 oc j (by rw [List.length_map]; omega)).bel hz)
                (by rw [hlen]; omega) (by rw [hlen]; omega) (fun l hl => Nat.le_trans (heach l hl) (by omega)) (fun l hl => Nat.le_trans (heach l hl) (by omega))
              rw [hlen] at this
              exact this.mono fun e y (hq : e = .returned (.bool (decide (((PL.map fun q => q.2.l).drop j) = ((PL.map fun q => q.2.l).drop j)))) ∧ Bel z y) => ⟨hq.1.trans (by rw [decide_eq_true rfl]), hq.2⟩)
            have e1 := cell_at (i := 1) ((hk5 ws (by simp)).trans HX4.out.sw)
            simp at e1
            have hsl := segs_len logB.data.toList M2.L
            have h60 := h5.good.len
            clear h5 hk5 hrow hS hj hja hjs s0 s1 hrw5 hcap5 heach
            go_wp2_with (fail)
            refine wp_region_held_drew (S := fun z => z.cell? ⟨ws, 1, none⟩ = some (.pointer (some ⟨jb, 0, none⟩))) (by kernel_rfl) e1 (fun hHeld => ?_)
            refine tk (oi := { dst := some 148, op := Op.move (Operand.tmp 18), type := 51, pos := "law.go:348", after := #[], guard := none }) (v := ?_) 0 rfl ?_ ?_
            rotate_left
            · (intro w hSw; (try dsimp only at hSw); first | (go_simp; done) | (go_simp; with_reducible rfl))
            try simp only [Act.put, List.setIfInBounds_toArray, List.set_cons_zero, List.set_cons_succ]
            refine tk (oi := { dst := some 149, op := Op.binOp BinOp.neq 51 (Operand.tmp 148) (Operand.const (Value.pointer none)) 51, type := 4, pos := "law.go:348", after := #[{ on := 0, ground := Ground.data }], guard := none }) (v := ?_) 1 rfl ?_ ?_
            rotate_left
            · (intro w hSw; (try dsimp only at hSw); first | (go_simp; done) | (go_simp; with_reducible rfl))
            try simp only [Act.put, List.setIfInBounds_toArray, List.set_cons_zero, List.set_cons_succ]
            refine tk (oi := { dst := some 150, op := Op.move (Operand.tmp 149), type := 4, pos := "law.go:348", after := #[{ on := 1, ground := Ground.data }], guard := none }) (v := ?_) 2 rfl ?_ ?_
            rotate_left
            · (intro w hSw; (try dsimp only at hSw); first | (go_simp; done) | (go_simp; with_reducible rfl))
            try simp only [Act.put, List.setIfInBounds_toArray, List.set_cons_zero, List.set_cons_succ]
            refine tk (oi := { dst := some 151, op := Op.move (Operand.tmp 20), type := 31, pos := "law.go:348", after := #[{ on := 2, ground := Ground.guard }], guard := some (2, true) }) (v := ?_) 3 rfl ?_ ?_
            rotate_left
            · (intro w hSw; (try dsimp only at hSw); first | (go_simp; done) | (go_simp; with_reducible rfl))
            try simp only [Act.put, List.setIfInBounds_toArray, List.set_cons_zero, List.set_cons_succ]
            refine tk (oi := { dst := some 152, op := Op.binOp BinOp.eql 31 (Operand.tmp 151) (Operand.const (Value.int IntKind.i64 0)) 31, type := 4, pos := "law.go:348", after := #[{ on := 3, ground := Ground.data }, { on := 2, ground := Ground.guard }], guard := some (2, true) }) (v := ?_) 4 rfl ?_ ?_
            rotate_left
            · (intro w hSw; (try dsimp only at hSw); first | (go_simp; done) | (go_simp; with_reducible rfl))
            try simp only [Act.put, List.setIfInBounds_toArray, List.set_cons_zero, List.set_cons_succ]
            refine tk (oi := { dst := some 153, op := Op.pick (Operand.tmp 150) (Operand.tmp 152) (Operand.const (Value.bool false)), type := 4, pos := "law.go:348", after := #[{ on := 2, ground := Ground.data }, { on := 4, ground := Ground.data }], guard := none }) (v := ?_) 5 rfl ?_ ?_
            rotate_left
            · (intro w hSw; (try dsimp only at hSw); first | (go_simp; done) | (go_simp; with_reducible rfl))
            try simp only [Act.put, List.setIfInBounds_toArray, List.set_cons_zero, List.set_cons_succ]
            refine tk (oi := { dst := some 154, op := Op.move (Operand.tmp 153), type := 4, pos := "law.go:348", after := #[{ on := 5, ground := Ground.data }, { on := 2, ground := Ground.chain }], guard := none }) (v := ?_) 6 rfl ?_ ?_
            rotate_left
            · (intro w hSw; (try dsimp only at hSw); first | (go_simp; done) | (go_simp; with_reducible rfl))
            try simp only [Act.put, List.setIfInBounds_toArray, List.set_cons_zero, List.set_cons_succ]
            refine tk (oi := { dst := some 155, op := Op.move (Operand.tmp 19), type := 30, pos := "law.go:348", after := #[{ on := 6, ground := Ground.guard }], guard := some (6, true) }) (v := ?_) 7 rfl ?_ ?_
            rotate_left
            · (intro w hSw; (try dsimp only at hSw); first | (go_simp; done) | (go_simp; with_reducible rfl))
            try simp only [Act.put, List.setIfInBounds_toArray, List.set_cons_zero, List.set_cons_succ]
            refine tk (oi := { dst := some 156, op := Op.move (Operand.tmp 11), type := 30, pos := "law.go:348", after := #[{ on := 6, ground := Ground.guard }], guard := some (6, true) }) (v := ?_) 8 rfl ?_ ?_
            rotate_left
            · (intro w hSw; (try dsimp only at hSw); first | (go_simp; done) | (go_simp; with_reducible rfl))
            try simp only [Act.put, List.setIfInBounds_toArray, List.set_cons_zero, List.set_cons_succ]
            refine tk (oi := { dst := some 157, op := Op.move (Operand.tmp 17), type := 3, pos := "law.go:348", after := #[{ on := 6, ground := Ground.guard }], guard := some (6, true) }) (v := ?_) 9 rfl ?_ ?_
            rotate_left
            · (intro w hSw; (try dsimp only at hSw); first | (go_simp; done) | (go_simp; with_reducible rfl))
            try simp only [Act.put, List.setIfInBounds_toArray, List.set_cons_zero, List.set_cons_succ]
            refine tk (oi := { dst := some 158, op := Op.slice 30 (Operand.tmp 156) (some (Operand.tmp 157)) none none, type := 30, pos := "law.go:348", after := #[{ on := 8, ground := Ground.data }, { on := 9, ground := Ground.data }, { on := 6, ground := Ground.guard }], guard := some (6, true) }) (v := ?_) 10 rfl ?_ ?_
            rotate_left
            · (intro w hSw; (try dsimp only at hSw); first | (go_simp; done) | (go_simp; with_reducible rfl))
            try simp only [Act.put, List.setIfInBounds_toArray, List.set_cons_zero, List.set_cons_succ]
            refine wpAnyH_ready (rs := [11]) (by kernel_rfl) (by simp) ?_
            refine AllReadyH.cons (o := { dst := some 159, op := Op.call { callee := Callee.value (Operand.func 14), args := #[Operand.tmp 155, Operand.tmp 158], argTypes := #[30, 30] }, type := 4, pos := "law.go:348", after := #[{ on := 7, ground := Ground.data }, { on := 10, ground := Ground.data }, { on := 6, ground := Ground.chain }, { on := 6, ground := Ground.guard }], guard := some (6, true) }) rfl (fun K hK => ?_) AllReadyH.nil
            go_simp
            refine (HCA.out _ (Bel.refl _).drew).mono ?_
            rintro e x6 ⟨rfl, hb6⟩
            have HB6 := Lib.hid ((Bel.refl x5).drew.trans hb6)
            clear hb6
            dsimp only
            refine hK.out _ _ (cell_later HB6.out e1) (fun hHeld => ?_)
            clear hK K
            try simp only [Act.put, List.setIfInBounds_toArray, List.set_cons_zero, List.set_cons_succ]
            refine tk (oi := { dst := some 160, op := Op.pick (Operand.tmp 154) (Operand.tmp 159) (Operand.const (Value.bool false)), type := 4, pos := "law.go:348", after := #[{ on := 6, ground := Ground.data }, { on := 11, ground := Ground.data }], guard := none }) (v := ?_) 12 rfl ?_ ?_
            rotate_left
            · (intro w hSw; (try dsimp only at hSw); first | (go_simp; done) | (go_simp; with_reducible rfl))
            try simp only [Act.put, List.setIfInBounds_toArray, List.set_cons_zero, List.set_cons_succ]
            refine tk (oi := { dst := some 161, op := Op.move (Operand.tmp 160), type := 4, pos := "law.go:348", after := #[{ on := 12, ground := Ground.data }, { on := 11, ground := Ground.chain }], guard := none }) (v := ?_) 13 rfl ?_ ?_
            rotate_left
            · (intro w hSw; (try dsimp only at hSw); first | (go_simp; done) | (go_simp; with_reducible rfl))
            try simp only [Act.put, List.setIfInBounds_toArray, List.set_cons_zero, List.set_cons_succ]
            refine tk (oi := { dst := some 162, op := Op.move (Operand.tmp 18), type := 51, pos := "law.go:348", after := #[{ on := 13, ground := Ground.guard }], guard := some (13, true) }) (v := ?_) 14 rfl ?_ ?_
            rotate_left
            · (intro w hSw; (try dsimp only at hSw); first | (go_simp; done) | (go_simp; with_reducible rfl))
            try simp only [Act.put, List.setIfInBounds_toArray, List.set_cons_zero, List.set_cons_succ]
            refine tk (oi := { dst := some 164, op := Op.move (Operand.tmp 8), type := 25, pos := "law.go:348", after := #[{ on := 13, ground := Ground.guard }], guard := some (13, true) }) (v := ?_) 16 rfl ?_ ?_
            rotate_left
            · (intro w hSw; (try dsimp only at hSw); first | (go_simp; done) | (go_simp; with_reducible rfl))
            try simp only [Act.put, List.setIfInBounds_toArray, List.set_cons_zero, List.set_cons_succ]
            refine tk (oi := { dst := some 165, op := Op.nilCheck (Operand.tmp 164), type := 0, pos := "law.go:348", after := #[{ on := 16, ground := Ground.data }, { on := 13, ground := Ground.guard }], guard := some (13, true) }) (v := ?_) 17 rfl ?_ ?_
            rotate_left
            · (intro w hSw; (try dsimp only at hSw); first | (go_simp; done) | (go_simp; with_reducible rfl))
            try simp only [Act.put, List.setIfInBounds_toArray, List.set_cons_zero, List.set_cons_succ]
            refine tk (oi := { dst := some 166, op := Op.fieldAddr 58 (Operand.tmp 165) 1, type := 0, pos := "law.go:348", after := #[{ on := 17, ground := Ground.data }, { on := 13, ground := Ground.guard }], guard := some (13, true) }) (v := ?_) 18 rfl ?_ ?_
            rotate_left
            · (intro w hSw; (try dsimp only at hSw); first | (go_simp; done) | (go_simp; with_reducible rfl))
            try simp only [Act.put, List.setIfInBounds_toArray, List.set_cons_zero, List.set_cons_succ]
            refine tk (oi := { dst := some 167, op := Op.load 51 (Operand.tmp 166), type := 51, pos := "law.go:348", after := #[{ on := 18, ground := Ground.data }, { on := 13, ground := Ground.guard }], guard := some (13, true) }) (v := ?_) 19 rfl ?_ ?_
            rotate_left
            · (intro w hSw; (try dsimp only at hSw); first | (go_simp; done) | (go_simp; with_reducible rfl))
            try simp only [Act.put, List.setIfInBounds_toArray, List.set_cons_zero, List.set_cons_succ]
            refine wpAnyH_ready (rs := [15]) (by kernel_rfl) (by simp) ?_
            refine AllReadyH.cons (o := { dst := some 163, op := Op.call { callee := Callee.value (Operand.func 29), args := #[Operand.tmp 162], argTypes := #[51] }, type := 35, pos := "law.go:348", after := #[{ on := 14, ground := Ground.data }, { on := 13, ground := Ground.chain }, { on := 13, ground := Ground.guard }], guard := some (13, true) }) rfl (fun K hK => ?_) AllReadyH.nil
            go_simp
            refine (tw_segs H5.out HS.out HJA.out (by simp [HJS.out]) HB6.out (by decide)).mono ?_
            rintro e x7 ⟨va, rfl, hva, hb7⟩
            have HVA := Lib.hid hva
            have HB7 := Lib.hid (HB6.out.trans hb7)
            clear hva hb7
            dsimp only
            refine hK.out _ _ (cell_later HB7.out e1) (fun hHeld => ?_)
            clear hK K
            try simp only [Act.put, List.setIfInBounds_toArray, List.set_cons_zero, List.set_cons_succ]
            refine wpAnyH_ready (rs := [20]) (by kernel_rfl) (by simp) ?_
            refine AllReadyH.cons (o := { dst := some 168, op := Op.call { callee := Callee.value (Operand.func 29), args := #[Operand.tmp 167], argTypes := #[51] }, type := 35, pos := "law.go:348", after := #[{ on := 19, ground := Ground.data }, { on := 15, ground := Ground.chain }, { on := 13, ground := Ground.guard }], guard := some (13, true) }) rfl (fun K hK => ?_) AllReadyH.nil
            go_simp
            refine (tw_segs H5.out HS.out HJ5.out (by simp) HB7.out (by decide)).mono ?_
            rintro e x8 ⟨vb, rfl, hvb, hb8⟩
            have HVA2 := Lib.hid (HVA.out.bel hb8)
            have HVB := Lib.hid hvb
            have HB8 := Lib.hid (HB7.out.trans hb8)
            clear hvb hb8
            dsimp only
            refine hK.out _ _ (cell_later HB8.out e1) (fun hHeld => ?_)
            clear hK K
            try simp only [Act.put, List.setIfInBounds_toArray, List.set_cons_zero, List.set_cons_succ]
            refine wpAnyH_ready (rs := [21]) (by kernel_rfl) (by simp) ?_
            refine AllReadyH.cons (o := { dst := some 169, op := Op.call { callee := Callee.value (Operand.func 28), args := #[Operand.tmp 163, Operand.tmp 168], argTypes := #[35, 35] }, type := 4, pos := "law.go:348", after := #[{ on := 15, ground := Ground.data }, { on := 20, ground := Ground.data }, { on := 20, ground := Ground.chain }, { on := 13, ground := Ground.guard }], guard := some (13, true) }) rfl (fun K hK => ?_) AllReadyH.nil
            go_simp
            refine (jints_any x8 va vb _ _ _ _ HVA2.out HVB.out (by omega) (by omega)).mono ?_
            rintro e x9 ⟨rfl, hd9⟩
            rw [decide_eq_true rfl]
            have HB9 := Lib.hid (HB8.out.trans hd9.bel)
            clear hd9
            dsimp only
            refine hK.out _ _ (cell_later HB9.out e1) (fun hHeld => ?_)
            clear hK K
            try simp only [Act.put, List.setIfInBounds_toArray, List.set_cons_zero, List.set_cons_succ]
            refine tk (oi := { dst := some 170, op := Op.pick (Operand.tmp 161) (Operand.tmp 169) (Operand.const (Value.bool false)), type := 4, pos := "law.go:348", after := #[{ on := 13, ground := Ground.data }, { on := 21, ground := Ground.data }], guard := none }) (v := ?_) 22 rfl ?_ ?_
            rotate_left
            · (intro w hSw; (try dsimp only at hSw); first | (go_simp; done) | (go_simp; with_reducible rfl))
            try simp only [Act.put, List.setIfInBounds_toArray, List.set_cons_zero, List.set_cons_succ]
            refine tk (oi := { dst := some 6, op := Op.assign (Operand.tmp 170), type := 4, pos := "law.go:348", after := #[{ on := 22, ground := Ground.data }, { on := 21, ground := Ground.chain }, { on := 0, ground := Ground.phase }, { on := 1, ground := Ground.phase }, { on := 2, ground := Ground.phase }, { on := 3, ground := Ground.phase }, { on := 4, ground := Ground.phase }, { on := 5, ground := Ground.phase }, { on := 6, ground := Ground.phase }, { on := 7, ground := Ground.phase }, { on := 8, ground := Ground.phase }, { on := 9, ground := Ground.phase }, { on := 10, ground := Ground.phase }, { on := 11, ground := Ground.phase }, { on := 12, ground := Ground.phase }, { on := 13, ground := Ground.phase }, { on := 14, ground := Ground.phase }, { on := 15, ground := Ground.phase }, { on := 16, ground := Ground.phase }, { on := 17, ground := Ground.phase }, { on := 18, ground := Ground.phase }, { on := 19, ground := Ground.phase }, { on := 20, ground := Ground.phase }, { on := 21, ground := Ground.phase }, { on := 22, ground := Ground.phase }], guard := none }) (v := ?_) 23 rfl ?_ ?_
            rotate_left
            · (intro w hSw; (try dsimp only at hSw); first | (go_simp; done) | (go_simp; with_reducible rfl))
            try simp only [Act.put, List.setIfInBounds_toArray, List.set_cons_zero, List.set_cons_succ]
            refine wpAnyH_done (by kernel_rfl) ?_ _
            go_wp2_with (fail)
            all_goals go_ret
            all_goals exact ⟨rfl, H5.out.low.trans HB9.out⟩
        · obtain rfl : j = tw := by omega
          have hnl : ¬ (j : Int) < (PL.length : Int) := by omega
          clear hjl
          have HB4 := Lib.hid hbl
          have HX4 := Lib.hid (H3.out.bel hbl)
          have HOV4 := Lib.hid (HOV3.out.bel hbl)
          have HAV4 := Lib.hid (HAV3.out.bel hbl)
          obtain ⟨s0, s1, -, -, -, -⟩ := HX4.out.cells
          clear hbl
          go_wp2_with (fail)
          refine (tw_open HX4.out.tw HS.out (Bel.refl _) logB 2000 (by decide) HRM2.out HJO.out).mono ?_
          rintro e x5 ⟨jv, p5, c5, S, rfl, h5, hk5, hrow, hS, hj, -⟩
          obtain ⟨jb2, rfl, hja, hjs⟩ := hj rfl
          have H5 := Lib.hid h5
          have HRW := Lib.hid hrow
          have HJA := Lib.hid hja
          have HJS := Lib.hid hjs
          have HOV5 := Lib.hid (ownG_block HOV4.out (fun k hk => hk5 k (by simp [hk])))
          have HJ5 := Lib.hid (HX4.out.j.keep (hk5 jb (by simp)))
          obtain ⟨ap5, ac5, hv5, hrw5⟩ := lv_row HOV5.out (fun s hs => by
            rw [List.mem_map] at hs
            obtain ⟨u, hu, rfl⟩ := hs
            exact HPO.out u hu) h5.low
          rw [List.length_map] at hv5
          simp only [Value.slice.injEq, true_and] at hv5
          obtain ⟨rfl, rfl⟩ := hv5
          have hcap5 := own_cap lvOk HOV5.out (by rw [List.length_map])
          rw [List.length_map] at hcap5
          have heach := jopen_each logB.data.toList M2
          rw [HJO.out] at heach
          have HCA := Lib.hid (show ∀ z, Bel x5 z → Calls Tryz.prog 14 #[.slice p5 (PL.length - j) c5, .slice (if oc = j then op else Option.map (fun x => x.add j) op) (PL.length - j) (oc - j)] z fun e y => e = .returned (.bool true) ∧ Bel z y from fun z hz => by
            have hlen : ((PL.map fun q => q.2.l).drop j).length = PL.length - j := by simp
            have hrow2 : RowL (fun _ => True) x5 op (PL.map fun q => q.2.l) := by
              have := hrw5
              rw [List.map_map] at this
              exact this
            have := jall_any z _ _ p5 (if oc = j then op else Option.map (fun x => x.add j) op) c5 (oc - j) ((PL.map fun q => q.2.l).drop j) ((PL.map fun q => q.2.l).drop j) (hrow.bel hz) ((rowl_slice hrow2 oc j (by rw [List.length_map]; omega)).bel hz)
              (by rw [hlen]; omega) (by rw [hlen]; omega) (fun l hl => Nat.le_trans (heach l hl) (by omega)) (fun l hl => Nat.le_trans (heach l hl) (by omega))
            rw [hlen] at this
            exact this.mono fun e y (hq : e = .returned (.bool (decide (((PL.map fun q => q.2.l).drop j) = ((PL.map fun q => q.2.l).drop j)))) ∧ Bel z y) => ⟨hq.1.trans (by rw [decide_eq_true rfl]), hq.2⟩)
          have e1 := cell_at (i := 1) ((hk5 ws (by simp)).trans HX4.out.sw)
          simp at e1
          have hsl := segs_len logB.data.toList M2.L
          have h60 := h5.good.len
          clear h5 hk5 hrow hS hj hja hjs s0 s1 hrw5 hcap5 heach
          go_wp2_with (fail)
          refine wp_region_held_drew (S := fun z => z.cell? ⟨ws, 1, none⟩ = some (.pointer (some ⟨jb, 0, none⟩))) (by kernel_rfl) e1 (fun hHeld => ?_)
          refine tk (oi := { dst := some 148, op := Op.move (Operand.tmp 18), type := 51, pos := "law.go:348", after := #[], guard := none }) (v := ?_) 0 rfl ?_ ?_
          rotate_left
          · (intro w hSw; (try dsimp only at hSw); first | (go_simp; done) | (go_simp; with_reducible rfl))
          try simp only [Act.put, List.setIfInBounds_toArray, List.set_cons_zero, List.set_cons_succ]
          refine tk (oi := { dst := some 149, op := Op.binOp BinOp.neq 51 (Operand.tmp 148) (Operand.const (Value.pointer none)) 51, type := 4, pos := "law.go:348", after := #[{ on := 0, ground := Ground.data }], guard := none }) (v := ?_) 1 rfl ?_ ?_
          rotate_left
          · (intro w hSw; (try dsimp only at hSw); first | (go_simp; done) | (go_simp; with_reducible rfl))
          try simp only [Act.put, List.setIfInBounds_toArray, List.set_cons_zero, List.set_cons_succ]
          refine tk (oi := { dst := some 150, op := Op.move (Operand.tmp 149), type := 4, pos := "law.go:348", after := #[{ on := 1, ground := Ground.data }], guard := none }) (v := ?_) 2 rfl ?_ ?_
          rotate_left
          · (intro w hSw; (try dsimp only at hSw); first | (go_simp; done) | (go_simp; with_reducible rfl))
          try simp only [Act.put, List.setIfInBounds_toArray, List.set_cons_zero, List.set_cons_succ]
          refine tk (oi := { dst := some 151, op := Op.move (Operand.tmp 20), type := 31, pos := "law.go:348", after := #[{ on := 2, ground := Ground.guard }], guard := some (2, true) }) (v := ?_) 3 rfl ?_ ?_
          rotate_left
          · (intro w hSw; (try dsimp only at hSw); first | (go_simp; done) | (go_simp; with_reducible rfl))
          try simp only [Act.put, List.setIfInBounds_toArray, List.set_cons_zero, List.set_cons_succ]
          refine tk (oi := { dst := some 152, op := Op.binOp BinOp.eql 31 (Operand.tmp 151) (Operand.const (Value.int IntKind.i64 0)) 31, type := 4, pos := "law.go:348", after := #[{ on := 3, ground := Ground.data }, { on := 2, ground := Ground.guard }], guard := some (2, true) }) (v := ?_) 4 rfl ?_ ?_
          rotate_left
          · (intro w hSw; (try dsimp only at hSw); first | (go_simp; done) | (go_simp; with_reducible rfl))
          try simp only [Act.put, List.setIfInBounds_toArray, List.set_cons_zero, List.set_cons_succ]
          refine tk (oi := { dst := some 153, op := Op.pick (Operand.tmp 150) (Operand.tmp 152) (Operand.const (Value.bool false)), type := 4, pos := "law.go:348", after := #[{ on := 2, ground := Ground.data }, { on := 4, ground := Ground.data }], guard := none }) (v := ?_) 5 rfl ?_ ?_
          rotate_left
          · (intro w hSw; (try dsimp only at hSw); first | (go_simp; done) | (go_simp; with_reducible rfl))
          try simp only [Act.put, List.setIfInBounds_toArray, List.set_cons_zero, List.set_cons_succ]
          refine tk (oi := { dst := some 154, op := Op.move (Operand.tmp 153), type := 4, pos := "law.go:348", after := #[{ on := 5, ground := Ground.data }, { on := 2, ground := Ground.chain }], guard := none }) (v := ?_) 6 rfl ?_ ?_
          rotate_left
          · (intro w hSw; (try dsimp only at hSw); first | (go_simp; done) | (go_simp; with_reducible rfl))
          try simp only [Act.put, List.setIfInBounds_toArray, List.set_cons_zero, List.set_cons_succ]
          refine tk (oi := { dst := some 155, op := Op.move (Operand.tmp 19), type := 30, pos := "law.go:348", after := #[{ on := 6, ground := Ground.guard }], guard := some (6, true) }) (v := ?_) 7 rfl ?_ ?_
          rotate_left
          · (intro w hSw; (try dsimp only at hSw); first | (go_simp; done) | (go_simp; with_reducible rfl))
          try simp only [Act.put, List.setIfInBounds_toArray, List.set_cons_zero, List.set_cons_succ]
          refine tk (oi := { dst := some 156, op := Op.move (Operand.tmp 11), type := 30, pos := "law.go:348", after := #[{ on := 6, ground := Ground.guard }], guard := some (6, true) }) (v := ?_) 8 rfl ?_ ?_
          rotate_left
          · (intro w hSw; (try dsimp only at hSw); first | (go_simp; done) | (go_simp; with_reducible rfl))
          try simp only [Act.put, List.setIfInBounds_toArray, List.set_cons_zero, List.set_cons_succ]
          refine tk (oi := { dst := some 157, op := Op.move (Operand.tmp 17), type := 3, pos := "law.go:348", after := #[{ on := 6, ground := Ground.guard }], guard := some (6, true) }) (v := ?_) 9 rfl ?_ ?_
          rotate_left
          · (intro w hSw; (try dsimp only at hSw); first | (go_simp; done) | (go_simp; with_reducible rfl))
          try simp only [Act.put, List.setIfInBounds_toArray, List.set_cons_zero, List.set_cons_succ]
          refine tk (oi := { dst := some 158, op := Op.slice 30 (Operand.tmp 156) (some (Operand.tmp 157)) none none, type := 30, pos := "law.go:348", after := #[{ on := 8, ground := Ground.data }, { on := 9, ground := Ground.data }, { on := 6, ground := Ground.guard }], guard := some (6, true) }) (v := ?_) 10 rfl ?_ ?_
          rotate_left
          · (intro w hSw; (try dsimp only at hSw); first | (go_simp; done) | (go_simp; with_reducible rfl))
          try simp only [Act.put, List.setIfInBounds_toArray, List.set_cons_zero, List.set_cons_succ]
          refine wpAnyH_ready (rs := [11]) (by kernel_rfl) (by simp) ?_
          refine AllReadyH.cons (o := { dst := some 159, op := Op.call { callee := Callee.value (Operand.func 14), args := #[Operand.tmp 155, Operand.tmp 158], argTypes := #[30, 30] }, type := 4, pos := "law.go:348", after := #[{ on := 7, ground := Ground.data }, { on := 10, ground := Ground.data }, { on := 6, ground := Ground.chain }, { on := 6, ground := Ground.guard }], guard := some (6, true) }) rfl (fun K hK => ?_) AllReadyH.nil
          go_simp
          refine (HCA.out _ (Bel.refl _).drew).mono ?_
          rintro e x6 ⟨rfl, hb6⟩
          have HB6 := Lib.hid ((Bel.refl x5).drew.trans hb6)
          clear hb6
          dsimp only
          refine hK.out _ _ (cell_later HB6.out e1) (fun hHeld => ?_)
          clear hK K
          try simp only [Act.put, List.setIfInBounds_toArray, List.set_cons_zero, List.set_cons_succ]
          refine tk (oi := { dst := some 160, op := Op.pick (Operand.tmp 154) (Operand.tmp 159) (Operand.const (Value.bool false)), type := 4, pos := "law.go:348", after := #[{ on := 6, ground := Ground.data }, { on := 11, ground := Ground.data }], guard := none }) (v := ?_) 12 rfl ?_ ?_
          rotate_left
          · (intro w hSw; (try dsimp only at hSw); first | (go_simp; done) | (go_simp; with_reducible rfl))
          try simp only [Act.put, List.setIfInBounds_toArray, List.set_cons_zero, List.set_cons_succ]
          refine tk (oi := { dst := some 161, op := Op.move (Operand.tmp 160), type := 4, pos := "law.go:348", after := #[{ on := 12, ground := Ground.data }, { on := 11, ground := Ground.chain }], guard := none }) (v := ?_) 13 rfl ?_ ?_
          rotate_left
          · (intro w hSw; (try dsimp only at hSw); first | (go_simp; done) | (go_simp; with_reducible rfl))
          try simp only [Act.put, List.setIfInBounds_toArray, List.set_cons_zero, List.set_cons_succ]
          refine tk (oi := { dst := some 162, op := Op.move (Operand.tmp 18), type := 51, pos := "law.go:348", after := #[{ on := 13, ground := Ground.guard }], guard := some (13, true) }) (v := ?_) 14 rfl ?_ ?_
          rotate_left
          · (intro w hSw; (try dsimp only at hSw); first | (go_simp; done) | (go_simp; with_reducible rfl))
          try simp only [Act.put, List.setIfInBounds_toArray, List.set_cons_zero, List.set_cons_succ]
          refine tk (oi := { dst := some 164, op := Op.move (Operand.tmp 8), type := 25, pos := "law.go:348", after := #[{ on := 13, ground := Ground.guard }], guard := some (13, true) }) (v := ?_) 16 rfl ?_ ?_
          rotate_left
          · (intro w hSw; (try dsimp only at hSw); first | (go_simp; done) | (go_simp; with_reducible rfl))
          try simp only [Act.put, List.setIfInBounds_toArray, List.set_cons_zero, List.set_cons_succ]
          refine tk (oi := { dst := some 165, op := Op.nilCheck (Operand.tmp 164), type := 0, pos := "law.go:348", after := #[{ on := 16, ground := Ground.data }, { on := 13, ground := Ground.guard }], guard := some (13, true) }) (v := ?_) 17 rfl ?_ ?_
          rotate_left
          · (intro w hSw; (try dsimp only at hSw); first | (go_simp; done) | (go_simp; with_reducible rfl))
          try simp only [Act.put, List.setIfInBounds_toArray, List.set_cons_zero, List.set_cons_succ]
          refine tk (oi := { dst := some 166, op := Op.fieldAddr 58 (Operand.tmp 165) 1, type := 0, pos := "law.go:348", after := #[{ on := 17, ground := Ground.data }, { on := 13, ground := Ground.guard }], guard := some (13, true) }) (v := ?_) 18 rfl ?_ ?_
          rotate_left
          · (intro w hSw; (try dsimp only at hSw); first | (go_simp; done) | (go_simp; with_reducible rfl))
          try simp only [Act.put, List.setIfInBounds_toArray, List.set_cons_zero, List.set_cons_succ]
          refine tk (oi := { dst := some 167, op := Op.load 51 (Operand.tmp 166), type := 51, pos := "law.go:348", after := #[{ on := 18, ground := Ground.data }, { on := 13, ground := Ground.guard }], guard := some (13, true) }) (v := ?_) 19 rfl ?_ ?_
          rotate_left
          · (intro w hSw; (try dsimp only at hSw); first | (go_simp; done) | (go_simp; with_reducible rfl))
          try simp only [Act.put, List.setIfInBounds_toArray, List.set_cons_zero, List.set_cons_succ]
          refine wpAnyH_ready (rs := [15]) (by kernel_rfl) (by simp) ?_
          refine AllReadyH.cons (o := { dst := some 163, op := Op.call { callee := Callee.value (Operand.func 29), args := #[Operand.tmp 162], argTypes := #[51] }, type := 35, pos := "law.go:348", after := #[{ on := 14, ground := Ground.data }, { on := 13, ground := Ground.chain }, { on := 13, ground := Ground.guard }], guard := some (13, true) }) rfl (fun K hK => ?_) AllReadyH.nil
          go_simp
          refine (tw_segs H5.out HS.out HJA.out (by simp [HJS.out]) HB6.out (by decide)).mono ?_
          rintro e x7 ⟨va, rfl, hva, hb7⟩
          have HVA := Lib.hid hva
          have HB7 := Lib.hid (HB6.out.trans hb7)
          clear hva hb7
          dsimp only
          refine hK.out _ _ (cell_later HB7.out e1) (fun hHeld => ?_)
          clear hK K
          try simp only [Act.put, List.setIfInBounds_toArray, List.set_cons_zero, List.set_cons_succ]
          refine wpAnyH_ready (rs := [20]) (by kernel_rfl) (by simp) ?_
          refine AllReadyH.cons (o := { dst := some 168, op := Op.call { callee := Callee.value (Operand.func 29), args := #[Operand.tmp 167], argTypes := #[51] }, type := 35, pos := "law.go:348", after := #[{ on := 19, ground := Ground.data }, { on := 15, ground := Ground.chain }, { on := 13, ground := Ground.guard }], guard := some (13, true) }) rfl (fun K hK => ?_) AllReadyH.nil
          go_simp
          refine (tw_segs H5.out HS.out HJ5.out (by simp) HB7.out (by decide)).mono ?_
          rintro e x8 ⟨vb, rfl, hvb, hb8⟩
          have HVA2 := Lib.hid (HVA.out.bel hb8)
          have HVB := Lib.hid hvb
          have HB8 := Lib.hid (HB7.out.trans hb8)
          clear hvb hb8
          dsimp only
          refine hK.out _ _ (cell_later HB8.out e1) (fun hHeld => ?_)
          clear hK K
          try simp only [Act.put, List.setIfInBounds_toArray, List.set_cons_zero, List.set_cons_succ]
          refine wpAnyH_ready (rs := [21]) (by kernel_rfl) (by simp) ?_
          refine AllReadyH.cons (o := { dst := some 169, op := Op.call { callee := Callee.value (Operand.func 28), args := #[Operand.tmp 163, Operand.tmp 168], argTypes := #[35, 35] }, type := 4, pos := "law.go:348", after := #[{ on := 15, ground := Ground.data }, { on := 20, ground := Ground.data }, { on := 20, ground := Ground.chain }, { on := 13, ground := Ground.guard }], guard := some (13, true) }) rfl (fun K hK => ?_) AllReadyH.nil
          go_simp
          refine (jints_any x8 va vb _ _ _ _ HVA2.out HVB.out (by omega) (by omega)).mono ?_
          rintro e x9 ⟨rfl, hd9⟩
          rw [decide_eq_true rfl]
          have HB9 := Lib.hid (HB8.out.trans hd9.bel)
          clear hd9
          dsimp only
          refine hK.out _ _ (cell_later HB9.out e1) (fun hHeld => ?_)
          clear hK K
          try simp only [Act.put, List.setIfInBounds_toArray, List.set_cons_zero, List.set_cons_succ]
          refine tk (oi := { dst := some 170, op := Op.pick (Operand.tmp 161) (Operand.tmp 169) (Operand.const (Value.bool false)), type := 4, pos := "law.go:348", after := #[{ on := 13, ground := Ground.data }, { on := 21, ground := Ground.data }], guard := none }) (v := ?_) 22 rfl ?_ ?_
          rotate_left
          · (intro w hSw; (try dsimp only at hSw); first | (go_simp; done) | (go_simp; with_reducible rfl))
          try simp only [Act.put, List.setIfInBounds_toArray, List.set_cons_zero, List.set_cons_succ]
          refine tk (oi := { dst := some 6, op := Op.assign (Operand.tmp 170), type := 4, pos := "law.go:348", after := #[{ on := 22, ground := Ground.data }, { on := 21, ground := Ground.chain }, { on := 0, ground := Ground.phase }, { on := 1, ground := Ground.phase }, { on := 2, ground := Ground.phase }, { on := 3, ground := Ground.phase }, { on := 4, ground := Ground.phase }, { on := 5, ground := Ground.phase }, { on := 6, ground := Ground.phase }, { on := 7, ground := Ground.phase }, { on := 8, ground := Ground.phase }, { on := 9, ground := Ground.phase }, { on := 10, ground := Ground.phase }, { on := 11, ground := Ground.phase }, { on := 12, ground := Ground.phase }, { on := 13, ground := Ground.phase }, { on := 14, ground := Ground.phase }, { on := 15, ground := Ground.phase }, { on := 16, ground := Ground.phase }, { on := 17, ground := Ground.phase }, { on := 18, ground := Ground.phase }, { on := 19, ground := Ground.phase }, { on := 20, ground := Ground.phase }, { on := 21, ground := Ground.phase }, { on := 22, ground := Ground.phase }], guard := none }) (v := ?_) 23 rfl ?_ ?_
          rotate_left
          · (intro w hSw; (try dsimp only at hSw); first | (go_simp; done) | (go_simp; with_reducible rfl))
          try simp only [Act.put, List.setIfInBounds_toArray, List.set_cons_zero, List.set_cons_succ]
          refine wpAnyH_done (by kernel_rfl) ?_ _
          go_wp2_with (fail)
          all_goals go_ret
          all_goals exact ⟨rfl, H5.out.low.trans HB9.out⟩
end Go.Proofs.YtlmlcnbgdaiaeaaGreatDoor
