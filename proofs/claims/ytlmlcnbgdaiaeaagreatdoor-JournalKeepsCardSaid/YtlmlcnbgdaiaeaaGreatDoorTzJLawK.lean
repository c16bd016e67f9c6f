/- moultlaw7.JournalKeeps. -/
import Derived.Test.YtlmlcnbgdaiaeaaGreatDoorT23
import Derived.Test.YtlmlcnbgdaiaeaaGreatDoorT2
set_option linter.unusedSimpArgs false
set_option linter.unusedVariables false
namespace Go.Proofs.YtlmlcnbgdaiaeaaGreatDoor
open Go.RowKit Go.Deep Go.Maps

theorem tail_cut7 {A1 A2 A3 A4 A5 A6 A7 : Sort _} {P G : A1 → A2 → A3 → A4 → A5 → A6 → A7 → Prop} {C : Prop} (h : (∀ a b c d e f g, P a b c d e f g → G a b c d e f g) → C) (t : ∀ a b c d e f g, P a b c d e f g → G a b c d e f g) : C := h t
theorem own_empty {α : Type} {E : El α} {W : World} {n B : Nat} (h : W.heap[B]? = some (.cells #[] E.T (0, 0))) (hn : n ≤ B) : OwnG E n W (.slice (some ⟨B, 0, none⟩) 0 0) [] := by
  refine ⟨by simp [El.all], Or.inr ⟨B, 0, #[], rfl, hn, h, Nat.le_refl _, by unfold maxLen; omega, by simp, by simp [El.all]⟩⟩
theorem src_lit {α : Type} {E : El α} {W : World} {B : Nat} {arr : Array Value} {T : TypeId} {v : α} (h : W.heap[B]? = some (.cells arr T (0, 0))) (harr : arr.toList = E.cells v) : SrcAt E W (.slice (some ⟨B, 0, none⟩) 1 1) [v] := by
  refine Or.inr ⟨_, 1, rfl, fun j u hj => ?_⟩
  have e : (⟨B, 0, none⟩ : Addr).add j = ⟨B, j, none⟩ := by cases j <;> simp [Addr.add]
  rw [e]
  rw [show E.all [v] = arr.toList by rw [harr]; simp [El.all]] at hj
  simp [World.cell?, h]
  simpa using hj
theorem lv_at {w : World} {p : Option Addr} {L : List LV} (h : LvsAt w p L) {k : Nat} (hk : k < L.length) : ∃ a, p = some a ∧ (∀ x, Bel w x → x.cell? (a.add k) = some (.slice L[k].p L[k].l.length L[k].cap)) ∧ LV.ok w L[k] := by
  obtain ⟨a, h1, h2, h3⟩ := h k hk
  exact ⟨a, h1, fun x hx => cell_later hx h2, h3⟩
def KpRel (w : World) (ws ms b r jb rb : Nat) (M' : RS) (n : Nat) (wv nv iv : Value) (x : World) : Prop :=
  ∃ (k : Nat) (M : RS) (Wl Nl : List LV), iv = .int .i64 k ∧ k ≤ n ∧ LW w x ws ms b r jb rb M M' logB 2000 (wv.ownBlock.toList ++ nv.ownBlock.toList) ∧ KpInv logB.data.toList M (Wl.map (·.l)) (Nl.map (·.l)) ∧ lastN logB.data.toList M.L ≠ 0 ∧ lastN logB.data.toList M.L ≤ k + 1 ∧ M.room ≤ 1000000 ∧
    OwnG lvEl 0 x wv Wl ∧ OwnG lvEl 0 x nv Nl ∧ Wl.length ≤ k ∧ Nl.length ≤ k ∧ ∀ s ∈ Wl ++ Nl, LV.ok w s ∧ s.l.length ≤ 1000000
set_option maxHeartbeats 16000000 in
set_option maxRecDepth 20000 in
theorem law_keeps7_any (w : World) (p : Option Addr) (cap : Nat) (L : List LV) (turn : Int) (lf sp : SI) (again : Int) (hstd : Std w) (h : LvsAt w p L) (hL : L.length ≤ maxLen) (hlf : SI.ok w lf) (hsp : SI.ok w sp) (hturn : -9223372036854775808 ≤ turn ∧ turn ≤ 9223372036854775807) (hagain : -9223372036854775808 ≤ again ∧ again ≤ 9223372036854775807) :
    Calls Tryz.prog 5 #[.slice p L.length cap, .int .i64 turn, .slice lf.p lf.L.length lf.cap, .slice sp.p sp.L.length sp.cap, .int .i64 again] w fun e w' => e = .returned (.bool true) ∧ Bel w w' := by
  have HS := Lib.hid hstd
  have H := Lib.hid h
  have HTN := Lib.hid (show in64 turn from hturn)
  have HAG := Lib.hid (show in64 again from hagain)
  have HLF := Lib.hid hlf
  have HSP := Lib.hid hsp
  have hll := hlf.2.1
  have hsl := hsp.2.1
  unfold maxLen at hL hll hsl
  clear hstd h hlf hsp
  by_cases h40 : 40 < L.length
  · go_enter Tryz.func5, Tryz.ntmps5
    go_wp2_with (fail)
    refine (jshown_any w HS.out).mono ?_
    rintro e w1 ⟨rfl, hb1⟩
    have HB1 := Lib.hid hb1; clear hb1
    go_wp2_with (fail)
    go_ret
    exact ⟨rfl, HB1.out⟩
  by_cases h60 : 60 < lf.L.length
  · go_enter Tryz.func5, Tryz.ntmps5
    go_wp2_with (fail)
    refine (jshown_any w HS.out).mono ?_
    rintro e w1 ⟨rfl, hb1⟩
    have HB1 := Lib.hid hb1; clear hb1
    go_wp2_with (fail)
    go_ret
    exact ⟨rfl, HB1.out⟩
  by_cases h61 : 60 < sp.L.length
  · go_enter Tryz.func5, Tryz.ntmps5
    go_wp2_with (fail)
    refine (jshown_any w HS.out).mono ?_
    rintro e w1 ⟨rfl, hb1⟩
    have HB1 := Lib.hid hb1; clear hb1
    go_wp2_with (fail)
    go_ret
    exact ⟨rfl, HB1.out⟩
  go_enter Tryz.func5, Tryz.ntmps5
  go_wp2_with (fail)
  refine (jshown_any w HS.out).mono ?_
  rintro e w1 ⟨rfl, hb1⟩
  have HB1 := Lib.hid hb1; clear hb1
  go_wp2_with (fail)
  refine (jbegin_any w _ HS.out HB1.out 1000000 2000 (by omega)).mono ?_
  rintro e w3 ⟨ws, ms, b, r, jb, rb, rfl, h3⟩
  have H3 := Lib.hid h3
  obtain ⟨M', hM'⟩ : ∃ M', M' = bgM 1000000 := ⟨_, rfl⟩
  have HM' := Lib.hid hM'
  obtain ⟨s0, -, -, -, -, -⟩ := h3.cells
  clear h3 hM'
  go_wp2_with (fail)
  refine wp_region_held_drew (S := fun z => z.cell? ⟨ws, 0, none⟩ = some (.pointer (some ⟨b, 0, none⟩))) (by kernel_rfl) s0 (fun hHeld => ?_)
  refine tk (oi := { dst := some 49, op := Op.move (Operand.tmp 12), type := 25, pos := "law.go:285", after := #[], guard := none }) (v := ?_) 0 rfl ?_ ?_
  rotate_left
  · (intro w hSw; (try dsimp only at hSw); first | (go_simp; done) | (go_simp; with_reducible rfl))
  try simp only [Act.put, List.setIfInBounds_toArray, List.set_cons_zero, List.set_cons_succ]
  refine tk (oi := { dst := some 50, op := Op.nilCheck (Operand.tmp 49), type := 0, pos := "law.go:285", after := #[{ on := 0, ground := Ground.data }], guard := none }) (v := ?_) 1 rfl ?_ ?_
  rotate_left
  · (intro w hSw; (try dsimp only at hSw); first | (go_simp; done) | (go_simp; with_reducible rfl))
  try simp only [Act.put, List.setIfInBounds_toArray, List.set_cons_zero, List.set_cons_succ]
  refine tk (oi := { dst := some 51, op := Op.fieldAddr 58 (Operand.tmp 50) 0, type := 0, pos := "law.go:285", after := #[{ on := 1, ground := Ground.data }], guard := none }) (v := ?_) 2 rfl ?_ ?_
  rotate_left
  · (intro w hSw; (try dsimp only at hSw); first | (go_simp; done) | (go_simp; with_reducible rfl))
  try simp only [Act.put, List.setIfInBounds_toArray, List.set_cons_zero, List.set_cons_succ]
  refine tk (oi := { dst := some 52, op := Op.load 42 (Operand.tmp 51), type := 42, pos := "law.go:285", after := #[{ on := 2, ground := Ground.data }], guard := none }) (v := ?_) 3 rfl ?_ ?_
  rotate_left
  · (intro w hSw; (try dsimp only at hSw); first | (go_simp; done) | (go_simp; with_reducible rfl))
  try simp only [Act.put, List.setIfInBounds_toArray, List.set_cons_zero, List.set_cons_succ]
  refine tk (oi := { dst := some 53, op := Op.move (Operand.tmp 1), type := 3, pos := "law.go:285", after := #[], guard := none }) (v := ?_) 4 rfl ?_ ?_
  rotate_left
  · (intro w hSw; (try dsimp only at hSw); first | (go_simp; done) | (go_simp; with_reducible rfl))
  try simp only [Act.put, List.setIfInBounds_toArray, List.set_cons_zero, List.set_cons_succ]
  refine wpAnyH_ready (rs := [5]) (by kernel_rfl) (by simp) ?_
  refine AllReadyH.cons (o := { dst := some 54, op := Op.call { callee := Callee.value (Operand.func 10), args := #[Operand.tmp 53, Operand.const (Value.int IntKind.i64 90)], argTypes := #[3, 3] }, type := 3, pos := "law.go:285", after := #[{ on := 4, ground := Ground.data }], guard := none }) rfl (fun K hK => ?_) AllReadyH.nil
  go_simp
  refine (jpick_at _ _ 90 _ HTN.out (by omega) (by omega) rfl).mono ?_
  rintro e z ⟨rfl, rfl⟩
  dsimp only
  refine hK.out _ _ hHeld (fun hHeld => ?_)
  clear hK K
  try simp only [Act.put, List.setIfInBounds_toArray, List.set_cons_zero, List.set_cons_succ]
  refine wpAnyH_ready (rs := [6]) (by kernel_rfl) (by simp) ?_
  refine AllReadyH.cons (o := { dst := some 55, op := Op.call { callee := Callee.value (Operand.func 21), args := #[Operand.tmp 52, Operand.tmp 54], argTypes := #[42, 3] }, type := 0, pos := "law.go:285", after := #[{ on := 3, ground := Ground.data }, { on := 5, ground := Ground.data }, { on := 5, ground := Ground.chain }], guard := none }) rfl (fun K hK => ?_) AllReadyH.nil
  go_simp
  refine (lw_limit H3.out (Bel.refl _).drew _ (jpick_ok turn 90 w3 HTN.out (by omega) (by omega))).mono ?_
  rintro e w4 ⟨⟨u, rfl⟩, h4, -⟩
  obtain ⟨s4, -, -, -, -, -⟩ := h4.cells
  rw [← HM'.out] at h4
  have H4 := Lib.hid h4
  clear h4
  dsimp only
  refine hK.out _ _ s4 (fun hHeld => ?_)
  clear hK K
  try simp only [Act.put, List.setIfInBounds_toArray, List.set_cons_zero, List.set_cons_succ]
  refine wpAnyH_done (by kernel_rfl) ?_ _
  clear s0 s4 H3
  go_wp2_with (fail)
  go_loopw [15, 16, 17] (fun wv nv iv x => KpRel w ws ms b r jb rb M' L.length wv nv iv x) (fun _ _ iv _ => L.length - (intOf iv).toNat)
  case atStart => exact ⟨0, _, [], [], rfl, Nat.zero_le _, H4.out, by rw [HM'.out]; exact Or.inl ⟨fun _ => [], bg_hold 1000000, by rw [← pair_all, show (limS ((pickN turn 90 : Nat) : Int) (bgM 1000000)).L = (bgM 1000000).L from rfl, bg_pair]; rfl⟩, by rw [HM'.out, logB_list]; show lastN logP (bgM 1000000).L ≠ 0; rw [last_bg7]; omega, by rw [HM'.out, logB_list]; show lastN logP (bgM 1000000).L ≤ _; rw [last_bg7]; omega, by rw [HM'.out]; show (1000000 : Int) ≤ 1000000; omega, OwnG.nil _ _ _, OwnG.nil _ _ _, Nat.zero_le _, Nat.zero_le _, fun s hs => by cases hs⟩
  case round =>
    obtain ⟨k, M, Wl, Nl, rfl, hk, hx, hkp, hl0, hl1, hrm, hwv, hnv, hwl, hnl, hpo⟩ := hrel
    obtain ⟨wp, wc, hv1⟩ := ownG_len hwv
    subst hv1
    obtain ⟨np, nc, hv2⟩ := ownG_len hnv
    subst hv2
    have HX0 := Lib.hid hx
    have HKP := Lib.hid hkp
    have HL0 := Lib.hid hl0
    have HL1 := Lib.hid hl1
    have HRM := Lib.hid hrm
    have HWS0 := Lib.hid hwv
    have HNS0 := Lib.hid hnv
    have HPO := Lib.hid hpo
    obtain ⟨s0, -, -, -, -, -⟩ := hx.cells
    clear hx hkp hl0 hl1 hrm hwv hnv hpo H4
    by_cases hlt : k < L.length
    · go_wp2_with (fail)
      refine (lw_dead HX0.out (Bel.refl _)).mono ?_
      rintro e xd ⟨rfl, hxd, hbd⟩
      have HX := Lib.hid hxd
      have HWS := Lib.hid (HWS0.out.bel hbd)
      have HNS := Lib.hid (HNS0.out.bel hbd)
      clear hxd hbd s0 HX0 HWS0 HNS0
      cases hgn : M.gone with
      | true =>
        have HGN := Lib.hid hgn
        clear hgn
        obtain ⟨tg, htg⟩ : ∃ tg, tg = ((pickN again 4 : Nat) : Int) := ⟨_, rfl⟩
        have HTG := Lib.hid htg
        have HT4 := Lib.hid (show in64 tg by rw [htg]; exact jpick_ok again 4 w HAG.out (by omega) (by omega))
        obtain ⟨e1, A1, M2, hjo⟩ : ∃ e1 A1 M2, jopen logB.data.toList (limS tg (crashS lf.L sp.L M)) = (e1, A1, M2) := ⟨_, _, _, rfl⟩
        have HJO := Lib.hid hjo
        have hend := kp_end (p := logB.data.toList) HX.out.tw.good (by rw [logB_list]; decide) HKP.out lf.L sp.L sp.L lf.L tg HT4.out hjo
        have HEND := Lib.hid hend
        have hMl : (limS tg (crashS lf.L sp.L M)).ok := lim_ok (crash_ok HX.out.tw.good _ _) _ HT4.out
        have hrml : (limS tg (crashS lf.L sp.L M)).room ≤ 1000000 := HRM.out
        have HRML := Lib.hid hrml
        have hlens := jopen_lens logB.data.toList hMl hrml
        have heach := jopen_each logB.data.toList (limS tg (crashS lf.L sp.L M))
        have hroom := jopen_room logB.data.toList (limS tg (crashS lf.L sp.L M))
        rw [hjo] at hlens heach hroom
        have HLE := Lib.hid (show A1.length ≤ 1000000000 by simp only at hlens; omega)
        have HEA := Lib.hid (show ∀ l ∈ A1, l.length ≤ 1000000 from fun l hl => Nat.le_trans (heach l hl) (by omega))
        have HRM2 := Lib.hid (show M2.room ≤ 1000000 by rw [show M2.room = (limS tg (crashS lf.L sp.L M)).room from hroom]; exact hrml)
        have HWL := Lib.hid (show (Wl.map (·.l)).length ≤ 1000000000 by rw [List.length_map]; omega)
        have HNL := Lib.hid (show (Nl.map (·.l)).length ≤ 1000000000 by rw [List.length_map]; omega)
        have HWE := Lib.hid (show ∀ l ∈ Wl.map (·.l), l.length ≤ 1000000 from fun l hl => by rw [List.mem_map] at hl; obtain ⟨s, hs, rfl⟩ := hl; exact (HPO.out s (by simp [hs])).2)
        have HNE := Lib.hid (show ∀ l ∈ Nl.map (·.l), l.length ≤ 1000000 from fun l hl => by rw [List.mem_map] at hl; obtain ⟨s, hs, rfl⟩ := hl; exact (HPO.out s (by simp [hs])).2)
        obtain ⟨s0, -, -, -, -, -⟩ := HX.out.cells
        clear htg hjo hend hMl hrml hlens heach hroom
        go_wp2_with (fail)
        refine (lw_crash HX.out (Bel.refl _) lf sp HLF.out HSP.out).mono ?_
        rintro e z1 ⟨⟨u, rfl⟩, h1, hk1⟩
        have HW1 := Lib.hid (ownG_block HWS.out (fun k hk => hk1 k (by simp [hk])))
        have HN1 := Lib.hid (ownG_block HNS.out (fun k hk => hk1 k (by simp [hk])))
        obtain ⟨s1, -, -, -, -, -⟩ := h1.cells
        have HZ1 := Lib.hid h1
        clear h1 hk1 s0
        go_wp2_with (fail)
        refine wp_region_held_drew (S := fun z => z.cell? ⟨ws, 0, none⟩ = some (.pointer (some ⟨b, 0, none⟩))) (by kernel_rfl) s1 (fun hHeld => ?_)
        refine tk (oi := { dst := some 114, op := Op.move (Operand.tmp 12), type := 25, pos := "law.go:303", after := #[], guard := none }) (v := ?_) 0 rfl ?_ ?_
        rotate_left
        · (intro w hSw; (try dsimp only at hSw); first | (go_simp; done) | (go_simp; with_reducible rfl))
        try simp only [Act.put, List.setIfInBounds_toArray, List.set_cons_zero, List.set_cons_succ]
        refine tk (oi := { dst := some 115, op := Op.nilCheck (Operand.tmp 114), type := 0, pos := "law.go:303", after := #[{ on := 0, ground := Ground.data }], guard := none }) (v := ?_) 1 rfl ?_ ?_
        rotate_left
        · (intro w hSw; (try dsimp only at hSw); first | (go_simp; done) | (go_simp; with_reducible rfl))
        try simp only [Act.put, List.setIfInBounds_toArray, List.set_cons_zero, List.set_cons_succ]
        refine tk (oi := { dst := some 116, op := Op.fieldAddr 58 (Operand.tmp 115) 0, type := 0, pos := "law.go:303", after := #[{ on := 1, ground := Ground.data }], guard := none }) (v := ?_) 2 rfl ?_ ?_
        rotate_left
        · (intro w hSw; (try dsimp only at hSw); first | (go_simp; done) | (go_simp; with_reducible rfl))
        try simp only [Act.put, List.setIfInBounds_toArray, List.set_cons_zero, List.set_cons_succ]
        refine tk (oi := { dst := some 117, op := Op.load 42 (Operand.tmp 116), type := 42, pos := "law.go:303", after := #[{ on := 2, ground := Ground.data }], guard := none }) (v := ?_) 3 rfl ?_ ?_
        rotate_left
        · (intro w hSw; (try dsimp only at hSw); first | (go_simp; done) | (go_simp; with_reducible rfl))
        try simp only [Act.put, List.setIfInBounds_toArray, List.set_cons_zero, List.set_cons_succ]
        refine tk (oi := { dst := some 118, op := Op.move (Operand.tmp 4), type := 3, pos := "law.go:303", after := #[], guard := none }) (v := ?_) 4 rfl ?_ ?_
        rotate_left
        · (intro w hSw; (try dsimp only at hSw); first | (go_simp; done) | (go_simp; with_reducible rfl))
        try simp only [Act.put, List.setIfInBounds_toArray, List.set_cons_zero, List.set_cons_succ]
        refine wpAnyH_ready (rs := [5]) (by kernel_rfl) (by simp) ?_
        refine AllReadyH.cons (o := { dst := some 119, op := Op.call { callee := Callee.value (Operand.func 10), args := #[Operand.tmp 118, Operand.const (Value.int IntKind.i64 4)], argTypes := #[3, 3] }, type := 3, pos := "law.go:303", after := #[{ on := 4, ground := Ground.data }], guard := none }) rfl (fun K hK => ?_) AllReadyH.nil
        go_simp
        refine (jpick_at _ _ 4 _ HAG.out (by omega) (by omega) rfl).mono ?_
        rintro e z ⟨rfl, rfl⟩
        rw [← HTG.out]
        dsimp only
        refine hK.out _ _ hHeld (fun hHeld => ?_)
        clear hK K
        try simp only [Act.put, List.setIfInBounds_toArray, List.set_cons_zero, List.set_cons_succ]
        refine wpAnyH_ready (rs := [6]) (by kernel_rfl) (by simp) ?_
        refine AllReadyH.cons (o := { dst := some 120, op := Op.call { callee := Callee.value (Operand.func 21), args := #[Operand.tmp 117, Operand.tmp 119], argTypes := #[42, 3] }, type := 0, pos := "law.go:303", after := #[{ on := 3, ground := Ground.data }, { on := 5, ground := Ground.data }, { on := 5, ground := Ground.chain }], guard := none }) rfl (fun K hK => ?_) AllReadyH.nil
        go_simp
        refine (lw_limit HZ1.out (Bel.refl _).drew tg HT4.out).mono ?_
        rintro e z2 ⟨⟨u, rfl⟩, h2, hk2⟩
        have HW2 := Lib.hid (ownG_block HW1.out (fun k hk => hk2 k (by simp [hk])))
        have HN2 := Lib.hid (ownG_block HN1.out (fun k hk => hk2 k (by simp [hk])))
        obtain ⟨s2, -, -, -, -, -⟩ := h2.cells
        have HZ2 := Lib.hid h2
        clear h2 hk2 s1
        dsimp only
        refine hK.out _ _ s2 (fun hHeld => ?_)
        clear hK K
        try simp only [Act.put, List.setIfInBounds_toArray, List.set_cons_zero, List.set_cons_succ]
        refine wpAnyH_done (by kernel_rfl) ?_ _
        go_wp2_with (fail)
        refine (tw_open HZ2.out.tw HS.out (Bel.refl _) logB 2000 (by decide) HRML.out HJO.out).mono ?_
        rintro e z3 ⟨jv, p5, c5, S, rfl, h5, hk5, hrow, hS, hj, hje⟩
        have H5 := Lib.hid h5
        have HRW := Lib.hid hrow
        have HW3 := Lib.hid (ownG_block HW2.out (fun k hk => hk5 k (by simp [hk])))
        have HN3 := Lib.hid (ownG_block HN2.out (fun k hk => hk5 k (by simp [hk])))
        have HL3 := Lib.hid (HZ2.out.to (M2 := M2) (M2' := M') (R' := (Value.slice wp Wl.length wc).ownBlock.toList ++ (Value.slice np Nl.length nc).ownBlock.toList) (h5.less (fun k hk => by rw [List.mem_append]; exact Or.inr hk)) (fun k hk => hk5 k hk))
        clear s2 hrow
        by_cases he1 : e1 = 0
        · subst he1
          obtain ⟨jb2, rfl, -, -⟩ := hj rfl
          clear hj hje h5 hk5 hS
          have HAN := Lib.hid (HEND.out.1 rfl)
          obtain ⟨wpz, wcz, hvw, hrw⟩ := lv_row HW3.out (fun s hs => (HPO.out s (by simp [hs])).1) H5.out.low
          simp only [Value.slice.injEq, true_and] at hvw
          obtain ⟨rfl, rfl⟩ := hvw
          obtain ⟨npz, ncz, hvn, hrn⟩ := lv_row HN3.out (fun s hs => (HPO.out s (by simp [hs])).1) H5.out.low
          simp only [Value.slice.injEq, true_and] at hvn
          obtain ⟨rfl, rfl⟩ := hvn
          have HCA := Lib.hid (show ∀ z, Bel z3 z → Calls Tryz.prog 14 #[.slice p5 A1.length c5, .slice wp Wl.length wc] z fun e y => e = .returned (.bool (decide (A1 = Wl.map (·.l)))) ∧ Bel z y from fun z hz => by
            have := jall_any z _ _ p5 wp c5 wc A1 (Wl.map (·.l)) (HRW.out.bel hz) (hrw.bel hz) HLE.out HWL.out HEA.out HWE.out
            rw [List.length_map] at this
            exact this)
          have HCB := Lib.hid (show ∀ z, Bel z3 z → Calls Tryz.prog 14 #[.slice p5 A1.length c5, .slice np Nl.length nc] z fun e y => e = .returned (.bool (decide (A1 = Nl.map (·.l)))) ∧ Bel z y from fun z hz => by
            have := jall_any z _ _ p5 np c5 nc A1 (Nl.map (·.l)) (HRW.out.bel hz) (hrn.bel hz) HLE.out HNL.out HEA.out HNE.out
            rw [List.length_map] at this
            exact this)
          clear hrw hrn
          by_cases hAW : A1 = Wl.map (·.l)
          · have HAW := Lib.hid hAW
            clear hAW
            go_wp2_with (fail)
            refine (HCA.out _ (Bel.refl _)).mono ?_
            rintro e z9 ⟨rfl, hb9⟩
            rw [decide_eq_true HAW.out]
            have HB9 := Lib.hid hb9
            clear hb9
            go_wp2_with (fail)
            go_ret
            exact ⟨rfl, H5.out.low.trans HB9.out⟩
          · have HAW := Lib.hid hAW
            have HAX := Lib.hid (show A1 = Nl.map (·.l) from (or_iff_right hAW).1 HAN.out)
            clear hAW
            go_wp2_with (fail)
            refine (HCA.out _ (Bel.refl _)).mono ?_
            rintro e z9 ⟨rfl, hb9⟩
            rw [decide_eq_false HAW.out]
            have HB9 := Lib.hid hb9
            clear hb9
            go_wp2_with (fail)
            refine (HCB.out _ HB9.out).mono ?_
            rintro e z10 ⟨rfl, hb10⟩
            rw [decide_eq_true HAX.out]
            have HB10 := Lib.hid (HB9.out.trans hb10)
            clear hb10
            go_wp2_with (fail)
            go_ret
            exact ⟨rfl, H5.out.low.trans HB10.out⟩
        · obtain rfl := hje he1
          have hx3 : (e1 != 0) = true := by rw [bne_iff_ne]; exact he1
          obtain ⟨hz0, hza⟩ := HEND.out.2 he1
          obtain ⟨A2, M3, hj2⟩ : ∃ A2 M3, jopen logB.data.toList (crashS sp.L lf.L M2) = (0, A2, M3) := by
            obtain ⟨ez, A2, M3, hz⟩ : ∃ e A M, jopen logB.data.toList (crashS sp.L lf.L M2) = (e, A, M) := ⟨_, _, _, rfl⟩
            rw [hz] at hz0
            obtain rfl : ez = 0 := hz0
            exact ⟨_, _, hz⟩
          rw [hj2] at hza
          have HAN := Lib.hid hza
          have HJO2 := Lib.hid hj2
          have hMc : (crashS sp.L lf.L M2).ok := crash_ok h5.good _ _
          have hlens := jopen_lens logB.data.toList hMc HRM2.out
          have heach := jopen_each logB.data.toList (crashS sp.L lf.L M2)
          rw [hj2] at hlens heach
          have HLE2 := Lib.hid (show A2.length ≤ 1000000000 by simp only at hlens; omega)
          have HEA2 := Lib.hid (show ∀ l ∈ A2, l.length ≤ 1000000 from fun l hl => Nat.le_trans (heach l hl) (by omega))
          obtain ⟨s3, -, -, -, -, -⟩ := HL3.out.cells
          clear hj hje h5 hk5 hS hz0 hza hj2 hMc hlens heach
          go_wp2_with (fail)
          refine (lw_crash HL3.out (Bel.refl _) sp lf HSP.out HLF.out).mono ?_
          rintro e z4 ⟨⟨u, rfl⟩, h1, hk1⟩
          have HW4 := Lib.hid (ownG_block HW3.out (fun k hk => hk1 k (by simp [hk])))
          have HN4 := Lib.hid (ownG_block HN3.out (fun k hk => hk1 k (by simp [hk])))
          obtain ⟨s4, -, -, -, -, -⟩ := h1.cells
          have HZ4 := Lib.hid h1
          clear h1 hk1 s3
          go_wp2_with (fail)
          refine (tw_open HZ4.out.tw HS.out (Bel.refl _) logB 2000 (by decide) HRM2.out HJO2.out).mono ?_
          rintro e z5 ⟨jv, p6, c6, S6, rfl, h6, hk6, hrow6, hS6, hj6, -⟩
          obtain ⟨jb2, rfl, -, -⟩ := hj6 rfl
          have H6 := Lib.hid h6
          have HRW6 := Lib.hid hrow6
          have HW5 := Lib.hid (ownG_block HW4.out (fun k hk => hk6 k (by simp [hk])))
          have HN5 := Lib.hid (ownG_block HN4.out (fun k hk => hk6 k (by simp [hk])))
          clear s4 hrow6 h6 hk6 hS6 hj6
          obtain ⟨wpz, wcz, hvw, hrw⟩ := lv_row HW5.out (fun s hs => (HPO.out s (by simp [hs])).1) H6.out.low
          simp only [Value.slice.injEq, true_and] at hvw
          obtain ⟨rfl, rfl⟩ := hvw
          obtain ⟨npz, ncz, hvn, hrn⟩ := lv_row HN5.out (fun s hs => (HPO.out s (by simp [hs])).1) H6.out.low
          simp only [Value.slice.injEq, true_and] at hvn
          obtain ⟨rfl, rfl⟩ := hvn
          have HCA := Lib.hid (show ∀ z, Bel z5 z → Calls Tryz.prog 14 #[.slice p6 A2.length c6, .slice wp Wl.length wc] z fun e y => e = .returned (.bool (decide (A2 = Wl.map (·.l)))) ∧ Bel z y from fun z hz => by
            have := jall_any z _ _ p6 wp c6 wc A2 (Wl.map (·.l)) (HRW6.out.bel hz) (hrw.bel hz) HLE2.out HWL.out HEA2.out HWE.out
            rw [List.length_map] at this
            exact this)
          have HCB := Lib.hid (show ∀ z, Bel z5 z → Calls Tryz.prog 14 #[.slice p6 A2.length c6, .slice np Nl.length nc] z fun e y => e = .returned (.bool (decide (A2 = Nl.map (·.l)))) ∧ Bel z y from fun z hz => by
            have := jall_any z _ _ p6 np c6 nc A2 (Nl.map (·.l)) (HRW6.out.bel hz) (hrn.bel hz) HLE2.out HNL.out HEA2.out HNE.out
            rw [List.length_map] at this
            exact this)
          clear hrw hrn
          by_cases hAW : A2 = Wl.map (·.l)
          · have HAW := Lib.hid hAW
            clear hAW
            go_wp2_with (fail)
            refine (HCA.out _ (Bel.refl _)).mono ?_
            rintro e z9 ⟨rfl, hb9⟩
            rw [decide_eq_true HAW.out]
            have HB9 := Lib.hid hb9
            clear hb9
            go_wp2_with (fail)
            go_ret
            exact ⟨rfl, H6.out.low.trans HB9.out⟩
          · have HAW := Lib.hid hAW
            have HAX := Lib.hid (show A2 = Nl.map (·.l) from (or_iff_right hAW).1 HAN.out)
            clear hAW
            go_wp2_with (fail)
            refine (HCA.out _ (Bel.refl _)).mono ?_
            rintro e z9 ⟨rfl, hb9⟩
            rw [decide_eq_false HAW.out]
            have HB9 := Lib.hid hb9
            clear hb9
            go_wp2_with (fail)
            refine (HCB.out _ HB9.out).mono ?_
            rintro e z10 ⟨rfl, hb10⟩
            rw [decide_eq_true HAX.out]
            have HB10 := Lib.hid (HB9.out.trans hb10)
            clear hb10
            go_wp2_with (fail)
            go_ret
            exact ⟨rfl, H6.out.low.trans HB10.out⟩
      | false =>
        have HGN := Lib.hid hgn
        clear hgn
        obtain ⟨a, rfl, hcl, hok⟩ := lv_at H.out hlt
        obtain ⟨y, hy⟩ : ∃ y, y = L[k] := ⟨_, rfl⟩
        rw [← hy] at hcl hok
        have HCL := Lib.hid hcl
        have HOK := Lib.hid hok
        have cl0 := hcl _ HX.out.low
        clear hy hcl hok
        cases hsm : jsmallB [⟨0, 0, y.p, y.cap, y.l, nilI, nilI⟩] with
        | false =>
          have HSM := Lib.hid hsm; clear hsm
          go_wp2_with (fail)
          refine (jsmall_any _ (some ⟨xd.heap.size, 0, none⟩) 1 [⟨0, 0, y.p, y.cap, y.l, nilI, nilI⟩] (lit_act xd y.p y.cap y.l (HOK.out.1.bel HX.out.low) HOK.out.2.1 HOK.out.2.2) (by unfold maxLen; simp)).mono ?_
          rintro e x1 ⟨rfl, hd1⟩
          rw [HSM.out]
          have HB1' := Lib.hid ((HX.out.low.alloc _).trans hd1.bel); clear hd1
          go_wp2_with (fail)
          go_ret
          exact ⟨rfl, HB1'.out⟩
        | true =>
          have HT6 := Lib.hid (show ∀ t ∈ y.l, t.length ≤ 1000000 from fun t ht => Nat.le_trans (strsB_le (by rw [small_one] at hsm; simp at hsm; exact hsm.2) t ht) (by omega))
          have HL6 := Lib.hid (show y.l.length ≤ 1000000 by rw [small_one] at hsm; simp at hsm; omega)
          have HSM := Lib.hid hsm; clear hsm
          go_wp2_with (fail)
          refine (jsmall_any _ (some ⟨xd.heap.size, 0, none⟩) 1 [⟨0, 0, y.p, y.cap, y.l, nilI, nilI⟩] (lit_act xd y.p y.cap y.l (HOK.out.1.bel HX.out.low) HOK.out.2.1 HOK.out.2.2) (by unfold maxLen; simp)).mono ?_
          rintro e x1 ⟨rfl, hd1⟩
          rw [HSM.out]
          have HBA := Lib.hid (((Bel.refl xd).alloc (.cells #[.int .i64 0, .int .i64 0, .slice y.p y.l.length y.cap, .slice none 0 0, .slice none 0 0] 37)).trans hd1.bel)
          have HX1 := Lib.hid (HX.out.bel HBA.out)
          have HW1 := Lib.hid (HWS.out.bel HBA.out)
          have HN1 := Lib.hid (HNS.out.bel HBA.out)
          clear hd1 cl0
          obtain ⟨-, s1, -, -, -, -⟩ := HX1.out.cells
          have cl := HCL.out _ HX1.out.low
          obtain ⟨ew, M2, hwr⟩ : ∃ ew M2, jwrite logB.data.toList 2000 y.l M = (ew, M2) := ⟨_, _, rfl⟩
          have HWR := Lib.hid hwr
          have hinv := kp_write (p := logB.data.toList) (most := 2000) HX1.out.tw.good (by have := HL1.out; omega) HGN.out HKP.out y.l hwr
          have hlast := doj_last (p := logB.data.toList) (most := 2000) (a := ⟨0, 0, y.p, y.cap, y.l, nilI, nilI⟩) HX1.out.tw.good HL0.out (by have := HL1.out; omega) (by rw [logB_list]; decide)
          have hroom := jwrite_room logB.data.toList 2000 y.l M
          rw [show doJ logB.data.toList 2000 ⟨0, 0, y.p, y.cap, y.l, nilI, nilI⟩ M = ((jwrite logB.data.toList 2000 y.l M).1, [], (jwrite logB.data.toList 2000 y.l M).2) from rfl] at hlast
          rw [hwr] at hlast hroom
          have HINV := Lib.hid hinv
          have HL0' := Lib.hid (show lastN logB.data.toList M2.L ≠ 0 from hlast.1)
          have HL1' := Lib.hid (show lastN logB.data.toList M2.L ≤ k + 1 + 1 by have h1 : lastN logB.data.toList M2.L ≤ lastN logB.data.toList M.L + 1 := hlast.2; have h2 := HL1.out; omega)
          have HRM' := Lib.hid (show M2.room ≤ 1000000 by rw [show M2.room = M.room from hroom]; exact HRM.out)
          clear hwr hinv hlast hroom
          go_wp2_with (fail)
          refine wp_region_held_drew (S := fun z => z.cell? ⟨ws, 1, none⟩ = some (.pointer (some ⟨jb, 0, none⟩)) ∧ z.cell? (a.add k) = some (.slice y.p y.l.length y.cap)) (by kernel_rfl) ⟨s1, cl⟩ (fun hHeld => ?_)
          refine tk (oi := { dst := some 79, op := Op.move (Operand.tmp 12), type := 25, pos := "law.go:293", after := #[], guard := none }) (v := ?_) 0 rfl ?_ ?_
          rotate_left
          · (intro w hSw; (try dsimp only at hSw); first | (go_simp; done) | (go_simp; with_reducible rfl))
          try simp only [Act.put, List.setIfInBounds_toArray, List.set_cons_zero, List.set_cons_succ]
          refine tk (oi := { dst := some 80, op := Op.nilCheck (Operand.tmp 79), type := 0, pos := "law.go:293", after := #[{ on := 0, ground := Ground.data }], guard := none }) (v := ?_) 1 rfl ?_ ?_
          rotate_left
          · (intro w hSw; (try dsimp only at hSw); first | (go_simp; done) | (go_simp; with_reducible rfl))
          try simp only [Act.put, List.setIfInBounds_toArray, List.set_cons_zero, List.set_cons_succ]
          refine tk (oi := { dst := some 81, op := Op.fieldAddr 58 (Operand.tmp 80) 1, type := 0, pos := "law.go:293", after := #[{ on := 1, ground := Ground.data }], guard := none }) (v := ?_) 2 rfl ?_ ?_
          rotate_left
          · (intro w hSw; (try dsimp only at hSw); first | (go_simp; done) | (go_simp; with_reducible rfl))
          try simp only [Act.put, List.setIfInBounds_toArray, List.set_cons_zero, List.set_cons_succ]
          refine tk (oi := { dst := some 82, op := Op.load 51 (Operand.tmp 81), type := 51, pos := "law.go:293", after := #[{ on := 2, ground := Ground.data }], guard := none }) (v := ?_) 3 rfl ?_ ?_
          rotate_left
          · (intro w hSw; (try dsimp only at hSw); first | (go_simp; done) | (go_simp; with_reducible rfl))
          try simp only [Act.put, List.setIfInBounds_toArray, List.set_cons_zero, List.set_cons_succ]
          refine tk (oi := { dst := some 83, op := Op.move (Operand.tmp 0), type := 30, pos := "law.go:293", after := #[], guard := none }) (v := ?_) 4 rfl ?_ ?_
          rotate_left
          · (intro w hSw; (try dsimp only at hSw); first | (go_simp; done) | (go_simp; with_reducible rfl))
          try simp only [Act.put, List.setIfInBounds_toArray, List.set_cons_zero, List.set_cons_succ]
          refine tk (oi := { dst := some 84, op := Op.move (Operand.tmp 17), type := 3, pos := "law.go:293", after := #[], guard := none }) (v := ?_) 5 rfl ?_ ?_
          rotate_left
          · (intro w hSw; (try dsimp only at hSw); first | (go_simp; done) | (go_simp; with_reducible rfl))
          try simp only [Act.put, List.setIfInBounds_toArray, List.set_cons_zero, List.set_cons_succ]
          refine tk (oi := { dst := some 85, op := Op.indexAddr 30 (Operand.tmp 83) (Operand.tmp 84), type := 0, pos := "law.go:293", after := #[{ on := 4, ground := Ground.data }, { on := 5, ground := Ground.data }], guard := none }) (v := ?_) 6 rfl ?_ ?_
          rotate_left
          · (intro w hSw; (try dsimp only at hSw); first | (go_simp; done) | (go_simp; with_reducible rfl))
          try simp only [Act.put, List.setIfInBounds_toArray, List.set_cons_zero, List.set_cons_succ]
          refine tk (oi := { dst := some 86, op := Op.load 34 (Operand.tmp 85), type := 34, pos := "law.go:293", after := #[{ on := 6, ground := Ground.data }], guard := none }) (v := ?_) 7 rfl ?_ ?_
          rotate_left
          · (intro w hSw; (try dsimp only at hSw); first | (go_simp; done) | (go_simp; with_reducible rfl))
          try simp only [Act.put, List.setIfInBounds_toArray, List.set_cons_zero, List.set_cons_succ]
          refine wpAnyH_ready (rs := [8]) (by kernel_rfl) (by simp) ?_
          refine AllReadyH.cons (o := { dst := some 87, op := Op.call { callee := Callee.value (Operand.func 23), args := #[Operand.tmp 82, Operand.tmp 86], argTypes := #[51, 34] }, type := 31, pos := "law.go:293", after := #[{ on := 3, ground := Ground.data }, { on := 7, ground := Ground.data }], guard := none }) rfl (fun K hK => ?_) AllReadyH.nil
          go_simp
          refine (lw_write HX1.out (Bel.refl _).drew (by decide) y.p y.cap y.l HL0.out (by have := HL1.out; omega) (show in64 2000 from ⟨by omega, by omega⟩) HOK.out.1 HOK.out.2.1 HT6.out).mono ?_
          rintro e xs ⟨rfl, h5, hk5⟩
          rw [HWR.out] at h5 ⊢
          have H5 := Lib.hid h5
          have HWS := Lib.hid (ownG_block HW1.out (fun k hk => hk5 k (by simp [hk])))
          have HNS := Lib.hid (ownG_block HN1.out (fun k hk => hk5 k (by simp [hk])))
          obtain ⟨-, t1, -, -, -, -⟩ := h5.cells
          have cl5 := HCL.out _ h5.low
          clear h5 hk5 s1 cl
          dsimp only
          refine hK.out _ _ ⟨t1, cl5⟩ (fun hHeld => ?_)
          clear hK K
          try simp only [Act.put, List.setIfInBounds_toArray, List.set_cons_zero, List.set_cons_succ]
          refine tk (oi := { dst := some 19, op := Op.assign (Operand.tmp 87), type := 31, pos := "law.go:293", after := #[{ on := 8, ground := Ground.data }, { on := 8, ground := Ground.chain }, { on := 0, ground := Ground.phase }, { on := 1, ground := Ground.phase }, { on := 2, ground := Ground.phase }, { on := 3, ground := Ground.phase }, { on := 4, ground := Ground.phase }, { on := 5, ground := Ground.phase }, { on := 6, ground := Ground.phase }, { on := 7, ground := Ground.phase }, { on := 8, ground := Ground.phase }], guard := none }) (v := ?_) 9 rfl ?_ ?_
          rotate_left
          · (intro w hSw; (try dsimp only at hSw); first | (go_simp; done) | (go_simp; with_reducible rfl))
          try simp only [Act.put, List.setIfInBounds_toArray, List.set_cons_zero, List.set_cons_succ]
          refine wpAnyH_done (by kernel_rfl) ?_ _
          clear t1 hHeld HW1 HN1 HBA HX
          go_wp2_with (fail)
          apply tail_cut7 (P := fun (_ _ : Nat) (_ : Option Addr) (_ : Nat) (p8 : Option Addr) (cap8 : Nat) (w8 : World) => OwnG lvEl xs.heap.size w8 (.slice p8 (Wl ++ [y]).length cap8) (Wl ++ [y]) ∧ Bel xs w8)
          · intro TAIL
            have HB0r := Lib.hid (Bel.refl xs)
            refine wp_region_held_drew (S := fun z => z.cell? (a.add k) = some (.slice y.p y.l.length y.cap)) (by kernel_rfl) cl5 (fun hHeld => ?_)
            refine tk (oi := { dst := some 89, op := Op.move (Operand.tmp 15), type := 30, pos := "law.go:294", after := #[], guard := none }) (v := ?_) 1 rfl ?_ ?_
            rotate_left
            · (intro w hSw; (try dsimp only at hSw); first | (go_simp; done) | (go_simp; with_reducible rfl))
            try simp only [Act.put, List.setIfInBounds_toArray, List.set_cons_zero, List.set_cons_succ]
            refine tk (oi := { dst := some 91, op := Op.move (Operand.tmp 0), type := 30, pos := "law.go:294", after := #[], guard := none }) (v := ?_) 3 rfl ?_ ?_
            rotate_left
            · (intro w hSw; (try dsimp only at hSw); first | (go_simp; done) | (go_simp; with_reducible rfl))
            try simp only [Act.put, List.setIfInBounds_toArray, List.set_cons_zero, List.set_cons_succ]
            refine tk (oi := { dst := some 92, op := Op.move (Operand.tmp 17), type := 3, pos := "law.go:294", after := #[], guard := none }) (v := ?_) 4 rfl ?_ ?_
            rotate_left
            · (intro w hSw; (try dsimp only at hSw); first | (go_simp; done) | (go_simp; with_reducible rfl))
            try simp only [Act.put, List.setIfInBounds_toArray, List.set_cons_zero, List.set_cons_succ]
            refine tk (oi := { dst := some 93, op := Op.indexAddr 30 (Operand.tmp 91) (Operand.tmp 92), type := 0, pos := "law.go:294", after := #[{ on := 3, ground := Ground.data }, { on := 4, ground := Ground.data }], guard := none }) (v := ?_) 5 rfl ?_ ?_
            rotate_left
            · (intro w hSw; (try dsimp only at hSw); first | (go_simp; done) | (go_simp; with_reducible rfl))
            try simp only [Act.put, List.setIfInBounds_toArray, List.set_cons_zero, List.set_cons_succ]
            refine tk (oi := { dst := some 94, op := Op.load 34 (Operand.tmp 93), type := 34, pos := "law.go:294", after := #[{ on := 5, ground := Ground.data }], guard := none }) (v := ?_) 6 rfl ?_ ?_
            rotate_left
            · (intro w hSw; (try dsimp only at hSw); first | (go_simp; done) | (go_simp; with_reducible rfl))
            try simp only [Act.put, List.setIfInBounds_toArray, List.set_cons_zero, List.set_cons_succ]
            refine wpAnyH_ready (rs := [0, 7]) (by kernel_rfl) (by simp) ?_
            refine (AllReadyH.cons (o := { dst := some 88, op := Op.buildSlice 30 0 #[], type := 30, pos := "law.go:294", after := #[], guard := none }) rfl (fun K hK => ?_) (AllReadyH.cons (o := { dst := some 95, op := Op.buildSlice 30 1 #[(0, Operand.tmp 94)], type := 30, pos := "law.go:294", after := #[{ on := 6, ground := Ground.data }], guard := none }) rfl (fun K hK => ?_) AllReadyH.nil))
            · go_simp
              have HLE := Lib.hid (show (xs.alloc (.cells #[] 34)).drew.heap[xs.heap.size]? = some (.cells #[] 34) from heap_alloc_new xs (.cells #[] 34))
              have HB1r := Lib.hid (HB0r.out.trans (show Bel xs (xs.alloc (.cells #[] 34)).drew from ((Bel.refl xs).alloc (.cells #[] 34)).drew))
              have hyYE : xs.heap.size ≤ xs.heap.size := HB0r.out.size
              refine hK.out _ _ (cell_later HB1r.out cl5) (fun hHeld => ?_)
              clear hK K
              try simp only [Act.put, List.setIfInBounds_toArray, List.set_cons_zero, List.set_cons_succ]
              obtain ⟨YE, hYEe⟩ : ∃ n, n = xs.heap.size := ⟨_, rfl⟩
              obtain ⟨x1r, hx1r⟩ : ∃ x, x = (xs.alloc (.cells #[] 34)).drew := ⟨_, rfl⟩
              rw [← hx1r, ← hYEe] at HLE
              rw [← hx1r] at HB1r
              rw [← hx1r]
              rw [← hYEe]
              have hqYE : xs.heap.size ≤ YE := by omega
              clear hYEe hyYE
              have HOE := Lib.hid (own_empty (E := lvEl) (n := xs.heap.size) HLE.out (by omega))
              clear hx1r
              refine wpAnyH_ready (rs := [2, 7]) (by kernel_rfl) (by simp) ?_
              refine (AllReadyH.cons (o := { dst := some 90, op := Op.call { callee := Callee.builtin Builtin.append, args := #[Operand.tmp 88, Operand.tmp 89], argTypes := #[30, 30] }, type := 30, pos := "law.go:294", after := #[{ on := 0, ground := Ground.data }, { on := 1, ground := Ground.data }], guard := none }) rfl (fun K hK => ?_) (AllReadyH.cons (o := { dst := some 95, op := Op.buildSlice 30 1 #[(0, Operand.tmp 94)], type := 30, pos := "law.go:294", after := #[{ on := 6, ground := Ground.data }], guard := none }) rfl (fun K hK => ?_) AllReadyH.nil))
              · refine step_append_seg lvOk rfl (.tmp 88) (.tmp 89) rfl rfl HOE.out Wl rfl (own_src lvOk (HWS.out.bel HB1r.out)) (by simp only [List.length_nil]; unfold maxLen; omega) (by simp only [List.length_nil]; omega) (HB1r.out.size) ?_
                intro v2 x2r ho2 hk2 hv2
                have HB2r := Lib.hid (show Bel xs x2r from HB1r.out.trans_below hv2)
                rw [List.nil_append] at ho2
                have HO2 := Lib.hid ho2
                obtain ⟨p2, cap2, rfl⟩ := ownG_len ho2
                clear ho2 hk2 hv2
                refine hK.out _ _ (cell_later HB2r.out cl5) (fun hHeld => ?_)
                clear hK K
                try simp only [Act.put, List.setIfInBounds_toArray, List.set_cons_zero, List.set_cons_succ]
                refine wpAnyH_ready (rs := [7]) (by kernel_rfl) (by simp) ?_
                refine AllReadyH.cons (o := { dst := some 95, op := Op.buildSlice 30 1 #[(0, Operand.tmp 94)], type := 30, pos := "law.go:294", after := #[{ on := 6, ground := Ground.data }], guard := none }) rfl (fun K hK => ?_) AllReadyH.nil
                go_simp
                have HLL := Lib.hid (show (x2r.alloc (.cells #[.slice y.p y.l.length y.cap] 34)).heap[x2r.heap.size]? = some (.cells #[.slice y.p y.l.length y.cap] 34) from heap_alloc_new x2r (.cells #[.slice y.p y.l.length y.cap] 34))
                have HB3r := Lib.hid (HB2r.out.trans (show Bel x2r (x2r.alloc (.cells #[.slice y.p y.l.length y.cap] 34)) from ((Bel.refl x2r).alloc (.cells #[.slice y.p y.l.length y.cap] 34))))
                have hyYL : xs.heap.size ≤ x2r.heap.size := HB2r.out.size
                have HO2 := Lib.hid (HO2.out.bel (show Bel x2r (x2r.alloc (.cells #[.slice y.p y.l.length y.cap] 34)) from (Bel.refl x2r).alloc (.cells #[.slice y.p y.l.length y.cap] 34)))
                refine hK.out _ _ (cell_later HB3r.out cl5) (fun hHeld => ?_)
                clear hK K
                try simp only [Act.put, List.setIfInBounds_toArray, List.set_cons_zero, List.set_cons_succ]
                obtain ⟨YL, hYLe⟩ : ∃ n, n = x2r.heap.size := ⟨_, rfl⟩
                obtain ⟨x3r, hx3r⟩ : ∃ x, x = (x2r.alloc (.cells #[.slice y.p y.l.length y.cap] 34)) := ⟨_, rfl⟩
                rw [← hx3r, ← hYLe] at HLL
                rw [← hx3r] at HB3r
                rw [← hx3r] at HO2
                rw [← hx3r]
                try rw [← hYLe]
                have hqYL : xs.heap.size ≤ YL := by omega
                clear hYLe hyYL
                clear hx3r
                refine wpAnyH_ready (rs := [8]) (by kernel_rfl) (by simp) ?_
                refine AllReadyH.cons (o := { dst := some 96, op := Op.call { callee := Callee.builtin Builtin.append, args := #[Operand.tmp 90, Operand.tmp 95], argTypes := #[30, 30] }, type := 30, pos := "law.go:294", after := #[{ on := 2, ground := Ground.data }, { on := 7, ground := Ground.data }, { on := 2, ground := Ground.chain }], guard := none }) rfl (fun K hK => ?_) AllReadyH.nil
                refine step_append_seg lvOk rfl (.tmp 90) (.tmp 95) rfl rfl HO2.out [y] rfl (src_lit HLL.out rfl) (by simp only [List.length_singleton]; unfold maxLen; omega) (by simp only [List.length_singleton]; omega) (HB3r.out.size) ?_
                intro v8 w8 ho8 hk8 hv8
                have HBW := Lib.hid (show Bel xs w8 from HB3r.out.trans_below hv8)
                have HO8 := Lib.hid ho8
                obtain ⟨p8, cap8, rfl⟩ := ownG_len ho8
                clear ho8 hk8 hv8
                refine hK.out _ _ (cell_later HBW.out cl5) (fun hHeld => ?_)
                clear hK K
                try simp only [Act.put, List.setIfInBounds_toArray, List.set_cons_zero, List.set_cons_succ]
                refine tk (oi := { dst := some 16, op := Op.assign (Operand.tmp 96), type := 30, pos := "law.go:294", after := #[{ on := 8, ground := Ground.data }, { on := 8, ground := Ground.chain }, { on := 0, ground := Ground.phase }, { on := 1, ground := Ground.phase }, { on := 2, ground := Ground.phase }, { on := 3, ground := Ground.phase }, { on := 4, ground := Ground.phase }, { on := 5, ground := Ground.phase }, { on := 6, ground := Ground.phase }, { on := 7, ground := Ground.phase }, { on := 8, ground := Ground.phase }], guard := none }) (v := ?_) 9 rfl ?_ ?_
                rotate_left
                · (intro w hSw; (try dsimp only at hSw); first | (go_simp; done) | (go_simp; with_reducible rfl))
                try simp only [Act.put, List.setIfInBounds_toArray, List.set_cons_zero, List.set_cons_succ]
                refine wpAnyH_done (by kernel_rfl) ?_ _
                exact TAIL YE YL p2 cap2 p8 cap8 w8 ⟨HO8.out, HBW.out⟩
              · go_simp
                have HLL := Lib.hid (show (x1r.alloc (.cells #[.slice y.p y.l.length y.cap] 34)).heap[x1r.heap.size]? = some (.cells #[.slice y.p y.l.length y.cap] 34) from heap_alloc_new x1r (.cells #[.slice y.p y.l.length y.cap] 34))
                have HB2r := Lib.hid (HB1r.out.trans (show Bel x1r (x1r.alloc (.cells #[.slice y.p y.l.length y.cap] 34)) from ((Bel.refl x1r).alloc (.cells #[.slice y.p y.l.length y.cap] 34))))
                have hyYL : xs.heap.size ≤ x1r.heap.size := HB1r.out.size
                have HOE := Lib.hid (HOE.out.bel (show Bel x1r (x1r.alloc (.cells #[.slice y.p y.l.length y.cap] 34)) from (Bel.refl x1r).alloc (.cells #[.slice y.p y.l.length y.cap] 34)))
                have hltE : YE < x1r.heap.size := (Array.getElem?_eq_some_iff.1 HLE.out).1
                refine hK.out _ _ (cell_later HB2r.out cl5) (fun hHeld => ?_)
                clear hK K
                try simp only [Act.put, List.setIfInBounds_toArray, List.set_cons_zero, List.set_cons_succ]
                obtain ⟨YL, hYLe⟩ : ∃ n, n = x1r.heap.size := ⟨_, rfl⟩
                obtain ⟨x2r, hx2r⟩ : ∃ x, x = (x1r.alloc (.cells #[.slice y.p y.l.length y.cap] 34)) := ⟨_, rfl⟩
                rw [← hx2r, ← hYLe] at HLL
                rw [← hx2r] at HB2r
                rw [← hx2r] at HOE
                rw [← hx2r]
                try rw [← hYLe]
                have hqYL : xs.heap.size ≤ YL := by omega
                have hne : YE ≠ YL := by omega
                clear hYLe hyYL hltE
                clear hx2r
                refine wpAnyH_ready (rs := [2]) (by kernel_rfl) (by simp) ?_
                refine AllReadyH.cons (o := { dst := some 90, op := Op.call { callee := Callee.builtin Builtin.append, args := #[Operand.tmp 88, Operand.tmp 89], argTypes := #[30, 30] }, type := 30, pos := "law.go:294", after := #[{ on := 0, ground := Ground.data }, { on := 1, ground := Ground.data }], guard := none }) rfl (fun K hK => ?_) AllReadyH.nil
                refine step_append_seg lvOk rfl (.tmp 88) (.tmp 89) rfl rfl HOE.out Wl rfl (own_src lvOk (HWS.out.bel HB2r.out)) (by simp only [List.length_nil]; unfold maxLen; omega) (by simp only [List.length_nil]; omega) (HB2r.out.size) ?_
                intro v2 x3r ho2 hk2 hv2
                have HB3r := Lib.hid (show Bel xs x3r from HB2r.out.trans_below hv2)
                rw [List.nil_append] at ho2
                have HO2 := Lib.hid ho2
                obtain ⟨p2, cap2, rfl⟩ := ownG_len ho2
                replace HLL := Lib.hid (at_grown hk2 HLL.out (fun e => by have e' : some YL = some YE := e; rw [Option.some.injEq] at e'; exact hne e'.symm))
                clear ho2 hk2 hv2
                refine hK.out _ _ (cell_later HB3r.out cl5) (fun hHeld => ?_)
                clear hK K
                try simp only [Act.put, List.setIfInBounds_toArray, List.set_cons_zero, List.set_cons_succ]
                refine wpAnyH_ready (rs := [8]) (by kernel_rfl) (by simp) ?_
                refine AllReadyH.cons (o := { dst := some 96, op := Op.call { callee := Callee.builtin Builtin.append, args := #[Operand.tmp 90, Operand.tmp 95], argTypes := #[30, 30] }, type := 30, pos := "law.go:294", after := #[{ on := 2, ground := Ground.data }, { on := 7, ground := Ground.data }, { on := 2, ground := Ground.chain }], guard := none }) rfl (fun K hK => ?_) AllReadyH.nil
                refine step_append_seg lvOk rfl (.tmp 90) (.tmp 95) rfl rfl HO2.out [y] rfl (src_lit HLL.out rfl) (by simp only [List.length_singleton]; unfold maxLen; omega) (by simp only [List.length_singleton]; omega) (HB3r.out.size) ?_
                intro v8 w8 ho8 hk8 hv8
                have HBW := Lib.hid (show Bel xs w8 from HB3r.out.trans_below hv8)
                have HO8 := Lib.hid ho8
                obtain ⟨p8, cap8, rfl⟩ := ownG_len ho8
                clear ho8 hk8 hv8
                refine hK.out _ _ (cell_later HBW.out cl5) (fun hHeld => ?_)
                clear hK K
                try simp only [Act.put, List.setIfInBounds_toArray, List.set_cons_zero, List.set_cons_succ]
                refine tk (oi := { dst := some 16, op := Op.assign (Operand.tmp 96), type := 30, pos := "law.go:294", after := #[{ on := 8, ground := Ground.data }, { on := 8, ground := Ground.chain }, { on := 0, ground := Ground.phase }, { on := 1, ground := Ground.phase }, { on := 2, ground := Ground.phase }, { on := 3, ground := Ground.phase }, { on := 4, ground := Ground.phase }, { on := 5, ground := Ground.phase }, { on := 6, ground := Ground.phase }, { on := 7, ground := Ground.phase }, { on := 8, ground := Ground.phase }], guard := none }) (v := ?_) 9 rfl ?_ ?_
                rotate_left
                · (intro w hSw; (try dsimp only at hSw); first | (go_simp; done) | (go_simp; with_reducible rfl))
                try simp only [Act.put, List.setIfInBounds_toArray, List.set_cons_zero, List.set_cons_succ]
                refine wpAnyH_done (by kernel_rfl) ?_ _
                exact TAIL YE YL p2 cap2 p8 cap8 w8 ⟨HO8.out, HBW.out⟩
            · go_simp
              have HLL := Lib.hid (show (xs.alloc (.cells #[.slice y.p y.l.length y.cap] 34)).drew.heap[xs.heap.size]? = some (.cells #[.slice y.p y.l.length y.cap] 34) from heap_alloc_new xs (.cells #[.slice y.p y.l.length y.cap] 34))
              have HB1r := Lib.hid (HB0r.out.trans (show Bel xs (xs.alloc (.cells #[.slice y.p y.l.length y.cap] 34)).drew from ((Bel.refl xs).alloc (.cells #[.slice y.p y.l.length y.cap] 34)).drew))
              have hyYL : xs.heap.size ≤ xs.heap.size := HB0r.out.size
              refine hK.out _ _ (cell_later HB1r.out cl5) (fun hHeld => ?_)
              clear hK K
              try simp only [Act.put, List.setIfInBounds_toArray, List.set_cons_zero, List.set_cons_succ]
              obtain ⟨YL, hYLe⟩ : ∃ n, n = xs.heap.size := ⟨_, rfl⟩
              obtain ⟨x1r, hx1r⟩ : ∃ x, x = (xs.alloc (.cells #[.slice y.p y.l.length y.cap] 34)).drew := ⟨_, rfl⟩
              rw [← hx1r, ← hYLe] at HLL
              rw [← hx1r] at HB1r
              rw [← hx1r]
              rw [← hYLe]
              have hqYL : xs.heap.size ≤ YL := by omega
              clear hYLe hyYL
              clear hx1r
              refine wpAnyH_ready (rs := [0]) (by kernel_rfl) (by simp) ?_
              refine AllReadyH.cons (o := { dst := some 88, op := Op.buildSlice 30 0 #[], type := 30, pos := "law.go:294", after := #[], guard := none }) rfl (fun K hK => ?_) AllReadyH.nil
              go_simp
              have HLE := Lib.hid (show (x1r.alloc (.cells #[] 34)).heap[x1r.heap.size]? = some (.cells #[] 34) from heap_alloc_new x1r (.cells #[] 34))
              have HB2r := Lib.hid (HB1r.out.trans (show Bel x1r (x1r.alloc (.cells #[] 34)) from ((Bel.refl x1r).alloc (.cells #[] 34))))
              have hyYE : xs.heap.size ≤ x1r.heap.size := HB1r.out.size
              have hltL : YL < x1r.heap.size := (Array.getElem?_eq_some_iff.1 HLL.out).1
              replace HLL := Lib.hid ((Below.block (show Bel x1r (x1r.alloc (.cells #[] 34)) from (Bel.refl x1r).alloc (.cells #[] 34)) YL (Array.getElem?_eq_some_iff.1 HLL.out).1).trans HLL.out)
              refine hK.out _ _ (cell_later HB2r.out cl5) (fun hHeld => ?_)
              clear hK K
              try simp only [Act.put, List.setIfInBounds_toArray, List.set_cons_zero, List.set_cons_succ]
              obtain ⟨YE, hYEe⟩ : ∃ n, n = x1r.heap.size := ⟨_, rfl⟩
              obtain ⟨x2r, hx2r⟩ : ∃ x, x = (x1r.alloc (.cells #[] 34)) := ⟨_, rfl⟩
              rw [← hx2r, ← hYEe] at HLE
              rw [← hx2r] at HB2r
              rw [← hx2r] at HLL
              rw [← hx2r]
              try rw [← hYEe]
              have hqYE : xs.heap.size ≤ YE := by omega
              have hne : YE ≠ YL := by omega
              clear hYEe hyYE hltL
              have HOE := Lib.hid (own_empty (E := lvEl) (n := xs.heap.size) HLE.out (by omega))
              clear hx2r
              refine wpAnyH_ready (rs := [2]) (by kernel_rfl) (by simp) ?_
              refine AllReadyH.cons (o := { dst := some 90, op := Op.call { callee := Callee.builtin Builtin.append, args := #[Operand.tmp 88, Operand.tmp 89], argTypes := #[30, 30] }, type := 30, pos := "law.go:294", after := #[{ on := 0, ground := Ground.data }, { on := 1, ground := Ground.data }], guard := none }) rfl (fun K hK => ?_) AllReadyH.nil
              refine step_append_seg lvOk rfl (.tmp 88) (.tmp 89) rfl rfl HOE.out Wl rfl (own_src lvOk (HWS.out.bel HB2r.out)) (by simp only [List.length_nil]; unfold maxLen; omega) (by simp only [List.length_nil]; omega) (HB2r.out.size) ?_
              intro v2 x3r ho2 hk2 hv2
              have HB3r := Lib.hid (show Bel xs x3r from HB2r.out.trans_below hv2)
              rw [List.nil_append] at ho2
              have HO2 := Lib.hid ho2
              obtain ⟨p2, cap2, rfl⟩ := ownG_len ho2
              replace HLL := Lib.hid (at_grown hk2 HLL.out (fun e => by have e' : some YL = some YE := e; rw [Option.some.injEq] at e'; exact hne e'.symm))
              clear ho2 hk2 hv2
              refine hK.out _ _ (cell_later HB3r.out cl5) (fun hHeld => ?_)
              clear hK K
              try simp only [Act.put, List.setIfInBounds_toArray, List.set_cons_zero, List.set_cons_succ]
              refine wpAnyH_ready (rs := [8]) (by kernel_rfl) (by simp) ?_
              refine AllReadyH.cons (o := { dst := some 96, op := Op.call { callee := Callee.builtin Builtin.append, args := #[Operand.tmp 90, Operand.tmp 95], argTypes := #[30, 30] }, type := 30, pos := "law.go:294", after := #[{ on := 2, ground := Ground.data }, { on := 7, ground := Ground.data }, { on := 2, ground := Ground.chain }], guard := none }) rfl (fun K hK => ?_) AllReadyH.nil
              refine step_append_seg lvOk rfl (.tmp 90) (.tmp 95) rfl rfl HO2.out [y] rfl (src_lit HLL.out rfl) (by simp only [List.length_singleton]; unfold maxLen; omega) (by simp only [List.length_singleton]; omega) (HB3r.out.size) ?_
              intro v8 w8 ho8 hk8 hv8
              have HBW := Lib.hid (show Bel xs w8 from HB3r.out.trans_below hv8)
              have HO8 := Lib.hid ho8
              obtain ⟨p8, cap8, rfl⟩ := ownG_len ho8
              clear ho8 hk8 hv8
              refine hK.out _ _ (cell_later HBW.out cl5) (fun hHeld => ?_)
              clear hK K
              try simp only [Act.put, List.setIfInBounds_toArray, List.set_cons_zero, List.set_cons_succ]
              refine tk (oi := { dst := some 16, op := Op.assign (Operand.tmp 96), type := 30, pos := "law.go:294", after := #[{ on := 8, ground := Ground.data }, { on := 8, ground := Ground.chain }, { on := 0, ground := Ground.phase }, { on := 1, ground := Ground.phase }, { on := 2, ground := Ground.phase }, { on := 3, ground := Ground.phase }, { on := 4, ground := Ground.phase }, { on := 5, ground := Ground.phase }, { on := 6, ground := Ground.phase }, { on := 7, ground := Ground.phase }, { on := 8, ground := Ground.phase }], guard := none }) (v := ?_) 9 rfl ?_ ?_
              rotate_left
              · (intro w hSw; (try dsimp only at hSw); first | (go_simp; done) | (go_simp; with_reducible rfl))
              try simp only [Act.put, List.setIfInBounds_toArray, List.set_cons_zero, List.set_cons_succ]
              refine wpAnyH_done (by kernel_rfl) ?_ _
              exact TAIL YE YL p2 cap2 p8 cap8 w8 ⟨HO8.out, HBW.out⟩
          · rintro YE YL p2 cap2 p8 cap8 w8 ⟨ho8, hb8⟩
            rw [List.length_append, List.length_singleton] at ho8
            have HO8 := Lib.hid (ho8.low (Nat.zero_le _))
            have HB8 := Lib.hid hb8
            have HX8 := Lib.hid (H5.out.grow hb8 (S := (Value.slice p8 (Wl.length + 1) cap8).ownBlock.toList) (fun k hk => by rw [Option.mem_toList] at hk; exact ho8.lt k hk))
            have HW8 := Lib.hid (HWS.out.bel hb8)
            have HN8 := Lib.hid (HNS.out.bel hb8)
            have hlen8 : (Wl ++ [y]).length = Wl.length + 1 := by simp
            have HPW := Lib.hid (show ∀ s ∈ Wl ++ [y], LV.ok w s ∧ s.l.length ≤ 1000000 from fun s hs => by
              rcases List.mem_append.1 hs with hs | hs
              · exact HPO.out s (by simp [hs])
              · rw [List.mem_singleton] at hs; subst hs; exact ⟨HOK.out, HL6.out⟩)
            clear ho8 hb8 cl5
            by_cases hew : ew = 0
            · subst hew
              have HI := Lib.hid (show KpInv logB.data.toList M2 ((Wl ++ [y]).map (·.l)) ((Wl ++ [y]).map (·.l)) by have := HINV.out; rw [if_pos rfl, if_pos (Or.inl rfl)] at this; simpa using this)
              go_wp2_with (fail)
              go_roundw
              case rel => exact ⟨k + 1, M2, Wl ++ [y], Wl ++ [y], by go_num, by omega, HX8.out.less (fun k hk => by simp only [List.mem_append] at hk ⊢; rcases hk with hk | hk <;> exact Or.inl hk), HI.out, HL0'.out, HL1'.out, HRM'.out, HO8.out, HO8.out, by omega, by omega, fun s hs => by
                rcases List.mem_append.1 hs with hs | hs <;> exact HPW.out s hs⟩
              case measure => simp [intOf]; omega
            · have hx3 : (ew != 0) = true := by rw [bne_iff_ne]; exact hew
              have hx2 : (ew == 0) = false := by rw [beq_eq_false_iff_ne]; exact hew
              by_cases he7 : ew = 7
              · subst he7
                have HI := Lib.hid (show KpInv logB.data.toList M2 (Wl.map (·.l)) ((Wl ++ [y]).map (·.l)) by have := HINV.out; rw [if_neg (by omega), if_pos (Or.inr rfl)] at this; simpa using this)
                go_wp2_with (fail)
                go_roundw
                case rel => exact ⟨k + 1, M2, Wl, Wl ++ [y], by go_num, by omega, HX8.out.less (fun k hk => by simp only [List.mem_append] at hk ⊢; rcases hk with hk | hk; exact Or.inr (Or.inl hk); exact Or.inl hk), HI.out, HL0'.out, HL1'.out, HRM'.out, HW8.out, HO8.out, by omega, by omega, fun s hs => by
                  rcases List.mem_append.1 hs with hs | hs
                  · exact HPO.out s (by simp [hs])
                  · exact HPW.out s hs⟩
                case measure => simp [intOf]; omega
              · have hx7 : (ew != 7) = true := by rw [bne_iff_ne]; exact he7
                have HI := Lib.hid (show KpInv logB.data.toList M2 (Wl.map (·.l)) (Wl.map (·.l)) by have := HINV.out; rw [if_neg hew, if_neg (by omega)] at this; exact this)
                go_wp2_with (fail)
                go_roundw
                case rel => exact ⟨k + 1, M2, Wl, Wl, by go_num, by omega, HX8.out.less (fun k hk => by simp only [List.mem_append] at hk ⊢; rcases hk with hk | hk <;> exact Or.inr (Or.inl hk)), HI.out, HL0'.out, HL1'.out, HRM'.out, HW8.out, HW8.out, by omega, by omega, fun s hs => by
                  rcases List.mem_append.1 hs with hs | hs <;> exact HPO.out s (by simp [hs])⟩
                case measure => simp [intOf]; omega
    · obtain rfl : k = L.length := by omega
      have HX := HX0
      have HWS := HWS0
      have HNS := HNS0
      clear HX0 HWS0 HNS0 s0
      obtain ⟨tg, htg⟩ : ∃ tg, tg = ((pickN again 4 : Nat) : Int) := ⟨_, rfl⟩
      have HTG := Lib.hid htg
      have HT4 := Lib.hid (show in64 tg by rw [htg]; exact jpick_ok again 4 w HAG.out (by omega) (by omega))
      obtain ⟨e1, A1, M2, hjo⟩ : ∃ e1 A1 M2, jopen logB.data.toList (limS tg (crashS lf.L sp.L M)) = (e1, A1, M2) := ⟨_, _, _, rfl⟩
      have HJO := Lib.hid hjo
      have hend := kp_end (p := logB.data.toList) HX.out.tw.good (by rw [logB_list]; decide) HKP.out lf.L sp.L sp.L lf.L tg HT4.out hjo
      have HEND := Lib.hid hend
      have hMl : (limS tg (crashS lf.L sp.L M)).ok := lim_ok (crash_ok HX.out.tw.good _ _) _ HT4.out
      have hrml : (limS tg (crashS lf.L sp.L M)).room ≤ 1000000 := HRM.out
      have HRML := Lib.hid hrml
      have hlens := jopen_lens logB.data.toList hMl hrml
      have heach := jopen_each logB.data.toList (limS tg (crashS lf.L sp.L M))
      have hroom := jopen_room logB.data.toList (limS tg (crashS lf.L sp.L M))
      rw [hjo] at hlens heach hroom
      have HLE := Lib.hid (show A1.length ≤ 1000000000 by simp only at hlens; omega)
      have HEA := Lib.hid (show ∀ l ∈ A1, l.length ≤ 1000000 from fun l hl => Nat.le_trans (heach l hl) (by omega))
      have HRM2 := Lib.hid (show M2.room ≤ 1000000 by rw [show M2.room = (limS tg (crashS lf.L sp.L M)).room from hroom]; exact hrml)
      have HWL := Lib.hid (show (Wl.map (·.l)).length ≤ 1000000000 by rw [List.length_map]; omega)
      have HNL := Lib.hid (show (Nl.map (·.l)).length ≤ 1000000000 by rw [List.length_map]; omega)
      have HWE := Lib.hid (show ∀ l ∈ Wl.map (·.l), l.length ≤ 1000000 from fun l hl => by rw [List.mem_map] at hl; obtain ⟨s, hs, rfl⟩ := hl; exact (HPO.out s (by simp [hs])).2)
      have HNE := Lib.hid (show ∀ l ∈ Nl.map (·.l), l.length ≤ 1000000 from fun l hl => by rw [List.mem_map] at hl; obtain ⟨s, hs, rfl⟩ := hl; exact (HPO.out s (by simp [hs])).2)
      obtain ⟨s0, -, -, -, -, -⟩ := HX.out.cells
      clear htg hjo hend hMl hrml hlens heach hroom
      go_wp2_with (fail)
      refine (lw_crash HX.out (Bel.refl _) lf sp HLF.out HSP.out).mono ?_
      rintro e z1 ⟨⟨u, rfl⟩, h1, hk1⟩
      have HW1 := Lib.hid (ownG_block HWS.out (fun k hk => hk1 k (by simp [hk])))
      have HN1 := Lib.hid (ownG_block HNS.out (fun k hk => hk1 k (by simp [hk])))
      obtain ⟨s1, -, -, -, -, -⟩ := h1.cells
      have HZ1 := Lib.hid h1
      clear h1 hk1 s0
      go_wp2_with (fail)
      refine wp_region_held_drew (S := fun z => z.cell? ⟨ws, 0, none⟩ = some (.pointer (some ⟨b, 0, none⟩))) (by kernel_rfl) s1 (fun hHeld => ?_)
      refine tk (oi := { dst := some 114, op := Op.move (Operand.tmp 12), type := 25, pos := "law.go:303", after := #[], guard := none }) (v := ?_) 0 rfl ?_ ?_
      rotate_left
      · (intro w hSw; (try dsimp only at hSw); first | (go_simp; done) | (go_simp; with_reducible rfl))
      try simp only [Act.put, List.setIfInBounds_toArray, List.set_cons_zero, List.set_cons_succ]
      refine tk (oi := { dst := some 115, op := Op.nilCheck (Operand.tmp 114), type := 0, pos := "law.go:303", after := #[{ on := 0, ground := Ground.data }], guard := none }) (v := ?_) 1 rfl ?_ ?_
      rotate_left
      · (intro w hSw; (try dsimp only at hSw); first | (go_simp; done) | (go_simp; with_reducible rfl))
      try simp only [Act.put, List.setIfInBounds_toArray, List.set_cons_zero, List.set_cons_succ]
      refine tk (oi := { dst := some 116, op := Op.fieldAddr 58 (Operand.tmp 115) 0, type := 0, pos := "law.go:303", after := #[{ on := 1, ground := Ground.data }], guard := none }) (v := ?_) 2 rfl ?_ ?_
      rotate_left
      · (intro w hSw; (try dsimp only at hSw); first | (go_simp; done) | (go_simp; with_reducible rfl))
      try simp only [Act.put, List.setIfInBounds_toArray, List.set_cons_zero, List.set_cons_succ]
      refine tk (oi := { dst := some 117, op := Op.load 42 (Operand.tmp 116), type := 42, pos := "law.go:303", after := #[{ on := 2, ground := Ground.data }], guard := none }) (v := ?_) 3 rfl ?_ ?_
      rotate_left
      · (intro w hSw; (try dsimp only at hSw); first | (go_simp; done) | (go_simp; with_reducible rfl))
      try simp only [Act.put, List.setIfInBounds_toArray, List.set_cons_zero, List.set_cons_succ]
      refine tk (oi := { dst := some 118, op := Op.move (Operand.tmp 4), type := 3, pos := "law.go:303", after := #[], guard := none }) (v := ?_) 4 rfl ?_ ?_
      rotate_left
      · (intro w hSw; (try dsimp only at hSw); first | (go_simp; done) | (go_simp; with_reducible rfl))
      try simp only [Act.put, List.setIfInBounds_toArray, List.set_cons_zero, List.set_cons_succ]
      refine wpAnyH_ready (rs := [5]) (by kernel_rfl) (by simp) ?_
      refine AllReadyH.cons (o := { dst := some 119, op := Op.call { callee := Callee.value (Operand.func 10), args := #[Operand.tmp 118, Operand.const (Value.int IntKind.i64 4)], argTypes := #[3, 3] }, type := 3, pos := "law.go:303", after := #[{ on := 4, ground := Ground.data }], guard := none }) rfl (fun K hK => ?_) AllReadyH.nil
      go_simp
      refine (jpick_at _ _ 4 _ HAG.out (by omega) (by omega) rfl).mono ?_
      rintro e z ⟨rfl, rfl⟩
      rw [← HTG.out]
      dsimp only
      refine hK.out _ _ hHeld (fun hHeld => ?_)
      clear hK K
      try simp only [Act.put, List.setIfInBounds_toArray, List.set_cons_zero, List.set_cons_succ]
      refine wpAnyH_ready (rs := [6]) (by kernel_rfl) (by simp) ?_
      refine AllReadyH.cons (o := { dst := some 120, op := Op.call { callee := Callee.value (Operand.func 21), args := #[Operand.tmp 117, Operand.tmp 119], argTypes := #[42, 3] }, type := 0, pos := "law.go:303", after := #[{ on := 3, ground := Ground.data }, { on := 5, ground := Ground.data }, { on := 5, ground := Ground.chain }], guard := none }) rfl (fun K hK => ?_) AllReadyH.nil
      go_simp
      refine (lw_limit HZ1.out (Bel.refl _).drew tg HT4.out).mono ?_
      rintro e z2 ⟨⟨u, rfl⟩, h2, hk2⟩
      have HW2 := Lib.hid (ownG_block HW1.out (fun k hk => hk2 k (by simp [hk])))
      have HN2 := Lib.hid (ownG_block HN1.out (fun k hk => hk2 k (by simp [hk])))
      obtain ⟨s2, -, -, -, -, -⟩ := h2.cells
      have HZ2 := Lib.hid h2
      clear h2 hk2 s1
      dsimp only
      refine hK.out _ _ s2 (fun hHeld => ?_)
      clear hK K
      try simp only [Act.put, List.setIfInBounds_toArray, List.set_cons_zero, List.set_cons_succ]
      refine wpAnyH_done (by kernel_rfl) ?_ _
      go_wp2_with (fail)
      refine (tw_open HZ2.out.tw HS.out (Bel.refl _) logB 2000 (by decide) HRML.out HJO.out).mono ?_
      rintro e z3 ⟨jv, p5, c5, S, rfl, h5, hk5, hrow, hS, hj, hje⟩
      have H5 := Lib.hid h5
      have HRW := Lib.hid hrow
      have HW3 := Lib.hid (ownG_block HW2.out (fun k hk => hk5 k (by simp [hk])))
      have HN3 := Lib.hid (ownG_block HN2.out (fun k hk => hk5 k (by simp [hk])))
      have HL3 := Lib.hid (HZ2.out.to (M2 := M2) (M2' := M') (R' := (Value.slice wp Wl.length wc).ownBlock.toList ++ (Value.slice np Nl.length nc).ownBlock.toList) (h5.less (fun k hk => by rw [List.mem_append]; exact Or.inr hk)) (fun k hk => hk5 k hk))
      clear s2 hrow
      by_cases he1 : e1 = 0
      · subst he1
        obtain ⟨jb2, rfl, -, -⟩ := hj rfl
        clear hj hje h5 hk5 hS
        have HAN := Lib.hid (HEND.out.1 rfl)
        obtain ⟨wpz, wcz, hvw, hrw⟩ := lv_row HW3.out (fun s hs => (HPO.out s (by simp [hs])).1) H5.out.low
        simp only [Value.slice.injEq, true_and] at hvw
        obtain ⟨rfl, rfl⟩ := hvw
        obtain ⟨npz, ncz, hvn, hrn⟩ := lv_row HN3.out (fun s hs => (HPO.out s (by simp [hs])).1) H5.out.low
        simp only [Value.slice.injEq, true_and] at hvn
        obtain ⟨rfl, rfl⟩ := hvn
        have HCA := Lib.hid (show ∀ z, Bel z3 z → Calls Tryz.prog 14 #[.slice p5 A1.length c5, .slice wp Wl.length wc] z fun e y => e = .returned (.bool (decide (A1 = Wl.map (·.l)))) ∧ Bel z y from fun z hz => by
          have := jall_any z _ _ p5 wp c5 wc A1 (Wl.map (·.l)) (HRW.out.bel hz) (hrw.bel hz) HLE.out HWL.out HEA.out HWE.out
          rw [List.length_map] at this
          exact this)
        have HCB := Lib.hid (show ∀ z, Bel z3 z → Calls Tryz.prog 14 #[.slice p5 A1.length c5, .slice np Nl.length nc] z fun e y => e = .returned (.bool (decide (A1 = Nl.map (·.l)))) ∧ Bel z y from fun z hz => by
          have := jall_any z _ _ p5 np c5 nc A1 (Nl.map (·.l)) (HRW.out.bel hz) (hrn.bel hz) HLE.out HNL.out HEA.out HNE.out
          rw [List.length_map] at this
          exact this)
        clear hrw hrn
        by_cases hAW : A1 = Wl.map (·.l)
        · have HAW := Lib.hid hAW
          clear hAW
          go_wp2_with (fail)
          refine (HCA.out _ (Bel.refl _)).mono ?_
          rintro e z9 ⟨rfl, hb9⟩
          rw [decide_eq_true HAW.out]
          have HB9 := Lib.hid hb9
          clear hb9
          go_wp2_with (fail)
          go_ret
          exact ⟨rfl, H5.out.low.trans HB9.out⟩
        · have HAW := Lib.hid hAW
          have HAX := Lib.hid (show A1 = Nl.map (·.l) from (or_iff_right hAW).1 HAN.out)
          clear hAW
          go_wp2_with (fail)
          refine (HCA.out _ (Bel.refl _)).mono ?_
          rintro e z9 ⟨rfl, hb9⟩
          rw [decide_eq_false HAW.out]
          have HB9 := Lib.hid hb9
          clear hb9
          go_wp2_with (fail)
          refine (HCB.out _ HB9.out).mono ?_
          rintro e z10 ⟨rfl, hb10⟩
          rw [decide_eq_true HAX.out]
          have HB10 := Lib.hid (HB9.out.trans hb10)
          clear hb10
          go_wp2_with (fail)
          go_ret
          exact ⟨rfl, H5.out.low.trans HB10.out⟩
      · obtain rfl := hje he1
        have hx3 : (e1 != 0) = true := by rw [bne_iff_ne]; exact he1
        obtain ⟨hz0, hza⟩ := HEND.out.2 he1
        obtain ⟨A2, M3, hj2⟩ : ∃ A2 M3, jopen logB.data.toList (crashS sp.L lf.L M2) = (0, A2, M3) := by
          obtain ⟨ez, A2, M3, hz⟩ : ∃ e A M, jopen logB.data.toList (crashS sp.L lf.L M2) = (e, A, M) := ⟨_, _, _, rfl⟩
          rw [hz] at hz0
          obtain rfl : ez = 0 := hz0
          exact ⟨_, _, hz⟩
        rw [hj2] at hza
        have HAN := Lib.hid hza
        have HJO2 := Lib.hid hj2
        have hMc : (crashS sp.L lf.L M2).ok := crash_ok h5.good _ _
        have hlens := jopen_lens logB.data.toList hMc HRM2.out
        have heach := jopen_each logB.data.toList (crashS sp.L lf.L M2)
        rw [hj2] at hlens heach
        have HLE2 := Lib.hid (show A2.length ≤ 1000000000 by simp only at hlens; omega)
        have HEA2 := Lib.hid (show ∀ l ∈ A2, l.length ≤ 1000000 from fun l hl => Nat.le_trans (heach l hl) (by omega))
        obtain ⟨s3, -, -, -, -, -⟩ := HL3.out.cells
        clear hj hje h5 hk5 hS hz0 hza hj2 hMc hlens heach
        go_wp2_with (fail)
        refine (lw_crash HL3.out (Bel.refl _) sp lf HSP.out HLF.out).mono ?_
        rintro e z4 ⟨⟨u, rfl⟩, h1, hk1⟩
        have HW4 := Lib.hid (ownG_block HW3.out (fun k hk => hk1 k (by simp [hk])))
        have HN4 := Lib.hid (ownG_block HN3.out (fun k hk => hk1 k (by simp [hk])))
        obtain ⟨s4, -, -, -, -, -⟩ := h1.cells
        have HZ4 := Lib.hid h1
        clear h1 hk1 s3
        go_wp2_with (fail)
        refine (tw_open HZ4.out.tw HS.out (Bel.refl _) logB 2000 (by decide) HRM2.out HJO2.out).mono ?_
        rintro e z5 ⟨jv, p6, c6, S6, rfl, h6, hk6, hrow6, hS6, hj6, -⟩
        obtain ⟨jb2, rfl, -, -⟩ := hj6 rfl
        have H6 := Lib.hid h6
        have HRW6 := Lib.hid hrow6
        have HW5 := Lib.hid (ownG_block HW4.out (fun k hk => hk6 k (by simp [hk])))
        have HN5 := Lib.hid (ownG_block HN4.out (fun k hk => hk6 k (by simp [hk])))
        clear s4 hrow6 h6 hk6 hS6 hj6
        obtain ⟨wpz, wcz, hvw, hrw⟩ := lv_row HW5.out (fun s hs => (HPO.out s (by simp [hs])).1) H6.out.low
        simp only [Value.slice.injEq, true_and] at hvw
        obtain ⟨rfl, rfl⟩ := hvw
        obtain ⟨npz, ncz, hvn, hrn⟩ := lv_row HN5.out (fun s hs => (HPO.out s (by simp [hs])).1) H6.out.low
        simp only [Value.slice.injEq, true_and] at hvn
        obtain ⟨rfl, rfl⟩ := hvn
        have HCA := Lib.hid (show ∀ z, Bel z5 z → Calls Tryz.prog 14 #[.slice p6 A2.length c6, .slice wp Wl.length wc] z fun e y => e = .returned (.bool (decide (A2 = Wl.map (·.l)))) ∧ Bel z y from fun z hz => by
          have := jall_any z _ _ p6 wp c6 wc A2 (Wl.map (·.l)) (HRW6.out.bel hz) (hrw.bel hz) HLE2.out HWL.out HEA2.out HWE.out
          rw [List.length_map] at this
          exact this)
        have HCB := Lib.hid (show ∀ z, Bel z5 z → Calls Tryz.prog 14 #[.slice p6 A2.length c6, .slice np Nl.length nc] z fun e y => e = .returned (.bool (decide (A2 = Nl.map (·.l)))) ∧ Bel z y from fun z hz => by
          have := jall_any z _ _ p6 np c6 nc A2 (Nl.map (·.l)) (HRW6.out.bel hz) (hrn.bel hz) HLE2.out HNL.out HEA2.out HNE.out
          rw [List.length_map] at this
          exact this)
        clear hrw hrn
        by_cases hAW : A2 = Wl.map (·.l)
        · have HAW := Lib.hid hAW
          clear hAW
          go_wp2_with (fail)
          refine (HCA.out _ (Bel.refl _)).mono ?_
          rintro e z9 ⟨rfl, hb9⟩
          rw [decide_eq_true HAW.out]
          have HB9 := Lib.hid hb9
          clear hb9
          go_wp2_with (fail)
          go_ret
          exact ⟨rfl, H6.out.low.trans HB9.out⟩
        · have HAW := Lib.hid hAW
          have HAX := Lib.hid (show A2 = Nl.map (·.l) from (or_iff_right hAW).1 HAN.out)
          clear hAW
          go_wp2_with (fail)
          refine (HCA.out _ (Bel.refl _)).mono ?_
          rintro e z9 ⟨rfl, hb9⟩
          rw [decide_eq_false HAW.out]
          have HB9 := Lib.hid hb9
          clear hb9
          go_wp2_with (fail)
          refine (HCB.out _ HB9.out).mono ?_
          rintro e z10 ⟨rfl, hb10⟩
          rw [decide_eq_true HAX.out]
          have HB10 := Lib.hid (HB9.out.trans hb10)
          clear hb10
          go_wp2_with (fail)
          go_ret
          exact ⟨rfl, H6.out.low.trans HB10.out⟩
end Go.Proofs.YtlmlcnbgdaiaeaaGreatDoor
