/- SchemaFits: true for every argument. -/
import Derived.Test.YtbalkchphijehaaDoorQ12
import Derived.Test.YtbalkchphijehaaDoorQ10
import Derived.Test.YtbalkchphijehaaDoorQ2
set_option linter.unusedSimpArgs false
set_option linter.unusedVariables false
set_option maxRecDepth 20000
namespace Go.Proofs.YtbalkchphijehaaDoor
open Go.RowKit Go.Deep


theorem step_append_wQ {α : Type} {E : El α} {n b : Nat} (hE : ElOk E b) {ops : Array Oper} {o : Oper} {a : Act} {K : Act → World → Prop} {Q : Exit → Act → World → Prop} {F : Prop} {x : World} (hw : Region.wanted o (yielded ops a.tmps) = true) (s y : Operand)
    (ho : o.op = .call { callee := .builtin .append, args := #[s, y], argTypes := #[E.ST, E.ST] }) {v yv : Value} {L : List α}
    (hs : a.eval s = v) (hy : a.eval y = yv) (hown : OwnG E n x v L) (news : List α) (hl0 : L.length = L.length) (hsrc : SrcAt E x yv news)
    (hl1 : L.length + news.length ≤ maxLen) (hlim : (L.length + news.length) * b ≤ 140737488355328) (hbase : n ≤ x.heap.size)
    (h : ∀ v' w', OwnG E n w' v' (L ++ news) → Keep v.ownBlock.toList x w' → (v'.ownBlock = v.ownBlock ∨ v'.ownBlock = some x.heap.size) → K (a.put o.dst v') w') : if Region.wanted o (yielded ops a.tmps) = true then o.wp Tryd.prog a x K Q else F := by
  rw [if_pos hw]
  exact wp_append_all hE s y ho hs hown news hy hsrc hl1 hlim hbase h
set_option maxHeartbeats 64000000 in
theorem fits14_law (ver next : Int) (p : Option Addr) (c : Nat) (F : List FV) (q : Option Addr) (d : Nat) (L : List KV) (w : World) (h : FldsAt w p F) (hF : F.length ≤ maxLen) (hc : F.length ≤ c) (hV : allF F) (h' : ValsAt w q L) (hL : L.length ≤ maxLen) (hW : allV L) (hstd : Std w) :
    Calls Tryd.prog 7 #[.agg #[.int .i64 ver, .int .i64 next, .slice p F.length c], .slice q L.length d] w fun e w' => e = .returned (.bool true) ∧ Bel w w' := by
  unfold maxLen at *
  have H := Lib.hid h; have H' := Lib.hid h'
  have HV := Lib.hid hV; have HW := Lib.hid hW
  have HST := Lib.hid hstd
  have HFM := Lib.hid hF; have HLM := Lib.hid hL; have HFC := Lib.hid hc
  clear h h' hV hW hstd
  obtain ⟨X, hX⟩ : ∃ X, X = w.heap.size := ⟨_, rfl⟩
  obtain ⟨w1, hw1⟩ : ∃ z, z = w.alloc (.cells #[.int .i64 ver, .int .i64 next, .slice p F.length c] 24) := ⟨_, rfl⟩
  have HB1 := Lib.hid (show Bel w w1 by rw [hw1]; exact (Bel.refl w).alloc _)
  have HK1 := Lib.hid (show w1.heap[X]? = some (.cells #[.int .i64 ver, .int .i64 next, .slice p F.length c] 24 (0, 0)) by rw [hw1, hX]; exact heap_alloc_new w _)
  have HRS := Lib.hid (show ∀ z, Bel w1 z → (z.cell? ⟨X, 0, none⟩ = some (.int .i64 ver) ∧ z.cell? ⟨X, 1, none⟩ = some (.int .i64 next) ∧ z.cell? ⟨X, 2, none⟩ = some (.slice p F.length c)) from fun z hz => (qbox3 (qbel HK1.out hz)).1)
  go_enter Tryd.func7, Tryd.ntmps7
  go_wp2_with (fail)
  rw [← hw1, ← hX]
  clear hw1 hX
  refine (shown14_any _ (HST.out.bel HB1.out)).mono ?_
  rintro e w2 ⟨rfl, hb⟩
  have HB2 := Lib.hid (show Bel w1 w2 from hb)
  clear hb
  obtain ⟨s0, s1, s2⟩ := HRS.out _ HB2.out
  go_wp2_with (fail)
  clear s0 s1 s2
  refine (small14_any ver next p c F q d L _ (H.out.bel (HB1.out.trans HB2.out)) (by unfold maxLen; exact HFM.out) (H'.out.bel (HB1.out.trans HB2.out)) (by unfold maxLen; exact HLM.out)).mono ?_
  intro e w3 hsm
  obtain ⟨b, rfl, hbs, hb⟩ := hsm
  have HB3 := Lib.hid (HB2.out.trans hb)
  have HSM := Lib.hid hbs
  clear hb hbs
  cases b with
  | false =>
    go_wp2_with (fail)
    go_ret
    exact ⟨rfl, HB1.out.trans HB3.out⟩
  | true =>
    have HSML := Lib.hid (HSM.out rfl)
    obtain ⟨s0, s1, s2⟩ := HRS.out _ HB3.out
    go_wp2_with (fail)
    clear s0 s1 s2
    refine (pright14_any ver next p c F _ (H.out.bel (HB1.out.trans HB3.out)) (by unfold maxLen; exact HFM.out) HFC.out HV.out).mono ?_
    rintro e w4 ⟨rfl, hb⟩
    have HB4 := Lib.hid (HB3.out.trans hb)
    clear hb
    cases hrs : rightS ⟨ver, next, F⟩ with
    | false =>
      clear hrs
      go_wp2_with (fail)
      go_ret
      exact ⟨rfl, HB1.out.trans HB4.out⟩
    | true =>
      have HP := Lib.hid (rightS_parts hrs)
      have hfd : fitsE F (F.map (·.d)) = 0 := by unfold fitsE; rw [if_pos (by simp)]; exact fits_defs (fieldsB_mem (rightS_parts hrs).1)
      have HFD := Lib.hid hfd
      have HRB := Lib.hid (fits_row (s := ⟨ver, next, F⟩) hrs hfd).2
      have HLR := Lib.hid (show ∀ M : List KV, fitsE F M = 0 → M.length = F.length ∧ rowB 1 ver M = true from fun M hM => fits_row (s := ⟨ver, next, F⟩) hrs hM)
      have hdv : allV (F.map (·.d)) := fun v hv => by obtain ⟨f, hf, rfl⟩ := List.mem_map.1 hv; exact ⟨(HV.out f hf).1.2.2, (HV.out f hf).2.2⟩
      have HDV := Lib.hid hdv
      have HF12 := Lib.hid (show 1 ≤ F.length ∧ F.length ≤ 12 from HP.out.2.2.2)
      clear hrs hfd hdv
      go_wp2_with (fail)
      go_loopw [7, 8] (fun dv i x => ∃ k : Nat, i = .int .i64 k ∧ k ≤ F.length ∧ OwnG valEl w1.heap.size x dv ((F.take k).map (·.d)) ∧ Bel w1 x) (fun _ i _ => F.length - (intOf i).toNat)
      case atStart => exact ⟨0, rfl, Nat.zero_le _, OwnG.nil _ _ _, HB4.out⟩
      case round =>
        obtain ⟨k, rfl, hk, hov, hw⟩ := hrel
        have HWR := Lib.hid hw
        have HOV := Lib.hid hov
        clear hw hov
        obtain ⟨s0, s1, s2⟩ := HRS.out _ HWR.out
        by_cases hlt : k < F.length
        · have hii : (k : Int) < (F.length : Int) := by omega
          obtain ⟨a, B, O, sp, rfl, ha, d0, d1, d2, d3, d4, d5⟩ := (H.out.bel (HB1.out.trans HWR.out)) k hlt
          have HSP := Lib.hid (show (F.take (k + 1)).map (·.d) = (F.take k).map (·.d) ++ [F[k].d] by rw [take_succ14 hlt, List.map_append]; rfl)
          have HML := Lib.hid (show ((F.take k).map (·.d)).length ≤ 12 by rw [List.length_map, List.length_take]; have := HF12.out.2; omega)
          obtain ⟨f, hf⟩ : ∃ f, f = F[k] := ⟨_, rfl⟩
          rw [← hf] at d0 d1 d2 d3 d4 d5 HSP
          clear hf
          obtain ⟨M, hM⟩ : ∃ M, M = (F.take k).map (·.d) := ⟨_, rfl⟩
          rw [← hM] at HOV HSP HML
          clear hM
          obtain ⟨mp, mc, rfl⟩ := ownG_len HOV.out
          go_wp2_with (at_builtin; refine stop_here ?_)
          refine go_on ?_
          refine append_glit (x := wr) valOk rfl _ _ rfl rfl HOV.out _ _ _ [f.d] rfl rfl rfl (by have := HML.out; simp [maxLen]; omega) (by have := HML.out; simp; omega) HWR.out.size (Or.inl rfl) ?_
          intro v5 w5 hown5 hbel5 hz5
          have HB5 := Lib.hid (HWR.out.trans_below hbel5)
          rw [← HSP.out] at hown5
          have HO5 := Lib.hid hown5
          clear hown5 hbel5 hz5 s0 s1 s2 d0 d1 d2 d3 d4 d5
          go_wp2_with (fail)
          go_roundw
          case rel => exact ⟨k + 1, by go_num, hlt, HO5.out, HB5.out⟩
          case measure => simp [intOf]; omega
        · obtain rfl : k = F.length := by omega
          have hii : ¬ (F.length : Int) < (F.length : Int) := by omega
          have HD := Lib.hid (show OwnG valEl w1.heap.size wr u7 (F.map (·.d)) from by have h := HOV.out; rwa [List.take_length] at h)
          clear HOV
          obtain ⟨D, hD⟩ : ∃ D, D = F.map (·.d) := ⟨_, rfl⟩
          have HDL := Lib.hid (show D.length = F.length ∧ D.length ≤ 12 by rw [hD, List.length_map]; exact ⟨rfl, HF12.out.2⟩)
          rw [← hD] at HFD HRB HDV HD
          clear hD
          obtain ⟨u, D', hDu⟩ : ∃ u D', D = u :: D' := by
            cases D with
            | nil => have h1 := HDL.out.1; have h2 := HF12.out.1; simp at h1; omega
            | cons u D' => exact ⟨u, D', rfl⟩
          have HDU := Lib.hid hDu
          have HUD := Lib.hid (show u ∈ D by rw [hDu]; simp)
          have HDLt := Lib.hid (show D.length = D'.length + 1 by rw [hDu]; rfl)
          obtain ⟨g, cap, rfl, hgb, hgl, hcap, hcells⟩ := ownG_cells valOk HD.out (by rw [hDu]; simp)
          have hg0 : wr.cell? ⟨g, 0, none⟩ = some (.int .i64 u.k) := hcells 0 u (by rw [hDu]; rfl) 0 _ rfl
          have hg1 : wr.cell? ⟨g, 1, none⟩ = some (.int .i64 u.n) := hcells 0 u (by rw [hDu]; rfl) 1 _ rfl
          have hg2 : wr.cell? ⟨g, 2, none⟩ = some (.string u.s) := hcells 0 u (by rw [hDu]; rfl) 2 _ rfl
          have HSV := Lib.hid (show ∀ z, Bel wr z → ((z.cell? ⟨X, 0, none⟩ = some (.int .i64 ver) ∧ z.cell? ⟨X, 1, none⟩ = some (.int .i64 next) ∧ z.cell? ⟨X, 2, none⟩ = some (.slice p F.length c)) ∧ (z.cell? ⟨g, 0, none⟩ = some (.int .i64 u.k) ∧ z.cell? ⟨g, 1, none⟩ = some (.int .i64 u.n) ∧ z.cell? ⟨g, 2, none⟩ = some (.string u.s))) from fun z hz => ⟨HRS.out _ (HWR.out.trans hz), clQ hz hg0, clQ hz hg1, clQ hz hg2⟩)
          have HVA := Lib.hid (show ∀ z, Bel wr z → ValsAt z (some ⟨g, 0, none⟩) D from fun z hz => by
            obtain ⟨p', c', hv, hva⟩ := ownG_vals (HD.out.bel hz)
            simp only [Value.slice.injEq] at hv
            rw [hv.1]; exact hva)
          have HVT := Lib.hid (show ∀ z, Bel wr z → ValsAt z (some ⟨g, 3, none⟩) D' from fun z hz i hi => by
            have hx := fun (j : Nat) (v : Value) (hj : (valEl.cells D'[i])[j]? = some v) => clQ hz (hcells (i + 1) D'[i] (by rw [hDu]; simp [hi]) j v hj)
            have e : (i + 1) * valEl.n = i * 3 + 3 := by show (i + 1) * 3 = _; omega
            rw [e] at hx
            have hA : (⟨g, 3, none⟩ : Addr).add (i * 3) = ⟨g, i * 3 + 3, none⟩ := by
              by_cases h0 : i * 3 = 0
              · rw [h0]; rfl
              · simp [Addr.add, h0]; omega
            exact ⟨_, g, i * 3 + 3, none, rfl, hA, hx 0 _ rfl, hx 1 _ rfl, hx 2 _ rfl⟩)
          have HCP := Lib.hid (show D.length ≤ cap from hcap)
          clear hgb hgl hcells hg0 hg1 hg2 hDu
          go_wp2_with (fail)
          clear s0 s1 s2
          refine (pput14_any 1 ver (some ⟨g, 0, none⟩) cap D _ (HVA.out _ (Bel.refl _)) (by have := HDL.out.2; unfold maxLen; omega) HDV.out (HST.out.bel (HB1.out.trans HWR.out))).mono ?_
          rintro e y ⟨rfl, hb⟩
          rw [prow_yes HRB.out]
          have HBR := Lib.hid (show Bel wr y from hb)
          clear hb
          have HS := Lib.hid (show ∀ z, Bel y z → ((z.cell? ⟨X, 0, none⟩ = some (.int .i64 ver) ∧ z.cell? ⟨X, 1, none⟩ = some (.int .i64 next) ∧ z.cell? ⟨X, 2, none⟩ = some (.slice p F.length c)) ∧ (z.cell? ⟨g, 0, none⟩ = some (.int .i64 u.k) ∧ z.cell? ⟨g, 1, none⟩ = some (.int .i64 u.n) ∧ z.cell? ⟨g, 2, none⟩ = some (.string u.s))) from fun z hz => HSV.out _ (HBR.out.trans hz))
          have HBW := Lib.hid (HWR.out.trans HBR.out)
          have HBY := Lib.hid (HB1.out.trans HBW.out)
          have HDY := Lib.hid (HD.out.bel HBR.out)
          have hl1 : (1 : Int) ≤ (D.length : Int) := by have := HDLt.out; omega
          have hl0 : 0 < D.length := by have := HDLt.out; omega
          have HDM := Lib.hid (show D.length - 1 = D'.length by have := HDLt.out; omega)
          go_wp2_with (fail)
          refine wp_region_held_drew (S := fun z => ((z.cell? ⟨X, 0, none⟩ = some (.int .i64 ver) ∧ z.cell? ⟨X, 1, none⟩ = some (.int .i64 next) ∧ z.cell? ⟨X, 2, none⟩ = some (.slice p F.length c)) ∧ (z.cell? ⟨g, 0, none⟩ = some (.int .i64 u.k) ∧ z.cell? ⟨g, 1, none⟩ = some (.int .i64 u.n) ∧ z.cell? ⟨g, 2, none⟩ = some (.string u.s)))) (by kernel_rfl) (HS.out _ (Bel.refl _).drew) (fun hHeld => ?_)
          have HDR := Lib.hid ((Bel.refl y).drew)
          refine wpAnyH_take (i := 0) (oi := { dst := some 53, op := Op.load 24 (Operand.tmp 2), type := 24, pos := "law.go:167", after := #[], guard := none }) (v := ?_) rfl (by kernel_rfl) (by kernel_rfl) (by kernel_rfl) (fun _ _ _ h => h) (Or.inl ⟨by rfl, ?_⟩) (by assumption) ?_
          rotate_left
          · (intro w hSw; (try dsimp only at hSw); first | (go_simp; done) | (go_simp; with_reducible rfl))
          try simp only [Act.put, List.setIfInBounds_toArray, List.set_cons_zero, List.set_cons_succ]
          refine wpAnyH_take (i := 1) (oi := { dst := some 54, op := Op.move (Operand.tmp 7), type := 25, pos := "law.go:167", after := #[], guard := none }) (v := ?_) rfl (by kernel_rfl) (by kernel_rfl) (by kernel_rfl) (fun _ _ _ h => h) (Or.inl ⟨by rfl, ?_⟩) (by assumption) ?_
          rotate_left
          · (intro w hSw; (try dsimp only at hSw); first | (go_simp; done) | (go_simp; with_reducible rfl))
          try simp only [Act.put, List.setIfInBounds_toArray, List.set_cons_zero, List.set_cons_succ]
          refine wpAnyH_ready (rs := [2]) (by kernel_rfl) (by simp) ?_
          refine AllReadyH.cons (o := { dst := some 55, op := Op.call { callee := Callee.value (Operand.func 19), args := #[Operand.tmp 53, Operand.tmp 54], argTypes := #[24, 25] }, type := 37, pos := "law.go:167", after := #[{ on := 0, ground := Ground.data }, { on := 1, ground := Ground.data }], guard := none }) rfl (fun K hK => ?_) AllReadyH.nil
          go_simp
          refine (pfits14_any ver next p c F (some ⟨g, 0, none⟩) cap D _ (H.out.bel (HBY.out.trans HDR.out)) (by unfold maxLen; exact HFM.out) (HVA.out _ (HBR.out.trans HDR.out)) (by have := HDL.out.2; unfold maxLen; omega) HDV.out).mono ?_
          rintro e z1 ⟨rfl, hb⟩
          rw [HFD.out]
          have HZ1 := Lib.hid (show Bel y z1 from HDR.out.trans hb)
          clear hb
          dsimp only
          refine hK.out _ _ (HS.out _ HZ1.out) (fun hHeld => ?_)
          clear hK K
          try simp only [Act.put, List.setIfInBounds_toArray, List.set_cons_zero, List.set_cons_succ]
          refine wpAnyH_take (i := 3) (oi := { dst := some 56, op := Op.binOp BinOp.neq 37 (Operand.tmp 55) (Operand.const (Value.int IntKind.i64 0)) 37, type := 4, pos := "law.go:167", after := #[{ on := 2, ground := Ground.data }], guard := none }) (v := ?_) rfl (by kernel_rfl) (by kernel_rfl) (by kernel_rfl) (fun _ _ _ h => h) (Or.inl ⟨by rfl, ?_⟩) (by assumption) ?_
          rotate_left
          · (intro w hSw; (try dsimp only at hSw); first | (go_simp; done) | (go_simp; with_reducible rfl))
          try simp only [Act.put, List.setIfInBounds_toArray, List.set_cons_zero, List.set_cons_succ]
          refine wpAnyH_take (i := 4) (oi := { dst := some 57, op := Op.move (Operand.tmp 56), type := 4, pos := "law.go:167", after := #[{ on := 3, ground := Ground.data }, { on := 2, ground := Ground.chain }], guard := none }) (v := ?_) rfl (by kernel_rfl) (by kernel_rfl) (by kernel_rfl) (fun _ _ _ h => h) (Or.inl ⟨by rfl, ?_⟩) (by assumption) ?_
          rotate_left
          · (intro w hSw; (try dsimp only at hSw); first | (go_simp; done) | (go_simp; with_reducible rfl))
          try simp only [Act.put, List.setIfInBounds_toArray, List.set_cons_zero, List.set_cons_succ]
          refine wpAnyH_take (i := 5) (oi := { dst := some 58, op := Op.move (Operand.tmp 10), type := 37, pos := "law.go:167", after := #[{ on := 4, ground := Ground.guard }], guard := some (4, false) }) (v := ?_) rfl (by kernel_rfl) (by kernel_rfl) (by kernel_rfl) (fun _ _ _ h => h) (Or.inl ⟨by rfl, ?_⟩) (by assumption) ?_
          rotate_left
          · (intro w hSw; (try dsimp only at hSw); first | (go_simp; done) | (go_simp; with_reducible rfl))
          try simp only [Act.put, List.setIfInBounds_toArray, List.set_cons_zero, List.set_cons_succ]
          refine wpAnyH_take (i := 6) (oi := { dst := some 59, op := Op.binOp BinOp.neq 37 (Operand.tmp 58) (Operand.const (Value.int IntKind.i64 0)) 37, type := 4, pos := "law.go:167", after := #[{ on := 5, ground := Ground.data }, { on := 4, ground := Ground.guard }], guard := some (4, false) }) (v := ?_) rfl (by kernel_rfl) (by kernel_rfl) (by kernel_rfl) (fun _ _ _ h => h) (Or.inl ⟨by rfl, ?_⟩) (by assumption) ?_
          rotate_left
          · (intro w hSw; (try dsimp only at hSw); first | (go_simp; done) | (go_simp; with_reducible rfl))
          try simp only [Act.put, List.setIfInBounds_toArray, List.set_cons_zero, List.set_cons_succ]
          refine wpAnyH_take (i := 7) (oi := { dst := some 60, op := Op.pick (Operand.tmp 57) (Operand.const (Value.bool true)) (Operand.tmp 59), type := 4, pos := "law.go:167", after := #[{ on := 4, ground := Ground.data }, { on := 6, ground := Ground.data }], guard := none }) (v := ?_) rfl (by kernel_rfl) (by kernel_rfl) (by kernel_rfl) (fun _ _ _ h => h) (Or.inl ⟨by rfl, ?_⟩) (by assumption) ?_
          rotate_left
          · (intro w hSw; (try dsimp only at hSw); first | (go_simp; done) | (go_simp; with_reducible rfl))
          try simp only [Act.put, List.setIfInBounds_toArray, List.set_cons_zero, List.set_cons_succ]
          refine wpAnyH_take (i := 8) (oi := { dst := some 61, op := Op.move (Operand.tmp 60), type := 4, pos := "law.go:167", after := #[{ on := 7, ground := Ground.data }, { on := 4, ground := Ground.chain }], guard := none }) (v := ?_) rfl (by kernel_rfl) (by kernel_rfl) (by kernel_rfl) (fun _ _ _ h => h) (Or.inl ⟨by rfl, ?_⟩) (by assumption) ?_
          rotate_left
          · (intro w hSw; (try dsimp only at hSw); first | (go_simp; done) | (go_simp; with_reducible rfl))
          try simp only [Act.put, List.setIfInBounds_toArray, List.set_cons_zero, List.set_cons_succ]
          refine wpAnyH_take (i := 9) (oi := { dst := some 62, op := Op.load 24 (Operand.tmp 2), type := 24, pos := "law.go:167", after := #[{ on := 8, ground := Ground.guard }], guard := some (8, false) }) (v := ?_) rfl (by kernel_rfl) (by kernel_rfl) (by kernel_rfl) (fun _ _ _ h => h) (Or.inl ⟨by rfl, ?_⟩) (by assumption) ?_
          rotate_left
          · (intro w hSw; (try dsimp only at hSw); first | (go_simp; done) | (go_simp; with_reducible rfl))
          try simp only [Act.put, List.setIfInBounds_toArray, List.set_cons_zero, List.set_cons_succ]
          refine wpAnyH_take (i := 10) (oi := { dst := some 63, op := Op.move (Operand.tmp 7), type := 25, pos := "law.go:167", after := #[{ on := 8, ground := Ground.guard }], guard := some (8, false) }) (v := ?_) rfl (by kernel_rfl) (by kernel_rfl) (by kernel_rfl) (fun _ _ _ h => h) (Or.inl ⟨by rfl, ?_⟩) (by assumption) ?_
          rotate_left
          · (intro w hSw; (try dsimp only at hSw); first | (go_simp; done) | (go_simp; with_reducible rfl))
          try simp only [Act.put, List.setIfInBounds_toArray, List.set_cons_zero, List.set_cons_succ]
          refine wpAnyH_take (i := 11) (oi := { dst := some 64, op := Op.slice 25 (Operand.tmp 63) (some (Operand.const (Value.int IntKind.i64 1))) none none, type := 25, pos := "law.go:167", after := #[{ on := 10, ground := Ground.data }, { on := 8, ground := Ground.guard }], guard := some (8, false) }) (v := ?_) rfl (by kernel_rfl) (by kernel_rfl) (by kernel_rfl) (fun _ _ _ h => h) (Or.inl ⟨by rfl, ?_⟩) (by assumption) ?_
          rotate_left
          · (intro w hSw; (try dsimp only at hSw); first | (go_simp; done) | (go_simp; with_reducible rfl))
          try simp only [Act.put, List.setIfInBounds_toArray, List.set_cons_zero, List.set_cons_succ]
          rw [HDM.out]
          obtain ⟨TA, hTA⟩ : ∃ T : Option Addr, T = (if cap = 1 then some ⟨g, 0, none⟩ else some ⟨g, 3, none⟩) := ⟨_, rfl⟩
          rw [← hTA]
          have HVT2 := Lib.hid (show ∀ z, Bel wr z → ValsAt z TA D' from fun z hz => by
            by_cases h1 : cap = 1
            · intro i hi; have h2 := HDLt.out; have h3 := HCP.out; omega
            · rw [hTA, if_neg h1]; exact HVT.out z hz)
          clear hTA
          refine wpAnyH_ready (rs := [12]) (by kernel_rfl) (by simp) ?_
          refine AllReadyH.cons (o := { dst := some 65, op := Op.call { callee := Callee.value (Operand.func 19), args := #[Operand.tmp 62, Operand.tmp 64], argTypes := #[24, 25] }, type := 37, pos := "law.go:167", after := #[{ on := 9, ground := Ground.data }, { on := 11, ground := Ground.data }, { on := 8, ground := Ground.chain }, { on := 8, ground := Ground.guard }], guard := some (8, false) }) rfl (fun K hK => ?_) AllReadyH.nil
          go_simp
          refine (pfits14_any ver next p c F TA (cap - 1) D' _ (H.out.bel (HBY.out.trans HZ1.out)) (by unfold maxLen; exact HFM.out) (HVT2.out _ (HBR.out.trans HZ1.out)) (by have h1 := HDLt.out; have h2 := HDL.out.2; unfold maxLen; omega) (fun v hv => HDV.out v (by rw [HDU.out]; simp [hv]))).mono ?_
          rintro e z2 ⟨rfl, hb⟩
          rw [show fitsE F D' = 13 by unfold fitsE; rw [if_neg (by have h1 := HDLt.out; have h2 := HDL.out.1; omega)]]
          have HZ2 := Lib.hid (show Bel y z2 from HZ1.out.trans hb)
          clear hb
          dsimp only
          refine hK.out _ _ (HS.out _ HZ2.out) (fun hHeld => ?_)
          clear hK K
          try simp only [Act.put, List.setIfInBounds_toArray, List.set_cons_zero, List.set_cons_succ]
          refine wpAnyH_take (i := 13) (oi := { dst := some 66, op := Op.binOp BinOp.neq 37 (Operand.tmp 65) (Operand.const (Value.int IntKind.i64 13)) 37, type := 4, pos := "law.go:167", after := #[{ on := 12, ground := Ground.data }, { on := 8, ground := Ground.guard }], guard := some (8, false) }) (v := ?_) rfl (by kernel_rfl) (by kernel_rfl) (by kernel_rfl) (fun _ _ _ h => h) (Or.inl ⟨by rfl, ?_⟩) (by assumption) ?_
          rotate_left
          · (intro w hSw; (try dsimp only at hSw); first | (go_simp; done) | (go_simp; with_reducible rfl))
          try simp only [Act.put, List.setIfInBounds_toArray, List.set_cons_zero, List.set_cons_succ]
          refine wpAnyH_take (i := 14) (oi := { dst := some 67, op := Op.pick (Operand.tmp 61) (Operand.const (Value.bool true)) (Operand.tmp 66), type := 4, pos := "law.go:167", after := #[{ on := 8, ground := Ground.data }, { on := 13, ground := Ground.data }], guard := none }) (v := ?_) rfl (by kernel_rfl) (by kernel_rfl) (by kernel_rfl) (fun _ _ _ h => h) (Or.inl ⟨by rfl, ?_⟩) (by assumption) ?_
          rotate_left
          · (intro w hSw; (try dsimp only at hSw); first | (go_simp; done) | (go_simp; with_reducible rfl))
          try simp only [Act.put, List.setIfInBounds_toArray, List.set_cons_zero, List.set_cons_succ]
          refine wpAnyH_take (i := 15) (oi := { dst := some 68, op := Op.move (Operand.tmp 67), type := 4, pos := "law.go:167", after := #[{ on := 14, ground := Ground.data }, { on := 12, ground := Ground.chain }], guard := none }) (v := ?_) rfl (by kernel_rfl) (by kernel_rfl) (by kernel_rfl) (fun _ _ _ h => h) (Or.inl ⟨by rfl, ?_⟩) (by assumption) ?_
          rotate_left
          · (intro w hSw; (try dsimp only at hSw); first | (go_simp; done) | (go_simp; with_reducible rfl))
          try simp only [Act.put, List.setIfInBounds_toArray, List.set_cons_zero, List.set_cons_succ]
          refine wpAnyH_take (i := 16) (oi := { dst := some 69, op := Op.load 24 (Operand.tmp 2), type := 24, pos := "law.go:167", after := #[{ on := 15, ground := Ground.guard }], guard := some (15, false) }) (v := ?_) rfl (by kernel_rfl) (by kernel_rfl) (by kernel_rfl) (fun _ _ _ h => h) (Or.inl ⟨by rfl, ?_⟩) (by assumption) ?_
          rotate_left
          · (intro w hSw; (try dsimp only at hSw); first | (go_simp; done) | (go_simp; with_reducible rfl))
          try simp only [Act.put, List.setIfInBounds_toArray, List.set_cons_zero, List.set_cons_succ]
          refine wpAnyH_take (i := 18) (oi := { dst := some 71, op := Op.move (Operand.tmp 7), type := 25, pos := "law.go:167", after := #[{ on := 15, ground := Ground.guard }], guard := some (15, false) }) (v := ?_) rfl (by kernel_rfl) (by kernel_rfl) (by kernel_rfl) (fun _ _ _ h => h) (Or.inl ⟨by rfl, ?_⟩) (by assumption) ?_
          rotate_left
          · (intro w hSw; (try dsimp only at hSw); first | (go_simp; done) | (go_simp; with_reducible rfl))
          try simp only [Act.put, List.setIfInBounds_toArray, List.set_cons_zero, List.set_cons_succ]
          refine wpAnyH_take (i := 20) (oi := { dst := some 73, op := Op.move (Operand.tmp 7), type := 25, pos := "law.go:167", after := #[{ on := 15, ground := Ground.guard }], guard := some (15, false) }) (v := ?_) rfl (by kernel_rfl) (by kernel_rfl) (by kernel_rfl) (fun _ _ _ h => h) (Or.inl ⟨by rfl, ?_⟩) (by assumption) ?_
          rotate_left
          · (intro w hSw; (try dsimp only at hSw); first | (go_simp; done) | (go_simp; with_reducible rfl))
          try simp only [Act.put, List.setIfInBounds_toArray, List.set_cons_zero, List.set_cons_succ]
          refine wpAnyH_take (i := 21) (oi := { dst := some 74, op := Op.indexAddr 25 (Operand.tmp 73) (Operand.const (Value.int IntKind.i64 0)), type := 0, pos := "law.go:167", after := #[{ on := 20, ground := Ground.data }, { on := 15, ground := Ground.guard }], guard := some (15, false) }) (v := ?_) rfl (by kernel_rfl) (by kernel_rfl) (by kernel_rfl) (fun _ _ _ h => h) (Or.inl ⟨by rfl, ?_⟩) (by assumption) ?_
          rotate_left
          · (intro w hSw; (try dsimp only at hSw); first | (go_simp; done) | (go_simp; with_reducible rfl))
          try simp only [Act.put, List.setIfInBounds_toArray, List.set_cons_zero, List.set_cons_succ]
          refine wpAnyH_take (i := 22) (oi := { dst := some 75, op := Op.load 29 (Operand.tmp 74), type := 29, pos := "law.go:167", after := #[{ on := 21, ground := Ground.data }, { on := 15, ground := Ground.guard }], guard := some (15, false) }) (v := ?_) rfl (by kernel_rfl) (by kernel_rfl) (by kernel_rfl) (fun _ _ _ h => h) (Or.inl ⟨by rfl, ?_⟩) (by assumption) ?_
          rotate_left
          · (intro w hSw; (try dsimp only at hSw); first | (go_simp; done) | (go_simp; with_reducible rfl))
          try simp only [Act.put, List.setIfInBounds_toArray, List.set_cons_zero, List.set_cons_succ]
          refine wpAnyH_ready (rs := [17, 23]) (by kernel_rfl) (by simp) ?_
          refine (AllReadyH.cons (o := { dst := some 70, op := Op.buildSlice 25 0 #[], type := 25, pos := "law.go:167", after := #[{ on := 15, ground := Ground.guard }], guard := some (15, false) }) rfl (fun K hK => ?_) (AllReadyH.cons (o := { dst := some 76, op := Op.buildSlice 25 1 #[(0, Operand.tmp 75)], type := 25, pos := "law.go:167", after := #[{ on := 22, ground := Ground.data }, { on := 15, ground := Ground.guard }], guard := some (15, false) }) rfl (fun K hK => ?_) AllReadyH.nil))
          · go_simp
            have HLE := Lib.hid (heap_alloc_new z2 (.cells #[] 29))
            have HC1 := Lib.hid (HZ2.out.trans (show Bel z2 (z2.alloc (.cells #[] 29)) from (Bel.refl z2).alloc _))
            have hye : y.heap.size ≤ z2.heap.size := HZ2.out.size
            have HOE := Lib.hid (ownG_empty (E := valEl) (n := y.heap.size) HLE.out hye)
            refine hK.out _ _ (HS.out _ HC1.out) (fun hHeld => ?_)
            clear hK K
            try simp only [Act.put, List.setIfInBounds_toArray, List.set_cons_zero, List.set_cons_succ]
            obtain ⟨x1, hx1⟩ : ∃ z, z = z2.alloc (.cells #[] 29) := ⟨_, rfl⟩
            obtain ⟨E, hE⟩ : ∃ E, E = z2.heap.size := ⟨_, rfl⟩
            rw [← hx1] at HLE HC1 HOE ⊢
            rw [← hE] at HLE HOE hye ⊢
            clear hx1 hE
            refine wpAnyH_ready (rs := [19, 23]) (by kernel_rfl) (by simp) ?_
            refine (AllReadyH.cons (o := { dst := some 72, op := Op.call { callee := Callee.builtin Builtin.append, args := #[Operand.tmp 70, Operand.tmp 71], argTypes := #[25, 25] }, type := 25, pos := "law.go:167", after := #[{ on := 17, ground := Ground.data }, { on := 18, ground := Ground.data }, { on := 15, ground := Ground.chain }, { on := 15, ground := Ground.guard }], guard := some (15, false) }) rfl (fun K hK => ?_) (AllReadyH.cons (o := { dst := some 76, op := Op.buildSlice 25 1 #[(0, Operand.tmp 75)], type := 25, pos := "law.go:167", after := #[{ on := 22, ground := Ground.data }, { on := 15, ground := Ground.guard }], guard := some (15, false) }) rfl (fun K hK => ?_) AllReadyH.nil))
            · refine step_append_wQ valOk (by rfl) _ _ rfl rfl rfl HOE.out D rfl (src_own (HDY.out.bel HC1.out)) (by have := HDL.out; simp only [List.length_nil]; unfold maxLen; omega) (by have := HDL.out; simp only [List.length_nil]; omega) HC1.out.size ?_
              intro va x2 ho hk hv
              rw [List.nil_append] at ho
              have HC2 := Lib.hid (HC1.out.trans_below (hk.own HC1.out.size (fun k hk => (HOE.out.lt k hk).1)))
              have HOA := Lib.hid ho
              obtain ⟨ap, ac, rfl⟩ := ownG_len ho
              clear ho hk hv
              refine hK.out _ _ (HS.out _ HC2.out) (fun hHeld => ?_)
              clear hK K
              try simp only [Act.put, List.setIfInBounds_toArray, List.set_cons_zero, List.set_cons_succ]
              refine wpAnyH_ready (rs := [23]) (by kernel_rfl) (by simp) ?_
              refine AllReadyH.cons (o := { dst := some 76, op := Op.buildSlice 25 1 #[(0, Operand.tmp 75)], type := 25, pos := "law.go:167", after := #[{ on := 22, ground := Ground.data }, { on := 15, ground := Ground.guard }], guard := some (15, false) }) rfl (fun K hK => ?_) AllReadyH.nil
              go_simp
              have HLL := Lib.hid (heap_alloc_new x2 (.cells #[.int .i64 u.k, .int .i64 u.n, .string u.s] 29))
              have HC3 := Lib.hid (HC2.out.trans (show Bel x2 (x2.alloc (.cells #[.int .i64 u.k, .int .i64 u.n, .string u.s] 29)) from (Bel.refl x2).alloc _))
              have HXS := Lib.hid (show y.heap.size ≤ x2.heap.size from HC2.out.size)
              have HOAn := Lib.hid (HOA.out.bel (show Bel x2 (x2.alloc (.cells #[.int .i64 u.k, .int .i64 u.n, .string u.s] 29)) from (Bel.refl x2).alloc _))
              clear HOA
              have HOA := HOAn
              clear HOAn
              refine hK.out _ _ (HS.out _ HC3.out) (fun hHeld => ?_)
              clear hK K
              try simp only [Act.put, List.setIfInBounds_toArray, List.set_cons_zero, List.set_cons_succ]
              obtain ⟨x3, hx3⟩ : ∃ z, z = x2.alloc (.cells #[.int .i64 u.k, .int .i64 u.n, .string u.s] 29) := ⟨_, rfl⟩
              obtain ⟨Y, hY⟩ : ∃ E, E = x2.heap.size := ⟨_, rfl⟩
              rw [← hx3] at HLL HC3 HOA ⊢
              rw [← hY] at HLL HXS ⊢
              clear hx3 hY
              refine wpAnyH_ready (rs := [24]) (by kernel_rfl) (by simp) ?_
              refine AllReadyH.cons (o := { dst := some 77, op := Op.call { callee := Callee.builtin Builtin.append, args := #[Operand.tmp 72, Operand.tmp 76], argTypes := #[25, 25] }, type := 25, pos := "law.go:167", after := #[{ on := 19, ground := Ground.data }, { on := 23, ground := Ground.data }, { on := 19, ground := Ground.chain }, { on := 15, ground := Ground.guard }], guard := some (15, false) }) rfl (fun K hK => ?_) AllReadyH.nil
              refine step_append_wQ valOk (by rfl) _ _ rfl rfl rfl HOA.out [u] rfl (src_at [u] HLL.out rfl rfl) (by have := HDL.out; simp only [List.length_singleton]; unfold maxLen; omega) (by have := HDL.out; simp only [List.length_singleton]; omega) HC3.out.size ?_
              intro vb x4 ho hk hv
              have HC4 := Lib.hid (HC3.out.trans_below (hk.own HC3.out.size (fun k hk => (HOA.out.lt k hk).1)))
              obtain ⟨bp, bc, rfl, hvb⟩ := ownG_vals ho
              have HVB := Lib.hid hvb
              have HBL := Lib.hid (show (D ++ [u]).length = F.length + 1 by rw [List.length_append, HDL.out.1]; rfl)
              clear ho hk hv hvb
              refine hK.out _ _ (HS.out _ HC4.out) (fun hHeld => ?_)
              clear hK K
              try simp only [Act.put, List.setIfInBounds_toArray, List.set_cons_zero, List.set_cons_succ]
              obtain ⟨N, hN⟩ : ∃ N, N = D ++ [u] := ⟨_, rfl⟩
              have HNV := Lib.hid (show allV N by rw [hN]; intro v hv; rcases List.mem_append.1 hv with h | h; exact HDV.out v h; rw [List.mem_singleton] at h; rw [h]; exact HDV.out u HUD.out)
              rw [← hN] at HVB HBL ⊢
              clear hN
              refine wpAnyH_ready (rs := [25]) (by kernel_rfl) (by simp) ?_
              refine AllReadyH.cons (o := { dst := some 78, op := Op.call { callee := Callee.value (Operand.func 19), args := #[Operand.tmp 69, Operand.tmp 77], argTypes := #[24, 25] }, type := 37, pos := "law.go:167", after := #[{ on := 16, ground := Ground.data }, { on := 24, ground := Ground.data }, { on := 24, ground := Ground.chain }, { on := 15, ground := Ground.guard }], guard := some (15, false) }) rfl (fun K hK => ?_) AllReadyH.nil
              go_simp
              refine (pfits14_any ver next p c F bp bc N _ (H.out.bel (HBY.out.trans HC4.out)) (by unfold maxLen; exact HFM.out) HVB.out (by have h1 := HBL.out; have h2 := HDL.out.2; have h3 := HF12.out.2; unfold maxLen; omega) HNV.out).mono ?_
              rintro e z9 ⟨rfl, hb⟩
              rw [show fitsE F N = 13 by unfold fitsE; rw [if_neg (by have := HBL.out; omega)]]
              have HZ9 := Lib.hid (show Bel y z9 from HC4.out.trans hb)
              clear hb
              dsimp only
              refine hK.out _ _ (HS.out _ HZ9.out) (fun hHeld => ?_)
              clear hK K
              try simp only [Act.put, List.setIfInBounds_toArray, List.set_cons_zero, List.set_cons_succ]
              refine wpAnyH_take (i := 26) (oi := { dst := some 79, op := Op.binOp BinOp.neq 37 (Operand.tmp 78) (Operand.const (Value.int IntKind.i64 13)) 37, type := 4, pos := "law.go:167", after := #[{ on := 25, ground := Ground.data }, { on := 15, ground := Ground.guard }], guard := some (15, false) }) (v := ?_) rfl (by kernel_rfl) (by kernel_rfl) (by kernel_rfl) (fun _ _ _ h => h) (Or.inl ⟨by rfl, ?_⟩) (by assumption) ?_
              rotate_left
              · (intro w hSw; (try dsimp only at hSw); first | (go_simp; done) | (go_simp; with_reducible rfl))
              try simp only [Act.put, List.setIfInBounds_toArray, List.set_cons_zero, List.set_cons_succ]
              refine wpAnyH_take (i := 27) (oi := { dst := some 80, op := Op.pick (Operand.tmp 68) (Operand.const (Value.bool true)) (Operand.tmp 79), type := 4, pos := "law.go:167", after := #[{ on := 15, ground := Ground.data }, { on := 26, ground := Ground.data }], guard := none }) (v := ?_) rfl (by kernel_rfl) (by kernel_rfl) (by kernel_rfl) (fun _ _ _ h => h) (Or.inl ⟨by rfl, ?_⟩) (by assumption) ?_
              rotate_left
              · (intro w hSw; (try dsimp only at hSw); first | (go_simp; done) | (go_simp; with_reducible rfl))
              try simp only [Act.put, List.setIfInBounds_toArray, List.set_cons_zero, List.set_cons_succ]
              refine wpAnyH_done (by kernel_rfl) ?_ _
              clear hHeld
              have HE9 := Lib.hid (HBW.out.trans HZ9.out)
              obtain ⟨s0, s1, s2⟩ := HRS.out _ HE9.out
              go_wp2_with (fail)
              clear s0 s1 s2
              refine (pput14_any 1 ver q d L _ (H'.out.bel (HB1.out.trans HE9.out)) (by unfold maxLen; exact HLM.out) HW.out (HST.out.bel (HB1.out.trans HE9.out))).mono ?_
              rintro e w10 ⟨rfl, hb⟩
              have HB10 := Lib.hid (HE9.out.trans hb)
              clear hb
              obtain ⟨px, pe, hpf⟩ := prow_form 1 ver L
              have HPF := Lib.hid hpf
              rw [hpf]
              clear hpf
              obtain ⟨s0, s1, s2⟩ := HRS.out _ HB10.out
              go_wp2_with (fail)
              clear s0 s1 s2
              refine (pfits14_any ver next p c F q d L _ (H.out.bel (HB1.out.trans HB10.out)) (by unfold maxLen; exact HFM.out) (H'.out.bel (HB1.out.trans HB10.out)) (by unfold maxLen; exact HLM.out) HW.out).mono ?_
              rintro e w11 ⟨rfl, hb⟩
              have HB11 := Lib.hid (HB10.out.trans hb)
              clear hb
              obtain ⟨s0, s1, s2⟩ := HRS.out _ HB11.out
              by_cases hfz : fitsE F L = 0
              · obtain ⟨hll, hrl⟩ := HLR.out L hfz
                have h9 := HPF.out
                rw [prow_yes hrl] at h9
                simp only [Value.tuple.injEq, Array.mk.injEq, List.cons.injEq, Value.int.injEq, and_true, true_and] at h9
                have hpe : pe = 0 := h9.2.symm
                subst hpe
                have hle : (L.length : Int) = (F.length : Int) := by omega
                rw [hfz]
                clear h9 hfz
                go_wp2_with (fail)
                go_ret
                exact ⟨rfl, HB1.out.trans HB11.out⟩
              · obtain ⟨fz, hfe⟩ : ∃ z, z = fitsE F L := ⟨_, rfl⟩
                rw [← hfe] at hfz ⊢
                clear hfe
                go_wp2_with (fail)
                go_ret
                exact ⟨rfl, HB1.out.trans HB11.out⟩
            · go_simp
              have HLL := Lib.hid (heap_alloc_new x1 (.cells #[.int .i64 u.k, .int .i64 u.n, .string u.s] 29))
              have HC2 := Lib.hid (HC1.out.trans (show Bel x1 (x1.alloc (.cells #[.int .i64 u.k, .int .i64 u.n, .string u.s] 29)) from (Bel.refl x1).alloc _))
              have HXS := Lib.hid (show y.heap.size ≤ x1.heap.size from HC1.out.size)
              have HOEn := Lib.hid (HOE.out.bel (show Bel x1 (x1.alloc (.cells #[.int .i64 u.k, .int .i64 u.n, .string u.s] 29)) from (Bel.refl x1).alloc _))
              clear HOE
              have HOE := HOEn
              clear HOEn
              have HEL := Lib.hid (show E < x1.heap.size from (Array.getElem?_eq_some_iff.1 HLE.out).1)
              refine hK.out _ _ (HS.out _ HC2.out) (fun hHeld => ?_)
              clear hK K
              try simp only [Act.put, List.setIfInBounds_toArray, List.set_cons_zero, List.set_cons_succ]
              obtain ⟨x2, hx2⟩ : ∃ z, z = x1.alloc (.cells #[.int .i64 u.k, .int .i64 u.n, .string u.s] 29) := ⟨_, rfl⟩
              obtain ⟨Y, hY⟩ : ∃ E, E = x1.heap.size := ⟨_, rfl⟩
              rw [← hx2] at HLL HC2 HOE ⊢
              rw [← hY] at HLL HXS HEL ⊢
              clear hx2 hY
              refine wpAnyH_ready (rs := [19]) (by kernel_rfl) (by simp) ?_
              refine AllReadyH.cons (o := { dst := some 72, op := Op.call { callee := Callee.builtin Builtin.append, args := #[Operand.tmp 70, Operand.tmp 71], argTypes := #[25, 25] }, type := 25, pos := "law.go:167", after := #[{ on := 17, ground := Ground.data }, { on := 18, ground := Ground.data }, { on := 15, ground := Ground.chain }, { on := 15, ground := Ground.guard }], guard := some (15, false) }) rfl (fun K hK => ?_) AllReadyH.nil
              refine step_append_wQ valOk (by rfl) _ _ rfl rfl rfl HOE.out D rfl (src_own (HDY.out.bel HC2.out)) (by have := HDL.out; simp only [List.length_nil]; unfold maxLen; omega) (by have := HDL.out; simp only [List.length_nil]; omega) HC2.out.size ?_
              intro va x3 ho hk hv
              rw [List.nil_append] at ho
              have HC3 := Lib.hid (HC2.out.trans_below (hk.own HC2.out.size (fun k hk => (HOE.out.lt k hk).1)))
              have HOA := Lib.hid ho
              have HLLn := Lib.hid (show x3.heap[Y]? = some (.cells #[.int .i64 u.k, .int .i64 u.n, .string u.s] 29 (0, 0)) from hk.at HLL.out (by intro hm; have h8 := HEL.out; have h9 : Y = E := List.mem_singleton.1 (show Y ∈ [E] from hm); omega))
              clear HLL
              have HLL := HLLn
              clear HLLn
              obtain ⟨ap, ac, rfl⟩ := ownG_len ho
              clear ho hk hv
              refine hK.out _ _ (HS.out _ HC3.out) (fun hHeld => ?_)
              clear hK K
              try simp only [Act.put, List.setIfInBounds_toArray, List.set_cons_zero, List.set_cons_succ]
              refine wpAnyH_ready (rs := [24]) (by kernel_rfl) (by simp) ?_
              refine AllReadyH.cons (o := { dst := some 77, op := Op.call { callee := Callee.builtin Builtin.append, args := #[Operand.tmp 72, Operand.tmp 76], argTypes := #[25, 25] }, type := 25, pos := "law.go:167", after := #[{ on := 19, ground := Ground.data }, { on := 23, ground := Ground.data }, { on := 19, ground := Ground.chain }, { on := 15, ground := Ground.guard }], guard := some (15, false) }) rfl (fun K hK => ?_) AllReadyH.nil
              refine step_append_wQ valOk (by rfl) _ _ rfl rfl rfl HOA.out [u] rfl (src_at [u] HLL.out rfl rfl) (by have := HDL.out; simp only [List.length_singleton]; unfold maxLen; omega) (by have := HDL.out; simp only [List.length_singleton]; omega) HC3.out.size ?_
              intro vb x4 ho hk hv
              have HC4 := Lib.hid (HC3.out.trans_below (hk.own HC3.out.size (fun k hk => (HOA.out.lt k hk).1)))
              obtain ⟨bp, bc, rfl, hvb⟩ := ownG_vals ho
              have HVB := Lib.hid hvb
              have HBL := Lib.hid (show (D ++ [u]).length = F.length + 1 by rw [List.length_append, HDL.out.1]; rfl)
              clear ho hk hv hvb
              refine hK.out _ _ (HS.out _ HC4.out) (fun hHeld => ?_)
              clear hK K
              try simp only [Act.put, List.setIfInBounds_toArray, List.set_cons_zero, List.set_cons_succ]
              obtain ⟨N, hN⟩ : ∃ N, N = D ++ [u] := ⟨_, rfl⟩
              have HNV := Lib.hid (show allV N by rw [hN]; intro v hv; rcases List.mem_append.1 hv with h | h; exact HDV.out v h; rw [List.mem_singleton] at h; rw [h]; exact HDV.out u HUD.out)
              rw [← hN] at HVB HBL ⊢
              clear hN
              refine wpAnyH_ready (rs := [25]) (by kernel_rfl) (by simp) ?_
              refine AllReadyH.cons (o := { dst := some 78, op := Op.call { callee := Callee.value (Operand.func 19), args := #[Operand.tmp 69, Operand.tmp 77], argTypes := #[24, 25] }, type := 37, pos := "law.go:167", after := #[{ on := 16, ground := Ground.data }, { on := 24, ground := Ground.data }, { on := 24, ground := Ground.chain }, { on := 15, ground := Ground.guard }], guard := some (15, false) }) rfl (fun K hK => ?_) AllReadyH.nil
              go_simp
              refine (pfits14_any ver next p c F bp bc N _ (H.out.bel (HBY.out.trans HC4.out)) (by unfold maxLen; exact HFM.out) HVB.out (by have h1 := HBL.out; have h2 := HDL.out.2; have h3 := HF12.out.2; unfold maxLen; omega) HNV.out).mono ?_
              rintro e z9 ⟨rfl, hb⟩
              rw [show fitsE F N = 13 by unfold fitsE; rw [if_neg (by have := HBL.out; omega)]]
              have HZ9 := Lib.hid (show Bel y z9 from HC4.out.trans hb)
              clear hb
              dsimp only
              refine hK.out _ _ (HS.out _ HZ9.out) (fun hHeld => ?_)
              clear hK K
              try simp only [Act.put, List.setIfInBounds_toArray, List.set_cons_zero, List.set_cons_succ]
              refine wpAnyH_take (i := 26) (oi := { dst := some 79, op := Op.binOp BinOp.neq 37 (Operand.tmp 78) (Operand.const (Value.int IntKind.i64 13)) 37, type := 4, pos := "law.go:167", after := #[{ on := 25, ground := Ground.data }, { on := 15, ground := Ground.guard }], guard := some (15, false) }) (v := ?_) rfl (by kernel_rfl) (by kernel_rfl) (by kernel_rfl) (fun _ _ _ h => h) (Or.inl ⟨by rfl, ?_⟩) (by assumption) ?_
              rotate_left
              · (intro w hSw; (try dsimp only at hSw); first | (go_simp; done) | (go_simp; with_reducible rfl))
              try simp only [Act.put, List.setIfInBounds_toArray, List.set_cons_zero, List.set_cons_succ]
              refine wpAnyH_take (i := 27) (oi := { dst := some 80, op := Op.pick (Operand.tmp 68) (Operand.const (Value.bool true)) (Operand.tmp 79), type := 4, pos := "law.go:167", after := #[{ on := 15, ground := Ground.data }, { on := 26, ground := Ground.data }], guard := none }) (v := ?_) rfl (by kernel_rfl) (by kernel_rfl) (by kernel_rfl) (fun _ _ _ h => h) (Or.inl ⟨by rfl, ?_⟩) (by assumption) ?_
              rotate_left
              · (intro w hSw; (try dsimp only at hSw); first | (go_simp; done) | (go_simp; with_reducible rfl))
              try simp only [Act.put, List.setIfInBounds_toArray, List.set_cons_zero, List.set_cons_succ]
              refine wpAnyH_done (by kernel_rfl) ?_ _
              clear hHeld
              have HE9 := Lib.hid (HBW.out.trans HZ9.out)
              obtain ⟨s0, s1, s2⟩ := HRS.out _ HE9.out
              go_wp2_with (fail)
              clear s0 s1 s2
              refine (pput14_any 1 ver q d L _ (H'.out.bel (HB1.out.trans HE9.out)) (by unfold maxLen; exact HLM.out) HW.out (HST.out.bel (HB1.out.trans HE9.out))).mono ?_
              rintro e w10 ⟨rfl, hb⟩
              have HB10 := Lib.hid (HE9.out.trans hb)
              clear hb
              obtain ⟨px, pe, hpf⟩ := prow_form 1 ver L
              have HPF := Lib.hid hpf
              rw [hpf]
              clear hpf
              obtain ⟨s0, s1, s2⟩ := HRS.out _ HB10.out
              go_wp2_with (fail)
              clear s0 s1 s2
              refine (pfits14_any ver next p c F q d L _ (H.out.bel (HB1.out.trans HB10.out)) (by unfold maxLen; exact HFM.out) (H'.out.bel (HB1.out.trans HB10.out)) (by unfold maxLen; exact HLM.out) HW.out).mono ?_
              rintro e w11 ⟨rfl, hb⟩
              have HB11 := Lib.hid (HB10.out.trans hb)
              clear hb
              obtain ⟨s0, s1, s2⟩ := HRS.out _ HB11.out
              by_cases hfz : fitsE F L = 0
              · obtain ⟨hll, hrl⟩ := HLR.out L hfz
                have h9 := HPF.out
                rw [prow_yes hrl] at h9
                simp only [Value.tuple.injEq, Array.mk.injEq, List.cons.injEq, Value.int.injEq, and_true, true_and] at h9
                have hpe : pe = 0 := h9.2.symm
                subst hpe
                have hle : (L.length : Int) = (F.length : Int) := by omega
                rw [hfz]
                clear h9 hfz
                go_wp2_with (fail)
                go_ret
                exact ⟨rfl, HB1.out.trans HB11.out⟩
              · obtain ⟨fz, hfe⟩ : ∃ z, z = fitsE F L := ⟨_, rfl⟩
                rw [← hfe] at hfz ⊢
                clear hfe
                go_wp2_with (fail)
                go_ret
                exact ⟨rfl, HB1.out.trans HB11.out⟩
          · go_simp
            have HLL := Lib.hid (heap_alloc_new z2 (.cells #[.int .i64 u.k, .int .i64 u.n, .string u.s] 29))
            have HC1 := Lib.hid (HZ2.out.trans (show Bel z2 (z2.alloc (.cells #[.int .i64 u.k, .int .i64 u.n, .string u.s] 29)) from (Bel.refl z2).alloc _))
            have HXS := Lib.hid (show y.heap.size ≤ z2.heap.size from HZ2.out.size)
            refine hK.out _ _ (HS.out _ HC1.out) (fun hHeld => ?_)
            clear hK K
            try simp only [Act.put, List.setIfInBounds_toArray, List.set_cons_zero, List.set_cons_succ]
            obtain ⟨x1, hx1⟩ : ∃ z, z = z2.alloc (.cells #[.int .i64 u.k, .int .i64 u.n, .string u.s] 29) := ⟨_, rfl⟩
            obtain ⟨Y, hY⟩ : ∃ E, E = z2.heap.size := ⟨_, rfl⟩
            rw [← hx1] at HLL HC1  ⊢
            rw [← hY] at HLL HXS ⊢
            clear hx1 hY
            refine wpAnyH_ready (rs := [17]) (by kernel_rfl) (by simp) ?_
            refine AllReadyH.cons (o := { dst := some 70, op := Op.buildSlice 25 0 #[], type := 25, pos := "law.go:167", after := #[{ on := 15, ground := Ground.guard }], guard := some (15, false) }) rfl (fun K hK => ?_) AllReadyH.nil
            go_simp
            have HLE := Lib.hid (heap_alloc_new x1 (.cells #[] 29))
            have HC2 := Lib.hid (HC1.out.trans (show Bel x1 (x1.alloc (.cells #[] 29)) from (Bel.refl x1).alloc _))
            have hye : y.heap.size ≤ x1.heap.size := HC1.out.size
            have HLL0 := HLL
            have HLLn := Lib.hid (qbel HLL.out ((Bel.refl x1).alloc (.cells #[] 29)))
            clear HLL
            have HLL := HLLn
            clear HLLn
            have HEY := Lib.hid (show Y < x1.heap.size from (Array.getElem?_eq_some_iff.1 HLL0.out).1)
            clear HLL0
            have HOE := Lib.hid (ownG_empty (E := valEl) (n := y.heap.size) HLE.out hye)
            refine hK.out _ _ (HS.out _ HC2.out) (fun hHeld => ?_)
            clear hK K
            try simp only [Act.put, List.setIfInBounds_toArray, List.set_cons_zero, List.set_cons_succ]
            obtain ⟨x2, hx2⟩ : ∃ z, z = x1.alloc (.cells #[] 29) := ⟨_, rfl⟩
            obtain ⟨E, hE⟩ : ∃ E, E = x1.heap.size := ⟨_, rfl⟩
            rw [← hx2] at HLL HLE HC2 HOE ⊢
            rw [← hE] at HEY HLE HOE hye ⊢
            clear hx2 hE
            refine wpAnyH_ready (rs := [19]) (by kernel_rfl) (by simp) ?_
            refine AllReadyH.cons (o := { dst := some 72, op := Op.call { callee := Callee.builtin Builtin.append, args := #[Operand.tmp 70, Operand.tmp 71], argTypes := #[25, 25] }, type := 25, pos := "law.go:167", after := #[{ on := 17, ground := Ground.data }, { on := 18, ground := Ground.data }, { on := 15, ground := Ground.chain }, { on := 15, ground := Ground.guard }], guard := some (15, false) }) rfl (fun K hK => ?_) AllReadyH.nil
            refine step_append_wQ valOk (by rfl) _ _ rfl rfl rfl HOE.out D rfl (src_own (HDY.out.bel HC2.out)) (by have := HDL.out; simp only [List.length_nil]; unfold maxLen; omega) (by have := HDL.out; simp only [List.length_nil]; omega) HC2.out.size ?_
            intro va x3 ho hk hv
            rw [List.nil_append] at ho
            have HC3 := Lib.hid (HC2.out.trans_below (hk.own HC2.out.size (fun k hk => (HOE.out.lt k hk).1)))
            have HOA := Lib.hid ho
            have HLLn := Lib.hid (show x3.heap[Y]? = some (.cells #[.int .i64 u.k, .int .i64 u.n, .string u.s] 29 (0, 0)) from hk.at HLL.out (by intro hm; have h8 := HEY.out; have h9 : Y = E := List.mem_singleton.1 (show Y ∈ [E] from hm); omega))
            clear HLL
            have HLL := HLLn
            clear HLLn
            obtain ⟨ap, ac, rfl⟩ := ownG_len ho
            clear ho hk hv
            refine hK.out _ _ (HS.out _ HC3.out) (fun hHeld => ?_)
            clear hK K
            try simp only [Act.put, List.setIfInBounds_toArray, List.set_cons_zero, List.set_cons_succ]
            refine wpAnyH_ready (rs := [24]) (by kernel_rfl) (by simp) ?_
            refine AllReadyH.cons (o := { dst := some 77, op := Op.call { callee := Callee.builtin Builtin.append, args := #[Operand.tmp 72, Operand.tmp 76], argTypes := #[25, 25] }, type := 25, pos := "law.go:167", after := #[{ on := 19, ground := Ground.data }, { on := 23, ground := Ground.data }, { on := 19, ground := Ground.chain }, { on := 15, ground := Ground.guard }], guard := some (15, false) }) rfl (fun K hK => ?_) AllReadyH.nil
            refine step_append_wQ valOk (by rfl) _ _ rfl rfl rfl HOA.out [u] rfl (src_at [u] HLL.out rfl rfl) (by have := HDL.out; simp only [List.length_singleton]; unfold maxLen; omega) (by have := HDL.out; simp only [List.length_singleton]; omega) HC3.out.size ?_
            intro vb x4 ho hk hv
            have HC4 := Lib.hid (HC3.out.trans_below (hk.own HC3.out.size (fun k hk => (HOA.out.lt k hk).1)))
            obtain ⟨bp, bc, rfl, hvb⟩ := ownG_vals ho
            have HVB := Lib.hid hvb
            have HBL := Lib.hid (show (D ++ [u]).length = F.length + 1 by rw [List.length_append, HDL.out.1]; rfl)
            clear ho hk hv hvb
            refine hK.out _ _ (HS.out _ HC4.out) (fun hHeld => ?_)
            clear hK K
            try simp only [Act.put, List.setIfInBounds_toArray, List.set_cons_zero, List.set_cons_succ]
            obtain ⟨N, hN⟩ : ∃ N, N = D ++ [u] := ⟨_, rfl⟩
            have HNV := Lib.hid (show allV N by rw [hN]; intro v hv; rcases List.mem_append.1 hv with h | h; exact HDV.out v h; rw [List.mem_singleton] at h; rw [h]; exact HDV.out u HUD.out)
            rw [← hN] at HVB HBL ⊢
            clear hN
            refine wpAnyH_ready (rs := [25]) (by kernel_rfl) (by simp) ?_
            refine AllReadyH.cons (o := { dst := some 78, op := Op.call { callee := Callee.value (Operand.func 19), args := #[Operand.tmp 69, Operand.tmp 77], argTypes := #[24, 25] }, type := 37, pos := "law.go:167", after := #[{ on := 16, ground := Ground.data }, { on := 24, ground := Ground.data }, { on := 24, ground := Ground.chain }, { on := 15, ground := Ground.guard }], guard := some (15, false) }) rfl (fun K hK => ?_) AllReadyH.nil
            go_simp
            refine (pfits14_any ver next p c F bp bc N _ (H.out.bel (HBY.out.trans HC4.out)) (by unfold maxLen; exact HFM.out) HVB.out (by have h1 := HBL.out; have h2 := HDL.out.2; have h3 := HF12.out.2; unfold maxLen; omega) HNV.out).mono ?_
            rintro e z9 ⟨rfl, hb⟩
            rw [show fitsE F N = 13 by unfold fitsE; rw [if_neg (by have := HBL.out; omega)]]
            have HZ9 := Lib.hid (show Bel y z9 from HC4.out.trans hb)
            clear hb
            dsimp only
            refine hK.out _ _ (HS.out _ HZ9.out) (fun hHeld => ?_)
            clear hK K
            try simp only [Act.put, List.setIfInBounds_toArray, List.set_cons_zero, List.set_cons_succ]
            refine wpAnyH_take (i := 26) (oi := { dst := some 79, op := Op.binOp BinOp.neq 37 (Operand.tmp 78) (Operand.const (Value.int IntKind.i64 13)) 37, type := 4, pos := "law.go:167", after := #[{ on := 25, ground := Ground.data }, { on := 15, ground := Ground.guard }], guard := some (15, false) }) (v := ?_) rfl (by kernel_rfl) (by kernel_rfl) (by kernel_rfl) (fun _ _ _ h => h) (Or.inl ⟨by rfl, ?_⟩) (by assumption) ?_
            rotate_left
            · (intro w hSw; (try dsimp only at hSw); first | (go_simp; done) | (go_simp; with_reducible rfl))
            try simp only [Act.put, List.setIfInBounds_toArray, List.set_cons_zero, List.set_cons_succ]
            refine wpAnyH_take (i := 27) (oi := { dst := some 80, op := Op.pick (Operand.tmp 68) (Operand.const (Value.bool true)) (Operand.tmp 79), type := 4, pos := "law.go:167", after := #[{ on := 15, ground := Ground.data }, { on := 26, ground := Ground.data }], guard := none }) (v := ?_) rfl (by kernel_rfl) (by kernel_rfl) (by kernel_rfl) (fun _ _ _ h => h) (Or.inl ⟨by rfl, ?_⟩) (by assumption) ?_
            rotate_left
            · (intro w hSw; (try dsimp only at hSw); first | (go_simp; done) | (go_simp; with_reducible rfl))
            try simp only [Act.put, List.setIfInBounds_toArray, List.set_cons_zero, List.set_cons_succ]
            refine wpAnyH_done (by kernel_rfl) ?_ _
            clear hHeld
            have HE9 := Lib.hid (HBW.out.trans HZ9.out)
            obtain ⟨s0, s1, s2⟩ := HRS.out _ HE9.out
            go_wp2_with (fail)
            clear s0 s1 s2
            refine (pput14_any 1 ver q d L _ (H'.out.bel (HB1.out.trans HE9.out)) (by unfold maxLen; exact HLM.out) HW.out (HST.out.bel (HB1.out.trans HE9.out))).mono ?_
            rintro e w10 ⟨rfl, hb⟩
            have HB10 := Lib.hid (HE9.out.trans hb)
            clear hb
            obtain ⟨px, pe, hpf⟩ := prow_form 1 ver L
            have HPF := Lib.hid hpf
            rw [hpf]
            clear hpf
            obtain ⟨s0, s1, s2⟩ := HRS.out _ HB10.out
            go_wp2_with (fail)
            clear s0 s1 s2
            refine (pfits14_any ver next p c F q d L _ (H.out.bel (HB1.out.trans HB10.out)) (by unfold maxLen; exact HFM.out) (H'.out.bel (HB1.out.trans HB10.out)) (by unfold maxLen; exact HLM.out) HW.out).mono ?_
            rintro e w11 ⟨rfl, hb⟩
            have HB11 := Lib.hid (HB10.out.trans hb)
            clear hb
            obtain ⟨s0, s1, s2⟩ := HRS.out _ HB11.out
            by_cases hfz : fitsE F L = 0
            · obtain ⟨hll, hrl⟩ := HLR.out L hfz
              have h9 := HPF.out
              rw [prow_yes hrl] at h9
              simp only [Value.tuple.injEq, Array.mk.injEq, List.cons.injEq, Value.int.injEq, and_true, true_and] at h9
              have hpe : pe = 0 := h9.2.symm
              subst hpe
              have hle : (L.length : Int) = (F.length : Int) := by omega
              rw [hfz]
              clear h9 hfz
              go_wp2_with (fail)
              go_ret
              exact ⟨rfl, HB1.out.trans HB11.out⟩
            · obtain ⟨fz, hfe⟩ : ∃ z, z = fitsE F L := ⟨_, rfl⟩
              rw [← hfe] at hfz ⊢
              clear hfe
              go_wp2_with (fail)
              go_ret
              exact ⟨rfl, HB1.out.trans HB11.out⟩

end Go.Proofs.YtbalkchphijehaaDoor
