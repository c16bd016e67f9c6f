/- moultref8.Split: the document's rows of pairs. -/
import Derived.Test.YtldkpomkgmilbaaBSplit
set_option linter.unusedSimpArgs false
set_option linter.unusedVariables false
namespace Go.Proofs.Ytldkpomkgmilbaa
open Go.RowKit Go.Deep

set_option maxHeartbeats 4000000 in
set_option maxRecDepth 20000 in
theorem rsplit_any (p : Option Addr) (cap : Nat) (L : List PB) (most : Int) (w : World) (h : PairsAt w p L) (hL : L.length ≤ 1000) (hs : smallP 100000 L) :
    Calls Try.prog 14 #[.slice p L.length cap, .int .i64 most] w (SplitPost rpairEl rrowEl L most w) := by
  have H := Lib.hid h; clear h
  have HSM := Lib.hid hs; clear hs
  go_enter Try.func14, Try.ntmps14
  go_wp2_with (fail)
  go_loopw [5, 6, 7, 8] (fun rv cv tv i x => SplitRel rpairEl rrowEl L most w rv cv tv i x) (fun _ _ _ i _ => L.length - (intOf i).toNat)
  case atStart => exact ⟨0, [], [], [], Nat.zero_le _, rfl, rfl, RowsInv.nil _ _ _ _, by simp, by simp, by simp, by simp [tot, prs], Bel.refl w⟩
  case round =>
    obtain ⟨k, HS, rows, row, hk, rfl, rfl, hinv, hsp, hrl, hcl, htot, hb⟩ := hrel
    have HSP := Lib.hid hsp; clear hsp
    have hHl := hinv.len
    obtain ⟨rp, rcap, rfl⟩ := ownG_len hinv.own
    obtain ⟨cp, ccap, rfl⟩ := ownG_len hinv.cur
    by_cases hlt : k < L.length
    · obtain ⟨a, B, O, sp, rfl, ha, c0, c1⟩ := (H.out.bel hb) k hlt
      obtain ⟨s1, s2⟩ := HSM.out k hlt
      have HT := Lib.hid (tot_prs_snoc row L[k])
      have HMO := Lib.hid (split_more hlt HSP.out)
      have HFU := Lib.hid (split_full' hlt HSP.out)
      have hbz := hb.size
      have HINV := Lib.hid hinv
      have HB := Lib.hid hb
      clear hinv hb
      have HQ := Lib.hid (show rpairEl.all [L[k]] = [.string L[k].k, .string L[k].v] from rfl)
      obtain ⟨T, hT⟩ : ∃ T, tot (prs row) = T := ⟨_, rfl⟩
      rw [hT] at HT htot ⊢
      generalize L[k].k = qk at *
      generalize L[k].v = qv at *
      have va : IntKind.i64.wrap ((T : Int) + (qk.size : Int)) = (T : Int) + (qk.size : Int) := IntWalk.i64_in _ (by omega)
      have vb : IntKind.i64.wrap ((T : Int) + (qk.size : Int) + (qv.size : Int)) = (T : Int) + (qk.size : Int) + (qv.size : Int) := IntWalk.i64_in _ (by omega)
      go_wp2_with (fail)
      --BEGIN
      obtain ⟨N0, hN0⟩ : ∃ N0, wr.heap.size = N0 := ⟨_, rfl⟩
      have HB0 := Lib.hid (Bel.refl wr)
      refine wp_region_held_drew (S := fun z => z.cell? ⟨B, O, sp⟩ = some (.string qk) ∧ z.cell? ⟨B, O + 1, none⟩ = some (.string qv)) (by kernel_rfl) ⟨c0, c1⟩ (fun hHeld => ?_)
      refine wpAnyH_take (i := 1) (oi := { dst := some 16, op := Op.move (Operand.tmp 6), type := 24, pos := "ref.go:125", after := #[], guard := none }) (v := ?_) rfl (by kernel_rfl) (by kernel_rfl) (by kernel_rfl) (fun _ _ _ h => h) (Or.inl ⟨by rfl, ?_⟩) (by assumption) ?_
      rotate_left
      · (intro w hSw; (try dsimp only at hSw); first | (go_simp; done) | (go_simp; with_reducible rfl))
      try simp only [Act.put, List.setIfInBounds_toArray, List.set_cons_zero, List.set_cons_succ]
      refine wpAnyH_take (i := 3) (oi := { dst := some 18, op := Op.move (Operand.tmp 0), type := 24, pos := "ref.go:125", after := #[], guard := none }) (v := ?_) rfl (by kernel_rfl) (by kernel_rfl) (by kernel_rfl) (fun _ _ _ h => h) (Or.inl ⟨by rfl, ?_⟩) (by assumption) ?_
      rotate_left
      · (intro w hSw; (try dsimp only at hSw); first | (go_simp; done) | (go_simp; with_reducible rfl))
      try simp only [Act.put, List.setIfInBounds_toArray, List.set_cons_zero, List.set_cons_succ]
      refine wpAnyH_take (i := 4) (oi := { dst := some 19, op := Op.move (Operand.tmp 8), type := 3, pos := "ref.go:125", after := #[], guard := none }) (v := ?_) rfl (by kernel_rfl) (by kernel_rfl) (by kernel_rfl) (fun _ _ _ h => h) (Or.inl ⟨by rfl, ?_⟩) (by assumption) ?_
      rotate_left
      · (intro w hSw; (try dsimp only at hSw); first | (go_simp; done) | (go_simp; with_reducible rfl))
      try simp only [Act.put, List.setIfInBounds_toArray, List.set_cons_zero, List.set_cons_succ]
      refine wpAnyH_take (i := 5) (oi := { dst := some 20, op := Op.indexAddr 24 (Operand.tmp 18) (Operand.tmp 19), type := 0, pos := "ref.go:125", after := #[{ on := 3, ground := Ground.data }, { on := 4, ground := Ground.data }], guard := none }) (v := ?_) rfl (by kernel_rfl) (by kernel_rfl) (by kernel_rfl) (fun _ _ _ h => h) (Or.inl ⟨by rfl, ?_⟩) (by assumption) ?_
      rotate_left
      · (intro w hSw; (try dsimp only at hSw); first | (go_simp; done) | (go_simp; with_reducible rfl))
      try simp only [Act.put, List.setIfInBounds_toArray, List.set_cons_zero, List.set_cons_succ]
      refine wpAnyH_take (i := 6) (oi := { dst := some 21, op := Op.load 54 (Operand.tmp 20), type := 54, pos := "ref.go:125", after := #[{ on := 5, ground := Ground.data }], guard := none }) (v := ?_) rfl (by kernel_rfl) (by kernel_rfl) (by kernel_rfl) (fun _ _ _ h => h) (Or.inl ⟨by rfl, ?_⟩) (by assumption) ?_
      rotate_left
      · (intro w hSw; (try dsimp only at hSw); first | (go_simp; done) | (go_simp; with_reducible rfl))
      try simp only [Act.put, List.setIfInBounds_toArray, List.set_cons_zero, List.set_cons_succ]
      refine wpAnyH_ready (rs := [0, 7]) (by kernel_rfl) (by simp) ?_
      refine (AllReadyH.cons (o := { dst := some 15, op := Op.buildSlice 24 0 #[], type := 24, pos := "ref.go:125", after := #[], guard := none }) rfl (fun K hK => ?_) (AllReadyH.cons (o := { dst := some 22, op := Op.buildSlice 24 1 #[(0, Operand.tmp 21)], type := 24, pos := "ref.go:125", after := #[{ on := 6, ground := Ground.data }], guard := none }) rfl (fun K hK => ?_) AllReadyH.nil))
      · go_simp
        have HLE := Lib.hid (show (wr.alloc (.cells #[] 54)).drew.heap[N0]? = some (.cells #[] 54) from by rw [← hN0]; exact heap_alloc_new wr (.cells #[] 54))
        have HB1 := Lib.hid (HB0.out.trans (show Bel wr (wr.alloc (.cells #[] 54)).drew from ((Bel.refl wr).alloc (.cells #[] 54)).drew))
        have hyYE : N0 ≤ wr.heap.size := by rw [← hN0]; exact HB0.out.size
        refine hK.out _ _ ⟨cell_lat HB1.out c0, cell_lat HB1.out c1⟩ (fun hHeld => ?_)
        clear hK K
        try simp only [Act.put, List.setIfInBounds_toArray, List.set_cons_zero, List.set_cons_succ]
        generalize (wr.alloc (.cells #[] 54)).drew = x1 at *
        try rw [hN0]
        obtain ⟨YE, hYEe⟩ : ∃ YE, N0 = YE := ⟨_, rfl⟩
        rw [hYEe] at HLE ⊢
        have HOE := Lib.hid (ownG_empty (E := rpairEl) (n := N0) HLE.out (by omega))
        refine wpAnyH_ready (rs := [2, 7]) (by kernel_rfl) (by simp) ?_
        refine (AllReadyH.cons (o := { dst := some 17, op := Op.call { callee := Callee.builtin Builtin.append, args := #[Operand.tmp 15, Operand.tmp 16], argTypes := #[24, 24] }, type := 24, pos := "ref.go:125", after := #[{ on := 0, ground := Ground.data }, { on := 1, ground := Ground.data }], guard := none }) rfl (fun K hK => ?_) (AllReadyH.cons (o := { dst := some 22, op := Op.buildSlice 24 1 #[(0, Operand.tmp 21)], type := 24, pos := "ref.go:125", after := #[{ on := 6, ground := Ground.data }], guard := none }) rfl (fun K hK => ?_) AllReadyH.nil))
        · refine step_append_all rpairOk rfl (.tmp 15) (.tmp 16) rfl rfl HOE.out row rfl (src_own (HINV.out.cur.bel HB1.out)) (by simp only [List.length_nil]; unfold maxLen; omega) (by simp only [List.length_nil]; omega) (by rw [← hN0]; exact HB1.out.size) ?_
          intro v2 x2 ho2 hk2 hv2
          have HB2 := Lib.hid (show Bel wr x2 from HB1.out.trans_below (hk2.own (HB1.out.size) (fun k hk => by rw [hN0]; exact (HOE.out.lt k hk).1)))
          rw [List.nil_append] at ho2
          have HO2 := Lib.hid ho2
          obtain ⟨p2, cap2, rfl⟩ := ownG_len ho2
          clear ho2 hk2 hv2
          refine hK.out _ _ ⟨cell_lat HB2.out c0, cell_lat HB2.out c1⟩ (fun hHeld => ?_)
          clear hK K
          try simp only [Act.put, List.setIfInBounds_toArray, List.set_cons_zero, List.set_cons_succ]
          refine wpAnyH_ready (rs := [7]) (by kernel_rfl) (by simp) ?_
          refine AllReadyH.cons (o := { dst := some 22, op := Op.buildSlice 24 1 #[(0, Operand.tmp 21)], type := 24, pos := "ref.go:125", after := #[{ on := 6, ground := Ground.data }], guard := none }) rfl (fun K hK => ?_) AllReadyH.nil
          go_simp
          have HLL := Lib.hid (show (x2.alloc (.cells #[.string qk, .string qv] 54)).heap[x2.heap.size]? = some (.cells #[.string qk, .string qv] 54) from heap_alloc_new x2 (.cells #[.string qk, .string qv] 54))
          have HB3 := Lib.hid (HB2.out.trans (show Bel x2 (x2.alloc (.cells #[.string qk, .string qv] 54)) from ((Bel.refl x2).alloc (.cells #[.string qk, .string qv] 54))))
          have hyYL : N0 ≤ x2.heap.size := by rw [← hN0]; exact HB2.out.size
          have HO2 := Lib.hid (HO2.out.bel (show Bel x2 (x2.alloc (.cells #[.string qk, .string qv] 54)) from (Bel.refl x2).alloc (.cells #[.string qk, .string qv] 54)))
          refine hK.out _ _ ⟨cell_lat HB3.out c0, cell_lat HB3.out c1⟩ (fun hHeld => ?_)
          clear hK K
          try simp only [Act.put, List.setIfInBounds_toArray, List.set_cons_zero, List.set_cons_succ]
          generalize (x2.alloc (.cells #[.string qk, .string qv] 54)) = x3 at *
          generalize hYLe : x2.heap.size = YL at *
          refine wpAnyH_ready (rs := [8]) (by kernel_rfl) (by simp) ?_
          refine AllReadyH.cons (o := { dst := some 23, op := Op.call { callee := Callee.builtin Builtin.append, args := #[Operand.tmp 17, Operand.tmp 22], argTypes := #[24, 24] }, type := 24, pos := "ref.go:125", after := #[{ on := 2, ground := Ground.data }, { on := 7, ground := Ground.data }, { on := 2, ground := Ground.chain }], guard := none }) rfl (fun K hK => ?_) AllReadyH.nil
          refine step_append_all rpairOk rfl (.tmp 17) (.tmp 22) rfl rfl HO2.out [L[k]] rfl (src_at [L[k]] HLL.out HQ.out.symm rfl) (by simp only [List.length_singleton]; unfold maxLen; omega) (by simp only [List.length_singleton]; omega) (by rw [← hN0]; exact HB3.out.size) ?_
          intro v8 w8 ho8 hk8 hv8
          have HBW := Lib.hid (show Bel wr w8 from HB3.out.trans_below (hk8.own (HB3.out.size) (fun k hk => by rw [hN0]; exact (HO2.out.lt k hk).1)))
          have HO8 := Lib.hid ho8
          obtain ⟨p8, cap8, rfl⟩ := ownG_len ho8
          clear ho8 hk8 hv8
          refine hK.out _ _ ⟨cell_lat HBW.out c0, cell_lat HBW.out c1⟩ (fun hHeld => ?_)
          clear hK K
          try simp only [Act.put, List.setIfInBounds_toArray, List.set_cons_zero, List.set_cons_succ]
          refine wpAnyH_take (i := 9) (oi := { dst := some 6, op := Op.assign (Operand.tmp 23), type := 24, pos := "ref.go:125", after := #[{ on := 8, ground := Ground.data }, { on := 8, ground := Ground.chain }, { on := 0, ground := Ground.phase }, { on := 1, ground := Ground.phase }, { on := 2, ground := Ground.phase }, { on := 3, ground := Ground.phase }, { on := 4, ground := Ground.phase }, { on := 5, ground := Ground.phase }, { on := 6, ground := Ground.phase }, { on := 7, ground := Ground.phase }, { on := 8, ground := Ground.phase }], guard := none }) (v := ?_) rfl (by kernel_rfl) (by kernel_rfl) (by kernel_rfl) (fun _ _ _ h => h) (Or.inl ⟨by rfl, ?_⟩) (by assumption) ?_
          rotate_left
          · (intro w hSw; (try dsimp only at hSw); first | (go_simp; done) | (go_simp; with_reducible rfl))
          try simp only [Act.put, List.setIfInBounds_toArray, List.set_cons_zero, List.set_cons_succ]
          refine wpAnyH_done (by kernel_rfl) ?_ _
          replace c0 := cell_lat HBW.out c0
          replace c1 := cell_lat HBW.out c1
          have HI8 := Lib.hid (HINV.out.grow (by decide) (HO8.out.low (B' := w.heap.size) (by omega)) (Keep.of_bel HBW.out _) (Or.inr (fun k hk => by have := (HO8.out.lt k hk).1; omega)))
          have HB8 := Lib.hid (HB.out.trans HBW.out)
          replace HI8 := Lib.hid (by have h9 := HI8.out; rw [hHl, List.length_append, List.length_singleton] at h9; exact h9)
          have hT2 : ((tot (prs (row ++ [L[k]])) : Nat) : Int) = (T : Int) + (qk.size : Int) + (qv.size : Int) := by rw [HT.out]; simp
          clear HB HBW HINV HO8 HO2 HLL HOE hN0 hHeld
          by_cases hfull : most ≤ (T : Int) + (qk.size : Int) + (qv.size : Int)
          · have HS2 := Lib.hid (HFU.out (by rw [hT2]; exact hfull))
            clear hT2
            go_wp2_with (fail)
            go_quiet (fail)
            have HI9 := Lib.hid (HI8.out.bel ((Bel.refl w8).drewN nq))
            have HB9 := Lib.hid (HB8.out.drewN nq)
            generalize w8.drewN nq = w9 at *
            have hl3 := heap_alloc_new w9 (.cells #[.slice p8 (row.length + 1) cap8] 24)
            have HI4 := Lib.hid (HI9.out.bel ((Bel.refl w9).alloc (.cells #[.slice p8 (row.length + 1) cap8] 24)))
            have hz4 : w.heap.size ≤ (w9.alloc (.cells #[.slice p8 (row.length + 1) cap8] 24)).heap.size := (HB9.out.alloc _).size
            have HB4 := Lib.hid (HB9.out.alloc (.cells #[.slice p8 (row.length + 1) cap8] 24))
            go_wp2_with (at_builtin; refine stop_here ?_)
            refine go_on ?_
            refine append_all rrowOk rfl _ _ rfl rfl HI4.out.own [SL.mk p8 (row.length + 1) cap8] rfl (src_at [SL.mk p8 (row.length + 1) cap8] hl3 rfl rfl) (by simp only [List.length_singleton]; unfold maxLen; omega) (by simp only [List.length_singleton]; omega) hz4 ?_
            intro v5 w5 ho5 hk5 hv5
            have HI5 := Lib.hid (HI4.out.push (by decide) (s := ⟨p8, row.length + 1, cap8⟩) rfl ho5 hk5)
            have HB5 := Lib.hid (HB4.out.trans_below (hk5.own hz4 (fun k hk => (HI4.out.own.lt k hk).1)))
            clear ho5 hk5 hv5 hl3
            go_wp2_with (fail)
            go_roundw
            case rel => exact ⟨k + 1, HS ++ [⟨p8, row.length + 1, cap8⟩], rows ++ [row ++ [L[k]]], [], hlt, by go_num, by simp [tot, prs], HI5.out, HS2.out, by simp; omega, by simp, by simp [tot, prs], HB5.out⟩
            case measure => simp [intOf]; omega
          · have HS2 := Lib.hid (HMO.out (by rw [hT2]; omega))
            have HT3 := Lib.hid HT.out
            clear hT2
            go_wp2_with (fail)
            go_quiet (fail)
            go_wp2_with (fail)
            go_roundw
            case rel => exact ⟨k + 1, HS, rows, row ++ [L[k]], hlt, by go_num, by rw [HT3.out]; simp, HI8.out.bel ((Bel.refl w8).drewN _), HS2.out, by omega, by simp; omega, by rw [HT3.out]; omega, HB8.out.drewN _⟩
            case measure => simp [intOf]; omega
        · go_simp
          have HLL := Lib.hid (show (x1.alloc (.cells #[.string qk, .string qv] 54)).heap[x1.heap.size]? = some (.cells #[.string qk, .string qv] 54) from heap_alloc_new x1 (.cells #[.string qk, .string qv] 54))
          have HB2 := Lib.hid (HB1.out.trans (show Bel x1 (x1.alloc (.cells #[.string qk, .string qv] 54)) from ((Bel.refl x1).alloc (.cells #[.string qk, .string qv] 54))))
          have hyYL : N0 ≤ x1.heap.size := by rw [← hN0]; exact HB1.out.size
          have hlt2 : YE < x1.heap.size := (Array.getElem?_eq_some_iff.1 HLE.out).1
          have HOE := Lib.hid (HOE.out.bel (show Bel x1 (x1.alloc (.cells #[.string qk, .string qv] 54)) from (Bel.refl x1).alloc (.cells #[.string qk, .string qv] 54)))
          refine hK.out _ _ ⟨cell_lat HB2.out c0, cell_lat HB2.out c1⟩ (fun hHeld => ?_)
          clear hK K
          try simp only [Act.put, List.setIfInBounds_toArray, List.set_cons_zero, List.set_cons_succ]
          generalize (x1.alloc (.cells #[.string qk, .string qv] 54)) = x2 at *
          generalize hYLe : x1.heap.size = YL at *
          refine wpAnyH_ready (rs := [2]) (by kernel_rfl) (by simp) ?_
          refine AllReadyH.cons (o := { dst := some 17, op := Op.call { callee := Callee.builtin Builtin.append, args := #[Operand.tmp 15, Operand.tmp 16], argTypes := #[24, 24] }, type := 24, pos := "ref.go:125", after := #[{ on := 0, ground := Ground.data }, { on := 1, ground := Ground.data }], guard := none }) rfl (fun K hK => ?_) AllReadyH.nil
          refine step_append_all rpairOk rfl (.tmp 15) (.tmp 16) rfl rfl HOE.out row rfl (src_own (HINV.out.cur.bel HB2.out)) (by simp only [List.length_nil]; unfold maxLen; omega) (by simp only [List.length_nil]; omega) (by rw [← hN0]; exact HB2.out.size) ?_
          intro v2 x3 ho2 hk2 hv2
          have HB3 := Lib.hid (show Bel wr x3 from HB2.out.trans_below (hk2.own (HB2.out.size) (fun k hk => by rw [hN0]; exact (HOE.out.lt k hk).1)))
          rw [List.nil_append] at ho2
          have HO2 := Lib.hid ho2
          obtain ⟨p2, cap2, rfl⟩ := ownG_len ho2
          replace HLL := Lib.hid (hk2.at HLL.out (fun hm => by rw [Option.mem_toList] at hm; have e : some YE = some YL := hm; rw [Option.some.injEq] at e; omega))
          clear ho2 hk2 hv2
          refine hK.out _ _ ⟨cell_lat HB3.out c0, cell_lat HB3.out c1⟩ (fun hHeld => ?_)
          clear hK K
          try simp only [Act.put, List.setIfInBounds_toArray, List.set_cons_zero, List.set_cons_succ]
          refine wpAnyH_ready (rs := [8]) (by kernel_rfl) (by simp) ?_
          refine AllReadyH.cons (o := { dst := some 23, op := Op.call { callee := Callee.builtin Builtin.append, args := #[Operand.tmp 17, Operand.tmp 22], argTypes := #[24, 24] }, type := 24, pos := "ref.go:125", after := #[{ on := 2, ground := Ground.data }, { on := 7, ground := Ground.data }, { on := 2, ground := Ground.chain }], guard := none }) rfl (fun K hK => ?_) AllReadyH.nil
          refine step_append_all rpairOk rfl (.tmp 17) (.tmp 22) rfl rfl HO2.out [L[k]] rfl (src_at [L[k]] HLL.out HQ.out.symm rfl) (by simp only [List.length_singleton]; unfold maxLen; omega) (by simp only [List.length_singleton]; omega) (by rw [← hN0]; exact HB3.out.size) ?_
          intro v8 w8 ho8 hk8 hv8
          have HBW := Lib.hid (show Bel wr w8 from HB3.out.trans_below (hk8.own (HB3.out.size) (fun k hk => by rw [hN0]; exact (HO2.out.lt k hk).1)))
          have HO8 := Lib.hid ho8
          obtain ⟨p8, cap8, rfl⟩ := ownG_len ho8
          clear ho8 hk8 hv8
          refine hK.out _ _ ⟨cell_lat HBW.out c0, cell_lat HBW.out c1⟩ (fun hHeld => ?_)
          clear hK K
          try simp only [Act.put, List.setIfInBounds_toArray, List.set_cons_zero, List.set_cons_succ]
          refine wpAnyH_take (i := 9) (oi := { dst := some 6, op := Op.assign (Operand.tmp 23), type := 24, pos := "ref.go:125", after := #[{ on := 8, ground := Ground.data }, { on := 8, ground := Ground.chain }, { on := 0, ground := Ground.phase }, { on := 1, ground := Ground.phase }, { on := 2, ground := Ground.phase }, { on := 3, ground := Ground.phase }, { on := 4, ground := Ground.phase }, { on := 5, ground := Ground.phase }, { on := 6, ground := Ground.phase }, { on := 7, ground := Ground.phase }, { on := 8, ground := Ground.phase }], guard := none }) (v := ?_) rfl (by kernel_rfl) (by kernel_rfl) (by kernel_rfl) (fun _ _ _ h => h) (Or.inl ⟨by rfl, ?_⟩) (by assumption) ?_
          rotate_left
          · (intro w hSw; (try dsimp only at hSw); first | (go_simp; done) | (go_simp; with_reducible rfl))
          try simp only [Act.put, List.setIfInBounds_toArray, List.set_cons_zero, List.set_cons_succ]
          refine wpAnyH_done (by kernel_rfl) ?_ _
          replace c0 := cell_lat HBW.out c0
          replace c1 := cell_lat HBW.out c1
          have HI8 := Lib.hid (HINV.out.grow (by decide) (HO8.out.low (B' := w.heap.size) (by omega)) (Keep.of_bel HBW.out _) (Or.inr (fun k hk => by have := (HO8.out.lt k hk).1; omega)))
          have HB8 := Lib.hid (HB.out.trans HBW.out)
          replace HI8 := Lib.hid (by have h9 := HI8.out; rw [hHl, List.length_append, List.length_singleton] at h9; exact h9)
          have hT2 : ((tot (prs (row ++ [L[k]])) : Nat) : Int) = (T : Int) + (qk.size : Int) + (qv.size : Int) := by rw [HT.out]; simp
          clear HB HBW HINV HO8 HO2 HLL HOE hN0 hHeld
          by_cases hfull : most ≤ (T : Int) + (qk.size : Int) + (qv.size : Int)
          · have HS2 := Lib.hid (HFU.out (by rw [hT2]; exact hfull))
            clear hT2
            go_wp2_with (fail)
            go_quiet (fail)
            have HI9 := Lib.hid (HI8.out.bel ((Bel.refl w8).drewN nq))
            have HB9 := Lib.hid (HB8.out.drewN nq)
            generalize w8.drewN nq = w9 at *
            have hl3 := heap_alloc_new w9 (.cells #[.slice p8 (row.length + 1) cap8] 24)
            have HI4 := Lib.hid (HI9.out.bel ((Bel.refl w9).alloc (.cells #[.slice p8 (row.length + 1) cap8] 24)))
            have hz4 : w.heap.size ≤ (w9.alloc (.cells #[.slice p8 (row.length + 1) cap8] 24)).heap.size := (HB9.out.alloc _).size
            have HB4 := Lib.hid (HB9.out.alloc (.cells #[.slice p8 (row.length + 1) cap8] 24))
            go_wp2_with (at_builtin; refine stop_here ?_)
            refine go_on ?_
            refine append_all rrowOk rfl _ _ rfl rfl HI4.out.own [SL.mk p8 (row.length + 1) cap8] rfl (src_at [SL.mk p8 (row.length + 1) cap8] hl3 rfl rfl) (by simp only [List.length_singleton]; unfold maxLen; omega) (by simp only [List.length_singleton]; omega) hz4 ?_
            intro v5 w5 ho5 hk5 hv5
            have HI5 := Lib.hid (HI4.out.push (by decide) (s := ⟨p8, row.length + 1, cap8⟩) rfl ho5 hk5)
            have HB5 := Lib.hid (HB4.out.trans_below (hk5.own hz4 (fun k hk => (HI4.out.own.lt k hk).1)))
            clear ho5 hk5 hv5 hl3
            go_wp2_with (fail)
            go_roundw
            case rel => exact ⟨k + 1, HS ++ [⟨p8, row.length + 1, cap8⟩], rows ++ [row ++ [L[k]]], [], hlt, by go_num, by simp [tot, prs], HI5.out, HS2.out, by simp; omega, by simp, by simp [tot, prs], HB5.out⟩
            case measure => simp [intOf]; omega
          · have HS2 := Lib.hid (HMO.out (by rw [hT2]; omega))
            have HT3 := Lib.hid HT.out
            clear hT2
            go_wp2_with (fail)
            go_quiet (fail)
            go_wp2_with (fail)
            go_roundw
            case rel => exact ⟨k + 1, HS, rows, row ++ [L[k]], hlt, by go_num, by rw [HT3.out]; simp, HI8.out.bel ((Bel.refl w8).drewN _), HS2.out, by omega, by simp; omega, by rw [HT3.out]; omega, HB8.out.drewN _⟩
            case measure => simp [intOf]; omega
      · go_simp
        have HLL := Lib.hid (show (wr.alloc (.cells #[.string qk, .string qv] 54)).drew.heap[N0]? = some (.cells #[.string qk, .string qv] 54) from by rw [← hN0]; exact heap_alloc_new wr (.cells #[.string qk, .string qv] 54))
        have HB1 := Lib.hid (HB0.out.trans (show Bel wr (wr.alloc (.cells #[.string qk, .string qv] 54)).drew from ((Bel.refl wr).alloc (.cells #[.string qk, .string qv] 54)).drew))
        have hyYL : N0 ≤ wr.heap.size := by rw [← hN0]; exact HB0.out.size
        refine hK.out _ _ ⟨cell_lat HB1.out c0, cell_lat HB1.out c1⟩ (fun hHeld => ?_)
        clear hK K
        try simp only [Act.put, List.setIfInBounds_toArray, List.set_cons_zero, List.set_cons_succ]
        generalize (wr.alloc (.cells #[.string qk, .string qv] 54)).drew = x1 at *
        try rw [hN0]
        obtain ⟨YL, hYLe⟩ : ∃ YL, N0 = YL := ⟨_, rfl⟩
        rw [hYLe] at HLL ⊢
        refine wpAnyH_ready (rs := [0]) (by kernel_rfl) (by simp) ?_
        refine AllReadyH.cons (o := { dst := some 15, op := Op.buildSlice 24 0 #[], type := 24, pos := "ref.go:125", after := #[], guard := none }) rfl (fun K hK => ?_) AllReadyH.nil
        go_simp
        have HLE := Lib.hid (show (x1.alloc (.cells #[] 54)).heap[x1.heap.size]? = some (.cells #[] 54) from heap_alloc_new x1 (.cells #[] 54))
        have HB2 := Lib.hid (HB1.out.trans (show Bel x1 (x1.alloc (.cells #[] 54)) from ((Bel.refl x1).alloc (.cells #[] 54))))
        have hyYE : N0 ≤ x1.heap.size := by rw [← hN0]; exact HB1.out.size
        have hlt2 : YL < x1.heap.size := (Array.getElem?_eq_some_iff.1 HLL.out).1
        replace HLL := Lib.hid ((Below.block (show Bel x1 (x1.alloc (.cells #[] 54)) from (Bel.refl x1).alloc (.cells #[] 54)) YL (Array.getElem?_eq_some_iff.1 HLL.out).1).trans HLL.out)
        refine hK.out _ _ ⟨cell_lat HB2.out c0, cell_lat HB2.out c1⟩ (fun hHeld => ?_)
        clear hK K
        try simp only [Act.put, List.setIfInBounds_toArray, List.set_cons_zero, List.set_cons_succ]
        generalize (x1.alloc (.cells #[] 54)) = x2 at *
        generalize hYEe : x1.heap.size = YE at *
        have HOE := Lib.hid (ownG_empty (E := rpairEl) (n := N0) HLE.out (by omega))
        refine wpAnyH_ready (rs := [2]) (by kernel_rfl) (by simp) ?_
        refine AllReadyH.cons (o := { dst := some 17, op := Op.call { callee := Callee.builtin Builtin.append, args := #[Operand.tmp 15, Operand.tmp 16], argTypes := #[24, 24] }, type := 24, pos := "ref.go:125", after := #[{ on := 0, ground := Ground.data }, { on := 1, ground := Ground.data }], guard := none }) rfl (fun K hK => ?_) AllReadyH.nil
        refine step_append_all rpairOk rfl (.tmp 15) (.tmp 16) rfl rfl HOE.out row rfl (src_own (HINV.out.cur.bel HB2.out)) (by simp only [List.length_nil]; unfold maxLen; omega) (by simp only [List.length_nil]; omega) (by rw [← hN0]; exact HB2.out.size) ?_
        intro v2 x3 ho2 hk2 hv2
        have HB3 := Lib.hid (show Bel wr x3 from HB2.out.trans_below (hk2.own (HB2.out.size) (fun k hk => by rw [hN0]; exact (HOE.out.lt k hk).1)))
        rw [List.nil_append] at ho2
        have HO2 := Lib.hid ho2
        obtain ⟨p2, cap2, rfl⟩ := ownG_len ho2
        replace HLL := Lib.hid (hk2.at HLL.out (fun hm => by rw [Option.mem_toList] at hm; have e : some YE = some YL := hm; rw [Option.some.injEq] at e; omega))
        clear ho2 hk2 hv2
        refine hK.out _ _ ⟨cell_lat HB3.out c0, cell_lat HB3.out c1⟩ (fun hHeld => ?_)
        clear hK K
        try simp only [Act.put, List.setIfInBounds_toArray, List.set_cons_zero, List.set_cons_succ]
        refine wpAnyH_ready (rs := [8]) (by kernel_rfl) (by simp) ?_
        refine AllReadyH.cons (o := { dst := some 23, op := Op.call { callee := Callee.builtin Builtin.append, args := #[Operand.tmp 17, Operand.tmp 22], argTypes := #[24, 24] }, type := 24, pos := "ref.go:125", after := #[{ on := 2, ground := Ground.data }, { on := 7, ground := Ground.data }, { on := 2, ground := Ground.chain }], guard := none }) rfl (fun K hK => ?_) AllReadyH.nil
        refine step_append_all rpairOk rfl (.tmp 17) (.tmp 22) rfl rfl HO2.out [L[k]] rfl (src_at [L[k]] HLL.out HQ.out.symm rfl) (by simp only [List.length_singleton]; unfold maxLen; omega) (by simp only [List.length_singleton]; omega) (by rw [← hN0]; exact HB3.out.size) ?_
        intro v8 w8 ho8 hk8 hv8
        have HBW := Lib.hid (show Bel wr w8 from HB3.out.trans_below (hk8.own (HB3.out.size) (fun k hk => by rw [hN0]; exact (HO2.out.lt k hk).1)))
        have HO8 := Lib.hid ho8
        obtain ⟨p8, cap8, rfl⟩ := ownG_len ho8
        clear ho8 hk8 hv8
        refine hK.out _ _ ⟨cell_lat HBW.out c0, cell_lat HBW.out c1⟩ (fun hHeld => ?_)
        clear hK K
        try simp only [Act.put, List.setIfInBounds_toArray, List.set_cons_zero, List.set_cons_succ]
        refine wpAnyH_take (i := 9) (oi := { dst := some 6, op := Op.assign (Operand.tmp 23), type := 24, pos := "ref.go:125", after := #[{ on := 8, ground := Ground.data }, { on := 8, ground := Ground.chain }, { on := 0, ground := Ground.phase }, { on := 1, ground := Ground.phase }, { on := 2, ground := Ground.phase }, { on := 3, ground := Ground.phase }, { on := 4, ground := Ground.phase }, { on := 5, ground := Ground.phase }, { on := 6, ground := Ground.phase }, { on := 7, ground := Ground.phase }, { on := 8, ground := Ground.phase }], guard := none }) (v := ?_) rfl (by kernel_rfl) (by kernel_rfl) (by kernel_rfl) (fun _ _ _ h => h) (Or.inl ⟨by rfl, ?_⟩) (by assumption) ?_
        rotate_left
        · (intro w hSw; (try dsimp only at hSw); first | (go_simp; done) | (go_simp; with_reducible rfl))
        try simp only [Act.put, List.setIfInBounds_toArray, List.set_cons_zero, List.set_cons_succ]
        refine wpAnyH_done (by kernel_rfl) ?_ _
        replace c0 := cell_lat HBW.out c0
        replace c1 := cell_lat HBW.out c1
        have HI8 := Lib.hid (HINV.out.grow (by decide) (HO8.out.low (B' := w.heap.size) (by omega)) (Keep.of_bel HBW.out _) (Or.inr (fun k hk => by have := (HO8.out.lt k hk).1; omega)))
        have HB8 := Lib.hid (HB.out.trans HBW.out)
        replace HI8 := Lib.hid (by have h9 := HI8.out; rw [hHl, List.length_append, List.length_singleton] at h9; exact h9)
        have hT2 : ((tot (prs (row ++ [L[k]])) : Nat) : Int) = (T : Int) + (qk.size : Int) + (qv.size : Int) := by rw [HT.out]; simp
        clear HB HBW HINV HO8 HO2 HLL HOE hN0 hHeld
        by_cases hfull : most ≤ (T : Int) + (qk.size : Int) + (qv.size : Int)
        · have HS2 := Lib.hid (HFU.out (by rw [hT2]; exact hfull))
          clear hT2
          go_wp2_with (fail)
          go_quiet (fail)
          have HI9 := Lib.hid (HI8.out.bel ((Bel.refl w8).drewN nq))
          have HB9 := Lib.hid (HB8.out.drewN nq)
          generalize w8.drewN nq = w9 at *
          have hl3 := heap_alloc_new w9 (.cells #[.slice p8 (row.length + 1) cap8] 24)
          have HI4 := Lib.hid (HI9.out.bel ((Bel.refl w9).alloc (.cells #[.slice p8 (row.length + 1) cap8] 24)))
          have hz4 : w.heap.size ≤ (w9.alloc (.cells #[.slice p8 (row.length + 1) cap8] 24)).heap.size := (HB9.out.alloc _).size
          have HB4 := Lib.hid (HB9.out.alloc (.cells #[.slice p8 (row.length + 1) cap8] 24))
          go_wp2_with (at_builtin; refine stop_here ?_)
          refine go_on ?_
          refine append_all rrowOk rfl _ _ rfl rfl HI4.out.own [SL.mk p8 (row.length + 1) cap8] rfl (src_at [SL.mk p8 (row.length + 1) cap8] hl3 rfl rfl) (by simp only [List.length_singleton]; unfold maxLen; omega) (by simp only [List.length_singleton]; omega) hz4 ?_
          intro v5 w5 ho5 hk5 hv5
          have HI5 := Lib.hid (HI4.out.push (by decide) (s := ⟨p8, row.length + 1, cap8⟩) rfl ho5 hk5)
          have HB5 := Lib.hid (HB4.out.trans_below (hk5.own hz4 (fun k hk => (HI4.out.own.lt k hk).1)))
          clear ho5 hk5 hv5 hl3
          go_wp2_with (fail)
          go_roundw
          case rel => exact ⟨k + 1, HS ++ [⟨p8, row.length + 1, cap8⟩], rows ++ [row ++ [L[k]]], [], hlt, by go_num, by simp [tot, prs], HI5.out, HS2.out, by simp; omega, by simp, by simp [tot, prs], HB5.out⟩
          case measure => simp [intOf]; omega
        · have HS2 := Lib.hid (HMO.out (by rw [hT2]; omega))
          have HT3 := Lib.hid HT.out
          clear hT2
          go_wp2_with (fail)
          go_quiet (fail)
          go_wp2_with (fail)
          go_roundw
          case rel => exact ⟨k + 1, HS, rows, row ++ [L[k]], hlt, by go_num, by rw [HT3.out]; simp, HI8.out.bel ((Bel.refl w8).drewN _), HS2.out, by omega, by simp; omega, by rw [HT3.out]; omega, HB8.out.drewN _⟩
          case measure => simp [intOf]; omega
      --END
    · have hd : L.drop k = [] := List.drop_eq_nil_of_le (by omega)
      have hsp := HSP.out
      rw [hd, splitB] at hsp
      by_cases hr0 : row = []
      · rw [if_pos hr0, List.append_nil] at hsp
        subst hr0
        have HSP2 := Lib.hid hsp
        have HINV := Lib.hid hinv
        have HB := Lib.hid hb
        clear hsp hinv hb HSP
        go_wp2_with (fail)
        go_ret
        exact ⟨_, HS, _, [], rfl, by rw [HSP2.out]; exact HINV.out, HB.out⟩
      · rw [if_neg hr0] at hsp
        have HSP2 := Lib.hid hsp
        have hpos := List.length_pos_iff.2 hr0
        have HI3 := Lib.hid hinv
        have HB3 := Lib.hid hb
        clear hsp hinv hb HSP
        have hl3 := heap_alloc_new wr (.cells #[.slice cp row.length ccap] 24)
        have HI4 := Lib.hid (HI3.out.bel ((Bel.refl wr).alloc (.cells #[.slice cp row.length ccap] 24)))
        have hz4 : w.heap.size ≤ (wr.alloc (.cells #[.slice cp row.length ccap] 24)).heap.size := (HB3.out.alloc _).size
        have HB4 := Lib.hid (HB3.out.alloc (.cells #[.slice cp row.length ccap] 24))
        go_wp2_with (at_builtin; refine stop_here ?_)
        refine go_on ?_
        refine append_all rrowOk rfl _ _ rfl rfl HI4.out.own [SL.mk cp row.length ccap] rfl (src_at [SL.mk cp row.length ccap] hl3 rfl rfl) (by simp only [List.length_singleton]; unfold maxLen; omega) (by simp only [List.length_singleton]; omega) hz4 ?_
        intro v5 w5 ho5 hk5 hv5
        have HI5 := Lib.hid (HI4.out.push (by decide) (s := ⟨cp, row.length, ccap⟩) rfl ho5 hk5)
        have HB5 := Lib.hid (HB4.out.trans_below (hk5.own hz4 (fun k hk => (HI4.out.own.lt k hk).1)))
        obtain ⟨rp5, rcap5, rfl⟩ := ownG_len ho5
        clear ho5 hk5 hv5 hl3
        have hHl5 : (HS ++ [SL.mk cp row.length ccap]).length = rows.length + 1 := by rw [List.length_append, hHl]; rfl
        replace HI5 := Lib.hid (by have h9 := HI5.out; rw [hHl5] at h9; exact h9)
        go_wp2_with (fail)
        go_ret
        exact ⟨_, _, _, _, rfl, by rw [HSP2.out]; exact HI5.out, HB5.out⟩
end Go.Proofs.Ytldkpomkgmilbaa
