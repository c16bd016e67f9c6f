/- block.Split: pairs cut into rows. -/
import Derived.Test.YtldkpomkgmilbaaBRBuild
import Derived.Test.YtldkpomkgmilbaaBOwn
set_option linter.unusedSimpArgs false
set_option linter.unusedVariables false
namespace Go.Proofs.Ytldkpomkgmilbaa
open Go.RowKit Go.Deep

def rowEl : El SL := ⟨22, 31, 1, fun s => [s.val]⟩
theorem rowOk : ElOk rowEl 24 := ⟨fun _ => rfl, fun a u hu => by simp [rowEl] at hu; subst hu; rfl, by kernel_rfl, ⟨.slice none 0 0, by kernel_rfl, rfl⟩, by decide⟩
def rrowEl : El SL := ⟨24, 33, 1, fun s => [s.val]⟩
theorem rrowOk : ElOk rrowEl 24 := ⟨fun _ => rfl, fun a u hu => by simp [rrowEl] at hu; subst hu; rfl, by kernel_rfl, ⟨.slice none 0 0, by kernel_rfl, rfl⟩, by decide⟩
/-- Pairs' rows, as splitF has them. -/
def splitB (most : Int) : List PB → List PB → List (List PB)
  | [], row => if row = [] then [] else [row]
  | p :: L, row => if most ≤ (tot (prs (row ++ [p])) : Nat) then (row ++ [p]) :: splitB most L [] else splitB most L (row ++ [p])
theorem splitB_prs (most : Int) : ∀ (L row : List PB), (splitB most L row).map prs = splitF most (prs L) (prs row)
  | [], row => by
    unfold splitB
    show _ = splitF most [] (prs row)
    unfold splitF
    by_cases h : row = []
    · subst h; rfl
    · rw [if_neg h, if_neg (by intro e; exact h (by simpa [prs] using e))]; rfl
  | p :: L, row => by
    unfold splitB
    show _ = splitF most (p.pr :: prs L) (prs row)
    unfold splitF
    rw [show prs row ++ [p.pr] = prs (row ++ [p]) by rw [prs_app]; rfl]
    split
    · rw [List.map_cons, splitB_prs most L []]; rfl
    · rw [splitB_prs most L (row ++ [p])]
/-- Rows of a call's own. -/
def RowsAt {E : El PB} (R : El SL) (n : Nat) (x : World) (v : Value) (rows : List (List PB)) : Prop := ∃ H, RowsInv E R n x v (.slice none 0 0) H rows []
def SplitRel (E : El PB) (R : El SL) (L : List PB) (most : Int) (w : World) (rv cv tv i : Value) (x : World) : Prop :=
  ∃ (k : Nat) (H : List SL) (rows : List (List PB)) (row : List PB), k ≤ L.length ∧ i = .int .i64 k ∧ tv = .int .i64 (tot (prs row) : Nat) ∧ RowsInv E R w.heap.size x rv cv H rows row ∧
    splitB most L [] = rows ++ splitB most (L.drop k) row ∧ rows.length ≤ k ∧ row.length ≤ k ∧ tot (prs row) ≤ k * 200000 ∧ Bel w x
def SplitPost (E : El PB) (R : El SL) (L : List PB) (most : Int) (w : World) (e : Ending) (w' : World) : Prop :=
  ∃ v H cv row, e = .returned v ∧ RowsInv E R w.heap.size w' v cv H (splitB most L []) row ∧ Bel w w'
theorem split_more {most : Int} {L : List PB} {k : Nat} (hlt : k < L.length) {rows : List (List PB)} {row : List PB} (h : splitB most L [] = rows ++ splitB most (L.drop k) row) (hn : ¬ most ≤ ((tot (prs (row ++ [L[k]])) : Nat) : Int)) :
    splitB most L [] = rows ++ splitB most (L.drop (k + 1)) (row ++ [L[k]]) := by
  rw [h, List.drop_eq_getElem_cons hlt, splitB, if_neg hn]
theorem split_full' {most : Int} {L : List PB} {k : Nat} (hlt : k < L.length) {rows : List (List PB)} {row : List PB} (h : splitB most L [] = rows ++ splitB most (L.drop k) row) (hn : most ≤ ((tot (prs (row ++ [L[k]])) : Nat) : Int)) :
    splitB most L [] = (rows ++ [row ++ [L[k]]]) ++ splitB most (L.drop (k + 1)) [] := by
  rw [h, List.drop_eq_getElem_cons hlt, splitB, if_pos hn]; simp
theorem tot_prs_snoc (row : List PB) (p : PB) : tot (prs (row ++ [p])) = tot (prs row) + p.k.size + p.v.size := by
  rw [prs_app, show prs [p] = [p.pr] from rfl, tot_snoc]; rfl

set_option maxHeartbeats 4000000 in
set_option maxRecDepth 20000 in
theorem split_any (p : Option Addr) (cap : Nat) (L : List PB) (most : Int) (w : World) (h : PairsAt w p L) (hL : L.length ≤ 1000) (hs : smallP 100000 L) :
    Calls Try.prog 13 #[.slice p L.length cap, .int .i64 most] w (SplitPost pairEl rowEl L most w) := by
  have H := Lib.hid h; clear h
  have HSM := Lib.hid hs; clear hs
  go_enter Try.func13, Try.ntmps13
  go_wp2_with (fail)
  go_loopw [5, 6, 7, 12] (fun rv cv tv i x => SplitRel pairEl rowEl L most w rv cv tv i x) (fun _ _ _ i _ => L.length - (intOf i).toNat)
  case atStart => exact ⟨0, [], [], [], Nat.zero_le _, rfl, rfl, RowsInv.nil _ _ _ _, by simp, by simp, by simp, by simp [tot, prs], Bel.refl w⟩
  case round =>
    obtain ⟨k, HS, rows, row, hk, rfl, rfl, hinv, hsp, hrl, hcl, htot, hb⟩ := hrel
    have HSP := Lib.hid hsp; clear hsp
    have hHl := hinv.len
    obtain ⟨rp, rcap, rfl⟩ := ownG_len hinv.own
    obtain ⟨cp, ccap, rfl⟩ := ownG_len hinv.cur
    by_cases hlt : k < L.length
    · obtain ⟨a, B, O, sp, rfl, ha, c0, c1⟩ := (H.out.bel hb) k hlt
      obtain ⟨s1, s2⟩ := HSM.out k hlt
      have HT := Lib.hid (tot_prs_snoc row L[k])
      have HMO := Lib.hid (split_more hlt HSP.out)
      have HFU := Lib.hid (split_full' hlt HSP.out)
      have hbz := hb.size
      have HINV := Lib.hid (hinv.bel ((Bel.refl wr).alloc (.cells #[.string L[k].k, .string L[k].v] 50)))
      have HB := Lib.hid (hb.alloc (.cells #[.string L[k].k, .string L[k].v] 50))
      have d0 : (wr.alloc (.cells #[.string L[k].k, .string L[k].v] 50)).cell? ⟨wr.heap.size, 0, none⟩ = some (.string L[k].k) := (World.cell?_alloc_new ..).trans (by simp)
      have d1 : (wr.alloc (.cells #[.string L[k].k, .string L[k].v] 50)).cell? ⟨wr.heap.size, 1, none⟩ = some (.string L[k].v) := (World.cell?_alloc_new ..).trans (by simp)
      have hsz : wr.heap.size < (wr.alloc (.cells #[.string L[k].k, .string L[k].v] 50)).heap.size := by simp
      have hcx : ∀ k, (Value.slice cp row.length ccap).ownBlock = some k → k < wr.heap.size := fun k hk => (hinv.cur.lt k hk).2
      clear hinv hb
      have HQ := Lib.hid (show pairEl.all [L[k]] = [.string L[k].k, .string L[k].v] from rfl)
      obtain ⟨T, hT⟩ : ∃ T, tot (prs row) = T := ⟨_, rfl⟩
      rw [hT] at HT htot ⊢
      generalize L[k].k = qk at *
      generalize L[k].v = qv at *
      have va : IntKind.i64.wrap ((T : Int) + (qk.size : Int)) = (T : Int) + (qk.size : Int) := IntWalk.i64_in _ (by omega)
      have vb : IntKind.i64.wrap ((T : Int) + (qk.size : Int) + (qv.size : Int)) = (T : Int) + (qk.size : Int) + (qv.size : Int) := IntWalk.i64_in _ (by omega)
      go_wp2_with (fail)
      generalize (wr.alloc (.cells #[.string qk, .string qv] 50)) = w1 at *
      obtain ⟨X, hX⟩ : ∃ X, wr.heap.size = X := ⟨_, rfl⟩
      rw [hX] at d0 d1 hsz hcx ⊢
      have hw1 : w.heap.size ≤ w1.heap.size := by omega
      refine wp_region_held_drew (S := fun z => z.cell? ⟨X, 0, none⟩ = some (.string qk) ∧ z.cell? ⟨X, 1, none⟩ = some (.string qv)) (by kernel_rfl) ⟨d0, d1⟩ (fun hHeld => ?_)
      refine wpAnyH_take (i := 0) (oi := { dst := some 16, op := Op.move (Operand.tmp 6), type := 22, pos := "block.go:88", after := #[], guard := none }) (v := ?_) rfl (by kernel_rfl) (by kernel_rfl) (by kernel_rfl) (fun _ _ _ h => h) (Or.inl ⟨by rfl, ?_⟩) (by assumption) ?_
      rotate_left
      · (intro w hSw; (try dsimp only at hSw); first | (go_simp; done) | (go_simp; with_reducible rfl))
      try simp only [Act.put, List.setIfInBounds_toArray, List.set_cons_zero, List.set_cons_succ]
      refine wpAnyH_take (i := 1) (oi := { dst := some 17, op := Op.load 50 (Operand.tmp 9), type := 50, pos := "block.go:88", after := #[], guard := none }) (v := ?_) rfl (by kernel_rfl) (by kernel_rfl) (by kernel_rfl) (fun _ _ _ h => h) (Or.inl ⟨by rfl, ?_⟩) (by assumption) ?_
      rotate_left
      · (intro w hSw; (try dsimp only at hSw); first | (go_simp; done) | (go_simp; with_reducible rfl))
      try simp only [Act.put, List.setIfInBounds_toArray, List.set_cons_zero, List.set_cons_succ]
      refine wpAnyH_take (i := 4) (oi := { dst := some 20, op := Op.move (Operand.tmp 7), type := 3, pos := "block.go:88", after := #[{ on := 13, ground := Ground.gcOnly Departure.lateStores }], guard := none }) (v := ?_) rfl (by kernel_rfl) (by kernel_rfl) (by kernel_rfl) (fun _ _ _ h => h) (Or.inl ⟨by rfl, ?_⟩) (by assumption) ?_
      rotate_left
      · (intro w hSw; (try dsimp only at hSw); first | (go_simp; done) | (go_simp; with_reducible rfl))
      try simp only [Act.put, List.setIfInBounds_toArray, List.set_cons_zero, List.set_cons_succ]
      refine wpAnyH_take (i := 5) (oi := { dst := some 21, op := Op.fieldAddr 50 (Operand.tmp 9) 0, type := 0, pos := "block.go:88", after := #[], guard := none }) (v := ?_) rfl (by kernel_rfl) (by kernel_rfl) (by kernel_rfl) (fun _ _ _ h => h) (Or.inl ⟨by rfl, ?_⟩) (by assumption) ?_
      rotate_left
      · (intro w hSw; (try dsimp only at hSw); first | (go_simp; done) | (go_simp; with_reducible rfl))
      try simp only [Act.put, List.setIfInBounds_toArray, List.set_cons_zero, List.set_cons_succ]
      refine wpAnyH_take (i := 6) (oi := { dst := some 22, op := Op.load 9 (Operand.tmp 21), type := 9, pos := "block.go:88", after := #[{ on := 5, ground := Ground.data }], guard := none }) (v := ?_) rfl (by kernel_rfl) (by kernel_rfl) (by kernel_rfl) (fun _ _ _ h => h) (Or.inl ⟨by rfl, ?_⟩) (by assumption) ?_
      rotate_left
      · (intro w hSw; (try dsimp only at hSw); first | (go_simp; done) | (go_simp; with_reducible rfl))
      try simp only [Act.put, List.setIfInBounds_toArray, List.set_cons_zero, List.set_cons_succ]
      refine wpAnyH_take (i := 7) (oi := { dst := some 23, op := Op.call { callee := Callee.builtin Builtin.len, args := #[Operand.tmp 22], argTypes := #[9] }, type := 3, pos := "block.go:88", after := #[{ on := 6, ground := Ground.data }], guard := none }) (v := ?_) rfl (by kernel_rfl) (by kernel_rfl) (by kernel_rfl) (fun _ _ _ h => h) (Or.inl ⟨by rfl, ?_⟩) (by assumption) ?_
      rotate_left
      · (intro w hSw; (try dsimp only at hSw); first | (go_simp; done) | (go_simp; with_reducible rfl))
      try simp only [Act.put, List.setIfInBounds_toArray, List.set_cons_zero, List.set_cons_succ]
      refine wpAnyH_take (i := 8) (oi := { dst := some 24, op := Op.binOp BinOp.add 3 (Operand.tmp 20) (Operand.tmp 23) 3, type := 3, pos := "block.go:88", after := #[{ on := 4, ground := Ground.data }, { on := 7, ground := Ground.data }, { on := 13, ground := Ground.gcOnly Departure.lateStores }], guard := none }) (v := ?_) rfl (by kernel_rfl) (by kernel_rfl) (by kernel_rfl) (fun _ _ _ h => h) (Or.inl ⟨by rfl, ?_⟩) (by assumption) ?_
      rotate_left
      · (intro w hSw; (try dsimp only at hSw); first | (go_simp; done) | (go_simp; with_reducible rfl))
      try simp only [Act.put, List.setIfInBounds_toArray, List.set_cons_zero, List.set_cons_succ]
      refine wpAnyH_take (i := 9) (oi := { dst := some 25, op := Op.fieldAddr 50 (Operand.tmp 9) 1, type := 0, pos := "block.go:88", after := #[], guard := none }) (v := ?_) rfl (by kernel_rfl) (by kernel_rfl) (by kernel_rfl) (fun _ _ _ h => h) (Or.inl ⟨by rfl, ?_⟩) (by assumption) ?_
      rotate_left
      · (intro w hSw; (try dsimp only at hSw); first | (go_simp; done) | (go_simp; with_reducible rfl))
      try simp only [Act.put, List.setIfInBounds_toArray, List.set_cons_zero, List.set_cons_succ]
      refine wpAnyH_take (i := 10) (oi := { dst := some 26, op := Op.load 9 (Operand.tmp 25), type := 9, pos := "block.go:88", after := #[{ on := 9, ground := Ground.data }], guard := none }) (v := ?_) rfl (by kernel_rfl) (by kernel_rfl) (by kernel_rfl) (fun _ _ _ h => h) (Or.inl ⟨by rfl, ?_⟩) (by assumption) ?_
      rotate_left
      · (intro w hSw; (try dsimp only at hSw); first | (go_simp; done) | (go_simp; with_reducible rfl))
      try simp only [Act.put, List.setIfInBounds_toArray, List.set_cons_zero, List.set_cons_succ]
      refine wpAnyH_take (i := 11) (oi := { dst := some 27, op := Op.call { callee := Callee.builtin Builtin.len, args := #[Operand.tmp 26], argTypes := #[9] }, type := 3, pos := "block.go:88", after := #[{ on := 10, ground := Ground.data }], guard := none }) (v := ?_) rfl (by kernel_rfl) (by kernel_rfl) (by kernel_rfl) (fun _ _ _ h => h) (Or.inl ⟨by rfl, ?_⟩) (by assumption) ?_
      rotate_left
      · (intro w hSw; (try dsimp only at hSw); first | (go_simp; done) | (go_simp; with_reducible rfl))
      try simp only [Act.put, List.setIfInBounds_toArray, List.set_cons_zero, List.set_cons_succ]
      refine wpAnyH_take (i := 12) (oi := { dst := some 28, op := Op.binOp BinOp.add 3 (Operand.tmp 24) (Operand.tmp 27) 3, type := 3, pos := "block.go:88", after := #[{ on := 8, ground := Ground.data }, { on := 11, ground := Ground.data }, { on := 13, ground := Ground.gcOnly Departure.lateStores }], guard := none }) (v := ?_) rfl (by kernel_rfl) (by kernel_rfl) (by kernel_rfl) (fun _ _ _ h => h) (Or.inl ⟨by rfl, ?_⟩) (by assumption) ?_
      rotate_left
      · (intro w hSw; (try dsimp only at hSw); first | (go_simp; done) | (go_simp; with_reducible rfl))
      try simp only [Act.put, List.setIfInBounds_toArray, List.set_cons_zero, List.set_cons_succ]
      refine wpAnyH_ready (rs := [2]) (by kernel_rfl) (by simp) ?_
      refine AllReadyH.cons (o := { dst := some 18, op := Op.buildSlice 22 1 #[(0, Operand.tmp 17)], type := 22, pos := "block.go:88", after := #[{ on := 1, ground := Ground.data }], guard := none }) rfl (fun K hK => ?_) AllReadyH.nil
      go_simp
      have hL2 : (w1.alloc (.cells #[.string qk, .string qv] 50)).drew.heap[w1.heap.size]? = some (.cells #[.string qk, .string qv] 50) := heap_alloc_new w1 (.cells #[.string qk, .string qv] 50)
      have HI2 := Lib.hid (HINV.out.bel ((Bel.refl w1).alloc (.cells #[.string qk, .string qv] 50)).drew)
      have HB2 := Lib.hid ((HB.out.alloc (.cells #[.string qk, .string qv] 50)).drew)
      have e0 := cell_later ((Bel.refl w1).alloc (.cells #[.string qk, .string qv] 50)).drew d0
      have e1 := cell_later ((Bel.refl w1).alloc (.cells #[.string qk, .string qv] 50)).drew d1
      have hz2 : w.heap.size ≤ (w1.alloc (.cells #[.string qk, .string qv] 50)).drew.heap.size := HB2.out.size
      have hx2 : X < (w1.alloc (.cells #[.string qk, .string qv] 50)).drew.heap.size := block_of_cell e0
      have HL2 := Lib.hid hL2
      clear hL2
      refine hK.out _ _ ⟨e0, e1⟩ (fun hHeld => ?_)
      clear hK K
      try simp only [Act.put, List.setIfInBounds_toArray, List.set_cons_zero, List.set_cons_succ]
      generalize (w1.alloc (.cells #[.string qk, .string qv] 50)).drew = w2 at *
      generalize w1.heap.size = Y at *
      refine wpAnyH_ready (rs := [3]) (by kernel_rfl) (by simp) ?_
      refine AllReadyH.cons (o := { dst := some 19, op := Op.call { callee := Callee.builtin Builtin.append, args := #[Operand.tmp 16, Operand.tmp 18], argTypes := #[22, 22] }, type := 22, pos := "block.go:88", after := #[{ on := 0, ground := Ground.data }, { on := 2, ground := Ground.data }], guard := none }) rfl (fun K hK => ?_) AllReadyH.nil
      refine step_append_all pairOk rfl (.tmp 16) (.tmp 18) rfl rfl HI2.out.cur [L[k]] rfl (src_at [L[k]] HL2.out HQ.out.symm rfl) (by simp only [List.length_singleton]; unfold maxLen; omega) (by simp only [List.length_singleton]; omega) hz2 ?_
      intro v3 w3 ho3 hk3 hv3
      have HI3 := Lib.hid (HI2.out.grow (by decide) ho3 hk3 (hv3.imp id (fun e k hk => by rw [e] at hk; cases hk; exact Nat.le_refl _)))
      have HB3 := Lib.hid (HB2.out.trans_below (hk3.own hz2 (fun k hk => (HI2.out.cur.lt k hk).1)))
      have hXn : X ∉ (Value.slice cp row.length ccap).ownBlock.toList := by
        intro hm
        rw [Option.mem_toList] at hm
        have := hcx X hm; omega
      have f0 := hk3.cell (p := ⟨X, 0, none⟩) e0 hXn
      have f1 := hk3.cell (p := ⟨X, 1, none⟩) e1 hXn
      obtain ⟨cp3, ccap3, rfl⟩ := ownG_len ho3
      have hz3 := HB3.out.size
      clear ho3 hk3 hv3
      replace HI3 := Lib.hid (by have h9 := HI3.out; rw [hHl, List.length_append, List.length_singleton] at h9; exact h9)
      refine hK.out _ _ ⟨f0, f1⟩ (fun hHeld => ?_)
      clear hK K
      try simp only [Act.put, List.setIfInBounds_toArray, List.set_cons_zero, List.set_cons_succ]
      refine wpAnyH_take (i := 13) (oi := { dst := some 6, op := Op.assign (Operand.tmp 19), type := 22, pos := "block.go:88", after := #[{ on := 3, ground := Ground.data }, { on := 3, ground := Ground.chain }, { on := 0, ground := Ground.phase }, { on := 1, ground := Ground.phase }, { on := 2, ground := Ground.phase }, { on := 3, ground := Ground.phase }, { on := 4, ground := Ground.textOnly Departure.lateStores }, { on := 5, ground := Ground.textOnly Departure.lateStores }, { on := 6, ground := Ground.textOnly Departure.lateStores }, { on := 7, ground := Ground.textOnly Departure.lateStoresUnsure }, { on := 8, ground := Ground.textOnly Departure.lateStores }, { on := 9, ground := Ground.textOnly Departure.lateStores }, { on := 10, ground := Ground.textOnly Departure.lateStores }, { on := 11, ground := Ground.textOnly Departure.lateStoresUnsure }, { on := 12, ground := Ground.textOnly Departure.lateStores }], guard := none }) (v := ?_) rfl (by kernel_rfl) (by kernel_rfl) (by kernel_rfl) (fun _ _ _ h => h) (Or.inl ⟨by rfl, ?_⟩) (by assumption) ?_
      rotate_left
      · (intro w hSw; (try dsimp only at hSw); first | (go_simp; done) | (go_simp; with_reducible rfl))
      try simp only [Act.put, List.setIfInBounds_toArray, List.set_cons_zero, List.set_cons_succ]
      refine wpAnyH_take (i := 14) (oi := { dst := some 7, op := Op.assign (Operand.tmp 28), type := 3, pos := "block.go:88", after := #[{ on := 12, ground := Ground.data }, { on := 13, ground := Ground.chain }, { on := 0, ground := Ground.phase }, { on := 1, ground := Ground.phase }, { on := 2, ground := Ground.phase }, { on := 3, ground := Ground.phase }, { on := 4, ground := Ground.phase }, { on := 5, ground := Ground.phase }, { on := 6, ground := Ground.phase }, { on := 7, ground := Ground.phase }, { on := 8, ground := Ground.phase }, { on := 9, ground := Ground.phase }, { on := 10, ground := Ground.phase }, { on := 11, ground := Ground.phase }, { on := 12, ground := Ground.phase }, { on := 13, ground := Ground.phase }], guard := none }) (v := ?_) rfl (by kernel_rfl) (by kernel_rfl) (by kernel_rfl) (fun _ _ _ h => h) (Or.inl ⟨by rfl, ?_⟩) (by assumption) ?_
      rotate_left
      · (intro w hSw; (try dsimp only at hSw); first | (go_simp; done) | (go_simp; with_reducible rfl))
      try simp only [Act.put, List.setIfInBounds_toArray, List.set_cons_zero, List.set_cons_succ]
      refine wpAnyH_done (by kernel_rfl) ?_ _
      have hT2 : ((tot (prs (row ++ [L[k]])) : Nat) : Int) = (T : Int) + (qk.size : Int) + (qv.size : Int) := by rw [HT.out]; simp
      by_cases hfull : most ≤ (T : Int) + (qk.size : Int) + (qv.size : Int)
      · have HS2 := Lib.hid (HFU.out (by rw [hT2]; exact hfull))
        clear hT2
        go_wp2_with (at_builtin; refine stop_here ?_)
        refine go_on ?_
        have hl3 := heap_alloc_new w3 (.cells #[.slice cp3 (row.length + 1) ccap3] 22)
        have HI4 := Lib.hid (HI3.out.bel ((Bel.refl w3).alloc (.cells #[.slice cp3 (row.length + 1) ccap3] 22)))
        have hz4 : w.heap.size ≤ (w3.alloc (.cells #[.slice cp3 (row.length + 1) ccap3] 22)).heap.size := (HB3.out.alloc _).size
        have HB4 := Lib.hid (HB3.out.alloc (.cells #[.slice cp3 (row.length + 1) ccap3] 22))
        refine append_all rowOk rfl _ _ rfl rfl HI4.out.own [SL.mk cp3 (row.length + 1) ccap3] rfl (src_at [SL.mk cp3 (row.length + 1) ccap3] hl3 rfl rfl) (by simp only [List.length_singleton]; unfold maxLen; omega) (by simp only [List.length_singleton]; omega) hz4 ?_
        intro v5 w5 ho5 hk5 hv5
        have HI5 := Lib.hid (HI4.out.push (by decide) (s := ⟨cp3, row.length + 1, ccap3⟩) rfl ho5 hk5)
        have HB5 := Lib.hid (HB4.out.trans_below (hk5.own hz4 (fun k hk => (HI4.out.own.lt k hk).1)))
        clear ho5 hk5 hv5 hl3
        go_wp2_with (fail)
        go_roundw
        case rel => exact ⟨k + 1, HS ++ [⟨cp3, row.length + 1, ccap3⟩], rows ++ [row ++ [L[k]]], [], hlt, by go_num, by simp [tot, prs], HI5.out, HS2.out, by simp; omega, by simp, by simp [tot, prs], HB5.out⟩
        case measure => simp [intOf]; omega
      · have HS2 := Lib.hid (HMO.out (by rw [hT2]; omega))
        have hT3 : tot (prs (row ++ [L[k]])) = T + qk.size + qv.size := HT.out
        have HT3 := Lib.hid hT3
        clear hT2 hT3
        go_wp2_with (fail)
        go_roundw
        case rel => exact ⟨k + 1, HS, rows, row ++ [L[k]], hlt, by go_num, by rw [HT3.out]; simp, HI3.out, HS2.out, by omega, by simp; omega, by rw [HT3.out]; omega, HB3.out⟩
        case measure => simp [intOf]; omega
    · have hd : L.drop k = [] := List.drop_eq_nil_of_le (by omega)
      have hsp := HSP.out
      rw [hd, splitB] at hsp
      by_cases hr0 : row = []
      · rw [if_pos hr0, List.append_nil] at hsp
        subst hr0
        have HSP2 := Lib.hid hsp
        have HINV := Lib.hid hinv
        have HB := Lib.hid hb
        clear hsp hinv hb HSP
        go_wp2_with (fail)
        go_ret
        exact ⟨_, HS, _, [], rfl, by rw [HSP2.out]; exact HINV.out, HB.out⟩
      · rw [if_neg hr0] at hsp
        have HSP2 := Lib.hid hsp
        have hpos := List.length_pos_iff.2 hr0
        have HI3 := Lib.hid hinv
        have HB3 := Lib.hid hb
        clear hsp hinv hb HSP
        have hl3 := heap_alloc_new wr (.cells #[.slice cp row.length ccap] 22)
        have HI4 := Lib.hid (HI3.out.bel ((Bel.refl wr).alloc (.cells #[.slice cp row.length ccap] 22)))
        have hz4 : w.heap.size ≤ (wr.alloc (.cells #[.slice cp row.length ccap] 22)).heap.size := (HB3.out.alloc _).size
        have HB4 := Lib.hid (HB3.out.alloc (.cells #[.slice cp row.length ccap] 22))
        go_wp2_with (at_builtin; refine stop_here ?_)
        refine go_on ?_
        refine append_all rowOk rfl _ _ rfl rfl HI4.out.own [SL.mk cp row.length ccap] rfl (src_at [SL.mk cp row.length ccap] hl3 rfl rfl) (by simp only [List.length_singleton]; unfold maxLen; omega) (by simp only [List.length_singleton]; omega) hz4 ?_
        intro v5 w5 ho5 hk5 hv5
        have HI5 := Lib.hid (HI4.out.push (by decide) (s := ⟨cp, row.length, ccap⟩) rfl ho5 hk5)
        have HB5 := Lib.hid (HB4.out.trans_below (hk5.own hz4 (fun k hk => (HI4.out.own.lt k hk).1)))
        obtain ⟨rp5, rcap5, rfl⟩ := ownG_len ho5
        clear ho5 hk5 hv5 hl3
        have hHl5 : (HS ++ [SL.mk cp row.length ccap]).length = rows.length + 1 := by rw [List.length_append, hHl]; rfl
        replace HI5 := Lib.hid (by have h9 := HI5.out; rw [hHl5] at h9; exact h9)
        go_wp2_with (fail)
        go_ret
        exact ⟨_, _, _, _, rfl, by rw [HSP2.out]; exact HI5.out, HB5.out⟩
end Go.Proofs.Ytldkpomkgmilbaa
