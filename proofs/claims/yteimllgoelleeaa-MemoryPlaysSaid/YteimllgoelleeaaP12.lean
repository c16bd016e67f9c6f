/- MRAdd, MRGet, MTwo, MPLess, laid together. -/
import Derived.Test.YteimllgoelleeaaP8
import Derived.Test.YteimllgoelleeaaP11
import Derived.Test.YteimllgoelleeaaP2
import Derived.Test.YteimllgoelleeaaP10
import Derived.Test.YteimllgoelleeaaP6
import Derived.Deep.RegionHeld
import Derived.Deep.QuietTactic
import Derived.BigQuiet
set_option linter.unusedSimpArgs false
set_option linter.unusedVariables false
/- moultref11's Add: an entry is put in where it belongs, if it is right and there is none of its key and number. -/
namespace Go.Proofs.Yteimllgoelleeaa
open Go.RowKit Go.Deep

theorem add_stop {C : List EB} {e : EB} {k : Nat} (hp : C.Pairwise (fun a b => lessB a b = true)) (hr : rightB e = true) (hk : k ≤ C.length) (hall : ∀ j (h : j < C.length), j < k → lessB C[j] e = true)
    (hst : ∀ h : k < C.length, lessB C[k] e = false) (hns : ∀ h : k < C.length, ¬ sameB C[k] e) : errM C e = 0 ∧ stepS C e = C.take k ++ e :: C.drop k := by
  have hgt : ∀ h : k < C.length, lessB e C[k] = true := fun h => by
    rcases less_or C[k] e with h1 | h1 | h1
    · rw [hst h] at h1; cases h1
    · exact absurd h1 (hns h)
    · exact h1
  have hno : ¬ ∃ c ∈ C, sameB c e := by
    rintro ⟨c, hc, hs⟩
    obtain ⟨j, hj, rfl⟩ := List.mem_iff_getElem.1 hc
    by_cases h1 : j < k
    · have := hall j hj h1
      rw [same_less hs] at this; cases this
    · by_cases h2 : j = k
      · subst h2; exact hns hj hs
      · have h3 : k < C.length := by omega
        have h4 := List.pairwise_iff_getElem.1 hp k j h3 hj (by omega)
        have h5 := lessB_trans (hgt h3) h4
        rw [same_less (sameB_symm hs)] at h5; cases h5
  refine ⟨(err_ok hr hno).1, ?_⟩
  rw [(err_ok hr hno).2, ins_at e C k hk hall hst]
  by_cases h : k < C.length
  · rw [if_pos (Or.inr ⟨h, hgt h⟩)]
  · rw [if_pos (Or.inl (by omega))]
theorem add_there {C : List EB} {e : EB} {k : Nat} (hp : C.Pairwise (fun a b => lessB a b = true)) (hr : rightB e = true) (hk : k < C.length) (hs : sameB C[k] e) : errM C e = 5 ∧ stepS C e = C :=
  err_there hp hr ⟨_, List.getElem_mem hk, hs⟩
theorem blk_set11 {w : World} {b : Nat} {arr : Array Value} {T : TypeId} (h : w.heap[b]? = some (.cells arr T (0, 0))) (i : Nat) (u : Value) :
    (w.setCell ⟨b, i, none⟩ u).heap[b]? = some (.cells (arr.setIfInBounds i u) T (0, 0)) := by
  obtain ⟨hlt, hk⟩ := Array.getElem?_eq_some_iff.1 h
  show (w.heap.modify b _)[b]? = _
  rw [Array.getElem?_eq_getElem (by rw [Array.size_modify]; exact hlt), Array.getElem_modify_self, hk]
  rfl
theorem lim1a {lo hi : List EB} (h1 : lo.length ≤ 1000) (h2 : hi.length ≤ 1000) : ([] : List EB).length + lo.length ≤ maxLen := by unfold maxLen; simp only [List.length_nil]; omega
theorem lim1b {lo hi : List EB} (h1 : lo.length ≤ 1000) (h2 : hi.length ≤ 1000) : (([] : List EB).length + lo.length) * 48 ≤ 140737488355328 := by simp only [List.length_nil]; omega
theorem lim2a {lo hi : List EB} {e : EB} (h1 : lo.length ≤ 1000) (h2 : hi.length ≤ 1000) : lo.length + [e].length ≤ maxLen := by unfold maxLen; simp only [List.length_singleton]; omega
theorem lim2b {lo hi : List EB} {e : EB} (h1 : lo.length ≤ 1000) (h2 : hi.length ≤ 1000) : (lo.length + [e].length) * 48 ≤ 140737488355328 := by simp only [List.length_singleton]; omega
theorem lim3a {lo hi : List EB} {e : EB} (h1 : lo.length ≤ 1000) (h2 : hi.length ≤ 1000) : (lo ++ [e]).length + hi.length ≤ maxLen := by unfold maxLen; simp only [List.length_append, List.length_singleton]; omega
theorem lim3b {lo hi : List EB} {e : EB} (h1 : lo.length ≤ 1000) (h2 : hi.length ≤ 1000) : ((lo ++ [e]).length + hi.length) * 48 ≤ 140737488355328 := by simp only [List.length_append, List.length_singleton]; omega
theorem rm_new {w x y : World} {b : Nat} {v : Value} {L : List EB} {G : List Nat} (h : OwnG entEl x.heap.size y v L) (hb : Bel w x) : ∀ k ∈ b :: v.ownBlock.toList, k ∈ b :: G ∨ w.heap.size ≤ k := fun k hk => by
  rcases List.mem_cons.1 hk with rfl | hk
  · exact Or.inl (by simp)
  · have := (h.lt k (by simpa using hk)).1
    have := hb.size
    exact Or.inr (by omega)
theorem rm_set {w : World} {b : Nat} {v v' : Value} {C' : List EB} (h : w.heap[b]? = some (.cells #[v] 29 (0, 0))) (ho : OwnG entEl 0 w v' C') : RMAt (w.setCell ⟨b, 0, none⟩ v') b (b :: v'.ownBlock.toList) C' := by
  refine ⟨v', blk_set11 h 0 v', ho.keep (F := [b]) ((Keep.refl _ w).setCell (p := ⟨b, 0, none⟩) (Or.inl (by simp)) _) (fun k hk hm => ?_), rfl⟩
  rw [List.mem_singleton] at hm
  subst hm
  rcases ho.2 with ⟨rfl, _⟩ | ⟨g, cap, cur, rfl, _, hgb, _⟩
  · simp [Value.ownBlock] at hk
  · obtain rfl : g = k := by simpa [Value.ownBlock] using hk
    have := h.symm.trans hgb
    simp [entEl] at this
set_option maxHeartbeats 8000000 in
set_option maxRecDepth 20000 in
theorem radd_any (b : Nat) (F : List Nat) (C : List EB) (e : EB) (w : World) (h : RMAt w b F C) (hC : Holds C) (hf : e.fits) (hv : e.v.size ≤ 1000000) :
    Calls Try.prog 12 #[.pointer (some ⟨b, 0, none⟩), .agg #[.string e.k, .int .i64 e.q, .bool e.d, .string e.v]] w fun r w' => ∃ F', r = .returned (.int .i64 (errM C e)) ∧ RMAt w' b F' (stepS C e) ∧ (∀ k ∈ F', k ∈ F ∨ w.heap.size ≤ k) ∧ Keep F w w' := by
  have HH := Lib.hid h
  obtain ⟨v, hblk, hown, rfl⟩ := h
  have HBLK := Lib.hid hblk
  have HOWN := Lib.hid hown
  obtain ⟨hst, hlen⟩ := hC
  have HP := Lib.hid (stand_pair hst)
  have HF := Lib.hid hf
  have hlt : b < w.heap.size := (Array.getElem?_eq_some_iff.1 hblk).1
  have HCF := Lib.hid (show fitsL C from holds_fits ⟨hst, hlen⟩)
  obtain ⟨p0, cap0, rfl⟩ := ownG_len hown
  have c0' : w.cell? ⟨b, 0, none⟩ = some (.slice p0 C.length cap0) := by simp [World.cell?, hblk]
  have f0' : w.frozen? ⟨b, 0, none⟩ = false := by simp [World.frozen?, hblk]
  clear hblk hown hst hf
  go_enter Try.func12, Try.ntmps12
  go_wp2_with (fail)
  refine (rright_any e _ HF.out).mono ?_
  rintro r w1 ⟨rfl, hb⟩
  have HB0 := Lib.hid ((Bel.refl w).alloc (.cells #[.string e.k, .int .i64 e.q, .bool e.d, .string e.v] 33))
  have HB1 := Lib.hid (HB0.out.trans hb)
  have x0 : w1.cell? ⟨w.heap.size, 0, none⟩ = some (.string e.k) := cl11 hb ((World.cell?_alloc_new ..).trans (by simp))
  have x1 : w1.cell? ⟨w.heap.size, 1, none⟩ = some (.int .i64 e.q) := cl11 hb ((World.cell?_alloc_new ..).trans (by simp))
  have x2 : w1.cell? ⟨w.heap.size, 2, none⟩ = some (.bool e.d) := cl11 hb ((World.cell?_alloc_new ..).trans (by simp))
  have x3 : w1.cell? ⟨w.heap.size, 3, none⟩ = some (.string e.v) := cl11 hb ((World.cell?_alloc_new ..).trans (by simp))
  have c0 := cl11 HB1.out c0'
  have f0 := (HB1.out.frozen b 0 hlt).trans f0'
  have HX := Lib.hid (And.intro x0 (And.intro x1 (And.intro x2 x3)))
  have HC0 := Lib.hid c0
  have HF0 := Lib.hid f0
  have hlt1 : b < w1.heap.size := block_lt_of_cell c0
  generalize hbx : w.heap.size = bx at *
  have HBX := Lib.hid hbx
  clear hbx hb c0' f0'
  cases hr : rightB e with
  | false =>
    have hE := err_arg (C := C) hr
    clear hr
    go_wp2_with (fail)
    go_ret
    exact ⟨_, (by rw [hE.1]; rfl), by rw [hE.2]; exact HH.out.bel HB1.out, fun k hk => Or.inl hk, Keep.of_bel HB1.out _⟩
  | true =>
    have HR := Lib.hid hr
    clear hr
    rcases own_ents HOWN.out with ⟨hvn, hCn⟩ | ⟨g, cap2, hv2, hg, hgl, hcap2, hcm, hcells⟩
    · subst hCn
      simp only [List.length_nil, Value.slice.injEq] at hvn
      obtain ⟨rfl, -, rfl⟩ := hvn
      go_wp2_with (fail)
      go_loopw [6] (fun kv x => kv = .int .i64 0 ∧ Bel w1 x) (fun kv _ => 0)
      case atStart => exact ⟨rfl, Bel.refl w1⟩
      case round =>
        obtain ⟨rfl, hw⟩ := hrel
        have HW := Lib.hid hw
        have d0 := cl11 hw c0
        have g0 := (hw.frozen b 0 hlt1).trans f0
        clear hw
        go_wp2_with (fail)
        refine wp_region_held_drew (S := fun z => z.cell? ⟨b, 0, none⟩ = some (.slice none 0 0)) (by kernel_rfl) d0 (fun hHeld => ?_)
        refine tk (oi := { dst := some 11, op := Op.move (Operand.tmp 6), type := 3, pos := "ref.go:21", after := #[], guard := none }) (v := ?_) 0 rfl ?_ ?_
        rotate_left
        · (intro w hSw; (try dsimp only at hSw); first | (go_simp; done) | (go_simp; with_reducible rfl))
        try simp only [Act.put, List.setIfInBounds_toArray, List.set_cons_zero, List.set_cons_succ]
        refine tk (oi := { dst := some 12, op := Op.move (Operand.tmp 0), type := 27, pos := "ref.go:21", after := #[], guard := none }) (v := ?_) 1 rfl ?_ ?_
        rotate_left
        · (intro w hSw; (try dsimp only at hSw); first | (go_simp; done) | (go_simp; with_reducible rfl))
        try simp only [Act.put, List.setIfInBounds_toArray, List.set_cons_zero, List.set_cons_succ]
        refine tk (oi := { dst := some 13, op := Op.nilCheck (Operand.tmp 12), type := 0, pos := "ref.go:21", after := #[{ on := 1, ground := Ground.data }], guard := none }) (v := ?_) 2 rfl ?_ ?_
        rotate_left
        · (intro w hSw; (try dsimp only at hSw); first | (go_simp; done) | (go_simp; with_reducible rfl))
        try simp only [Act.put, List.setIfInBounds_toArray, List.set_cons_zero, List.set_cons_succ]
        refine tk (oi := { dst := some 14, op := Op.fieldAddr 29 (Operand.tmp 13) 0, type := 0, pos := "ref.go:21", after := #[{ on := 2, ground := Ground.data }], guard := none }) (v := ?_) 3 rfl ?_ ?_
        rotate_left
        · (intro w hSw; (try dsimp only at hSw); first | (go_simp; done) | (go_simp; with_reducible rfl))
        try simp only [Act.put, List.setIfInBounds_toArray, List.set_cons_zero, List.set_cons_succ]
        refine tk (oi := { dst := some 15, op := Op.load 22 (Operand.tmp 14), type := 22, pos := "ref.go:21", after := #[{ on := 3, ground := Ground.data }], guard := none }) (v := ?_) 4 rfl ?_ ?_
        rotate_left
        · (intro w hSw; (try dsimp only at hSw); first | (go_simp; done) | (go_simp; with_reducible rfl))
        try simp only [Act.put, List.setIfInBounds_toArray, List.set_cons_zero, List.set_cons_succ]
        refine tk (oi := { dst := some 16, op := Op.call { callee := Callee.builtin Builtin.len, args := #[Operand.tmp 15], argTypes := #[22] }, type := 3, pos := "ref.go:21", after := #[{ on := 4, ground := Ground.data }], guard := none }) (v := ?_) 5 rfl ?_ ?_
        rotate_left
        · (intro w hSw; (try dsimp only at hSw); first | (go_simp; done) | (go_simp; with_reducible rfl))
        try simp only [Act.put, List.setIfInBounds_toArray, List.set_cons_zero, List.set_cons_succ]
        refine tk (oi := { dst := some 17, op := Op.binOp BinOp.lss 3 (Operand.tmp 11) (Operand.tmp 16) 3, type := 4, pos := "ref.go:21", after := #[{ on := 0, ground := Ground.data }, { on := 5, ground := Ground.data }], guard := none }) (v := ?_) 6 rfl ?_ ?_
        rotate_left
        · (intro w hSw; (try dsimp only at hSw); first | (go_simp; done) | (go_simp; with_reducible rfl))
        try simp only [Act.put, List.setIfInBounds_toArray, List.set_cons_zero, List.set_cons_succ]
        refine tk (oi := { dst := some 18, op := Op.move (Operand.tmp 17), type := 4, pos := "ref.go:21", after := #[{ on := 6, ground := Ground.data }], guard := none }) (v := ?_) 7 rfl ?_ ?_
        rotate_left
        · (intro w hSw; (try dsimp only at hSw); first | (go_simp; done) | (go_simp; with_reducible rfl))
        try simp only [Act.put, List.setIfInBounds_toArray, List.set_cons_zero, List.set_cons_succ]
        refine wpAnyH_take (i := 8) (oi := { dst := some 19, op := Op.move (Operand.tmp 0), type := 27, pos := "ref.go:21", after := #[{ on := 7, ground := Ground.guard }], guard := some (7, true) }) (v := undef) rfl (by kernel_rfl) (by kernel_rfl) (by kernel_rfl) (fun _ _ _ h => h) (Or.inr ⟨by rfl, rfl⟩) (by assumption) ?_
        try simp only [Act.put, List.setIfInBounds_toArray, List.set_cons_zero, List.set_cons_succ]
        refine wpAnyH_take (i := 9) (oi := { dst := some 20, op := Op.nilCheck (Operand.tmp 19), type := 0, pos := "ref.go:21", after := #[{ on := 8, ground := Ground.data }, { on := 7, ground := Ground.guard }], guard := some (7, true) }) (v := undef) rfl (by kernel_rfl) (by kernel_rfl) (by kernel_rfl) (fun _ _ _ h => h) (Or.inr ⟨by rfl, rfl⟩) (by assumption) ?_
        try simp only [Act.put, List.setIfInBounds_toArray, List.set_cons_zero, List.set_cons_succ]
        refine wpAnyH_take (i := 10) (oi := { dst := some 21, op := Op.fieldAddr 29 (Operand.tmp 20) 0, type := 0, pos := "ref.go:21", after := #[{ on := 9, ground := Ground.data }, { on := 7, ground := Ground.guard }], guard := some (7, true) }) (v := undef) rfl (by kernel_rfl) (by kernel_rfl) (by kernel_rfl) (fun _ _ _ h => h) (Or.inr ⟨by rfl, rfl⟩) (by assumption) ?_
        try simp only [Act.put, List.setIfInBounds_toArray, List.set_cons_zero, List.set_cons_succ]
        refine wpAnyH_take (i := 11) (oi := { dst := some 22, op := Op.load 22 (Operand.tmp 21), type := 22, pos := "ref.go:21", after := #[{ on := 10, ground := Ground.data }, { on := 7, ground := Ground.guard }], guard := some (7, true) }) (v := undef) rfl (by kernel_rfl) (by kernel_rfl) (by kernel_rfl) (fun _ _ _ h => h) (Or.inr ⟨by rfl, rfl⟩) (by assumption) ?_
        try simp only [Act.put, List.setIfInBounds_toArray, List.set_cons_zero, List.set_cons_succ]
        refine wpAnyH_take (i := 12) (oi := { dst := some 23, op := Op.move (Operand.tmp 6), type := 3, pos := "ref.go:21", after := #[{ on := 7, ground := Ground.guard }], guard := some (7, true) }) (v := undef) rfl (by kernel_rfl) (by kernel_rfl) (by kernel_rfl) (fun _ _ _ h => h) (Or.inr ⟨by rfl, rfl⟩) (by assumption) ?_
        try simp only [Act.put, List.setIfInBounds_toArray, List.set_cons_zero, List.set_cons_succ]
        refine wpAnyH_take (i := 13) (oi := { dst := some 24, op := Op.indexAddr 22 (Operand.tmp 22) (Operand.tmp 23), type := 0, pos := "ref.go:21", after := #[{ on := 11, ground := Ground.data }, { on := 12, ground := Ground.data }, { on := 7, ground := Ground.guard }], guard := some (7, true) }) (v := undef) rfl (by kernel_rfl) (by kernel_rfl) (by kernel_rfl) (fun _ _ _ h => h) (Or.inr ⟨by rfl, rfl⟩) (by assumption) ?_
        try simp only [Act.put, List.setIfInBounds_toArray, List.set_cons_zero, List.set_cons_succ]
        refine wpAnyH_take (i := 14) (oi := { dst := some 25, op := Op.load 33 (Operand.tmp 24), type := 33, pos := "ref.go:21", after := #[{ on := 13, ground := Ground.data }, { on := 7, ground := Ground.guard }], guard := some (7, true) }) (v := undef) rfl (by kernel_rfl) (by kernel_rfl) (by kernel_rfl) (fun _ _ _ h => h) (Or.inr ⟨by rfl, rfl⟩) (by assumption) ?_
        try simp only [Act.put, List.setIfInBounds_toArray, List.set_cons_zero, List.set_cons_succ]
        refine wpAnyH_take (i := 15) (oi := { dst := some 26, op := Op.load 33 (Operand.tmp 3), type := 33, pos := "ref.go:21", after := #[{ on := 7, ground := Ground.guard }], guard := some (7, true) }) (v := undef) rfl (by kernel_rfl) (by kernel_rfl) (by kernel_rfl) (fun _ _ _ h => h) (Or.inr ⟨by rfl, rfl⟩) (by assumption) ?_
        try simp only [Act.put, List.setIfInBounds_toArray, List.set_cons_zero, List.set_cons_succ]
        refine wpAnyH_take (i := 16) (oi := { dst := some 27, op := Op.call { callee := Callee.value (Operand.func 29), args := #[Operand.tmp 25, Operand.tmp 26], argTypes := #[33, 33] }, type := 4, pos := "ref.go:21", after := #[{ on := 14, ground := Ground.data }, { on := 15, ground := Ground.data }, { on := 7, ground := Ground.chain }, { on := 7, ground := Ground.guard }], guard := some (7, true) }) (v := undef) rfl (by kernel_rfl) (by kernel_rfl) (by kernel_rfl) (fun _ _ _ h => h) (Or.inr ⟨by rfl, rfl⟩) (by assumption) ?_
        try simp only [Act.put, List.setIfInBounds_toArray, List.set_cons_zero, List.set_cons_succ]
        refine tk (oi := { dst := some 28, op := Op.pick (Operand.tmp 18) (Operand.tmp 27) (Operand.const (Value.bool false)), type := 4, pos := "ref.go:21", after := #[{ on := 7, ground := Ground.data }, { on := 16, ground := Ground.data }], guard := none }) (v := ?_) 17 rfl ?_ ?_
        rotate_left
        · (intro w hSw; (try dsimp only at hSw); first | (go_simp; done) | (go_simp; with_reducible rfl))
        try simp only [Act.put, List.setIfInBounds_toArray, List.set_cons_zero, List.set_cons_succ]
        refine wpAnyH_done (by kernel_rfl) ?_ _
        go_wp2_with (fail)
        go_quiet (fail)
        obtain ⟨zb, hzb⟩ : ∃ x, x = wr.drew.drewN nq := ⟨_, rfl⟩
        rw [← hzb]
        have HZB := Lib.hid (show Bel w1 zb by rw [hzb]; exact HW.out.drew.drewN nq)
        clear hzb hHeld d0 g0
        obtain ⟨k, hk⟩ : ∃ k : Nat, k = 0 := ⟨_, rfl⟩
        obtain ⟨hE1, hE2⟩ := add_stop (k := 0) HP.out HR.out (Nat.le_refl _) (fun j h _ => by simp at h) (fun h => by simp at h) (fun h => by simp at h)
        have HERR := Lib.hid hE1
        have HADD := Lib.hid (show stepS [] e = [] ++ [e] ++ [] by rw [hE2]; rfl)
        have HS1 := Lib.hid (show ∀ x, Bel zb x → SrcAt entEl x (.slice none 0 0) [] from fun x _ => Or.inl ⟨rfl, rfl⟩)
        have HS2 := HS1
        have HL1 := Lib.hid (show ([] : List EB).length ≤ 1000 by simp)
        have HL2 := HL1
        clear hE1 hE2 hk
        go_wp2_with (fail)
        have HBR := Lib.hid (Bel.refl zb)
        have HS := Lib.hid (show ∀ y, Bel zb y → (y.cell? ⟨b, 0, none⟩ = some (.slice none 0 0) ∧ y.cell? ⟨bx, 0, none⟩ = some (.string e.k) ∧ y.cell? ⟨bx, 1, none⟩ = some (.int .i64 e.q) ∧ y.cell? ⟨bx, 2, none⟩ = some (.bool e.d) ∧ y.cell? ⟨bx, 3, none⟩ = some (.string e.v) ∧ y.frozen? ⟨b, 0, none⟩ = false) from fun y hy => ⟨cl11 hy (cl11 HZB.out HC0.out), cl11 hy (cl11 HZB.out HX.out.1), cl11 hy (cl11 HZB.out HX.out.2.1), cl11 hy (cl11 HZB.out HX.out.2.2.1), cl11 hy (cl11 HZB.out HX.out.2.2.2), ((HZB.out.trans hy).frozen b 0 hlt1).trans HF0.out⟩)
        refine region_L 21 (S := fun y => y.cell? ⟨b, 0, none⟩ = some (.slice none 0 0) ∧ y.cell? ⟨bx, 0, none⟩ = some (.string e.k) ∧ y.cell? ⟨bx, 1, none⟩ = some (.int .i64 e.q) ∧ y.cell? ⟨bx, 2, none⟩ = some (.bool e.d) ∧ y.cell? ⟨bx, 3, none⟩ = some (.string e.v) ∧ y.frozen? ⟨b, 0, none⟩ = false) (by kernel_rfl) (HS.out _ (Bel.refl zb).drew) (fun hHeld => ?_)
        refine AnyL.take (i := 0) (oi := { dst := some 64, op := Op.move (Operand.tmp 0), type := 27, pos := "ref.go:27", after := #[], guard := none }) (v := ?_) rfl (by decide) (by kernel_rfl) (by kernel_rfl) (by kernel_rfl) (by kernel_rfl) (fun _ _ _ h => h) (Or.inl ⟨by rfl, ?_⟩) (by assumption) ?_
        rotate_left
        · (intro w hSw; (try dsimp only at hSw); first | (go_simp; done) | (go_simp; with_reducible rfl))
        try simp only [Act.put, List.setIfInBounds_toArray, List.set_cons_zero, List.set_cons_succ]
        refine AnyL.take (i := 2) (oi := { dst := some 66, op := Op.move (Operand.tmp 0), type := 27, pos := "ref.go:27", after := #[], guard := none }) (v := ?_) rfl (by decide) (by kernel_rfl) (by kernel_rfl) (by kernel_rfl) (by kernel_rfl) (fun _ _ _ h => h) (Or.inl ⟨by rfl, ?_⟩) (by assumption) ?_
        rotate_left
        · (intro w hSw; (try dsimp only at hSw); first | (go_simp; done) | (go_simp; with_reducible rfl))
        try simp only [Act.put, List.setIfInBounds_toArray, List.set_cons_zero, List.set_cons_succ]
        refine AnyL.take (i := 3) (oi := { dst := some 67, op := Op.nilCheck (Operand.tmp 66), type := 0, pos := "ref.go:27", after := #[{ on := 2, ground := Ground.data }], guard := none }) (v := ?_) rfl (by decide) (by kernel_rfl) (by kernel_rfl) (by kernel_rfl) (by kernel_rfl) (fun _ _ _ h => h) (Or.inl ⟨by rfl, ?_⟩) (by assumption) ?_
        rotate_left
        · (intro w hSw; (try dsimp only at hSw); first | (go_simp; done) | (go_simp; with_reducible rfl))
        try simp only [Act.put, List.setIfInBounds_toArray, List.set_cons_zero, List.set_cons_succ]
        refine AnyL.take (i := 4) (oi := { dst := some 68, op := Op.fieldAddr 29 (Operand.tmp 67) 0, type := 0, pos := "ref.go:27", after := #[{ on := 3, ground := Ground.data }], guard := none }) (v := ?_) rfl (by decide) (by kernel_rfl) (by kernel_rfl) (by kernel_rfl) (by kernel_rfl) (fun _ _ _ h => h) (Or.inl ⟨by rfl, ?_⟩) (by assumption) ?_
        rotate_left
        · (intro w hSw; (try dsimp only at hSw); first | (go_simp; done) | (go_simp; with_reducible rfl))
        try simp only [Act.put, List.setIfInBounds_toArray, List.set_cons_zero, List.set_cons_succ]
        refine AnyL.take (i := 5) (oi := { dst := some 69, op := Op.load 22 (Operand.tmp 68), type := 22, pos := "ref.go:27", after := #[{ on := 4, ground := Ground.data }], guard := none }) (v := ?_) rfl (by decide) (by kernel_rfl) (by kernel_rfl) (by kernel_rfl) (by kernel_rfl) (fun _ _ _ h => h) (Or.inl ⟨by rfl, ?_⟩) (by assumption) ?_
        rotate_left
        · (intro w hSw; (try dsimp only at hSw); first | (go_simp; done) | (go_simp; with_reducible rfl))
        try simp only [Act.put, List.setIfInBounds_toArray, List.set_cons_zero, List.set_cons_succ]
        refine AnyL.take (i := 6) (oi := { dst := some 70, op := Op.move (Operand.tmp 6), type := 3, pos := "ref.go:27", after := #[], guard := none }) (v := ?_) rfl (by decide) (by kernel_rfl) (by kernel_rfl) (by kernel_rfl) (by kernel_rfl) (fun _ _ _ h => h) (Or.inl ⟨by rfl, ?_⟩) (by assumption) ?_
        rotate_left
        · (intro w hSw; (try dsimp only at hSw); first | (go_simp; done) | (go_simp; with_reducible rfl))
        try simp only [Act.put, List.setIfInBounds_toArray, List.set_cons_zero, List.set_cons_succ]
        refine AnyL.take (i := 7) (oi := { dst := some 71, op := Op.slice 22 (Operand.tmp 69) none (some (Operand.tmp 70)) none, type := 22, pos := "ref.go:27", after := #[{ on := 5, ground := Ground.data }, { on := 6, ground := Ground.data }], guard := none }) (v := ?_) rfl (by decide) (by kernel_rfl) (by kernel_rfl) (by kernel_rfl) (by kernel_rfl) (fun _ _ _ h => h) (Or.inl ⟨by rfl, ?_⟩) (by assumption) ?_
        rotate_left
        · (intro w hSw; (try dsimp only at hSw); first | (go_simp; done) | (go_simp; with_reducible rfl))
        try simp only [Act.put, List.setIfInBounds_toArray, List.set_cons_zero, List.set_cons_succ]
        refine AnyL.take (i := 9) (oi := { dst := some 73, op := Op.load 33 (Operand.tmp 3), type := 33, pos := "ref.go:27", after := #[], guard := none }) (v := ?_) rfl (by decide) (by kernel_rfl) (by kernel_rfl) (by kernel_rfl) (by kernel_rfl) (fun _ _ _ h => h) (Or.inl ⟨by rfl, ?_⟩) (by assumption) ?_
        rotate_left
        · (intro w hSw; (try dsimp only at hSw); first | (go_simp; done) | (go_simp; with_reducible rfl))
        try simp only [Act.put, List.setIfInBounds_toArray, List.set_cons_zero, List.set_cons_succ]
        refine AnyL.take (i := 12) (oi := { dst := some 76, op := Op.move (Operand.tmp 0), type := 27, pos := "ref.go:27", after := #[], guard := none }) (v := ?_) rfl (by decide) (by kernel_rfl) (by kernel_rfl) (by kernel_rfl) (by kernel_rfl) (fun _ _ _ h => h) (Or.inl ⟨by rfl, ?_⟩) (by assumption) ?_
        rotate_left
        · (intro w hSw; (try dsimp only at hSw); first | (go_simp; done) | (go_simp; with_reducible rfl))
        try simp only [Act.put, List.setIfInBounds_toArray, List.set_cons_zero, List.set_cons_succ]
        refine AnyL.take (i := 13) (oi := { dst := some 77, op := Op.nilCheck (Operand.tmp 76), type := 0, pos := "ref.go:27", after := #[{ on := 12, ground := Ground.data }], guard := none }) (v := ?_) rfl (by decide) (by kernel_rfl) (by kernel_rfl) (by kernel_rfl) (by kernel_rfl) (fun _ _ _ h => h) (Or.inl ⟨by rfl, ?_⟩) (by assumption) ?_
        rotate_left
        · (intro w hSw; (try dsimp only at hSw); first | (go_simp; done) | (go_simp; with_reducible rfl))
        try simp only [Act.put, List.setIfInBounds_toArray, List.set_cons_zero, List.set_cons_succ]
        refine AnyL.take (i := 14) (oi := { dst := some 78, op := Op.fieldAddr 29 (Operand.tmp 77) 0, type := 0, pos := "ref.go:27", after := #[{ on := 13, ground := Ground.data }], guard := none }) (v := ?_) rfl (by decide) (by kernel_rfl) (by kernel_rfl) (by kernel_rfl) (by kernel_rfl) (fun _ _ _ h => h) (Or.inl ⟨by rfl, ?_⟩) (by assumption) ?_
        rotate_left
        · (intro w hSw; (try dsimp only at hSw); first | (go_simp; done) | (go_simp; with_reducible rfl))
        try simp only [Act.put, List.setIfInBounds_toArray, List.set_cons_zero, List.set_cons_succ]
        refine AnyL.take (i := 15) (oi := { dst := some 79, op := Op.load 22 (Operand.tmp 78), type := 22, pos := "ref.go:27", after := #[{ on := 14, ground := Ground.data }], guard := none }) (v := ?_) rfl (by decide) (by kernel_rfl) (by kernel_rfl) (by kernel_rfl) (by kernel_rfl) (fun _ _ _ h => h) (Or.inl ⟨by rfl, ?_⟩) (by assumption) ?_
        rotate_left
        · (intro w hSw; (try dsimp only at hSw); first | (go_simp; done) | (go_simp; with_reducible rfl))
        try simp only [Act.put, List.setIfInBounds_toArray, List.set_cons_zero, List.set_cons_succ]
        refine AnyL.take (i := 16) (oi := { dst := some 80, op := Op.move (Operand.tmp 6), type := 3, pos := "ref.go:27", after := #[], guard := none }) (v := ?_) rfl (by decide) (by kernel_rfl) (by kernel_rfl) (by kernel_rfl) (by kernel_rfl) (fun _ _ _ h => h) (Or.inl ⟨by rfl, ?_⟩) (by assumption) ?_
        rotate_left
        · (intro w hSw; (try dsimp only at hSw); first | (go_simp; done) | (go_simp; with_reducible rfl))
        try simp only [Act.put, List.setIfInBounds_toArray, List.set_cons_zero, List.set_cons_succ]
        refine AnyL.take (i := 17) (oi := { dst := some 81, op := Op.slice 22 (Operand.tmp 79) (some (Operand.tmp 80)) none none, type := 22, pos := "ref.go:27", after := #[{ on := 15, ground := Ground.data }, { on := 16, ground := Ground.data }], guard := none }) (v := ?_) rfl (by decide) (by kernel_rfl) (by kernel_rfl) (by kernel_rfl) (by kernel_rfl) (fun _ _ _ h => h) (Or.inl ⟨by rfl, ?_⟩) (by assumption) ?_
        rotate_left
        · (intro w hSw; (try dsimp only at hSw); first | (go_simp; done) | (go_simp; with_reducible rfl))
        try simp only [Act.put, List.setIfInBounds_toArray, List.set_cons_zero, List.set_cons_succ]
        clear hHeld
        refine AnyL.ready (rs := [1, 10]) (by kernel_rfl) (by simp) ?_
        refine (AllL.cons (o := { dst := some 65, op := Op.buildSlice 22 0 #[], type := 22, pos := "ref.go:27", after := #[], guard := none }) rfl (fun K hK => ?_) (AllL.cons (o := { dst := some 74, op := Op.buildSlice 22 1 #[(0, Operand.tmp 73)], type := 22, pos := "ref.go:27", after := #[{ on := 9, ground := Ground.data }], guard := none }) rfl (fun K hK => ?_) AllL.nil))
        · go_simp
          have hbq : Bel zb (zb.alloc (.cells #[] 33)).drew := ((Bel.refl zb).alloc _).drew
          refine hK.out _ _ (fun _ => HS.out _ (HBR.out.trans hbq)) ?_
          clear hbq
          clear hK K
          try simp only [Act.put, List.setIfInBounds_toArray, List.set_cons_zero, List.set_cons_succ]
          obtain ⟨z1, hz1⟩ : ∃ x, x = (zb.alloc (.cells #[] 33)).drew := ⟨_, rfl⟩
          have HLE := Lib.hid (show z1.heap[zb.heap.size]? = some (.cells #[] 33 (0, 0)) by rw [hz1]; exact heap_alloc_new zb (.cells #[] 33))
          have hltE : zb.heap.size < z1.heap.size := (Array.getElem?_eq_some_iff.1 HLE.out).1
          have hbz1 : Bel zb z1 := by rw [hz1]; exact ((Bel.refl zb).alloc _).drew
          have HBz1 := Lib.hid (HBR.out.trans hbz1)
          rw [← hz1]
          clear hz1
          have HOE := Lib.hid (ownG_empty (E := entEl) (n := zb.heap.size) HLE.out HBR.out.size)
          refine AnyL.ready (rs := [8, 10]) (by kernel_rfl) (by simp) ?_
          refine (AllL.cons (o := { dst := some 72, op := Op.call { callee := Callee.builtin Builtin.append, args := #[Operand.tmp 65, Operand.tmp 71], argTypes := #[22, 22] }, type := 22, pos := "ref.go:27", after := #[{ on := 1, ground := Ground.data }, { on := 7, ground := Ground.data }], guard := none }) rfl (fun K hK => ?_) (AllL.cons (o := { dst := some 74, op := Op.buildSlice 22 1 #[(0, Operand.tmp 73)], type := 22, pos := "ref.go:27", after := #[{ on := 9, ground := Ground.data }], guard := none }) rfl (fun K hK => ?_) AllL.nil))
          · refine step_append_all entOk rfl (.tmp 65) (.tmp 71) rfl rfl HOE.out ([]) rfl (HS1.out z1 HBz1.out) (lim1a HL1.out HL2.out) (lim1b HL1.out HL2.out) HBz1.out.size ?_
            intro vz2 z2 hoz2 hkz2 _
            have HBz2 := Lib.hid (show Bel zb z2 from HBz1.out.trans_below (hkz2.own HBz1.out.size (fun kk hkk => (HOE.out.lt kk hkk).1)))
            rw [List.nil_append] at hoz2
            have hkkz2 : Keep (Value.ownBlock (.slice (some ⟨zb.heap.size, 0, none⟩) 0 0)).toList z1 z2 := hkz2
            have HO2 := Lib.hid hoz2
            clear hoz2 hkz2 hkkz2
            refine hK.out _ _ (fun _ => HS.out _ HBz2.out) ?_
            clear hK K
            try simp only [Act.put, List.setIfInBounds_toArray, List.set_cons_zero, List.set_cons_succ]
            refine AnyL.ready (rs := [10]) (by kernel_rfl) (by simp) ?_
            refine (AllL.cons (o := { dst := some 74, op := Op.buildSlice 22 1 #[(0, Operand.tmp 73)], type := 22, pos := "ref.go:27", after := #[{ on := 9, ground := Ground.data }], guard := none }) rfl (fun K hK => ?_) AllL.nil)
            go_simp
            have hbq : Bel z2 (z2.alloc (.cells #[.string e.k, .int .i64 e.q, .bool e.d, .string e.v] 33)) := ((Bel.refl z2).alloc _)
            refine hK.out _ _ (fun _ => HS.out _ (HBz2.out.trans hbq)) ?_
            clear hbq
            clear hK K
            try simp only [Act.put, List.setIfInBounds_toArray, List.set_cons_zero, List.set_cons_succ]
            obtain ⟨z3, hz3⟩ : ∃ x, x = (z2.alloc (.cells #[.string e.k, .int .i64 e.q, .bool e.d, .string e.v] 33)) := ⟨_, rfl⟩
            have HLL := Lib.hid (show z3.heap[z2.heap.size]? = some (.cells #[.string e.k, .int .i64 e.q, .bool e.d, .string e.v] 33 (0, 0)) by rw [hz3]; exact heap_alloc_new z2 (.cells #[.string e.k, .int .i64 e.q, .bool e.d, .string e.v] 33))
            have hltL : z2.heap.size < z3.heap.size := (Array.getElem?_eq_some_iff.1 HLL.out).1
            have hbz3 : Bel z2 z3 := by rw [hz3]; exact ((Bel.refl z2).alloc _)
            have HBz3 := Lib.hid (HBz2.out.trans hbz3)
            rw [← hz3]
            clear hz3
            have HO2b := Lib.hid (HO2.out.bel hbz3)
            refine AnyL.ready (rs := [11]) (by kernel_rfl) (by simp) ?_
            refine (AllL.cons (o := { dst := some 75, op := Op.call { callee := Callee.builtin Builtin.append, args := #[Operand.tmp 72, Operand.tmp 74], argTypes := #[22, 22] }, type := 22, pos := "ref.go:27", after := #[{ on := 8, ground := Ground.data }, { on := 10, ground := Ground.data }, { on := 8, ground := Ground.chain }], guard := none }) rfl (fun K hK => ?_) AllL.nil)
            refine step_append_all entOk rfl (.tmp 72) (.tmp 74) rfl rfl HO2b.out ([e]) rfl (src_at [e] HLL.out rfl rfl) (lim2a HL1.out HL2.out) (lim2b HL1.out HL2.out) HBz3.out.size ?_
            intro vz4 z4 hoz4 hkz4 _
            have HBz4 := Lib.hid (show Bel zb z4 from HBz3.out.trans_below (hkz4.own HBz3.out.size (fun kk hkk => (HO2b.out.lt kk hkk).1)))
            have HO3 := Lib.hid hoz4
            clear hoz4 hkz4
            refine hK.out _ _ (fun _ => HS.out _ HBz4.out) ?_
            clear hK K
            try simp only [Act.put, List.setIfInBounds_toArray, List.set_cons_zero, List.set_cons_succ]
            refine AnyL.ready (rs := [18]) (by kernel_rfl) (by simp) ?_
            refine (AllL.cons (o := { dst := some 82, op := Op.call { callee := Callee.builtin Builtin.append, args := #[Operand.tmp 75, Operand.tmp 81], argTypes := #[22, 22] }, type := 22, pos := "ref.go:27", after := #[{ on := 11, ground := Ground.data }, { on := 17, ground := Ground.data }, { on := 11, ground := Ground.chain }], guard := none }) rfl (fun K hK => ?_) AllL.nil)
            refine step_append_all entOk rfl (.tmp 75) (.tmp 81) rfl rfl HO3.out ([]) rfl (HS2.out z4 HBz4.out) (lim3a HL1.out HL2.out) (lim3b HL1.out HL2.out) HBz4.out.size ?_
            intro vz5 z5 hoz5 hkz5 _
            have HBz5 := Lib.hid (show Bel zb z5 from HBz4.out.trans_below (hkz5.own HBz4.out.size (fun kk hkk => (HO3.out.lt kk hkk).1)))
            have HO4 := Lib.hid hoz5
            clear hoz5 hkz5
            refine hK.out _ _ (fun _ => HS.out _ HBz5.out) ?_
            clear hK K
            try simp only [Act.put, List.setIfInBounds_toArray, List.set_cons_zero, List.set_cons_succ]
            have HOF := Lib.hid (show OwnG entEl zb.heap.size z5 vz5 (stepS [] e) by rw [HADD.out]; exact HO4.out)
            obtain ⟨pf, cf, hvf⟩ := ownG_len HOF.out
            rw [hvf] at HOF ⊢
            clear hvf
            generalize (stepS [] e).length = nf at *
            refine AnyL.ready (rs := [19]) (by kernel_rfl) (by simp) ?_
            refine (AllL.cons (o := { dst := some 83, op := Op.nilCheck (Operand.tmp 64), type := 0, pos := "ref.go:27", after := #[{ on := 0, ground := Ground.data }, { on := 0, ground := Ground.phase }, { on := 1, ground := Ground.phase }, { on := 2, ground := Ground.phase }, { on := 3, ground := Ground.phase }, { on := 4, ground := Ground.phase }, { on := 5, ground := Ground.phase }, { on := 6, ground := Ground.phase }, { on := 7, ground := Ground.phase }, { on := 8, ground := Ground.phase }, { on := 9, ground := Ground.phase }, { on := 10, ground := Ground.phase }, { on := 11, ground := Ground.phase }, { on := 12, ground := Ground.phase }, { on := 13, ground := Ground.phase }, { on := 14, ground := Ground.phase }, { on := 15, ground := Ground.phase }, { on := 16, ground := Ground.phase }, { on := 17, ground := Ground.phase }, { on := 18, ground := Ground.phase }], guard := none }) rfl (fun K hK => ?_) AllL.nil)
            go_simp
            refine hK.out _ _ (fun _ => HS.out _ HBz5.out) ?_
            clear hK K
            try simp only [Act.put, List.setIfInBounds_toArray, List.set_cons_zero, List.set_cons_succ]
            refine AnyL.ready (rs := [20]) (by kernel_rfl) (by simp) ?_
            refine (AllL.cons (o := { dst := some 84, op := Op.fieldAddr 29 (Operand.tmp 83) 0, type := 0, pos := "ref.go:27", after := #[{ on := 19, ground := Ground.data }, { on := 0, ground := Ground.phase }, { on := 1, ground := Ground.phase }, { on := 2, ground := Ground.phase }, { on := 3, ground := Ground.phase }, { on := 4, ground := Ground.phase }, { on := 5, ground := Ground.phase }, { on := 6, ground := Ground.phase }, { on := 7, ground := Ground.phase }, { on := 8, ground := Ground.phase }, { on := 9, ground := Ground.phase }, { on := 10, ground := Ground.phase }, { on := 11, ground := Ground.phase }, { on := 12, ground := Ground.phase }, { on := 13, ground := Ground.phase }, { on := 14, ground := Ground.phase }, { on := 15, ground := Ground.phase }, { on := 16, ground := Ground.phase }, { on := 17, ground := Ground.phase }, { on := 18, ground := Ground.phase }], guard := none }) rfl (fun K hK => ?_) AllL.nil)
            go_simp
            refine hK.out _ _ (fun _ => HS.out _ HBz5.out) ?_
            clear hK K
            try simp only [Act.put, List.setIfInBounds_toArray, List.set_cons_zero, List.set_cons_succ]
            refine AnyL.ready (rs := [21]) (by kernel_rfl) (by simp) ?_
            refine (AllL.cons (o := { dst := none, op := Op.store 22 (Operand.tmp 84) (Operand.tmp 82), type := 0, pos := "ref.go:27", after := #[{ on := 20, ground := Ground.data }, { on := 18, ground := Ground.data }, { on := 18, ground := Ground.chain }, { on := 0, ground := Ground.phase }, { on := 1, ground := Ground.phase }, { on := 2, ground := Ground.phase }, { on := 3, ground := Ground.phase }, { on := 4, ground := Ground.phase }, { on := 5, ground := Ground.phase }, { on := 6, ground := Ground.phase }, { on := 7, ground := Ground.phase }, { on := 8, ground := Ground.phase }, { on := 9, ground := Ground.phase }, { on := 10, ground := Ground.phase }, { on := 11, ground := Ground.phase }, { on := 12, ground := Ground.phase }, { on := 13, ground := Ground.phase }, { on := 14, ground := Ground.phase }, { on := 15, ground := Ground.phase }, { on := 16, ground := Ground.phase }, { on := 17, ground := Ground.phase }, { on := 18, ground := Ground.phase }], guard := none }) rfl (fun K hK => ?_) AllL.nil)
            obtain ⟨s0, -, -, -, -, s5⟩ := HS.out _ HBz5.out
            go_simp
            refine hK.out _ _ (fun h => absurd rfl h) ?_
            clear hK K s0 s5
            try simp only [Act.put, List.setIfInBounds_toArray, List.set_cons_zero, List.set_cons_succ]
            refine AnyL.done (by kernel_rfl) ?_ _
            go_wp2_with (fail)
            go_ret
            have hbw : Bel w z5 := HB1.out.trans (HZB.out.trans HBz5.out)
            exact ⟨_, (by rw [HERR.out]; rfl), rm_set ((Below.block hbw b (by rw [HBX.out]; exact hlt)).trans HBLK.out) (HOF.out.low (Nat.zero_le _)), rm_new HOF.out (HB1.out.trans HZB.out), (Keep.of_bel hbw _).setCell (Or.inl (by simp)) _⟩
          · go_simp
            have hbq : Bel z1 (z1.alloc (.cells #[.string e.k, .int .i64 e.q, .bool e.d, .string e.v] 33)) := ((Bel.refl z1).alloc _)
            refine hK.out _ _ (fun _ => HS.out _ (HBz1.out.trans hbq)) ?_
            clear hbq
            clear hK K
            try simp only [Act.put, List.setIfInBounds_toArray, List.set_cons_zero, List.set_cons_succ]
            obtain ⟨z2, hz2⟩ : ∃ x, x = (z1.alloc (.cells #[.string e.k, .int .i64 e.q, .bool e.d, .string e.v] 33)) := ⟨_, rfl⟩
            have HLL := Lib.hid (show z2.heap[z1.heap.size]? = some (.cells #[.string e.k, .int .i64 e.q, .bool e.d, .string e.v] 33 (0, 0)) by rw [hz2]; exact heap_alloc_new z1 (.cells #[.string e.k, .int .i64 e.q, .bool e.d, .string e.v] 33))
            have hltL : z1.heap.size < z2.heap.size := (Array.getElem?_eq_some_iff.1 HLL.out).1
            have hbz2 : Bel z1 z2 := by rw [hz2]; exact ((Bel.refl z1).alloc _)
            have HBz2 := Lib.hid (HBz1.out.trans hbz2)
            rw [← hz2]
            clear hz2
            have HOE2 := Lib.hid (HOE.out.bel hbz2)
            refine AnyL.ready (rs := [8]) (by kernel_rfl) (by simp) ?_
            refine (AllL.cons (o := { dst := some 72, op := Op.call { callee := Callee.builtin Builtin.append, args := #[Operand.tmp 65, Operand.tmp 71], argTypes := #[22, 22] }, type := 22, pos := "ref.go:27", after := #[{ on := 1, ground := Ground.data }, { on := 7, ground := Ground.data }], guard := none }) rfl (fun K hK => ?_) AllL.nil)
            refine step_append_all entOk rfl (.tmp 65) (.tmp 71) rfl rfl HOE2.out ([]) rfl (HS1.out z2 HBz2.out) (lim1a HL1.out HL2.out) (lim1b HL1.out HL2.out) HBz2.out.size ?_
            intro vz3 z3 hoz3 hkz3 _
            have HBz3 := Lib.hid (show Bel zb z3 from HBz2.out.trans_below (hkz3.own HBz2.out.size (fun kk hkk => (HOE2.out.lt kk hkk).1)))
            rw [List.nil_append] at hoz3
            have hkkz3 : Keep (Value.ownBlock (.slice (some ⟨zb.heap.size, 0, none⟩) 0 0)).toList z2 z3 := hkz3
            have HLL3 := Lib.hid (hkkz3.at HLL.out (fun hm => by rw [Option.mem_toList] at hm; simp only [Value.ownBlock, Option.some.injEq] at hm; omega))
            have HO2 := Lib.hid hoz3
            clear hoz3 hkz3 hkkz3
            refine hK.out _ _ (fun _ => HS.out _ HBz3.out) ?_
            clear hK K
            try simp only [Act.put, List.setIfInBounds_toArray, List.set_cons_zero, List.set_cons_succ]
            refine AnyL.ready (rs := [11]) (by kernel_rfl) (by simp) ?_
            refine (AllL.cons (o := { dst := some 75, op := Op.call { callee := Callee.builtin Builtin.append, args := #[Operand.tmp 72, Operand.tmp 74], argTypes := #[22, 22] }, type := 22, pos := "ref.go:27", after := #[{ on := 8, ground := Ground.data }, { on := 10, ground := Ground.data }, { on := 8, ground := Ground.chain }], guard := none }) rfl (fun K hK => ?_) AllL.nil)
            refine step_append_all entOk rfl (.tmp 72) (.tmp 74) rfl rfl HO2.out ([e]) rfl (src_at [e] HLL3.out rfl rfl) (lim2a HL1.out HL2.out) (lim2b HL1.out HL2.out) HBz3.out.size ?_
            intro vz4 z4 hoz4 hkz4 _
            have HBz4 := Lib.hid (show Bel zb z4 from HBz3.out.trans_below (hkz4.own HBz3.out.size (fun kk hkk => (HO2.out.lt kk hkk).1)))
            have HO3 := Lib.hid hoz4
            clear hoz4 hkz4
            refine hK.out _ _ (fun _ => HS.out _ HBz4.out) ?_
            clear hK K
            try simp only [Act.put, List.setIfInBounds_toArray, List.set_cons_zero, List.set_cons_succ]
            refine AnyL.ready (rs := [18]) (by kernel_rfl) (by simp) ?_
            refine (AllL.cons (o := { dst := some 82, op := Op.call { callee := Callee.builtin Builtin.append, args := #[Operand.tmp 75, Operand.tmp 81], argTypes := #[22, 22] }, type := 22, pos := "ref.go:27", after := #[{ on := 11, ground := Ground.data }, { on := 17, ground := Ground.data }, { on := 11, ground := Ground.chain }], guard := none }) rfl (fun K hK => ?_) AllL.nil)
            refine step_append_all entOk rfl (.tmp 75) (.tmp 81) rfl rfl HO3.out ([]) rfl (HS2.out z4 HBz4.out) (lim3a HL1.out HL2.out) (lim3b HL1.out HL2.out) HBz4.out.size ?_
            intro vz5 z5 hoz5 hkz5 _
            have HBz5 := Lib.hid (show Bel zb z5 from HBz4.out.trans_below (hkz5.own HBz4.out.size (fun kk hkk => (HO3.out.lt kk hkk).1)))
            have HO4 := Lib.hid hoz5
            clear hoz5 hkz5
            refine hK.out _ _ (fun _ => HS.out _ HBz5.out) ?_
            clear hK K
            try simp only [Act.put, List.setIfInBounds_toArray, List.set_cons_zero, List.set_cons_succ]
            have HOF := Lib.hid (show OwnG entEl zb.heap.size z5 vz5 (stepS [] e) by rw [HADD.out]; exact HO4.out)
            obtain ⟨pf, cf, hvf⟩ := ownG_len HOF.out
            rw [hvf] at HOF ⊢
            clear hvf
            generalize (stepS [] e).length = nf at *
            refine AnyL.ready (rs := [19]) (by kernel_rfl) (by simp) ?_
            refine (AllL.cons (o := { dst := some 83, op := Op.nilCheck (Operand.tmp 64), type := 0, pos := "ref.go:27", after := #[{ on := 0, ground := Ground.data }, { on := 0, ground := Ground.phase }, { on := 1, ground := Ground.phase }, { on := 2, ground := Ground.phase }, { on := 3, ground := Ground.phase }, { on := 4, ground := Ground.phase }, { on := 5, ground := Ground.phase }, { on := 6, ground := Ground.phase }, { on := 7, ground := Ground.phase }, { on := 8, ground := Ground.phase }, { on := 9, ground := Ground.phase }, { on := 10, ground := Ground.phase }, { on := 11, ground := Ground.phase }, { on := 12, ground := Ground.phase }, { on := 13, ground := Ground.phase }, { on := 14, ground := Ground.phase }, { on := 15, ground := Ground.phase }, { on := 16, ground := Ground.phase }, { on := 17, ground := Ground.phase }, { on := 18, ground := Ground.phase }], guard := none }) rfl (fun K hK => ?_) AllL.nil)
            go_simp
            refine hK.out _ _ (fun _ => HS.out _ HBz5.out) ?_
            clear hK K
            try simp only [Act.put, List.setIfInBounds_toArray, List.set_cons_zero, List.set_cons_succ]
            refine AnyL.ready (rs := [20]) (by kernel_rfl) (by simp) ?_
            refine (AllL.cons (o := { dst := some 84, op := Op.fieldAddr 29 (Operand.tmp 83) 0, type := 0, pos := "ref.go:27", after := #[{ on := 19, ground := Ground.data }, { on := 0, ground := Ground.phase }, { on := 1, ground := Ground.phase }, { on := 2, ground := Ground.phase }, { on := 3, ground := Ground.phase }, { on := 4, ground := Ground.phase }, { on := 5, ground := Ground.phase }, { on := 6, ground := Ground.phase }, { on := 7, ground := Ground.phase }, { on := 8, ground := Ground.phase }, { on := 9, ground := Ground.phase }, { on := 10, ground := Ground.phase }, { on := 11, ground := Ground.phase }, { on := 12, ground := Ground.phase }, { on := 13, ground := Ground.phase }, { on := 14, ground := Ground.phase }, { on := 15, ground := Ground.phase }, { on := 16, ground := Ground.phase }, { on := 17, ground := Ground.phase }, { on := 18, ground := Ground.phase }], guard := none }) rfl (fun K hK => ?_) AllL.nil)
            go_simp
            refine hK.out _ _ (fun _ => HS.out _ HBz5.out) ?_
            clear hK K
            try simp only [Act.put, List.setIfInBounds_toArray, List.set_cons_zero, List.set_cons_succ]
            refine AnyL.ready (rs := [21]) (by kernel_rfl) (by simp) ?_
            refine (AllL.cons (o := { dst := none, op := Op.store 22 (Operand.tmp 84) (Operand.tmp 82), type := 0, pos := "ref.go:27", after := #[{ on := 20, ground := Ground.data }, { on := 18, ground := Ground.data }, { on := 18, ground := Ground.chain }, { on := 0, ground := Ground.phase }, { on := 1, ground := Ground.phase }, { on := 2, ground := Ground.phase }, { on := 3, ground := Ground.phase }, { on := 4, ground := Ground.phase }, { on := 5, ground := Ground.phase }, { on := 6, ground := Ground.phase }, { on := 7, ground := Ground.phase }, { on := 8, ground := Ground.phase }, { on := 9, ground := Ground.phase }, { on := 10, ground := Ground.phase }, { on := 11, ground := Ground.phase }, { on := 12, ground := Ground.phase }, { on := 13, ground := Ground.phase }, { on := 14, ground := Ground.phase }, { on := 15, ground := Ground.phase }, { on := 16, ground := Ground.phase }, { on := 17, ground := Ground.phase }, { on := 18, ground := Ground.phase }], guard := none }) rfl (fun K hK => ?_) AllL.nil)
            obtain ⟨s0, -, -, -, -, s5⟩ := HS.out _ HBz5.out
            go_simp
            refine hK.out _ _ (fun h => absurd rfl h) ?_
            clear hK K s0 s5
            try simp only [Act.put, List.setIfInBounds_toArray, List.set_cons_zero, List.set_cons_succ]
            refine AnyL.done (by kernel_rfl) ?_ _
            go_wp2_with (fail)
            go_ret
            have hbw : Bel w z5 := HB1.out.trans (HZB.out.trans HBz5.out)
            exact ⟨_, (by rw [HERR.out]; rfl), rm_set ((Below.block hbw b (by rw [HBX.out]; exact hlt)).trans HBLK.out) (HOF.out.low (Nat.zero_le _)), rm_new HOF.out (HB1.out.trans HZB.out), (Keep.of_bel hbw _).setCell (Or.inl (by simp)) _⟩
        · go_simp
          have hbq : Bel zb (zb.alloc (.cells #[.string e.k, .int .i64 e.q, .bool e.d, .string e.v] 33)).drew := ((Bel.refl zb).alloc _).drew
          refine hK.out _ _ (fun _ => HS.out _ (HBR.out.trans hbq)) ?_
          clear hbq
          clear hK K
          try simp only [Act.put, List.setIfInBounds_toArray, List.set_cons_zero, List.set_cons_succ]
          obtain ⟨z1, hz1⟩ : ∃ x, x = (zb.alloc (.cells #[.string e.k, .int .i64 e.q, .bool e.d, .string e.v] 33)).drew := ⟨_, rfl⟩
          have HLL := Lib.hid (show z1.heap[zb.heap.size]? = some (.cells #[.string e.k, .int .i64 e.q, .bool e.d, .string e.v] 33 (0, 0)) by rw [hz1]; exact heap_alloc_new zb (.cells #[.string e.k, .int .i64 e.q, .bool e.d, .string e.v] 33))
          have hltL : zb.heap.size < z1.heap.size := (Array.getElem?_eq_some_iff.1 HLL.out).1
          have hbz1 : Bel zb z1 := by rw [hz1]; exact ((Bel.refl zb).alloc _).drew
          have HBz1 := Lib.hid (HBR.out.trans hbz1)
          rw [← hz1]
          clear hz1
          refine AnyL.ready (rs := [1]) (by kernel_rfl) (by simp) ?_
          refine (AllL.cons (o := { dst := some 65, op := Op.buildSlice 22 0 #[], type := 22, pos := "ref.go:27", after := #[], guard := none }) rfl (fun K hK => ?_) AllL.nil)
          go_simp
          have hbq : Bel z1 (z1.alloc (.cells #[] 33)) := ((Bel.refl z1).alloc _)
          refine hK.out _ _ (fun _ => HS.out _ (HBz1.out.trans hbq)) ?_
          clear hbq
          clear hK K
          try simp only [Act.put, List.setIfInBounds_toArray, List.set_cons_zero, List.set_cons_succ]
          obtain ⟨z2, hz2⟩ : ∃ x, x = (z1.alloc (.cells #[] 33)) := ⟨_, rfl⟩
          have HLE := Lib.hid (show z2.heap[z1.heap.size]? = some (.cells #[] 33 (0, 0)) by rw [hz2]; exact heap_alloc_new z1 (.cells #[] 33))
          have hltE : z1.heap.size < z2.heap.size := (Array.getElem?_eq_some_iff.1 HLE.out).1
          have hbz2 : Bel z1 z2 := by rw [hz2]; exact ((Bel.refl z1).alloc _)
          have HBz2 := Lib.hid (HBz1.out.trans hbz2)
          rw [← hz2]
          clear hz2
          have HOE := Lib.hid (ownG_empty (E := entEl) (n := zb.heap.size) HLE.out HBz1.out.size)
          have HLL2 := Lib.hid ((Below.block hbz2 zb.heap.size (by omega)).trans HLL.out)
          refine AnyL.ready (rs := [8]) (by kernel_rfl) (by simp) ?_
          refine (AllL.cons (o := { dst := some 72, op := Op.call { callee := Callee.builtin Builtin.append, args := #[Operand.tmp 65, Operand.tmp 71], argTypes := #[22, 22] }, type := 22, pos := "ref.go:27", after := #[{ on := 1, ground := Ground.data }, { on := 7, ground := Ground.data }], guard := none }) rfl (fun K hK => ?_) AllL.nil)
          refine step_append_all entOk rfl (.tmp 65) (.tmp 71) rfl rfl HOE.out ([]) rfl (HS1.out z2 HBz2.out) (lim1a HL1.out HL2.out) (lim1b HL1.out HL2.out) HBz2.out.size ?_
          intro vz3 z3 hoz3 hkz3 _
          have HBz3 := Lib.hid (show Bel zb z3 from HBz2.out.trans_below (hkz3.own HBz2.out.size (fun kk hkk => (HOE.out.lt kk hkk).1)))
          rw [List.nil_append] at hoz3
          have hkkz3 : Keep (Value.ownBlock (.slice (some ⟨z1.heap.size, 0, none⟩) 0 0)).toList z2 z3 := hkz3
          have HLL3 := Lib.hid (hkkz3.at HLL2.out (fun hm => by rw [Option.mem_toList] at hm; simp only [Value.ownBlock, Option.some.injEq] at hm; omega))
          have HO2 := Lib.hid hoz3
          clear hoz3 hkz3 hkkz3
          refine hK.out _ _ (fun _ => HS.out _ HBz3.out) ?_
          clear hK K
          try simp only [Act.put, List.setIfInBounds_toArray, List.set_cons_zero, List.set_cons_succ]
          refine AnyL.ready (rs := [11]) (by kernel_rfl) (by simp) ?_
          refine (AllL.cons (o := { dst := some 75, op := Op.call { callee := Callee.builtin Builtin.append, args := #[Operand.tmp 72, Operand.tmp 74], argTypes := #[22, 22] }, type := 22, pos := "ref.go:27", after := #[{ on := 8, ground := Ground.data }, { on := 10, ground := Ground.data }, { on := 8, ground := Ground.chain }], guard := none }) rfl (fun K hK => ?_) AllL.nil)
          refine step_append_all entOk rfl (.tmp 72) (.tmp 74) rfl rfl HO2.out ([e]) rfl (src_at [e] HLL3.out rfl rfl) (lim2a HL1.out HL2.out) (lim2b HL1.out HL2.out) HBz3.out.size ?_
          intro vz4 z4 hoz4 hkz4 _
          have HBz4 := Lib.hid (show Bel zb z4 from HBz3.out.trans_below (hkz4.own HBz3.out.size (fun kk hkk => (HO2.out.lt kk hkk).1)))
          have HO3 := Lib.hid hoz4
          clear hoz4 hkz4
          refine hK.out _ _ (fun _ => HS.out _ HBz4.out) ?_
          clear hK K
          try simp only [Act.put, List.setIfInBounds_toArray, List.set_cons_zero, List.set_cons_succ]
          refine AnyL.ready (rs := [18]) (by kernel_rfl) (by simp) ?_
          refine (AllL.cons (o := { dst := some 82, op := Op.call { callee := Callee.builtin Builtin.append, args := #[Operand.tmp 75, Operand.tmp 81], argTypes := #[22, 22] }, type := 22, pos := "ref.go:27", after := #[{ on := 11, ground := Ground.data }, { on := 17, ground := Ground.data }, { on := 11, ground := Ground.chain }], guard := none }) rfl (fun K hK => ?_) AllL.nil)
          refine step_append_all entOk rfl (.tmp 75) (.tmp 81) rfl rfl HO3.out ([]) rfl (HS2.out z4 HBz4.out) (lim3a HL1.out HL2.out) (lim3b HL1.out HL2.out) HBz4.out.size ?_
          intro vz5 z5 hoz5 hkz5 _
          have HBz5 := Lib.hid (show Bel zb z5 from HBz4.out.trans_below (hkz5.own HBz4.out.size (fun kk hkk => (HO3.out.lt kk hkk).1)))
          have HO4 := Lib.hid hoz5
          clear hoz5 hkz5
          refine hK.out _ _ (fun _ => HS.out _ HBz5.out) ?_
          clear hK K
          try simp only [Act.put, List.setIfInBounds_toArray, List.set_cons_zero, List.set_cons_succ]
          have HOF := Lib.hid (show OwnG entEl zb.heap.size z5 vz5 (stepS [] e) by rw [HADD.out]; exact HO4.out)
          obtain ⟨pf, cf, hvf⟩ := ownG_len HOF.out
          rw [hvf] at HOF ⊢
          clear hvf
          generalize (stepS [] e).length = nf at *
          refine AnyL.ready (rs := [19]) (by kernel_rfl) (by simp) ?_
          refine (AllL.cons (o := { dst := some 83, op := Op.nilCheck (Operand.tmp 64), type := 0, pos := "ref.go:27", after := #[{ on := 0, ground := Ground.data }, { on := 0, ground := Ground.phase }, { on := 1, ground := Ground.phase }, { on := 2, ground := Ground.phase }, { on := 3, ground := Ground.phase }, { on := 4, ground := Ground.phase }, { on := 5, ground := Ground.phase }, { on := 6, ground := Ground.phase }, { on := 7, ground := Ground.phase }, { on := 8, ground := Ground.phase }, { on := 9, ground := Ground.phase }, { on := 10, ground := Ground.phase }, { on := 11, ground := Ground.phase }, { on := 12, ground := Ground.phase }, { on := 13, ground := Ground.phase }, { on := 14, ground := Ground.phase }, { on := 15, ground := Ground.phase }, { on := 16, ground := Ground.phase }, { on := 17, ground := Ground.phase }, { on := 18, ground := Ground.phase }], guard := none }) rfl (fun K hK => ?_) AllL.nil)
          go_simp
          refine hK.out _ _ (fun _ => HS.out _ HBz5.out) ?_
          clear hK K
          try simp only [Act.put, List.setIfInBounds_toArray, List.set_cons_zero, List.set_cons_succ]
          refine AnyL.ready (rs := [20]) (by kernel_rfl) (by simp) ?_
          refine (AllL.cons (o := { dst := some 84, op := Op.fieldAddr 29 (Operand.tmp 83) 0, type := 0, pos := "ref.go:27", after := #[{ on := 19, ground := Ground.data }, { on := 0, ground := Ground.phase }, { on := 1, ground := Ground.phase }, { on := 2, ground := Ground.phase }, { on := 3, ground := Ground.phase }, { on := 4, ground := Ground.phase }, { on := 5, ground := Ground.phase }, { on := 6, ground := Ground.phase }, { on := 7, ground := Ground.phase }, { on := 8, ground := Ground.phase }, { on := 9, ground := Ground.phase }, { on := 10, ground := Ground.phase }, { on := 11, ground := Ground.phase }, { on := 12, ground := Ground.phase }, { on := 13, ground := Ground.phase }, { on := 14, ground := Ground.phase }, { on := 15, ground := Ground.phase }, { on := 16, ground := Ground.phase }, { on := 17, ground := Ground.phase }, { on := 18, ground := Ground.phase }], guard := none }) rfl (fun K hK => ?_) AllL.nil)
          go_simp
          refine hK.out _ _ (fun _ => HS.out _ HBz5.out) ?_
          clear hK K
          try simp only [Act.put, List.setIfInBounds_toArray, List.set_cons_zero, List.set_cons_succ]
          refine AnyL.ready (rs := [21]) (by kernel_rfl) (by simp) ?_
          refine (AllL.cons (o := { dst := none, op := Op.store 22 (Operand.tmp 84) (Operand.tmp 82), type := 0, pos := "ref.go:27", after := #[{ on := 20, ground := Ground.data }, { on := 18, ground := Ground.data }, { on := 18, ground := Ground.chain }, { on := 0, ground := Ground.phase }, { on := 1, ground := Ground.phase }, { on := 2, ground := Ground.phase }, { on := 3, ground := Ground.phase }, { on := 4, ground := Ground.phase }, { on := 5, ground := Ground.phase }, { on := 6, ground := Ground.phase }, { on := 7, ground := Ground.phase }, { on := 8, ground := Ground.phase }, { on := 9, ground := Ground.phase }, { on := 10, ground := Ground.phase }, { on := 11, ground := Ground.phase }, { on := 12, ground := Ground.phase }, { on := 13, ground := Ground.phase }, { on := 14, ground := Ground.phase }, { on := 15, ground := Ground.phase }, { on := 16, ground := Ground.phase }, { on := 17, ground := Ground.phase }, { on := 18, ground := Ground.phase }], guard := none }) rfl (fun K hK => ?_) AllL.nil)
          obtain ⟨s0, -, -, -, -, s5⟩ := HS.out _ HBz5.out
          go_simp
          refine hK.out _ _ (fun h => absurd rfl h) ?_
          clear hK K s0 s5
          try simp only [Act.put, List.setIfInBounds_toArray, List.set_cons_zero, List.set_cons_succ]
          refine AnyL.done (by kernel_rfl) ?_ _
          go_wp2_with (fail)
          go_ret
          have hbw : Bel w z5 := HB1.out.trans (HZB.out.trans HBz5.out)
          exact ⟨_, (by rw [HERR.out]; rfl), rm_set ((Below.block hbw b (by rw [HBX.out]; exact hlt)).trans HBLK.out) (HOF.out.low (Nat.zero_le _)), rm_new HOF.out (HB1.out.trans HZB.out), (Keep.of_bel hbw _).setCell (Or.inl (by simp)) _⟩
    · simp only [Value.slice.injEq, true_and] at hv2
      obtain ⟨rfl, rfl⟩ := hv2
      have HCELLS := Lib.hid hcells
      unfold maxLen at hcm
      clear hcells
      go_wp2_with (fail)
      go_loopw [6] (fun kv x => (∃ k : Nat, k ≤ C.length ∧ kv = .int .i64 k ∧ ∀ j (h : j < C.length), j < k → lessB C[j] e = true) ∧ Bel w1 x) (fun kv _ => C.length - (intOf kv).toNat)
      case atStart => exact ⟨⟨0, Nat.zero_le _, rfl, fun j _ h => by omega⟩, Bel.refl w1⟩
      case round =>
        obtain ⟨⟨k, hk, rfl, hall⟩, hw⟩ := hrel
        have hka := add4 g k
        have hkw : IntKind.i64.wrap (k : Int) = k := by rw [IntKind.wrap_i64]; omega
        have HW := Lib.hid hw
        have HALL := Lib.hid hall
        have d0 := cl11 hw c0
        by_cases hkl : k < C.length
        · obtain ⟨ck, hck, z0, z1, z2, z3⟩ := HCELLS.out k hkl
          have hbw : Bel w wr := HB1.out.trans hw
          have y0 := cl11 hbw z0
          have y1 := cl11 hbw z1
          have y2 := cl11 hbw z2
          have y3 := cl11 hbw z3
          have hfk : ck.fits := by rw [hck]; exact fits_at HCF.out hkl
          have hkli : (k : Int) < (C.length : Int) := by omega
          have HAN := Lib.hid (show lessB ck e = true → ∀ j (h : j < C.length), j < k + 1 → lessB C[j] e = true from fun hh j h hj => by
            by_cases e' : j = k
            · subst e'; rw [← hck]; exact hh
            · exact hall j h (by omega))
          have HAT := Lib.hid (show lessB ck e = false → ∀ h : k < C.length, lessB C[k] e = false from fun h2 _ => by rw [← hck]; exact h2)
          have HSA := Lib.hid (show ¬ sameB ck e → ∀ h : k < C.length, ¬ sameB C[k] e from fun h2 _ => by rw [← hck]; exact h2)
          have HTH := Lib.hid (show sameB ck e → errM C e = 5 ∧ stepS C e = C from fun h2 => add_there HP.out HR.out hkl (by rw [← hck]; exact h2))
          have HFK := Lib.hid hfk
          have u0 := cl11 hw x0
          have u1 := cl11 hw x1
          have u2 := cl11 hw x2
          have u3 := cl11 hw x3
          have HKL := Lib.hid hkl
          clear hw z0 z1 z2 z3 hck hfk hall hkl hbw
          go_wp2_with (fail)
          refine wp_region_held_drew (S := fun z => z.cell? ⟨b, 0, none⟩ = some (.slice (some ⟨g, 0, none⟩) C.length cap0) ∧ (z.cell? ⟨bx, 0, none⟩ = some (.string e.k) ∧ z.cell? ⟨bx, 1, none⟩ = some (.int .i64 e.q) ∧ z.cell? ⟨bx, 2, none⟩ = some (.bool e.d) ∧ z.cell? ⟨bx, 3, none⟩ = some (.string e.v)) ∧ z.cell? ⟨g, k * 4, none⟩ = some (.string ck.k) ∧ z.cell? ⟨g, k * 4 + 1, none⟩ = some (.int .i64 ck.q) ∧ z.cell? ⟨g, k * 4 + 2, none⟩ = some (.bool ck.d) ∧ z.cell? ⟨g, k * 4 + 3, none⟩ = some (.string ck.v)) (by kernel_rfl) ⟨d0, ⟨u0, u1, u2, u3⟩, y0, y1, y2, y3⟩ (fun hHeld => ?_)
          refine tk (oi := { dst := some 11, op := Op.move (Operand.tmp 6), type := 3, pos := "ref.go:21", after := #[], guard := none }) (v := ?_) 0 rfl ?_ ?_
          rotate_left
          · (intro w hSw; (try dsimp only at hSw); first | (go_simp; done) | (go_simp; with_reducible rfl))
          try simp only [Act.put, List.setIfInBounds_toArray, List.set_cons_zero, List.set_cons_succ]
          refine tk (oi := { dst := some 12, op := Op.move (Operand.tmp 0), type := 27, pos := "ref.go:21", after := #[], guard := none }) (v := ?_) 1 rfl ?_ ?_
          rotate_left
          · (intro w hSw; (try dsimp only at hSw); first | (go_simp; done) | (go_simp; with_reducible rfl))
          try simp only [Act.put, List.setIfInBounds_toArray, List.set_cons_zero, List.set_cons_succ]
          refine tk (oi := { dst := some 13, op := Op.nilCheck (Operand.tmp 12), type := 0, pos := "ref.go:21", after := #[{ on := 1, ground := Ground.data }], guard := none }) (v := ?_) 2 rfl ?_ ?_
          rotate_left
          · (intro w hSw; (try dsimp only at hSw); first | (go_simp; done) | (go_simp; with_reducible rfl))
          try simp only [Act.put, List.setIfInBounds_toArray, List.set_cons_zero, List.set_cons_succ]
          refine tk (oi := { dst := some 14, op := Op.fieldAddr 29 (Operand.tmp 13) 0, type := 0, pos := "ref.go:21", after := #[{ on := 2, ground := Ground.data }], guard := none }) (v := ?_) 3 rfl ?_ ?_
          rotate_left
          · (intro w hSw; (try dsimp only at hSw); first | (go_simp; done) | (go_simp; with_reducible rfl))
          try simp only [Act.put, List.setIfInBounds_toArray, List.set_cons_zero, List.set_cons_succ]
          refine tk (oi := { dst := some 15, op := Op.load 22 (Operand.tmp 14), type := 22, pos := "ref.go:21", after := #[{ on := 3, ground := Ground.data }], guard := none }) (v := ?_) 4 rfl ?_ ?_
          rotate_left
          · (intro w hSw; (try dsimp only at hSw); first | (go_simp; done) | (go_simp; with_reducible rfl))
          try simp only [Act.put, List.setIfInBounds_toArray, List.set_cons_zero, List.set_cons_succ]
          refine tk (oi := { dst := some 16, op := Op.call { callee := Callee.builtin Builtin.len, args := #[Operand.tmp 15], argTypes := #[22] }, type := 3, pos := "ref.go:21", after := #[{ on := 4, ground := Ground.data }], guard := none }) (v := ?_) 5 rfl ?_ ?_
          rotate_left
          · (intro w hSw; (try dsimp only at hSw); first | (go_simp; done) | (go_simp; with_reducible rfl))
          try simp only [Act.put, List.setIfInBounds_toArray, List.set_cons_zero, List.set_cons_succ]
          refine tk (oi := { dst := some 17, op := Op.binOp BinOp.lss 3 (Operand.tmp 11) (Operand.tmp 16) 3, type := 4, pos := "ref.go:21", after := #[{ on := 0, ground := Ground.data }, { on := 5, ground := Ground.data }], guard := none }) (v := ?_) 6 rfl ?_ ?_
          rotate_left
          · (intro w hSw; (try dsimp only at hSw); first | (go_simp; done) | (go_simp; with_reducible rfl))
          try simp only [Act.put, List.setIfInBounds_toArray, List.set_cons_zero, List.set_cons_succ]
          refine tk (oi := { dst := some 18, op := Op.move (Operand.tmp 17), type := 4, pos := "ref.go:21", after := #[{ on := 6, ground := Ground.data }], guard := none }) (v := ?_) 7 rfl ?_ ?_
          rotate_left
          · (intro w hSw; (try dsimp only at hSw); first | (go_simp; done) | (go_simp; with_reducible rfl))
          try simp only [Act.put, List.setIfInBounds_toArray, List.set_cons_zero, List.set_cons_succ]
          refine tk (oi := { dst := some 19, op := Op.move (Operand.tmp 0), type := 27, pos := "ref.go:21", after := #[{ on := 7, ground := Ground.guard }], guard := some (7, true) }) (v := ?_) 8 rfl ?_ ?_
          rotate_left
          · (intro w hSw; (try dsimp only at hSw); first | (go_simp; done) | (go_simp; with_reducible rfl))
          try simp only [Act.put, List.setIfInBounds_toArray, List.set_cons_zero, List.set_cons_succ]
          refine tk (oi := { dst := some 20, op := Op.nilCheck (Operand.tmp 19), type := 0, pos := "ref.go:21", after := #[{ on := 8, ground := Ground.data }, { on := 7, ground := Ground.guard }], guard := some (7, true) }) (v := ?_) 9 rfl ?_ ?_
          rotate_left
          · (intro w hSw; (try dsimp only at hSw); first | (go_simp; done) | (go_simp; with_reducible rfl))
          try simp only [Act.put, List.setIfInBounds_toArray, List.set_cons_zero, List.set_cons_succ]
          refine tk (oi := { dst := some 21, op := Op.fieldAddr 29 (Operand.tmp 20) 0, type := 0, pos := "ref.go:21", after := #[{ on := 9, ground := Ground.data }, { on := 7, ground := Ground.guard }], guard := some (7, true) }) (v := ?_) 10 rfl ?_ ?_
          rotate_left
          · (intro w hSw; (try dsimp only at hSw); first | (go_simp; done) | (go_simp; with_reducible rfl))
          try simp only [Act.put, List.setIfInBounds_toArray, List.set_cons_zero, List.set_cons_succ]
          refine tk (oi := { dst := some 22, op := Op.load 22 (Operand.tmp 21), type := 22, pos := "ref.go:21", after := #[{ on := 10, ground := Ground.data }, { on := 7, ground := Ground.guard }], guard := some (7, true) }) (v := ?_) 11 rfl ?_ ?_
          rotate_left
          · (intro w hSw; (try dsimp only at hSw); first | (go_simp; done) | (go_simp; with_reducible rfl))
          try simp only [Act.put, List.setIfInBounds_toArray, List.set_cons_zero, List.set_cons_succ]
          refine tk (oi := { dst := some 23, op := Op.move (Operand.tmp 6), type := 3, pos := "ref.go:21", after := #[{ on := 7, ground := Ground.guard }], guard := some (7, true) }) (v := ?_) 12 rfl ?_ ?_
          rotate_left
          · (intro w hSw; (try dsimp only at hSw); first | (go_simp; done) | (go_simp; with_reducible rfl))
          try simp only [Act.put, List.setIfInBounds_toArray, List.set_cons_zero, List.set_cons_succ]
          refine tk (oi := { dst := some 24, op := Op.indexAddr 22 (Operand.tmp 22) (Operand.tmp 23), type := 0, pos := "ref.go:21", after := #[{ on := 11, ground := Ground.data }, { on := 12, ground := Ground.data }, { on := 7, ground := Ground.guard }], guard := some (7, true) }) (v := ?_) 13 rfl ?_ ?_
          rotate_left
          · (intro w hSw; (try dsimp only at hSw); first | (go_simp; done) | (go_simp; with_reducible rfl))
          try simp only [Act.put, List.setIfInBounds_toArray, List.set_cons_zero, List.set_cons_succ]
          refine tk (oi := { dst := some 25, op := Op.load 33 (Operand.tmp 24), type := 33, pos := "ref.go:21", after := #[{ on := 13, ground := Ground.data }, { on := 7, ground := Ground.guard }], guard := some (7, true) }) (v := ?_) 14 rfl ?_ ?_
          rotate_left
          · (intro w hSw; (try dsimp only at hSw); first | (go_simp; done) | (go_simp; with_reducible rfl))
          try simp only [Act.put, List.setIfInBounds_toArray, List.set_cons_zero, List.set_cons_succ]
          refine tk (oi := { dst := some 26, op := Op.load 33 (Operand.tmp 3), type := 33, pos := "ref.go:21", after := #[{ on := 7, ground := Ground.guard }], guard := some (7, true) }) (v := ?_) 15 rfl ?_ ?_
          rotate_left
          · (intro w hSw; (try dsimp only at hSw); first | (go_simp; done) | (go_simp; with_reducible rfl))
          try simp only [Act.put, List.setIfInBounds_toArray, List.set_cons_zero, List.set_cons_succ]
          refine wpAnyH_ready (rs := [16]) (by kernel_rfl) (by simp) ?_
          refine AllReadyH.cons (o := { dst := some 27, op := Op.call { callee := Callee.value (Operand.func 29), args := #[Operand.tmp 25, Operand.tmp 26], argTypes := #[33, 33] }, type := 4, pos := "ref.go:21", after := #[{ on := 14, ground := Ground.data }, { on := 15, ground := Ground.data }, { on := 7, ground := Ground.chain }, { on := 7, ground := Ground.guard }], guard := some (7, true) }) rfl (fun K hK => ?_) AllReadyH.nil
          go_simp
          refine (rless_any ck e wr.drew HFK.out HF.out).mono ?_
          rintro r x2 ⟨rfl, hb2⟩
          have HX2 := Lib.hid (HW.out.drew.trans hb2)
          dsimp only
          refine hK.out _ _ ⟨cl11 hb2 hHeld.1, ⟨cl11 hb2 hHeld.2.1.1, cl11 hb2 hHeld.2.1.2.1, cl11 hb2 hHeld.2.1.2.2.1, cl11 hb2 hHeld.2.1.2.2.2⟩, cl11 hb2 hHeld.2.2.1, cl11 hb2 hHeld.2.2.2.1, cl11 hb2 hHeld.2.2.2.2.1, cl11 hb2 hHeld.2.2.2.2.2⟩ (fun hHeld => ?_)
          clear hK K hb2
          try simp only [Act.put, List.setIfInBounds_toArray, List.set_cons_zero, List.set_cons_succ]
          refine tk (oi := { dst := some 28, op := Op.pick (Operand.tmp 18) (Operand.tmp 27) (Operand.const (Value.bool false)), type := 4, pos := "ref.go:21", after := #[{ on := 7, ground := Ground.data }, { on := 16, ground := Ground.data }], guard := none }) (v := ?_) 17 rfl ?_ ?_
          rotate_left
          · (intro w hSw; (try dsimp only at hSw); first | (go_simp; done) | (go_simp; with_reducible rfl))
          try simp only [Act.put, List.setIfInBounds_toArray, List.set_cons_zero, List.set_cons_succ]
          refine wpAnyH_done (by kernel_rfl) ?_ _
          obtain ⟨t0, ⟨t1, t2, t3, t4⟩, t5, t6, t7, t8⟩ := hHeld
          clear d0 u0 u1 u2 u3 y0 y1 y2 y3
          cases hlb : lessB ck e with
          | true =>
            have HA2 := Lib.hid (HAN.out hlb)
            clear hlb
            go_wp2_with (fail)
            go_roundw
            case rel => exact ⟨⟨k + 1, HKL.out, by go_num, HA2.out⟩, HX2.out⟩
            case measure => have := HKL.out; simp [intOf]; omega
          | false =>
            have HAT2 := Lib.hid (HAT.out hlb)
            clear hlb
            by_cases hsm : sameB ck e
            · obtain ⟨hE1, hE2⟩ := HTH.out hsm
              have hkk : ck.k = e.k := ba_ext hsm.1
              have hqq : ck.q = e.q := hsm.2
              rw [hkk] at t5
              rw [hqq] at t6
              have hself : (e.k.toList == e.k.toList) = true := beq_self_eq_true _
              have hqs : (e.q == e.q) = true := beq_self_eq_true _
              have HE1 := Lib.hid hE1; have HE2 := Lib.hid hE2
              clear hsm hE1 hE2 hkk hqq
              go_wp2_with (fail)
              go_quiet (fail)
              go_wp2_with (fail)
              go_ret
              exact ⟨_, (by rw [HE1.out]; rfl), by rw [HE2.out]; exact HH.out.bel ((HB1.out.trans HX2.out).drewN _), fun k hk => Or.inl hk, Keep.of_bel ((HB1.out.trans HX2.out).drewN _) _⟩
            · obtain ⟨hE1, hE2⟩ := add_stop HP.out HR.out hk HALL.out HAT2.out (HSA.out hsm)
              have HNS : (ck.k.toList == e.k.toList) = false ∨ ((ck.k.toList == e.k.toList) = true ∧ (ck.q == e.q) = false) := by
                rw [ByteArray.toList_eq, ByteArray.toList_eq]
                cases h1 : (ck.k.data.toList == e.k.data.toList) with
                | false => exact Or.inl rfl
                | true =>
                  refine Or.inr ⟨rfl, ?_⟩
                  rw [beq_eq_false_iff_ne]
                  exact fun h2 => hsm ⟨by simpa using h1, h2⟩
              have HERR := Lib.hid hE1
              have HADD := Lib.hid (show stepS C e = C.take k ++ [e] ++ C.drop k by rw [hE2]; simp)
              clear hsm hE1 hE2
              rcases HNS with hn1 | ⟨hn1, hn2⟩
              · go_wp2_with (fail)
                go_quiet (fail)
                obtain ⟨zb, hzb⟩ : ∃ x, x = x2.drewN nq := ⟨_, rfl⟩
                have HZB := Lib.hid (show Bel w1 zb by rw [hzb]; exact HX2.out.drewN nq)
                rw [← hzb]
                clear hzb hn1 t0 t1 t2 t3 t4 t5 t6 t7 t8
                go_wp2_with (fail)
                have HOWR := Lib.hid (HOWN.out.bel (HB1.out.trans HZB.out))
                have HS1 := Lib.hid (show ∀ x, Bel zb x → SrcAt entEl x (.slice (some ⟨g, 0, none⟩) k cap0) (C.take k) from fun x hx => by
                  have := own_piece entOk (HOWR.out.bel hx) 0 k cap0 (by omega)
                  simpa using this)
                have HPK : ∃ pk, (if cap0 = k then some (⟨g, 0, none⟩ : Addr) else some ⟨g, k * 4, none⟩) = some pk ∧ ∀ x, Bel zb x → SrcAt entEl x (.slice (some pk) (C.length - k) (cap0 - k)) (C.drop k) := by
                  by_cases hck0 : cap0 = k
                  · refine ⟨_, if_pos hck0, fun x hx => Or.inr ⟨_, _, by rw [List.length_drop], fun j u hj => ?_⟩⟩
                    rw [List.drop_eq_nil_of_le (by omega)] at hj
                    simp [El.all] at hj
                  · refine ⟨_, if_neg hck0, fun x hx => ?_⟩
                    have := own_piece entOk (HOWR.out.bel hx) k (C.length - k) (cap0 - k) (by omega)
                    rw [List.take_of_length_le (by rw [List.length_drop]; omega)] at this
                    exact this
                obtain ⟨pk, hpk, hps⟩ := HPK
                have HS2 := Lib.hid hps
                have hkc : k ≤ cap0 := by omega
                have HL1 := Lib.hid (show (C.take k).length ≤ 1000 by rw [List.length_take]; omega)
                have HL2 := Lib.hid (show (C.drop k).length ≤ 1000 by rw [List.length_drop]; omega)
                clear hps
                have HBR := Lib.hid (Bel.refl zb)
                have HS := Lib.hid (show ∀ y, Bel zb y → (y.cell? ⟨b, 0, none⟩ = some (.slice (some ⟨g, 0, none⟩) C.length cap0) ∧ y.cell? ⟨bx, 0, none⟩ = some (.string e.k) ∧ y.cell? ⟨bx, 1, none⟩ = some (.int .i64 e.q) ∧ y.cell? ⟨bx, 2, none⟩ = some (.bool e.d) ∧ y.cell? ⟨bx, 3, none⟩ = some (.string e.v) ∧ y.frozen? ⟨b, 0, none⟩ = false) from fun y hy => ⟨cl11 hy (cl11 HZB.out HC0.out), cl11 hy (cl11 HZB.out HX.out.1), cl11 hy (cl11 HZB.out HX.out.2.1), cl11 hy (cl11 HZB.out HX.out.2.2.1), cl11 hy (cl11 HZB.out HX.out.2.2.2), ((HZB.out.trans hy).frozen b 0 hlt1).trans HF0.out⟩)
                refine region_L 21 (S := fun y => y.cell? ⟨b, 0, none⟩ = some (.slice (some ⟨g, 0, none⟩) C.length cap0) ∧ y.cell? ⟨bx, 0, none⟩ = some (.string e.k) ∧ y.cell? ⟨bx, 1, none⟩ = some (.int .i64 e.q) ∧ y.cell? ⟨bx, 2, none⟩ = some (.bool e.d) ∧ y.cell? ⟨bx, 3, none⟩ = some (.string e.v) ∧ y.frozen? ⟨b, 0, none⟩ = false) (by kernel_rfl) (HS.out _ (Bel.refl zb).drew) (fun hHeld => ?_)
                refine AnyL.take (i := 0) (oi := { dst := some 64, op := Op.move (Operand.tmp 0), type := 27, pos := "ref.go:27", after := #[], guard := none }) (v := ?_) rfl (by decide) (by kernel_rfl) (by kernel_rfl) (by kernel_rfl) (by kernel_rfl) (fun _ _ _ h => h) (Or.inl ⟨by rfl, ?_⟩) (by assumption) ?_
                rotate_left
                · (intro w hSw; (try dsimp only at hSw); first | (go_simp; done) | (go_simp; with_reducible rfl))
                try simp only [Act.put, List.setIfInBounds_toArray, List.set_cons_zero, List.set_cons_succ]
                refine AnyL.take (i := 2) (oi := { dst := some 66, op := Op.move (Operand.tmp 0), type := 27, pos := "ref.go:27", after := #[], guard := none }) (v := ?_) rfl (by decide) (by kernel_rfl) (by kernel_rfl) (by kernel_rfl) (by kernel_rfl) (fun _ _ _ h => h) (Or.inl ⟨by rfl, ?_⟩) (by assumption) ?_
                rotate_left
                · (intro w hSw; (try dsimp only at hSw); first | (go_simp; done) | (go_simp; with_reducible rfl))
                try simp only [Act.put, List.setIfInBounds_toArray, List.set_cons_zero, List.set_cons_succ]
                refine AnyL.take (i := 3) (oi := { dst := some 67, op := Op.nilCheck (Operand.tmp 66), type := 0, pos := "ref.go:27", after := #[{ on := 2, ground := Ground.data }], guard := none }) (v := ?_) rfl (by decide) (by kernel_rfl) (by kernel_rfl) (by kernel_rfl) (by kernel_rfl) (fun _ _ _ h => h) (Or.inl ⟨by rfl, ?_⟩) (by assumption) ?_
                rotate_left
                · (intro w hSw; (try dsimp only at hSw); first | (go_simp; done) | (go_simp; with_reducible rfl))
                try simp only [Act.put, List.setIfInBounds_toArray, List.set_cons_zero, List.set_cons_succ]
                refine AnyL.take (i := 4) (oi := { dst := some 68, op := Op.fieldAddr 29 (Operand.tmp 67) 0, type := 0, pos := "ref.go:27", after := #[{ on := 3, ground := Ground.data }], guard := none }) (v := ?_) rfl (by decide) (by kernel_rfl) (by kernel_rfl) (by kernel_rfl) (by kernel_rfl) (fun _ _ _ h => h) (Or.inl ⟨by rfl, ?_⟩) (by assumption) ?_
                rotate_left
                · (intro w hSw; (try dsimp only at hSw); first | (go_simp; done) | (go_simp; with_reducible rfl))
                try simp only [Act.put, List.setIfInBounds_toArray, List.set_cons_zero, List.set_cons_succ]
                refine AnyL.take (i := 5) (oi := { dst := some 69, op := Op.load 22 (Operand.tmp 68), type := 22, pos := "ref.go:27", after := #[{ on := 4, ground := Ground.data }], guard := none }) (v := ?_) rfl (by decide) (by kernel_rfl) (by kernel_rfl) (by kernel_rfl) (by kernel_rfl) (fun _ _ _ h => h) (Or.inl ⟨by rfl, ?_⟩) (by assumption) ?_
                rotate_left
                · (intro w hSw; (try dsimp only at hSw); first | (go_simp; done) | (go_simp; with_reducible rfl))
                try simp only [Act.put, List.setIfInBounds_toArray, List.set_cons_zero, List.set_cons_succ]
                refine AnyL.take (i := 6) (oi := { dst := some 70, op := Op.move (Operand.tmp 6), type := 3, pos := "ref.go:27", after := #[], guard := none }) (v := ?_) rfl (by decide) (by kernel_rfl) (by kernel_rfl) (by kernel_rfl) (by kernel_rfl) (fun _ _ _ h => h) (Or.inl ⟨by rfl, ?_⟩) (by assumption) ?_
                rotate_left
                · (intro w hSw; (try dsimp only at hSw); first | (go_simp; done) | (go_simp; with_reducible rfl))
                try simp only [Act.put, List.setIfInBounds_toArray, List.set_cons_zero, List.set_cons_succ]
                refine AnyL.take (i := 7) (oi := { dst := some 71, op := Op.slice 22 (Operand.tmp 69) none (some (Operand.tmp 70)) none, type := 22, pos := "ref.go:27", after := #[{ on := 5, ground := Ground.data }, { on := 6, ground := Ground.data }], guard := none }) (v := ?_) rfl (by decide) (by kernel_rfl) (by kernel_rfl) (by kernel_rfl) (by kernel_rfl) (fun _ _ _ h => h) (Or.inl ⟨by rfl, ?_⟩) (by assumption) ?_
                rotate_left
                · (intro w hSw; (try dsimp only at hSw); first | (go_simp; done) | (go_simp; with_reducible rfl))
                try simp only [Act.put, List.setIfInBounds_toArray, List.set_cons_zero, List.set_cons_succ]
                refine AnyL.take (i := 9) (oi := { dst := some 73, op := Op.load 33 (Operand.tmp 3), type := 33, pos := "ref.go:27", after := #[], guard := none }) (v := ?_) rfl (by decide) (by kernel_rfl) (by kernel_rfl) (by kernel_rfl) (by kernel_rfl) (fun _ _ _ h => h) (Or.inl ⟨by rfl, ?_⟩) (by assumption) ?_
                rotate_left
                · (intro w hSw; (try dsimp only at hSw); first | (go_simp; done) | (go_simp; with_reducible rfl))
                try simp only [Act.put, List.setIfInBounds_toArray, List.set_cons_zero, List.set_cons_succ]
                refine AnyL.take (i := 12) (oi := { dst := some 76, op := Op.move (Operand.tmp 0), type := 27, pos := "ref.go:27", after := #[], guard := none }) (v := ?_) rfl (by decide) (by kernel_rfl) (by kernel_rfl) (by kernel_rfl) (by kernel_rfl) (fun _ _ _ h => h) (Or.inl ⟨by rfl, ?_⟩) (by assumption) ?_
                rotate_left
                · (intro w hSw; (try dsimp only at hSw); first | (go_simp; done) | (go_simp; with_reducible rfl))
                try simp only [Act.put, List.setIfInBounds_toArray, List.set_cons_zero, List.set_cons_succ]
                refine AnyL.take (i := 13) (oi := { dst := some 77, op := Op.nilCheck (Operand.tmp 76), type := 0, pos := "ref.go:27", after := #[{ on := 12, ground := Ground.data }], guard := none }) (v := ?_) rfl (by decide) (by kernel_rfl) (by kernel_rfl) (by kernel_rfl) (by kernel_rfl) (fun _ _ _ h => h) (Or.inl ⟨by rfl, ?_⟩) (by assumption) ?_
                rotate_left
                · (intro w hSw; (try dsimp only at hSw); first | (go_simp; done) | (go_simp; with_reducible rfl))
                try simp only [Act.put, List.setIfInBounds_toArray, List.set_cons_zero, List.set_cons_succ]
                refine AnyL.take (i := 14) (oi := { dst := some 78, op := Op.fieldAddr 29 (Operand.tmp 77) 0, type := 0, pos := "ref.go:27", after := #[{ on := 13, ground := Ground.data }], guard := none }) (v := ?_) rfl (by decide) (by kernel_rfl) (by kernel_rfl) (by kernel_rfl) (by kernel_rfl) (fun _ _ _ h => h) (Or.inl ⟨by rfl, ?_⟩) (by assumption) ?_
                rotate_left
                · (intro w hSw; (try dsimp only at hSw); first | (go_simp; done) | (go_simp; with_reducible rfl))
                try simp only [Act.put, List.setIfInBounds_toArray, List.set_cons_zero, List.set_cons_succ]
                refine AnyL.take (i := 15) (oi := { dst := some 79, op := Op.load 22 (Operand.tmp 78), type := 22, pos := "ref.go:27", after := #[{ on := 14, ground := Ground.data }], guard := none }) (v := ?_) rfl (by decide) (by kernel_rfl) (by kernel_rfl) (by kernel_rfl) (by kernel_rfl) (fun _ _ _ h => h) (Or.inl ⟨by rfl, ?_⟩) (by assumption) ?_
                rotate_left
                · (intro w hSw; (try dsimp only at hSw); first | (go_simp; done) | (go_simp; with_reducible rfl))
                try simp only [Act.put, List.setIfInBounds_toArray, List.set_cons_zero, List.set_cons_succ]
                refine AnyL.take (i := 16) (oi := { dst := some 80, op := Op.move (Operand.tmp 6), type := 3, pos := "ref.go:27", after := #[], guard := none }) (v := ?_) rfl (by decide) (by kernel_rfl) (by kernel_rfl) (by kernel_rfl) (by kernel_rfl) (fun _ _ _ h => h) (Or.inl ⟨by rfl, ?_⟩) (by assumption) ?_
                rotate_left
                · (intro w hSw; (try dsimp only at hSw); first | (go_simp; done) | (go_simp; with_reducible rfl))
                try simp only [Act.put, List.setIfInBounds_toArray, List.set_cons_zero, List.set_cons_succ]
                refine AnyL.take (i := 17) (oi := { dst := some 81, op := Op.slice 22 (Operand.tmp 79) (some (Operand.tmp 80)) none none, type := 22, pos := "ref.go:27", after := #[{ on := 15, ground := Ground.data }, { on := 16, ground := Ground.data }], guard := none }) (v := ?_) rfl (by decide) (by kernel_rfl) (by kernel_rfl) (by kernel_rfl) (by kernel_rfl) (fun _ _ _ h => h) (Or.inl ⟨by rfl, ?_⟩) (by assumption) ?_
                rotate_left
                · (intro w hSw; (try dsimp only at hSw); first | (go_simp; done) | (go_simp; with_reducible rfl))
                try simp only [Act.put, List.setIfInBounds_toArray, List.set_cons_zero, List.set_cons_succ]
                clear hHeld
                refine AnyL.ready (rs := [1, 10]) (by kernel_rfl) (by simp) ?_
                refine (AllL.cons (o := { dst := some 65, op := Op.buildSlice 22 0 #[], type := 22, pos := "ref.go:27", after := #[], guard := none }) rfl (fun K hK => ?_) (AllL.cons (o := { dst := some 74, op := Op.buildSlice 22 1 #[(0, Operand.tmp 73)], type := 22, pos := "ref.go:27", after := #[{ on := 9, ground := Ground.data }], guard := none }) rfl (fun K hK => ?_) AllL.nil))
                · go_simp
                  have hbq : Bel zb (zb.alloc (.cells #[] 33)).drew := ((Bel.refl zb).alloc _).drew
                  refine hK.out _ _ (fun _ => HS.out _ (HBR.out.trans hbq)) ?_
                  clear hbq
                  clear hK K
                  try simp only [Act.put, List.setIfInBounds_toArray, List.set_cons_zero, List.set_cons_succ]
                  obtain ⟨z1, hz1⟩ : ∃ x, x = (zb.alloc (.cells #[] 33)).drew := ⟨_, rfl⟩
                  have HLE := Lib.hid (show z1.heap[zb.heap.size]? = some (.cells #[] 33 (0, 0)) by rw [hz1]; exact heap_alloc_new zb (.cells #[] 33))
                  have hltE : zb.heap.size < z1.heap.size := (Array.getElem?_eq_some_iff.1 HLE.out).1
                  have hbz1 : Bel zb z1 := by rw [hz1]; exact ((Bel.refl zb).alloc _).drew
                  have HBz1 := Lib.hid (HBR.out.trans hbz1)
                  rw [← hz1]
                  clear hz1
                  have HOE := Lib.hid (ownG_empty (E := entEl) (n := zb.heap.size) HLE.out HBR.out.size)
                  refine AnyL.ready (rs := [8, 10]) (by kernel_rfl) (by simp) ?_
                  refine (AllL.cons (o := { dst := some 72, op := Op.call { callee := Callee.builtin Builtin.append, args := #[Operand.tmp 65, Operand.tmp 71], argTypes := #[22, 22] }, type := 22, pos := "ref.go:27", after := #[{ on := 1, ground := Ground.data }, { on := 7, ground := Ground.data }], guard := none }) rfl (fun K hK => ?_) (AllL.cons (o := { dst := some 74, op := Op.buildSlice 22 1 #[(0, Operand.tmp 73)], type := 22, pos := "ref.go:27", after := #[{ on := 9, ground := Ground.data }], guard := none }) rfl (fun K hK => ?_) AllL.nil))
                  · refine step_append_all entOk rfl (.tmp 65) (.tmp 71) rfl rfl HOE.out (C.take k) rfl (HS1.out z1 HBz1.out) (lim1a HL1.out HL2.out) (lim1b HL1.out HL2.out) HBz1.out.size ?_
                    intro vz2 z2 hoz2 hkz2 _
                    have HBz2 := Lib.hid (show Bel zb z2 from HBz1.out.trans_below (hkz2.own HBz1.out.size (fun kk hkk => (HOE.out.lt kk hkk).1)))
                    rw [List.nil_append] at hoz2
                    have hkkz2 : Keep (Value.ownBlock (.slice (some ⟨zb.heap.size, 0, none⟩) 0 0)).toList z1 z2 := hkz2
                    have HO2 := Lib.hid hoz2
                    clear hoz2 hkz2 hkkz2
                    refine hK.out _ _ (fun _ => HS.out _ HBz2.out) ?_
                    clear hK K
                    try simp only [Act.put, List.setIfInBounds_toArray, List.set_cons_zero, List.set_cons_succ]
                    refine AnyL.ready (rs := [10]) (by kernel_rfl) (by simp) ?_
                    refine (AllL.cons (o := { dst := some 74, op := Op.buildSlice 22 1 #[(0, Operand.tmp 73)], type := 22, pos := "ref.go:27", after := #[{ on := 9, ground := Ground.data }], guard := none }) rfl (fun K hK => ?_) AllL.nil)
                    go_simp
                    have hbq : Bel z2 (z2.alloc (.cells #[.string e.k, .int .i64 e.q, .bool e.d, .string e.v] 33)) := ((Bel.refl z2).alloc _)
                    refine hK.out _ _ (fun _ => HS.out _ (HBz2.out.trans hbq)) ?_
                    clear hbq
                    clear hK K
                    try simp only [Act.put, List.setIfInBounds_toArray, List.set_cons_zero, List.set_cons_succ]
                    obtain ⟨z3, hz3⟩ : ∃ x, x = (z2.alloc (.cells #[.string e.k, .int .i64 e.q, .bool e.d, .string e.v] 33)) := ⟨_, rfl⟩
                    have HLL := Lib.hid (show z3.heap[z2.heap.size]? = some (.cells #[.string e.k, .int .i64 e.q, .bool e.d, .string e.v] 33 (0, 0)) by rw [hz3]; exact heap_alloc_new z2 (.cells #[.string e.k, .int .i64 e.q, .bool e.d, .string e.v] 33))
                    have hltL : z2.heap.size < z3.heap.size := (Array.getElem?_eq_some_iff.1 HLL.out).1
                    have hbz3 : Bel z2 z3 := by rw [hz3]; exact ((Bel.refl z2).alloc _)
                    have HBz3 := Lib.hid (HBz2.out.trans hbz3)
                    rw [← hz3]
                    clear hz3
                    have HO2b := Lib.hid (HO2.out.bel hbz3)
                    refine AnyL.ready (rs := [11]) (by kernel_rfl) (by simp) ?_
                    refine (AllL.cons (o := { dst := some 75, op := Op.call { callee := Callee.builtin Builtin.append, args := #[Operand.tmp 72, Operand.tmp 74], argTypes := #[22, 22] }, type := 22, pos := "ref.go:27", after := #[{ on := 8, ground := Ground.data }, { on := 10, ground := Ground.data }, { on := 8, ground := Ground.chain }], guard := none }) rfl (fun K hK => ?_) AllL.nil)
                    refine step_append_all entOk rfl (.tmp 72) (.tmp 74) rfl rfl HO2b.out ([e]) rfl (src_at [e] HLL.out rfl rfl) (lim2a HL1.out HL2.out) (lim2b HL1.out HL2.out) HBz3.out.size ?_
                    intro vz4 z4 hoz4 hkz4 _
                    have HBz4 := Lib.hid (show Bel zb z4 from HBz3.out.trans_below (hkz4.own HBz3.out.size (fun kk hkk => (HO2b.out.lt kk hkk).1)))
                    have HO3 := Lib.hid hoz4
                    clear hoz4 hkz4
                    refine hK.out _ _ (fun _ => HS.out _ HBz4.out) ?_
                    clear hK K
                    try simp only [Act.put, List.setIfInBounds_toArray, List.set_cons_zero, List.set_cons_succ]
                    refine AnyL.ready (rs := [18]) (by kernel_rfl) (by simp) ?_
                    refine (AllL.cons (o := { dst := some 82, op := Op.call { callee := Callee.builtin Builtin.append, args := #[Operand.tmp 75, Operand.tmp 81], argTypes := #[22, 22] }, type := 22, pos := "ref.go:27", after := #[{ on := 11, ground := Ground.data }, { on := 17, ground := Ground.data }, { on := 11, ground := Ground.chain }], guard := none }) rfl (fun K hK => ?_) AllL.nil)
                    refine step_append_all entOk rfl (.tmp 75) (.tmp 81) rfl rfl HO3.out (C.drop k) rfl (HS2.out z4 HBz4.out) (lim3a HL1.out HL2.out) (lim3b HL1.out HL2.out) HBz4.out.size ?_
                    intro vz5 z5 hoz5 hkz5 _
                    have HBz5 := Lib.hid (show Bel zb z5 from HBz4.out.trans_below (hkz5.own HBz4.out.size (fun kk hkk => (HO3.out.lt kk hkk).1)))
                    have HO4 := Lib.hid hoz5
                    clear hoz5 hkz5
                    refine hK.out _ _ (fun _ => HS.out _ HBz5.out) ?_
                    clear hK K
                    try simp only [Act.put, List.setIfInBounds_toArray, List.set_cons_zero, List.set_cons_succ]
                    have HOF := Lib.hid (show OwnG entEl zb.heap.size z5 vz5 (stepS C e) by rw [HADD.out]; exact HO4.out)
                    obtain ⟨pf, cf, hvf⟩ := ownG_len HOF.out
                    rw [hvf] at HOF ⊢
                    clear hvf
                    generalize (stepS C e).length = nf at *
                    refine AnyL.ready (rs := [19]) (by kernel_rfl) (by simp) ?_
                    refine (AllL.cons (o := { dst := some 83, op := Op.nilCheck (Operand.tmp 64), type := 0, pos := "ref.go:27", after := #[{ on := 0, ground := Ground.data }, { on := 0, ground := Ground.phase }, { on := 1, ground := Ground.phase }, { on := 2, ground := Ground.phase }, { on := 3, ground := Ground.phase }, { on := 4, ground := Ground.phase }, { on := 5, ground := Ground.phase }, { on := 6, ground := Ground.phase }, { on := 7, ground := Ground.phase }, { on := 8, ground := Ground.phase }, { on := 9, ground := Ground.phase }, { on := 10, ground := Ground.phase }, { on := 11, ground := Ground.phase }, { on := 12, ground := Ground.phase }, { on := 13, ground := Ground.phase }, { on := 14, ground := Ground.phase }, { on := 15, ground := Ground.phase }, { on := 16, ground := Ground.phase }, { on := 17, ground := Ground.phase }, { on := 18, ground := Ground.phase }], guard := none }) rfl (fun K hK => ?_) AllL.nil)
                    go_simp
                    refine hK.out _ _ (fun _ => HS.out _ HBz5.out) ?_
                    clear hK K
                    try simp only [Act.put, List.setIfInBounds_toArray, List.set_cons_zero, List.set_cons_succ]
                    refine AnyL.ready (rs := [20]) (by kernel_rfl) (by simp) ?_
                    refine (AllL.cons (o := { dst := some 84, op := Op.fieldAddr 29 (Operand.tmp 83) 0, type := 0, pos := "ref.go:27", after := #[{ on := 19, ground := Ground.data }, { on := 0, ground := Ground.phase }, { on := 1, ground := Ground.phase }, { on := 2, ground := Ground.phase }, { on := 3, ground := Ground.phase }, { on := 4, ground := Ground.phase }, { on := 5, ground := Ground.phase }, { on := 6, ground := Ground.phase }, { on := 7, ground := Ground.phase }, { on := 8, ground := Ground.phase }, { on := 9, ground := Ground.phase }, { on := 10, ground := Ground.phase }, { on := 11, ground := Ground.phase }, { on := 12, ground := Ground.phase }, { on := 13, ground := Ground.phase }, { on := 14, ground := Ground.phase }, { on := 15, ground := Ground.phase }, { on := 16, ground := Ground.phase }, { on := 17, ground := Ground.phase }, { on := 18, ground := Ground.phase }], guard := none }) rfl (fun K hK => ?_) AllL.nil)
                    go_simp
                    refine hK.out _ _ (fun _ => HS.out _ HBz5.out) ?_
                    clear hK K
                    try simp only [Act.put, List.setIfInBounds_toArray, List.set_cons_zero, List.set_cons_succ]
                    refine AnyL.ready (rs := [21]) (by kernel_rfl) (by simp) ?_
                    refine (AllL.cons (o := { dst := none, op := Op.store 22 (Operand.tmp 84) (Operand.tmp 82), type := 0, pos := "ref.go:27", after := #[{ on := 20, ground := Ground.data }, { on := 18, ground := Ground.data }, { on := 18, ground := Ground.chain }, { on := 0, ground := Ground.phase }, { on := 1, ground := Ground.phase }, { on := 2, ground := Ground.phase }, { on := 3, ground := Ground.phase }, { on := 4, ground := Ground.phase }, { on := 5, ground := Ground.phase }, { on := 6, ground := Ground.phase }, { on := 7, ground := Ground.phase }, { on := 8, ground := Ground.phase }, { on := 9, ground := Ground.phase }, { on := 10, ground := Ground.phase }, { on := 11, ground := Ground.phase }, { on := 12, ground := Ground.phase }, { on := 13, ground := Ground.phase }, { on := 14, ground := Ground.phase }, { on := 15, ground := Ground.phase }, { on := 16, ground := Ground.phase }, { on := 17, ground := Ground.phase }, { on := 18, ground := Ground.phase }], guard := none }) rfl (fun K hK => ?_) AllL.nil)
                    obtain ⟨s0, -, -, -, -, s5⟩ := HS.out _ HBz5.out
                    go_simp
                    refine hK.out _ _ (fun h => absurd rfl h) ?_
                    clear hK K s0 s5
                    try simp only [Act.put, List.setIfInBounds_toArray, List.set_cons_zero, List.set_cons_succ]
                    refine AnyL.done (by kernel_rfl) ?_ _
                    go_wp2_with (fail)
                    go_ret
                    have hbw : Bel w z5 := HB1.out.trans (HZB.out.trans HBz5.out)
                    exact ⟨_, (by rw [HERR.out]; rfl), rm_set ((Below.block hbw b (by rw [HBX.out]; exact hlt)).trans HBLK.out) (HOF.out.low (Nat.zero_le _)), rm_new HOF.out (HB1.out.trans HZB.out), (Keep.of_bel hbw _).setCell (Or.inl (by simp)) _⟩
                  · go_simp
                    have hbq : Bel z1 (z1.alloc (.cells #[.string e.k, .int .i64 e.q, .bool e.d, .string e.v] 33)) := ((Bel.refl z1).alloc _)
                    refine hK.out _ _ (fun _ => HS.out _ (HBz1.out.trans hbq)) ?_
                    clear hbq
                    clear hK K
                    try simp only [Act.put, List.setIfInBounds_toArray, List.set_cons_zero, List.set_cons_succ]
                    obtain ⟨z2, hz2⟩ : ∃ x, x = (z1.alloc (.cells #[.string e.k, .int .i64 e.q, .bool e.d, .string e.v] 33)) := ⟨_, rfl⟩
                    have HLL := Lib.hid (show z2.heap[z1.heap.size]? = some (.cells #[.string e.k, .int .i64 e.q, .bool e.d, .string e.v] 33 (0, 0)) by rw [hz2]; exact heap_alloc_new z1 (.cells #[.string e.k, .int .i64 e.q, .bool e.d, .string e.v] 33))
                    have hltL : z1.heap.size < z2.heap.size := (Array.getElem?_eq_some_iff.1 HLL.out).1
                    have hbz2 : Bel z1 z2 := by rw [hz2]; exact ((Bel.refl z1).alloc _)
                    have HBz2 := Lib.hid (HBz1.out.trans hbz2)
                    rw [← hz2]
                    clear hz2
                    have HOE2 := Lib.hid (HOE.out.bel hbz2)
                    refine AnyL.ready (rs := [8]) (by kernel_rfl) (by simp) ?_
                    refine (AllL.cons (o := { dst := some 72, op := Op.call { callee := Callee.builtin Builtin.append, args := #[Operand.tmp 65, Operand.tmp 71], argTypes := #[22, 22] }, type := 22, pos := "ref.go:27", after := #[{ on := 1, ground := Ground.data }, { on := 7, ground := Ground.data }], guard := none }) rfl (fun K hK => ?_) AllL.nil)
                    refine step_append_all entOk rfl (.tmp 65) (.tmp 71) rfl rfl HOE2.out (C.take k) rfl (HS1.out z2 HBz2.out) (lim1a HL1.out HL2.out) (lim1b HL1.out HL2.out) HBz2.out.size ?_
                    intro vz3 z3 hoz3 hkz3 _
                    have HBz3 := Lib.hid (show Bel zb z3 from HBz2.out.trans_below (hkz3.own HBz2.out.size (fun kk hkk => (HOE2.out.lt kk hkk).1)))
                    rw [List.nil_append] at hoz3
                    have hkkz3 : Keep (Value.ownBlock (.slice (some ⟨zb.heap.size, 0, none⟩) 0 0)).toList z2 z3 := hkz3
                    have HLL3 := Lib.hid (hkkz3.at HLL.out (fun hm => by rw [Option.mem_toList] at hm; simp only [Value.ownBlock, Option.some.injEq] at hm; omega))
                    have HO2 := Lib.hid hoz3
                    clear hoz3 hkz3 hkkz3
                    refine hK.out _ _ (fun _ => HS.out _ HBz3.out) ?_
                    clear hK K
                    try simp only [Act.put, List.setIfInBounds_toArray, List.set_cons_zero, List.set_cons_succ]
                    refine AnyL.ready (rs := [11]) (by kernel_rfl) (by simp) ?_
                    refine (AllL.cons (o := { dst := some 75, op := Op.call { callee := Callee.builtin Builtin.append, args := #[Operand.tmp 72, Operand.tmp 74], argTypes := #[22, 22] }, type := 22, pos := "ref.go:27", after := #[{ on := 8, ground := Ground.data }, { on := 10, ground := Ground.data }, { on := 8, ground := Ground.chain }], guard := none }) rfl (fun K hK => ?_) AllL.nil)
                    refine step_append_all entOk rfl (.tmp 72) (.tmp 74) rfl rfl HO2.out ([e]) rfl (src_at [e] HLL3.out rfl rfl) (lim2a HL1.out HL2.out) (lim2b HL1.out HL2.out) HBz3.out.size ?_
                    intro vz4 z4 hoz4 hkz4 _
                    have HBz4 := Lib.hid (show Bel zb z4 from HBz3.out.trans_below (hkz4.own HBz3.out.size (fun kk hkk => (HO2.out.lt kk hkk).1)))
                    have HO3 := Lib.hid hoz4
                    clear hoz4 hkz4
                    refine hK.out _ _ (fun _ => HS.out _ HBz4.out) ?_
                    clear hK K
                    try simp only [Act.put, List.setIfInBounds_toArray, List.set_cons_zero, List.set_cons_succ]
                    refine AnyL.ready (rs := [18]) (by kernel_rfl) (by simp) ?_
                    refine (AllL.cons (o := { dst := some 82, op := Op.call { callee := Callee.builtin Builtin.append, args := #[Operand.tmp 75, Operand.tmp 81], argTypes := #[22, 22] }, type := 22, pos := "ref.go:27", after := #[{ on := 11, ground := Ground.data }, { on := 17, ground := Ground.data }, { on := 11, ground := Ground.chain }], guard := none }) rfl (fun K hK => ?_) AllL.nil)
                    refine step_append_all entOk rfl (.tmp 75) (.tmp 81) rfl rfl HO3.out (C.drop k) rfl (HS2.out z4 HBz4.out) (lim3a HL1.out HL2.out) (lim3b HL1.out HL2.out) HBz4.out.size ?_
                    intro vz5 z5 hoz5 hkz5 _
                    have HBz5 := Lib.hid (show Bel zb z5 from HBz4.out.trans_below (hkz5.own HBz4.out.size (fun kk hkk => (HO3.out.lt kk hkk).1)))
                    have HO4 := Lib.hid hoz5
                    clear hoz5 hkz5
                    refine hK.out _ _ (fun _ => HS.out _ HBz5.out) ?_
                    clear hK K
                    try simp only [Act.put, List.setIfInBounds_toArray, List.set_cons_zero, List.set_cons_succ]
                    have HOF := Lib.hid (show OwnG entEl zb.heap.size z5 vz5 (stepS C e) by rw [HADD.out]; exact HO4.out)
                    obtain ⟨pf, cf, hvf⟩ := ownG_len HOF.out
                    rw [hvf] at HOF ⊢
                    clear hvf
                    generalize (stepS C e).length = nf at *
                    refine AnyL.ready (rs := [19]) (by kernel_rfl) (by simp) ?_
                    refine (AllL.cons (o := { dst := some 83, op := Op.nilCheck (Operand.tmp 64), type := 0, pos := "ref.go:27", after := #[{ on := 0, ground := Ground.data }, { on := 0, ground := Ground.phase }, { on := 1, ground := Ground.phase }, { on := 2, ground := Ground.phase }, { on := 3, ground := Ground.phase }, { on := 4, ground := Ground.phase }, { on := 5, ground := Ground.phase }, { on := 6, ground := Ground.phase }, { on := 7, ground := Ground.phase }, { on := 8, ground := Ground.phase }, { on := 9, ground := Ground.phase }, { on := 10, ground := Ground.phase }, { on := 11, ground := Ground.phase }, { on := 12, ground := Ground.phase }, { on := 13, ground := Ground.phase }, { on := 14, ground := Ground.phase }, { on := 15, ground := Ground.phase }, { on := 16, ground := Ground.phase }, { on := 17, ground := Ground.phase }, { on := 18, ground := Ground.phase }], guard := none }) rfl (fun K hK => ?_) AllL.nil)
                    go_simp
                    refine hK.out _ _ (fun _ => HS.out _ HBz5.out) ?_
                    clear hK K
                    try simp only [Act.put, List.setIfInBounds_toArray, List.set_cons_zero, List.set_cons_succ]
                    refine AnyL.ready (rs := [20]) (by kernel_rfl) (by simp) ?_
                    refine (AllL.cons (o := { dst := some 84, op := Op.fieldAddr 29 (Operand.tmp 83) 0, type := 0, pos := "ref.go:27", after := #[{ on := 19, ground := Ground.data }, { on := 0, ground := Ground.phase }, { on := 1, ground := Ground.phase }, { on := 2, ground := Ground.phase }, { on := 3, ground := Ground.phase }, { on := 4, ground := Ground.phase }, { on := 5, ground := Ground.phase }, { on := 6, ground := Ground.phase }, { on := 7, ground := Ground.phase }, { on := 8, ground := Ground.phase }, { on := 9, ground := Ground.phase }, { on := 10, ground := Ground.phase }, { on := 11, ground := Ground.phase }, { on := 12, ground := Ground.phase }, { on := 13, ground := Ground.phase }, { on := 14, ground := Ground.phase }, { on := 15, ground := Ground.phase }, { on := 16, ground := Ground.phase }, { on := 17, ground := Ground.phase }, { on := 18, ground := Ground.phase }], guard := none }) rfl (fun K hK => ?_) AllL.nil)
                    go_simp
                    refine hK.out _ _ (fun _ => HS.out _ HBz5.out) ?_
                    clear hK K
                    try simp only [Act.put, List.setIfInBounds_toArray, List.set_cons_zero, List.set_cons_succ]
                    refine AnyL.ready (rs := [21]) (by kernel_rfl) (by simp) ?_
                    refine (AllL.cons (o := { dst := none, op := Op.store 22 (Operand.tmp 84) (Operand.tmp 82), type := 0, pos := "ref.go:27", after := #[{ on := 20, ground := Ground.data }, { on := 18, ground := Ground.data }, { on := 18, ground := Ground.chain }, { on := 0, ground := Ground.phase }, { on := 1, ground := Ground.phase }, { on := 2, ground := Ground.phase }, { on := 3, ground := Ground.phase }, { on := 4, ground := Ground.phase }, { on := 5, ground := Ground.phase }, { on := 6, ground := Ground.phase }, { on := 7, ground := Ground.phase }, { on := 8, ground := Ground.phase }, { on := 9, ground := Ground.phase }, { on := 10, ground := Ground.phase }, { on := 11, ground := Ground.phase }, { on := 12, ground := Ground.phase }, { on := 13, ground := Ground.phase }, { on := 14, ground := Ground.phase }, { on := 15, ground := Ground.phase }, { on := 16, ground := Ground.phase }, { on := 17, ground := Ground.phase }, { on := 18, ground := Ground.phase }], guard := none }) rfl (fun K hK => ?_) AllL.nil)
                    obtain ⟨s0, -, -, -, -, s5⟩ := HS.out _ HBz5.out
                    go_simp
                    refine hK.out _ _ (fun h => absurd rfl h) ?_
                    clear hK K s0 s5
                    try simp only [Act.put, List.setIfInBounds_toArray, List.set_cons_zero, List.set_cons_succ]
                    refine AnyL.done (by kernel_rfl) ?_ _
                    go_wp2_with (fail)
                    go_ret
                    have hbw : Bel w z5 := HB1.out.trans (HZB.out.trans HBz5.out)
                    exact ⟨_, (by rw [HERR.out]; rfl), rm_set ((Below.block hbw b (by rw [HBX.out]; exact hlt)).trans HBLK.out) (HOF.out.low (Nat.zero_le _)), rm_new HOF.out (HB1.out.trans HZB.out), (Keep.of_bel hbw _).setCell (Or.inl (by simp)) _⟩
                · go_simp
                  have hbq : Bel zb (zb.alloc (.cells #[.string e.k, .int .i64 e.q, .bool e.d, .string e.v] 33)).drew := ((Bel.refl zb).alloc _).drew
                  refine hK.out _ _ (fun _ => HS.out _ (HBR.out.trans hbq)) ?_
                  clear hbq
                  clear hK K
                  try simp only [Act.put, List.setIfInBounds_toArray, List.set_cons_zero, List.set_cons_succ]
                  obtain ⟨z1, hz1⟩ : ∃ x, x = (zb.alloc (.cells #[.string e.k, .int .i64 e.q, .bool e.d, .string e.v] 33)).drew := ⟨_, rfl⟩
                  have HLL := Lib.hid (show z1.heap[zb.heap.size]? = some (.cells #[.string e.k, .int .i64 e.q, .bool e.d, .string e.v] 33 (0, 0)) by rw [hz1]; exact heap_alloc_new zb (.cells #[.string e.k, .int .i64 e.q, .bool e.d, .string e.v] 33))
                  have hltL : zb.heap.size < z1.heap.size := (Array.getElem?_eq_some_iff.1 HLL.out).1
                  have hbz1 : Bel zb z1 := by rw [hz1]; exact ((Bel.refl zb).alloc _).drew
                  have HBz1 := Lib.hid (HBR.out.trans hbz1)
                  rw [← hz1]
                  clear hz1
                  refine AnyL.ready (rs := [1]) (by kernel_rfl) (by simp) ?_
                  refine (AllL.cons (o := { dst := some 65, op := Op.buildSlice 22 0 #[], type := 22, pos := "ref.go:27", after := #[], guard := none }) rfl (fun K hK => ?_) AllL.nil)
                  go_simp
                  have hbq : Bel z1 (z1.alloc (.cells #[] 33)) := ((Bel.refl z1).alloc _)
                  refine hK.out _ _ (fun _ => HS.out _ (HBz1.out.trans hbq)) ?_
                  clear hbq
                  clear hK K
                  try simp only [Act.put, List.setIfInBounds_toArray, List.set_cons_zero, List.set_cons_succ]
                  obtain ⟨z2, hz2⟩ : ∃ x, x = (z1.alloc (.cells #[] 33)) := ⟨_, rfl⟩
                  have HLE := Lib.hid (show z2.heap[z1.heap.size]? = some (.cells #[] 33 (0, 0)) by rw [hz2]; exact heap_alloc_new z1 (.cells #[] 33))
                  have hltE : z1.heap.size < z2.heap.size := (Array.getElem?_eq_some_iff.1 HLE.out).1
                  have hbz2 : Bel z1 z2 := by rw [hz2]; exact ((Bel.refl z1).alloc _)
                  have HBz2 := Lib.hid (HBz1.out.trans hbz2)
                  rw [← hz2]
                  clear hz2
                  have HOE := Lib.hid (ownG_empty (E := entEl) (n := zb.heap.size) HLE.out HBz1.out.size)
                  have HLL2 := Lib.hid ((Below.block hbz2 zb.heap.size (by omega)).trans HLL.out)
                  refine AnyL.ready (rs := [8]) (by kernel_rfl) (by simp) ?_
                  refine (AllL.cons (o := { dst := some 72, op := Op.call { callee := Callee.builtin Builtin.append, args := #[Operand.tmp 65, Operand.tmp 71], argTypes := #[22, 22] }, type := 22, pos := "ref.go:27", after := #[{ on := 1, ground := Ground.data }, { on := 7, ground := Ground.data }], guard := none }) rfl (fun K hK => ?_) AllL.nil)
                  refine step_append_all entOk rfl (.tmp 65) (.tmp 71) rfl rfl HOE.out (C.take k) rfl (HS1.out z2 HBz2.out) (lim1a HL1.out HL2.out) (lim1b HL1.out HL2.out) HBz2.out.size ?_
                  intro vz3 z3 hoz3 hkz3 _
                  have HBz3 := Lib.hid (show Bel zb z3 from HBz2.out.trans_below (hkz3.own HBz2.out.size (fun kk hkk => (HOE.out.lt kk hkk).1)))
                  rw [List.nil_append] at hoz3
                  have hkkz3 : Keep (Value.ownBlock (.slice (some ⟨z1.heap.size, 0, none⟩) 0 0)).toList z2 z3 := hkz3
                  have HLL3 := Lib.hid (hkkz3.at HLL2.out (fun hm => by rw [Option.mem_toList] at hm; simp only [Value.ownBlock, Option.some.injEq] at hm; omega))
                  have HO2 := Lib.hid hoz3
                  clear hoz3 hkz3 hkkz3
                  refine hK.out _ _ (fun _ => HS.out _ HBz3.out) ?_
                  clear hK K
                  try simp only [Act.put, List.setIfInBounds_toArray, List.set_cons_zero, List.set_cons_succ]
                  refine AnyL.ready (rs := [11]) (by kernel_rfl) (by simp) ?_
                  refine (AllL.cons (o := { dst := some 75, op := Op.call { callee := Callee.builtin Builtin.append, args := #[Operand.tmp 72, Operand.tmp 74], argTypes := #[22, 22] }, type := 22, pos := "ref.go:27", after := #[{ on := 8, ground := Ground.data }, { on := 10, ground := Ground.data }, { on := 8, ground := Ground.chain }], guard := none }) rfl (fun K hK => ?_) AllL.nil)
                  refine step_append_all entOk rfl (.tmp 72) (.tmp 74) rfl rfl HO2.out ([e]) rfl (src_at [e] HLL3.out rfl rfl) (lim2a HL1.out HL2.out) (lim2b HL1.out HL2.out) HBz3.out.size ?_
                  intro vz4 z4 hoz4 hkz4 _
                  have HBz4 := Lib.hid (show Bel zb z4 from HBz3.out.trans_below (hkz4.own HBz3.out.size (fun kk hkk => (HO2.out.lt kk hkk).1)))
                  have HO3 := Lib.hid hoz4
                  clear hoz4 hkz4
                  refine hK.out _ _ (fun _ => HS.out _ HBz4.out) ?_
                  clear hK K
                  try simp only [Act.put, List.setIfInBounds_toArray, List.set_cons_zero, List.set_cons_succ]
                  refine AnyL.ready (rs := [18]) (by kernel_rfl) (by simp) ?_
                  refine (AllL.cons (o := { dst := some 82, op := Op.call { callee := Callee.builtin Builtin.append, args := #[Operand.tmp 75, Operand.tmp 81], argTypes := #[22, 22] }, type := 22, pos := "ref.go:27", after := #[{ on := 11, ground := Ground.data }, { on := 17, ground := Ground.data }, { on := 11, ground := Ground.chain }], guard := none }) rfl (fun K hK => ?_) AllL.nil)
                  refine step_append_all entOk rfl (.tmp 75) (.tmp 81) rfl rfl HO3.out (C.drop k) rfl (HS2.out z4 HBz4.out) (lim3a HL1.out HL2.out) (lim3b HL1.out HL2.out) HBz4.out.size ?_
                  intro vz5 z5 hoz5 hkz5 _
                  have HBz5 := Lib.hid (show Bel zb z5 from HBz4.out.trans_below (hkz5.own HBz4.out.size (fun kk hkk => (HO3.out.lt kk hkk).1)))
                  have HO4 := Lib.hid hoz5
                  clear hoz5 hkz5
                  refine hK.out _ _ (fun _ => HS.out _ HBz5.out) ?_
                  clear hK K
                  try simp only [Act.put, List.setIfInBounds_toArray, List.set_cons_zero, List.set_cons_succ]
                  have HOF := Lib.hid (show OwnG entEl zb.heap.size z5 vz5 (stepS C e) by rw [HADD.out]; exact HO4.out)
                  obtain ⟨pf, cf, hvf⟩ := ownG_len HOF.out
                  rw [hvf] at HOF ⊢
                  clear hvf
                  generalize (stepS C e).length = nf at *
                  refine AnyL.ready (rs := [19]) (by kernel_rfl) (by simp) ?_
                  refine (AllL.cons (o := { dst := some 83, op := Op.nilCheck (Operand.tmp 64), type := 0, pos := "ref.go:27", after := #[{ on := 0, ground := Ground.data }, { on := 0, ground := Ground.phase }, { on := 1, ground := Ground.phase }, { on := 2, ground := Ground.phase }, { on := 3, ground := Ground.phase }, { on := 4, ground := Ground.phase }, { on := 5, ground := Ground.phase }, { on := 6, ground := Ground.phase }, { on := 7, ground := Ground.phase }, { on := 8, ground := Ground.phase }, { on := 9, ground := Ground.phase }, { on := 10, ground := Ground.phase }, { on := 11, ground := Ground.phase }, { on := 12, ground := Ground.phase }, { on := 13, ground := Ground.phase }, { on := 14, ground := Ground.phase }, { on := 15, ground := Ground.phase }, { on := 16, ground := Ground.phase }, { on := 17, ground := Ground.phase }, { on := 18, ground := Ground.phase }], guard := none }) rfl (fun K hK => ?_) AllL.nil)
                  go_simp
                  refine hK.out _ _ (fun _ => HS.out _ HBz5.out) ?_
                  clear hK K
                  try simp only [Act.put, List.setIfInBounds_toArray, List.set_cons_zero, List.set_cons_succ]
                  refine AnyL.ready (rs := [20]) (by kernel_rfl) (by simp) ?_
                  refine (AllL.cons (o := { dst := some 84, op := Op.fieldAddr 29 (Operand.tmp 83) 0, type := 0, pos := "ref.go:27", after := #[{ on := 19, ground := Ground.data }, { on := 0, ground := Ground.phase }, { on := 1, ground := Ground.phase }, { on := 2, ground := Ground.phase }, { on := 3, ground := Ground.phase }, { on := 4, ground := Ground.phase }, { on := 5, ground := Ground.phase }, { on := 6, ground := Ground.phase }, { on := 7, ground := Ground.phase }, { on := 8, ground := Ground.phase }, { on := 9, ground := Ground.phase }, { on := 10, ground := Ground.phase }, { on := 11, ground := Ground.phase }, { on := 12, ground := Ground.phase }, { on := 13, ground := Ground.phase }, { on := 14, ground := Ground.phase }, { on := 15, ground := Ground.phase }, { on := 16, ground := Ground.phase }, { on := 17, ground := Ground.phase }, { on := 18, ground := Ground.phase }], guard := none }) rfl (fun K hK => ?_) AllL.nil)
                  go_simp
                  refine hK.out _ _ (fun _ => HS.out _ HBz5.out) ?_
                  clear hK K
                  try simp only [Act.put, List.setIfInBounds_toArray, List.set_cons_zero, List.set_cons_succ]
                  refine AnyL.ready (rs := [21]) (by kernel_rfl) (by simp) ?_
                  refine (AllL.cons (o := { dst := none, op := Op.store 22 (Operand.tmp 84) (Operand.tmp 82), type := 0, pos := "ref.go:27", after := #[{ on := 20, ground := Ground.data }, { on := 18, ground := Ground.data }, { on := 18, ground := Ground.chain }, { on := 0, ground := Ground.phase }, { on := 1, ground := Ground.phase }, { on := 2, ground := Ground.phase }, { on := 3, ground := Ground.phase }, { on := 4, ground := Ground.phase }, { on := 5, ground := Ground.phase }, { on := 6, ground := Ground.phase }, { on := 7, ground := Ground.phase }, { on := 8, ground := Ground.phase }, { on := 9, ground := Ground.phase }, { on := 10, ground := Ground.phase }, { on := 11, ground := Ground.phase }, { on := 12, ground := Ground.phase }, { on := 13, ground := Ground.phase }, { on := 14, ground := Ground.phase }, { on := 15, ground := Ground.phase }, { on := 16, ground := Ground.phase }, { on := 17, ground := Ground.phase }, { on := 18, ground := Ground.phase }], guard := none }) rfl (fun K hK => ?_) AllL.nil)
                  obtain ⟨s0, -, -, -, -, s5⟩ := HS.out _ HBz5.out
                  go_simp
                  refine hK.out _ _ (fun h => absurd rfl h) ?_
                  clear hK K s0 s5
                  try simp only [Act.put, List.setIfInBounds_toArray, List.set_cons_zero, List.set_cons_succ]
                  refine AnyL.done (by kernel_rfl) ?_ _
                  go_wp2_with (fail)
                  go_ret
                  have hbw : Bel w z5 := HB1.out.trans (HZB.out.trans HBz5.out)
                  exact ⟨_, (by rw [HERR.out]; rfl), rm_set ((Below.block hbw b (by rw [HBX.out]; exact hlt)).trans HBLK.out) (HOF.out.low (Nat.zero_le _)), rm_new HOF.out (HB1.out.trans HZB.out), (Keep.of_bel hbw _).setCell (Or.inl (by simp)) _⟩
              · have hn3 : ck.k = e.k := ba_ext (by have h9 := eq_of_beq hn1; rwa [ByteArray.toList_eq, ByteArray.toList_eq] at h9)
                rw [hn3] at t5
                clear hn3
                have hself : (e.k.toList == e.k.toList) = true := beq_self_eq_true _
                go_wp2_with (fail)
                go_quiet (fail)
                obtain ⟨zb, hzb⟩ : ∃ x, x = x2.drewN nq := ⟨_, rfl⟩
                have HZB := Lib.hid (show Bel w1 zb by rw [hzb]; exact HX2.out.drewN nq)
                rw [← hzb]
                clear hzb hn1 hn2 hself t0 t1 t2 t3 t4 t5 t6 t7 t8
                go_wp2_with (fail)
                have HOWR := Lib.hid (HOWN.out.bel (HB1.out.trans HZB.out))
                have HS1 := Lib.hid (show ∀ x, Bel zb x → SrcAt entEl x (.slice (some ⟨g, 0, none⟩) k cap0) (C.take k) from fun x hx => by
                  have := own_piece entOk (HOWR.out.bel hx) 0 k cap0 (by omega)
                  simpa using this)
                have HPK : ∃ pk, (if cap0 = k then some (⟨g, 0, none⟩ : Addr) else some ⟨g, k * 4, none⟩) = some pk ∧ ∀ x, Bel zb x → SrcAt entEl x (.slice (some pk) (C.length - k) (cap0 - k)) (C.drop k) := by
                  by_cases hck0 : cap0 = k
                  · refine ⟨_, if_pos hck0, fun x hx => Or.inr ⟨_, _, by rw [List.length_drop], fun j u hj => ?_⟩⟩
                    rw [List.drop_eq_nil_of_le (by omega)] at hj
                    simp [El.all] at hj
                  · refine ⟨_, if_neg hck0, fun x hx => ?_⟩
                    have := own_piece entOk (HOWR.out.bel hx) k (C.length - k) (cap0 - k) (by omega)
                    rw [List.take_of_length_le (by rw [List.length_drop]; omega)] at this
                    exact this
                obtain ⟨pk, hpk, hps⟩ := HPK
                have HS2 := Lib.hid hps
                have hkc : k ≤ cap0 := by omega
                have HL1 := Lib.hid (show (C.take k).length ≤ 1000 by rw [List.length_take]; omega)
                have HL2 := Lib.hid (show (C.drop k).length ≤ 1000 by rw [List.length_drop]; omega)
                clear hps
                have HBR := Lib.hid (Bel.refl zb)
                have HS := Lib.hid (show ∀ y, Bel zb y → (y.cell? ⟨b, 0, none⟩ = some (.slice (some ⟨g, 0, none⟩) C.length cap0) ∧ y.cell? ⟨bx, 0, none⟩ = some (.string e.k) ∧ y.cell? ⟨bx, 1, none⟩ = some (.int .i64 e.q) ∧ y.cell? ⟨bx, 2, none⟩ = some (.bool e.d) ∧ y.cell? ⟨bx, 3, none⟩ = some (.string e.v) ∧ y.frozen? ⟨b, 0, none⟩ = false) from fun y hy => ⟨cl11 hy (cl11 HZB.out HC0.out), cl11 hy (cl11 HZB.out HX.out.1), cl11 hy (cl11 HZB.out HX.out.2.1), cl11 hy (cl11 HZB.out HX.out.2.2.1), cl11 hy (cl11 HZB.out HX.out.2.2.2), ((HZB.out.trans hy).frozen b 0 hlt1).trans HF0.out⟩)
                refine region_L 21 (S := fun y => y.cell? ⟨b, 0, none⟩ = some (.slice (some ⟨g, 0, none⟩) C.length cap0) ∧ y.cell? ⟨bx, 0, none⟩ = some (.string e.k) ∧ y.cell? ⟨bx, 1, none⟩ = some (.int .i64 e.q) ∧ y.cell? ⟨bx, 2, none⟩ = some (.bool e.d) ∧ y.cell? ⟨bx, 3, none⟩ = some (.string e.v) ∧ y.frozen? ⟨b, 0, none⟩ = false) (by kernel_rfl) (HS.out _ (Bel.refl zb).drew) (fun hHeld => ?_)
                refine AnyL.take (i := 0) (oi := { dst := some 64, op := Op.move (Operand.tmp 0), type := 27, pos := "ref.go:27", after := #[], guard := none }) (v := ?_) rfl (by decide) (by kernel_rfl) (by kernel_rfl) (by kernel_rfl) (by kernel_rfl) (fun _ _ _ h => h) (Or.inl ⟨by rfl, ?_⟩) (by assumption) ?_
                rotate_left
                · (intro w hSw; (try dsimp only at hSw); first | (go_simp; done) | (go_simp; with_reducible rfl))
                try simp only [Act.put, List.setIfInBounds_toArray, List.set_cons_zero, List.set_cons_succ]
                refine AnyL.take (i := 2) (oi := { dst := some 66, op := Op.move (Operand.tmp 0), type := 27, pos := "ref.go:27", after := #[], guard := none }) (v := ?_) rfl (by decide) (by kernel_rfl) (by kernel_rfl) (by kernel_rfl) (by kernel_rfl) (fun _ _ _ h => h) (Or.inl ⟨by rfl, ?_⟩) (by assumption) ?_
                rotate_left
                · (intro w hSw; (try dsimp only at hSw); first | (go_simp; done) | (go_simp; with_reducible rfl))
                try simp only [Act.put, List.setIfInBounds_toArray, List.set_cons_zero, List.set_cons_succ]
                refine AnyL.take (i := 3) (oi := { dst := some 67, op := Op.nilCheck (Operand.tmp 66), type := 0, pos := "ref.go:27", after := #[{ on := 2, ground := Ground.data }], guard := none }) (v := ?_) rfl (by decide) (by kernel_rfl) (by kernel_rfl) (by kernel_rfl) (by kernel_rfl) (fun _ _ _ h => h) (Or.inl ⟨by rfl, ?_⟩) (by assumption) ?_
                rotate_left
                · (intro w hSw; (try dsimp only at hSw); first | (go_simp; done) | (go_simp; with_reducible rfl))
                try simp only [Act.put, List.setIfInBounds_toArray, List.set_cons_zero, List.set_cons_succ]
                refine AnyL.take (i := 4) (oi := { dst := some 68, op := Op.fieldAddr 29 (Operand.tmp 67) 0, type := 0, pos := "ref.go:27", after := #[{ on := 3, ground := Ground.data }], guard := none }) (v := ?_) rfl (by decide) (by kernel_rfl) (by kernel_rfl) (by kernel_rfl) (by kernel_rfl) (fun _ _ _ h => h) (Or.inl ⟨by rfl, ?_⟩) (by assumption) ?_
                rotate_left
                · (intro w hSw; (try dsimp only at hSw); first | (go_simp; done) | (go_simp; with_reducible rfl))
                try simp only [Act.put, List.setIfInBounds_toArray, List.set_cons_zero, List.set_cons_succ]
                refine AnyL.take (i := 5) (oi := { dst := some 69, op := Op.load 22 (Operand.tmp 68), type := 22, pos := "ref.go:27", after := #[{ on := 4, ground := Ground.data }], guard := none }) (v := ?_) rfl (by decide) (by kernel_rfl) (by kernel_rfl) (by kernel_rfl) (by kernel_rfl) (fun _ _ _ h => h) (Or.inl ⟨by rfl, ?_⟩) (by assumption) ?_
                rotate_left
                · (intro w hSw; (try dsimp only at hSw); first | (go_simp; done) | (go_simp; with_reducible rfl))
                try simp only [Act.put, List.setIfInBounds_toArray, List.set_cons_zero, List.set_cons_succ]
                refine AnyL.take (i := 6) (oi := { dst := some 70, op := Op.move (Operand.tmp 6), type := 3, pos := "ref.go:27", after := #[], guard := none }) (v := ?_) rfl (by decide) (by kernel_rfl) (by kernel_rfl) (by kernel_rfl) (by kernel_rfl) (fun _ _ _ h => h) (Or.inl ⟨by rfl, ?_⟩) (by assumption) ?_
                rotate_left
                · (intro w hSw; (try dsimp only at hSw); first | (go_simp; done) | (go_simp; with_reducible rfl))
                try simp only [Act.put, List.setIfInBounds_toArray, List.set_cons_zero, List.set_cons_succ]
                refine AnyL.take (i := 7) (oi := { dst := some 71, op := Op.slice 22 (Operand.tmp 69) none (some (Operand.tmp 70)) none, type := 22, pos := "ref.go:27", after := #[{ on := 5, ground := Ground.data }, { on := 6, ground := Ground.data }], guard := none }) (v := ?_) rfl (by decide) (by kernel_rfl) (by kernel_rfl) (by kernel_rfl) (by kernel_rfl) (fun _ _ _ h => h) (Or.inl ⟨by rfl, ?_⟩) (by assumption) ?_
                rotate_left
                · (intro w hSw; (try dsimp only at hSw); first | (go_simp; done) | (go_simp; with_reducible rfl))
                try simp only [Act.put, List.setIfInBounds_toArray, List.set_cons_zero, List.set_cons_succ]
                refine AnyL.take (i := 9) (oi := { dst := some 73, op := Op.load 33 (Operand.tmp 3), type := 33, pos := "ref.go:27", after := #[], guard := none }) (v := ?_) rfl (by decide) (by kernel_rfl) (by kernel_rfl) (by kernel_rfl) (by kernel_rfl) (fun _ _ _ h => h) (Or.inl ⟨by rfl, ?_⟩) (by assumption) ?_
                rotate_left
                · (intro w hSw; (try dsimp only at hSw); first | (go_simp; done) | (go_simp; with_reducible rfl))
                try simp only [Act.put, List.setIfInBounds_toArray, List.set_cons_zero, List.set_cons_succ]
                refine AnyL.take (i := 12) (oi := { dst := some 76, op := Op.move (Operand.tmp 0), type := 27, pos := "ref.go:27", after := #[], guard := none }) (v := ?_) rfl (by decide) (by kernel_rfl) (by kernel_rfl) (by kernel_rfl) (by kernel_rfl) (fun _ _ _ h => h) (Or.inl ⟨by rfl, ?_⟩) (by assumption) ?_
                rotate_left
                · (intro w hSw; (try dsimp only at hSw); first | (go_simp; done) | (go_simp; with_reducible rfl))
                try simp only [Act.put, List.setIfInBounds_toArray, List.set_cons_zero, List.set_cons_succ]
                refine AnyL.take (i := 13) (oi := { dst := some 77, op := Op.nilCheck (Operand.tmp 76), type := 0, pos := "ref.go:27", after := #[{ on := 12, ground := Ground.data }], guard := none }) (v := ?_) rfl (by decide) (by kernel_rfl) (by kernel_rfl) (by kernel_rfl) (by kernel_rfl) (fun _ _ _ h => h) (Or.inl ⟨by rfl, ?_⟩) (by assumption) ?_
                rotate_left
                · (intro w hSw; (try dsimp only at hSw); first | (go_simp; done) | (go_simp; with_reducible rfl))
                try simp only [Act.put, List.setIfInBounds_toArray, List.set_cons_zero, List.set_cons_succ]
                refine AnyL.take (i := 14) (oi := { dst := some 78, op := Op.fieldAddr 29 (Operand.tmp 77) 0, type := 0, pos := "ref.go:27", after := #[{ on := 13, ground := Ground.data }], guard := none }) (v := ?_) rfl (by decide) (by kernel_rfl) (by kernel_rfl) (by kernel_rfl) (by kernel_rfl) (fun _ _ _ h => h) (Or.inl ⟨by rfl, ?_⟩) (by assumption) ?_
                rotate_left
                · (intro w hSw; (try dsimp only at hSw); first | (go_simp; done) | (go_simp; with_reducible rfl))
                try simp only [Act.put, List.setIfInBounds_toArray, List.set_cons_zero, List.set_cons_succ]
                refine AnyL.take (i := 15) (oi := { dst := some 79, op := Op.load 22 (Operand.tmp 78), type := 22, pos := "ref.go:27", after := #[{ on := 14, ground := Ground.data }], guard := none }) (v := ?_) rfl (by decide) (by kernel_rfl) (by kernel_rfl) (by kernel_rfl) (by kernel_rfl) (fun _ _ _ h => h) (Or.inl ⟨by rfl, ?_⟩) (by assumption) ?_
                rotate_left
                · (intro w hSw; (try dsimp only at hSw); first | (go_simp; done) | (go_simp; with_reducible rfl))
                try simp only [Act.put, List.setIfInBounds_toArray, List.set_cons_zero, List.set_cons_succ]
                refine AnyL.take (i := 16) (oi := { dst := some 80, op := Op.move (Operand.tmp 6), type := 3, pos := "ref.go:27", after := #[], guard := none }) (v := ?_) rfl (by decide) (by kernel_rfl) (by kernel_rfl) (by kernel_rfl) (by kernel_rfl) (fun _ _ _ h => h) (Or.inl ⟨by rfl, ?_⟩) (by assumption) ?_
                rotate_left
                · (intro w hSw; (try dsimp only at hSw); first | (go_simp; done) | (go_simp; with_reducible rfl))
                try simp only [Act.put, List.setIfInBounds_toArray, List.set_cons_zero, List.set_cons_succ]
                refine AnyL.take (i := 17) (oi := { dst := some 81, op := Op.slice 22 (Operand.tmp 79) (some (Operand.tmp 80)) none none, type := 22, pos := "ref.go:27", after := #[{ on := 15, ground := Ground.data }, { on := 16, ground := Ground.data }], guard := none }) (v := ?_) rfl (by decide) (by kernel_rfl) (by kernel_rfl) (by kernel_rfl) (by kernel_rfl) (fun _ _ _ h => h) (Or.inl ⟨by rfl, ?_⟩) (by assumption) ?_
                rotate_left
                · (intro w hSw; (try dsimp only at hSw); first | (go_simp; done) | (go_simp; with_reducible rfl))
                try simp only [Act.put, List.setIfInBounds_toArray, List.set_cons_zero, List.set_cons_succ]
                clear hHeld
                refine AnyL.ready (rs := [1, 10]) (by kernel_rfl) (by simp) ?_
                refine (AllL.cons (o := { dst := some 65, op := Op.buildSlice 22 0 #[], type := 22, pos := "ref.go:27", after := #[], guard := none }) rfl (fun K hK => ?_) (AllL.cons (o := { dst := some 74, op := Op.buildSlice 22 1 #[(0, Operand.tmp 73)], type := 22, pos := "ref.go:27", after := #[{ on := 9, ground := Ground.data }], guard := none }) rfl (fun K hK => ?_) AllL.nil))
                · go_simp
                  have hbq : Bel zb (zb.alloc (.cells #[] 33)).drew := ((Bel.refl zb).alloc _).drew
                  refine hK.out _ _ (fun _ => HS.out _ (HBR.out.trans hbq)) ?_
                  clear hbq
                  clear hK K
                  try simp only [Act.put, List.setIfInBounds_toArray, List.set_cons_zero, List.set_cons_succ]
                  obtain ⟨z1, hz1⟩ : ∃ x, x = (zb.alloc (.cells #[] 33)).drew := ⟨_, rfl⟩
                  have HLE := Lib.hid (show z1.heap[zb.heap.size]? = some (.cells #[] 33 (0, 0)) by rw [hz1]; exact heap_alloc_new zb (.cells #[] 33))
                  have hltE : zb.heap.size < z1.heap.size := (Array.getElem?_eq_some_iff.1 HLE.out).1
                  have hbz1 : Bel zb z1 := by rw [hz1]; exact ((Bel.refl zb).alloc _).drew
                  have HBz1 := Lib.hid (HBR.out.trans hbz1)
                  rw [← hz1]
                  clear hz1
                  have HOE := Lib.hid (ownG_empty (E := entEl) (n := zb.heap.size) HLE.out HBR.out.size)
                  refine AnyL.ready (rs := [8, 10]) (by kernel_rfl) (by simp) ?_
                  refine (AllL.cons (o := { dst := some 72, op := Op.call { callee := Callee.builtin Builtin.append, args := #[Operand.tmp 65, Operand.tmp 71], argTypes := #[22, 22] }, type := 22, pos := "ref.go:27", after := #[{ on := 1, ground := Ground.data }, { on := 7, ground := Ground.data }], guard := none }) rfl (fun K hK => ?_) (AllL.cons (o := { dst := some 74, op := Op.buildSlice 22 1 #[(0, Operand.tmp 73)], type := 22, pos := "ref.go:27", after := #[{ on := 9, ground := Ground.data }], guard := none }) rfl (fun K hK => ?_) AllL.nil))
                  · refine step_append_all entOk rfl (.tmp 65) (.tmp 71) rfl rfl HOE.out (C.take k) rfl (HS1.out z1 HBz1.out) (lim1a HL1.out HL2.out) (lim1b HL1.out HL2.out) HBz1.out.size ?_
                    intro vz2 z2 hoz2 hkz2 _
                    have HBz2 := Lib.hid (show Bel zb z2 from HBz1.out.trans_below (hkz2.own HBz1.out.size (fun kk hkk => (HOE.out.lt kk hkk).1)))
                    rw [List.nil_append] at hoz2
                    have hkkz2 : Keep (Value.ownBlock (.slice (some ⟨zb.heap.size, 0, none⟩) 0 0)).toList z1 z2 := hkz2
                    have HO2 := Lib.hid hoz2
                    clear hoz2 hkz2 hkkz2
                    refine hK.out _ _ (fun _ => HS.out _ HBz2.out) ?_
                    clear hK K
                    try simp only [Act.put, List.setIfInBounds_toArray, List.set_cons_zero, List.set_cons_succ]
                    refine AnyL.ready (rs := [10]) (by kernel_rfl) (by simp) ?_
                    refine (AllL.cons (o := { dst := some 74, op := Op.buildSlice 22 1 #[(0, Operand.tmp 73)], type := 22, pos := "ref.go:27", after := #[{ on := 9, ground := Ground.data }], guard := none }) rfl (fun K hK => ?_) AllL.nil)
                    go_simp
                    have hbq : Bel z2 (z2.alloc (.cells #[.string e.k, .int .i64 e.q, .bool e.d, .string e.v] 33)) := ((Bel.refl z2).alloc _)
                    refine hK.out _ _ (fun _ => HS.out _ (HBz2.out.trans hbq)) ?_
                    clear hbq
                    clear hK K
                    try simp only [Act.put, List.setIfInBounds_toArray, List.set_cons_zero, List.set_cons_succ]
                    obtain ⟨z3, hz3⟩ : ∃ x, x = (z2.alloc (.cells #[.string e.k, .int .i64 e.q, .bool e.d, .string e.v] 33)) := ⟨_, rfl⟩
                    have HLL := Lib.hid (show z3.heap[z2.heap.size]? = some (.cells #[.string e.k, .int .i64 e.q, .bool e.d, .string e.v] 33 (0, 0)) by rw [hz3]; exact heap_alloc_new z2 (.cells #[.string e.k, .int .i64 e.q, .bool e.d, .string e.v] 33))
                    have hltL : z2.heap.size < z3.heap.size := (Array.getElem?_eq_some_iff.1 HLL.out).1
                    have hbz3 : Bel z2 z3 := by rw [hz3]; exact ((Bel.refl z2).alloc _)
                    have HBz3 := Lib.hid (HBz2.out.trans hbz3)
                    rw [← hz3]
                    clear hz3
                    have HO2b := Lib.hid (HO2.out.bel hbz3)
                    refine AnyL.ready (rs := [11]) (by kernel_rfl) (by simp) ?_
                    refine (AllL.cons (o := { dst := some 75, op := Op.call { callee := Callee.builtin Builtin.append, args := #[Operand.tmp 72, Operand.tmp 74], argTypes := #[22, 22] }, type := 22, pos := "ref.go:27", after := #[{ on := 8, ground := Ground.data }, { on := 10, ground := Ground.data }, { on := 8, ground := Ground.chain }], guard := none }) rfl (fun K hK => ?_) AllL.nil)
                    refine step_append_all entOk rfl (.tmp 72) (.tmp 74) rfl rfl HO2b.out ([e]) rfl (src_at [e] HLL.out rfl rfl) (lim2a HL1.out HL2.out) (lim2b HL1.out HL2.out) HBz3.out.size ?_
                    intro vz4 z4 hoz4 hkz4 _
                    have HBz4 := Lib.hid (show Bel zb z4 from HBz3.out.trans_below (hkz4.own HBz3.out.size (fun kk hkk => (HO2b.out.lt kk hkk).1)))
                    have HO3 := Lib.hid hoz4
                    clear hoz4 hkz4
                    refine hK.out _ _ (fun _ => HS.out _ HBz4.out) ?_
                    clear hK K
                    try simp only [Act.put, List.setIfInBounds_toArray, List.set_cons_zero, List.set_cons_succ]
                    refine AnyL.ready (rs := [18]) (by kernel_rfl) (by simp) ?_
                    refine (AllL.cons (o := { dst := some 82, op := Op.call { callee := Callee.builtin Builtin.append, args := #[Operand.tmp 75, Operand.tmp 81], argTypes := #[22, 22] }, type := 22, pos := "ref.go:27", after := #[{ on := 11, ground := Ground.data }, { on := 17, ground := Ground.data }, { on := 11, ground := Ground.chain }], guard := none }) rfl (fun K hK => ?_) AllL.nil)
                    refine step_append_all entOk rfl (.tmp 75) (.tmp 81) rfl rfl HO3.out (C.drop k) rfl (HS2.out z4 HBz4.out) (lim3a HL1.out HL2.out) (lim3b HL1.out HL2.out) HBz4.out.size ?_
                    intro vz5 z5 hoz5 hkz5 _
                    have HBz5 := Lib.hid (show Bel zb z5 from HBz4.out.trans_below (hkz5.own HBz4.out.size (fun kk hkk => (HO3.out.lt kk hkk).1)))
                    have HO4 := Lib.hid hoz5
                    clear hoz5 hkz5
                    refine hK.out _ _ (fun _ => HS.out _ HBz5.out) ?_
                    clear hK K
                    try simp only [Act.put, List.setIfInBounds_toArray, List.set_cons_zero, List.set_cons_succ]
                    have HOF := Lib.hid (show OwnG entEl zb.heap.size z5 vz5 (stepS C e) by rw [HADD.out]; exact HO4.out)
                    obtain ⟨pf, cf, hvf⟩ := ownG_len HOF.out
                    rw [hvf] at HOF ⊢
                    clear hvf
                    generalize (stepS C e).length = nf at *
                    refine AnyL.ready (rs := [19]) (by kernel_rfl) (by simp) ?_
                    refine (AllL.cons (o := { dst := some 83, op := Op.nilCheck (Operand.tmp 64), type := 0, pos := "ref.go:27", after := #[{ on := 0, ground := Ground.data }, { on := 0, ground := Ground.phase }, { on := 1, ground := Ground.phase }, { on := 2, ground := Ground.phase }, { on := 3, ground := Ground.phase }, { on := 4, ground := Ground.phase }, { on := 5, ground := Ground.phase }, { on := 6, ground := Ground.phase }, { on := 7, ground := Ground.phase }, { on := 8, ground := Ground.phase }, { on := 9, ground := Ground.phase }, { on := 10, ground := Ground.phase }, { on := 11, ground := Ground.phase }, { on := 12, ground := Ground.phase }, { on := 13, ground := Ground.phase }, { on := 14, ground := Ground.phase }, { on := 15, ground := Ground.phase }, { on := 16, ground := Ground.phase }, { on := 17, ground := Ground.phase }, { on := 18, ground := Ground.phase }], guard := none }) rfl (fun K hK => ?_) AllL.nil)
                    go_simp
                    refine hK.out _ _ (fun _ => HS.out _ HBz5.out) ?_
                    clear hK K
                    try simp only [Act.put, List.setIfInBounds_toArray, List.set_cons_zero, List.set_cons_succ]
                    refine AnyL.ready (rs := [20]) (by kernel_rfl) (by simp) ?_
                    refine (AllL.cons (o := { dst := some 84, op := Op.fieldAddr 29 (Operand.tmp 83) 0, type := 0, pos := "ref.go:27", after := #[{ on := 19, ground := Ground.data }, { on := 0, ground := Ground.phase }, { on := 1, ground := Ground.phase }, { on := 2, ground := Ground.phase }, { on := 3, ground := Ground.phase }, { on := 4, ground := Ground.phase }, { on := 5, ground := Ground.phase }, { on := 6, ground := Ground.phase }, { on := 7, ground := Ground.phase }, { on := 8, ground := Ground.phase }, { on := 9, ground := Ground.phase }, { on := 10, ground := Ground.phase }, { on := 11, ground := Ground.phase }, { on := 12, ground := Ground.phase }, { on := 13, ground := Ground.phase }, { on := 14, ground := Ground.phase }, { on := 15, ground := Ground.phase }, { on := 16, ground := Ground.phase }, { on := 17, ground := Ground.phase }, { on := 18, ground := Ground.phase }], guard := none }) rfl (fun K hK => ?_) AllL.nil)
                    go_simp
                    refine hK.out _ _ (fun _ => HS.out _ HBz5.out) ?_
                    clear hK K
                    try simp only [Act.put, List.setIfInBounds_toArray, List.set_cons_zero, List.set_cons_succ]
                    refine AnyL.ready (rs := [21]) (by kernel_rfl) (by simp) ?_
                    refine (AllL.cons (o := { dst := none, op := Op.store 22 (Operand.tmp 84) (Operand.tmp 82), type := 0, pos := "ref.go:27", after := #[{ on := 20, ground := Ground.data }, { on := 18, ground := Ground.data }, { on := 18, ground := Ground.chain }, { on := 0, ground := Ground.phase }, { on := 1, ground := Ground.phase }, { on := 2, ground := Ground.phase }, { on := 3, ground := Ground.phase }, { on := 4, ground := Ground.phase }, { on := 5, ground := Ground.phase }, { on := 6, ground := Ground.phase }, { on := 7, ground := Ground.phase }, { on := 8, ground := Ground.phase }, { on := 9, ground := Ground.phase }, { on := 10, ground := Ground.phase }, { on := 11, ground := Ground.phase }, { on := 12, ground := Ground.phase }, { on := 13, ground := Ground.phase }, { on := 14, ground := Ground.phase }, { on := 15, ground := Ground.phase }, { on := 16, ground := Ground.phase }, { on := 17, ground := Ground.phase }, { on := 18, ground := Ground.phase }], guard := none }) rfl (fun K hK => ?_) AllL.nil)
                    obtain ⟨s0, -, -, -, -, s5⟩ := HS.out _ HBz5.out
                    go_simp
                    refine hK.out _ _ (fun h => absurd rfl h) ?_
                    clear hK K s0 s5
                    try simp only [Act.put, List.setIfInBounds_toArray, List.set_cons_zero, List.set_cons_succ]
                    refine AnyL.done (by kernel_rfl) ?_ _
                    go_wp2_with (fail)
                    go_ret
                    have hbw : Bel w z5 := HB1.out.trans (HZB.out.trans HBz5.out)
                    exact ⟨_, (by rw [HERR.out]; rfl), rm_set ((Below.block hbw b (by rw [HBX.out]; exact hlt)).trans HBLK.out) (HOF.out.low (Nat.zero_le _)), rm_new HOF.out (HB1.out.trans HZB.out), (Keep.of_bel hbw _).setCell (Or.inl (by simp)) _⟩
                  · go_simp
                    have hbq : Bel z1 (z1.alloc (.cells #[.string e.k, .int .i64 e.q, .bool e.d, .string e.v] 33)) := ((Bel.refl z1).alloc _)
                    refine hK.out _ _ (fun _ => HS.out _ (HBz1.out.trans hbq)) ?_
                    clear hbq
                    clear hK K
                    try simp only [Act.put, List.setIfInBounds_toArray, List.set_cons_zero, List.set_cons_succ]
                    obtain ⟨z2, hz2⟩ : ∃ x, x = (z1.alloc (.cells #[.string e.k, .int .i64 e.q, .bool e.d, .string e.v] 33)) := ⟨_, rfl⟩
                    have HLL := Lib.hid (show z2.heap[z1.heap.size]? = some (.cells #[.string e.k, .int .i64 e.q, .bool e.d, .string e.v] 33 (0, 0)) by rw [hz2]; exact heap_alloc_new z1 (.cells #[.string e.k, .int .i64 e.q, .bool e.d, .string e.v] 33))
                    have hltL : z1.heap.size < z2.heap.size := (Array.getElem?_eq_some_iff.1 HLL.out).1
                    have hbz2 : Bel z1 z2 := by rw [hz2]; exact ((Bel.refl z1).alloc _)
                    have HBz2 := Lib.hid (HBz1.out.trans hbz2)
                    rw [← hz2]
                    clear hz2
                    have HOE2 := Lib.hid (HOE.out.bel hbz2)
                    refine AnyL.ready (rs := [8]) (by kernel_rfl) (by simp) ?_
                    refine (AllL.cons (o := { dst := some 72, op := Op.call { callee := Callee.builtin Builtin.append, args := #[Operand.tmp 65, Operand.tmp 71], argTypes := #[22, 22] }, type := 22, pos := "ref.go:27", after := #[{ on := 1, ground := Ground.data }, { on := 7, ground := Ground.data }], guard := none }) rfl (fun K hK => ?_) AllL.nil)
                    refine step_append_all entOk rfl (.tmp 65) (.tmp 71) rfl rfl HOE2.out (C.take k) rfl (HS1.out z2 HBz2.out) (lim1a HL1.out HL2.out) (lim1b HL1.out HL2.out) HBz2.out.size ?_
                    intro vz3 z3 hoz3 hkz3 _
                    have HBz3 := Lib.hid (show Bel zb z3 from HBz2.out.trans_below (hkz3.own HBz2.out.size (fun kk hkk => (HOE2.out.lt kk hkk).1)))
                    rw [List.nil_append] at hoz3
                    have hkkz3 : Keep (Value.ownBlock (.slice (some ⟨zb.heap.size, 0, none⟩) 0 0)).toList z2 z3 := hkz3
                    have HLL3 := Lib.hid (hkkz3.at HLL.out (fun hm => by rw [Option.mem_toList] at hm; simp only [Value.ownBlock, Option.some.injEq] at hm; omega))
                    have HO2 := Lib.hid hoz3
                    clear hoz3 hkz3 hkkz3
                    refine hK.out _ _ (fun _ => HS.out _ HBz3.out) ?_
                    clear hK K
                    try simp only [Act.put, List.setIfInBounds_toArray, List.set_cons_zero, List.set_cons_succ]
                    refine AnyL.ready (rs := [11]) (by kernel_rfl) (by simp) ?_
                    refine (AllL.cons (o := { dst := some 75, op := Op.call { callee := Callee.builtin Builtin.append, args := #[Operand.tmp 72, Operand.tmp 74], argTypes := #[22, 22] }, type := 22, pos := "ref.go:27", after := #[{ on := 8, ground := Ground.data }, { on := 10, ground := Ground.data }, { on := 8, ground := Ground.chain }], guard := none }) rfl (fun K hK => ?_) AllL.nil)
                    refine step_append_all entOk rfl (.tmp 72) (.tmp 74) rfl rfl HO2.out ([e]) rfl (src_at [e] HLL3.out rfl rfl) (lim2a HL1.out HL2.out) (lim2b HL1.out HL2.out) HBz3.out.size ?_
                    intro vz4 z4 hoz4 hkz4 _
                    have HBz4 := Lib.hid (show Bel zb z4 from HBz3.out.trans_below (hkz4.own HBz3.out.size (fun kk hkk => (HO2.out.lt kk hkk).1)))
                    have HO3 := Lib.hid hoz4
                    clear hoz4 hkz4
                    refine hK.out _ _ (fun _ => HS.out _ HBz4.out) ?_
                    clear hK K
                    try simp only [Act.put, List.setIfInBounds_toArray, List.set_cons_zero, List.set_cons_succ]
                    refine AnyL.ready (rs := [18]) (by kernel_rfl) (by simp) ?_
                    refine (AllL.cons (o := { dst := some 82, op := Op.call { callee := Callee.builtin Builtin.append, args := #[Operand.tmp 75, Operand.tmp 81], argTypes := #[22, 22] }, type := 22, pos := "ref.go:27", after := #[{ on := 11, ground := Ground.data }, { on := 17, ground := Ground.data }, { on := 11, ground := Ground.chain }], guard := none }) rfl (fun K hK => ?_) AllL.nil)
                    refine step_append_all entOk rfl (.tmp 75) (.tmp 81) rfl rfl HO3.out (C.drop k) rfl (HS2.out z4 HBz4.out) (lim3a HL1.out HL2.out) (lim3b HL1.out HL2.out) HBz4.out.size ?_
                    intro vz5 z5 hoz5 hkz5 _
                    have HBz5 := Lib.hid (show Bel zb z5 from HBz4.out.trans_below (hkz5.own HBz4.out.size (fun kk hkk => (HO3.out.lt kk hkk).1)))
                    have HO4 := Lib.hid hoz5
                    clear hoz5 hkz5
                    refine hK.out _ _ (fun _ => HS.out _ HBz5.out) ?_
                    clear hK K
                    try simp only [Act.put, List.setIfInBounds_toArray, List.set_cons_zero, List.set_cons_succ]
                    have HOF := Lib.hid (show OwnG entEl zb.heap.size z5 vz5 (stepS C e) by rw [HADD.out]; exact HO4.out)
                    obtain ⟨pf, cf, hvf⟩ := ownG_len HOF.out
                    rw [hvf] at HOF ⊢
                    clear hvf
                    generalize (stepS C e).length = nf at *
                    refine AnyL.ready (rs := [19]) (by kernel_rfl) (by simp) ?_
                    refine (AllL.cons (o := { dst := some 83, op := Op.nilCheck (Operand.tmp 64), type := 0, pos := "ref.go:27", after := #[{ on := 0, ground := Ground.data }, { on := 0, ground := Ground.phase }, { on := 1, ground := Ground.phase }, { on := 2, ground := Ground.phase }, { on := 3, ground := Ground.phase }, { on := 4, ground := Ground.phase }, { on := 5, ground := Ground.phase }, { on := 6, ground := Ground.phase }, { on := 7, ground := Ground.phase }, { on := 8, ground := Ground.phase }, { on := 9, ground := Ground.phase }, { on := 10, ground := Ground.phase }, { on := 11, ground := Ground.phase }, { on := 12, ground := Ground.phase }, { on := 13, ground := Ground.phase }, { on := 14, ground := Ground.phase }, { on := 15, ground := Ground.phase }, { on := 16, ground := Ground.phase }, { on := 17, ground := Ground.phase }, { on := 18, ground := Ground.phase }], guard := none }) rfl (fun K hK => ?_) AllL.nil)
                    go_simp
                    refine hK.out _ _ (fun _ => HS.out _ HBz5.out) ?_
                    clear hK K
                    try simp only [Act.put, List.setIfInBounds_toArray, List.set_cons_zero, List.set_cons_succ]
                    refine AnyL.ready (rs := [20]) (by kernel_rfl) (by simp) ?_
                    refine (AllL.cons (o := { dst := some 84, op := Op.fieldAddr 29 (Operand.tmp 83) 0, type := 0, pos := "ref.go:27", after := #[{ on := 19, ground := Ground.data }, { on := 0, ground := Ground.phase }, { on := 1, ground := Ground.phase }, { on := 2, ground := Ground.phase }, { on := 3, ground := Ground.phase }, { on := 4, ground := Ground.phase }, { on := 5, ground := Ground.phase }, { on := 6, ground := Ground.phase }, { on := 7, ground := Ground.phase }, { on := 8, ground := Ground.phase }, { on := 9, ground := Ground.phase }, { on := 10, ground := Ground.phase }, { on := 11, ground := Ground.phase }, { on := 12, ground := Ground.phase }, { on := 13, ground := Ground.phase }, { on := 14, ground := Ground.phase }, { on := 15, ground := Ground.phase }, { on := 16, ground := Ground.phase }, { on := 17, ground := Ground.phase }, { on := 18, ground := Ground.phase }], guard := none }) rfl (fun K hK => ?_) AllL.nil)
                    go_simp
                    refine hK.out _ _ (fun _ => HS.out _ HBz5.out) ?_
                    clear hK K
                    try simp only [Act.put, List.setIfInBounds_toArray, List.set_cons_zero, List.set_cons_succ]
                    refine AnyL.ready (rs := [21]) (by kernel_rfl) (by simp) ?_
                    refine (AllL.cons (o := { dst := none, op := Op.store 22 (Operand.tmp 84) (Operand.tmp 82), type := 0, pos := "ref.go:27", after := #[{ on := 20, ground := Ground.data }, { on := 18, ground := Ground.data }, { on := 18, ground := Ground.chain }, { on := 0, ground := Ground.phase }, { on := 1, ground := Ground.phase }, { on := 2, ground := Ground.phase }, { on := 3, ground := Ground.phase }, { on := 4, ground := Ground.phase }, { on := 5, ground := Ground.phase }, { on := 6, ground := Ground.phase }, { on := 7, ground := Ground.phase }, { on := 8, ground := Ground.phase }, { on := 9, ground := Ground.phase }, { on := 10, ground := Ground.phase }, { on := 11, ground := Ground.phase }, { on := 12, ground := Ground.phase }, { on := 13, ground := Ground.phase }, { on := 14, ground := Ground.phase }, { on := 15, ground := Ground.phase }, { on := 16, ground := Ground.phase }, { on := 17, ground := Ground.phase }, { on := 18, ground := Ground.phase }], guard := none }) rfl (fun K hK => ?_) AllL.nil)
                    obtain ⟨s0, -, -, -, -, s5⟩ := HS.out _ HBz5.out
                    go_simp
                    refine hK.out _ _ (fun h => absurd rfl h) ?_
                    clear hK K s0 s5
                    try simp only [Act.put, List.setIfInBounds_toArray, List.set_cons_zero, List.set_cons_succ]
                    refine AnyL.done (by kernel_rfl) ?_ _
                    go_wp2_with (fail)
                    go_ret
                    have hbw : Bel w z5 := HB1.out.trans (HZB.out.trans HBz5.out)
                    exact ⟨_, (by rw [HERR.out]; rfl), rm_set ((Below.block hbw b (by rw [HBX.out]; exact hlt)).trans HBLK.out) (HOF.out.low (Nat.zero_le _)), rm_new HOF.out (HB1.out.trans HZB.out), (Keep.of_bel hbw _).setCell (Or.inl (by simp)) _⟩
                · go_simp
                  have hbq : Bel zb (zb.alloc (.cells #[.string e.k, .int .i64 e.q, .bool e.d, .string e.v] 33)).drew := ((Bel.refl zb).alloc _).drew
                  refine hK.out _ _ (fun _ => HS.out _ (HBR.out.trans hbq)) ?_
                  clear hbq
                  clear hK K
                  try simp only [Act.put, List.setIfInBounds_toArray, List.set_cons_zero, List.set_cons_succ]
                  obtain ⟨z1, hz1⟩ : ∃ x, x = (zb.alloc (.cells #[.string e.k, .int .i64 e.q, .bool e.d, .string e.v] 33)).drew := ⟨_, rfl⟩
                  have HLL := Lib.hid (show z1.heap[zb.heap.size]? = some (.cells #[.string e.k, .int .i64 e.q, .bool e.d, .string e.v] 33 (0, 0)) by rw [hz1]; exact heap_alloc_new zb (.cells #[.string e.k, .int .i64 e.q, .bool e.d, .string e.v] 33))
                  have hltL : zb.heap.size < z1.heap.size := (Array.getElem?_eq_some_iff.1 HLL.out).1
                  have hbz1 : Bel zb z1 := by rw [hz1]; exact ((Bel.refl zb).alloc _).drew
                  have HBz1 := Lib.hid (HBR.out.trans hbz1)
                  rw [← hz1]
                  clear hz1
                  refine AnyL.ready (rs := [1]) (by kernel_rfl) (by simp) ?_
                  refine (AllL.cons (o := { dst := some 65, op := Op.buildSlice 22 0 #[], type := 22, pos := "ref.go:27", after := #[], guard := none }) rfl (fun K hK => ?_) AllL.nil)
                  go_simp
                  have hbq : Bel z1 (z1.alloc (.cells #[] 33)) := ((Bel.refl z1).alloc _)
                  refine hK.out _ _ (fun _ => HS.out _ (HBz1.out.trans hbq)) ?_
                  clear hbq
                  clear hK K
                  try simp only [Act.put, List.setIfInBounds_toArray, List.set_cons_zero, List.set_cons_succ]
                  obtain ⟨z2, hz2⟩ : ∃ x, x = (z1.alloc (.cells #[] 33)) := ⟨_, rfl⟩
                  have HLE := Lib.hid (show z2.heap[z1.heap.size]? = some (.cells #[] 33 (0, 0)) by rw [hz2]; exact heap_alloc_new z1 (.cells #[] 33))
                  have hltE : z1.heap.size < z2.heap.size := (Array.getElem?_eq_some_iff.1 HLE.out).1
                  have hbz2 : Bel z1 z2 := by rw [hz2]; exact ((Bel.refl z1).alloc _)
                  have HBz2 := Lib.hid (HBz1.out.trans hbz2)
                  rw [← hz2]
                  clear hz2
                  have HOE := Lib.hid (ownG_empty (E := entEl) (n := zb.heap.size) HLE.out HBz1.out.size)
                  have HLL2 := Lib.hid ((Below.block hbz2 zb.heap.size (by omega)).trans HLL.out)
                  refine AnyL.ready (rs := [8]) (by kernel_rfl) (by simp) ?_
                  refine (AllL.cons (o := { dst := some 72, op := Op.call { callee := Callee.builtin Builtin.append, args := #[Operand.tmp 65, Operand.tmp 71], argTypes := #[22, 22] }, type := 22, pos := "ref.go:27", after := #[{ on := 1, ground := Ground.data }, { on := 7, ground := Ground.data }], guard := none }) rfl (fun K hK => ?_) AllL.nil)
                  refine step_append_all entOk rfl (.tmp 65) (.tmp 71) rfl rfl HOE.out (C.take k) rfl (HS1.out z2 HBz2.out) (lim1a HL1.out HL2.out) (lim1b HL1.out HL2.out) HBz2.out.size ?_
                  intro vz3 z3 hoz3 hkz3 _
                  have HBz3 := Lib.hid (show Bel zb z3 from HBz2.out.trans_below (hkz3.own HBz2.out.size (fun kk hkk => (HOE.out.lt kk hkk).1)))
                  rw [List.nil_append] at hoz3
                  have hkkz3 : Keep (Value.ownBlock (.slice (some ⟨z1.heap.size, 0, none⟩) 0 0)).toList z2 z3 := hkz3
                  have HLL3 := Lib.hid (hkkz3.at HLL2.out (fun hm => by rw [Option.mem_toList] at hm; simp only [Value.ownBlock, Option.some.injEq] at hm; omega))
                  have HO2 := Lib.hid hoz3
                  clear hoz3 hkz3 hkkz3
                  refine hK.out _ _ (fun _ => HS.out _ HBz3.out) ?_
                  clear hK K
                  try simp only [Act.put, List.setIfInBounds_toArray, List.set_cons_zero, List.set_cons_succ]
                  refine AnyL.ready (rs := [11]) (by kernel_rfl) (by simp) ?_
                  refine (AllL.cons (o := { dst := some 75, op := Op.call { callee := Callee.builtin Builtin.append, args := #[Operand.tmp 72, Operand.tmp 74], argTypes := #[22, 22] }, type := 22, pos := "ref.go:27", after := #[{ on := 8, ground := Ground.data }, { on := 10, ground := Ground.data }, { on := 8, ground := Ground.chain }], guard := none }) rfl (fun K hK => ?_) AllL.nil)
                  refine step_append_all entOk rfl (.tmp 72) (.tmp 74) rfl rfl HO2.out ([e]) rfl (src_at [e] HLL3.out rfl rfl) (lim2a HL1.out HL2.out) (lim2b HL1.out HL2.out) HBz3.out.size ?_
                  intro vz4 z4 hoz4 hkz4 _
                  have HBz4 := Lib.hid (show Bel zb z4 from HBz3.out.trans_below (hkz4.own HBz3.out.size (fun kk hkk => (HO2.out.lt kk hkk).1)))
                  have HO3 := Lib.hid hoz4
                  clear hoz4 hkz4
                  refine hK.out _ _ (fun _ => HS.out _ HBz4.out) ?_
                  clear hK K
                  try simp only [Act.put, List.setIfInBounds_toArray, List.set_cons_zero, List.set_cons_succ]
                  refine AnyL.ready (rs := [18]) (by kernel_rfl) (by simp) ?_
                  refine (AllL.cons (o := { dst := some 82, op := Op.call { callee := Callee.builtin Builtin.append, args := #[Operand.tmp 75, Operand.tmp 81], argTypes := #[22, 22] }, type := 22, pos := "ref.go:27", after := #[{ on := 11, ground := Ground.data }, { on := 17, ground := Ground.data }, { on := 11, ground := Ground.chain }], guard := none }) rfl (fun K hK => ?_) AllL.nil)
                  refine step_append_all entOk rfl (.tmp 75) (.tmp 81) rfl rfl HO3.out (C.drop k) rfl (HS2.out z4 HBz4.out) (lim3a HL1.out HL2.out) (lim3b HL1.out HL2.out) HBz4.out.size ?_
                  intro vz5 z5 hoz5 hkz5 _
                  have HBz5 := Lib.hid (show Bel zb z5 from HBz4.out.trans_below (hkz5.own HBz4.out.size (fun kk hkk => (HO3.out.lt kk hkk).1)))
                  have HO4 := Lib.hid hoz5
                  clear hoz5 hkz5
                  refine hK.out _ _ (fun _ => HS.out _ HBz5.out) ?_
                  clear hK K
                  try simp only [Act.put, List.setIfInBounds_toArray, List.set_cons_zero, List.set_cons_succ]
                  have HOF := Lib.hid (show OwnG entEl zb.heap.size z5 vz5 (stepS C e) by rw [HADD.out]; exact HO4.out)
                  obtain ⟨pf, cf, hvf⟩ := ownG_len HOF.out
                  rw [hvf] at HOF ⊢
                  clear hvf
                  generalize (stepS C e).length = nf at *
                  refine AnyL.ready (rs := [19]) (by kernel_rfl) (by simp) ?_
                  refine (AllL.cons (o := { dst := some 83, op := Op.nilCheck (Operand.tmp 64), type := 0, pos := "ref.go:27", after := #[{ on := 0, ground := Ground.data }, { on := 0, ground := Ground.phase }, { on := 1, ground := Ground.phase }, { on := 2, ground := Ground.phase }, { on := 3, ground := Ground.phase }, { on := 4, ground := Ground.phase }, { on := 5, ground := Ground.phase }, { on := 6, ground := Ground.phase }, { on := 7, ground := Ground.phase }, { on := 8, ground := Ground.phase }, { on := 9, ground := Ground.phase }, { on := 10, ground := Ground.phase }, { on := 11, ground := Ground.phase }, { on := 12, ground := Ground.phase }, { on := 13, ground := Ground.phase }, { on := 14, ground := Ground.phase }, { on := 15, ground := Ground.phase }, { on := 16, ground := Ground.phase }, { on := 17, ground := Ground.phase }, { on := 18, ground := Ground.phase }], guard := none }) rfl (fun K hK => ?_) AllL.nil)
                  go_simp
                  refine hK.out _ _ (fun _ => HS.out _ HBz5.out) ?_
                  clear hK K
                  try simp only [Act.put, List.setIfInBounds_toArray, List.set_cons_zero, List.set_cons_succ]
                  refine AnyL.ready (rs := [20]) (by kernel_rfl) (by simp) ?_
                  refine (AllL.cons (o := { dst := some 84, op := Op.fieldAddr 29 (Operand.tmp 83) 0, type := 0, pos := "ref.go:27", after := #[{ on := 19, ground := Ground.data }, { on := 0, ground := Ground.phase }, { on := 1, ground := Ground.phase }, { on := 2, ground := Ground.phase }, { on := 3, ground := Ground.phase }, { on := 4, ground := Ground.phase }, { on := 5, ground := Ground.phase }, { on := 6, ground := Ground.phase }, { on := 7, ground := Ground.phase }, { on := 8, ground := Ground.phase }, { on := 9, ground := Ground.phase }, { on := 10, ground := Ground.phase }, { on := 11, ground := Ground.phase }, { on := 12, ground := Ground.phase }, { on := 13, ground := Ground.phase }, { on := 14, ground := Ground.phase }, { on := 15, ground := Ground.phase }, { on := 16, ground := Ground.phase }, { on := 17, ground := Ground.phase }, { on := 18, ground := Ground.phase }], guard := none }) rfl (fun K hK => ?_) AllL.nil)
                  go_simp
                  refine hK.out _ _ (fun _ => HS.out _ HBz5.out) ?_
                  clear hK K
                  try simp only [Act.put, List.setIfInBounds_toArray, List.set_cons_zero, List.set_cons_succ]
                  refine AnyL.ready (rs := [21]) (by kernel_rfl) (by simp) ?_
                  refine (AllL.cons (o := { dst := none, op := Op.store 22 (Operand.tmp 84) (Operand.tmp 82), type := 0, pos := "ref.go:27", after := #[{ on := 20, ground := Ground.data }, { on := 18, ground := Ground.data }, { on := 18, ground := Ground.chain }, { on := 0, ground := Ground.phase }, { on := 1, ground := Ground.phase }, { on := 2, ground := Ground.phase }, { on := 3, ground := Ground.phase }, { on := 4, ground := Ground.phase }, { on := 5, ground := Ground.phase }, { on := 6, ground := Ground.phase }, { on := 7, ground := Ground.phase }, { on := 8, ground := Ground.phase }, { on := 9, ground := Ground.phase }, { on := 10, ground := Ground.phase }, { on := 11, ground := Ground.phase }, { on := 12, ground := Ground.phase }, { on := 13, ground := Ground.phase }, { on := 14, ground := Ground.phase }, { on := 15, ground := Ground.phase }, { on := 16, ground := Ground.phase }, { on := 17, ground := Ground.phase }, { on := 18, ground := Ground.phase }], guard := none }) rfl (fun K hK => ?_) AllL.nil)
                  obtain ⟨s0, -, -, -, -, s5⟩ := HS.out _ HBz5.out
                  go_simp
                  refine hK.out _ _ (fun h => absurd rfl h) ?_
                  clear hK K s0 s5
                  try simp only [Act.put, List.setIfInBounds_toArray, List.set_cons_zero, List.set_cons_succ]
                  refine AnyL.done (by kernel_rfl) ?_ _
                  go_wp2_with (fail)
                  go_ret
                  have hbw : Bel w z5 := HB1.out.trans (HZB.out.trans HBz5.out)
                  exact ⟨_, (by rw [HERR.out]; rfl), rm_set ((Below.block hbw b (by rw [HBX.out]; exact hlt)).trans HBLK.out) (HOF.out.low (Nat.zero_le _)), rm_new HOF.out (HB1.out.trans HZB.out), (Keep.of_bel hbw _).setCell (Or.inl (by simp)) _⟩
        · have hkn : ¬ (k : Int) < (C.length : Int) := by omega
          obtain ⟨hE1, hE2⟩ := add_stop HP.out HR.out hk hall (fun h => absurd h hkl) (fun h => absurd h hkl)
          have HERR := Lib.hid hE1
          have HADD := Lib.hid (show stepS C e = C.take k ++ [e] ++ C.drop k by rw [hE2]; simp)
          clear hE1 hE2 hall hw
          go_wp2_with (fail)
          refine wp_region_held_drew (S := fun z => z.cell? ⟨b, 0, none⟩ = some (.slice (some ⟨g, 0, none⟩) C.length cap0)) (by kernel_rfl) d0 (fun hHeld => ?_)
          refine tk (oi := { dst := some 11, op := Op.move (Operand.tmp 6), type := 3, pos := "ref.go:21", after := #[], guard := none }) (v := ?_) 0 rfl ?_ ?_
          rotate_left
          · (intro w hSw; (try dsimp only at hSw); first | (go_simp; done) | (go_simp; with_reducible rfl))
          try simp only [Act.put, List.setIfInBounds_toArray, List.set_cons_zero, List.set_cons_succ]
          refine tk (oi := { dst := some 12, op := Op.move (Operand.tmp 0), type := 27, pos := "ref.go:21", after := #[], guard := none }) (v := ?_) 1 rfl ?_ ?_
          rotate_left
          · (intro w hSw; (try dsimp only at hSw); first | (go_simp; done) | (go_simp; with_reducible rfl))
          try simp only [Act.put, List.setIfInBounds_toArray, List.set_cons_zero, List.set_cons_succ]
          refine tk (oi := { dst := some 13, op := Op.nilCheck (Operand.tmp 12), type := 0, pos := "ref.go:21", after := #[{ on := 1, ground := Ground.data }], guard := none }) (v := ?_) 2 rfl ?_ ?_
          rotate_left
          · (intro w hSw; (try dsimp only at hSw); first | (go_simp; done) | (go_simp; with_reducible rfl))
          try simp only [Act.put, List.setIfInBounds_toArray, List.set_cons_zero, List.set_cons_succ]
          refine tk (oi := { dst := some 14, op := Op.fieldAddr 29 (Operand.tmp 13) 0, type := 0, pos := "ref.go:21", after := #[{ on := 2, ground := Ground.data }], guard := none }) (v := ?_) 3 rfl ?_ ?_
          rotate_left
          · (intro w hSw; (try dsimp only at hSw); first | (go_simp; done) | (go_simp; with_reducible rfl))
          try simp only [Act.put, List.setIfInBounds_toArray, List.set_cons_zero, List.set_cons_succ]
          refine tk (oi := { dst := some 15, op := Op.load 22 (Operand.tmp 14), type := 22, pos := "ref.go:21", after := #[{ on := 3, ground := Ground.data }], guard := none }) (v := ?_) 4 rfl ?_ ?_
          rotate_left
          · (intro w hSw; (try dsimp only at hSw); first | (go_simp; done) | (go_simp; with_reducible rfl))
          try simp only [Act.put, List.setIfInBounds_toArray, List.set_cons_zero, List.set_cons_succ]
          refine tk (oi := { dst := some 16, op := Op.call { callee := Callee.builtin Builtin.len, args := #[Operand.tmp 15], argTypes := #[22] }, type := 3, pos := "ref.go:21", after := #[{ on := 4, ground := Ground.data }], guard := none }) (v := ?_) 5 rfl ?_ ?_
          rotate_left
          · (intro w hSw; (try dsimp only at hSw); first | (go_simp; done) | (go_simp; with_reducible rfl))
          try simp only [Act.put, List.setIfInBounds_toArray, List.set_cons_zero, List.set_cons_succ]
          refine tk (oi := { dst := some 17, op := Op.binOp BinOp.lss 3 (Operand.tmp 11) (Operand.tmp 16) 3, type := 4, pos := "ref.go:21", after := #[{ on := 0, ground := Ground.data }, { on := 5, ground := Ground.data }], guard := none }) (v := ?_) 6 rfl ?_ ?_
          rotate_left
          · (intro w hSw; (try dsimp only at hSw); first | (go_simp; done) | (go_simp; with_reducible rfl))
          try simp only [Act.put, List.setIfInBounds_toArray, List.set_cons_zero, List.set_cons_succ]
          refine tk (oi := { dst := some 18, op := Op.move (Operand.tmp 17), type := 4, pos := "ref.go:21", after := #[{ on := 6, ground := Ground.data }], guard := none }) (v := ?_) 7 rfl ?_ ?_
          rotate_left
          · (intro w hSw; (try dsimp only at hSw); first | (go_simp; done) | (go_simp; with_reducible rfl))
          try simp only [Act.put, List.setIfInBounds_toArray, List.set_cons_zero, List.set_cons_succ]
          refine wpAnyH_take (i := 8) (oi := { dst := some 19, op := Op.move (Operand.tmp 0), type := 27, pos := "ref.go:21", after := #[{ on := 7, ground := Ground.guard }], guard := some (7, true) }) (v := undef) rfl (by kernel_rfl) (by kernel_rfl) (by kernel_rfl) (fun _ _ _ h => h) (Or.inr ⟨by rfl, rfl⟩) (by assumption) ?_
          try simp only [Act.put, List.setIfInBounds_toArray, List.set_cons_zero, List.set_cons_succ]
          refine wpAnyH_take (i := 9) (oi := { dst := some 20, op := Op.nilCheck (Operand.tmp 19), type := 0, pos := "ref.go:21", after := #[{ on := 8, ground := Ground.data }, { on := 7, ground := Ground.guard }], guard := some (7, true) }) (v := undef) rfl (by kernel_rfl) (by kernel_rfl) (by kernel_rfl) (fun _ _ _ h => h) (Or.inr ⟨by rfl, rfl⟩) (by assumption) ?_
          try simp only [Act.put, List.setIfInBounds_toArray, List.set_cons_zero, List.set_cons_succ]
          refine wpAnyH_take (i := 10) (oi := { dst := some 21, op := Op.fieldAddr 29 (Operand.tmp 20) 0, type := 0, pos := "ref.go:21", after := #[{ on := 9, ground := Ground.data }, { on := 7, ground := Ground.guard }], guard := some (7, true) }) (v := undef) rfl (by kernel_rfl) (by kernel_rfl) (by kernel_rfl) (fun _ _ _ h => h) (Or.inr ⟨by rfl, rfl⟩) (by assumption) ?_
          try simp only [Act.put, List.setIfInBounds_toArray, List.set_cons_zero, List.set_cons_succ]
          refine wpAnyH_take (i := 11) (oi := { dst := some 22, op := Op.load 22 (Operand.tmp 21), type := 22, pos := "ref.go:21", after := #[{ on := 10, ground := Ground.data }, { on := 7, ground := Ground.guard }], guard := some (7, true) }) (v := undef) rfl (by kernel_rfl) (by kernel_rfl) (by kernel_rfl) (fun _ _ _ h => h) (Or.inr ⟨by rfl, rfl⟩) (by assumption) ?_
          try simp only [Act.put, List.setIfInBounds_toArray, List.set_cons_zero, List.set_cons_succ]
          refine wpAnyH_take (i := 12) (oi := { dst := some 23, op := Op.move (Operand.tmp 6), type := 3, pos := "ref.go:21", after := #[{ on := 7, ground := Ground.guard }], guard := some (7, true) }) (v := undef) rfl (by kernel_rfl) (by kernel_rfl) (by kernel_rfl) (fun _ _ _ h => h) (Or.inr ⟨by rfl, rfl⟩) (by assumption) ?_
          try simp only [Act.put, List.setIfInBounds_toArray, List.set_cons_zero, List.set_cons_succ]
          refine wpAnyH_take (i := 13) (oi := { dst := some 24, op := Op.indexAddr 22 (Operand.tmp 22) (Operand.tmp 23), type := 0, pos := "ref.go:21", after := #[{ on := 11, ground := Ground.data }, { on := 12, ground := Ground.data }, { on := 7, ground := Ground.guard }], guard := some (7, true) }) (v := undef) rfl (by kernel_rfl) (by kernel_rfl) (by kernel_rfl) (fun _ _ _ h => h) (Or.inr ⟨by rfl, rfl⟩) (by assumption) ?_
          try simp only [Act.put, List.setIfInBounds_toArray, List.set_cons_zero, List.set_cons_succ]
          refine wpAnyH_take (i := 14) (oi := { dst := some 25, op := Op.load 33 (Operand.tmp 24), type := 33, pos := "ref.go:21", after := #[{ on := 13, ground := Ground.data }, { on := 7, ground := Ground.guard }], guard := some (7, true) }) (v := undef) rfl (by kernel_rfl) (by kernel_rfl) (by kernel_rfl) (fun _ _ _ h => h) (Or.inr ⟨by rfl, rfl⟩) (by assumption) ?_
          try simp only [Act.put, List.setIfInBounds_toArray, List.set_cons_zero, List.set_cons_succ]
          refine wpAnyH_take (i := 15) (oi := { dst := some 26, op := Op.load 33 (Operand.tmp 3), type := 33, pos := "ref.go:21", after := #[{ on := 7, ground := Ground.guard }], guard := some (7, true) }) (v := undef) rfl (by kernel_rfl) (by kernel_rfl) (by kernel_rfl) (fun _ _ _ h => h) (Or.inr ⟨by rfl, rfl⟩) (by assumption) ?_
          try simp only [Act.put, List.setIfInBounds_toArray, List.set_cons_zero, List.set_cons_succ]
          refine wpAnyH_take (i := 16) (oi := { dst := some 27, op := Op.call { callee := Callee.value (Operand.func 29), args := #[Operand.tmp 25, Operand.tmp 26], argTypes := #[33, 33] }, type := 4, pos := "ref.go:21", after := #[{ on := 14, ground := Ground.data }, { on := 15, ground := Ground.data }, { on := 7, ground := Ground.chain }, { on := 7, ground := Ground.guard }], guard := some (7, true) }) (v := undef) rfl (by kernel_rfl) (by kernel_rfl) (by kernel_rfl) (fun _ _ _ h => h) (Or.inr ⟨by rfl, rfl⟩) (by assumption) ?_
          try simp only [Act.put, List.setIfInBounds_toArray, List.set_cons_zero, List.set_cons_succ]
          refine tk (oi := { dst := some 28, op := Op.pick (Operand.tmp 18) (Operand.tmp 27) (Operand.const (Value.bool false)), type := 4, pos := "ref.go:21", after := #[{ on := 7, ground := Ground.data }, { on := 16, ground := Ground.data }], guard := none }) (v := ?_) 17 rfl ?_ ?_
          rotate_left
          · (intro w hSw; (try dsimp only at hSw); first | (go_simp; done) | (go_simp; with_reducible rfl))
          try simp only [Act.put, List.setIfInBounds_toArray, List.set_cons_zero, List.set_cons_succ]
          refine wpAnyH_done (by kernel_rfl) ?_ _
          go_wp2_with (fail)
          go_quiet (fail)
          obtain ⟨zb, hzb⟩ : ∃ x, x = wr.drew.drewN nq := ⟨_, rfl⟩
          rw [← hzb]
          have HZB := Lib.hid (show Bel w1 zb by rw [hzb]; exact HW.out.drew.drewN nq)
          clear hzb hHeld d0
          go_wp2_with (fail)
          have HOWR := Lib.hid (HOWN.out.bel (HB1.out.trans HZB.out))
          have HS1 := Lib.hid (show ∀ x, Bel zb x → SrcAt entEl x (.slice (some ⟨g, 0, none⟩) k cap0) (C.take k) from fun x hx => by
            have := own_piece entOk (HOWR.out.bel hx) 0 k cap0 (by omega)
            simpa using this)
          have HPK : ∃ pk, (if cap0 = k then some (⟨g, 0, none⟩ : Addr) else some ⟨g, k * 4, none⟩) = some pk ∧ ∀ x, Bel zb x → SrcAt entEl x (.slice (some pk) (C.length - k) (cap0 - k)) (C.drop k) := by
            by_cases hck0 : cap0 = k
            · refine ⟨_, if_pos hck0, fun x hx => Or.inr ⟨_, _, by rw [List.length_drop], fun j u hj => ?_⟩⟩
              rw [List.drop_eq_nil_of_le (by omega)] at hj
              simp [El.all] at hj
            · refine ⟨_, if_neg hck0, fun x hx => ?_⟩
              have := own_piece entOk (HOWR.out.bel hx) k (C.length - k) (cap0 - k) (by omega)
              rw [List.take_of_length_le (by rw [List.length_drop]; omega)] at this
              exact this
          obtain ⟨pk, hpk, hps⟩ := HPK
          have HS2 := Lib.hid hps
          have hkc : k ≤ cap0 := by omega
          have HL1 := Lib.hid (show (C.take k).length ≤ 1000 by rw [List.length_take]; omega)
          have HL2 := Lib.hid (show (C.drop k).length ≤ 1000 by rw [List.length_drop]; omega)
          clear hps
          have HBR := Lib.hid (Bel.refl zb)
          have HS := Lib.hid (show ∀ y, Bel zb y → (y.cell? ⟨b, 0, none⟩ = some (.slice (some ⟨g, 0, none⟩) C.length cap0) ∧ y.cell? ⟨bx, 0, none⟩ = some (.string e.k) ∧ y.cell? ⟨bx, 1, none⟩ = some (.int .i64 e.q) ∧ y.cell? ⟨bx, 2, none⟩ = some (.bool e.d) ∧ y.cell? ⟨bx, 3, none⟩ = some (.string e.v) ∧ y.frozen? ⟨b, 0, none⟩ = false) from fun y hy => ⟨cl11 hy (cl11 HZB.out HC0.out), cl11 hy (cl11 HZB.out HX.out.1), cl11 hy (cl11 HZB.out HX.out.2.1), cl11 hy (cl11 HZB.out HX.out.2.2.1), cl11 hy (cl11 HZB.out HX.out.2.2.2), ((HZB.out.trans hy).frozen b 0 hlt1).trans HF0.out⟩)
          refine region_L 21 (S := fun y => y.cell? ⟨b, 0, none⟩ = some (.slice (some ⟨g, 0, none⟩) C.length cap0) ∧ y.cell? ⟨bx, 0, none⟩ = some (.string e.k) ∧ y.cell? ⟨bx, 1, none⟩ = some (.int .i64 e.q) ∧ y.cell? ⟨bx, 2, none⟩ = some (.bool e.d) ∧ y.cell? ⟨bx, 3, none⟩ = some (.string e.v) ∧ y.frozen? ⟨b, 0, none⟩ = false) (by kernel_rfl) (HS.out _ (Bel.refl zb).drew) (fun hHeld => ?_)
          refine AnyL.take (i := 0) (oi := { dst := some 64, op := Op.move (Operand.tmp 0), type := 27, pos := "ref.go:27", after := #[], guard := none }) (v := ?_) rfl (by decide) (by kernel_rfl) (by kernel_rfl) (by kernel_rfl) (by kernel_rfl) (fun _ _ _ h => h) (Or.inl ⟨by rfl, ?_⟩) (by assumption) ?_
          rotate_left
          · (intro w hSw; (try dsimp only at hSw); first | (go_simp; done) | (go_simp; with_reducible rfl))
          try simp only [Act.put, List.setIfInBounds_toArray, List.set_cons_zero, List.set_cons_succ]
          refine AnyL.take (i := 2) (oi := { dst := some 66, op := Op.move (Operand.tmp 0), type := 27, pos := "ref.go:27", after := #[], guard := none }) (v := ?_) rfl (by decide) (by kernel_rfl) (by kernel_rfl) (by kernel_rfl) (by kernel_rfl) (fun _ _ _ h => h) (Or.inl ⟨by rfl, ?_⟩) (by assumption) ?_
          rotate_left
          · (intro w hSw; (try dsimp only at hSw); first | (go_simp; done) | (go_simp; with_reducible rfl))
          try simp only [Act.put, List.setIfInBounds_toArray, List.set_cons_zero, List.set_cons_succ]
          refine AnyL.take (i := 3) (oi := { dst := some 67, op := Op.nilCheck (Operand.tmp 66), type := 0, pos := "ref.go:27", after := #[{ on := 2, ground := Ground.data }], guard := none }) (v := ?_) rfl (by decide) (by kernel_rfl) (by kernel_rfl) (by kernel_rfl) (by kernel_rfl) (fun _ _ _ h => h) (Or.inl ⟨by rfl, ?_⟩) (by assumption) ?_
          rotate_left
          · (intro w hSw; (try dsimp only at hSw); first | (go_simp; done) | (go_simp; with_reducible rfl))
          try simp only [Act.put, List.setIfInBounds_toArray, List.set_cons_zero, List.set_cons_succ]
          refine AnyL.take (i := 4) (oi := { dst := some 68, op := Op.fieldAddr 29 (Operand.tmp 67) 0, type := 0, pos := "ref.go:27", after := #[{ on := 3, ground := Ground.data }], guard := none }) (v := ?_) rfl (by decide) (by kernel_rfl) (by kernel_rfl) (by kernel_rfl) (by kernel_rfl) (fun _ _ _ h => h) (Or.inl ⟨by rfl, ?_⟩) (by assumption) ?_
          rotate_left
          · (intro w hSw; (try dsimp only at hSw); first | (go_simp; done) | (go_simp; with_reducible rfl))
          try simp only [Act.put, List.setIfInBounds_toArray, List.set_cons_zero, List.set_cons_succ]
          refine AnyL.take (i := 5) (oi := { dst := some 69, op := Op.load 22 (Operand.tmp 68), type := 22, pos := "ref.go:27", after := #[{ on := 4, ground := Ground.data }], guard := none }) (v := ?_) rfl (by decide) (by kernel_rfl) (by kernel_rfl) (by kernel_rfl) (by kernel_rfl) (fun _ _ _ h => h) (Or.inl ⟨by rfl, ?_⟩) (by assumption) ?_
          rotate_left
          · (intro w hSw; (try dsimp only at hSw); first | (go_simp; done) | (go_simp; with_reducible rfl))
          try simp only [Act.put, List.setIfInBounds_toArray, List.set_cons_zero, List.set_cons_succ]
          refine AnyL.take (i := 6) (oi := { dst := some 70, op := Op.move (Operand.tmp 6), type := 3, pos := "ref.go:27", after := #[], guard := none }) (v := ?_) rfl (by decide) (by kernel_rfl) (by kernel_rfl) (by kernel_rfl) (by kernel_rfl) (fun _ _ _ h => h) (Or.inl ⟨by rfl, ?_⟩) (by assumption) ?_
          rotate_left
          · (intro w hSw; (try dsimp only at hSw); first | (go_simp; done) | (go_simp; with_reducible rfl))
          try simp only [Act.put, List.setIfInBounds_toArray, List.set_cons_zero, List.set_cons_succ]
          refine AnyL.take (i := 7) (oi := { dst := some 71, op := Op.slice 22 (Operand.tmp 69) none (some (Operand.tmp 70)) none, type := 22, pos := "ref.go:27", after := #[{ on := 5, ground := Ground.data }, { on := 6, ground := Ground.data }], guard := none }) (v := ?_) rfl (by decide) (by kernel_rfl) (by kernel_rfl) (by kernel_rfl) (by kernel_rfl) (fun _ _ _ h => h) (Or.inl ⟨by rfl, ?_⟩) (by assumption) ?_
          rotate_left
          · (intro w hSw; (try dsimp only at hSw); first | (go_simp; done) | (go_simp; with_reducible rfl))
          try simp only [Act.put, List.setIfInBounds_toArray, List.set_cons_zero, List.set_cons_succ]
          refine AnyL.take (i := 9) (oi := { dst := some 73, op := Op.load 33 (Operand.tmp 3), type := 33, pos := "ref.go:27", after := #[], guard := none }) (v := ?_) rfl (by decide) (by kernel_rfl) (by kernel_rfl) (by kernel_rfl) (by kernel_rfl) (fun _ _ _ h => h) (Or.inl ⟨by rfl, ?_⟩) (by assumption) ?_
          rotate_left
          · (intro w hSw; (try dsimp only at hSw); first | (go_simp; done) | (go_simp; with_reducible rfl))
          try simp only [Act.put, List.setIfInBounds_toArray, List.set_cons_zero, List.set_cons_succ]
          refine AnyL.take (i := 12) (oi := { dst := some 76, op := Op.move (Operand.tmp 0), type := 27, pos := "ref.go:27", after := #[], guard := none }) (v := ?_) rfl (by decide) (by kernel_rfl) (by kernel_rfl) (by kernel_rfl) (by kernel_rfl) (fun _ _ _ h => h) (Or.inl ⟨by rfl, ?_⟩) (by assumption) ?_
          rotate_left
          · (intro w hSw; (try dsimp only at hSw); first | (go_simp; done) | (go_simp; with_reducible rfl))
          try simp only [Act.put, List.setIfInBounds_toArray, List.set_cons_zero, List.set_cons_succ]
          refine AnyL.take (i := 13) (oi := { dst := some 77, op := Op.nilCheck (Operand.tmp 76), type := 0, pos := "ref.go:27", after := #[{ on := 12, ground := Ground.data }], guard := none }) (v := ?_) rfl (by decide) (by kernel_rfl) (by kernel_rfl) (by kernel_rfl) (by kernel_rfl) (fun _ _ _ h => h) (Or.inl ⟨by rfl, ?_⟩) (by assumption) ?_
          rotate_left
          · (intro w hSw; (try dsimp only at hSw); first | (go_simp; done) | (go_simp; with_reducible rfl))
          try simp only [Act.put, List.setIfInBounds_toArray, List.set_cons_zero, List.set_cons_succ]
          refine AnyL.take (i := 14) (oi := { dst := some 78, op := Op.fieldAddr 29 (Operand.tmp 77) 0, type := 0, pos := "ref.go:27", after := #[{ on := 13, ground := Ground.data }], guard := none }) (v := ?_) rfl (by decide) (by kernel_rfl) (by kernel_rfl) (by kernel_rfl) (by kernel_rfl) (fun _ _ _ h => h) (Or.inl ⟨by rfl, ?_⟩) (by assumption) ?_
          rotate_left
          · (intro w hSw; (try dsimp only at hSw); first | (go_simp; done) | (go_simp; with_reducible rfl))
          try simp only [Act.put, List.setIfInBounds_toArray, List.set_cons_zero, List.set_cons_succ]
          refine AnyL.take (i := 15) (oi := { dst := some 79, op := Op.load 22 (Operand.tmp 78), type := 22, pos := "ref.go:27", after := #[{ on := 14, ground := Ground.data }], guard := none }) (v := ?_) rfl (by decide) (by kernel_rfl) (by kernel_rfl) (by kernel_rfl) (by kernel_rfl) (fun _ _ _ h => h) (Or.inl ⟨by rfl, ?_⟩) (by assumption) ?_
          rotate_left
          · (intro w hSw; (try dsimp only at hSw); first | (go_simp; done) | (go_simp; with_reducible rfl))
          try simp only [Act.put, List.setIfInBounds_toArray, List.set_cons_zero, List.set_cons_succ]
          refine AnyL.take (i := 16) (oi := { dst := some 80, op := Op.move (Operand.tmp 6), type := 3, pos := "ref.go:27", after := #[], guard := none }) (v := ?_) rfl (by decide) (by kernel_rfl) (by kernel_rfl) (by kernel_rfl) (by kernel_rfl) (fun _ _ _ h => h) (Or.inl ⟨by rfl, ?_⟩) (by assumption) ?_
          rotate_left
          · (intro w hSw; (try dsimp only at hSw); first | (go_simp; done) | (go_simp; with_reducible rfl))
          try simp only [Act.put, List.setIfInBounds_toArray, List.set_cons_zero, List.set_cons_succ]
          refine AnyL.take (i := 17) (oi := { dst := some 81, op := Op.slice 22 (Operand.tmp 79) (some (Operand.tmp 80)) none none, type := 22, pos := "ref.go:27", after := #[{ on := 15, ground := Ground.data }, { on := 16, ground := Ground.data }], guard := none }) (v := ?_) rfl (by decide) (by kernel_rfl) (by kernel_rfl) (by kernel_rfl) (by kernel_rfl) (fun _ _ _ h => h) (Or.inl ⟨by rfl, ?_⟩) (by assumption) ?_
          rotate_left
          · (intro w hSw; (try dsimp only at hSw); first | (go_simp; done) | (go_simp; with_reducible rfl))
          try simp only [Act.put, List.setIfInBounds_toArray, List.set_cons_zero, List.set_cons_succ]
          clear hHeld
          refine AnyL.ready (rs := [1, 10]) (by kernel_rfl) (by simp) ?_
          refine (AllL.cons (o := { dst := some 65, op := Op.buildSlice 22 0 #[], type := 22, pos := "ref.go:27", after := #[], guard := none }) rfl (fun K hK => ?_) (AllL.cons (o := { dst := some 74, op := Op.buildSlice 22 1 #[(0, Operand.tmp 73)], type := 22, pos := "ref.go:27", after := #[{ on := 9, ground := Ground.data }], guard := none }) rfl (fun K hK => ?_) AllL.nil))
          · go_simp
            have hbq : Bel zb (zb.alloc (.cells #[] 33)).drew := ((Bel.refl zb).alloc _).drew
            refine hK.out _ _ (fun _ => HS.out _ (HBR.out.trans hbq)) ?_
            clear hbq
            clear hK K
            try simp only [Act.put, List.setIfInBounds_toArray, List.set_cons_zero, List.set_cons_succ]
            obtain ⟨z1, hz1⟩ : ∃ x, x = (zb.alloc (.cells #[] 33)).drew := ⟨_, rfl⟩
            have HLE := Lib.hid (show z1.heap[zb.heap.size]? = some (.cells #[] 33 (0, 0)) by rw [hz1]; exact heap_alloc_new zb (.cells #[] 33))
            have hltE : zb.heap.size < z1.heap.size := (Array.getElem?_eq_some_iff.1 HLE.out).1
            have hbz1 : Bel zb z1 := by rw [hz1]; exact ((Bel.refl zb).alloc _).drew
            have HBz1 := Lib.hid (HBR.out.trans hbz1)
            rw [← hz1]
            clear hz1
            have HOE := Lib.hid (ownG_empty (E := entEl) (n := zb.heap.size) HLE.out HBR.out.size)
            refine AnyL.ready (rs := [8, 10]) (by kernel_rfl) (by simp) ?_
            refine (AllL.cons (o := { dst := some 72, op := Op.call { callee := Callee.builtin Builtin.append, args := #[Operand.tmp 65, Operand.tmp 71], argTypes := #[22, 22] }, type := 22, pos := "ref.go:27", after := #[{ on := 1, ground := Ground.data }, { on := 7, ground := Ground.data }], guard := none }) rfl (fun K hK => ?_) (AllL.cons (o := { dst := some 74, op := Op.buildSlice 22 1 #[(0, Operand.tmp 73)], type := 22, pos := "ref.go:27", after := #[{ on := 9, ground := Ground.data }], guard := none }) rfl (fun K hK => ?_) AllL.nil))
            · refine step_append_all entOk rfl (.tmp 65) (.tmp 71) rfl rfl HOE.out (C.take k) rfl (HS1.out z1 HBz1.out) (lim1a HL1.out HL2.out) (lim1b HL1.out HL2.out) HBz1.out.size ?_
              intro vz2 z2 hoz2 hkz2 _
              have HBz2 := Lib.hid (show Bel zb z2 from HBz1.out.trans_below (hkz2.own HBz1.out.size (fun kk hkk => (HOE.out.lt kk hkk).1)))
              rw [List.nil_append] at hoz2
              have hkkz2 : Keep (Value.ownBlock (.slice (some ⟨zb.heap.size, 0, none⟩) 0 0)).toList z1 z2 := hkz2
              have HO2 := Lib.hid hoz2
              clear hoz2 hkz2 hkkz2
              refine hK.out _ _ (fun _ => HS.out _ HBz2.out) ?_
              clear hK K
              try simp only [Act.put, List.setIfInBounds_toArray, List.set_cons_zero, List.set_cons_succ]
              refine AnyL.ready (rs := [10]) (by kernel_rfl) (by simp) ?_
              refine (AllL.cons (o := { dst := some 74, op := Op.buildSlice 22 1 #[(0, Operand.tmp 73)], type := 22, pos := "ref.go:27", after := #[{ on := 9, ground := Ground.data }], guard := none }) rfl (fun K hK => ?_) AllL.nil)
              go_simp
              have hbq : Bel z2 (z2.alloc (.cells #[.string e.k, .int .i64 e.q, .bool e.d, .string e.v] 33)) := ((Bel.refl z2).alloc _)
              refine hK.out _ _ (fun _ => HS.out _ (HBz2.out.trans hbq)) ?_
              clear hbq
              clear hK K
              try simp only [Act.put, List.setIfInBounds_toArray, List.set_cons_zero, List.set_cons_succ]
              obtain ⟨z3, hz3⟩ : ∃ x, x = (z2.alloc (.cells #[.string e.k, .int .i64 e.q, .bool e.d, .string e.v] 33)) := ⟨_, rfl⟩
              have HLL := Lib.hid (show z3.heap[z2.heap.size]? = some (.cells #[.string e.k, .int .i64 e.q, .bool e.d, .string e.v] 33 (0, 0)) by rw [hz3]; exact heap_alloc_new z2 (.cells #[.string e.k, .int .i64 e.q, .bool e.d, .string e.v] 33))
              have hltL : z2.heap.size < z3.heap.size := (Array.getElem?_eq_some_iff.1 HLL.out).1
              have hbz3 : Bel z2 z3 := by rw [hz3]; exact ((Bel.refl z2).alloc _)
              have HBz3 := Lib.hid (HBz2.out.trans hbz3)
              rw [← hz3]
              clear hz3
              have HO2b := Lib.hid (HO2.out.bel hbz3)
              refine AnyL.ready (rs := [11]) (by kernel_rfl) (by simp) ?_
              refine (AllL.cons (o := { dst := some 75, op := Op.call { callee := Callee.builtin Builtin.append, args := #[Operand.tmp 72, Operand.tmp 74], argTypes := #[22, 22] }, type := 22, pos := "ref.go:27", after := #[{ on := 8, ground := Ground.data }, { on := 10, ground := Ground.data }, { on := 8, ground := Ground.chain }], guard := none }) rfl (fun K hK => ?_) AllL.nil)
              refine step_append_all entOk rfl (.tmp 72) (.tmp 74) rfl rfl HO2b.out ([e]) rfl (src_at [e] HLL.out rfl rfl) (lim2a HL1.out HL2.out) (lim2b HL1.out HL2.out) HBz3.out.size ?_
              intro vz4 z4 hoz4 hkz4 _
              have HBz4 := Lib.hid (show Bel zb z4 from HBz3.out.trans_below (hkz4.own HBz3.out.size (fun kk hkk => (HO2b.out.lt kk hkk).1)))
              have HO3 := Lib.hid hoz4
              clear hoz4 hkz4
              refine hK.out _ _ (fun _ => HS.out _ HBz4.out) ?_
              clear hK K
              try simp only [Act.put, List.setIfInBounds_toArray, List.set_cons_zero, List.set_cons_succ]
              refine AnyL.ready (rs := [18]) (by kernel_rfl) (by simp) ?_
              refine (AllL.cons (o := { dst := some 82, op := Op.call { callee := Callee.builtin Builtin.append, args := #[Operand.tmp 75, Operand.tmp 81], argTypes := #[22, 22] }, type := 22, pos := "ref.go:27", after := #[{ on := 11, ground := Ground.data }, { on := 17, ground := Ground.data }, { on := 11, ground := Ground.chain }], guard := none }) rfl (fun K hK => ?_) AllL.nil)
              refine step_append_all entOk rfl (.tmp 75) (.tmp 81) rfl rfl HO3.out (C.drop k) rfl (HS2.out z4 HBz4.out) (lim3a HL1.out HL2.out) (lim3b HL1.out HL2.out) HBz4.out.size ?_
              intro vz5 z5 hoz5 hkz5 _
              have HBz5 := Lib.hid (show Bel zb z5 from HBz4.out.trans_below (hkz5.own HBz4.out.size (fun kk hkk => (HO3.out.lt kk hkk).1)))
              have HO4 := Lib.hid hoz5
              clear hoz5 hkz5
              refine hK.out _ _ (fun _ => HS.out _ HBz5.out) ?_
              clear hK K
              try simp only [Act.put, List.setIfInBounds_toArray, List.set_cons_zero, List.set_cons_succ]
              have HOF := Lib.hid (show OwnG entEl zb.heap.size z5 vz5 (stepS C e) by rw [HADD.out]; exact HO4.out)
              obtain ⟨pf, cf, hvf⟩ := ownG_len HOF.out
              rw [hvf] at HOF ⊢
              clear hvf
              generalize (stepS C e).length = nf at *
              refine AnyL.ready (rs := [19]) (by kernel_rfl) (by simp) ?_
              refine (AllL.cons (o := { dst := some 83, op := Op.nilCheck (Operand.tmp 64), type := 0, pos := "ref.go:27", after := #[{ on := 0, ground := Ground.data }, { on := 0, ground := Ground.phase }, { on := 1, ground := Ground.phase }, { on := 2, ground := Ground.phase }, { on := 3, ground := Ground.phase }, { on := 4, ground := Ground.phase }, { on := 5, ground := Ground.phase }, { on := 6, ground := Ground.phase }, { on := 7, ground := Ground.phase }, { on := 8, ground := Ground.phase }, { on := 9, ground := Ground.phase }, { on := 10, ground := Ground.phase }, { on := 11, ground := Ground.phase }, { on := 12, ground := Ground.phase }, { on := 13, ground := Ground.phase }, { on := 14, ground := Ground.phase }, { on := 15, ground := Ground.phase }, { on := 16, ground := Ground.phase }, { on := 17, ground := Ground.phase }, { on := 18, ground := Ground.phase }], guard := none }) rfl (fun K hK => ?_) AllL.nil)
              go_simp
              refine hK.out _ _ (fun _ => HS.out _ HBz5.out) ?_
              clear hK K
              try simp only [Act.put, List.setIfInBounds_toArray, List.set_cons_zero, List.set_cons_succ]
              refine AnyL.ready (rs := [20]) (by kernel_rfl) (by simp) ?_
              refine (AllL.cons (o := { dst := some 84, op := Op.fieldAddr 29 (Operand.tmp 83) 0, type := 0, pos := "ref.go:27", after := #[{ on := 19, ground := Ground.data }, { on := 0, ground := Ground.phase }, { on := 1, ground := Ground.phase }, { on := 2, ground := Ground.phase }, { on := 3, ground := Ground.phase }, { on := 4, ground := Ground.phase }, { on := 5, ground := Ground.phase }, { on := 6, ground := Ground.phase }, { on := 7, ground := Ground.phase }, { on := 8, ground := Ground.phase }, { on := 9, ground := Ground.phase }, { on := 10, ground := Ground.phase }, { on := 11, ground := Ground.phase }, { on := 12, ground := Ground.phase }, { on := 13, ground := Ground.phase }, { on := 14, ground := Ground.phase }, { on := 15, ground := Ground.phase }, { on := 16, ground := Ground.phase }, { on := 17, ground := Ground.phase }, { on := 18, ground := Ground.phase }], guard := none }) rfl (fun K hK => ?_) AllL.nil)
              go_simp
              refine hK.out _ _ (fun _ => HS.out _ HBz5.out) ?_
              clear hK K
              try simp only [Act.put, List.setIfInBounds_toArray, List.set_cons_zero, List.set_cons_succ]
              refine AnyL.ready (rs := [21]) (by kernel_rfl) (by simp) ?_
              refine (AllL.cons (o := { dst := none, op := Op.store 22 (Operand.tmp 84) (Operand.tmp 82), type := 0, pos := "ref.go:27", after := #[{ on := 20, ground := Ground.data }, { on := 18, ground := Ground.data }, { on := 18, ground := Ground.chain }, { on := 0, ground := Ground.phase }, { on := 1, ground := Ground.phase }, { on := 2, ground := Ground.phase }, { on := 3, ground := Ground.phase }, { on := 4, ground := Ground.phase }, { on := 5, ground := Ground.phase }, { on := 6, ground := Ground.phase }, { on := 7, ground := Ground.phase }, { on := 8, ground := Ground.phase }, { on := 9, ground := Ground.phase }, { on := 10, ground := Ground.phase }, { on := 11, ground := Ground.phase }, { on := 12, ground := Ground.phase }, { on := 13, ground := Ground.phase }, { on := 14, ground := Ground.phase }, { on := 15, ground := Ground.phase }, { on := 16, ground := Ground.phase }, { on := 17, ground := Ground.phase }, { on := 18, ground := Ground.phase }], guard := none }) rfl (fun K hK => ?_) AllL.nil)
              obtain ⟨s0, -, -, -, -, s5⟩ := HS.out _ HBz5.out
              go_simp
              refine hK.out _ _ (fun h => absurd rfl h) ?_
              clear hK K s0 s5
              try simp only [Act.put, List.setIfInBounds_toArray, List.set_cons_zero, List.set_cons_succ]
              refine AnyL.done (by kernel_rfl) ?_ _
              go_wp2_with (fail)
              go_ret
              have hbw : Bel w z5 := HB1.out.trans (HZB.out.trans HBz5.out)
              exact ⟨_, (by rw [HERR.out]; rfl), rm_set ((Below.block hbw b (by rw [HBX.out]; exact hlt)).trans HBLK.out) (HOF.out.low (Nat.zero_le _)), rm_new HOF.out (HB1.out.trans HZB.out), (Keep.of_bel hbw _).setCell (Or.inl (by simp)) _⟩
            · go_simp
              have hbq : Bel z1 (z1.alloc (.cells #[.string e.k, .int .i64 e.q, .bool e.d, .string e.v] 33)) := ((Bel.refl z1).alloc _)
              refine hK.out _ _ (fun _ => HS.out _ (HBz1.out.trans hbq)) ?_
              clear hbq
              clear hK K
              try simp only [Act.put, List.setIfInBounds_toArray, List.set_cons_zero, List.set_cons_succ]
              obtain ⟨z2, hz2⟩ : ∃ x, x = (z1.alloc (.cells #[.string e.k, .int .i64 e.q, .bool e.d, .string e.v] 33)) := ⟨_, rfl⟩
              have HLL := Lib.hid (show z2.heap[z1.heap.size]? = some (.cells #[.string e.k, .int .i64 e.q, .bool e.d, .string e.v] 33 (0, 0)) by rw [hz2]; exact heap_alloc_new z1 (.cells #[.string e.k, .int .i64 e.q, .bool e.d, .string e.v] 33))
              have hltL : z1.heap.size < z2.heap.size := (Array.getElem?_eq_some_iff.1 HLL.out).1
              have hbz2 : Bel z1 z2 := by rw [hz2]; exact ((Bel.refl z1).alloc _)
              have HBz2 := Lib.hid (HBz1.out.trans hbz2)
              rw [← hz2]
              clear hz2
              have HOE2 := Lib.hid (HOE.out.bel hbz2)
              refine AnyL.ready (rs := [8]) (by kernel_rfl) (by simp) ?_
              refine (AllL.cons (o := { dst := some 72, op := Op.call { callee := Callee.builtin Builtin.append, args := #[Operand.tmp 65, Operand.tmp 71], argTypes := #[22, 22] }, type := 22, pos := "ref.go:27", after := #[{ on := 1, ground := Ground.data }, { on := 7, ground := Ground.data }], guard := none }) rfl (fun K hK => ?_) AllL.nil)
              refine step_append_all entOk rfl (.tmp 65) (.tmp 71) rfl rfl HOE2.out (C.take k) rfl (HS1.out z2 HBz2.out) (lim1a HL1.out HL2.out) (lim1b HL1.out HL2.out) HBz2.out.size ?_
              intro vz3 z3 hoz3 hkz3 _
              have HBz3 := Lib.hid (show Bel zb z3 from HBz2.out.trans_below (hkz3.own HBz2.out.size (fun kk hkk => (HOE2.out.lt kk hkk).1)))
              rw [List.nil_append] at hoz3
              have hkkz3 : Keep (Value.ownBlock (.slice (some ⟨zb.heap.size, 0, none⟩) 0 0)).toList z2 z3 := hkz3
              have HLL3 := Lib.hid (hkkz3.at HLL.out (fun hm => by rw [Option.mem_toList] at hm; simp only [Value.ownBlock, Option.some.injEq] at hm; omega))
              have HO2 := Lib.hid hoz3
              clear hoz3 hkz3 hkkz3
              refine hK.out _ _ (fun _ => HS.out _ HBz3.out) ?_
              clear hK K
              try simp only [Act.put, List.setIfInBounds_toArray, List.set_cons_zero, List.set_cons_succ]
              refine AnyL.ready (rs := [11]) (by kernel_rfl) (by simp) ?_
              refine (AllL.cons (o := { dst := some 75, op := Op.call { callee := Callee.builtin Builtin.append, args := #[Operand.tmp 72, Operand.tmp 74], argTypes := #[22, 22] }, type := 22, pos := "ref.go:27", after := #[{ on := 8, ground := Ground.data }, { on := 10, ground := Ground.data }, { on := 8, ground := Ground.chain }], guard := none }) rfl (fun K hK => ?_) AllL.nil)
              refine step_append_all entOk rfl (.tmp 72) (.tmp 74) rfl rfl HO2.out ([e]) rfl (src_at [e] HLL3.out rfl rfl) (lim2a HL1.out HL2.out) (lim2b HL1.out HL2.out) HBz3.out.size ?_
              intro vz4 z4 hoz4 hkz4 _
              have HBz4 := Lib.hid (show Bel zb z4 from HBz3.out.trans_below (hkz4.own HBz3.out.size (fun kk hkk => (HO2.out.lt kk hkk).1)))
              have HO3 := Lib.hid hoz4
              clear hoz4 hkz4
              refine hK.out _ _ (fun _ => HS.out _ HBz4.out) ?_
              clear hK K
              try simp only [Act.put, List.setIfInBounds_toArray, List.set_cons_zero, List.set_cons_succ]
              refine AnyL.ready (rs := [18]) (by kernel_rfl) (by simp) ?_
              refine (AllL.cons (o := { dst := some 82, op := Op.call { callee := Callee.builtin Builtin.append, args := #[Operand.tmp 75, Operand.tmp 81], argTypes := #[22, 22] }, type := 22, pos := "ref.go:27", after := #[{ on := 11, ground := Ground.data }, { on := 17, ground := Ground.data }, { on := 11, ground := Ground.chain }], guard := none }) rfl (fun K hK => ?_) AllL.nil)
              refine step_append_all entOk rfl (.tmp 75) (.tmp 81) rfl rfl HO3.out (C.drop k) rfl (HS2.out z4 HBz4.out) (lim3a HL1.out HL2.out) (lim3b HL1.out HL2.out) HBz4.out.size ?_
              intro vz5 z5 hoz5 hkz5 _
              have HBz5 := Lib.hid (show Bel zb z5 from HBz4.out.trans_below (hkz5.own HBz4.out.size (fun kk hkk => (HO3.out.lt kk hkk).1)))
              have HO4 := Lib.hid hoz5
              clear hoz5 hkz5
              refine hK.out _ _ (fun _ => HS.out _ HBz5.out) ?_
              clear hK K
              try simp only [Act.put, List.setIfInBounds_toArray, List.set_cons_zero, List.set_cons_succ]
              have HOF := Lib.hid (show OwnG entEl zb.heap.size z5 vz5 (stepS C e) by rw [HADD.out]; exact HO4.out)
              obtain ⟨pf, cf, hvf⟩ := ownG_len HOF.out
              rw [hvf] at HOF ⊢
              clear hvf
              generalize (stepS C e).length = nf at *
              refine AnyL.ready (rs := [19]) (by kernel_rfl) (by simp) ?_
              refine (AllL.cons (o := { dst := some 83, op := Op.nilCheck (Operand.tmp 64), type := 0, pos := "ref.go:27", after := #[{ on := 0, ground := Ground.data }, { on := 0, ground := Ground.phase }, { on := 1, ground := Ground.phase }, { on := 2, ground := Ground.phase }, { on := 3, ground := Ground.phase }, { on := 4, ground := Ground.phase }, { on := 5, ground := Ground.phase }, { on := 6, ground := Ground.phase }, { on := 7, ground := Ground.phase }, { on := 8, ground := Ground.phase }, { on := 9, ground := Ground.phase }, { on := 10, ground := Ground.phase }, { on := 11, ground := Ground.phase }, { on := 12, ground := Ground.phase }, { on := 13, ground := Ground.phase }, { on := 14, ground := Ground.phase }, { on := 15, ground := Ground.phase }, { on := 16, ground := Ground.phase }, { on := 17, ground := Ground.phase }, { on := 18, ground := Ground.phase }], guard := none }) rfl (fun K hK => ?_) AllL.nil)
              go_simp
              refine hK.out _ _ (fun _ => HS.out _ HBz5.out) ?_
              clear hK K
              try simp only [Act.put, List.setIfInBounds_toArray, List.set_cons_zero, List.set_cons_succ]
              refine AnyL.ready (rs := [20]) (by kernel_rfl) (by simp) ?_
              refine (AllL.cons (o := { dst := some 84, op := Op.fieldAddr 29 (Operand.tmp 83) 0, type := 0, pos := "ref.go:27", after := #[{ on := 19, ground := Ground.data }, { on := 0, ground := Ground.phase }, { on := 1, ground := Ground.phase }, { on := 2, ground := Ground.phase }, { on := 3, ground := Ground.phase }, { on := 4, ground := Ground.phase }, { on := 5, ground := Ground.phase }, { on := 6, ground := Ground.phase }, { on := 7, ground := Ground.phase }, { on := 8, ground := Ground.phase }, { on := 9, ground := Ground.phase }, { on := 10, ground := Ground.phase }, { on := 11, ground := Ground.phase }, { on := 12, ground := Ground.phase }, { on := 13, ground := Ground.phase }, { on := 14, ground := Ground.phase }, { on := 15, ground := Ground.phase }, { on := 16, ground := Ground.phase }, { on := 17, ground := Ground.phase }, { on := 18, ground := Ground.phase }], guard := none }) rfl (fun K hK => ?_) AllL.nil)
              go_simp
              refine hK.out _ _ (fun _ => HS.out _ HBz5.out) ?_
              clear hK K
              try simp only [Act.put, List.setIfInBounds_toArray, List.set_cons_zero, List.set_cons_succ]
              refine AnyL.ready (rs := [21]) (by kernel_rfl) (by simp) ?_
              refine (AllL.cons (o := { dst := none, op := Op.store 22 (Operand.tmp 84) (Operand.tmp 82), type := 0, pos := "ref.go:27", after := #[{ on := 20, ground := Ground.data }, { on := 18, ground := Ground.data }, { on := 18, ground := Ground.chain }, { on := 0, ground := Ground.phase }, { on := 1, ground := Ground.phase }, { on := 2, ground := Ground.phase }, { on := 3, ground := Ground.phase }, { on := 4, ground := Ground.phase }, { on := 5, ground := Ground.phase }, { on := 6, ground := Ground.phase }, { on := 7, ground := Ground.phase }, { on := 8, ground := Ground.phase }, { on := 9, ground := Ground.phase }, { on := 10, ground := Ground.phase }, { on := 11, ground := Ground.phase }, { on := 12, ground := Ground.phase }, { on := 13, ground := Ground.phase }, { on := 14, ground := Ground.phase }, { on := 15, ground := Ground.phase }, { on := 16, ground := Ground.phase }, { on := 17, ground := Ground.phase }, { on := 18, ground := Ground.phase }], guard := none }) rfl (fun K hK => ?_) AllL.nil)
              obtain ⟨s0, -, -, -, -, s5⟩ := HS.out _ HBz5.out
              go_simp
              refine hK.out _ _ (fun h => absurd rfl h) ?_
              clear hK K s0 s5
              try simp only [Act.put, List.setIfInBounds_toArray, List.set_cons_zero, List.set_cons_succ]
              refine AnyL.done (by kernel_rfl) ?_ _
              go_wp2_with (fail)
              go_ret
              have hbw : Bel w z5 := HB1.out.trans (HZB.out.trans HBz5.out)
              exact ⟨_, (by rw [HERR.out]; rfl), rm_set ((Below.block hbw b (by rw [HBX.out]; exact hlt)).trans HBLK.out) (HOF.out.low (Nat.zero_le _)), rm_new HOF.out (HB1.out.trans HZB.out), (Keep.of_bel hbw _).setCell (Or.inl (by simp)) _⟩
          · go_simp
            have hbq : Bel zb (zb.alloc (.cells #[.string e.k, .int .i64 e.q, .bool e.d, .string e.v] 33)).drew := ((Bel.refl zb).alloc _).drew
            refine hK.out _ _ (fun _ => HS.out _ (HBR.out.trans hbq)) ?_
            clear hbq
            clear hK K
            try simp only [Act.put, List.setIfInBounds_toArray, List.set_cons_zero, List.set_cons_succ]
            obtain ⟨z1, hz1⟩ : ∃ x, x = (zb.alloc (.cells #[.string e.k, .int .i64 e.q, .bool e.d, .string e.v] 33)).drew := ⟨_, rfl⟩
            have HLL := Lib.hid (show z1.heap[zb.heap.size]? = some (.cells #[.string e.k, .int .i64 e.q, .bool e.d, .string e.v] 33 (0, 0)) by rw [hz1]; exact heap_alloc_new zb (.cells #[.string e.k, .int .i64 e.q, .bool e.d, .string e.v] 33))
            have hltL : zb.heap.size < z1.heap.size := (Array.getElem?_eq_some_iff.1 HLL.out).1
            have hbz1 : Bel zb z1 := by rw [hz1]; exact ((Bel.refl zb).alloc _).drew
            have HBz1 := Lib.hid (HBR.out.trans hbz1)
            rw [← hz1]
            clear hz1
            refine AnyL.ready (rs := [1]) (by kernel_rfl) (by simp) ?_
            refine (AllL.cons (o := { dst := some 65, op := Op.buildSlice 22 0 #[], type := 22, pos := "ref.go:27", after := #[], guard := none }) rfl (fun K hK => ?_) AllL.nil)
            go_simp
            have hbq : Bel z1 (z1.alloc (.cells #[] 33)) := ((Bel.refl z1).alloc _)
            refine hK.out _ _ (fun _ => HS.out _ (HBz1.out.trans hbq)) ?_
            clear hbq
            clear hK K
            try simp only [Act.put, List.setIfInBounds_toArray, List.set_cons_zero, List.set_cons_succ]
            obtain ⟨z2, hz2⟩ : ∃ x, x = (z1.alloc (.cells #[] 33)) := ⟨_, rfl⟩
            have HLE := Lib.hid (show z2.heap[z1.heap.size]? = some (.cells #[] 33 (0, 0)) by rw [hz2]; exact heap_alloc_new z1 (.cells #[] 33))
            have hltE : z1.heap.size < z2.heap.size := (Array.getElem?_eq_some_iff.1 HLE.out).1
            have hbz2 : Bel z1 z2 := by rw [hz2]; exact ((Bel.refl z1).alloc _)
            have HBz2 := Lib.hid (HBz1.out.trans hbz2)
            rw [← hz2]
            clear hz2
            have HOE := Lib.hid (ownG_empty (E := entEl) (n := zb.heap.size) HLE.out HBz1.out.size)
            have HLL2 := Lib.hid ((Below.block hbz2 zb.heap.size (by omega)).trans HLL.out)
            refine AnyL.ready (rs := [8]) (by kernel_rfl) (by simp) ?_
            refine (AllL.cons (o := { dst := some 72, op := Op.call { callee := Callee.builtin Builtin.append, args := #[Operand.tmp 65, Operand.tmp 71], argTypes := #[22, 22] }, type := 22, pos := "ref.go:27", after := #[{ on := 1, ground := Ground.data }, { on := 7, ground := Ground.data }], guard := none }) rfl (fun K hK => ?_) AllL.nil)
            refine step_append_all entOk rfl (.tmp 65) (.tmp 71) rfl rfl HOE.out (C.take k) rfl (HS1.out z2 HBz2.out) (lim1a HL1.out HL2.out) (lim1b HL1.out HL2.out) HBz2.out.size ?_
            intro vz3 z3 hoz3 hkz3 _
            have HBz3 := Lib.hid (show Bel zb z3 from HBz2.out.trans_below (hkz3.own HBz2.out.size (fun kk hkk => (HOE.out.lt kk hkk).1)))
            rw [List.nil_append] at hoz3
            have hkkz3 : Keep (Value.ownBlock (.slice (some ⟨z1.heap.size, 0, none⟩) 0 0)).toList z2 z3 := hkz3
            have HLL3 := Lib.hid (hkkz3.at HLL2.out (fun hm => by rw [Option.mem_toList] at hm; simp only [Value.ownBlock, Option.some.injEq] at hm; omega))
            have HO2 := Lib.hid hoz3
            clear hoz3 hkz3 hkkz3
            refine hK.out _ _ (fun _ => HS.out _ HBz3.out) ?_
            clear hK K
            try simp only [Act.put, List.setIfInBounds_toArray, List.set_cons_zero, List.set_cons_succ]
            refine AnyL.ready (rs := [11]) (by kernel_rfl) (by simp) ?_
            refine (AllL.cons (o := { dst := some 75, op := Op.call { callee := Callee.builtin Builtin.append, args := #[Operand.tmp 72, Operand.tmp 74], argTypes := #[22, 22] }, type := 22, pos := "ref.go:27", after := #[{ on := 8, ground := Ground.data }, { on := 10, ground := Ground.data }, { on := 8, ground := Ground.chain }], guard := none }) rfl (fun K hK => ?_) AllL.nil)
            refine step_append_all entOk rfl (.tmp 72) (.tmp 74) rfl rfl HO2.out ([e]) rfl (src_at [e] HLL3.out rfl rfl) (lim2a HL1.out HL2.out) (lim2b HL1.out HL2.out) HBz3.out.size ?_
            intro vz4 z4 hoz4 hkz4 _
            have HBz4 := Lib.hid (show Bel zb z4 from HBz3.out.trans_below (hkz4.own HBz3.out.size (fun kk hkk => (HO2.out.lt kk hkk).1)))
            have HO3 := Lib.hid hoz4
            clear hoz4 hkz4
            refine hK.out _ _ (fun _ => HS.out _ HBz4.out) ?_
            clear hK K
            try simp only [Act.put, List.setIfInBounds_toArray, List.set_cons_zero, List.set_cons_succ]
            refine AnyL.ready (rs := [18]) (by kernel_rfl) (by simp) ?_
            refine (AllL.cons (o := { dst := some 82, op := Op.call { callee := Callee.builtin Builtin.append, args := #[Operand.tmp 75, Operand.tmp 81], argTypes := #[22, 22] }, type := 22, pos := "ref.go:27", after := #[{ on := 11, ground := Ground.data }, { on := 17, ground := Ground.data }, { on := 11, ground := Ground.chain }], guard := none }) rfl (fun K hK => ?_) AllL.nil)
            refine step_append_all entOk rfl (.tmp 75) (.tmp 81) rfl rfl HO3.out (C.drop k) rfl (HS2.out z4 HBz4.out) (lim3a HL1.out HL2.out) (lim3b HL1.out HL2.out) HBz4.out.size ?_
            intro vz5 z5 hoz5 hkz5 _
            have HBz5 := Lib.hid (show Bel zb z5 from HBz4.out.trans_below (hkz5.own HBz4.out.size (fun kk hkk => (HO3.out.lt kk hkk).1)))
            have HO4 := Lib.hid hoz5
            clear hoz5 hkz5
            refine hK.out _ _ (fun _ => HS.out _ HBz5.out) ?_
            clear hK K
            try simp only [Act.put, List.setIfInBounds_toArray, List.set_cons_zero, List.set_cons_succ]
            have HOF := Lib.hid (show OwnG entEl zb.heap.size z5 vz5 (stepS C e) by rw [HADD.out]; exact HO4.out)
            obtain ⟨pf, cf, hvf⟩ := ownG_len HOF.out
            rw [hvf] at HOF ⊢
            clear hvf
            generalize (stepS C e).length = nf at *
            refine AnyL.ready (rs := [19]) (by kernel_rfl) (by simp) ?_
            refine (AllL.cons (o := { dst := some 83, op := Op.nilCheck (Operand.tmp 64), type := 0, pos := "ref.go:27", after := #[{ on := 0, ground := Ground.data }, { on := 0, ground := Ground.phase }, { on := 1, ground := Ground.phase }, { on := 2, ground := Ground.phase }, { on := 3, ground := Ground.phase }, { on := 4, ground := Ground.phase }, { on := 5, ground := Ground.phase }, { on := 6, ground := Ground.phase }, { on := 7, ground := Ground.phase }, { on := 8, ground := Ground.phase }, { on := 9, ground := Ground.phase }, { on := 10, ground := Ground.phase }, { on := 11, ground := Ground.phase }, { on := 12, ground := Ground.phase }, { on := 13, ground := Ground.phase }, { on := 14, ground := Ground.phase }, { on := 15, ground := Ground.phase }, { on := 16, ground := Ground.phase }, { on := 17, ground := Ground.phase }, { on := 18, ground := Ground.phase }], guard := none }) rfl (fun K hK => ?_) AllL.nil)
            go_simp
            refine hK.out _ _ (fun _ => HS.out _ HBz5.out) ?_
            clear hK K
            try simp only [Act.put, List.setIfInBounds_toArray, List.set_cons_zero, List.set_cons_succ]
            refine AnyL.ready (rs := [20]) (by kernel_rfl) (by simp) ?_
            refine (AllL.cons (o := { dst := some 84, op := Op.fieldAddr 29 (Operand.tmp 83) 0, type := 0, pos := "ref.go:27", after := #[{ on := 19, ground := Ground.data }, { on := 0, ground := Ground.phase }, { on := 1, ground := Ground.phase }, { on := 2, ground := Ground.phase }, { on := 3, ground := Ground.phase }, { on := 4, ground := Ground.phase }, { on := 5, ground := Ground.phase }, { on := 6, ground := Ground.phase }, { on := 7, ground := Ground.phase }, { on := 8, ground := Ground.phase }, { on := 9, ground := Ground.phase }, { on := 10, ground := Ground.phase }, { on := 11, ground := Ground.phase }, { on := 12, ground := Ground.phase }, { on := 13, ground := Ground.phase }, { on := 14, ground := Ground.phase }, { on := 15, ground := Ground.phase }, { on := 16, ground := Ground.phase }, { on := 17, ground := Ground.phase }, { on := 18, ground := Ground.phase }], guard := none }) rfl (fun K hK => ?_) AllL.nil)
            go_simp
            refine hK.out _ _ (fun _ => HS.out _ HBz5.out) ?_
            clear hK K
            try simp only [Act.put, List.setIfInBounds_toArray, List.set_cons_zero, List.set_cons_succ]
            refine AnyL.ready (rs := [21]) (by kernel_rfl) (by simp) ?_
            refine (AllL.cons (o := { dst := none, op := Op.store 22 (Operand.tmp 84) (Operand.tmp 82), type := 0, pos := "ref.go:27", after := #[{ on := 20, ground := Ground.data }, { on := 18, ground := Ground.data }, { on := 18, ground := Ground.chain }, { on := 0, ground := Ground.phase }, { on := 1, ground := Ground.phase }, { on := 2, ground := Ground.phase }, { on := 3, ground := Ground.phase }, { on := 4, ground := Ground.phase }, { on := 5, ground := Ground.phase }, { on := 6, ground := Ground.phase }, { on := 7, ground := Ground.phase }, { on := 8, ground := Ground.phase }, { on := 9, ground := Ground.phase }, { on := 10, ground := Ground.phase }, { on := 11, ground := Ground.phase }, { on := 12, ground := Ground.phase }, { on := 13, ground := Ground.phase }, { on := 14, ground := Ground.phase }, { on := 15, ground := Ground.phase }, { on := 16, ground := Ground.phase }, { on := 17, ground := Ground.phase }, { on := 18, ground := Ground.phase }], guard := none }) rfl (fun K hK => ?_) AllL.nil)
            obtain ⟨s0, -, -, -, -, s5⟩ := HS.out _ HBz5.out
            go_simp
            refine hK.out _ _ (fun h => absurd rfl h) ?_
            clear hK K s0 s5
            try simp only [Act.put, List.setIfInBounds_toArray, List.set_cons_zero, List.set_cons_succ]
            refine AnyL.done (by kernel_rfl) ?_ _
            go_wp2_with (fail)
            go_ret
            have hbw : Bel w z5 := HB1.out.trans (HZB.out.trans HBz5.out)
            exact ⟨_, (by rw [HERR.out]; rfl), rm_set ((Below.block hbw b (by rw [HBX.out]; exact hlt)).trans HBLK.out) (HOF.out.low (Nat.zero_le _)), rm_new HOF.out (HB1.out.trans HZB.out), (Keep.of_bel hbw _).setCell (Or.inl (by simp)) _⟩
end Go.Proofs.Yteimllgoelleeaa
/- moultref11's Size; moultref10's Get and Between. -/
namespace Go.Proofs.Yteimllgoelleeaa
open Go.RowKit Go.Deep

theorem RMAt.list {w : World} {b : Nat} {F : List Nat} {C : List EB} (h : RMAt w b F C) : ∃ p cap, w.cell? ⟨b, 0, none⟩ = some (.slice p C.length cap) ∧ EntsAt w p C := by
  obtain ⟨v, h1, h2, rfl⟩ := h
  obtain ⟨p, cap, rfl, he⟩ := ownG_ents h2
  exact ⟨p, cap, by simp [World.cell?, h1], he⟩
theorem size_take {L : List EB} {k : Nat} (h : k < L.length) (e : EB) (he : e = L[k]) : sizeM (L.take (k + 1)) = sizeM (L.take k) + e.k.size + e.v.size := by
  rw [List.take_add_one, List.getElem?_eq_getElem h, Option.toList_some, size_snoc, he]
theorem size_hold {C : List EB} (h : Holds C) : ∀ k, sizeM (C.take k) ≤ 30000000 := fun k => by
  have h1 := size_le (m := 30000) (l := C.take k) fun e he => by
    have hr := stand_right h.1 e (List.mem_of_mem_take he)
    obtain ⟨r1, r2, r3, r4, -, -⟩ := right_parts hr
    omega
  have h2 : (C.take k).length ≤ 1000 := by rw [List.length_take]; have := h.2; omega
  generalize (C.take k).length = n at *
  omega
set_option maxHeartbeats 2000000 in
set_option maxRecDepth 20000 in
theorem rsize_any (b : Nat) (F : List Nat) (C : List EB) (w : World) (h : RMAt w b F C) (hC : Holds C) :
    Calls Try.prog 15 #[.pointer (some ⟨b, 0, none⟩)] w fun r w' => r = .returned (.int .i64 (sizeM C : Nat)) ∧ Drw w w' := by
  obtain ⟨p, cap, c0, he⟩ := h.list
  have HE := Lib.hid he
  have HS := Lib.hid (size_hold hC)
  have HF := Lib.hid (holds_fits hC)
  have hlen := hC.2
  clear he h hC
  go_enter Try.func15, Try.ntmps15
  go_wp2_with (fail)
  go_loopw [3, 4] (fun nv iv x => ∃ k : Nat, k ≤ C.length ∧ iv = .int .i64 k ∧ nv = .int .i64 (sizeM (C.take k) : Nat) ∧ Drw w x) (fun _ iv _ => C.length - (intOf iv).toNat)
  case atStart => exact ⟨0, Nat.zero_le _, rfl, rfl, Drw.refl w⟩
  case round =>
    obtain ⟨k, hk, rfl, rfl, hw⟩ := hrel
    have HW := Lib.hid hw
    have d0 := cl11 hw.bel c0
    have hs1 := HS.out k
    obtain ⟨n, hn⟩ : ∃ n, n = sizeM (C.take k) := ⟨_, rfl⟩
    rw [← hn] at hs1
    have HN := Lib.hid hn
    rw [← hn]
    clear hw hn
    by_cases hkl : k < C.length
    · obtain ⟨a, e0, rfl, he0, B, O, sp, ha, z0, z1, z2, z3⟩ := HE.out.get hkl
      obtain ⟨f1, f2, f3, f4⟩ : e0.fits := by rw [he0]; exact fits_at HF.out hkl
      have hs2 := HS.out (k + 1)
      have HT := Lib.hid (size_take hkl e0 he0)
      rw [HT.out, ← HN.out] at hs2
      have y0 := cl11 HW.out.bel z0
      have y3 := cl11 HW.out.bel z3
      have hw1 : IntKind.i64.wrap ((n : Int) + (e0.k.size : Int)) = ((n + e0.k.size : Nat) : Int) := by rw [IntKind.wrap_i64]; omega
      have hw2 : IntKind.i64.wrap (((n + e0.k.size : Nat) : Int) + (e0.v.size : Int)) = ((n + e0.k.size + e0.v.size : Nat) : Int) := by rw [IntKind.wrap_i64]; omega
      clear he0 z0 z1 z2 z3
      go_wp2_with (fail)
      go_quiet (fail)
      go_wp2_with (fail)
      go_roundw
      case rel => exact ⟨k + 1, hkl, by go_num, (by rw [HT.out, ← HN.out]; exact congrArg (Value.int IntKind.i64) (by omega)), HW.out.drewN _⟩
      case measure => simp [intOf]; omega
    · obtain rfl : k = C.length := by omega
      go_wp2_with (fail)
      go_ret
      exact ⟨(by rw [HN.out, List.take_length]; rfl), HW.out⟩
set_option maxHeartbeats 2000000 in
set_option maxRecDepth 20000 in
theorem rget_any (p : Option Addr) (cap : Nat) (L : List EB) (key : ByteArray) (q : Int) (w : World) (h : EntsAt w p L) (hL : L.length ≤ 100000) :
    Calls Try.prog 17 #[.slice p L.length cap, .string key, .int .i64 q] w fun r w' => r = .returned (getM (getE key.data.toList q L)) ∧ Bel w w' := by
  have H := Lib.hid h; clear h
  have HNONE := Lib.hid (show (∀ j (h : j < L.length), hitB key.data.toList q L[j] = false) → getE key.data.toList q L = none from fun hall => by
    unfold getE
    rw [List.find?_eq_none]
    intro x hx
    obtain ⟨j, hj, rfl⟩ := List.mem_iff_getElem.1 hx
    rw [hall j hj]; simp)
  have HSOME := Lib.hid (show ∀ k (h : k < L.length), (∀ j (h : j < L.length), j < k → hitB key.data.toList q L[j] = false) → hitB key.data.toList q L[k] = true → getE key.data.toList q L = some L[k] from fun k hk hall hit => by
    unfold getE
    rw [List.find?_eq_some_iff_getElem]
    exact ⟨hit, k, hk, rfl, fun j hj => by rw [hall j (by omega) hj]; rfl⟩)
  obtain ⟨w1, hw1⟩ : ∃ w1, w1 = w.alloc (.cells #[.string ⟨#[]⟩, .int .i64 0, .bool false, .string ⟨#[]⟩] 33) := ⟨_, rfl⟩
  have hblk : w1.heap[w.heap.size]? = some (.cells #[.string ⟨#[]⟩, .int .i64 0, .bool false, .string ⟨#[]⟩] 33 (0, 0)) := by rw [hw1]; exact heap_alloc_new w _
  have b1 : Bel w w1 := by rw [hw1]; exact (Bel.refl w).alloc _
  go_enter Try.func17, Try.ntmps17
  go_wp2_with (fail)
  rw [← hw1]
  clear hw1
  have HB1 := Lib.hid b1; clear b1
  go_loopw [8] (fun iv x => (∃ k : Nat, k ≤ L.length ∧ iv = .int .i64 k ∧ ∀ j (h : j < L.length), j < k → hitB key.data.toList q L[j] = false) ∧ Drw w1 x) (fun iv _ => L.length - (intOf iv).toNat)
  case atStart => exact ⟨⟨0, Nat.zero_le _, rfl, fun j _ h => by omega⟩, Drw.refl w1⟩
  case round =>
    obtain ⟨⟨k, hk, rfl, hall⟩, hw⟩ := hrel
    have hzb : wr.heap[w.heap.size]? = some (.cells #[.string ⟨#[]⟩, .int .i64 0, .bool false, .string ⟨#[]⟩] 33 (0, 0)) := by obtain ⟨n, rfl⟩ := hw; exact hblk
    have v0 : wr.cell? ⟨w.heap.size, 0, none⟩ = some (.string ⟨#[]⟩) := by simp [World.cell?, hzb]
    have v1 : wr.cell? ⟨w.heap.size, 1, none⟩ = some (.int .i64 0) := by simp [World.cell?, hzb]
    have v2 : wr.cell? ⟨w.heap.size, 2, none⟩ = some (.bool false) := by simp [World.cell?, hzb]
    have v3 : wr.cell? ⟨w.heap.size, 3, none⟩ = some (.string ⟨#[]⟩) := by simp [World.cell?, hzb]
    have g0 : wr.frozen? ⟨w.heap.size, 0, none⟩ = false := by simp [World.frozen?, hzb]
    have g1 : wr.frozen? ⟨w.heap.size, 1, none⟩ = false := by simp [World.frozen?, hzb]
    have g2 : wr.frozen? ⟨w.heap.size, 2, none⟩ = false := by simp [World.frozen?, hzb]
    have g3 : wr.frozen? ⟨w.heap.size, 3, none⟩ = false := by simp [World.frozen?, hzb]
    have HBW := Lib.hid (HB1.out.trans hw.bel)
    have HW := Lib.hid hw
    have HALL := Lib.hid hall
    clear hw hall hzb
    by_cases hkl : k < L.length
    · obtain ⟨a, e0, rfl, he0, B, O, sp, ha, z0, z1, z2, z3⟩ := HBW.out |> H.out.bel |>.get hkl
      have HHIT := Lib.hid (show hitB key.data.toList q e0 = true → getE key.data.toList q L = some e0 from fun hh => by rw [he0] at hh ⊢; exact HSOME.out k hkl HALL.out hh)
      have HMISS := Lib.hid (show hitB key.data.toList q e0 = false → ∀ j (h : j < L.length), j < k + 1 → hitB key.data.toList q L[j] = false from fun hh j h hj => by
        by_cases e' : j = k
        · subst e'; rw [← he0]; exact hh
        · exact HALL.out j h (by omega))
      clear he0
      by_cases hke : e0.k = key
      · subst hke
        have hself : (e0.k.toList == e0.k.toList) = true := beq_self_eq_true _
        by_cases hq : e0.q ≤ q
        · have HV := Lib.hid (HHIT.out (by unfold hitB; rw [beq_self_eq_true, decide_eq_true hq]; rfl))
          go_wp2_with (fail)
          refine bodyPost_ret (v := .tuple #[.agg #[.string e0.k, .int .i64 e0.q, .bool e0.d, .string e0.v], .bool true]) (by simp [results, Try.results17, go_sem, v0, v1, v2, v3, g0, g1, g2, g3]) rfl ⟨by rw [HV.out]; rfl, ?_⟩
          repeat' first | exact HBW.out | refine Bel.setCell ?_ (by simp) _ | refine Bel.drewN ?_ _
        · have HM := Lib.hid (HMISS.out (by unfold hitB; rw [decide_eq_false hq, Bool.and_false]))
          go_wp2_with (fail)
          go_roundw
          case rel => exact ⟨⟨k + 1, hkl, by go_num, HM.out⟩, HW.out⟩
          case measure => simp [intOf]; omega
      · have hkb : (e0.k.toList == key.toList) = false := by
          rw [ByteArray.toList_eq, ByteArray.toList_eq, beq_eq_false_iff_ne]
          exact fun h => hke (ba_ext h)
        have HM := Lib.hid (HMISS.out (by unfold hitB; rw [← ByteArray.toList_eq, ← ByteArray.toList_eq, hkb, Bool.false_and]))
        clear hke
        go_wp2_with (fail)
        go_roundw
        case rel => exact ⟨⟨k + 1, hkl, by go_num, HM.out⟩, HW.out⟩
        case measure => simp [intOf]; omega
    · have HV := Lib.hid (HNONE.out fun j h => HALL.out j h (by omega))
      go_wp2_with (fail)
      refine bodyPost_ret (v := .tuple #[.agg #[.string ⟨#[]⟩, .int .i64 0, .bool false, .string ⟨#[]⟩], .bool false]) (by simp [results, Try.results17, go_sem, v0, v1, v2, v3, g0, g1, g2, g3]) rfl ⟨by rw [HV.out]; rfl, ?_⟩
      repeat' first | exact HBW.out | refine Bel.setCell ?_ (by simp) _ | refine Bel.drewN ?_ _
theorem cmp_ge (a b : List UInt8) : (0 ≤ Lib.compareBytes a b) = (Op.bytesLess a b = false) := by
  rw [cmp_two]
  cases h : Op.bytesLess a b with
  | true => simp
  | false => cases h2 : Op.bytesLess b a <;> simp
set_option maxHeartbeats 4000000 in
set_option maxRecDepth 20000 in
theorem rbet_any (p : Option Addr) (cap : Nat) (L : List EB) (f t : ByteArray) (w : World) (h : EntsAt w p L) (hL : L.length ≤ 100000) (hf : fitsL L) (h1 : f.size ≤ maxLen) (h2 : t.size ≤ maxLen) :
    Calls Try.prog 20 #[.slice p L.length cap, .string f, .string t] w fun r w' => ∃ v, r = .returned v ∧ OwnG entEl w.heap.size w' v (betE f.data.toList t.data.toList L) ∧ Bel w w' := by
  have H := Lib.hid h; clear h
  have HF := Lib.hid hf; clear hf
  go_enter Try.func20, Try.ntmps20
  go_wp2_with (fail)
  go_loopw [7, 8] (fun sv iv x => ∃ k : Nat, k ≤ L.length ∧ iv = .int .i64 k ∧ OwnG entEl w.heap.size x sv (betE f.data.toList t.data.toList (L.take k)) ∧ Bel w x) (fun _ iv _ => L.length - (intOf iv).toNat)
  case atStart => exact ⟨0, Nat.zero_le _, rfl, OwnG.nil _ _ _, Bel.refl w⟩
  case round =>
    obtain ⟨k, hk, rfl, hown, hw⟩ := hrel
    have HW := Lib.hid hw
    by_cases hkl : k < L.length
    · obtain ⟨a, e0, rfl, he0, B, O, sp, ha, z0, z1, z2, z3⟩ := (H.out.bel HW.out).get hkl
      obtain ⟨f1, f2, f3, f4⟩ : e0.fits := by rw [he0]; exact fits_at HF.out hkl
      have HSTEP := Lib.hid (show betE f.data.toList t.data.toList (L.take (k + 1)) = betE f.data.toList t.data.toList (L.take k) ++ if inB f.data.toList t.data.toList e0 = true then [e0] else [] by
        unfold betE
        rw [List.take_add_one, List.getElem?_eq_getElem hkl, Option.toList_some, List.filter_append, ← he0]
        congr 1
        rw [List.filter_cons, List.filter_nil])
      have hbl : (betE f.data.toList t.data.toList (L.take k)).length ≤ k := by
        have := List.length_filter_le (inB f.data.toList t.data.toList) (L.take k)
        rw [List.length_take] at this
        unfold betE; omega
      obtain ⟨A, hA⟩ : ∃ A, A = betE f.data.toList t.data.toList (L.take k) := ⟨_, rfl⟩
      rw [← hA] at hown HSTEP hbl
      obtain ⟨ap, ac, rfl⟩ := ownG_len hown
      have HO := Lib.hid hown
      clear he0 hA hw hown
      have hfs : e0.k.size ≤ maxLen := by unfold maxLen; omega
      go_wp2_with (fail)
      refine (ref_bytes_any e0.k f wr hfs h1).mono ?_
      rintro r w1 ⟨rfl, hd⟩
      have HD := Lib.hid hd
      have hge := cmp_ge e0.k.data.toList f.data.toList
      generalize Lib.compareBytes e0.k.data.toList f.data.toList = c at *
      have y0 := cl11 hd.bel z0
      have y1 := cl11 hd.bel z1
      have y2 := cl11 hd.bel z2
      have y3 := cl11 hd.bel z3
      clear hd
      cases hl1 : Op.bytesLess e0.k.data.toList f.data.toList with
      | true =>
        rw [hl1] at hge
        have hc : ¬ (0 : Int) ≤ c := by rw [hge]; simp
        have HI := Lib.hid (show inB f.data.toList t.data.toList e0 = false by unfold inB; rw [hl1]; rfl)
        clear hge hl1
        go_wp2_with (fail)
        go_roundw
        case rel => exact ⟨k + 1, hkl, by go_num, by rw [HSTEP.out, HI.out]; simp only [Bool.false_eq_true, if_false, List.append_nil]; exact HO.out.bel HD.out.bel, HW.out.trans HD.out.bel⟩
        case measure => simp [intOf]; omega
      | false =>
        rw [hl1] at hge
        have hc : (0 : Int) ≤ c := by rw [hge]
        cases hem : (t.toList == []) with
        | true =>
          have HI := Lib.hid (show inB f.data.toList t.data.toList e0 = true by unfold inB; rw [hl1, ← ByteArray.toList_eq t, hem]; rfl)
          clear hge hl1
          have HAL := Lib.hid ((Bel.refl w1).alloc (.cells #[.string e0.k, .int .i64 e0.q, .bool e0.d, .string e0.v] 33))
          have HWA := Lib.hid ((HW.out.trans HD.out.bel).trans HAL.out)
          have HO1 := Lib.hid ((HO.out.bel HD.out.bel).bel HAL.out)
          have HLIT := Lib.hid (heap_alloc_new w1 (.cells #[.string e0.k, .int .i64 e0.q, .bool e0.d, .string e0.v] 33))
          go_wp2_with (at_builtin; refine stop_here ?_)
          refine go_on ?_
          refine append_all entOk rfl _ _ rfl rfl HO1.out [e0] rfl (src_at [e0] HLIT.out rfl rfl) (by simp only [List.length_singleton]; unfold maxLen; omega) (by simp only [List.length_singleton]; omega) HWA.out.size ?_
          intro v7 w7 ho7 hk7 _
          have HO7 := Lib.hid (show OwnG entEl w.heap.size w7 v7 (betE f.data.toList t.data.toList (L.take (k + 1))) by rw [HSTEP.out, HI.out]; exact ho7)
          have HW7 := Lib.hid (HWA.out.trans_below (hk7.own HWA.out.size (fun kk hkk => (HO1.out.lt kk hkk).1)))
          obtain ⟨p7, c7, hv7⟩ := ownG_len HO7.out
          rw [hv7] at HO7 ⊢
          clear ho7 hk7 hv7
          generalize (betE f.data.toList t.data.toList (L.take (k + 1))).length = n7 at *
          go_wp2_with (fail)
          go_roundw
          case rel => exact ⟨k + 1, hkl, by go_num, HO7.out, HW7.out⟩
          case measure => simp [intOf]; omega
        | false =>
          clear hge
          go_wp2_with (fail)
          refine (ref_bytes_any e0.k t w1 hfs h2).mono ?_
          rintro r w2 ⟨rfl, hd2⟩
          have hge2 := cmp_ge e0.k.data.toList t.data.toList
          generalize Lib.compareBytes e0.k.data.toList t.data.toList = c2 at *
          have x0 := cl11 hd2.bel y0
          have x1 := cl11 hd2.bel y1
          have x2 := cl11 hd2.bel y2
          have x3 := cl11 hd2.bel y3
          have HD2 := Lib.hid (HD.out.trans hd2)
          clear hd2 y0 y1 y2 y3
          cases hl2 : Op.bytesLess e0.k.data.toList t.data.toList with
          | true =>
            rw [hl2] at hge2
            have hc2 : c2 < 0 := by have : ¬ (0 : Int) ≤ c2 := by rw [hge2]; simp
                                    omega
            have HI := Lib.hid (show inB f.data.toList t.data.toList e0 = true by unfold inB; rw [hl1, ← ByteArray.toList_eq t, hem, ByteArray.toList_eq t, hl2]; rfl)
            clear hge2 hl2 hl1 hem
            have HAL := Lib.hid ((Bel.refl w2).alloc (.cells #[.string e0.k, .int .i64 e0.q, .bool e0.d, .string e0.v] 33))
            have HWA := Lib.hid ((HW.out.trans HD2.out.bel).trans HAL.out)
            have HO1 := Lib.hid ((HO.out.bel HD2.out.bel).bel HAL.out)
            have HLIT := Lib.hid (heap_alloc_new w2 (.cells #[.string e0.k, .int .i64 e0.q, .bool e0.d, .string e0.v] 33))
            go_wp2_with (at_builtin; refine stop_here ?_)
            refine go_on ?_
            refine append_all entOk rfl _ _ rfl rfl HO1.out [e0] rfl (src_at [e0] HLIT.out rfl rfl) (by simp only [List.length_singleton]; unfold maxLen; omega) (by simp only [List.length_singleton]; omega) HWA.out.size ?_
            intro v7 w7 ho7 hk7 _
            have HO7 := Lib.hid (show OwnG entEl w.heap.size w7 v7 (betE f.data.toList t.data.toList (L.take (k + 1))) by rw [HSTEP.out, HI.out]; exact ho7)
            have HW7 := Lib.hid (HWA.out.trans_below (hk7.own HWA.out.size (fun kk hkk => (HO1.out.lt kk hkk).1)))
            obtain ⟨p7, c7, hv7⟩ := ownG_len HO7.out
            rw [hv7] at HO7 ⊢
            clear ho7 hk7 hv7
            generalize (betE f.data.toList t.data.toList (L.take (k + 1))).length = n7 at *
            go_wp2_with (fail)
            go_roundw
            case rel => exact ⟨k + 1, hkl, by go_num, HO7.out, HW7.out⟩
            case measure => simp [intOf]; omega
          | false =>
            rw [hl2] at hge2
            have hc2 : ¬ c2 < 0 := by have : (0 : Int) ≤ c2 := by rw [hge2]
                                      omega
            have HI := Lib.hid (show inB f.data.toList t.data.toList e0 = false by unfold inB; rw [hl1, ← ByteArray.toList_eq t, hem, ByteArray.toList_eq t, hl2]; rfl)
            clear hge2 hl2 hl1 hem
            go_wp2_with (fail)
            go_roundw
            case rel => exact ⟨k + 1, hkl, by go_num, by rw [HSTEP.out, HI.out]; simp only [Bool.false_eq_true, if_false, List.append_nil]; exact HO.out.bel HD2.out.bel, HW.out.trans HD2.out.bel⟩
            case measure => simp [intOf]; omega
    · obtain rfl : k = L.length := by omega
      rw [List.take_length] at hown
      obtain ⟨ap, ac, rfl⟩ := ownG_len hown
      have HO := Lib.hid hown
      clear hown hw
      go_wp2_with (fail)
      go_ret
      exact ⟨_, rfl, HO.out, HW.out⟩
end Go.Proofs.Yteimllgoelleeaa
/- A memory and the reference's memory in one world, to which the entries of a list are added one by one. -/
namespace Go.Proofs.Yteimllgoelleeaa
open Go.RowKit Go.Deep

def TInv (KM : MK) (W : World) (L : List EB) (b rb i j : Nat) (x : World) : Prop :=
  ∃ F G, KM.At x b F (standingB (L.take i)) ∧ RMAt x rb G (standingB (L.take j)) ∧ Apart F G ∧ (∀ f ∈ F, W.heap.size ≤ f) ∧ (∀ g ∈ G, W.heap.size ≤ g) ∧ Bel W x
section
variable {KM : MK} {W x y : World} {L : List EB} {b rb i j k : Nat}
theorem TInv.bel (h : TInv KM W L b rb i j x) (hb : Bel x y) : TInv KM W L b rb i j y := by
  obtain ⟨F, G, h1, h2, h3, h4, h5, h6⟩ := h
  exact ⟨F, G, KM.bel h1 hb, h2.bel hb, h3, h4, h5, h6.trans hb⟩
theorem TInv.old (h : TInv KM W L b rb i j x) : Bel W x := by
  obtain ⟨F, G, h1, h2, h3, h4, h5, h6⟩ := h
  exact h6
theorem TInv.mem (h : TInv KM W L b rb i j x) : ∃ F, KM.At x b F (standingB (L.take i)) := by
  obtain ⟨F, G, h1, h2, h3, h4, h5, h6⟩ := h
  exact ⟨F, h1⟩
theorem TInv.ref (h : TInv KM W L b rb i j x) : ∃ G, RMAt x rb G (standingB (L.take j)) := by
  obtain ⟨F, G, h1, h2, h3, h4, h5, h6⟩ := h
  exact ⟨G, h2⟩
theorem TInv.start {F : List Nat} (h : KM.At x b F []) (hn : ∀ f ∈ F, y.heap.size ≤ f) (hy : Bel W y) (hb : Bel y x) :
    TInv KM W L b x.heap.size 0 0 (x.alloc (.cells #[.slice none 0 0] 29)) := by
  have hW := hy.trans hb
  refine ⟨F, [x.heap.size], by rw [List.take_zero]; exact KM.bel h ((Bel.refl x).alloc _), ⟨.slice none 0 0, heap_alloc_new x _, by rw [List.take_zero]; exact OwnG.nil _ _ _, rfl⟩, fun f hf hg => ?_, fun f hf => ?_, fun g hg => ?_, hW.alloc _⟩
  · have := KM.lt h f hf
    rw [List.mem_singleton] at hg
    omega
  · have := hn f hf; have := hy.size; omega
  · rw [List.mem_singleton] at hg
    have := hW.size; omega
theorem tinv_madd (h : TInv KM W L b rb k j x) (hs : Small11 L) (hk : k < L.length) (e : EB) (he : e = L[k]) (hf : e.fits) :
    Calls Try.prog 11 #[.pointer (some ⟨b, 0, none⟩), .agg #[.string e.k, .int .i64 e.q, .bool e.d, .string e.v]] x fun r w' => r = .returned (.int .i64 (errM (standingB (L.take k)) e)) ∧ TInv KM W L b rb (k + 1) j w' := by
  obtain ⟨F, G, h1, h2, h3, h4, h5, h6⟩ := h
  refine (KM.add b F _ e x h1 (hold_standing hs.1 k) hf (small_data hs hk e he)).mono ?_
  rintro r w' ⟨F', rfl, hat, hn, hkp⟩
  exact ⟨rfl, F', G, by rw [standing_take hk e he]; exact hat, h2.keep hkp h3.symm, h3.grow hn (RMAt.lt h2), new_low hn h6 h4, h5, keep_new hkp h6 h4⟩
theorem tinv_radd (h : TInv KM W L b rb i k x) (hs : Small11 L) (hk : k < L.length) (e : EB) (he : e = L[k]) (hf : e.fits) :
    Calls Try.prog 12 #[.pointer (some ⟨rb, 0, none⟩), .agg #[.string e.k, .int .i64 e.q, .bool e.d, .string e.v]] x fun r w' => r = .returned (.int .i64 (errM (standingB (L.take k)) e)) ∧ TInv KM W L b rb i (k + 1) w' := by
  obtain ⟨F, G, h1, h2, h3, h4, h5, h6⟩ := h
  refine (radd_any rb G _ e x h2 (hold_standing hs.1 k) hf (small_data hs hk e he)).mono ?_
  rintro r w' ⟨G', rfl, hat, hn, hkp⟩
  exact ⟨rfl, F, G', KM.keep h1 hkp h3, by rw [standing_take hk e he]; exact hat, (h3.symm.grow hn (KM.lt h1)).symm, h4, new_low hn h6 h5, keep_new hkp h6 h5⟩
end
end Go.Proofs.Yteimllgoelleeaa
/- The program's orders: of entries, and of tables and versions. -/
namespace Go.Proofs.Yteimllgoelleeaa
open Go.RowKit Go.Deep

set_option maxHeartbeats 1000000 in
theorem eless_any (a b : EB) (w : World) :
    Calls Try.prog 77 #[.agg #[.string a.k, .int .i64 a.q, .bool a.d, .string a.v], .agg #[.string b.k, .int .i64 b.q, .bool b.d, .string b.v]] w fun r w' => r = .returned (.bool (lessB a b)) ∧ Bel w w' := by
  obtain ⟨k, q, d, v⟩ := a
  obtain ⟨k', q', d', v'⟩ := b
  have HB := Lib.hid (((Bel.refl w).alloc (.cells #[.string k, .int .i64 q, .bool d, .string v] 60)).alloc (.cells #[.string k', .int .i64 q', .bool d', .string v'] 60))
  go_enter Try.func77, Try.ntmps77
  go_wp2_with (fail)
  refine (pless_any ⟨k, q, d, v⟩ ⟨k', q', d', v'⟩ _).mono ?_
  rintro e w1 ⟨rfl, hb⟩
  have H1 := Lib.hid (HB.out.trans hb); clear hb
  go_wp2_with (fail)
  go_ret
  exact ⟨rfl, H1.out⟩
theorem isNaN_any (a : Int) (w : World) : Calls Try.prog 81 #[.int .i64 a] w fun r w' => r = .returned (.bool false) ∧ w' = w := by
  go_enter Try.func81, Try.ntmps81
  go_wp2_with (fail)
  go_ret
  exact ⟨by simp, rfl⟩
def cmpN (a b : Int) : Int := if a < b then -1 else if b < a then 1 else 0
set_option maxHeartbeats 1000000 in
theorem compare_any (a b : Int) (w : World) : Calls Try.prog 80 #[.int .i64 a, .int .i64 b] w fun r w' => r = .returned (.int .i64 (cmpN a b)) ∧ w' = w := by
  have main : ∀ c : Int, ((a < b ∧ c = -1) ∨ (¬ a < b ∧ b < a ∧ c = 1) ∨ (¬ a < b ∧ ¬ b < a ∧ c = 0)) → Calls Try.prog 80 #[.int .i64 a, .int .i64 b] w fun r w' => r = .returned (.int .i64 c) ∧ w' = w := by
    rintro c (⟨h, rfl⟩ | ⟨h, h', rfl⟩ | ⟨h, h', rfl⟩)
    all_goals
      go_enter Try.func80, Try.ntmps80
      go_wp2_with (fail)
      refine (isNaN_any _ _).mono ?_
      rintro e w1 ⟨rfl, rfl⟩
      go_wp2_with (fail)
      refine (isNaN_any _ _).mono ?_
      rintro e w1 ⟨rfl, rfl⟩
      go_wp2_with (fail)
      go_ret
      exact ⟨rfl, rfl⟩
  unfold cmpN
  refine main _ ?_
  by_cases h : a < b
  · rw [if_pos h]; exact .inl ⟨h, rfl⟩
  · by_cases h' : b < a
    · rw [if_neg h, if_pos h']; exact .inr (.inl ⟨h, h', rfl⟩)
    · rw [if_neg h, if_neg h']; exact .inr (.inr ⟨h, h', rfl⟩)
def orN (a b : Int) : Int := if a = 0 then b else a
set_option maxHeartbeats 1000000 in
theorem or_any0 (B : Nat) (a b : Int) (w : World) (h0 : w.cell? ⟨B, 0, none⟩ = some (.int .i64 a)) (h1 : w.cell? ⟨B, 1, none⟩ = some (.int .i64 b)) :
    Calls Try.prog 79 #[.slice (some ⟨B, 0, none⟩) 2 2] w fun r w' => r = .returned (.int .i64 (if a = 0 then b else a)) ∧ w' = w := by
  go_enter Try.func79, Try.ntmps79
  go_wp2_with (fail)
  go_loopw [8] (fun iv x => ∃ k : Nat, k ≤ 2 ∧ iv = .int .i64 k ∧ x = w ∧ (1 ≤ k → a = 0) ∧ (2 ≤ k → b = 0)) (fun iv _ => 2 - (intOf iv).toNat)
  case atStart => exact ⟨0, by omega, rfl, rfl, fun h => by omega, fun h => by omega⟩
  case round =>
    obtain ⟨k, hk, rfl, rfl, ha, hb⟩ := hrel
    have hk3 : k = 0 ∨ k = 1 ∨ k = 2 := by omega
    rcases hk3 with rfl | rfl | rfl
    · by_cases h : a = 0
      · subst h
        clear ha hb
        go_wp2_with (fail)
        go_roundw
        case rel => exact ⟨1, by omega, by first | trivial | rfl, by first | trivial | rfl, fun _ => by trivial, fun h => by omega⟩
        case measure => simp [intOf]
      · clear ha hb
        have h' : (a == 0) = false := by simpa using h
        go_wp2_with (fail)
        go_ret
        exact ⟨by first | rfl | simp [h], rfl⟩
    · obtain rfl := ha (by omega)
      clear ha hb
      by_cases h : b = 0
      · subst h
        go_wp2_with (fail)
        go_roundw
        case rel => exact ⟨2, by omega, by first | trivial | rfl, by first | trivial | rfl, fun _ => by trivial, fun _ => by trivial⟩
        case measure => simp [intOf]
      · have h' : (b == 0) = false := by simpa using h
        go_wp2_with (fail)
        go_ret
        exact ⟨by first | rfl | simp, rfl⟩
    · obtain rfl := ha (by omega)
      obtain rfl := hb (by omega)
      go_wp2_with (fail)
      go_ret
      exact ⟨by first | rfl | simp, rfl⟩
theorem or_any (B : Nat) (a b : Int) (w : World) (h0 : w.cell? ⟨B, 0, none⟩ = some (.int .i64 a)) (h1 : w.cell? ⟨B, 1, none⟩ = some (.int .i64 b)) :
    Calls Try.prog 79 #[.slice (some ⟨B, 0, none⟩) 2 2] w fun r w' => r = .returned (.int .i64 (orN a b)) ∧ w' = w := or_any0 B a b w h0 h1
def ltC (a b : CT) : Bool := decide (a.t < b.t) || (decide (a.t = b.t) && decide (a.v < b.v))
theorem ltC_trans (a b c : CT) (h : ltC a b = true) (h' : ltC b c = true) : ltC a c = true := by
  unfold ltC at *
  simp only [Bool.or_eq_true, Bool.and_eq_true, decide_eq_true_eq] at *
  omega
theorem ltC_cmp (a b : CT) : decide (orN (cmpN a.t b.t) (cmpN a.v b.v) < 0) = ltC a b := by
  unfold ltC orN cmpN
  by_cases h1 : a.t < b.t
  · have h1' : (a.t : Int) < b.t := by omega
    rw [if_pos h1', decide_eq_true h1]; rfl
  · have h1' : ¬ (a.t : Int) < b.t := by omega
    by_cases h2 : b.t < a.t
    · have h2' : (b.t : Int) < a.t := by omega
      rw [if_neg h1', if_pos h2', decide_eq_false h1, decide_eq_false (by omega : ¬ a.t = b.t)]; rfl
    · have h2' : ¬ (b.t : Int) < a.t := by omega
      have e : a.t = b.t := by omega
      rw [if_neg h1', if_neg h2', if_pos rfl, decide_eq_false h1, decide_eq_true e]
      by_cases h3 : a.v < b.v
      · have h3' : (a.v : Int) < b.v := by omega
        rw [if_pos h3', decide_eq_true h3]; rfl
      · have h3' : ¬ (a.v : Int) < b.v := by omega
        rw [if_neg h3', decide_eq_false h3]
        split <;> rfl
theorem cell_at_new {W : World} {B i : Nat} {cs : Array Value} {T : TypeId} (hB : B = W.heap.size) : (W.alloc (.cells cs T)).cell? ⟨B, i, none⟩ = cs[i]? := by
  subst hB; exact World.cell?_alloc_new ..
theorem cell_at_drew {W : World} {B i : Nat} {cs : Array Value} {T : TypeId} (hB : B = W.heap.size) : (W.alloc (.cells cs T)).drew.cell? ⟨B, i, none⟩ = cs[i]? := cell_at_new hB
set_option maxHeartbeats 2000000 in
theorem cless_any (a b : CT) (w : World) :
    Calls Try.prog 78 #[.agg #[.int .i64 (a.t : Int), .int .i64 (a.v : Int), .int .i64 (a.n : Int)], .agg #[.int .i64 (b.t : Int), .int .i64 (b.v : Int), .int .i64 (b.n : Int)]] w fun r w' => r = .returned (.bool (ltC a b)) ∧ Bel w w' := by
  rw [← ltC_cmp]
  obtain ⟨t, v, n⟩ := a
  obtain ⟨t', v', n'⟩ := b
  simp only
  obtain ⟨x, hx⟩ : ∃ x, x = cmpN t t' := ⟨_, rfl⟩
  obtain ⟨y, hy⟩ : ∃ y, y = cmpN v v' := ⟨_, rfl⟩
  rw [← hx, ← hy]
  have HX := Lib.hid hx
  have HY := Lib.hid hy
  clear hx hy
  obtain ⟨w2, hw2⟩ : ∃ z, z = (w.alloc (.cells #[.int .i64 (t : Int), .int .i64 (v : Int), .int .i64 (n : Int)] 78)).alloc (.cells #[.int .i64 (t' : Int), .int .i64 (v' : Int), .int .i64 (n' : Int)] 78) := ⟨_, rfl⟩
  have HB := Lib.hid (show Bel w w2 by rw [hw2]; exact ((Bel.refl w).alloc _).alloc _)
  have HS := Lib.hid (show w.heap.size + 1 + 1 = w2.heap.size by rw [hw2]; simp)
  have HC := Lib.hid (show (w2.cell? ⟨w.heap.size, 0, none⟩ = some (.int .i64 (t : Int)) ∧ w2.cell? ⟨w.heap.size, 1, none⟩ = some (.int .i64 (v : Int))) ∧ w2.cell? ⟨w.heap.size + 1, 0, none⟩ = some (.int .i64 (t' : Int)) ∧ w2.cell? ⟨w.heap.size + 1, 1, none⟩ = some (.int .i64 (v' : Int)) by
    rw [hw2]
    refine ⟨⟨?_, ?_⟩, ?_, ?_⟩
    · exact cell_later ((Bel.refl _).alloc _) ((cell_at_new rfl).trans rfl)
    · exact cell_later ((Bel.refl _).alloc _) ((cell_at_new rfl).trans rfl)
    · exact (cell_at_new (by simp)).trans rfl
    · exact (cell_at_new (by simp)).trans rfl)
  have HD := Lib.hid (show ((w2.alloc (.cells #[.int .i64 x, .int .i64 y] 3)).cell? ⟨w.heap.size, 0, none⟩ = some (.int .i64 (t : Int)) ∧ (w2.alloc (.cells #[.int .i64 x, .int .i64 y] 3)).cell? ⟨w.heap.size, 1, none⟩ = some (.int .i64 (v : Int))) ∧ (w2.alloc (.cells #[.int .i64 x, .int .i64 y] 3)).cell? ⟨w.heap.size + 1, 0, none⟩ = some (.int .i64 (t' : Int)) ∧ (w2.alloc (.cells #[.int .i64 x, .int .i64 y] 3)).cell? ⟨w.heap.size + 1, 1, none⟩ = some (.int .i64 (v' : Int)) by
    have hb := (Bel.refl w2).alloc (.cells #[.int .i64 x, .int .i64 y] 3)
    obtain ⟨⟨c1, c2⟩, c3, c4⟩ := HC.out
    exact ⟨⟨cell_later hb c1, cell_later hb c2⟩, cell_later hb c3, cell_later hb c4⟩)
  go_enter Try.func78, Try.ntmps78
  go_wp2_with (fail)
  rw [← hw2]
  clear hw2
  refine wp_region_held_drew (S := fun z => (z.cell? ⟨w.heap.size, 0, none⟩ = some (.int .i64 (t : Int)) ∧ z.cell? ⟨w.heap.size, 1, none⟩ = some (.int .i64 (v : Int))) ∧ z.cell? ⟨w.heap.size + 1, 0, none⟩ = some (.int .i64 (t' : Int)) ∧ z.cell? ⟨w.heap.size + 1, 1, none⟩ = some (.int .i64 (v' : Int))) (by kernel_rfl) HC.out (fun hHeld => ?_)
  refine tk (oi := { dst := some 5, op := Op.fieldAddr 78 (Operand.tmp 2) 0, type := 0, pos := "memory.go:29", after := #[], guard := none }) (v := ?_) 0 rfl ?_ ?_
  rotate_left
  · (intro w hSw; (try dsimp only at hSw); first | (go_simp; done) | (go_simp; with_reducible rfl))
  try simp only [Act.put, List.setIfInBounds_toArray, List.set_cons_zero, List.set_cons_succ]
  refine tk (oi := { dst := some 6, op := Op.load 3 (Operand.tmp 5), type := 3, pos := "memory.go:29", after := #[{ on := 0, ground := Ground.data }], guard := none }) (v := ?_) 1 rfl ?_ ?_
  rotate_left
  · (intro w hSw; (try dsimp only at hSw); first | (go_simp; done) | (go_simp; with_reducible rfl))
  try simp only [Act.put, List.setIfInBounds_toArray, List.set_cons_zero, List.set_cons_succ]
  refine tk (oi := { dst := some 7, op := Op.fieldAddr 78 (Operand.tmp 3) 0, type := 0, pos := "memory.go:29", after := #[], guard := none }) (v := ?_) 2 rfl ?_ ?_
  rotate_left
  · (intro w hSw; (try dsimp only at hSw); first | (go_simp; done) | (go_simp; with_reducible rfl))
  try simp only [Act.put, List.setIfInBounds_toArray, List.set_cons_zero, List.set_cons_succ]
  refine tk (oi := { dst := some 8, op := Op.load 3 (Operand.tmp 7), type := 3, pos := "memory.go:29", after := #[{ on := 2, ground := Ground.data }], guard := none }) (v := ?_) 3 rfl ?_ ?_
  rotate_left
  · (intro w hSw; (try dsimp only at hSw); first | (go_simp; done) | (go_simp; with_reducible rfl))
  try simp only [Act.put, List.setIfInBounds_toArray, List.set_cons_zero, List.set_cons_succ]
  refine tk (oi := { dst := some 10, op := Op.fieldAddr 78 (Operand.tmp 2) 1, type := 0, pos := "memory.go:29", after := #[], guard := none }) (v := ?_) 5 rfl ?_ ?_
  rotate_left
  · (intro w hSw; (try dsimp only at hSw); first | (go_simp; done) | (go_simp; with_reducible rfl))
  try simp only [Act.put, List.setIfInBounds_toArray, List.set_cons_zero, List.set_cons_succ]
  refine tk (oi := { dst := some 11, op := Op.load 3 (Operand.tmp 10), type := 3, pos := "memory.go:29", after := #[{ on := 5, ground := Ground.data }], guard := none }) (v := ?_) 6 rfl ?_ ?_
  rotate_left
  · (intro w hSw; (try dsimp only at hSw); first | (go_simp; done) | (go_simp; with_reducible rfl))
  try simp only [Act.put, List.setIfInBounds_toArray, List.set_cons_zero, List.set_cons_succ]
  refine tk (oi := { dst := some 12, op := Op.fieldAddr 78 (Operand.tmp 3) 1, type := 0, pos := "memory.go:29", after := #[], guard := none }) (v := ?_) 7 rfl ?_ ?_
  rotate_left
  · (intro w hSw; (try dsimp only at hSw); first | (go_simp; done) | (go_simp; with_reducible rfl))
  try simp only [Act.put, List.setIfInBounds_toArray, List.set_cons_zero, List.set_cons_succ]
  refine tk (oi := { dst := some 13, op := Op.load 3 (Operand.tmp 12), type := 3, pos := "memory.go:29", after := #[{ on := 7, ground := Ground.data }], guard := none }) (v := ?_) 8 rfl ?_ ?_
  rotate_left
  · (intro w hSw; (try dsimp only at hSw); first | (go_simp; done) | (go_simp; with_reducible rfl))
  try simp only [Act.put, List.setIfInBounds_toArray, List.set_cons_zero, List.set_cons_succ]
  refine wpAnyH_ready (rs := [4]) (by kernel_rfl) (by simp) ?_
  refine AllReadyH.cons (o := { dst := some 9, op := Op.call { callee := Callee.value (Operand.func 80), args := #[Operand.tmp 6, Operand.tmp 8], argTypes := #[3, 3] }, type := 3, pos := "memory.go:29", after := #[{ on := 1, ground := Ground.data }, { on := 3, ground := Ground.data }], guard := none }) rfl (fun K hK => ?_) AllReadyH.nil
  go_simp
  refine (compare_any _ _ _).mono ?_
  rintro r w3 ⟨rfl, rfl⟩
  rw [← HX.out]
  dsimp only
  refine hK.out _ _ HC.out (fun hHeld => ?_)
  clear hK K
  try simp only [Act.put, List.setIfInBounds_toArray, List.set_cons_zero, List.set_cons_succ]
  refine wpAnyH_ready (rs := [9]) (by kernel_rfl) (by simp) ?_
  refine AllReadyH.cons (o := { dst := some 14, op := Op.call { callee := Callee.value (Operand.func 80), args := #[Operand.tmp 11, Operand.tmp 13], argTypes := #[3, 3] }, type := 3, pos := "memory.go:29", after := #[{ on := 6, ground := Ground.data }, { on := 8, ground := Ground.data }, { on := 4, ground := Ground.chain }], guard := none }) rfl (fun K hK => ?_) AllReadyH.nil
  go_simp
  refine (compare_any _ _ _).mono ?_
  rintro r w3 ⟨rfl, rfl⟩
  rw [← HY.out]
  dsimp only
  refine hK.out _ _ HC.out (fun hHeld => ?_)
  clear hK K
  try simp only [Act.put, List.setIfInBounds_toArray, List.set_cons_zero, List.set_cons_succ]
  refine wpAnyH_ready (rs := [10]) (by kernel_rfl) (by simp) ?_
  refine AllReadyH.cons (o := { dst := some 15, op := Op.buildSlice 127 2 #[(0, Operand.tmp 9), (1, Operand.tmp 14)], type := 127, pos := "memory.go:29", after := #[{ on := 4, ground := Ground.data }, { on := 9, ground := Ground.data }], guard := none }) rfl (fun K hK => ?_) AllReadyH.nil
  go_simp
  refine hK.out _ _ HD.out (fun hHeld => ?_)
  clear hK K
  try simp only [Act.put, List.setIfInBounds_toArray, List.set_cons_zero, List.set_cons_succ]
  refine wpAnyH_ready (rs := [11]) (by kernel_rfl) (by simp) ?_
  refine AllReadyH.cons (o := { dst := some 16, op := Op.call { callee := Callee.value (Operand.func 79), args := #[Operand.tmp 15], argTypes := #[127] }, type := 3, pos := "memory.go:29", after := #[{ on := 10, ground := Ground.data }, { on := 9, ground := Ground.chain }], guard := none }) rfl (fun K hK => ?_) AllReadyH.nil
  go_simp
  refine (or_any _ x y _ ((cell_at_drew rfl).trans rfl) ((cell_at_drew rfl).trans rfl)).mono ?_
  rintro r w3 ⟨rfl, rfl⟩
  dsimp only
  refine hK.out _ _ HD.out (fun hHeld => ?_)
  clear hK K
  try simp only [Act.put, List.setIfInBounds_toArray, List.set_cons_zero, List.set_cons_succ]
  refine tk (oi := { dst := some 17, op := Op.binOp BinOp.lss 3 (Operand.tmp 16) (Operand.const (Value.int IntKind.i64 0)) 3, type := 4, pos := "memory.go:29", after := #[{ on := 11, ground := Ground.data }], guard := none }) (v := ?_) 12 rfl ?_ ?_
  rotate_left
  · (intro w hSw; (try dsimp only at hSw); first | (go_simp; done) | (go_simp; with_reducible rfl))
  try simp only [Act.put, List.setIfInBounds_toArray, List.set_cons_zero, List.set_cons_succ]
  refine tk (oi := { dst := some 4, op := Op.assign (Operand.tmp 17), type := 4, pos := "memory.go:29", after := #[{ on := 12, ground := Ground.data }, { on := 11, ground := Ground.chain }, { on := 0, ground := Ground.phase }, { on := 1, ground := Ground.phase }, { on := 2, ground := Ground.phase }, { on := 3, ground := Ground.phase }, { on := 4, ground := Ground.phase }, { on := 5, ground := Ground.phase }, { on := 6, ground := Ground.phase }, { on := 7, ground := Ground.phase }, { on := 8, ground := Ground.phase }, { on := 9, ground := Ground.phase }, { on := 10, ground := Ground.phase }, { on := 11, ground := Ground.phase }, { on := 12, ground := Ground.phase }], guard := none }) (v := ?_) 13 rfl ?_ ?_
  rotate_left
  · (intro w hSw; (try dsimp only at hSw); first | (go_simp; done) | (go_simp; with_reducible rfl))
  try simp only [Act.put, List.setIfInBounds_toArray, List.set_cons_zero, List.set_cons_succ]
  refine wpAnyH_done (by kernel_rfl) ?_ _
  go_wp2_with (fail)
  go_ret
  exact ⟨rfl, (HB.out.alloc _).drew⟩
end Go.Proofs.Yteimllgoelleeaa
