/- TRef5, TRef4, TStand, GRPut, GRMrg, GRows, laid together. -/
import Derived.Test.YtmdkpomgckkllaaP7
import Derived.Deep.RegionHeld
import Derived.Test.YtmdkpomgckkllaaP5
import Derived.Deep.QuietTactic
import Derived.BigQuiet
set_option linter.unusedSimpArgs false
set_option linter.unusedVariables false
/- moultref10.Cites. -/
namespace Go.Proofs.Ytmdkpomgckkllaa
open Go.RowKit Go.Deep

/-- A store into a slice of one's own. -/
theorem OwnG.put {α : Type} {E : El α} {B : Nat} {w : World} {g n cap : Nat} {L L' : List α} (h : OwnG E B w (.slice (some ⟨g, 0, none⟩) n cap) L) (m : Nat) (u : Value) (hm : m < L.length * E.n) (hL : L'.length = L.length) (hset : E.all L' = (E.all L).set m u) :
    OwnG E B (w.setCell ⟨g, m, none⟩ u) (.slice (some ⟨g, 0, none⟩) n cap) L' := by
  obtain ⟨h1, h2⟩ := h
  rcases h2 with ⟨hv, _⟩ | ⟨g', cap', cur, hv, hg, hh, hc, hcm, hcs, htk⟩
  · cases hv
  · simp only [Value.slice.injEq, Option.some.injEq, Addr.mk.injEq, and_true, true_and] at hv
    obtain ⟨rfl, rfl, rfl⟩ := hv
    refine ⟨by rw [hset, List.length_set, hL]; exact h1, Or.inr ⟨g, cap, cur.setIfInBounds m u, by rw [hL], hg, ?_, by rw [hL]; exact hc, hcm, by simpa using hcs, ?_⟩⟩
    · simp [World.setCell, Array.getElem?_modify, hh]
    · rw [hset, ← htk, hL, Array.toList_setIfInBounds, List.take_set]
theorem El.all_drop {α : Type} {E : El α} {b : Nat} (hE : ElOk E b) (L : List α) (i : Nat) (hi : i ≤ L.length) : E.all (L.drop i) = (E.all L).drop (i * E.n) := by
  conv => rhs; rw [← List.take_append_drop i L, El.all_append]
  rw [List.drop_left' (by rw [El.all_len hE, List.length_take]; congr 1; omega)]
theorem El.all_take {α : Type} {E : El α} {b : Nat} (hE : ElOk E b) (L : List α) (i : Nat) (hi : i ≤ L.length) : E.all (L.take i) = (E.all L).take (i * E.n) := by
  conv => rhs; rw [← List.take_append_drop i L, El.all_append]
  rw [List.take_left' (by rw [El.all_len hE, List.length_take]; congr 1; omega)]
theorem add_any (g m : Nat) : (⟨g, 0, none⟩ : Addr).add m = ⟨g, m, none⟩ := by cases m <;> simp [Addr.add]
/-- A piece of a slice of one's own, to be appended. -/
theorem own_piece {α : Type} {E : El α} {b : Nat} (hE : ElOk E b) {B : Nat} {x : World} {g n cap : Nat} {L : List α} (h : OwnG E B x (.slice (some ⟨g, 0, none⟩) n cap) L) (i m c : Nat) (hi : i + m ≤ L.length) :
    SrcAt E x (.slice (some ⟨g, i * E.n, none⟩) m c) ((L.drop i).take m) := by
  have hl : ((L.drop i).take m).length = m := by rw [List.length_take, List.length_drop]; omega
  refine Or.inr ⟨_, c, by rw [hl], fun j u hj => ?_⟩
  rw [El.all_take hE _ _ (by rw [List.length_drop]; omega), El.all_drop hE _ _ (by omega)] at hj
  have hjm : j < m * E.n := by
    rcases Nat.lt_or_ge j (m * E.n) with h | h
    · exact h
    · rw [List.getElem?_eq_none (by rw [List.length_take]; omega)] at hj; cases hj
  rw [List.getElem?_take_of_lt hjm, List.getElem?_drop] at hj
  have := World.ownsRow.cells h rfl _ _ hj
  have e1 : (⟨g, 0, none⟩ : Addr).add (i * E.n + j) = ⟨g, i * E.n + j, none⟩ := add_any g _
  have e2 : (⟨g, i * E.n, none⟩ : Addr).add j = ⟨g, i * E.n + j, none⟩ := by cases j <;> simp [Addr.add]
  rw [e2, ← e1]; exact this
end Go.Proofs.Ytmdkpomgckkllaa
/- moultref10.Stand. -/
namespace Go.Proofs.Ytmdkpomgckkllaa
open Go.RowKit Go.Deep

end Go.Proofs.Ytmdkpomgckkllaa
/- moultlaw10.standing. -/
namespace Go.Proofs.Ytmdkpomgckkllaa
open Go.RowKit Go.Deep

/-- A slice of entries of one's own: where it lies, and what its cells hold. -/
theorem own_ents {B : Nat} {w : World} {v : Value} {C : List EB} (h : OwnG entEl B w v C) : (v = .slice none 0 0 ∧ C = []) ∨ ∃ g cap, v = .slice (some ⟨g, 0, none⟩) C.length cap ∧ B ≤ g ∧ g < w.heap.size ∧ C.length ≤ cap ∧ cap ≤ maxLen ∧
    ∀ i (hi : i < C.length), ∃ e, e = C[i] ∧ w.cell? ⟨g, i * 4, none⟩ = some (.string e.k) ∧ w.cell? ⟨g, i * 4 + 1, none⟩ = some (.int .i64 e.q) ∧ w.cell? ⟨g, i * 4 + 2, none⟩ = some (.bool e.d) ∧ w.cell? ⟨g, i * 4 + 3, none⟩ = some (.string e.v) := by
  have h0 := h
  rcases h.2 with ⟨hv, hl⟩ | ⟨g, cap, cur, rfl, hg, hh, hcap, hcm, _⟩
  · exact Or.inl ⟨hv, List.length_eq_zero_iff.1 hl⟩
  · have hlt : g < w.heap.size := (Array.getElem?_eq_some_iff.1 hh).1
    refine Or.inr ⟨g, cap, rfl, hg, hlt, hcap, hcm, fun i hi => ?_⟩
    obtain ⟨g', cap', hv, _, _, _, hc'⟩ := ownG_cells entOk h0 (fun e => by rw [e] at hi; simp at hi)
    simp only [Value.slice.injEq, Option.some.injEq, Addr.mk.injEq, and_true, true_and] at hv
    obtain ⟨rfl, rfl⟩ := hv
    exact ⟨C[i], rfl, hc' i C[i] (List.getElem?_eq_getElem hi) 0 _ rfl, hc' i C[i] (List.getElem?_eq_getElem hi) 1 _ rfl, hc' i C[i] (List.getElem?_eq_getElem hi) 2 _ rfl, hc' i C[i] (List.getElem?_eq_getElem hi) 3 _ rfl⟩
theorem add4 (g k : Nat) : (⟨g, 0, none⟩ : Addr).add (k * 4) = ⟨g, k * 4, none⟩ := add_any g _
end Go.Proofs.Ytmdkpomgckkllaa
/- moultref12's put: an entry goes into a list where it belongs. -/
set_option maxRecDepth 100000
namespace Go.Proofs.Ytmdkpomgckkllaa
open Go.RowKit Go.Deep

theorem tnew12 (w : World) (o : Obj) : (w.alloc o).heap[w.heap.size]? = some o := by
  show (w.heap.push o)[w.heap.size]? = some o
  simp
theorem cl12 {w x : World} {a : Addr} {v : Value} (hb : Bel w x) (h : w.cell? a = some v) : x.cell? a = some v := (Below.cell hb (blk_of_cell h)).trans h
theorem plim1a {lo hi : List EB} (h1 : lo.length ≤ 1000) (h2 : hi.length ≤ 1000) : ([] : List EB).length + lo.length ≤ maxLen := by unfold maxLen; simp only [List.length_nil]; omega
theorem plim1b {lo hi : List EB} (h1 : lo.length ≤ 1000) (h2 : hi.length ≤ 1000) : (([] : List EB).length + lo.length) * 48 ≤ 140737488355328 := by simp only [List.length_nil]; omega
theorem plim2a {lo hi : List EB} {e : EB} (h1 : lo.length ≤ 1000) (h2 : hi.length ≤ 1000) : lo.length + [e].length ≤ maxLen := by unfold maxLen; simp only [List.length_singleton]; omega
theorem plim2b {lo hi : List EB} {e : EB} (h1 : lo.length ≤ 1000) (h2 : hi.length ≤ 1000) : (lo.length + [e].length) * 48 ≤ 140737488355328 := by simp only [List.length_singleton]; omega
theorem plim3a {lo hi : List EB} {e : EB} (h1 : lo.length ≤ 1000) (h2 : hi.length ≤ 1000) : (lo ++ [e]).length + hi.length ≤ maxLen := by unfold maxLen; simp only [List.length_append, List.length_singleton]; omega
theorem plim3b {lo hi : List EB} {e : EB} (h1 : lo.length ≤ 1000) (h2 : hi.length ≤ 1000) : ((lo ++ [e]).length + hi.length) * 48 ≤ 140737488355328 := by simp only [List.length_append, List.length_singleton]; omega
theorem ins_here12 {C : List EB} {e : EB} {k : Nat} (hk : k ≤ C.length) (hall : ∀ j (h : j < C.length), j < k → lessB C[j] e = true) (hst : ∀ h : k < C.length, lessB C[k] e = false) (hg : ∀ h : k < C.length, lessB e C[k] = true) : insE e C = C.take k ++ [e] ++ C.drop k := by
  rw [ins_at e C k hk hall hst]
  by_cases h : k < C.length
  · rw [if_pos (Or.inr ⟨h, hg h⟩)]; simp
  · rw [if_pos (Or.inl (by omega))]; simp
theorem ins_there12 {C : List EB} {e : EB} {k : Nat} (hk : k < C.length) (hall : ∀ j (h : j < C.length), j < k → lessB C[j] e = true) (hst : lessB C[k] e = false) (hg : lessB e C[k] = false) : insE e C = C := by
  rw [ins_at e C k (by omega) hall (fun _ => hst), if_neg]
  rintro (h | ⟨_, h⟩)
  · omega
  · rw [hg] at h; cases h
set_option maxHeartbeats 8000000 in
theorem rput_any (B : Nat) (v : Value) (C : List EB) (e : EB) (w : World) (h : OwnG entEl B w v C) (hB : B ≤ w.heap.size) (hC : C.length ≤ 1000) (hCf : fitsL C) (hf : e.fits) :
    Calls Try.prog 27 #[v, .agg #[.string e.k, .int .i64 e.q, .bool e.d, .string e.v]] w fun r w' => ∃ v', r = .returned v' ∧ OwnG entEl B w' v' (insE e C) ∧ Bel w w' := by
  have HOWN := Lib.hid h
  have HF := Lib.hid hf; have HCF := Lib.hid hCf
  obtain ⟨w1, hw1⟩ : ∃ z, z = w.alloc (.cells #[.string e.k, .int .i64 e.q, .bool e.d, .string e.v] 36) := ⟨_, rfl⟩
  have hB1 : Bel w w1 := by rw [hw1]; exact (Bel.refl w).alloc _
  have kx : w1.heap[w.heap.size]? = some (.cells #[.string e.k, .int .i64 e.q, .bool e.d, .string e.v] 36 (0, 0)) := by rw [hw1]; exact tnew12 w _
  have x0 : w1.cell? ⟨w.heap.size, 0, none⟩ = some (.string e.k) := by simp [World.cell?, kx]
  have x1 : w1.cell? ⟨w.heap.size, 1, none⟩ = some (.int .i64 e.q) := by simp [World.cell?, kx]
  have x2 : w1.cell? ⟨w.heap.size, 2, none⟩ = some (.bool e.d) := by simp [World.cell?, kx]
  have x3 : w1.cell? ⟨w.heap.size, 3, none⟩ = some (.string e.v) := by simp [World.cell?, kx]
  have HB1 := Lib.hid hB1
  have HBB := Lib.hid hB
  clear h hf hCf kx hB1 hB
  rcases own_ents HOWN.out with ⟨hvn, hCn⟩ | ⟨g, cap0, hv2, hg, hgl, hcap2, hcm, hcells⟩
  · subst hvn hCn
    go_enter Try.func27, Try.ntmps27
    go_wp2_with (fail)
    rw [← hw1]
    clear hw1
    go_loopw [5] (fun kv x => kv = .int .i64 0 ∧ Bel w1 x) (fun kv _ => 0)
    case atStart => exact ⟨rfl, Bel.refl w1⟩
    case round =>
      obtain ⟨rfl, hw⟩ := hrel
      have HW := Lib.hid hw
      clear hw
      go_wp2_with (fail)
      go_quiet (fail)
      obtain ⟨za, hza⟩ : ∃ x, x = wr.drewN nq := ⟨_, rfl⟩
      have HZA := Lib.hid (show Bel w1 za by rw [hza]; exact HW.out.drewN nq)
      rw [← hza]
      clear hza
      go_wp2_with (fail)
      go_quiet (fail)
      obtain ⟨zb, hzb⟩ : ∃ x, x = za.drewN nq := ⟨_, rfl⟩
      have HZB := Lib.hid (show Bel w1 zb by rw [hzb]; exact HZA.out.drewN nq)
      rw [← hzb]
      clear hzb
      have HZW := Lib.hid (HB1.out.trans HZB.out)
      have q0 := cl12 HZB.out x0
      have q1 := cl12 HZB.out x1
      have q2 := cl12 HZB.out x2
      have q3 := cl12 HZB.out x3
      have HADD := Lib.hid (show insE e [] = [] ++ [e] ++ [] from rfl)
      have HS1 := Lib.hid (show ∀ x, Bel zb x → SrcAt entEl x (.slice none 0 0) [] from fun x _ => Or.inl ⟨rfl, rfl⟩)
      have HS2 := HS1
      have HL1 := Lib.hid (show ([] : List EB).length ≤ 1000 by simp)
      have HL2 := HL1
      go_wp2_with (fail)
      have HBR := Lib.hid (Bel.refl zb)
      have HS := Lib.hid (show ∀ y, Bel zb y → (y.cell? ⟨w.heap.size, 0, none⟩ = some (.string e.k) ∧ y.cell? ⟨w.heap.size, 1, none⟩ = some (.int .i64 e.q) ∧ y.cell? ⟨w.heap.size, 2, none⟩ = some (.bool e.d) ∧ y.cell? ⟨w.heap.size, 3, none⟩ = some (.string e.v)) from fun y hy => ⟨cl12 hy q0, cl12 hy q1, cl12 hy q2, cl12 hy q3⟩)
      refine wp_region_held_drew (S := fun y => (y.cell? ⟨w.heap.size, 0, none⟩ = some (.string e.k) ∧ y.cell? ⟨w.heap.size, 1, none⟩ = some (.int .i64 e.q) ∧ y.cell? ⟨w.heap.size, 2, none⟩ = some (.bool e.d) ∧ y.cell? ⟨w.heap.size, 3, none⟩ = some (.string e.v))) (by kernel_rfl) (HS.out _ (Bel.refl zb).drew) (fun hHeld => ?_)
      refine wpAnyH_take (i := 1) (oi := { dst := some 35, op := Op.move (Operand.tmp 0), type := 27, pos := "ref.go:38", after := #[], guard := none }) (v := ?_) rfl (by kernel_rfl) (by kernel_rfl) (by kernel_rfl) (fun _ _ _ h => h) (Or.inl ⟨by rfl, ?_⟩) (by assumption) ?_
      rotate_left
      · (intro w hSw; (try dsimp only at hSw); first | (go_simp; done) | (go_simp; with_reducible rfl))
      try simp only [Act.put, List.setIfInBounds_toArray, List.set_cons_zero, List.set_cons_succ]
      refine wpAnyH_take (i := 2) (oi := { dst := some 36, op := Op.move (Operand.tmp 5), type := 3, pos := "ref.go:38", after := #[], guard := none }) (v := ?_) rfl (by kernel_rfl) (by kernel_rfl) (by kernel_rfl) (fun _ _ _ h => h) (Or.inl ⟨by rfl, ?_⟩) (by assumption) ?_
      rotate_left
      · (intro w hSw; (try dsimp only at hSw); first | (go_simp; done) | (go_simp; with_reducible rfl))
      try simp only [Act.put, List.setIfInBounds_toArray, List.set_cons_zero, List.set_cons_succ]
      refine wpAnyH_take (i := 3) (oi := { dst := some 37, op := Op.slice 27 (Operand.tmp 35) none (some (Operand.tmp 36)) none, type := 27, pos := "ref.go:38", after := #[{ on := 1, ground := Ground.data }, { on := 2, ground := Ground.data }], guard := none }) (v := ?_) rfl (by kernel_rfl) (by kernel_rfl) (by kernel_rfl) (fun _ _ _ h => h) (Or.inl ⟨by rfl, ?_⟩) (by assumption) ?_
      rotate_left
      · (intro w hSw; (try dsimp only at hSw); first | (go_simp; done) | (go_simp; with_reducible rfl))
      try simp only [Act.put, List.setIfInBounds_toArray, List.set_cons_zero, List.set_cons_succ]
      refine wpAnyH_take (i := 5) (oi := { dst := some 39, op := Op.load 36 (Operand.tmp 3), type := 36, pos := "ref.go:38", after := #[], guard := none }) (v := ?_) rfl (by kernel_rfl) (by kernel_rfl) (by kernel_rfl) (fun _ _ _ h => h) (Or.inl ⟨by rfl, ?_⟩) (by assumption) ?_
      rotate_left
      · (intro w hSw; (try dsimp only at hSw); first | (go_simp; done) | (go_simp; with_reducible rfl))
      try simp only [Act.put, List.setIfInBounds_toArray, List.set_cons_zero, List.set_cons_succ]
      refine wpAnyH_take (i := 8) (oi := { dst := some 42, op := Op.move (Operand.tmp 0), type := 27, pos := "ref.go:38", after := #[], guard := none }) (v := ?_) rfl (by kernel_rfl) (by kernel_rfl) (by kernel_rfl) (fun _ _ _ h => h) (Or.inl ⟨by rfl, ?_⟩) (by assumption) ?_
      rotate_left
      · (intro w hSw; (try dsimp only at hSw); first | (go_simp; done) | (go_simp; with_reducible rfl))
      try simp only [Act.put, List.setIfInBounds_toArray, List.set_cons_zero, List.set_cons_succ]
      refine wpAnyH_take (i := 9) (oi := { dst := some 43, op := Op.move (Operand.tmp 5), type := 3, pos := "ref.go:38", after := #[], guard := none }) (v := ?_) rfl (by kernel_rfl) (by kernel_rfl) (by kernel_rfl) (fun _ _ _ h => h) (Or.inl ⟨by rfl, ?_⟩) (by assumption) ?_
      rotate_left
      · (intro w hSw; (try dsimp only at hSw); first | (go_simp; done) | (go_simp; with_reducible rfl))
      try simp only [Act.put, List.setIfInBounds_toArray, List.set_cons_zero, List.set_cons_succ]
      refine wpAnyH_take (i := 10) (oi := { dst := some 44, op := Op.slice 27 (Operand.tmp 42) (some (Operand.tmp 43)) none none, type := 27, pos := "ref.go:38", after := #[{ on := 8, ground := Ground.data }, { on := 9, ground := Ground.data }], guard := none }) (v := ?_) rfl (by kernel_rfl) (by kernel_rfl) (by kernel_rfl) (fun _ _ _ h => h) (Or.inl ⟨by rfl, ?_⟩) (by assumption) ?_
      rotate_left
      · (intro w hSw; (try dsimp only at hSw); first | (go_simp; done) | (go_simp; with_reducible rfl))
      try simp only [Act.put, List.setIfInBounds_toArray, List.set_cons_zero, List.set_cons_succ]
      refine wpAnyH_ready (rs := [0, 6]) (by kernel_rfl) (by simp) ?_
      refine (AllReadyH.cons (o := { dst := some 34, op := Op.buildSlice 27 0 #[], type := 27, pos := "ref.go:38", after := #[], guard := none }) rfl (fun K hK => ?_) (AllReadyH.cons (o := { dst := some 40, op := Op.buildSlice 27 1 #[(0, Operand.tmp 39)], type := 27, pos := "ref.go:38", after := #[{ on := 5, ground := Ground.data }], guard := none }) rfl (fun K hK => ?_) AllReadyH.nil))
      · go_simp
        have hbq : Bel zb (zb.alloc (.cells #[] 36)).drew := ((Bel.refl zb).alloc _).drew
        refine hK.out _ _ (HS.out _ (HBR.out.trans hbq)) (fun hHeld => ?_)
        clear hbq
        clear hK K
        try simp only [Act.put, List.setIfInBounds_toArray, List.set_cons_zero, List.set_cons_succ]
        obtain ⟨z1, hz1⟩ : ∃ x, x = (zb.alloc (.cells #[] 36)).drew := ⟨_, rfl⟩
        have HLE := Lib.hid (show z1.heap[zb.heap.size]? = some (.cells #[] 36 (0, 0)) by rw [hz1]; exact tnew12 zb (.cells #[] 36))
        have hltE : zb.heap.size < z1.heap.size := (Array.getElem?_eq_some_iff.1 HLE.out).1
        have hbz1 : Bel zb z1 := by rw [hz1]; exact ((Bel.refl zb).alloc _).drew
        have HBz1 := Lib.hid (HBR.out.trans hbz1)
        rw [← hz1] at hHeld ⊢
        clear hz1
        have HOE := Lib.hid (ownG_empty (E := entEl) (n := zb.heap.size) HLE.out HBR.out.size)
        refine wpAnyH_ready (rs := [4, 6]) (by kernel_rfl) (by simp) ?_
        refine (AllReadyH.cons (o := { dst := some 38, op := Op.call { callee := Callee.builtin Builtin.append, args := #[Operand.tmp 34, Operand.tmp 37], argTypes := #[27, 27] }, type := 27, pos := "ref.go:38", after := #[{ on := 0, ground := Ground.data }, { on := 3, ground := Ground.data }], guard := none }) rfl (fun K hK => ?_) (AllReadyH.cons (o := { dst := some 40, op := Op.buildSlice 27 1 #[(0, Operand.tmp 39)], type := 27, pos := "ref.go:38", after := #[{ on := 5, ground := Ground.data }], guard := none }) rfl (fun K hK => ?_) AllReadyH.nil))
        · refine step_append_all entOk rfl (.tmp 34) (.tmp 37) rfl rfl HOE.out ([]) rfl (HS1.out z1 HBz1.out) (plim1a HL1.out HL2.out) (plim1b HL1.out HL2.out) HBz1.out.size ?_
          intro vz2 z2 hoz2 hkz2 _
          have HBz2 := Lib.hid (show Bel zb z2 from HBz1.out.trans_below (hkz2.own HBz1.out.size (fun kk hkk => (HOE.out.lt kk hkk).1)))
          rw [List.nil_append] at hoz2
          have hkkz2 : Keep (Value.ownBlock (.slice (some ⟨zb.heap.size, 0, none⟩) 0 0)).toList z1 z2 := hkz2
          have HO2 := Lib.hid hoz2
          clear hoz2 hkz2 hkkz2
          refine hK.out _ _ (HS.out _ HBz2.out) (fun hHeld => ?_)
          clear hK K
          try simp only [Act.put, List.setIfInBounds_toArray, List.set_cons_zero, List.set_cons_succ]
          refine wpAnyH_ready (rs := [6]) (by kernel_rfl) (by simp) ?_
          refine AllReadyH.cons (o := { dst := some 40, op := Op.buildSlice 27 1 #[(0, Operand.tmp 39)], type := 27, pos := "ref.go:38", after := #[{ on := 5, ground := Ground.data }], guard := none }) rfl (fun K hK => ?_) AllReadyH.nil
          go_simp
          have hbq : Bel z2 (z2.alloc (.cells #[.string e.k, .int .i64 e.q, .bool e.d, .string e.v] 36)) := ((Bel.refl z2).alloc _)
          refine hK.out _ _ (HS.out _ (HBz2.out.trans hbq)) (fun hHeld => ?_)
          clear hbq
          clear hK K
          try simp only [Act.put, List.setIfInBounds_toArray, List.set_cons_zero, List.set_cons_succ]
          obtain ⟨z3, hz3⟩ : ∃ x, x = (z2.alloc (.cells #[.string e.k, .int .i64 e.q, .bool e.d, .string e.v] 36)) := ⟨_, rfl⟩
          have HLL := Lib.hid (show z3.heap[z2.heap.size]? = some (.cells #[.string e.k, .int .i64 e.q, .bool e.d, .string e.v] 36 (0, 0)) by rw [hz3]; exact tnew12 z2 (.cells #[.string e.k, .int .i64 e.q, .bool e.d, .string e.v] 36))
          have hltL : z2.heap.size < z3.heap.size := (Array.getElem?_eq_some_iff.1 HLL.out).1
          have hbz3 : Bel z2 z3 := by rw [hz3]; exact ((Bel.refl z2).alloc _)
          have HBz3 := Lib.hid (HBz2.out.trans hbz3)
          rw [← hz3] at hHeld ⊢
          clear hz3
          have HO2b := Lib.hid (HO2.out.bel hbz3)
          refine wpAnyH_ready (rs := [7]) (by kernel_rfl) (by simp) ?_
          refine AllReadyH.cons (o := { dst := some 41, op := Op.call { callee := Callee.builtin Builtin.append, args := #[Operand.tmp 38, Operand.tmp 40], argTypes := #[27, 27] }, type := 27, pos := "ref.go:38", after := #[{ on := 4, ground := Ground.data }, { on := 6, ground := Ground.data }, { on := 4, ground := Ground.chain }], guard := none }) rfl (fun K hK => ?_) AllReadyH.nil
          refine step_append_all entOk rfl (.tmp 38) (.tmp 40) rfl rfl HO2b.out ([e]) rfl (src_at [e] HLL.out rfl rfl) (plim2a HL1.out HL2.out) (plim2b HL1.out HL2.out) HBz3.out.size ?_
          intro vz4 z4 hoz4 hkz4 _
          have HBz4 := Lib.hid (show Bel zb z4 from HBz3.out.trans_below (hkz4.own HBz3.out.size (fun kk hkk => (HO2b.out.lt kk hkk).1)))
          have HO3 := Lib.hid hoz4
          clear hoz4 hkz4
          refine hK.out _ _ (HS.out _ HBz4.out) (fun hHeld => ?_)
          clear hK K
          try simp only [Act.put, List.setIfInBounds_toArray, List.set_cons_zero, List.set_cons_succ]
          refine wpAnyH_ready (rs := [11]) (by kernel_rfl) (by simp) ?_
          refine AllReadyH.cons (o := { dst := some 45, op := Op.call { callee := Callee.builtin Builtin.append, args := #[Operand.tmp 41, Operand.tmp 44], argTypes := #[27, 27] }, type := 27, pos := "ref.go:38", after := #[{ on := 7, ground := Ground.data }, { on := 10, ground := Ground.data }, { on := 7, ground := Ground.chain }], guard := none }) rfl (fun K hK => ?_) AllReadyH.nil
          refine step_append_all entOk rfl (.tmp 41) (.tmp 44) rfl rfl HO3.out ([]) rfl (HS2.out z4 HBz4.out) (plim3a HL1.out HL2.out) (plim3b HL1.out HL2.out) HBz4.out.size ?_
          intro vz5 z5 hoz5 hkz5 _
          have HBz5 := Lib.hid (show Bel zb z5 from HBz4.out.trans_below (hkz5.own HBz4.out.size (fun kk hkk => (HO3.out.lt kk hkk).1)))
          have HO4 := Lib.hid hoz5
          clear hoz5 hkz5
          refine hK.out _ _ (HS.out _ HBz5.out) (fun hHeld => ?_)
          clear hK K
          try simp only [Act.put, List.setIfInBounds_toArray, List.set_cons_zero, List.set_cons_succ]
          refine wpAnyH_take (i := 12) (oi := { dst := some 4, op := Op.assign (Operand.tmp 45), type := 27, pos := "ref.go:38", after := #[{ on := 11, ground := Ground.data }, { on := 11, ground := Ground.chain }, { on := 0, ground := Ground.phase }, { on := 1, ground := Ground.phase }, { on := 2, ground := Ground.phase }, { on := 3, ground := Ground.phase }, { on := 4, ground := Ground.phase }, { on := 5, ground := Ground.phase }, { on := 6, ground := Ground.phase }, { on := 7, ground := Ground.phase }, { on := 8, ground := Ground.phase }, { on := 9, ground := Ground.phase }, { on := 10, ground := Ground.phase }, { on := 11, ground := Ground.phase }], guard := none }) (v := ?_) rfl (by kernel_rfl) (by kernel_rfl) (by kernel_rfl) (fun _ _ _ h => h) (Or.inl ⟨by rfl, ?_⟩) (by assumption) ?_
          rotate_left
          · (intro w hSw; (try dsimp only at hSw); first | (go_simp; done) | (go_simp; with_reducible rfl))
          try simp only [Act.put, List.setIfInBounds_toArray, List.set_cons_zero, List.set_cons_succ]
          refine wpAnyH_done (by kernel_rfl) ?_ _
          go_wp2_with (fail)
          go_ret
          exact ⟨_, rfl, by rw [HADD.out]; exact HO4.out.low (Nat.le_trans HBB.out HZW.out.size), HZW.out.trans HBz5.out⟩
        · go_simp
          have hbq : Bel z1 (z1.alloc (.cells #[.string e.k, .int .i64 e.q, .bool e.d, .string e.v] 36)) := ((Bel.refl z1).alloc _)
          refine hK.out _ _ (HS.out _ (HBz1.out.trans hbq)) (fun hHeld => ?_)
          clear hbq
          clear hK K
          try simp only [Act.put, List.setIfInBounds_toArray, List.set_cons_zero, List.set_cons_succ]
          obtain ⟨z2, hz2⟩ : ∃ x, x = (z1.alloc (.cells #[.string e.k, .int .i64 e.q, .bool e.d, .string e.v] 36)) := ⟨_, rfl⟩
          have HLL := Lib.hid (show z2.heap[z1.heap.size]? = some (.cells #[.string e.k, .int .i64 e.q, .bool e.d, .string e.v] 36 (0, 0)) by rw [hz2]; exact tnew12 z1 (.cells #[.string e.k, .int .i64 e.q, .bool e.d, .string e.v] 36))
          have hltL : z1.heap.size < z2.heap.size := (Array.getElem?_eq_some_iff.1 HLL.out).1
          have hbz2 : Bel z1 z2 := by rw [hz2]; exact ((Bel.refl z1).alloc _)
          have HBz2 := Lib.hid (HBz1.out.trans hbz2)
          rw [← hz2] at hHeld ⊢
          clear hz2
          have HOE2 := Lib.hid (HOE.out.bel hbz2)
          refine wpAnyH_ready (rs := [4]) (by kernel_rfl) (by simp) ?_
          refine AllReadyH.cons (o := { dst := some 38, op := Op.call { callee := Callee.builtin Builtin.append, args := #[Operand.tmp 34, Operand.tmp 37], argTypes := #[27, 27] }, type := 27, pos := "ref.go:38", after := #[{ on := 0, ground := Ground.data }, { on := 3, ground := Ground.data }], guard := none }) rfl (fun K hK => ?_) AllReadyH.nil
          refine step_append_all entOk rfl (.tmp 34) (.tmp 37) rfl rfl HOE2.out ([]) rfl (HS1.out z2 HBz2.out) (plim1a HL1.out HL2.out) (plim1b HL1.out HL2.out) HBz2.out.size ?_
          intro vz3 z3 hoz3 hkz3 _
          have HBz3 := Lib.hid (show Bel zb z3 from HBz2.out.trans_below (hkz3.own HBz2.out.size (fun kk hkk => (HOE2.out.lt kk hkk).1)))
          rw [List.nil_append] at hoz3
          have hkkz3 : Keep (Value.ownBlock (.slice (some ⟨zb.heap.size, 0, none⟩) 0 0)).toList z2 z3 := hkz3
          have HLL3 := Lib.hid (hkkz3.at HLL.out (fun hm => by rw [Option.mem_toList] at hm; simp only [Value.ownBlock, Option.some.injEq] at hm; omega))
          have HO2 := Lib.hid hoz3
          clear hoz3 hkz3 hkkz3
          refine hK.out _ _ (HS.out _ HBz3.out) (fun hHeld => ?_)
          clear hK K
          try simp only [Act.put, List.setIfInBounds_toArray, List.set_cons_zero, List.set_cons_succ]
          refine wpAnyH_ready (rs := [7]) (by kernel_rfl) (by simp) ?_
          refine AllReadyH.cons (o := { dst := some 41, op := Op.call { callee := Callee.builtin Builtin.append, args := #[Operand.tmp 38, Operand.tmp 40], argTypes := #[27, 27] }, type := 27, pos := "ref.go:38", after := #[{ on := 4, ground := Ground.data }, { on := 6, ground := Ground.data }, { on := 4, ground := Ground.chain }], guard := none }) rfl (fun K hK => ?_) AllReadyH.nil
          refine step_append_all entOk rfl (.tmp 38) (.tmp 40) rfl rfl HO2.out ([e]) rfl (src_at [e] HLL3.out rfl rfl) (plim2a HL1.out HL2.out) (plim2b HL1.out HL2.out) HBz3.out.size ?_
          intro vz4 z4 hoz4 hkz4 _
          have HBz4 := Lib.hid (show Bel zb z4 from HBz3.out.trans_below (hkz4.own HBz3.out.size (fun kk hkk => (HO2.out.lt kk hkk).1)))
          have HO3 := Lib.hid hoz4
          clear hoz4 hkz4
          refine hK.out _ _ (HS.out _ HBz4.out) (fun hHeld => ?_)
          clear hK K
          try simp only [Act.put, List.setIfInBounds_toArray, List.set_cons_zero, List.set_cons_succ]
          refine wpAnyH_ready (rs := [11]) (by kernel_rfl) (by simp) ?_
          refine AllReadyH.cons (o := { dst := some 45, op := Op.call { callee := Callee.builtin Builtin.append, args := #[Operand.tmp 41, Operand.tmp 44], argTypes := #[27, 27] }, type := 27, pos := "ref.go:38", after := #[{ on := 7, ground := Ground.data }, { on := 10, ground := Ground.data }, { on := 7, ground := Ground.chain }], guard := none }) rfl (fun K hK => ?_) AllReadyH.nil
          refine step_append_all entOk rfl (.tmp 41) (.tmp 44) rfl rfl HO3.out ([]) rfl (HS2.out z4 HBz4.out) (plim3a HL1.out HL2.out) (plim3b HL1.out HL2.out) HBz4.out.size ?_
          intro vz5 z5 hoz5 hkz5 _
          have HBz5 := Lib.hid (show Bel zb z5 from HBz4.out.trans_below (hkz5.own HBz4.out.size (fun kk hkk => (HO3.out.lt kk hkk).1)))
          have HO4 := Lib.hid hoz5
          clear hoz5 hkz5
          refine hK.out _ _ (HS.out _ HBz5.out) (fun hHeld => ?_)
          clear hK K
          try simp only [Act.put, List.setIfInBounds_toArray, List.set_cons_zero, List.set_cons_succ]
          refine wpAnyH_take (i := 12) (oi := { dst := some 4, op := Op.assign (Operand.tmp 45), type := 27, pos := "ref.go:38", after := #[{ on := 11, ground := Ground.data }, { on := 11, ground := Ground.chain }, { on := 0, ground := Ground.phase }, { on := 1, ground := Ground.phase }, { on := 2, ground := Ground.phase }, { on := 3, ground := Ground.phase }, { on := 4, ground := Ground.phase }, { on := 5, ground := Ground.phase }, { on := 6, ground := Ground.phase }, { on := 7, ground := Ground.phase }, { on := 8, ground := Ground.phase }, { on := 9, ground := Ground.phase }, { on := 10, ground := Ground.phase }, { on := 11, ground := Ground.phase }], guard := none }) (v := ?_) rfl (by kernel_rfl) (by kernel_rfl) (by kernel_rfl) (fun _ _ _ h => h) (Or.inl ⟨by rfl, ?_⟩) (by assumption) ?_
          rotate_left
          · (intro w hSw; (try dsimp only at hSw); first | (go_simp; done) | (go_simp; with_reducible rfl))
          try simp only [Act.put, List.setIfInBounds_toArray, List.set_cons_zero, List.set_cons_succ]
          refine wpAnyH_done (by kernel_rfl) ?_ _
          go_wp2_with (fail)
          go_ret
          exact ⟨_, rfl, by rw [HADD.out]; exact HO4.out.low (Nat.le_trans HBB.out HZW.out.size), HZW.out.trans HBz5.out⟩
      · go_simp
        have hbq : Bel zb (zb.alloc (.cells #[.string e.k, .int .i64 e.q, .bool e.d, .string e.v] 36)).drew := ((Bel.refl zb).alloc _).drew
        refine hK.out _ _ (HS.out _ (HBR.out.trans hbq)) (fun hHeld => ?_)
        clear hbq
        clear hK K
        try simp only [Act.put, List.setIfInBounds_toArray, List.set_cons_zero, List.set_cons_succ]
        obtain ⟨z1, hz1⟩ : ∃ x, x = (zb.alloc (.cells #[.string e.k, .int .i64 e.q, .bool e.d, .string e.v] 36)).drew := ⟨_, rfl⟩
        have HLL := Lib.hid (show z1.heap[zb.heap.size]? = some (.cells #[.string e.k, .int .i64 e.q, .bool e.d, .string e.v] 36 (0, 0)) by rw [hz1]; exact tnew12 zb (.cells #[.string e.k, .int .i64 e.q, .bool e.d, .string e.v] 36))
        have hltL : zb.heap.size < z1.heap.size := (Array.getElem?_eq_some_iff.1 HLL.out).1
        have hbz1 : Bel zb z1 := by rw [hz1]; exact ((Bel.refl zb).alloc _).drew
        have HBz1 := Lib.hid (HBR.out.trans hbz1)
        rw [← hz1] at hHeld ⊢
        clear hz1
        refine wpAnyH_ready (rs := [0]) (by kernel_rfl) (by simp) ?_
        refine AllReadyH.cons (o := { dst := some 34, op := Op.buildSlice 27 0 #[], type := 27, pos := "ref.go:38", after := #[], guard := none }) rfl (fun K hK => ?_) AllReadyH.nil
        go_simp
        have hbq : Bel z1 (z1.alloc (.cells #[] 36)) := ((Bel.refl z1).alloc _)
        refine hK.out _ _ (HS.out _ (HBz1.out.trans hbq)) (fun hHeld => ?_)
        clear hbq
        clear hK K
        try simp only [Act.put, List.setIfInBounds_toArray, List.set_cons_zero, List.set_cons_succ]
        obtain ⟨z2, hz2⟩ : ∃ x, x = (z1.alloc (.cells #[] 36)) := ⟨_, rfl⟩
        have HLE := Lib.hid (show z2.heap[z1.heap.size]? = some (.cells #[] 36 (0, 0)) by rw [hz2]; exact tnew12 z1 (.cells #[] 36))
        have hltE : z1.heap.size < z2.heap.size := (Array.getElem?_eq_some_iff.1 HLE.out).1
        have hbz2 : Bel z1 z2 := by rw [hz2]; exact ((Bel.refl z1).alloc _)
        have HBz2 := Lib.hid (HBz1.out.trans hbz2)
        rw [← hz2] at hHeld ⊢
        clear hz2
        have HOE := Lib.hid (ownG_empty (E := entEl) (n := zb.heap.size) HLE.out HBz1.out.size)
        have HLL2 := Lib.hid ((Below.block hbz2 zb.heap.size (by omega)).trans HLL.out)
        refine wpAnyH_ready (rs := [4]) (by kernel_rfl) (by simp) ?_
        refine AllReadyH.cons (o := { dst := some 38, op := Op.call { callee := Callee.builtin Builtin.append, args := #[Operand.tmp 34, Operand.tmp 37], argTypes := #[27, 27] }, type := 27, pos := "ref.go:38", after := #[{ on := 0, ground := Ground.data }, { on := 3, ground := Ground.data }], guard := none }) rfl (fun K hK => ?_) AllReadyH.nil
        refine step_append_all entOk rfl (.tmp 34) (.tmp 37) rfl rfl HOE.out ([]) rfl (HS1.out z2 HBz2.out) (plim1a HL1.out HL2.out) (plim1b HL1.out HL2.out) HBz2.out.size ?_
        intro vz3 z3 hoz3 hkz3 _
        have HBz3 := Lib.hid (show Bel zb z3 from HBz2.out.trans_below (hkz3.own HBz2.out.size (fun kk hkk => (HOE.out.lt kk hkk).1)))
        rw [List.nil_append] at hoz3
        have hkkz3 : Keep (Value.ownBlock (.slice (some ⟨z1.heap.size, 0, none⟩) 0 0)).toList z2 z3 := hkz3
        have HLL3 := Lib.hid (hkkz3.at HLL2.out (fun hm => by rw [Option.mem_toList] at hm; simp only [Value.ownBlock, Option.some.injEq] at hm; omega))
        have HO2 := Lib.hid hoz3
        clear hoz3 hkz3 hkkz3
        refine hK.out _ _ (HS.out _ HBz3.out) (fun hHeld => ?_)
        clear hK K
        try simp only [Act.put, List.setIfInBounds_toArray, List.set_cons_zero, List.set_cons_succ]
        refine wpAnyH_ready (rs := [7]) (by kernel_rfl) (by simp) ?_
        refine AllReadyH.cons (o := { dst := some 41, op := Op.call { callee := Callee.builtin Builtin.append, args := #[Operand.tmp 38, Operand.tmp 40], argTypes := #[27, 27] }, type := 27, pos := "ref.go:38", after := #[{ on := 4, ground := Ground.data }, { on := 6, ground := Ground.data }, { on := 4, ground := Ground.chain }], guard := none }) rfl (fun K hK => ?_) AllReadyH.nil
        refine step_append_all entOk rfl (.tmp 38) (.tmp 40) rfl rfl HO2.out ([e]) rfl (src_at [e] HLL3.out rfl rfl) (plim2a HL1.out HL2.out) (plim2b HL1.out HL2.out) HBz3.out.size ?_
        intro vz4 z4 hoz4 hkz4 _
        have HBz4 := Lib.hid (show Bel zb z4 from HBz3.out.trans_below (hkz4.own HBz3.out.size (fun kk hkk => (HO2.out.lt kk hkk).1)))
        have HO3 := Lib.hid hoz4
        clear hoz4 hkz4
        refine hK.out _ _ (HS.out _ HBz4.out) (fun hHeld => ?_)
        clear hK K
        try simp only [Act.put, List.setIfInBounds_toArray, List.set_cons_zero, List.set_cons_succ]
        refine wpAnyH_ready (rs := [11]) (by kernel_rfl) (by simp) ?_
        refine AllReadyH.cons (o := { dst := some 45, op := Op.call { callee := Callee.builtin Builtin.append, args := #[Operand.tmp 41, Operand.tmp 44], argTypes := #[27, 27] }, type := 27, pos := "ref.go:38", after := #[{ on := 7, ground := Ground.data }, { on := 10, ground := Ground.data }, { on := 7, ground := Ground.chain }], guard := none }) rfl (fun K hK => ?_) AllReadyH.nil
        refine step_append_all entOk rfl (.tmp 41) (.tmp 44) rfl rfl HO3.out ([]) rfl (HS2.out z4 HBz4.out) (plim3a HL1.out HL2.out) (plim3b HL1.out HL2.out) HBz4.out.size ?_
        intro vz5 z5 hoz5 hkz5 _
        have HBz5 := Lib.hid (show Bel zb z5 from HBz4.out.trans_below (hkz5.own HBz4.out.size (fun kk hkk => (HO3.out.lt kk hkk).1)))
        have HO4 := Lib.hid hoz5
        clear hoz5 hkz5
        refine hK.out _ _ (HS.out _ HBz5.out) (fun hHeld => ?_)
        clear hK K
        try simp only [Act.put, List.setIfInBounds_toArray, List.set_cons_zero, List.set_cons_succ]
        refine wpAnyH_take (i := 12) (oi := { dst := some 4, op := Op.assign (Operand.tmp 45), type := 27, pos := "ref.go:38", after := #[{ on := 11, ground := Ground.data }, { on := 11, ground := Ground.chain }, { on := 0, ground := Ground.phase }, { on := 1, ground := Ground.phase }, { on := 2, ground := Ground.phase }, { on := 3, ground := Ground.phase }, { on := 4, ground := Ground.phase }, { on := 5, ground := Ground.phase }, { on := 6, ground := Ground.phase }, { on := 7, ground := Ground.phase }, { on := 8, ground := Ground.phase }, { on := 9, ground := Ground.phase }, { on := 10, ground := Ground.phase }, { on := 11, ground := Ground.phase }], guard := none }) (v := ?_) rfl (by kernel_rfl) (by kernel_rfl) (by kernel_rfl) (fun _ _ _ h => h) (Or.inl ⟨by rfl, ?_⟩) (by assumption) ?_
        rotate_left
        · (intro w hSw; (try dsimp only at hSw); first | (go_simp; done) | (go_simp; with_reducible rfl))
        try simp only [Act.put, List.setIfInBounds_toArray, List.set_cons_zero, List.set_cons_succ]
        refine wpAnyH_done (by kernel_rfl) ?_ _
        go_wp2_with (fail)
        go_ret
        exact ⟨_, rfl, by rw [HADD.out]; exact HO4.out.low (Nat.le_trans HBB.out HZW.out.size), HZW.out.trans HBz5.out⟩
  · subst hv2
    have HCELLS := Lib.hid hcells
    unfold maxLen at hcm
    clear hcells
    go_enter Try.func27, Try.ntmps27
    go_wp2_with (fail)
    rw [← hw1]
    clear hw1
    go_loopw [5] (fun kv x => (∃ k : Nat, k ≤ C.length ∧ kv = .int .i64 k ∧ ∀ j (h : j < C.length), j < k → lessB C[j] e = true) ∧ Bel w1 x) (fun kv _ => C.length - (intOf kv).toNat)
    case atStart => exact ⟨⟨0, Nat.zero_le _, rfl, fun j _ h => by omega⟩, Bel.refl w1⟩
    case round =>
      obtain ⟨⟨k, hk, rfl, hall⟩, hw⟩ := hrel
      have hka := add4 g k
      have hkw : IntKind.i64.wrap (k : Int) = k := by rw [IntKind.wrap_i64]; omega
      have HW := Lib.hid hw
      have HALL := Lib.hid hall
      have u0 := cl12 hw x0
      have u1 := cl12 hw x1
      have u2 := cl12 hw x2
      have u3 := cl12 hw x3
      by_cases hkl : k < C.length
      · obtain ⟨ck, hck, z0, z1, z2, z3⟩ := HCELLS.out k hkl
        have hbw : Bel w wr := HB1.out.trans hw
        have y0 := cl12 hbw z0
        have y1 := cl12 hbw z1
        have y2 := cl12 hbw z2
        have y3 := cl12 hbw z3
        have hfk : ck.fits := by rw [hck]; exact fits_at HCF.out hkl
        have hkli : (k : Int) < (C.length : Int) := by omega
        have HAN := Lib.hid (show lessB ck e = true → ∀ j (h : j < C.length), j < k + 1 → lessB C[j] e = true from fun hh j h hj => by
          by_cases e' : j = k
          · subst e'; rw [← hck]; exact hh
          · exact hall j h (by omega))
        have HINS := Lib.hid (show lessB ck e = false → lessB e ck = true → insE e C = C.take k ++ [e] ++ C.drop k from fun h1 h2 => ins_here12 hk HALL.out (fun _ => by rw [← hck]; exact h1) (fun _ => by rw [← hck]; exact h2))
        have HOLD := Lib.hid (show lessB ck e = false → lessB e ck = false → insE e C = C from fun h1 h2 => ins_there12 hkl HALL.out (by rw [← hck]; exact h1) (by rw [← hck]; exact h2))
        have HFK := Lib.hid hfk
        have HKL := Lib.hid hkl
        clear hw z0 z1 z2 z3 hck hfk hall hkl hbw
        go_wp2_with (fail)
        refine wp_region_held_drew (S := fun z => (z.cell? ⟨w.heap.size, 0, none⟩ = some (.string e.k) ∧ z.cell? ⟨w.heap.size, 1, none⟩ = some (.int .i64 e.q) ∧ z.cell? ⟨w.heap.size, 2, none⟩ = some (.bool e.d) ∧ z.cell? ⟨w.heap.size, 3, none⟩ = some (.string e.v)) ∧ z.cell? ⟨g, k * 4, none⟩ = some (.string ck.k) ∧ z.cell? ⟨g, k * 4 + 1, none⟩ = some (.int .i64 ck.q) ∧ z.cell? ⟨g, k * 4 + 2, none⟩ = some (.bool ck.d) ∧ z.cell? ⟨g, k * 4 + 3, none⟩ = some (.string ck.v)) (by kernel_rfl) ⟨⟨u0, u1, u2, u3⟩, y0, y1, y2, y3⟩ (fun hHeld => ?_)
        refine wpAnyH_take (i := 0) (oi := { dst := some 6, op := Op.move (Operand.tmp 5), type := 3, pos := "ref.go:32", after := #[], guard := none }) (v := ?_) rfl (by kernel_rfl) (by kernel_rfl) (by kernel_rfl) (fun _ _ _ h => h) (Or.inl ⟨by rfl, ?_⟩) (by assumption) ?_
        rotate_left
        · (intro w hSw; (try dsimp only at hSw); first | (go_simp; done) | (go_simp; with_reducible rfl))
        try simp only [Act.put, List.setIfInBounds_toArray, List.set_cons_zero, List.set_cons_succ]
        refine wpAnyH_take (i := 1) (oi := { dst := some 7, op := Op.move (Operand.tmp 0), type := 27, pos := "ref.go:32", after := #[], guard := none }) (v := ?_) rfl (by kernel_rfl) (by kernel_rfl) (by kernel_rfl) (fun _ _ _ h => h) (Or.inl ⟨by rfl, ?_⟩) (by assumption) ?_
        rotate_left
        · (intro w hSw; (try dsimp only at hSw); first | (go_simp; done) | (go_simp; with_reducible rfl))
        try simp only [Act.put, List.setIfInBounds_toArray, List.set_cons_zero, List.set_cons_succ]
        refine wpAnyH_take (i := 2) (oi := { dst := some 8, op := Op.call { callee := Callee.builtin Builtin.len, args := #[Operand.tmp 7], argTypes := #[27] }, type := 3, pos := "ref.go:32", after := #[{ on := 1, ground := Ground.data }], guard := none }) (v := ?_) rfl (by kernel_rfl) (by kernel_rfl) (by kernel_rfl) (fun _ _ _ h => h) (Or.inl ⟨by rfl, ?_⟩) (by assumption) ?_
        rotate_left
        · (intro w hSw; (try dsimp only at hSw); first | (go_simp; done) | (go_simp; with_reducible rfl))
        try simp only [Act.put, List.setIfInBounds_toArray, List.set_cons_zero, List.set_cons_succ]
        refine wpAnyH_take (i := 3) (oi := { dst := some 9, op := Op.binOp BinOp.lss 3 (Operand.tmp 6) (Operand.tmp 8) 3, type := 4, pos := "ref.go:32", after := #[{ on := 0, ground := Ground.data }, { on := 2, ground := Ground.data }], guard := none }) (v := ?_) rfl (by kernel_rfl) (by kernel_rfl) (by kernel_rfl) (fun _ _ _ h => h) (Or.inl ⟨by rfl, ?_⟩) (by assumption) ?_
        rotate_left
        · (intro w hSw; (try dsimp only at hSw); first | (go_simp; done) | (go_simp; with_reducible rfl))
        try simp only [Act.put, List.setIfInBounds_toArray, List.set_cons_zero, List.set_cons_succ]
        refine wpAnyH_take (i := 4) (oi := { dst := some 10, op := Op.move (Operand.tmp 9), type := 4, pos := "ref.go:32", after := #[{ on := 3, ground := Ground.data }], guard := none }) (v := ?_) rfl (by kernel_rfl) (by kernel_rfl) (by kernel_rfl) (fun _ _ _ h => h) (Or.inl ⟨by rfl, ?_⟩) (by assumption) ?_
        rotate_left
        · (intro w hSw; (try dsimp only at hSw); first | (go_simp; done) | (go_simp; with_reducible rfl))
        try simp only [Act.put, List.setIfInBounds_toArray, List.set_cons_zero, List.set_cons_succ]
        refine wpAnyH_take (i := 5) (oi := { dst := some 11, op := Op.move (Operand.tmp 0), type := 27, pos := "ref.go:32", after := #[{ on := 4, ground := Ground.guard }], guard := some (4, true) }) (v := ?_) rfl (by kernel_rfl) (by kernel_rfl) (by kernel_rfl) (fun _ _ _ h => h) (Or.inl ⟨by rfl, ?_⟩) (by assumption) ?_
        rotate_left
        · (intro w hSw; (try dsimp only at hSw); first | (go_simp; done) | (go_simp; with_reducible rfl))
        try simp only [Act.put, List.setIfInBounds_toArray, List.set_cons_zero, List.set_cons_succ]
        refine wpAnyH_take (i := 6) (oi := { dst := some 12, op := Op.move (Operand.tmp 5), type := 3, pos := "ref.go:32", after := #[{ on := 4, ground := Ground.guard }], guard := some (4, true) }) (v := ?_) rfl (by kernel_rfl) (by kernel_rfl) (by kernel_rfl) (fun _ _ _ h => h) (Or.inl ⟨by rfl, ?_⟩) (by assumption) ?_
        rotate_left
        · (intro w hSw; (try dsimp only at hSw); first | (go_simp; done) | (go_simp; with_reducible rfl))
        try simp only [Act.put, List.setIfInBounds_toArray, List.set_cons_zero, List.set_cons_succ]
        refine wpAnyH_take (i := 7) (oi := { dst := some 13, op := Op.indexAddr 27 (Operand.tmp 11) (Operand.tmp 12), type := 0, pos := "ref.go:32", after := #[{ on := 5, ground := Ground.data }, { on := 6, ground := Ground.data }, { on := 4, ground := Ground.guard }], guard := some (4, true) }) (v := ?_) rfl (by kernel_rfl) (by kernel_rfl) (by kernel_rfl) (fun _ _ _ h => h) (Or.inl ⟨by rfl, ?_⟩) (by assumption) ?_
        rotate_left
        · (intro w hSw; (try dsimp only at hSw); first | (go_simp; done) | (go_simp; with_reducible rfl))
        try simp only [Act.put, List.setIfInBounds_toArray, List.set_cons_zero, List.set_cons_succ]
        refine wpAnyH_take (i := 8) (oi := { dst := some 14, op := Op.load 36 (Operand.tmp 13), type := 36, pos := "ref.go:32", after := #[{ on := 7, ground := Ground.data }, { on := 4, ground := Ground.guard }], guard := some (4, true) }) (v := ?_) rfl (by kernel_rfl) (by kernel_rfl) (by kernel_rfl) (fun _ _ _ h => h) (Or.inl ⟨by rfl, ?_⟩) (by assumption) ?_
        rotate_left
        · (intro w hSw; (try dsimp only at hSw); first | (go_simp; done) | (go_simp; with_reducible rfl))
        try simp only [Act.put, List.setIfInBounds_toArray, List.set_cons_zero, List.set_cons_succ]
        refine wpAnyH_take (i := 9) (oi := { dst := some 15, op := Op.load 36 (Operand.tmp 3), type := 36, pos := "ref.go:32", after := #[{ on := 4, ground := Ground.guard }], guard := some (4, true) }) (v := ?_) rfl (by kernel_rfl) (by kernel_rfl) (by kernel_rfl) (fun _ _ _ h => h) (Or.inl ⟨by rfl, ?_⟩) (by assumption) ?_
        rotate_left
        · (intro w hSw; (try dsimp only at hSw); first | (go_simp; done) | (go_simp; with_reducible rfl))
        try simp only [Act.put, List.setIfInBounds_toArray, List.set_cons_zero, List.set_cons_succ]
        refine wpAnyH_ready (rs := [10]) (by kernel_rfl) (by simp) ?_
        refine AllReadyH.cons (o := { dst := some 16, op := Op.call { callee := Callee.value (Operand.func 38), args := #[Operand.tmp 14, Operand.tmp 15], argTypes := #[36, 36] }, type := 4, pos := "ref.go:32", after := #[{ on := 8, ground := Ground.data }, { on := 9, ground := Ground.data }, { on := 4, ground := Ground.chain }, { on := 4, ground := Ground.guard }], guard := some (4, true) }) rfl (fun K hK => ?_) AllReadyH.nil
        go_simp
        refine (rless_any ck e wr.drew HFK.out HF.out).mono ?_
        rintro r w2 ⟨rfl, hb2⟩
        have hb3 : Bel wr w2 := (Bel.refl wr).drew.trans hb2
        have HX2 := Lib.hid (HW.out.trans hb3)
        replace u0 := cl12 hb3 u0
        replace u1 := cl12 hb3 u1
        replace u2 := cl12 hb3 u2
        replace u3 := cl12 hb3 u3
        replace y0 := cl12 hb3 y0
        replace y1 := cl12 hb3 y1
        replace y2 := cl12 hb3 y2
        replace y3 := cl12 hb3 y3
        dsimp only
        refine hK.out _ _ ⟨⟨u0, u1, u2, u3⟩, y0, y1, y2, y3⟩ (fun hHeld => ?_)
        clear hK K hb2 hb3
        try simp only [Act.put, List.setIfInBounds_toArray, List.set_cons_zero, List.set_cons_succ]
        refine wpAnyH_take (i := 11) (oi := { dst := some 17, op := Op.pick (Operand.tmp 10) (Operand.tmp 16) (Operand.const (Value.bool false)), type := 4, pos := "ref.go:32", after := #[{ on := 4, ground := Ground.data }, { on := 10, ground := Ground.data }], guard := none }) (v := ?_) rfl (by kernel_rfl) (by kernel_rfl) (by kernel_rfl) (fun _ _ _ h => h) (Or.inl ⟨by rfl, ?_⟩) (by assumption) ?_
        rotate_left
        · (intro w hSw; (try dsimp only at hSw); first | (go_simp; done) | (go_simp; with_reducible rfl))
        try simp only [Act.put, List.setIfInBounds_toArray, List.set_cons_zero, List.set_cons_succ]
        refine wpAnyH_done (by kernel_rfl) ?_ _
        clear hHeld
        cases hlb : lessB ck e with
        | true =>
          have HA2 := Lib.hid (HAN.out hlb)
          clear hlb u0 u1 u2 u3 y0 y1 y2 y3
          go_wp2_with (fail)
          go_roundw
          case rel => exact ⟨⟨k + 1, HKL.out, by go_num, HA2.out⟩, HX2.out⟩
          case measure => have := HKL.out; simp [intOf]; omega
        | false =>
          go_wp2_with (fail)
          refine wp_region_held_drew (S := fun z => (z.cell? ⟨w.heap.size, 0, none⟩ = some (.string e.k) ∧ z.cell? ⟨w.heap.size, 1, none⟩ = some (.int .i64 e.q) ∧ z.cell? ⟨w.heap.size, 2, none⟩ = some (.bool e.d) ∧ z.cell? ⟨w.heap.size, 3, none⟩ = some (.string e.v)) ∧ z.cell? ⟨g, k * 4, none⟩ = some (.string ck.k) ∧ z.cell? ⟨g, k * 4 + 1, none⟩ = some (.int .i64 ck.q) ∧ z.cell? ⟨g, k * 4 + 2, none⟩ = some (.bool ck.d) ∧ z.cell? ⟨g, k * 4 + 3, none⟩ = some (.string ck.v)) (by kernel_rfl) ⟨⟨u0, u1, u2, u3⟩, y0, y1, y2, y3⟩ (fun hHeld => ?_)
          refine wpAnyH_take (i := 0) (oi := { dst := some 20, op := Op.move (Operand.tmp 5), type := 3, pos := "ref.go:35", after := #[], guard := none }) (v := ?_) rfl (by kernel_rfl) (by kernel_rfl) (by kernel_rfl) (fun _ _ _ h => h) (Or.inl ⟨by rfl, ?_⟩) (by assumption) ?_
          rotate_left
          · (intro w hSw; (try dsimp only at hSw); first | (go_simp; done) | (go_simp; with_reducible rfl))
          try simp only [Act.put, List.setIfInBounds_toArray, List.set_cons_zero, List.set_cons_succ]
          refine wpAnyH_take (i := 1) (oi := { dst := some 21, op := Op.move (Operand.tmp 0), type := 27, pos := "ref.go:35", after := #[], guard := none }) (v := ?_) rfl (by kernel_rfl) (by kernel_rfl) (by kernel_rfl) (fun _ _ _ h => h) (Or.inl ⟨by rfl, ?_⟩) (by assumption) ?_
          rotate_left
          · (intro w hSw; (try dsimp only at hSw); first | (go_simp; done) | (go_simp; with_reducible rfl))
          try simp only [Act.put, List.setIfInBounds_toArray, List.set_cons_zero, List.set_cons_succ]
          refine wpAnyH_take (i := 2) (oi := { dst := some 22, op := Op.call { callee := Callee.builtin Builtin.len, args := #[Operand.tmp 21], argTypes := #[27] }, type := 3, pos := "ref.go:35", after := #[{ on := 1, ground := Ground.data }], guard := none }) (v := ?_) rfl (by kernel_rfl) (by kernel_rfl) (by kernel_rfl) (fun _ _ _ h => h) (Or.inl ⟨by rfl, ?_⟩) (by assumption) ?_
          rotate_left
          · (intro w hSw; (try dsimp only at hSw); first | (go_simp; done) | (go_simp; with_reducible rfl))
          try simp only [Act.put, List.setIfInBounds_toArray, List.set_cons_zero, List.set_cons_succ]
          refine wpAnyH_take (i := 3) (oi := { dst := some 23, op := Op.binOp BinOp.lss 3 (Operand.tmp 20) (Operand.tmp 22) 3, type := 4, pos := "ref.go:35", after := #[{ on := 0, ground := Ground.data }, { on := 2, ground := Ground.data }], guard := none }) (v := ?_) rfl (by kernel_rfl) (by kernel_rfl) (by kernel_rfl) (fun _ _ _ h => h) (Or.inl ⟨by rfl, ?_⟩) (by assumption) ?_
          rotate_left
          · (intro w hSw; (try dsimp only at hSw); first | (go_simp; done) | (go_simp; with_reducible rfl))
          try simp only [Act.put, List.setIfInBounds_toArray, List.set_cons_zero, List.set_cons_succ]
          refine wpAnyH_take (i := 4) (oi := { dst := some 24, op := Op.move (Operand.tmp 23), type := 4, pos := "ref.go:35", after := #[{ on := 3, ground := Ground.data }], guard := none }) (v := ?_) rfl (by kernel_rfl) (by kernel_rfl) (by kernel_rfl) (fun _ _ _ h => h) (Or.inl ⟨by rfl, ?_⟩) (by assumption) ?_
          rotate_left
          · (intro w hSw; (try dsimp only at hSw); first | (go_simp; done) | (go_simp; with_reducible rfl))
          try simp only [Act.put, List.setIfInBounds_toArray, List.set_cons_zero, List.set_cons_succ]
          refine wpAnyH_take (i := 5) (oi := { dst := some 25, op := Op.load 36 (Operand.tmp 3), type := 36, pos := "ref.go:35", after := #[{ on := 4, ground := Ground.guard }], guard := some (4, true) }) (v := ?_) rfl (by kernel_rfl) (by kernel_rfl) (by kernel_rfl) (fun _ _ _ h => h) (Or.inl ⟨by rfl, ?_⟩) (by assumption) ?_
          rotate_left
          · (intro w hSw; (try dsimp only at hSw); first | (go_simp; done) | (go_simp; with_reducible rfl))
          try simp only [Act.put, List.setIfInBounds_toArray, List.set_cons_zero, List.set_cons_succ]
          refine wpAnyH_take (i := 6) (oi := { dst := some 26, op := Op.move (Operand.tmp 0), type := 27, pos := "ref.go:35", after := #[{ on := 4, ground := Ground.guard }], guard := some (4, true) }) (v := ?_) rfl (by kernel_rfl) (by kernel_rfl) (by kernel_rfl) (fun _ _ _ h => h) (Or.inl ⟨by rfl, ?_⟩) (by assumption) ?_
          rotate_left
          · (intro w hSw; (try dsimp only at hSw); first | (go_simp; done) | (go_simp; with_reducible rfl))
          try simp only [Act.put, List.setIfInBounds_toArray, List.set_cons_zero, List.set_cons_succ]
          refine wpAnyH_take (i := 7) (oi := { dst := some 27, op := Op.move (Operand.tmp 5), type := 3, pos := "ref.go:35", after := #[{ on := 4, ground := Ground.guard }], guard := some (4, true) }) (v := ?_) rfl (by kernel_rfl) (by kernel_rfl) (by kernel_rfl) (fun _ _ _ h => h) (Or.inl ⟨by rfl, ?_⟩) (by assumption) ?_
          rotate_left
          · (intro w hSw; (try dsimp only at hSw); first | (go_simp; done) | (go_simp; with_reducible rfl))
          try simp only [Act.put, List.setIfInBounds_toArray, List.set_cons_zero, List.set_cons_succ]
          refine wpAnyH_take (i := 8) (oi := { dst := some 28, op := Op.indexAddr 27 (Operand.tmp 26) (Operand.tmp 27), type := 0, pos := "ref.go:35", after := #[{ on := 6, ground := Ground.data }, { on := 7, ground := Ground.data }, { on := 4, ground := Ground.guard }], guard := some (4, true) }) (v := ?_) rfl (by kernel_rfl) (by kernel_rfl) (by kernel_rfl) (fun _ _ _ h => h) (Or.inl ⟨by rfl, ?_⟩) (by assumption) ?_
          rotate_left
          · (intro w hSw; (try dsimp only at hSw); first | (go_simp; done) | (go_simp; with_reducible rfl))
          try simp only [Act.put, List.setIfInBounds_toArray, List.set_cons_zero, List.set_cons_succ]
          refine wpAnyH_take (i := 9) (oi := { dst := some 29, op := Op.load 36 (Operand.tmp 28), type := 36, pos := "ref.go:35", after := #[{ on := 8, ground := Ground.data }, { on := 4, ground := Ground.guard }], guard := some (4, true) }) (v := ?_) rfl (by kernel_rfl) (by kernel_rfl) (by kernel_rfl) (fun _ _ _ h => h) (Or.inl ⟨by rfl, ?_⟩) (by assumption) ?_
          rotate_left
          · (intro w hSw; (try dsimp only at hSw); first | (go_simp; done) | (go_simp; with_reducible rfl))
          try simp only [Act.put, List.setIfInBounds_toArray, List.set_cons_zero, List.set_cons_succ]
          refine wpAnyH_ready (rs := [10]) (by kernel_rfl) (by simp) ?_
          refine AllReadyH.cons (o := { dst := some 30, op := Op.call { callee := Callee.value (Operand.func 38), args := #[Operand.tmp 25, Operand.tmp 29], argTypes := #[36, 36] }, type := 4, pos := "ref.go:35", after := #[{ on := 5, ground := Ground.data }, { on := 9, ground := Ground.data }, { on := 4, ground := Ground.chain }, { on := 4, ground := Ground.guard }], guard := some (4, true) }) rfl (fun K hK => ?_) AllReadyH.nil
          go_simp
          refine (rless_any e ck w2.drew HF.out HFK.out).mono ?_
          rintro r w3 ⟨rfl, hb2⟩
          have hb3 : Bel w2 w3 := (Bel.refl w2).drew.trans hb2
          have HX3 := Lib.hid (HX2.out.trans hb3)
          replace u0 := cl12 hb3 u0
          replace u1 := cl12 hb3 u1
          replace u2 := cl12 hb3 u2
          replace u3 := cl12 hb3 u3
          replace y0 := cl12 hb3 y0
          replace y1 := cl12 hb3 y1
          replace y2 := cl12 hb3 y2
          replace y3 := cl12 hb3 y3
          dsimp only
          refine hK.out _ _ ⟨⟨u0, u1, u2, u3⟩, y0, y1, y2, y3⟩ (fun hHeld => ?_)
          clear hK K hb2 hb3
          try simp only [Act.put, List.setIfInBounds_toArray, List.set_cons_zero, List.set_cons_succ]
          refine wpAnyH_take (i := 11) (oi := { dst := some 31, op := Op.unOp UnOp.not 4 (Operand.tmp 30), type := 4, pos := "ref.go:35", after := #[{ on := 10, ground := Ground.data }, { on := 4, ground := Ground.guard }], guard := some (4, true) }) (v := ?_) rfl (by kernel_rfl) (by kernel_rfl) (by kernel_rfl) (fun _ _ _ h => h) (Or.inl ⟨by rfl, ?_⟩) (by assumption) ?_
          rotate_left
          · (intro w hSw; (try dsimp only at hSw); first | (go_simp; done) | (go_simp; with_reducible rfl))
          try simp only [Act.put, List.setIfInBounds_toArray, List.set_cons_zero, List.set_cons_succ]
          refine wpAnyH_take (i := 12) (oi := { dst := some 32, op := Op.pick (Operand.tmp 24) (Operand.tmp 31) (Operand.const (Value.bool false)), type := 4, pos := "ref.go:35", after := #[{ on := 4, ground := Ground.data }, { on := 11, ground := Ground.data }], guard := none }) (v := ?_) rfl (by kernel_rfl) (by kernel_rfl) (by kernel_rfl) (fun _ _ _ h => h) (Or.inl ⟨by rfl, ?_⟩) (by assumption) ?_
          rotate_left
          · (intro w hSw; (try dsimp only at hSw); first | (go_simp; done) | (go_simp; with_reducible rfl))
          try simp only [Act.put, List.setIfInBounds_toArray, List.set_cons_zero, List.set_cons_succ]
          refine wpAnyH_done (by kernel_rfl) ?_ _
          clear hHeld
          cases hlc : lessB e ck with
          | false =>
            have HO := Lib.hid (HOLD.out hlb hlc)
            clear hlb hlc u0 u1 u2 u3 y0 y1 y2 y3
            go_wp2_with (fail)
            go_ret
            exact ⟨_, rfl, by rw [HO.out]; exact HOWN.out.bel (HB1.out.trans HX3.out), HB1.out.trans HX3.out⟩
          | true =>
            have HADD := Lib.hid (HINS.out hlb hlc)
            clear hlb hlc y0 y1 y2 y3
            obtain ⟨zb, hzb⟩ : ∃ x, x = w3 := ⟨_, rfl⟩
            have HZB := Lib.hid (show Bel w1 zb by rw [hzb]; exact HX3.out)
            rw [← hzb]
            clear hzb u0 u1 u2 u3
            go_wp2_with (fail)
            have HZW := Lib.hid (HB1.out.trans HZB.out)
            have q0 := cl12 HZB.out x0
            have q1 := cl12 HZB.out x1
            have q2 := cl12 HZB.out x2
            have q3 := cl12 HZB.out x3
            have HOWR := Lib.hid (HOWN.out.bel (HB1.out.trans HZB.out))
            have HS1 := Lib.hid (show ∀ x, Bel zb x → SrcAt entEl x (.slice (some ⟨g, 0, none⟩) k cap0) (C.take k) from fun x hx => by
              have := own_piece entOk (HOWR.out.bel hx) 0 k cap0 (by omega)
              simpa using this)
            have HPK : ∃ pk, (if cap0 = k then some (⟨g, 0, none⟩ : Addr) else some ⟨g, k * 4, none⟩) = some pk ∧ ∀ x, Bel zb x → SrcAt entEl x (.slice (some pk) (C.length - k) (cap0 - k)) (C.drop k) := by
              by_cases hck0 : cap0 = k
              · refine ⟨_, if_pos hck0, fun x hx => Or.inr ⟨_, _, by rw [List.length_drop], fun j u hj => ?_⟩⟩
                rw [List.drop_eq_nil_of_le (by omega)] at hj
                simp [El.all] at hj
              · refine ⟨_, if_neg hck0, fun x hx => ?_⟩
                have := own_piece entOk (HOWR.out.bel hx) k (C.length - k) (cap0 - k) (by omega)
                rw [List.take_of_length_le (by rw [List.length_drop]; omega)] at this
                exact this
            obtain ⟨pk, hpk, hps⟩ := HPK
            have HS2 := Lib.hid hps
            have hkc : k ≤ cap0 := by omega
            have HL1 := Lib.hid (show (C.take k).length ≤ 1000 by rw [List.length_take]; omega)
            have HL2 := Lib.hid (show (C.drop k).length ≤ 1000 by rw [List.length_drop]; omega)
            clear hps
            have HBR := Lib.hid (Bel.refl zb)
            have HS := Lib.hid (show ∀ y, Bel zb y → (y.cell? ⟨w.heap.size, 0, none⟩ = some (.string e.k) ∧ y.cell? ⟨w.heap.size, 1, none⟩ = some (.int .i64 e.q) ∧ y.cell? ⟨w.heap.size, 2, none⟩ = some (.bool e.d) ∧ y.cell? ⟨w.heap.size, 3, none⟩ = some (.string e.v)) from fun y hy => ⟨cl12 hy q0, cl12 hy q1, cl12 hy q2, cl12 hy q3⟩)
            refine wp_region_held_drew (S := fun y => (y.cell? ⟨w.heap.size, 0, none⟩ = some (.string e.k) ∧ y.cell? ⟨w.heap.size, 1, none⟩ = some (.int .i64 e.q) ∧ y.cell? ⟨w.heap.size, 2, none⟩ = some (.bool e.d) ∧ y.cell? ⟨w.heap.size, 3, none⟩ = some (.string e.v))) (by kernel_rfl) (HS.out _ (Bel.refl zb).drew) (fun hHeld => ?_)
            refine wpAnyH_take (i := 1) (oi := { dst := some 35, op := Op.move (Operand.tmp 0), type := 27, pos := "ref.go:38", after := #[], guard := none }) (v := ?_) rfl (by kernel_rfl) (by kernel_rfl) (by kernel_rfl) (fun _ _ _ h => h) (Or.inl ⟨by rfl, ?_⟩) (by assumption) ?_
            rotate_left
            · (intro w hSw; (try dsimp only at hSw); first | (go_simp; done) | (go_simp; with_reducible rfl))
            try simp only [Act.put, List.setIfInBounds_toArray, List.set_cons_zero, List.set_cons_succ]
            refine wpAnyH_take (i := 2) (oi := { dst := some 36, op := Op.move (Operand.tmp 5), type := 3, pos := "ref.go:38", after := #[], guard := none }) (v := ?_) rfl (by kernel_rfl) (by kernel_rfl) (by kernel_rfl) (fun _ _ _ h => h) (Or.inl ⟨by rfl, ?_⟩) (by assumption) ?_
            rotate_left
            · (intro w hSw; (try dsimp only at hSw); first | (go_simp; done) | (go_simp; with_reducible rfl))
            try simp only [Act.put, List.setIfInBounds_toArray, List.set_cons_zero, List.set_cons_succ]
            refine wpAnyH_take (i := 3) (oi := { dst := some 37, op := Op.slice 27 (Operand.tmp 35) none (some (Operand.tmp 36)) none, type := 27, pos := "ref.go:38", after := #[{ on := 1, ground := Ground.data }, { on := 2, ground := Ground.data }], guard := none }) (v := ?_) rfl (by kernel_rfl) (by kernel_rfl) (by kernel_rfl) (fun _ _ _ h => h) (Or.inl ⟨by rfl, ?_⟩) (by assumption) ?_
            rotate_left
            · (intro w hSw; (try dsimp only at hSw); first | (go_simp; done) | (go_simp; with_reducible rfl))
            try simp only [Act.put, List.setIfInBounds_toArray, List.set_cons_zero, List.set_cons_succ]
            refine wpAnyH_take (i := 5) (oi := { dst := some 39, op := Op.load 36 (Operand.tmp 3), type := 36, pos := "ref.go:38", after := #[], guard := none }) (v := ?_) rfl (by kernel_rfl) (by kernel_rfl) (by kernel_rfl) (fun _ _ _ h => h) (Or.inl ⟨by rfl, ?_⟩) (by assumption) ?_
            rotate_left
            · (intro w hSw; (try dsimp only at hSw); first | (go_simp; done) | (go_simp; with_reducible rfl))
            try simp only [Act.put, List.setIfInBounds_toArray, List.set_cons_zero, List.set_cons_succ]
            refine wpAnyH_take (i := 8) (oi := { dst := some 42, op := Op.move (Operand.tmp 0), type := 27, pos := "ref.go:38", after := #[], guard := none }) (v := ?_) rfl (by kernel_rfl) (by kernel_rfl) (by kernel_rfl) (fun _ _ _ h => h) (Or.inl ⟨by rfl, ?_⟩) (by assumption) ?_
            rotate_left
            · (intro w hSw; (try dsimp only at hSw); first | (go_simp; done) | (go_simp; with_reducible rfl))
            try simp only [Act.put, List.setIfInBounds_toArray, List.set_cons_zero, List.set_cons_succ]
            refine wpAnyH_take (i := 9) (oi := { dst := some 43, op := Op.move (Operand.tmp 5), type := 3, pos := "ref.go:38", after := #[], guard := none }) (v := ?_) rfl (by kernel_rfl) (by kernel_rfl) (by kernel_rfl) (fun _ _ _ h => h) (Or.inl ⟨by rfl, ?_⟩) (by assumption) ?_
            rotate_left
            · (intro w hSw; (try dsimp only at hSw); first | (go_simp; done) | (go_simp; with_reducible rfl))
            try simp only [Act.put, List.setIfInBounds_toArray, List.set_cons_zero, List.set_cons_succ]
            refine wpAnyH_take (i := 10) (oi := { dst := some 44, op := Op.slice 27 (Operand.tmp 42) (some (Operand.tmp 43)) none none, type := 27, pos := "ref.go:38", after := #[{ on := 8, ground := Ground.data }, { on := 9, ground := Ground.data }], guard := none }) (v := ?_) rfl (by kernel_rfl) (by kernel_rfl) (by kernel_rfl) (fun _ _ _ h => h) (Or.inl ⟨by rfl, ?_⟩) (by assumption) ?_
            rotate_left
            · (intro w hSw; (try dsimp only at hSw); first | (go_simp; done) | (go_simp; with_reducible rfl))
            try simp only [Act.put, List.setIfInBounds_toArray, List.set_cons_zero, List.set_cons_succ]
            refine wpAnyH_ready (rs := [0, 6]) (by kernel_rfl) (by simp) ?_
            refine (AllReadyH.cons (o := { dst := some 34, op := Op.buildSlice 27 0 #[], type := 27, pos := "ref.go:38", after := #[], guard := none }) rfl (fun K hK => ?_) (AllReadyH.cons (o := { dst := some 40, op := Op.buildSlice 27 1 #[(0, Operand.tmp 39)], type := 27, pos := "ref.go:38", after := #[{ on := 5, ground := Ground.data }], guard := none }) rfl (fun K hK => ?_) AllReadyH.nil))
            · go_simp
              have hbq : Bel zb (zb.alloc (.cells #[] 36)).drew := ((Bel.refl zb).alloc _).drew
              refine hK.out _ _ (HS.out _ (HBR.out.trans hbq)) (fun hHeld => ?_)
              clear hbq
              clear hK K
              try simp only [Act.put, List.setIfInBounds_toArray, List.set_cons_zero, List.set_cons_succ]
              obtain ⟨z1, hz1⟩ : ∃ x, x = (zb.alloc (.cells #[] 36)).drew := ⟨_, rfl⟩
              have HLE := Lib.hid (show z1.heap[zb.heap.size]? = some (.cells #[] 36 (0, 0)) by rw [hz1]; exact tnew12 zb (.cells #[] 36))
              have hltE : zb.heap.size < z1.heap.size := (Array.getElem?_eq_some_iff.1 HLE.out).1
              have hbz1 : Bel zb z1 := by rw [hz1]; exact ((Bel.refl zb).alloc _).drew
              have HBz1 := Lib.hid (HBR.out.trans hbz1)
              rw [← hz1] at hHeld ⊢
              clear hz1
              have HOE := Lib.hid (ownG_empty (E := entEl) (n := zb.heap.size) HLE.out HBR.out.size)
              refine wpAnyH_ready (rs := [4, 6]) (by kernel_rfl) (by simp) ?_
              refine (AllReadyH.cons (o := { dst := some 38, op := Op.call { callee := Callee.builtin Builtin.append, args := #[Operand.tmp 34, Operand.tmp 37], argTypes := #[27, 27] }, type := 27, pos := "ref.go:38", after := #[{ on := 0, ground := Ground.data }, { on := 3, ground := Ground.data }], guard := none }) rfl (fun K hK => ?_) (AllReadyH.cons (o := { dst := some 40, op := Op.buildSlice 27 1 #[(0, Operand.tmp 39)], type := 27, pos := "ref.go:38", after := #[{ on := 5, ground := Ground.data }], guard := none }) rfl (fun K hK => ?_) AllReadyH.nil))
              · refine step_append_all entOk rfl (.tmp 34) (.tmp 37) rfl rfl HOE.out (C.take k) rfl (HS1.out z1 HBz1.out) (plim1a HL1.out HL2.out) (plim1b HL1.out HL2.out) HBz1.out.size ?_
                intro vz2 z2 hoz2 hkz2 _
                have HBz2 := Lib.hid (show Bel zb z2 from HBz1.out.trans_below (hkz2.own HBz1.out.size (fun kk hkk => (HOE.out.lt kk hkk).1)))
                rw [List.nil_append] at hoz2
                have hkkz2 : Keep (Value.ownBlock (.slice (some ⟨zb.heap.size, 0, none⟩) 0 0)).toList z1 z2 := hkz2
                have HO2 := Lib.hid hoz2
                clear hoz2 hkz2 hkkz2
                refine hK.out _ _ (HS.out _ HBz2.out) (fun hHeld => ?_)
                clear hK K
                try simp only [Act.put, List.setIfInBounds_toArray, List.set_cons_zero, List.set_cons_succ]
                refine wpAnyH_ready (rs := [6]) (by kernel_rfl) (by simp) ?_
                refine AllReadyH.cons (o := { dst := some 40, op := Op.buildSlice 27 1 #[(0, Operand.tmp 39)], type := 27, pos := "ref.go:38", after := #[{ on := 5, ground := Ground.data }], guard := none }) rfl (fun K hK => ?_) AllReadyH.nil
                go_simp
                have hbq : Bel z2 (z2.alloc (.cells #[.string e.k, .int .i64 e.q, .bool e.d, .string e.v] 36)) := ((Bel.refl z2).alloc _)
                refine hK.out _ _ (HS.out _ (HBz2.out.trans hbq)) (fun hHeld => ?_)
                clear hbq
                clear hK K
                try simp only [Act.put, List.setIfInBounds_toArray, List.set_cons_zero, List.set_cons_succ]
                obtain ⟨z3, hz3⟩ : ∃ x, x = (z2.alloc (.cells #[.string e.k, .int .i64 e.q, .bool e.d, .string e.v] 36)) := ⟨_, rfl⟩
                have HLL := Lib.hid (show z3.heap[z2.heap.size]? = some (.cells #[.string e.k, .int .i64 e.q, .bool e.d, .string e.v] 36 (0, 0)) by rw [hz3]; exact tnew12 z2 (.cells #[.string e.k, .int .i64 e.q, .bool e.d, .string e.v] 36))
                have hltL : z2.heap.size < z3.heap.size := (Array.getElem?_eq_some_iff.1 HLL.out).1
                have hbz3 : Bel z2 z3 := by rw [hz3]; exact ((Bel.refl z2).alloc _)
                have HBz3 := Lib.hid (HBz2.out.trans hbz3)
                rw [← hz3] at hHeld ⊢
                clear hz3
                have HO2b := Lib.hid (HO2.out.bel hbz3)
                refine wpAnyH_ready (rs := [7]) (by kernel_rfl) (by simp) ?_
                refine AllReadyH.cons (o := { dst := some 41, op := Op.call { callee := Callee.builtin Builtin.append, args := #[Operand.tmp 38, Operand.tmp 40], argTypes := #[27, 27] }, type := 27, pos := "ref.go:38", after := #[{ on := 4, ground := Ground.data }, { on := 6, ground := Ground.data }, { on := 4, ground := Ground.chain }], guard := none }) rfl (fun K hK => ?_) AllReadyH.nil
                refine step_append_all entOk rfl (.tmp 38) (.tmp 40) rfl rfl HO2b.out ([e]) rfl (src_at [e] HLL.out rfl rfl) (plim2a HL1.out HL2.out) (plim2b HL1.out HL2.out) HBz3.out.size ?_
                intro vz4 z4 hoz4 hkz4 _
                have HBz4 := Lib.hid (show Bel zb z4 from HBz3.out.trans_below (hkz4.own HBz3.out.size (fun kk hkk => (HO2b.out.lt kk hkk).1)))
                have HO3 := Lib.hid hoz4
                clear hoz4 hkz4
                refine hK.out _ _ (HS.out _ HBz4.out) (fun hHeld => ?_)
                clear hK K
                try simp only [Act.put, List.setIfInBounds_toArray, List.set_cons_zero, List.set_cons_succ]
                refine wpAnyH_ready (rs := [11]) (by kernel_rfl) (by simp) ?_
                refine AllReadyH.cons (o := { dst := some 45, op := Op.call { callee := Callee.builtin Builtin.append, args := #[Operand.tmp 41, Operand.tmp 44], argTypes := #[27, 27] }, type := 27, pos := "ref.go:38", after := #[{ on := 7, ground := Ground.data }, { on := 10, ground := Ground.data }, { on := 7, ground := Ground.chain }], guard := none }) rfl (fun K hK => ?_) AllReadyH.nil
                refine step_append_all entOk rfl (.tmp 41) (.tmp 44) rfl rfl HO3.out (C.drop k) rfl (HS2.out z4 HBz4.out) (plim3a HL1.out HL2.out) (plim3b HL1.out HL2.out) HBz4.out.size ?_
                intro vz5 z5 hoz5 hkz5 _
                have HBz5 := Lib.hid (show Bel zb z5 from HBz4.out.trans_below (hkz5.own HBz4.out.size (fun kk hkk => (HO3.out.lt kk hkk).1)))
                have HO4 := Lib.hid hoz5
                clear hoz5 hkz5
                refine hK.out _ _ (HS.out _ HBz5.out) (fun hHeld => ?_)
                clear hK K
                try simp only [Act.put, List.setIfInBounds_toArray, List.set_cons_zero, List.set_cons_succ]
                refine wpAnyH_take (i := 12) (oi := { dst := some 4, op := Op.assign (Operand.tmp 45), type := 27, pos := "ref.go:38", after := #[{ on := 11, ground := Ground.data }, { on := 11, ground := Ground.chain }, { on := 0, ground := Ground.phase }, { on := 1, ground := Ground.phase }, { on := 2, ground := Ground.phase }, { on := 3, ground := Ground.phase }, { on := 4, ground := Ground.phase }, { on := 5, ground := Ground.phase }, { on := 6, ground := Ground.phase }, { on := 7, ground := Ground.phase }, { on := 8, ground := Ground.phase }, { on := 9, ground := Ground.phase }, { on := 10, ground := Ground.phase }, { on := 11, ground := Ground.phase }], guard := none }) (v := ?_) rfl (by kernel_rfl) (by kernel_rfl) (by kernel_rfl) (fun _ _ _ h => h) (Or.inl ⟨by rfl, ?_⟩) (by assumption) ?_
                rotate_left
                · (intro w hSw; (try dsimp only at hSw); first | (go_simp; done) | (go_simp; with_reducible rfl))
                try simp only [Act.put, List.setIfInBounds_toArray, List.set_cons_zero, List.set_cons_succ]
                refine wpAnyH_done (by kernel_rfl) ?_ _
                go_wp2_with (fail)
                go_ret
                exact ⟨_, rfl, by rw [HADD.out]; exact HO4.out.low (Nat.le_trans HBB.out HZW.out.size), HZW.out.trans HBz5.out⟩
              · go_simp
                have hbq : Bel z1 (z1.alloc (.cells #[.string e.k, .int .i64 e.q, .bool e.d, .string e.v] 36)) := ((Bel.refl z1).alloc _)
                refine hK.out _ _ (HS.out _ (HBz1.out.trans hbq)) (fun hHeld => ?_)
                clear hbq
                clear hK K
                try simp only [Act.put, List.setIfInBounds_toArray, List.set_cons_zero, List.set_cons_succ]
                obtain ⟨z2, hz2⟩ : ∃ x, x = (z1.alloc (.cells #[.string e.k, .int .i64 e.q, .bool e.d, .string e.v] 36)) := ⟨_, rfl⟩
                have HLL := Lib.hid (show z2.heap[z1.heap.size]? = some (.cells #[.string e.k, .int .i64 e.q, .bool e.d, .string e.v] 36 (0, 0)) by rw [hz2]; exact tnew12 z1 (.cells #[.string e.k, .int .i64 e.q, .bool e.d, .string e.v] 36))
                have hltL : z1.heap.size < z2.heap.size := (Array.getElem?_eq_some_iff.1 HLL.out).1
                have hbz2 : Bel z1 z2 := by rw [hz2]; exact ((Bel.refl z1).alloc _)
                have HBz2 := Lib.hid (HBz1.out.trans hbz2)
                rw [← hz2] at hHeld ⊢
                clear hz2
                have HOE2 := Lib.hid (HOE.out.bel hbz2)
                refine wpAnyH_ready (rs := [4]) (by kernel_rfl) (by simp) ?_
                refine AllReadyH.cons (o := { dst := some 38, op := Op.call { callee := Callee.builtin Builtin.append, args := #[Operand.tmp 34, Operand.tmp 37], argTypes := #[27, 27] }, type := 27, pos := "ref.go:38", after := #[{ on := 0, ground := Ground.data }, { on := 3, ground := Ground.data }], guard := none }) rfl (fun K hK => ?_) AllReadyH.nil
                refine step_append_all entOk rfl (.tmp 34) (.tmp 37) rfl rfl HOE2.out (C.take k) rfl (HS1.out z2 HBz2.out) (plim1a HL1.out HL2.out) (plim1b HL1.out HL2.out) HBz2.out.size ?_
                intro vz3 z3 hoz3 hkz3 _
                have HBz3 := Lib.hid (show Bel zb z3 from HBz2.out.trans_below (hkz3.own HBz2.out.size (fun kk hkk => (HOE2.out.lt kk hkk).1)))
                rw [List.nil_append] at hoz3
                have hkkz3 : Keep (Value.ownBlock (.slice (some ⟨zb.heap.size, 0, none⟩) 0 0)).toList z2 z3 := hkz3
                have HLL3 := Lib.hid (hkkz3.at HLL.out (fun hm => by rw [Option.mem_toList] at hm; simp only [Value.ownBlock, Option.some.injEq] at hm; omega))
                have HO2 := Lib.hid hoz3
                clear hoz3 hkz3 hkkz3
                refine hK.out _ _ (HS.out _ HBz3.out) (fun hHeld => ?_)
                clear hK K
                try simp only [Act.put, List.setIfInBounds_toArray, List.set_cons_zero, List.set_cons_succ]
                refine wpAnyH_ready (rs := [7]) (by kernel_rfl) (by simp) ?_
                refine AllReadyH.cons (o := { dst := some 41, op := Op.call { callee := Callee.builtin Builtin.append, args := #[Operand.tmp 38, Operand.tmp 40], argTypes := #[27, 27] }, type := 27, pos := "ref.go:38", after := #[{ on := 4, ground := Ground.data }, { on := 6, ground := Ground.data }, { on := 4, ground := Ground.chain }], guard := none }) rfl (fun K hK => ?_) AllReadyH.nil
                refine step_append_all entOk rfl (.tmp 38) (.tmp 40) rfl rfl HO2.out ([e]) rfl (src_at [e] HLL3.out rfl rfl) (plim2a HL1.out HL2.out) (plim2b HL1.out HL2.out) HBz3.out.size ?_
                intro vz4 z4 hoz4 hkz4 _
                have HBz4 := Lib.hid (show Bel zb z4 from HBz3.out.trans_below (hkz4.own HBz3.out.size (fun kk hkk => (HO2.out.lt kk hkk).1)))
                have HO3 := Lib.hid hoz4
                clear hoz4 hkz4
                refine hK.out _ _ (HS.out _ HBz4.out) (fun hHeld => ?_)
                clear hK K
                try simp only [Act.put, List.setIfInBounds_toArray, List.set_cons_zero, List.set_cons_succ]
                refine wpAnyH_ready (rs := [11]) (by kernel_rfl) (by simp) ?_
                refine AllReadyH.cons (o := { dst := some 45, op := Op.call { callee := Callee.builtin Builtin.append, args := #[Operand.tmp 41, Operand.tmp 44], argTypes := #[27, 27] }, type := 27, pos := "ref.go:38", after := #[{ on := 7, ground := Ground.data }, { on := 10, ground := Ground.data }, { on := 7, ground := Ground.chain }], guard := none }) rfl (fun K hK => ?_) AllReadyH.nil
                refine step_append_all entOk rfl (.tmp 41) (.tmp 44) rfl rfl HO3.out (C.drop k) rfl (HS2.out z4 HBz4.out) (plim3a HL1.out HL2.out) (plim3b HL1.out HL2.out) HBz4.out.size ?_
                intro vz5 z5 hoz5 hkz5 _
                have HBz5 := Lib.hid (show Bel zb z5 from HBz4.out.trans_below (hkz5.own HBz4.out.size (fun kk hkk => (HO3.out.lt kk hkk).1)))
                have HO4 := Lib.hid hoz5
                clear hoz5 hkz5
                refine hK.out _ _ (HS.out _ HBz5.out) (fun hHeld => ?_)
                clear hK K
                try simp only [Act.put, List.setIfInBounds_toArray, List.set_cons_zero, List.set_cons_succ]
                refine wpAnyH_take (i := 12) (oi := { dst := some 4, op := Op.assign (Operand.tmp 45), type := 27, pos := "ref.go:38", after := #[{ on := 11, ground := Ground.data }, { on := 11, ground := Ground.chain }, { on := 0, ground := Ground.phase }, { on := 1, ground := Ground.phase }, { on := 2, ground := Ground.phase }, { on := 3, ground := Ground.phase }, { on := 4, ground := Ground.phase }, { on := 5, ground := Ground.phase }, { on := 6, ground := Ground.phase }, { on := 7, ground := Ground.phase }, { on := 8, ground := Ground.phase }, { on := 9, ground := Ground.phase }, { on := 10, ground := Ground.phase }, { on := 11, ground := Ground.phase }], guard := none }) (v := ?_) rfl (by kernel_rfl) (by kernel_rfl) (by kernel_rfl) (fun _ _ _ h => h) (Or.inl ⟨by rfl, ?_⟩) (by assumption) ?_
                rotate_left
                · (intro w hSw; (try dsimp only at hSw); first | (go_simp; done) | (go_simp; with_reducible rfl))
                try simp only [Act.put, List.setIfInBounds_toArray, List.set_cons_zero, List.set_cons_succ]
                refine wpAnyH_done (by kernel_rfl) ?_ _
                go_wp2_with (fail)
                go_ret
                exact ⟨_, rfl, by rw [HADD.out]; exact HO4.out.low (Nat.le_trans HBB.out HZW.out.size), HZW.out.trans HBz5.out⟩
            · go_simp
              have hbq : Bel zb (zb.alloc (.cells #[.string e.k, .int .i64 e.q, .bool e.d, .string e.v] 36)).drew := ((Bel.refl zb).alloc _).drew
              refine hK.out _ _ (HS.out _ (HBR.out.trans hbq)) (fun hHeld => ?_)
              clear hbq
              clear hK K
              try simp only [Act.put, List.setIfInBounds_toArray, List.set_cons_zero, List.set_cons_succ]
              obtain ⟨z1, hz1⟩ : ∃ x, x = (zb.alloc (.cells #[.string e.k, .int .i64 e.q, .bool e.d, .string e.v] 36)).drew := ⟨_, rfl⟩
              have HLL := Lib.hid (show z1.heap[zb.heap.size]? = some (.cells #[.string e.k, .int .i64 e.q, .bool e.d, .string e.v] 36 (0, 0)) by rw [hz1]; exact tnew12 zb (.cells #[.string e.k, .int .i64 e.q, .bool e.d, .string e.v] 36))
              have hltL : zb.heap.size < z1.heap.size := (Array.getElem?_eq_some_iff.1 HLL.out).1
              have hbz1 : Bel zb z1 := by rw [hz1]; exact ((Bel.refl zb).alloc _).drew
              have HBz1 := Lib.hid (HBR.out.trans hbz1)
              rw [← hz1] at hHeld ⊢
              clear hz1
              refine wpAnyH_ready (rs := [0]) (by kernel_rfl) (by simp) ?_
              refine AllReadyH.cons (o := { dst := some 34, op := Op.buildSlice 27 0 #[], type := 27, pos := "ref.go:38", after := #[], guard := none }) rfl (fun K hK => ?_) AllReadyH.nil
              go_simp
              have hbq : Bel z1 (z1.alloc (.cells #[] 36)) := ((Bel.refl z1).alloc _)
              refine hK.out _ _ (HS.out _ (HBz1.out.trans hbq)) (fun hHeld => ?_)
              clear hbq
              clear hK K
              try simp only [Act.put, List.setIfInBounds_toArray, List.set_cons_zero, List.set_cons_succ]
              obtain ⟨z2, hz2⟩ : ∃ x, x = (z1.alloc (.cells #[] 36)) := ⟨_, rfl⟩
              have HLE := Lib.hid (show z2.heap[z1.heap.size]? = some (.cells #[] 36 (0, 0)) by rw [hz2]; exact tnew12 z1 (.cells #[] 36))
              have hltE : z1.heap.size < z2.heap.size := (Array.getElem?_eq_some_iff.1 HLE.out).1
              have hbz2 : Bel z1 z2 := by rw [hz2]; exact ((Bel.refl z1).alloc _)
              have HBz2 := Lib.hid (HBz1.out.trans hbz2)
              rw [← hz2] at hHeld ⊢
              clear hz2
              have HOE := Lib.hid (ownG_empty (E := entEl) (n := zb.heap.size) HLE.out HBz1.out.size)
              have HLL2 := Lib.hid ((Below.block hbz2 zb.heap.size (by omega)).trans HLL.out)
              refine wpAnyH_ready (rs := [4]) (by kernel_rfl) (by simp) ?_
              refine AllReadyH.cons (o := { dst := some 38, op := Op.call { callee := Callee.builtin Builtin.append, args := #[Operand.tmp 34, Operand.tmp 37], argTypes := #[27, 27] }, type := 27, pos := "ref.go:38", after := #[{ on := 0, ground := Ground.data }, { on := 3, ground := Ground.data }], guard := none }) rfl (fun K hK => ?_) AllReadyH.nil
              refine step_append_all entOk rfl (.tmp 34) (.tmp 37) rfl rfl HOE.out (C.take k) rfl (HS1.out z2 HBz2.out) (plim1a HL1.out HL2.out) (plim1b HL1.out HL2.out) HBz2.out.size ?_
              intro vz3 z3 hoz3 hkz3 _
              have HBz3 := Lib.hid (show Bel zb z3 from HBz2.out.trans_below (hkz3.own HBz2.out.size (fun kk hkk => (HOE.out.lt kk hkk).1)))
              rw [List.nil_append] at hoz3
              have hkkz3 : Keep (Value.ownBlock (.slice (some ⟨z1.heap.size, 0, none⟩) 0 0)).toList z2 z3 := hkz3
              have HLL3 := Lib.hid (hkkz3.at HLL2.out (fun hm => by rw [Option.mem_toList] at hm; simp only [Value.ownBlock, Option.some.injEq] at hm; omega))
              have HO2 := Lib.hid hoz3
              clear hoz3 hkz3 hkkz3
              refine hK.out _ _ (HS.out _ HBz3.out) (fun hHeld => ?_)
              clear hK K
              try simp only [Act.put, List.setIfInBounds_toArray, List.set_cons_zero, List.set_cons_succ]
              refine wpAnyH_ready (rs := [7]) (by kernel_rfl) (by simp) ?_
              refine AllReadyH.cons (o := { dst := some 41, op := Op.call { callee := Callee.builtin Builtin.append, args := #[Operand.tmp 38, Operand.tmp 40], argTypes := #[27, 27] }, type := 27, pos := "ref.go:38", after := #[{ on := 4, ground := Ground.data }, { on := 6, ground := Ground.data }, { on := 4, ground := Ground.chain }], guard := none }) rfl (fun K hK => ?_) AllReadyH.nil
              refine step_append_all entOk rfl (.tmp 38) (.tmp 40) rfl rfl HO2.out ([e]) rfl (src_at [e] HLL3.out rfl rfl) (plim2a HL1.out HL2.out) (plim2b HL1.out HL2.out) HBz3.out.size ?_
              intro vz4 z4 hoz4 hkz4 _
              have HBz4 := Lib.hid (show Bel zb z4 from HBz3.out.trans_below (hkz4.own HBz3.out.size (fun kk hkk => (HO2.out.lt kk hkk).1)))
              have HO3 := Lib.hid hoz4
              clear hoz4 hkz4
              refine hK.out _ _ (HS.out _ HBz4.out) (fun hHeld => ?_)
              clear hK K
              try simp only [Act.put, List.setIfInBounds_toArray, List.set_cons_zero, List.set_cons_succ]
              refine wpAnyH_ready (rs := [11]) (by kernel_rfl) (by simp) ?_
              refine AllReadyH.cons (o := { dst := some 45, op := Op.call { callee := Callee.builtin Builtin.append, args := #[Operand.tmp 41, Operand.tmp 44], argTypes := #[27, 27] }, type := 27, pos := "ref.go:38", after := #[{ on := 7, ground := Ground.data }, { on := 10, ground := Ground.data }, { on := 7, ground := Ground.chain }], guard := none }) rfl (fun K hK => ?_) AllReadyH.nil
              refine step_append_all entOk rfl (.tmp 41) (.tmp 44) rfl rfl HO3.out (C.drop k) rfl (HS2.out z4 HBz4.out) (plim3a HL1.out HL2.out) (plim3b HL1.out HL2.out) HBz4.out.size ?_
              intro vz5 z5 hoz5 hkz5 _
              have HBz5 := Lib.hid (show Bel zb z5 from HBz4.out.trans_below (hkz5.own HBz4.out.size (fun kk hkk => (HO3.out.lt kk hkk).1)))
              have HO4 := Lib.hid hoz5
              clear hoz5 hkz5
              refine hK.out _ _ (HS.out _ HBz5.out) (fun hHeld => ?_)
              clear hK K
              try simp only [Act.put, List.setIfInBounds_toArray, List.set_cons_zero, List.set_cons_succ]
              refine wpAnyH_take (i := 12) (oi := { dst := some 4, op := Op.assign (Operand.tmp 45), type := 27, pos := "ref.go:38", after := #[{ on := 11, ground := Ground.data }, { on := 11, ground := Ground.chain }, { on := 0, ground := Ground.phase }, { on := 1, ground := Ground.phase }, { on := 2, ground := Ground.phase }, { on := 3, ground := Ground.phase }, { on := 4, ground := Ground.phase }, { on := 5, ground := Ground.phase }, { on := 6, ground := Ground.phase }, { on := 7, ground := Ground.phase }, { on := 8, ground := Ground.phase }, { on := 9, ground := Ground.phase }, { on := 10, ground := Ground.phase }, { on := 11, ground := Ground.phase }], guard := none }) (v := ?_) rfl (by kernel_rfl) (by kernel_rfl) (by kernel_rfl) (fun _ _ _ h => h) (Or.inl ⟨by rfl, ?_⟩) (by assumption) ?_
              rotate_left
              · (intro w hSw; (try dsimp only at hSw); first | (go_simp; done) | (go_simp; with_reducible rfl))
              try simp only [Act.put, List.setIfInBounds_toArray, List.set_cons_zero, List.set_cons_succ]
              refine wpAnyH_done (by kernel_rfl) ?_ _
              go_wp2_with (fail)
              go_ret
              exact ⟨_, rfl, by rw [HADD.out]; exact HO4.out.low (Nat.le_trans HBB.out HZW.out.size), HZW.out.trans HBz5.out⟩
      · have hkn : ¬ (k : Int) < (C.length : Int) := by omega
        have hkd : decide ((k : Int) < (C.length : Int)) = false := decide_eq_false hkn
        have HADD := Lib.hid (ins_here12 (e := e) hk HALL.out (fun h => absurd h hkl) (fun h => absurd h hkl))
        clear hw hall
        go_wp2_with (fail)
        go_quiet (fail)
        obtain ⟨za, hza⟩ : ∃ x, x = wr.drewN nq := ⟨_, rfl⟩
        have HZA := Lib.hid (show Bel w1 za by rw [hza]; exact HW.out.drewN nq)
        rw [← hza]
        clear hza
        go_wp2_with (fail)
        go_quiet (fail)
        obtain ⟨zb, hzb⟩ : ∃ x, x = za.drewN nq := ⟨_, rfl⟩
        have HZB := Lib.hid (show Bel w1 zb by rw [hzb]; exact HZA.out.drewN nq)
        rw [← hzb]
        clear hzb u0 u1 u2 u3
        go_wp2_with (fail)
        have HZW := Lib.hid (HB1.out.trans HZB.out)
        have q0 := cl12 HZB.out x0
        have q1 := cl12 HZB.out x1
        have q2 := cl12 HZB.out x2
        have q3 := cl12 HZB.out x3
        have HOWR := Lib.hid (HOWN.out.bel (HB1.out.trans HZB.out))
        have HS1 := Lib.hid (show ∀ x, Bel zb x → SrcAt entEl x (.slice (some ⟨g, 0, none⟩) k cap0) (C.take k) from fun x hx => by
          have := own_piece entOk (HOWR.out.bel hx) 0 k cap0 (by omega)
          simpa using this)
        have HPK : ∃ pk, (if cap0 = k then some (⟨g, 0, none⟩ : Addr) else some ⟨g, k * 4, none⟩) = some pk ∧ ∀ x, Bel zb x → SrcAt entEl x (.slice (some pk) (C.length - k) (cap0 - k)) (C.drop k) := by
          by_cases hck0 : cap0 = k
          · refine ⟨_, if_pos hck0, fun x hx => Or.inr ⟨_, _, by rw [List.length_drop], fun j u hj => ?_⟩⟩
            rw [List.drop_eq_nil_of_le (by omega)] at hj
            simp [El.all] at hj
          · refine ⟨_, if_neg hck0, fun x hx => ?_⟩
            have := own_piece entOk (HOWR.out.bel hx) k (C.length - k) (cap0 - k) (by omega)
            rw [List.take_of_length_le (by rw [List.length_drop]; omega)] at this
            exact this
        obtain ⟨pk, hpk, hps⟩ := HPK
        have HS2 := Lib.hid hps
        have hkc : k ≤ cap0 := by omega
        have HL1 := Lib.hid (show (C.take k).length ≤ 1000 by rw [List.length_take]; omega)
        have HL2 := Lib.hid (show (C.drop k).length ≤ 1000 by rw [List.length_drop]; omega)
        clear hps
        have HBR := Lib.hid (Bel.refl zb)
        have HS := Lib.hid (show ∀ y, Bel zb y → (y.cell? ⟨w.heap.size, 0, none⟩ = some (.string e.k) ∧ y.cell? ⟨w.heap.size, 1, none⟩ = some (.int .i64 e.q) ∧ y.cell? ⟨w.heap.size, 2, none⟩ = some (.bool e.d) ∧ y.cell? ⟨w.heap.size, 3, none⟩ = some (.string e.v)) from fun y hy => ⟨cl12 hy q0, cl12 hy q1, cl12 hy q2, cl12 hy q3⟩)
        refine wp_region_held_drew (S := fun y => (y.cell? ⟨w.heap.size, 0, none⟩ = some (.string e.k) ∧ y.cell? ⟨w.heap.size, 1, none⟩ = some (.int .i64 e.q) ∧ y.cell? ⟨w.heap.size, 2, none⟩ = some (.bool e.d) ∧ y.cell? ⟨w.heap.size, 3, none⟩ = some (.string e.v))) (by kernel_rfl) (HS.out _ (Bel.refl zb).drew) (fun hHeld => ?_)
        refine wpAnyH_take (i := 1) (oi := { dst := some 35, op := Op.move (Operand.tmp 0), type := 27, pos := "ref.go:38", after := #[], guard := none }) (v := ?_) rfl (by kernel_rfl) (by kernel_rfl) (by kernel_rfl) (fun _ _ _ h => h) (Or.inl ⟨by rfl, ?_⟩) (by assumption) ?_
        rotate_left
        · (intro w hSw; (try dsimp only at hSw); first | (go_simp; done) | (go_simp; with_reducible rfl))
        try simp only [Act.put, List.setIfInBounds_toArray, List.set_cons_zero, List.set_cons_succ]
        refine wpAnyH_take (i := 2) (oi := { dst := some 36, op := Op.move (Operand.tmp 5), type := 3, pos := "ref.go:38", after := #[], guard := none }) (v := ?_) rfl (by kernel_rfl) (by kernel_rfl) (by kernel_rfl) (fun _ _ _ h => h) (Or.inl ⟨by rfl, ?_⟩) (by assumption) ?_
        rotate_left
        · (intro w hSw; (try dsimp only at hSw); first | (go_simp; done) | (go_simp; with_reducible rfl))
        try simp only [Act.put, List.setIfInBounds_toArray, List.set_cons_zero, List.set_cons_succ]
        refine wpAnyH_take (i := 3) (oi := { dst := some 37, op := Op.slice 27 (Operand.tmp 35) none (some (Operand.tmp 36)) none, type := 27, pos := "ref.go:38", after := #[{ on := 1, ground := Ground.data }, { on := 2, ground := Ground.data }], guard := none }) (v := ?_) rfl (by kernel_rfl) (by kernel_rfl) (by kernel_rfl) (fun _ _ _ h => h) (Or.inl ⟨by rfl, ?_⟩) (by assumption) ?_
        rotate_left
        · (intro w hSw; (try dsimp only at hSw); first | (go_simp; done) | (go_simp; with_reducible rfl))
        try simp only [Act.put, List.setIfInBounds_toArray, List.set_cons_zero, List.set_cons_succ]
        refine wpAnyH_take (i := 5) (oi := { dst := some 39, op := Op.load 36 (Operand.tmp 3), type := 36, pos := "ref.go:38", after := #[], guard := none }) (v := ?_) rfl (by kernel_rfl) (by kernel_rfl) (by kernel_rfl) (fun _ _ _ h => h) (Or.inl ⟨by rfl, ?_⟩) (by assumption) ?_
        rotate_left
        · (intro w hSw; (try dsimp only at hSw); first | (go_simp; done) | (go_simp; with_reducible rfl))
        try simp only [Act.put, List.setIfInBounds_toArray, List.set_cons_zero, List.set_cons_succ]
        refine wpAnyH_take (i := 8) (oi := { dst := some 42, op := Op.move (Operand.tmp 0), type := 27, pos := "ref.go:38", after := #[], guard := none }) (v := ?_) rfl (by kernel_rfl) (by kernel_rfl) (by kernel_rfl) (fun _ _ _ h => h) (Or.inl ⟨by rfl, ?_⟩) (by assumption) ?_
        rotate_left
        · (intro w hSw; (try dsimp only at hSw); first | (go_simp; done) | (go_simp; with_reducible rfl))
        try simp only [Act.put, List.setIfInBounds_toArray, List.set_cons_zero, List.set_cons_succ]
        refine wpAnyH_take (i := 9) (oi := { dst := some 43, op := Op.move (Operand.tmp 5), type := 3, pos := "ref.go:38", after := #[], guard := none }) (v := ?_) rfl (by kernel_rfl) (by kernel_rfl) (by kernel_rfl) (fun _ _ _ h => h) (Or.inl ⟨by rfl, ?_⟩) (by assumption) ?_
        rotate_left
        · (intro w hSw; (try dsimp only at hSw); first | (go_simp; done) | (go_simp; with_reducible rfl))
        try simp only [Act.put, List.setIfInBounds_toArray, List.set_cons_zero, List.set_cons_succ]
        refine wpAnyH_take (i := 10) (oi := { dst := some 44, op := Op.slice 27 (Operand.tmp 42) (some (Operand.tmp 43)) none none, type := 27, pos := "ref.go:38", after := #[{ on := 8, ground := Ground.data }, { on := 9, ground := Ground.data }], guard := none }) (v := ?_) rfl (by kernel_rfl) (by kernel_rfl) (by kernel_rfl) (fun _ _ _ h => h) (Or.inl ⟨by rfl, ?_⟩) (by assumption) ?_
        rotate_left
        · (intro w hSw; (try dsimp only at hSw); first | (go_simp; done) | (go_simp; with_reducible rfl))
        try simp only [Act.put, List.setIfInBounds_toArray, List.set_cons_zero, List.set_cons_succ]
        refine wpAnyH_ready (rs := [0, 6]) (by kernel_rfl) (by simp) ?_
        refine (AllReadyH.cons (o := { dst := some 34, op := Op.buildSlice 27 0 #[], type := 27, pos := "ref.go:38", after := #[], guard := none }) rfl (fun K hK => ?_) (AllReadyH.cons (o := { dst := some 40, op := Op.buildSlice 27 1 #[(0, Operand.tmp 39)], type := 27, pos := "ref.go:38", after := #[{ on := 5, ground := Ground.data }], guard := none }) rfl (fun K hK => ?_) AllReadyH.nil))
        · go_simp
          have hbq : Bel zb (zb.alloc (.cells #[] 36)).drew := ((Bel.refl zb).alloc _).drew
          refine hK.out _ _ (HS.out _ (HBR.out.trans hbq)) (fun hHeld => ?_)
          clear hbq
          clear hK K
          try simp only [Act.put, List.setIfInBounds_toArray, List.set_cons_zero, List.set_cons_succ]
          obtain ⟨z1, hz1⟩ : ∃ x, x = (zb.alloc (.cells #[] 36)).drew := ⟨_, rfl⟩
          have HLE := Lib.hid (show z1.heap[zb.heap.size]? = some (.cells #[] 36 (0, 0)) by rw [hz1]; exact tnew12 zb (.cells #[] 36))
          have hltE : zb.heap.size < z1.heap.size := (Array.getElem?_eq_some_iff.1 HLE.out).1
          have hbz1 : Bel zb z1 := by rw [hz1]; exact ((Bel.refl zb).alloc _).drew
          have HBz1 := Lib.hid (HBR.out.trans hbz1)
          rw [← hz1] at hHeld ⊢
          clear hz1
          have HOE := Lib.hid (ownG_empty (E := entEl) (n := zb.heap.size) HLE.out HBR.out.size)
          refine wpAnyH_ready (rs := [4, 6]) (by kernel_rfl) (by simp) ?_
          refine (AllReadyH.cons (o := { dst := some 38, op := Op.call { callee := Callee.builtin Builtin.append, args := #[Operand.tmp 34, Operand.tmp 37], argTypes := #[27, 27] }, type := 27, pos := "ref.go:38", after := #[{ on := 0, ground := Ground.data }, { on := 3, ground := Ground.data }], guard := none }) rfl (fun K hK => ?_) (AllReadyH.cons (o := { dst := some 40, op := Op.buildSlice 27 1 #[(0, Operand.tmp 39)], type := 27, pos := "ref.go:38", after := #[{ on := 5, ground := Ground.data }], guard := none }) rfl (fun K hK => ?_) AllReadyH.nil))
          · refine step_append_all entOk rfl (.tmp 34) (.tmp 37) rfl rfl HOE.out (C.take k) rfl (HS1.out z1 HBz1.out) (plim1a HL1.out HL2.out) (plim1b HL1.out HL2.out) HBz1.out.size ?_
            intro vz2 z2 hoz2 hkz2 _
            have HBz2 := Lib.hid (show Bel zb z2 from HBz1.out.trans_below (hkz2.own HBz1.out.size (fun kk hkk => (HOE.out.lt kk hkk).1)))
            rw [List.nil_append] at hoz2
            have hkkz2 : Keep (Value.ownBlock (.slice (some ⟨zb.heap.size, 0, none⟩) 0 0)).toList z1 z2 := hkz2
            have HO2 := Lib.hid hoz2
            clear hoz2 hkz2 hkkz2
            refine hK.out _ _ (HS.out _ HBz2.out) (fun hHeld => ?_)
            clear hK K
            try simp only [Act.put, List.setIfInBounds_toArray, List.set_cons_zero, List.set_cons_succ]
            refine wpAnyH_ready (rs := [6]) (by kernel_rfl) (by simp) ?_
            refine AllReadyH.cons (o := { dst := some 40, op := Op.buildSlice 27 1 #[(0, Operand.tmp 39)], type := 27, pos := "ref.go:38", after := #[{ on := 5, ground := Ground.data }], guard := none }) rfl (fun K hK => ?_) AllReadyH.nil
            go_simp
            have hbq : Bel z2 (z2.alloc (.cells #[.string e.k, .int .i64 e.q, .bool e.d, .string e.v] 36)) := ((Bel.refl z2).alloc _)
            refine hK.out _ _ (HS.out _ (HBz2.out.trans hbq)) (fun hHeld => ?_)
            clear hbq
            clear hK K
            try simp only [Act.put, List.setIfInBounds_toArray, List.set_cons_zero, List.set_cons_succ]
            obtain ⟨z3, hz3⟩ : ∃ x, x = (z2.alloc (.cells #[.string e.k, .int .i64 e.q, .bool e.d, .string e.v] 36)) := ⟨_, rfl⟩
            have HLL := Lib.hid (show z3.heap[z2.heap.size]? = some (.cells #[.string e.k, .int .i64 e.q, .bool e.d, .string e.v] 36 (0, 0)) by rw [hz3]; exact tnew12 z2 (.cells #[.string e.k, .int .i64 e.q, .bool e.d, .string e.v] 36))
            have hltL : z2.heap.size < z3.heap.size := (Array.getElem?_eq_some_iff.1 HLL.out).1
            have hbz3 : Bel z2 z3 := by rw [hz3]; exact ((Bel.refl z2).alloc _)
            have HBz3 := Lib.hid (HBz2.out.trans hbz3)
            rw [← hz3] at hHeld ⊢
            clear hz3
            have HO2b := Lib.hid (HO2.out.bel hbz3)
            refine wpAnyH_ready (rs := [7]) (by kernel_rfl) (by simp) ?_
            refine AllReadyH.cons (o := { dst := some 41, op := Op.call { callee := Callee.builtin Builtin.append, args := #[Operand.tmp 38, Operand.tmp 40], argTypes := #[27, 27] }, type := 27, pos := "ref.go:38", after := #[{ on := 4, ground := Ground.data }, { on := 6, ground := Ground.data }, { on := 4, ground := Ground.chain }], guard := none }) rfl (fun K hK => ?_) AllReadyH.nil
            refine step_append_all entOk rfl (.tmp 38) (.tmp 40) rfl rfl HO2b.out ([e]) rfl (src_at [e] HLL.out rfl rfl) (plim2a HL1.out HL2.out) (plim2b HL1.out HL2.out) HBz3.out.size ?_
            intro vz4 z4 hoz4 hkz4 _
            have HBz4 := Lib.hid (show Bel zb z4 from HBz3.out.trans_below (hkz4.own HBz3.out.size (fun kk hkk => (HO2b.out.lt kk hkk).1)))
            have HO3 := Lib.hid hoz4
            clear hoz4 hkz4
            refine hK.out _ _ (HS.out _ HBz4.out) (fun hHeld => ?_)
            clear hK K
            try simp only [Act.put, List.setIfInBounds_toArray, List.set_cons_zero, List.set_cons_succ]
            refine wpAnyH_ready (rs := [11]) (by kernel_rfl) (by simp) ?_
            refine AllReadyH.cons (o := { dst := some 45, op := Op.call { callee := Callee.builtin Builtin.append, args := #[Operand.tmp 41, Operand.tmp 44], argTypes := #[27, 27] }, type := 27, pos := "ref.go:38", after := #[{ on := 7, ground := Ground.data }, { on := 10, ground := Ground.data }, { on := 7, ground := Ground.chain }], guard := none }) rfl (fun K hK => ?_) AllReadyH.nil
            refine step_append_all entOk rfl (.tmp 41) (.tmp 44) rfl rfl HO3.out (C.drop k) rfl (HS2.out z4 HBz4.out) (plim3a HL1.out HL2.out) (plim3b HL1.out HL2.out) HBz4.out.size ?_
            intro vz5 z5 hoz5 hkz5 _
            have HBz5 := Lib.hid (show Bel zb z5 from HBz4.out.trans_below (hkz5.own HBz4.out.size (fun kk hkk => (HO3.out.lt kk hkk).1)))
            have HO4 := Lib.hid hoz5
            clear hoz5 hkz5
            refine hK.out _ _ (HS.out _ HBz5.out) (fun hHeld => ?_)
            clear hK K
            try simp only [Act.put, List.setIfInBounds_toArray, List.set_cons_zero, List.set_cons_succ]
            refine wpAnyH_take (i := 12) (oi := { dst := some 4, op := Op.assign (Operand.tmp 45), type := 27, pos := "ref.go:38", after := #[{ on := 11, ground := Ground.data }, { on := 11, ground := Ground.chain }, { on := 0, ground := Ground.phase }, { on := 1, ground := Ground.phase }, { on := 2, ground := Ground.phase }, { on := 3, ground := Ground.phase }, { on := 4, ground := Ground.phase }, { on := 5, ground := Ground.phase }, { on := 6, ground := Ground.phase }, { on := 7, ground := Ground.phase }, { on := 8, ground := Ground.phase }, { on := 9, ground := Ground.phase }, { on := 10, ground := Ground.phase }, { on := 11, ground := Ground.phase }], guard := none }) (v := ?_) rfl (by kernel_rfl) (by kernel_rfl) (by kernel_rfl) (fun _ _ _ h => h) (Or.inl ⟨by rfl, ?_⟩) (by assumption) ?_
            rotate_left
            · (intro w hSw; (try dsimp only at hSw); first | (go_simp; done) | (go_simp; with_reducible rfl))
            try simp only [Act.put, List.setIfInBounds_toArray, List.set_cons_zero, List.set_cons_succ]
            refine wpAnyH_done (by kernel_rfl) ?_ _
            go_wp2_with (fail)
            go_ret
            exact ⟨_, rfl, by rw [HADD.out]; exact HO4.out.low (Nat.le_trans HBB.out HZW.out.size), HZW.out.trans HBz5.out⟩
          · go_simp
            have hbq : Bel z1 (z1.alloc (.cells #[.string e.k, .int .i64 e.q, .bool e.d, .string e.v] 36)) := ((Bel.refl z1).alloc _)
            refine hK.out _ _ (HS.out _ (HBz1.out.trans hbq)) (fun hHeld => ?_)
            clear hbq
            clear hK K
            try simp only [Act.put, List.setIfInBounds_toArray, List.set_cons_zero, List.set_cons_succ]
            obtain ⟨z2, hz2⟩ : ∃ x, x = (z1.alloc (.cells #[.string e.k, .int .i64 e.q, .bool e.d, .string e.v] 36)) := ⟨_, rfl⟩
            have HLL := Lib.hid (show z2.heap[z1.heap.size]? = some (.cells #[.string e.k, .int .i64 e.q, .bool e.d, .string e.v] 36 (0, 0)) by rw [hz2]; exact tnew12 z1 (.cells #[.string e.k, .int .i64 e.q, .bool e.d, .string e.v] 36))
            have hltL : z1.heap.size < z2.heap.size := (Array.getElem?_eq_some_iff.1 HLL.out).1
            have hbz2 : Bel z1 z2 := by rw [hz2]; exact ((Bel.refl z1).alloc _)
            have HBz2 := Lib.hid (HBz1.out.trans hbz2)
            rw [← hz2] at hHeld ⊢
            clear hz2
            have HOE2 := Lib.hid (HOE.out.bel hbz2)
            refine wpAnyH_ready (rs := [4]) (by kernel_rfl) (by simp) ?_
            refine AllReadyH.cons (o := { dst := some 38, op := Op.call { callee := Callee.builtin Builtin.append, args := #[Operand.tmp 34, Operand.tmp 37], argTypes := #[27, 27] }, type := 27, pos := "ref.go:38", after := #[{ on := 0, ground := Ground.data }, { on := 3, ground := Ground.data }], guard := none }) rfl (fun K hK => ?_) AllReadyH.nil
            refine step_append_all entOk rfl (.tmp 34) (.tmp 37) rfl rfl HOE2.out (C.take k) rfl (HS1.out z2 HBz2.out) (plim1a HL1.out HL2.out) (plim1b HL1.out HL2.out) HBz2.out.size ?_
            intro vz3 z3 hoz3 hkz3 _
            have HBz3 := Lib.hid (show Bel zb z3 from HBz2.out.trans_below (hkz3.own HBz2.out.size (fun kk hkk => (HOE2.out.lt kk hkk).1)))
            rw [List.nil_append] at hoz3
            have hkkz3 : Keep (Value.ownBlock (.slice (some ⟨zb.heap.size, 0, none⟩) 0 0)).toList z2 z3 := hkz3
            have HLL3 := Lib.hid (hkkz3.at HLL.out (fun hm => by rw [Option.mem_toList] at hm; simp only [Value.ownBlock, Option.some.injEq] at hm; omega))
            have HO2 := Lib.hid hoz3
            clear hoz3 hkz3 hkkz3
            refine hK.out _ _ (HS.out _ HBz3.out) (fun hHeld => ?_)
            clear hK K
            try simp only [Act.put, List.setIfInBounds_toArray, List.set_cons_zero, List.set_cons_succ]
            refine wpAnyH_ready (rs := [7]) (by kernel_rfl) (by simp) ?_
            refine AllReadyH.cons (o := { dst := some 41, op := Op.call { callee := Callee.builtin Builtin.append, args := #[Operand.tmp 38, Operand.tmp 40], argTypes := #[27, 27] }, type := 27, pos := "ref.go:38", after := #[{ on := 4, ground := Ground.data }, { on := 6, ground := Ground.data }, { on := 4, ground := Ground.chain }], guard := none }) rfl (fun K hK => ?_) AllReadyH.nil
            refine step_append_all entOk rfl (.tmp 38) (.tmp 40) rfl rfl HO2.out ([e]) rfl (src_at [e] HLL3.out rfl rfl) (plim2a HL1.out HL2.out) (plim2b HL1.out HL2.out) HBz3.out.size ?_
            intro vz4 z4 hoz4 hkz4 _
            have HBz4 := Lib.hid (show Bel zb z4 from HBz3.out.trans_below (hkz4.own HBz3.out.size (fun kk hkk => (HO2.out.lt kk hkk).1)))
            have HO3 := Lib.hid hoz4
            clear hoz4 hkz4
            refine hK.out _ _ (HS.out _ HBz4.out) (fun hHeld => ?_)
            clear hK K
            try simp only [Act.put, List.setIfInBounds_toArray, List.set_cons_zero, List.set_cons_succ]
            refine wpAnyH_ready (rs := [11]) (by kernel_rfl) (by simp) ?_
            refine AllReadyH.cons (o := { dst := some 45, op := Op.call { callee := Callee.builtin Builtin.append, args := #[Operand.tmp 41, Operand.tmp 44], argTypes := #[27, 27] }, type := 27, pos := "ref.go:38", after := #[{ on := 7, ground := Ground.data }, { on := 10, ground := Ground.data }, { on := 7, ground := Ground.chain }], guard := none }) rfl (fun K hK => ?_) AllReadyH.nil
            refine step_append_all entOk rfl (.tmp 41) (.tmp 44) rfl rfl HO3.out (C.drop k) rfl (HS2.out z4 HBz4.out) (plim3a HL1.out HL2.out) (plim3b HL1.out HL2.out) HBz4.out.size ?_
            intro vz5 z5 hoz5 hkz5 _
            have HBz5 := Lib.hid (show Bel zb z5 from HBz4.out.trans_below (hkz5.own HBz4.out.size (fun kk hkk => (HO3.out.lt kk hkk).1)))
            have HO4 := Lib.hid hoz5
            clear hoz5 hkz5
            refine hK.out _ _ (HS.out _ HBz5.out) (fun hHeld => ?_)
            clear hK K
            try simp only [Act.put, List.setIfInBounds_toArray, List.set_cons_zero, List.set_cons_succ]
            refine wpAnyH_take (i := 12) (oi := { dst := some 4, op := Op.assign (Operand.tmp 45), type := 27, pos := "ref.go:38", after := #[{ on := 11, ground := Ground.data }, { on := 11, ground := Ground.chain }, { on := 0, ground := Ground.phase }, { on := 1, ground := Ground.phase }, { on := 2, ground := Ground.phase }, { on := 3, ground := Ground.phase }, { on := 4, ground := Ground.phase }, { on := 5, ground := Ground.phase }, { on := 6, ground := Ground.phase }, { on := 7, ground := Ground.phase }, { on := 8, ground := Ground.phase }, { on := 9, ground := Ground.phase }, { on := 10, ground := Ground.phase }, { on := 11, ground := Ground.phase }], guard := none }) (v := ?_) rfl (by kernel_rfl) (by kernel_rfl) (by kernel_rfl) (fun _ _ _ h => h) (Or.inl ⟨by rfl, ?_⟩) (by assumption) ?_
            rotate_left
            · (intro w hSw; (try dsimp only at hSw); first | (go_simp; done) | (go_simp; with_reducible rfl))
            try simp only [Act.put, List.setIfInBounds_toArray, List.set_cons_zero, List.set_cons_succ]
            refine wpAnyH_done (by kernel_rfl) ?_ _
            go_wp2_with (fail)
            go_ret
            exact ⟨_, rfl, by rw [HADD.out]; exact HO4.out.low (Nat.le_trans HBB.out HZW.out.size), HZW.out.trans HBz5.out⟩
        · go_simp
          have hbq : Bel zb (zb.alloc (.cells #[.string e.k, .int .i64 e.q, .bool e.d, .string e.v] 36)).drew := ((Bel.refl zb).alloc _).drew
          refine hK.out _ _ (HS.out _ (HBR.out.trans hbq)) (fun hHeld => ?_)
          clear hbq
          clear hK K
          try simp only [Act.put, List.setIfInBounds_toArray, List.set_cons_zero, List.set_cons_succ]
          obtain ⟨z1, hz1⟩ : ∃ x, x = (zb.alloc (.cells #[.string e.k, .int .i64 e.q, .bool e.d, .string e.v] 36)).drew := ⟨_, rfl⟩
          have HLL := Lib.hid (show z1.heap[zb.heap.size]? = some (.cells #[.string e.k, .int .i64 e.q, .bool e.d, .string e.v] 36 (0, 0)) by rw [hz1]; exact tnew12 zb (.cells #[.string e.k, .int .i64 e.q, .bool e.d, .string e.v] 36))
          have hltL : zb.heap.size < z1.heap.size := (Array.getElem?_eq_some_iff.1 HLL.out).1
          have hbz1 : Bel zb z1 := by rw [hz1]; exact ((Bel.refl zb).alloc _).drew
          have HBz1 := Lib.hid (HBR.out.trans hbz1)
          rw [← hz1] at hHeld ⊢
          clear hz1
          refine wpAnyH_ready (rs := [0]) (by kernel_rfl) (by simp) ?_
          refine AllReadyH.cons (o := { dst := some 34, op := Op.buildSlice 27 0 #[], type := 27, pos := "ref.go:38", after := #[], guard := none }) rfl (fun K hK => ?_) AllReadyH.nil
          go_simp
          have hbq : Bel z1 (z1.alloc (.cells #[] 36)) := ((Bel.refl z1).alloc _)
          refine hK.out _ _ (HS.out _ (HBz1.out.trans hbq)) (fun hHeld => ?_)
          clear hbq
          clear hK K
          try simp only [Act.put, List.setIfInBounds_toArray, List.set_cons_zero, List.set_cons_succ]
          obtain ⟨z2, hz2⟩ : ∃ x, x = (z1.alloc (.cells #[] 36)) := ⟨_, rfl⟩
          have HLE := Lib.hid (show z2.heap[z1.heap.size]? = some (.cells #[] 36 (0, 0)) by rw [hz2]; exact tnew12 z1 (.cells #[] 36))
          have hltE : z1.heap.size < z2.heap.size := (Array.getElem?_eq_some_iff.1 HLE.out).1
          have hbz2 : Bel z1 z2 := by rw [hz2]; exact ((Bel.refl z1).alloc _)
          have HBz2 := Lib.hid (HBz1.out.trans hbz2)
          rw [← hz2] at hHeld ⊢
          clear hz2
          have HOE := Lib.hid (ownG_empty (E := entEl) (n := zb.heap.size) HLE.out HBz1.out.size)
          have HLL2 := Lib.hid ((Below.block hbz2 zb.heap.size (by omega)).trans HLL.out)
          refine wpAnyH_ready (rs := [4]) (by kernel_rfl) (by simp) ?_
          refine AllReadyH.cons (o := { dst := some 38, op := Op.call { callee := Callee.builtin Builtin.append, args := #[Operand.tmp 34, Operand.tmp 37], argTypes := #[27, 27] }, type := 27, pos := "ref.go:38", after := #[{ on := 0, ground := Ground.data }, { on := 3, ground := Ground.data }], guard := none }) rfl (fun K hK => ?_) AllReadyH.nil
          refine step_append_all entOk rfl (.tmp 34) (.tmp 37) rfl rfl HOE.out (C.take k) rfl (HS1.out z2 HBz2.out) (plim1a HL1.out HL2.out) (plim1b HL1.out HL2.out) HBz2.out.size ?_
          intro vz3 z3 hoz3 hkz3 _
          have HBz3 := Lib.hid (show Bel zb z3 from HBz2.out.trans_below (hkz3.own HBz2.out.size (fun kk hkk => (HOE.out.lt kk hkk).1)))
          rw [List.nil_append] at hoz3
          have hkkz3 : Keep (Value.ownBlock (.slice (some ⟨z1.heap.size, 0, none⟩) 0 0)).toList z2 z3 := hkz3
          have HLL3 := Lib.hid (hkkz3.at HLL2.out (fun hm => by rw [Option.mem_toList] at hm; simp only [Value.ownBlock, Option.some.injEq] at hm; omega))
          have HO2 := Lib.hid hoz3
          clear hoz3 hkz3 hkkz3
          refine hK.out _ _ (HS.out _ HBz3.out) (fun hHeld => ?_)
          clear hK K
          try simp only [Act.put, List.setIfInBounds_toArray, List.set_cons_zero, List.set_cons_succ]
          refine wpAnyH_ready (rs := [7]) (by kernel_rfl) (by simp) ?_
          refine AllReadyH.cons (o := { dst := some 41, op := Op.call { callee := Callee.builtin Builtin.append, args := #[Operand.tmp 38, Operand.tmp 40], argTypes := #[27, 27] }, type := 27, pos := "ref.go:38", after := #[{ on := 4, ground := Ground.data }, { on := 6, ground := Ground.data }, { on := 4, ground := Ground.chain }], guard := none }) rfl (fun K hK => ?_) AllReadyH.nil
          refine step_append_all entOk rfl (.tmp 38) (.tmp 40) rfl rfl HO2.out ([e]) rfl (src_at [e] HLL3.out rfl rfl) (plim2a HL1.out HL2.out) (plim2b HL1.out HL2.out) HBz3.out.size ?_
          intro vz4 z4 hoz4 hkz4 _
          have HBz4 := Lib.hid (show Bel zb z4 from HBz3.out.trans_below (hkz4.own HBz3.out.size (fun kk hkk => (HO2.out.lt kk hkk).1)))
          have HO3 := Lib.hid hoz4
          clear hoz4 hkz4
          refine hK.out _ _ (HS.out _ HBz4.out) (fun hHeld => ?_)
          clear hK K
          try simp only [Act.put, List.setIfInBounds_toArray, List.set_cons_zero, List.set_cons_succ]
          refine wpAnyH_ready (rs := [11]) (by kernel_rfl) (by simp) ?_
          refine AllReadyH.cons (o := { dst := some 45, op := Op.call { callee := Callee.builtin Builtin.append, args := #[Operand.tmp 41, Operand.tmp 44], argTypes := #[27, 27] }, type := 27, pos := "ref.go:38", after := #[{ on := 7, ground := Ground.data }, { on := 10, ground := Ground.data }, { on := 7, ground := Ground.chain }], guard := none }) rfl (fun K hK => ?_) AllReadyH.nil
          refine step_append_all entOk rfl (.tmp 41) (.tmp 44) rfl rfl HO3.out (C.drop k) rfl (HS2.out z4 HBz4.out) (plim3a HL1.out HL2.out) (plim3b HL1.out HL2.out) HBz4.out.size ?_
          intro vz5 z5 hoz5 hkz5 _
          have HBz5 := Lib.hid (show Bel zb z5 from HBz4.out.trans_below (hkz5.own HBz4.out.size (fun kk hkk => (HO3.out.lt kk hkk).1)))
          have HO4 := Lib.hid hoz5
          clear hoz5 hkz5
          refine hK.out _ _ (HS.out _ HBz5.out) (fun hHeld => ?_)
          clear hK K
          try simp only [Act.put, List.setIfInBounds_toArray, List.set_cons_zero, List.set_cons_succ]
          refine wpAnyH_take (i := 12) (oi := { dst := some 4, op := Op.assign (Operand.tmp 45), type := 27, pos := "ref.go:38", after := #[{ on := 11, ground := Ground.data }, { on := 11, ground := Ground.chain }, { on := 0, ground := Ground.phase }, { on := 1, ground := Ground.phase }, { on := 2, ground := Ground.phase }, { on := 3, ground := Ground.phase }, { on := 4, ground := Ground.phase }, { on := 5, ground := Ground.phase }, { on := 6, ground := Ground.phase }, { on := 7, ground := Ground.phase }, { on := 8, ground := Ground.phase }, { on := 9, ground := Ground.phase }, { on := 10, ground := Ground.phase }, { on := 11, ground := Ground.phase }], guard := none }) (v := ?_) rfl (by kernel_rfl) (by kernel_rfl) (by kernel_rfl) (fun _ _ _ h => h) (Or.inl ⟨by rfl, ?_⟩) (by assumption) ?_
          rotate_left
          · (intro w hSw; (try dsimp only at hSw); first | (go_simp; done) | (go_simp; with_reducible rfl))
          try simp only [Act.put, List.setIfInBounds_toArray, List.set_cons_zero, List.set_cons_succ]
          refine wpAnyH_done (by kernel_rfl) ?_ _
          go_wp2_with (fail)
          go_ret
          exact ⟨_, rfl, by rw [HADD.out]; exact HO4.out.low (Nat.le_trans HBB.out HZW.out.size), HZW.out.trans HBz5.out⟩
end Go.Proofs.Ytmdkpomgckkllaa
/- moultref12's Merge: row by row, entry by entry. -/
set_option maxRecDepth 100000
namespace Go.Proofs.Ytmdkpomgckkllaa
open Go.RowKit Go.Deep

theorem merge_snoc (X : List EB) (e : EB) : mergeB (X ++ [e]) = insE e (mergeB X) := by unfold mergeB; rw [List.foldl_append]; rfl
theorem fold_len12 : ∀ (l out : List EB), (l.foldl (fun out e => insE e out) out).length ≤ out.length + l.length
  | [], out => by simp
  | x :: l, out => by
    rw [List.foldl_cons]
    have h1 := fold_len12 l (insE x out)
    have h2 := ins_len x out
    simp only [List.length_cons]; omega
theorem merge_len (X : List EB) : (mergeB X).length ≤ X.length := by have := fold_len12 X []; simpa [mergeB] using this
theorem merge_fits {X : List EB} (h : fitsL X) : fitsL (mergeB X) := fun e he => h e (merge_mem he)
theorem flat_take {R : List (List EB)} {i : Nat} (hi : i < R.length) : (R.take (i + 1)).flatten = (R.take i).flatten ++ R[i] := by
  rw [List.take_add_one, List.getElem?_eq_getElem hi, Option.toList_some, List.flatten_append]; simp
theorem flat_le {R : List (List EB)} (i : Nat) : (R.take i).flatten.length ≤ R.flatten.length := by
  have : R.flatten = (R.take i).flatten ++ (R.drop i).flatten := by rw [← List.flatten_append, List.take_append_drop]
  rw [this, List.length_append]; omega
theorem take_snoc12 {L : List EB} {k : Nat} (hk : k < L.length) : L.take (k + 1) = L.take k ++ [L[k]] := by
  rw [List.take_add_one, List.getElem?_eq_getElem hk]; rfl
set_option maxHeartbeats 4000000 in
theorem rmerge_any (p : Option Addr) (cap : Nat) (R : List (List EB)) (w : World) (h : RowsAt w p R) (hl : R.flatten.length ≤ 1000) (hR : R.length ≤ 1000) (hf : fitsL R.flatten) :
    Calls Try.prog 12 #[.slice p R.length cap] w fun r w' => ∃ v, r = .returned v ∧ OwnG entEl w.heap.size w' v (mergeB R.flatten) ∧ Bel w w' := by
  have H := Lib.hid h; have HF := Lib.hid hf; have HL := Lib.hid hl
  clear h hf hl
  go_enter Try.func12, Try.ntmps12
  go_wp2_with (fail)
  go_loopw [3, 4] (fun ov iv x => ∃ i : Nat, i ≤ R.length ∧ iv = .int .i64 i ∧ OwnG entEl w.heap.size x ov (mergeB (R.take i).flatten) ∧ Bel w x) (fun _ iv _ => R.length - (intOf iv).toNat)
  case atStart => exact ⟨0, Nat.zero_le _, rfl, OwnG.nil _ _ _, Bel.refl w⟩
  case round =>
    obtain ⟨i, hi, rfl, hown, hw⟩ := hrel
    have HW := Lib.hid hw
    by_cases hil : i < R.length
    · obtain ⟨a, q, c, rfl, hq, hrow, -⟩ := (H.out.bel hw) i hil
      have HROW := Lib.hid hrow
      have HO := Lib.hid hown
      have hLen : R[i].length ≤ 1000 := by
        have h1 := flat_le (R := R) (i + 1)
        rw [flat_take hil, List.length_append] at h1
        have := HL.out; omega
      have HFT := Lib.hid (flat_take hil)
      have HLE := Lib.hid (flat_le (R := R) (i + 1))
      have HSUB := Lib.hid (show ∀ e ∈ (R.take i).flatten ++ R[i], e ∈ R.flatten from fun e he => by
        rw [← flat_take hil] at he
        have : R.flatten = (R.take (i + 1)).flatten ++ (R.drop (i + 1)).flatten := by rw [← List.flatten_append, List.take_append_drop]
        rw [this]; exact List.mem_append_left _ he)
      have HQ := Lib.hid hq
      obtain ⟨L, hL⟩ : ∃ L, L = R[i] := ⟨_, rfl⟩
      obtain ⟨X, hX⟩ : ∃ X, X = (R.take i).flatten := ⟨_, rfl⟩
      rw [← hL] at hq HROW hLen HFT HSUB HQ
      rw [← hX] at HO HFT HSUB
      clear hw hown hrow hL
      go_wp2_with (fail)
      go_loopw [3, 5] (fun ov kv x => ∃ k : Nat, k ≤ L.length ∧ kv = .int .i64 k ∧ OwnG entEl w.heap.size x ov (mergeB (X ++ L.take k)) ∧ Bel wr x) (fun _ kv _ => L.length - (intOf kv).toNat)
      case atStart => exact ⟨0, Nat.zero_le _, rfl, by rw [List.take_zero, List.append_nil]; exact HO.out, Bel.refl wr⟩
      case round =>
        obtain ⟨k, hk, rfl, hown2, hw2⟩ := hrel
        have HW2 := Lib.hid hw2
        have HO2 := Lib.hid hown2
        have hq' := cl12 hw2 HQ.out
        by_cases hkl : k < L.length
        · obtain ⟨a2, ha2, -⟩ := (HROW.out.bel hw2) k hkl
          subst ha2
          obtain ⟨B, O, sp, ha, z0, z1, z2, z3⟩ := ent_at12 (HROW.out.bel hw2) hkl
          have HP := Lib.hid (rput_any w.heap.size _ (mergeB (X ++ L.take k)) L[k] wr hown2 ((HW.out.trans hw2).size) (by
            have h1 := merge_len (X ++ L.take k)
            have h2 := HLE.out
            rw [HFT.out, List.length_append] at h2
            rw [List.length_append, List.length_take] at h1
            have := HL.out; omega) (fun e he => HF.out e (HSUB.out e (by
              have := merge_mem he
              rcases List.mem_append.1 this with h | h
              · exact List.mem_append_left _ h
              · exact List.mem_append_right _ (List.mem_of_mem_take h)))) (HF.out _ (HSUB.out _ (List.mem_append_right _ (List.getElem_mem hkl)))))
          have HM := Lib.hid (show mergeB (X ++ L.take (k + 1)) = insE L[k] (mergeB (X ++ L.take k)) by rw [take_snoc12 hkl, ← List.append_assoc, merge_snoc])
          clear hq hown2 hw2
          go_wp2_with (fail)
          refine HP.out.mono ?_
          rintro r w2 ⟨v', rfl, ho', hb⟩
          have HO3 := Lib.hid ho'
          have HB3 := Lib.hid (HW2.out.trans hb)
          clear ho' hb
          go_wp2_with (fail)
          go_roundw
          case rel => exact ⟨k + 1, hkl, by go_num, by rw [HM.out]; exact HO3.out, HB3.out⟩
          case measure => simp [intOf]; omega
        · obtain rfl : k = L.length := by omega
          rw [List.take_length] at HO2
          clear hq hown2 hw2
          go_wp2_with (fail)
          go_roundw
          case rel => exact ⟨i + 1, hil, by go_num, by rw [HFT.out]; exact HO2.out, HW.out.trans HW2.out⟩
          case measure => simp [intOf]; omega
    · obtain rfl : i = R.length := by omega
      rw [List.take_length] at hown
      obtain ⟨ap, ac, rfl⟩ := ownG_len hown
      have HO := Lib.hid hown
      clear hown hw
      go_wp2_with (fail)
      go_ret
      exact ⟨_, rfl, HO.out, HW.out⟩
end Go.Proofs.Ytmdkpomgckkllaa
/- moultlaw12's rows: each row small, and sorted. -/
set_option maxRecDepth 100000
namespace Go.Proofs.Ytmdkpomgckkllaa
open Go.RowKit Go.Deep

def slEl12 : El SL := ⟨27, 22, 1, fun s => [s.val]⟩
theorem slOk12 : ElOk slEl12 24 := ⟨fun _ => rfl, fun a u hu => by simp [slEl12] at hu; subst hu; rfl, by kernel_rfl, ⟨.slice none 0 0, by kernel_rfl, rfl⟩, by decide⟩
/-- What has been gathered: each row's entries, in order, in a block of its own. -/
structure Gath (B : Nat) (x : World) (ov : Value) (H : List SL) (Q : List (List EB)) : Prop where
  own : OwnG slEl12 B x ov H
  len : H.length = Q.length
  els : ∀ (i : Nat) (s : SL) (l : List EB), H[i]? = some s → Q[i]? = some l → OwnG entEl B x s.val l
theorem Gath.bel {B : Nat} {x y : World} {ov : Value} {H : List SL} {Q : List (List EB)} (h : Gath B x ov H Q) (hb : Bel x y) : Gath B y ov H Q :=
  ⟨h.own.bel hb, h.len, fun i s l hs hl => (h.els i s l hs hl).bel hb⟩
theorem Gath.nil (B : Nat) (x : World) : Gath B x (.slice none 0 0) [] [] := ⟨OwnG.nil _ _ _, rfl, fun i s l hs => by simp at hs⟩
theorem Gath.push {B : Nat} {x y : World} {ov ov' : Value} {H : List SL} {Q : List (List EB)} {s : SL} {l : List EB} (h : Gath B x ov H Q) (hs : OwnG entEl B x s.val l) (ho : OwnG slEl12 B y ov' (H ++ [s])) (hk : Keep ov.ownBlock.toList x y) : Gath B y ov' (H ++ [s]) (Q ++ [l]) := by
  have hkeep : ∀ (s : SL) (l : List EB), OwnG entEl B x s.val l → OwnG entEl B y s.val l := fun s l hs => hs.keep hk (fun k hk' hm => own_apart hs h.own (by decide) k hk' (by rwa [Option.mem_toList] at hm))
  refine ⟨ho, by simp [h.len], fun i s' l' hs' hl' => ?_⟩
  by_cases hi : i < H.length
  · rw [List.getElem?_append_left hi] at hs'
    rw [List.getElem?_append_left (by rw [← h.len]; exact hi)] at hl'
    exact hkeep s' l' (h.els i s' l' hs' hl')
  · rw [List.getElem?_append_right (by omega)] at hs'
    rw [List.getElem?_append_right (by rw [← h.len]; omega)] at hl'
    have h0 : i - H.length = 0 := by
      rcases Nat.eq_zero_or_pos (i - H.length) with h | h
      · exact h
      · rw [List.getElem?_eq_none (by simp only [List.length_singleton]; omega)] at hs'; cases hs'
    rw [h0] at hs'
    rw [← h.len, h0] at hl'
    simp at hs' hl'
    subst hs' hl'
    exact hkeep _ _ hs
/-- Gathered rows lie as rows. -/
theorem Gath.rows {B : Nat} {x : World} {ov : Value} {H : List SL} {Q : List (List EB)} (h : Gath B x ov H Q) : ∃ q cap, ov = .slice q Q.length cap ∧ Q.length ≤ cap ∧ RowsAt x q Q := by
  by_cases hH : H = []
  · subst hH
    have hQ : Q = [] := List.length_eq_zero_iff.1 (by rw [← h.len]; rfl)
    subst hQ
    obtain ⟨p, cap, hv⟩ := ownG_len h.own
    exact ⟨p, cap, hv, Nat.zero_le _, fun i hi => by simp at hi⟩
  · obtain ⟨g, cap, hv, _, _, hcap, hc⟩ := ownG_cells slOk12 h.own hH
    refine ⟨_, cap, by rw [hv, h.len], by rw [← h.len]; exact hcap, fun i hi => ?_⟩
    have hi' : i < H.length := by rw [h.len]; exact hi
    obtain ⟨sp, sc, hsv, he, hle⟩ := ownG_ents12 (h.els i H[i] Q[i] (List.getElem?_eq_getElem hi') (List.getElem?_eq_getElem hi))
    refine ⟨_, sp, sc, rfl, ?_, he, hle⟩
    have := hc i H[i] (List.getElem?_eq_getElem hi') 0 _ rfl
    rw [show i * slEl12.n + 0 = i from by show i * 1 + 0 = i; omega] at this
    rw [show (⟨g, 0, none⟩ : Addr).add i = ⟨g, i, none⟩ from by cases i <;> simp [Addr.add], this, hsv]
theorem rows_lit1 {w : World} {B n c : Nat} {q : Option Addr} {L : List EB} (h : w.heap[B]? = some (.cells #[.slice q n c] 27 (0, 0))) (hn : n = L.length) (he : EntsAt w q L) (hc : L.length ≤ c) : RowsAt w (some ⟨B, 0, none⟩) [L] := by
  subst hn
  intro i hi
  obtain rfl : i = 0 := by simpa using hi
  exact ⟨_, q, c, rfl, by show w.cell? ⟨B, 0, none⟩ = _; simp [World.cell?, h], he, hc⟩
/-- Not too many rows, each of not too many entries. -/
def Rows12 (R : List (List EB)) : Prop := R.length ≤ 8 ∧ ∀ L ∈ R, Small12 L
set_option maxHeartbeats 4000000 in
theorem lrows_any (p : Option Addr) (cap : Nat) (R : List (List EB)) (w : World) (h : RowsAt w p R) (hR : R.length ≤ 9223372036854775807) (hl : ∀ L ∈ R, L.length ≤ 9223372036854775807 ∧ fitsL L) :
    Calls Try.prog 10 #[.slice p R.length cap] w fun r w' => Bel w w' ∧
      ((Rows12 R ∧ ∃ q c, r = .returned (.tuple #[.slice q R.length c, .bool true]) ∧ R.length ≤ c ∧ RowsAt w' q (R.map mergeB)) ∨ ∃ v, r = .returned (.tuple #[v, .bool false])) := by
  have H := Lib.hid h; have HL := Lib.hid hl
  clear h hl
  by_cases h8 : R.length ≤ 8
  · have h8' : (R.length : Int) ≤ 8 := by omega
    go_enter Try.func10, Try.ntmps10
    go_wp2_with (fail)
    go_loopw [4, 5] (fun ov iv x => ∃ (i : Nat) (Hs : List SL), i ≤ R.length ∧ iv = .int .i64 i ∧ Gath w.heap.size x ov Hs ((R.take i).map mergeB) ∧ (∀ j (h : j < R.length), j < i → Small12 R[j]) ∧ Bel w x) (fun _ iv _ => R.length - (intOf iv).toNat)
    case atStart => exact ⟨0, [], Nat.zero_le _, rfl, Gath.nil _ _, fun j _ h => by omega, Bel.refl w⟩
    case round =>
      obtain ⟨i, Hs, hi, rfl, hg, hall, hw⟩ := hrel
      have HW := Lib.hid hw; have HG := Lib.hid hg; have HA := Lib.hid hall
      obtain ⟨op, oc, rfl⟩ := ownG_len hg.own
      have hHl : Hs.length ≤ 8 := by
        have := hg.len
        rw [List.length_map, List.length_take] at this; omega
      by_cases hil : i < R.length
      · obtain ⟨a, q, c, rfl, hq, hrow, hcap⟩ := (H.out.bel hw) i hil
        obtain ⟨B, O, sp, ha⟩ : ∃ B O sp, a.add i = ⟨B, O, sp⟩ := ⟨_, _, _, rfl⟩
        rw [ha] at hq
        have HROW := Lib.hid hrow
        have HLL := Lib.hid (HL.out R[i] (List.getElem_mem hil))
        have HNX := Lib.hid (show (R.take (i + 1)).map mergeB = (R.take i).map mergeB ++ [mergeB R[i]] by rw [List.take_add_one, List.getElem?_eq_getElem hil, Option.toList_some, List.map_append]; rfl)
        have HAN := Lib.hid (show Small12 R[i] → ∀ j (h : j < R.length), j < i + 1 → Small12 R[j] from fun hh j h hj => by
          by_cases e : j = i
          · subst e; exact hh
          · exact hall j h (by omega))
        have hLl := HLL.out.1
        generalize R[i] = L at *
        have HSM := Lib.hid (small12_any q c L wr hrow hLl HLL.out.2)
        have hii : (i : Int) < (R.length : Int) := by omega
        clear hw hg hall hrow
        go_wp2_with (fail)
        refine HSM.out.mono ?_
        rintro r w2 ⟨hd2, (⟨hsm, rfl⟩ | rfl)⟩
        · have HB2 := Lib.hid hd2.bel
          have hq2 := cl12 hd2.bel hq
          have hlen60 := hsm.1
          have HSMM := Lib.hid hsm
          have HAL := Lib.hid ((Bel.refl w2).alloc (.cells #[.slice q L.length c] 27))
          have HMG := Lib.hid (rmerge_any (some ⟨w2.heap.size, 0, none⟩) 1 [L] (w2.alloc (.cells #[.slice q L.length c] 27)) (rows_lit1 (tnew12 w2 _) rfl ((HROW.out.bel HB2.out).bel HAL.out) hcap) (by simp; omega) (by simp) (by simpa using HLL.out.2))
          rw [show [L].flatten = L from by simp, show [L].length = 1 from rfl] at HMG
          clear hd2 hsm HSM
          go_wp2_with (fail)
          refine HMG.out.mono ?_
          rintro r w3 ⟨v3, rfl, ho3, hb3⟩
          have HB3 := Lib.hid ((HB2.out.trans HAL.out).trans hb3)
          have HO3 := Lib.hid (ho3.low (Nat.le_trans HW.out.size (HB2.out.trans HAL.out).size))
          obtain ⟨p3, c3, rfl⟩ := ownG_len ho3
          generalize hm3 : (mergeB L).length = m3 at *
          have HO3' := Lib.hid (show OwnG entEl w.heap.size w3 (SL.mk p3 m3 c3).val (mergeB L) from HO3.out)
          clear ho3 hb3 HMG hm3
          have HLIT := Lib.hid (tnew12 w3 (.cells #[.slice p3 m3 c3] 27))
          have HAL3 := Lib.hid ((Bel.refl w3).alloc (.cells #[.slice p3 m3 c3] 27))
          have HG3 := Lib.hid ((HG.out.bel HB3.out).bel HAL3.out)
          have HWA := Lib.hid ((HW.out.trans HB3.out).trans HAL3.out)
          go_wp2_with (at_builtin; refine stop_here ?_)
          refine go_on ?_
          refine append_all slOk12 rfl _ _ rfl rfl HG3.out.own [SL.mk p3 m3 c3] rfl (src_at [SL.mk p3 m3 c3] HLIT.out rfl rfl) (by simp only [List.length_singleton]; unfold maxLen; omega) (by simp only [List.length_singleton]; omega) HWA.out.size ?_
          intro v7 w7 ho7 hk7 _
          have HG7 := Lib.hid (HG3.out.push (HO3'.out.bel HAL3.out) ho7 hk7)
          have HW7 := Lib.hid (HWA.out.trans_below (hk7.own HWA.out.size (fun kk hkk => (HG3.out.own.lt kk hkk).1)))
          have HAN2 := Lib.hid (HAN.out HSMM.out)
          clear ho7 hk7
          go_wp2_with (fail)
          go_roundw
          case rel => exact ⟨i + 1, _, hil, by go_num, by rw [HNX.out]; exact HG7.out, HAN2.out, HW7.out⟩
          case measure => simp [intOf]; omega
        · have HB2 := Lib.hid hd2.bel
          clear hd2 HSM
          go_wp2_with (fail)
          go_ret2
          exact ⟨HW.out.trans HB2.out, Or.inr ⟨_, rfl⟩⟩
      · obtain rfl : i = R.length := by omega
        rw [List.take_length] at hg
        obtain ⟨q, c, hv, hcc, hrr⟩ := hg.rows
        rw [List.length_map] at hv hcc
        simp only [Value.slice.injEq] at hv
        obtain ⟨rfl, hv2, rfl⟩ := hv
        rw [hv2]
        have HRR := Lib.hid hrr
        have hii : ¬ (R.length : Int) < (R.length : Int) := by omega
        have HS := Lib.hid (show ∀ L ∈ R, Small12 L from fun L hL => by
          obtain ⟨j, hj, rfl⟩ := List.getElem_of_mem hL
          exact hall j hj hj)
        clear hw hg hall hrr
        go_wp2_with (fail)
        go_ret2
        exact ⟨HW.out, Or.inl ⟨⟨h8, HS.out⟩, _, _, rfl, hcc, HRR.out⟩⟩
  · have h8' : ¬ (R.length : Int) ≤ 8 := by omega
    go_enter Try.func10, Try.ntmps10
    go_wp2_with (fail)
    go_ret2
    exact ⟨Bel.refl w, Or.inr ⟨_, rfl⟩⟩
end Go.Proofs.Ytmdkpomgckkllaa
