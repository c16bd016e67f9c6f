/- moultref6's put: a file stands where it belongs. -/
import Derived.Test.YtedopiojidaeiaaFPut
import Derived.Test.YtedopiojidaeiaaHeldL
set_option linter.unusedSimpArgs false
set_option linter.unusedVariables false
namespace Go.Proofs.Ytedopiojidaeiaa
open Go.RowKit Go.Deep

theorem pt_all_take (L : List FI) (k j : Nat) (u : Value) (h : (fileEl.all (L.take k))[j]? = some u) : (fileEl.all L)[j]? = some u := by
  have e : fileEl.all L = fileEl.all (L.take k) ++ fileEl.all (L.drop k) := by rw [← El.all_append, List.take_append_drop]
  rw [e, List.getElem?_append_left]
  · exact h
  · rcases Nat.lt_or_ge j (fileEl.all (L.take k)).length with hl | hl
    · exact hl
    · rw [List.getElem?_eq_none hl] at h; cases h
theorem pt_all_drop (L : List FI) (k j : Nat) (hk : k ≤ L.length) (u : Value) (h : (fileEl.all (L.drop k))[j]? = some u) : (fileEl.all L)[k * 3 + j]? = some u := by
  have e : fileEl.all L = fileEl.all (L.take k) ++ fileEl.all (L.drop k) := by rw [← El.all_append, List.take_append_drop]
  have hl : (fileEl.all (L.take k)).length = k * 3 := by rw [El.all_len fileOk, List.length_take, Nat.min_eq_left hk]; rfl
  rw [e, List.getElem?_append_right (by omega), hl, Nat.add_sub_cancel_left]
  exact h
theorem row_cells {n : Nat} {w : World} {g len cap : Nat} {L : List FI} (h : OwnG fileEl n w (.slice (some ⟨g, 0, none⟩) len cap) L) : ∀ j u, (fileEl.all L)[j]? = some u → w.cell? ⟨g, j, none⟩ = some u := by
  intro j u hj
  have := World.ownsRow.cells h (g := g) rfl j u hj
  have e : (⟨g, 0, none⟩ : Addr).add j = ⟨g, j, none⟩ := by cases j <;> simp [Addr.add]
  rwa [e] at this
theorem src_low {n : Nat} {w y : World} {g len cap : Nat} {L : List FI} (h : OwnG fileEl n w (.slice (some ⟨g, 0, none⟩) len cap) L) (hb : Bel w y) (k : Nat) (hk : k ≤ L.length) : SrcAt fileEl y (.slice (some ⟨g, 0, none⟩) k cap) (L.take k) := by
  refine Or.inr ⟨⟨g, 0, none⟩, cap, by rw [List.length_take, Nat.min_eq_left hk], fun j u hj => ?_⟩
  have e : (⟨g, 0, none⟩ : Addr).add j = ⟨g, j, none⟩ := by cases j <;> simp [Addr.add]
  rw [e]
  exact cell_later hb (row_cells h j u (pt_all_take L k j u hj))
theorem src_high {n : Nat} {w y : World} {g len cap : Nat} {L : List FI} (h : OwnG fileEl n w (.slice (some ⟨g, 0, none⟩) len cap) L) (hb : Bel w y) (k c : Nat) (hk : k ≤ L.length) : SrcAt fileEl y (.slice (some ⟨g, k * 3, none⟩) (L.length - k) c) (L.drop k) := by
  refine Or.inr ⟨⟨g, k * 3, none⟩, c, by rw [List.length_drop], fun j u hj => ?_⟩
  have e : (⟨g, k * 3, none⟩ : Addr).add j = ⟨g, k * 3 + j, none⟩ := by cases j <;> simp [Addr.add]
  rw [e]
  exact cell_later hb (row_cells h _ u (pt_all_drop L k j hk u hj))
theorem src_end {y : World} {ad : Addr} {c : Nat} {L : List FI} (k : Nat) (hk : L.length ≤ k) : SrcAt fileEl y (.slice (some ad) 0 c) (L.drop k) := by
  have e : L.drop k = [] := List.drop_eq_nil_of_le hk
  rw [e]
  exact Or.inr ⟨ad, c, rfl, fun j u hj => by simp [El.all] at hj⟩
theorem Bel.trans_below' {a b c : World} (h : Bel a b) (k : Below a.heap.size b c) : Bel a c := Below.trans h k
theorem ownG_len' {n : Nat} {w : World} {p : Option Addr} {len cap : Nat} {L : List FI} (h : OwnG fileEl n w (.slice p len cap) L) : len = L.length := by
  obtain ⟨p', c, e⟩ := ownG_len h
  simp only [Value.slice.injEq] at e
  exact e.2.1
set_option maxHeartbeats 4000000 in
set_option maxRecDepth 20000 in
theorem put_any (n₀ : Nat) (w : World) (b : Nat) (M : RS) (v : Value) (h : RefAt n₀ w b M v) (x : FI) (hL : M.L.length ≤ 100) (hn : n₀ ≤ w.heap.size) :
    Calls Try.prog 27 #[.pointer (some ⟨b, 0, none⟩), fileV x] w fun e w' => (∃ u, e = .returned u) ∧
      ∃ v', RefAt n₀ w' b { M with L := insS x M.L } v' ∧ (∀ k, v'.ownBlock = some k → w.heap.size ≤ k) ∧ Keep [b] w w' := by
  have HR := Lib.hid h
  have hlt := h.lt
  clear h
  unfold fileV
  go_enter Try.func27, Try.ntmps27
  go_wp2_with (fail)
  refine (find_any n₀ _ b M v ⟨x.name.toArray⟩ (HR.out.bel ((Bel.refl w).alloc _)) (by omega)).mono ?_
  rintro e w1 ⟨rfl, hd⟩
  have hnm : (⟨x.name.toArray⟩ : ByteArray).data.toList = x.name := by simp
  rw [hnm]
  have HI := Lib.hid (show insS x M.L = M.L.take (findN x.name M.L) ++ x :: M.L.drop (findN x.name M.L + if isN x.name M.L then 1 else 0) from rfl)
  have HE := Lib.hid (show isN x.name M.L = true → findN x.name M.L < M.L.length from fun h => by
    rcases Nat.lt_or_ge (findN x.name M.L) M.L.length with k | k
    · exact k
    · rw [is_end x.name M.L (by omega)] at h; cases h)
  have hle := find_le x.name M.L
  generalize findN x.name M.L = fn at *
  have HB := Lib.hid (((Bel.refl w).alloc _).trans hd.bel)
  have x0 : w1.cell? ⟨w.heap.size, 0, none⟩ = some (.string ⟨x.name.toArray⟩) := cell_later hd.bel (by go_simp)
  have x1 : w1.cell? ⟨w.heap.size, 1, none⟩ = some (.string ⟨x.bytes.toArray⟩) := cell_later hd.bel (by go_simp)
  have x2 : w1.cell? ⟨w.heap.size, 2, none⟩ = some (.int .i64 x.safe) := cell_later hd.bel (by go_simp)
  have HR1 := Lib.hid (HR.out.bel HB.out)
  have hz1 : w.heap.size < w1.heap.size := block_lt_of_cell x0
  have f0 := HR1.out.frozen 0
  obtain ⟨c0, -, -, -⟩ := HR1.out.cells
  have hbl : b < w1.heap.size := HR1.out.lt
  clear hd hnm
  generalize hbx : w.heap.size = bx at *
  have HBX := Lib.hid hbx; clear hbx
  obtain ⟨n, hnn⟩ : ∃ n, n = M.L.length := ⟨_, rfl⟩
  rw [← hnn] at hL hle
  have HN := Lib.hid hnn
  clear hnn
  obtain ⟨kk, hkk⟩ : ∃ kk, kk = fn + if isN x.name M.L = true then 1 else 0 := ⟨_, rfl⟩
  rw [← hkk] at HI
  cases hI : isN x.name M.L with
  | true =>
    have hfl : fn < n := by rw [HN.out]; exact HE.out hI
    rw [hI] at hkk
    simp only [if_true] at hkk
    clear hI HE
    rcases HR1.out.own.2 with ⟨h1, h0⟩ | ⟨g, cap, cur, rfl, hg, hh, hc, hx, _⟩
    · have := HN.out; omega
    rw [← HN.out] at HR1 c0 hc
    clear hh
    unfold maxLen at hx
    have hfc : fn ≤ cap := by omega
    have hk1 : (fn : Int) + 1 ≤ (n : Int) := by omega
    have hk0 : (0 : Int) ≤ (fn : Int) + 1 := by omega
    have LOW := Lib.hid (fun y (hy : Bel w1 y) => src_low (y := y) (L := M.L) HR1.out.own hy fn (by rw [← HN.out]; omega))
    have HI2 := Lib.hid (show insS x M.L = M.L.take fn ++ [x] ++ M.L.drop kk by rw [HI.out, hkk]; simp)
    have LTK := Lib.hid (show (M.L.take fn).length ≤ 100 by rw [List.length_take]; have := HN.out; omega)
    have LDK := Lib.hid (show (M.L.drop kk).length ≤ 100 by rw [List.length_drop]; have := HN.out; omega)
    have LT1 := Lib.hid (show ([] : List FI).length + (M.L.take fn).length ≤ maxLen by have := LTK.out; unfold maxLen; simp only [List.length_nil]; omega)
    have LT2 := Lib.hid (show (([] : List FI).length + (M.L.take fn).length) * 40 ≤ 140737488355328 by have := LTK.out; simp only [List.length_nil]; omega)
    have LT3 := Lib.hid (show (M.L.take fn).length + [x].length ≤ maxLen by have := LTK.out; unfold maxLen; simp only [List.length_singleton]; omega)
    have LT4 := Lib.hid (show ((M.L.take fn).length + [x].length) * 40 ≤ 140737488355328 by have := LTK.out; simp only [List.length_singleton]; omega)
    have LT5 := Lib.hid (show (M.L.take fn ++ [x]).length + (M.L.drop kk).length ≤ maxLen by have := LTK.out; have := LDK.out; unfold maxLen; simp only [List.length_append, List.length_singleton]; omega)
    have LT6 := Lib.hid (show ((M.L.take fn ++ [x]).length + (M.L.drop kk).length) * 40 ≤ 140737488355328 by have := LTK.out; have := LDK.out; simp only [List.length_append, List.length_singleton]; omega)
    by_cases hcf : cap = fn + 1
    · obtain rfl : n = fn + 1 := by omega
      subst hcf
      have hq : (fn : Int) ≤ (fn : Int) + 1 := by omega
      have HIGH := Lib.hid (fun y (hy : Bel w1 y) => (show SrcAt fileEl y (.slice (some ⟨g, 0, none⟩) 0 0) (M.L.drop kk) from src_end kk (by rw [hkk, ← HN.out]; exact Nat.le_refl _)))
      clear hkk
      have HS := Lib.hid (show ∀ y, Bel w1 y → (y.cell? ⟨b, 0, none⟩ = some (.slice (some ⟨g, 0, none⟩) (fn + 1) (fn + 1)) ∧ y.cell? ⟨bx, 0, none⟩ = some (.string ⟨x.name.toArray⟩) ∧ y.cell? ⟨bx, 1, none⟩ = some (.string ⟨x.bytes.toArray⟩) ∧ y.cell? ⟨bx, 2, none⟩ = some (.int .i64 x.safe) ∧ y.frozen? ⟨b, 0, none⟩ = false ∧ Bel w1 y) from fun y hy => ⟨cell_later hy c0, cell_later hy x0, cell_later hy x1, cell_later hy x2, (hy.frozen _ _ hbl).trans f0, hy⟩)
      go_wp2_with (fail)
      refine region_L 21 (S := fun y => y.cell? ⟨b, 0, none⟩ = some (.slice (some ⟨g, 0, none⟩) (fn + 1) (fn + 1)) ∧ y.cell? ⟨bx, 0, none⟩ = some (.string ⟨x.name.toArray⟩) ∧ y.cell? ⟨bx, 1, none⟩ = some (.string ⟨x.bytes.toArray⟩) ∧ y.cell? ⟨bx, 2, none⟩ = some (.int .i64 x.safe) ∧ y.frozen? ⟨b, 0, none⟩ = false ∧ Bel w1 y) (by kernel_rfl) (HS.out _ (Bel.refl w1).drew) (fun hHeld => ?_)
      refine AnyL.take (i := 0) (oi := { dst := some 18, op := Op.move (Operand.tmp 0), type := 29, pos := "ref.go:81", after := #[], guard := none }) (v := ?_) rfl (by decide) (by kernel_rfl) (by kernel_rfl) (by kernel_rfl) (by kernel_rfl) (fun _ _ _ h => h) (Or.inl ⟨by rfl, ?_⟩) (by assumption) ?_
      rotate_left
      · (intro w hSw; (try dsimp only at hSw); first | (go_simp; done) | (go_simp; with_reducible rfl))
      try simp only [Act.put, List.setIfInBounds_toArray, List.set_cons_zero, List.set_cons_succ]
      refine AnyL.take (i := 2) (oi := { dst := some 20, op := Op.move (Operand.tmp 0), type := 29, pos := "ref.go:81", after := #[], guard := none }) (v := ?_) rfl (by decide) (by kernel_rfl) (by kernel_rfl) (by kernel_rfl) (by kernel_rfl) (fun _ _ _ h => h) (Or.inl ⟨by rfl, ?_⟩) (by assumption) ?_
      rotate_left
      · (intro w hSw; (try dsimp only at hSw); first | (go_simp; done) | (go_simp; with_reducible rfl))
      try simp only [Act.put, List.setIfInBounds_toArray, List.set_cons_zero, List.set_cons_succ]
      refine AnyL.take (i := 3) (oi := { dst := some 21, op := Op.nilCheck (Operand.tmp 20), type := 0, pos := "ref.go:81", after := #[{ on := 2, ground := Ground.data }], guard := none }) (v := ?_) rfl (by decide) (by kernel_rfl) (by kernel_rfl) (by kernel_rfl) (by kernel_rfl) (fun _ _ _ h => h) (Or.inl ⟨by rfl, ?_⟩) (by assumption) ?_
      rotate_left
      · (intro w hSw; (try dsimp only at hSw); first | (go_simp; done) | (go_simp; with_reducible rfl))
      try simp only [Act.put, List.setIfInBounds_toArray, List.set_cons_zero, List.set_cons_succ]
      refine AnyL.take (i := 4) (oi := { dst := some 22, op := Op.fieldAddr 52 (Operand.tmp 21) 0, type := 0, pos := "ref.go:81", after := #[{ on := 3, ground := Ground.data }], guard := none }) (v := ?_) rfl (by decide) (by kernel_rfl) (by kernel_rfl) (by kernel_rfl) (by kernel_rfl) (fun _ _ _ h => h) (Or.inl ⟨by rfl, ?_⟩) (by assumption) ?_
      rotate_left
      · (intro w hSw; (try dsimp only at hSw); first | (go_simp; done) | (go_simp; with_reducible rfl))
      try simp only [Act.put, List.setIfInBounds_toArray, List.set_cons_zero, List.set_cons_succ]
      refine AnyL.take (i := 5) (oi := { dst := some 23, op := Op.load 50 (Operand.tmp 22), type := 50, pos := "ref.go:81", after := #[{ on := 4, ground := Ground.data }], guard := none }) (v := ?_) rfl (by decide) (by kernel_rfl) (by kernel_rfl) (by kernel_rfl) (by kernel_rfl) (fun _ _ _ h => h) (Or.inl ⟨by rfl, ?_⟩) (by assumption) ?_
      rotate_left
      · (intro w hSw; (try dsimp only at hSw); first | (go_simp; done) | (go_simp; with_reducible rfl))
      try simp only [Act.put, List.setIfInBounds_toArray, List.set_cons_zero, List.set_cons_succ]
      refine AnyL.take (i := 6) (oi := { dst := some 24, op := Op.move (Operand.tmp 4), type := 3, pos := "ref.go:81", after := #[], guard := none }) (v := ?_) rfl (by decide) (by kernel_rfl) (by kernel_rfl) (by kernel_rfl) (by kernel_rfl) (fun _ _ _ h => h) (Or.inl ⟨by rfl, ?_⟩) (by assumption) ?_
      rotate_left
      · (intro w hSw; (try dsimp only at hSw); first | (go_simp; done) | (go_simp; with_reducible rfl))
      try simp only [Act.put, List.setIfInBounds_toArray, List.set_cons_zero, List.set_cons_succ]
      refine AnyL.take (i := 7) (oi := { dst := some 25, op := Op.slice 50 (Operand.tmp 23) none (some (Operand.tmp 24)) none, type := 50, pos := "ref.go:81", after := #[{ on := 5, ground := Ground.data }, { on := 6, ground := Ground.data }], guard := none }) (v := ?_) rfl (by decide) (by kernel_rfl) (by kernel_rfl) (by kernel_rfl) (by kernel_rfl) (fun _ _ _ h => h) (Or.inl ⟨by rfl, ?_⟩) (by assumption) ?_
      rotate_left
      · (intro w hSw; (try dsimp only at hSw); first | (go_simp; done) | (go_simp; with_reducible rfl))
      try simp only [Act.put, List.setIfInBounds_toArray, List.set_cons_zero, List.set_cons_succ]
      refine AnyL.take (i := 9) (oi := { dst := some 27, op := Op.load 64 (Operand.tmp 3), type := 64, pos := "ref.go:81", after := #[], guard := none }) (v := ?_) rfl (by decide) (by kernel_rfl) (by kernel_rfl) (by kernel_rfl) (by kernel_rfl) (fun _ _ _ h => h) (Or.inl ⟨by rfl, ?_⟩) (by assumption) ?_
      rotate_left
      · (intro w hSw; (try dsimp only at hSw); first | (go_simp; done) | (go_simp; with_reducible rfl))
      try simp only [Act.put, List.setIfInBounds_toArray, List.set_cons_zero, List.set_cons_succ]
      refine AnyL.take (i := 12) (oi := { dst := some 30, op := Op.move (Operand.tmp 0), type := 29, pos := "ref.go:81", after := #[], guard := none }) (v := ?_) rfl (by decide) (by kernel_rfl) (by kernel_rfl) (by kernel_rfl) (by kernel_rfl) (fun _ _ _ h => h) (Or.inl ⟨by rfl, ?_⟩) (by assumption) ?_
      rotate_left
      · (intro w hSw; (try dsimp only at hSw); first | (go_simp; done) | (go_simp; with_reducible rfl))
      try simp only [Act.put, List.setIfInBounds_toArray, List.set_cons_zero, List.set_cons_succ]
      refine AnyL.take (i := 13) (oi := { dst := some 31, op := Op.nilCheck (Operand.tmp 30), type := 0, pos := "ref.go:81", after := #[{ on := 12, ground := Ground.data }], guard := none }) (v := ?_) rfl (by decide) (by kernel_rfl) (by kernel_rfl) (by kernel_rfl) (by kernel_rfl) (fun _ _ _ h => h) (Or.inl ⟨by rfl, ?_⟩) (by assumption) ?_
      rotate_left
      · (intro w hSw; (try dsimp only at hSw); first | (go_simp; done) | (go_simp; with_reducible rfl))
      try simp only [Act.put, List.setIfInBounds_toArray, List.set_cons_zero, List.set_cons_succ]
      refine AnyL.take (i := 14) (oi := { dst := some 32, op := Op.fieldAddr 52 (Operand.tmp 31) 0, type := 0, pos := "ref.go:81", after := #[{ on := 13, ground := Ground.data }], guard := none }) (v := ?_) rfl (by decide) (by kernel_rfl) (by kernel_rfl) (by kernel_rfl) (by kernel_rfl) (fun _ _ _ h => h) (Or.inl ⟨by rfl, ?_⟩) (by assumption) ?_
      rotate_left
      · (intro w hSw; (try dsimp only at hSw); first | (go_simp; done) | (go_simp; with_reducible rfl))
      try simp only [Act.put, List.setIfInBounds_toArray, List.set_cons_zero, List.set_cons_succ]
      refine AnyL.take (i := 15) (oi := { dst := some 33, op := Op.load 50 (Operand.tmp 32), type := 50, pos := "ref.go:81", after := #[{ on := 14, ground := Ground.data }], guard := none }) (v := ?_) rfl (by decide) (by kernel_rfl) (by kernel_rfl) (by kernel_rfl) (by kernel_rfl) (fun _ _ _ h => h) (Or.inl ⟨by rfl, ?_⟩) (by assumption) ?_
      rotate_left
      · (intro w hSw; (try dsimp only at hSw); first | (go_simp; done) | (go_simp; with_reducible rfl))
      try simp only [Act.put, List.setIfInBounds_toArray, List.set_cons_zero, List.set_cons_succ]
      refine AnyL.take (i := 16) (oi := { dst := some 34, op := Op.move (Operand.tmp 6), type := 3, pos := "ref.go:81", after := #[], guard := none }) (v := ?_) rfl (by decide) (by kernel_rfl) (by kernel_rfl) (by kernel_rfl) (by kernel_rfl) (fun _ _ _ h => h) (Or.inl ⟨by rfl, ?_⟩) (by assumption) ?_
      rotate_left
      · (intro w hSw; (try dsimp only at hSw); first | (go_simp; done) | (go_simp; with_reducible rfl))
      try simp only [Act.put, List.setIfInBounds_toArray, List.set_cons_zero, List.set_cons_succ]
      refine AnyL.take (i := 17) (oi := { dst := some 35, op := Op.slice 50 (Operand.tmp 33) (some (Operand.tmp 34)) none none, type := 50, pos := "ref.go:81", after := #[{ on := 15, ground := Ground.data }, { on := 16, ground := Ground.data }], guard := none }) (v := ?_) rfl (by decide) (by kernel_rfl) (by kernel_rfl) (by kernel_rfl) (by kernel_rfl) (fun _ _ _ h => h) (Or.inl ⟨by rfl, ?_⟩) (by assumption) ?_
      rotate_left
      · (intro w hSw; (try dsimp only at hSw); first | (go_simp; done) | (go_simp; with_reducible rfl))
      try simp only [Act.put, List.setIfInBounds_toArray, List.set_cons_zero, List.set_cons_succ]
      clear hHeld
      refine AnyL.ready (rs := [1, 10]) (by kernel_rfl) (by simp) ?_
      refine (AllL.cons (o := { dst := some 19, op := Op.buildSlice 50 0 #[], type := 50, pos := "ref.go:81", after := #[], guard := none }) rfl (fun K hK => ?_) (AllL.cons (o := { dst := some 28, op := Op.buildSlice 50 1 #[(0, Operand.tmp 27)], type := 50, pos := "ref.go:81", after := #[{ on := 9, ground := Ground.data }], guard := none }) rfl (fun K hK => ?_) AllL.nil))
      · go_simp
        refine hK.out _ _ (fun _ => HS.out _ ((Bel.refl w1).drew.alloc _)) ?_
        clear hK K
        try simp only [Act.put, List.setIfInBounds_toArray, List.set_cons_zero, List.set_cons_succ]
        refine AnyL.ready (rs := [8, 10]) (by kernel_rfl) (by simp) ?_
        refine (AllL.cons (o := { dst := some 26, op := Op.call { callee := Callee.builtin Builtin.append, args := #[Operand.tmp 19, Operand.tmp 25], argTypes := #[50, 50] }, type := 50, pos := "ref.go:81", after := #[{ on := 1, ground := Ground.data }, { on := 7, ground := Ground.data }], guard := none }) rfl (fun K hK => ?_) (AllL.cons (o := { dst := some 28, op := Op.buildSlice 50 1 #[(0, Operand.tmp 27)], type := 50, pos := "ref.go:81", after := #[{ on := 9, ground := Ground.data }], guard := none }) rfl (fun K hK => ?_) AllL.nil))
        · refine step_append_seg (n := w1.heap.size) (v := .slice (some ⟨w1.heap.size, 0, none⟩) 0 0) fileOk rfl (.tmp 19) (.tmp 25) rfl rfl (ownG_none (heap_alloc_new w1.drew _) (Nat.le_refl _)) (M.L.take fn) rfl (LOW.out _ (((Bel.refl w1).drew.alloc _))) (LT1.out) (LT2.out) (Bel.size (((Bel.refl w1).drew.alloc _))) ?_
          intro v1 z1 ho1 hg1 hb1
          have hBz1 := Lib.hid (Bel.trans_below' (((Bel.refl w1).drew.alloc _)) hb1)
          have hOwn1 := Lib.hid (show OwnG fileEl w1.heap.size z1 v1 (M.L.take fn) from ho1)
          refine hK.out _ _ (fun _ => HS.out _ hBz1.out) ?_
          clear hK K ho1 hg1 hb1
          try simp only [Act.put, List.setIfInBounds_toArray, List.set_cons_zero, List.set_cons_succ]
          refine AnyL.ready (rs := [10]) (by kernel_rfl) (by simp) ?_
          refine (AllL.cons (o := { dst := some 28, op := Op.buildSlice 50 1 #[(0, Operand.tmp 27)], type := 50, pos := "ref.go:81", after := #[{ on := 9, ground := Ground.data }], guard := none }) rfl (fun K hK => ?_) AllL.nil)
          go_simp
          refine hK.out _ _ (fun _ => HS.out _ (hBz1.out.alloc _)) ?_
          clear hK K
          try simp only [Act.put, List.setIfInBounds_toArray, List.set_cons_zero, List.set_cons_succ]
          have hBz := Lib.hid (hBz1.out.alloc (.cells #[.string ⟨x.name.toArray⟩, .string ⟨x.bytes.toArray⟩, .int .i64 x.safe] 64))
          have hLit := Lib.hid (heap_alloc_new z1 (.cells #[.string ⟨x.name.toArray⟩, .string ⟨x.bytes.toArray⟩, .int .i64 x.safe] 64))
          replace hOwn1 := Lib.hid (hOwn1.out.alloc (.cells #[.string ⟨x.name.toArray⟩, .string ⟨x.bytes.toArray⟩, .int .i64 x.safe] 64))
          refine AnyL.ready (rs := [11]) (by kernel_rfl) (by simp) ?_
          refine (AllL.cons (o := { dst := some 29, op := Op.call { callee := Callee.builtin Builtin.append, args := #[Operand.tmp 26, Operand.tmp 28], argTypes := #[50, 50] }, type := 50, pos := "ref.go:81", after := #[{ on := 8, ground := Ground.data }, { on := 10, ground := Ground.data }, { on := 8, ground := Ground.chain }], guard := none }) rfl (fun K hK => ?_) AllL.nil)
          refine step_append_seg (n := w1.heap.size) fileOk rfl (.tmp 26) (.tmp 28) rfl rfl hOwn1.out [x] rfl (lit_src hLit.out) (LT3.out) (LT4.out) (Bel.size hBz.out) ?_
          intro v2 z2 ho2 hg2 hb2
          have hBz2 := Lib.hid (Bel.trans_below' hBz.out hb2)
          have hOwn2 := Lib.hid ho2
          refine hK.out _ _ (fun _ => HS.out _ hBz2.out) ?_
          clear hK K ho2 hg2 hb2
          try simp only [Act.put, List.setIfInBounds_toArray, List.set_cons_zero, List.set_cons_succ]
          refine AnyL.ready (rs := [18]) (by kernel_rfl) (by simp) ?_
          refine (AllL.cons (o := { dst := some 36, op := Op.call { callee := Callee.builtin Builtin.append, args := #[Operand.tmp 29, Operand.tmp 35], argTypes := #[50, 50] }, type := 50, pos := "ref.go:81", after := #[{ on := 11, ground := Ground.data }, { on := 17, ground := Ground.data }, { on := 11, ground := Ground.chain }], guard := none }) rfl (fun K hK => ?_) AllL.nil)
          refine step_append_seg (n := w1.heap.size) fileOk rfl (.tmp 29) (.tmp 35) rfl rfl hOwn2.out (M.L.drop kk) rfl (HIGH.out _ hBz2.out) (LT5.out) (LT6.out) (Bel.size hBz2.out) ?_
          intro v3 z3 ho3 hg3 hb3
          have hBz3 := Lib.hid (Bel.trans_below' hBz2.out hb3)
          obtain ⟨p3, c3, hv3⟩ := ownG_len ho3
          generalize (M.L.take fn ++ [x] ++ M.L.drop kk).length = l3 at hv3
          subst hv3
          have hOwn3 := Lib.hid ho3
          refine hK.out _ _ (fun _ => HS.out _ hBz3.out) ?_
          clear hK K ho3 hg3 hb3
          try simp only [Act.put, List.setIfInBounds_toArray, List.set_cons_zero, List.set_cons_succ]
          refine AnyL.ready (rs := [19]) (by kernel_rfl) (by simp) ?_
          refine (AllL.cons (o := { dst := some 37, op := Op.nilCheck (Operand.tmp 18), type := 0, pos := "ref.go:81", after := #[{ on := 0, ground := Ground.data }, { on := 0, ground := Ground.phase }, { on := 1, ground := Ground.phase }, { on := 2, ground := Ground.phase }, { on := 3, ground := Ground.phase }, { on := 4, ground := Ground.phase }, { on := 5, ground := Ground.phase }, { on := 6, ground := Ground.phase }, { on := 7, ground := Ground.phase }, { on := 8, ground := Ground.phase }, { on := 9, ground := Ground.phase }, { on := 10, ground := Ground.phase }, { on := 11, ground := Ground.phase }, { on := 12, ground := Ground.phase }, { on := 13, ground := Ground.phase }, { on := 14, ground := Ground.phase }, { on := 15, ground := Ground.phase }, { on := 16, ground := Ground.phase }, { on := 17, ground := Ground.phase }, { on := 18, ground := Ground.phase }], guard := none }) rfl (fun K hK => ?_) AllL.nil)
          go_simp
          refine hK.out _ _ (fun _ => HS.out _ hBz3.out) ?_
          clear hK K
          try simp only [Act.put, List.setIfInBounds_toArray, List.set_cons_zero, List.set_cons_succ]
          refine AnyL.ready (rs := [20]) (by kernel_rfl) (by simp) ?_
          refine (AllL.cons (o := { dst := some 38, op := Op.fieldAddr 52 (Operand.tmp 37) 0, type := 0, pos := "ref.go:81", after := #[{ on := 19, ground := Ground.data }, { on := 0, ground := Ground.phase }, { on := 1, ground := Ground.phase }, { on := 2, ground := Ground.phase }, { on := 3, ground := Ground.phase }, { on := 4, ground := Ground.phase }, { on := 5, ground := Ground.phase }, { on := 6, ground := Ground.phase }, { on := 7, ground := Ground.phase }, { on := 8, ground := Ground.phase }, { on := 9, ground := Ground.phase }, { on := 10, ground := Ground.phase }, { on := 11, ground := Ground.phase }, { on := 12, ground := Ground.phase }, { on := 13, ground := Ground.phase }, { on := 14, ground := Ground.phase }, { on := 15, ground := Ground.phase }, { on := 16, ground := Ground.phase }, { on := 17, ground := Ground.phase }, { on := 18, ground := Ground.phase }], guard := none }) rfl (fun K hK => ?_) AllL.nil)
          go_simp
          refine hK.out _ _ (fun _ => HS.out _ hBz3.out) ?_
          clear hK K
          try simp only [Act.put, List.setIfInBounds_toArray, List.set_cons_zero, List.set_cons_succ]
          refine AnyL.ready (rs := [21]) (by kernel_rfl) (by simp) ?_
          refine (AllL.cons (o := { dst := none, op := Op.store 50 (Operand.tmp 38) (Operand.tmp 36), type := 0, pos := "ref.go:81", after := #[{ on := 20, ground := Ground.data }, { on := 18, ground := Ground.data }, { on := 18, ground := Ground.chain }, { on := 0, ground := Ground.phase }, { on := 1, ground := Ground.phase }, { on := 2, ground := Ground.phase }, { on := 3, ground := Ground.phase }, { on := 4, ground := Ground.phase }, { on := 5, ground := Ground.phase }, { on := 6, ground := Ground.phase }, { on := 7, ground := Ground.phase }, { on := 8, ground := Ground.phase }, { on := 9, ground := Ground.phase }, { on := 10, ground := Ground.phase }, { on := 11, ground := Ground.phase }, { on := 12, ground := Ground.phase }, { on := 13, ground := Ground.phase }, { on := 14, ground := Ground.phase }, { on := 15, ground := Ground.phase }, { on := 16, ground := Ground.phase }, { on := 17, ground := Ground.phase }, { on := 18, ground := Ground.phase }], guard := none }) rfl (fun K hK => ?_) AllL.nil)
          obtain ⟨s0, -, -, -, s4, -⟩ := HS.out _ hBz3.out
          go_simp
          refine hK.out _ _ (fun h => absurd rfl h) ?_
          clear hK K s0 s4
          try simp only [Act.put, List.setIfInBounds_toArray, List.set_cons_zero, List.set_cons_succ]
          refine AnyL.done (by kernel_rfl) ?_ _
          go_wp2_with (fail)
          go_end0
          have hpf := (HR1.out.bel hBz3.out).put_files (hOwn3.out.low (Nat.le_trans hn (Nat.le_of_lt hz1)))
          rw [HI2.out]
          exact ⟨⟨_, rfl⟩, _, hpf, fun k hk => Nat.le_trans HB.out.size (hOwn3.out.lt k hk).1, ((Keep.of_bel (HB.out.trans hBz3.out) [b]).setCell (p := ⟨b, 0, none⟩) (Or.inl (by simp)) _)⟩
        · go_simp
          refine hK.out _ _ (fun _ => HS.out _ (((Bel.refl w1).drew.alloc _).alloc _)) ?_
          clear hK K
          try simp only [Act.put, List.setIfInBounds_toArray, List.set_cons_zero, List.set_cons_succ]
          refine AnyL.ready (rs := [8]) (by kernel_rfl) (by simp) ?_
          refine (AllL.cons (o := { dst := some 26, op := Op.call { callee := Callee.builtin Builtin.append, args := #[Operand.tmp 19, Operand.tmp 25], argTypes := #[50, 50] }, type := 50, pos := "ref.go:81", after := #[{ on := 1, ground := Ground.data }, { on := 7, ground := Ground.data }], guard := none }) rfl (fun K hK => ?_) AllL.nil)
          refine step_append_seg (n := w1.heap.size) (v := .slice (some ⟨w1.heap.size, 0, none⟩) 0 0) fileOk rfl (.tmp 19) (.tmp 25) rfl rfl ((ownG_none (heap_alloc_new w1.drew _) (Nat.le_refl _)).alloc _) (M.L.take fn) rfl (LOW.out _ ((((Bel.refl w1).drew.alloc _).alloc _))) (LT1.out) (LT2.out) (Bel.size ((((Bel.refl w1).drew.alloc _).alloc _))) ?_
          intro v1 z1 ho1 hg1 hb1
          have hBz1 := Lib.hid (Bel.trans_below' ((((Bel.refl w1).drew.alloc _).alloc _)) hb1)
          have hOwn1 := Lib.hid (show OwnG fileEl w1.heap.size z1 v1 (M.L.take fn) from ho1)
          have hLit := Lib.hid (show z1.heap[w1.heap.size + 1]? = some (.cells #[.string ⟨x.name.toArray⟩, .string ⟨x.bytes.toArray⟩, .int .i64 x.safe] 64) from at_grown hg1 (at_new (by simp)) (by simp [Value.ownBlock]))
          refine hK.out _ _ (fun _ => HS.out _ hBz1.out) ?_
          clear hK K ho1 hg1 hb1
          try simp only [Act.put, List.setIfInBounds_toArray, List.set_cons_zero, List.set_cons_succ]
          have hBz := Lib.hid hBz1.out
          refine AnyL.ready (rs := [11]) (by kernel_rfl) (by simp) ?_
          refine (AllL.cons (o := { dst := some 29, op := Op.call { callee := Callee.builtin Builtin.append, args := #[Operand.tmp 26, Operand.tmp 28], argTypes := #[50, 50] }, type := 50, pos := "ref.go:81", after := #[{ on := 8, ground := Ground.data }, { on := 10, ground := Ground.data }, { on := 8, ground := Ground.chain }], guard := none }) rfl (fun K hK => ?_) AllL.nil)
          refine step_append_seg (n := w1.heap.size) fileOk rfl (.tmp 26) (.tmp 28) rfl rfl hOwn1.out [x] rfl (lit_src hLit.out) (LT3.out) (LT4.out) (Bel.size hBz.out) ?_
          intro v2 z2 ho2 hg2 hb2
          have hBz2 := Lib.hid (Bel.trans_below' hBz.out hb2)
          have hOwn2 := Lib.hid ho2
          refine hK.out _ _ (fun _ => HS.out _ hBz2.out) ?_
          clear hK K ho2 hg2 hb2
          try simp only [Act.put, List.setIfInBounds_toArray, List.set_cons_zero, List.set_cons_succ]
          refine AnyL.ready (rs := [18]) (by kernel_rfl) (by simp) ?_
          refine (AllL.cons (o := { dst := some 36, op := Op.call { callee := Callee.builtin Builtin.append, args := #[Operand.tmp 29, Operand.tmp 35], argTypes := #[50, 50] }, type := 50, pos := "ref.go:81", after := #[{ on := 11, ground := Ground.data }, { on := 17, ground := Ground.data }, { on := 11, ground := Ground.chain }], guard := none }) rfl (fun K hK => ?_) AllL.nil)
          refine step_append_seg (n := w1.heap.size) fileOk rfl (.tmp 29) (.tmp 35) rfl rfl hOwn2.out (M.L.drop kk) rfl (HIGH.out _ hBz2.out) (LT5.out) (LT6.out) (Bel.size hBz2.out) ?_
          intro v3 z3 ho3 hg3 hb3
          have hBz3 := Lib.hid (Bel.trans_below' hBz2.out hb3)
          obtain ⟨p3, c3, hv3⟩ := ownG_len ho3
          generalize (M.L.take fn ++ [x] ++ M.L.drop kk).length = l3 at hv3
          subst hv3
          have hOwn3 := Lib.hid ho3
          refine hK.out _ _ (fun _ => HS.out _ hBz3.out) ?_
          clear hK K ho3 hg3 hb3
          try simp only [Act.put, List.setIfInBounds_toArray, List.set_cons_zero, List.set_cons_succ]
          refine AnyL.ready (rs := [19]) (by kernel_rfl) (by simp) ?_
          refine (AllL.cons (o := { dst := some 37, op := Op.nilCheck (Operand.tmp 18), type := 0, pos := "ref.go:81", after := #[{ on := 0, ground := Ground.data }, { on := 0, ground := Ground.phase }, { on := 1, ground := Ground.phase }, { on := 2, ground := Ground.phase }, { on := 3, ground := Ground.phase }, { on := 4, ground := Ground.phase }, { on := 5, ground := Ground.phase }, { on := 6, ground := Ground.phase }, { on := 7, ground := Ground.phase }, { on := 8, ground := Ground.phase }, { on := 9, ground := Ground.phase }, { on := 10, ground := Ground.phase }, { on := 11, ground := Ground.phase }, { on := 12, ground := Ground.phase }, { on := 13, ground := Ground.phase }, { on := 14, ground := Ground.phase }, { on := 15, ground := Ground.phase }, { on := 16, ground := Ground.phase }, { on := 17, ground := Ground.phase }, { on := 18, ground := Ground.phase }], guard := none }) rfl (fun K hK => ?_) AllL.nil)
          go_simp
          refine hK.out _ _ (fun _ => HS.out _ hBz3.out) ?_
          clear hK K
          try simp only [Act.put, List.setIfInBounds_toArray, List.set_cons_zero, List.set_cons_succ]
          refine AnyL.ready (rs := [20]) (by kernel_rfl) (by simp) ?_
          refine (AllL.cons (o := { dst := some 38, op := Op.fieldAddr 52 (Operand.tmp 37) 0, type := 0, pos := "ref.go:81", after := #[{ on := 19, ground := Ground.data }, { on := 0, ground := Ground.phase }, { on := 1, ground := Ground.phase }, { on := 2, ground := Ground.phase }, { on := 3, ground := Ground.phase }, { on := 4, ground := Ground.phase }, { on := 5, ground := Ground.phase }, { on := 6, ground := Ground.phase }, { on := 7, ground := Ground.phase }, { on := 8, ground := Ground.phase }, { on := 9, ground := Ground.phase }, { on := 10, ground := Ground.phase }, { on := 11, ground := Ground.phase }, { on := 12, ground := Ground.phase }, { on := 13, ground := Ground.phase }, { on := 14, ground := Ground.phase }, { on := 15, ground := Ground.phase }, { on := 16, ground := Ground.phase }, { on := 17, ground := Ground.phase }, { on := 18, ground := Ground.phase }], guard := none }) rfl (fun K hK => ?_) AllL.nil)
          go_simp
          refine hK.out _ _ (fun _ => HS.out _ hBz3.out) ?_
          clear hK K
          try simp only [Act.put, List.setIfInBounds_toArray, List.set_cons_zero, List.set_cons_succ]
          refine AnyL.ready (rs := [21]) (by kernel_rfl) (by simp) ?_
          refine (AllL.cons (o := { dst := none, op := Op.store 50 (Operand.tmp 38) (Operand.tmp 36), type := 0, pos := "ref.go:81", after := #[{ on := 20, ground := Ground.data }, { on := 18, ground := Ground.data }, { on := 18, ground := Ground.chain }, { on := 0, ground := Ground.phase }, { on := 1, ground := Ground.phase }, { on := 2, ground := Ground.phase }, { on := 3, ground := Ground.phase }, { on := 4, ground := Ground.phase }, { on := 5, ground := Ground.phase }, { on := 6, ground := Ground.phase }, { on := 7, ground := Ground.phase }, { on := 8, ground := Ground.phase }, { on := 9, ground := Ground.phase }, { on := 10, ground := Ground.phase }, { on := 11, ground := Ground.phase }, { on := 12, ground := Ground.phase }, { on := 13, ground := Ground.phase }, { on := 14, ground := Ground.phase }, { on := 15, ground := Ground.phase }, { on := 16, ground := Ground.phase }, { on := 17, ground := Ground.phase }, { on := 18, ground := Ground.phase }], guard := none }) rfl (fun K hK => ?_) AllL.nil)
          obtain ⟨s0, -, -, -, s4, -⟩ := HS.out _ hBz3.out
          go_simp
          refine hK.out _ _ (fun h => absurd rfl h) ?_
          clear hK K s0 s4
          try simp only [Act.put, List.setIfInBounds_toArray, List.set_cons_zero, List.set_cons_succ]
          refine AnyL.done (by kernel_rfl) ?_ _
          go_wp2_with (fail)
          go_end0
          have hpf := (HR1.out.bel hBz3.out).put_files (hOwn3.out.low (Nat.le_trans hn (Nat.le_of_lt hz1)))
          rw [HI2.out]
          exact ⟨⟨_, rfl⟩, _, hpf, fun k hk => Nat.le_trans HB.out.size (hOwn3.out.lt k hk).1, ((Keep.of_bel (HB.out.trans hBz3.out) [b]).setCell (p := ⟨b, 0, none⟩) (Or.inl (by simp)) _)⟩
      · go_simp
        refine hK.out _ _ (fun _ => HS.out _ ((Bel.refl w1).drew.alloc _)) ?_
        clear hK K
        try simp only [Act.put, List.setIfInBounds_toArray, List.set_cons_zero, List.set_cons_succ]
        refine AnyL.ready (rs := [1]) (by kernel_rfl) (by simp) ?_
        refine (AllL.cons (o := { dst := some 19, op := Op.buildSlice 50 0 #[], type := 50, pos := "ref.go:81", after := #[], guard := none }) rfl (fun K hK => ?_) AllL.nil)
        go_simp
        refine hK.out _ _ (fun _ => HS.out _ (((Bel.refl w1).drew.alloc _).alloc _)) ?_
        clear hK K
        try simp only [Act.put, List.setIfInBounds_toArray, List.set_cons_zero, List.set_cons_succ]
        refine AnyL.ready (rs := [8]) (by kernel_rfl) (by simp) ?_
        refine (AllL.cons (o := { dst := some 26, op := Op.call { callee := Callee.builtin Builtin.append, args := #[Operand.tmp 19, Operand.tmp 25], argTypes := #[50, 50] }, type := 50, pos := "ref.go:81", after := #[{ on := 1, ground := Ground.data }, { on := 7, ground := Ground.data }], guard := none }) rfl (fun K hK => ?_) AllL.nil)
        refine step_append_seg (n := w1.heap.size) (v := .slice (some ⟨w1.heap.size + 1, 0, none⟩) 0 0) fileOk rfl (.tmp 19) (.tmp 25) rfl rfl (ownG_none (n := w1.heap.size) (at_new (by simp)) (by simp)) (M.L.take fn) rfl (LOW.out _ ((((Bel.refl w1).drew.alloc _).alloc _))) (LT1.out) (LT2.out) (Bel.size ((((Bel.refl w1).drew.alloc _).alloc _))) ?_
        intro v1 z1 ho1 hg1 hb1
        have hBz1 := Lib.hid (Bel.trans_below' ((((Bel.refl w1).drew.alloc _).alloc _)) hb1)
        have hOwn1 := Lib.hid (show OwnG fileEl w1.heap.size z1 v1 (M.L.take fn) from ho1)
        have hLit := Lib.hid (show z1.heap[w1.heap.size]? = some (.cells #[.string ⟨x.name.toArray⟩, .string ⟨x.bytes.toArray⟩, .int .i64 x.safe] 64) from at_grown hg1 (at_old (at_new (by simp))) (by simp [Value.ownBlock]))
        refine hK.out _ _ (fun _ => HS.out _ hBz1.out) ?_
        clear hK K ho1 hg1 hb1
        try simp only [Act.put, List.setIfInBounds_toArray, List.set_cons_zero, List.set_cons_succ]
        have hBz := Lib.hid hBz1.out
        refine AnyL.ready (rs := [11]) (by kernel_rfl) (by simp) ?_
        refine (AllL.cons (o := { dst := some 29, op := Op.call { callee := Callee.builtin Builtin.append, args := #[Operand.tmp 26, Operand.tmp 28], argTypes := #[50, 50] }, type := 50, pos := "ref.go:81", after := #[{ on := 8, ground := Ground.data }, { on := 10, ground := Ground.data }, { on := 8, ground := Ground.chain }], guard := none }) rfl (fun K hK => ?_) AllL.nil)
        refine step_append_seg (n := w1.heap.size) fileOk rfl (.tmp 26) (.tmp 28) rfl rfl hOwn1.out [x] rfl (lit_src hLit.out) (LT3.out) (LT4.out) (Bel.size hBz.out) ?_
        intro v2 z2 ho2 hg2 hb2
        have hBz2 := Lib.hid (Bel.trans_below' hBz.out hb2)
        have hOwn2 := Lib.hid ho2
        refine hK.out _ _ (fun _ => HS.out _ hBz2.out) ?_
        clear hK K ho2 hg2 hb2
        try simp only [Act.put, List.setIfInBounds_toArray, List.set_cons_zero, List.set_cons_succ]
        refine AnyL.ready (rs := [18]) (by kernel_rfl) (by simp) ?_
        refine (AllL.cons (o := { dst := some 36, op := Op.call { callee := Callee.builtin Builtin.append, args := #[Operand.tmp 29, Operand.tmp 35], argTypes := #[50, 50] }, type := 50, pos := "ref.go:81", after := #[{ on := 11, ground := Ground.data }, { on := 17, ground := Ground.data }, { on := 11, ground := Ground.chain }], guard := none }) rfl (fun K hK => ?_) AllL.nil)
        refine step_append_seg (n := w1.heap.size) fileOk rfl (.tmp 29) (.tmp 35) rfl rfl hOwn2.out (M.L.drop kk) rfl (HIGH.out _ hBz2.out) (LT5.out) (LT6.out) (Bel.size hBz2.out) ?_
        intro v3 z3 ho3 hg3 hb3
        have hBz3 := Lib.hid (Bel.trans_below' hBz2.out hb3)
        obtain ⟨p3, c3, hv3⟩ := ownG_len ho3
        generalize (M.L.take fn ++ [x] ++ M.L.drop kk).length = l3 at hv3
        subst hv3
        have hOwn3 := Lib.hid ho3
        refine hK.out _ _ (fun _ => HS.out _ hBz3.out) ?_
        clear hK K ho3 hg3 hb3
        try simp only [Act.put, List.setIfInBounds_toArray, List.set_cons_zero, List.set_cons_succ]
        refine AnyL.ready (rs := [19]) (by kernel_rfl) (by simp) ?_
        refine (AllL.cons (o := { dst := some 37, op := Op.nilCheck (Operand.tmp 18), type := 0, pos := "ref.go:81", after := #[{ on := 0, ground := Ground.data }, { on := 0, ground := Ground.phase }, { on := 1, ground := Ground.phase }, { on := 2, ground := Ground.phase }, { on := 3, ground := Ground.phase }, { on := 4, ground := Ground.phase }, { on := 5, ground := Ground.phase }, { on := 6, ground := Ground.phase }, { on := 7, ground := Ground.phase }, { on := 8, ground := Ground.phase }, { on := 9, ground := Ground.phase }, { on := 10, ground := Ground.phase }, { on := 11, ground := Ground.phase }, { on := 12, ground := Ground.phase }, { on := 13, ground := Ground.phase }, { on := 14, ground := Ground.phase }, { on := 15, ground := Ground.phase }, { on := 16, ground := Ground.phase }, { on := 17, ground := Ground.phase }, { on := 18, ground := Ground.phase }], guard := none }) rfl (fun K hK => ?_) AllL.nil)
        go_simp
        refine hK.out _ _ (fun _ => HS.out _ hBz3.out) ?_
        clear hK K
        try simp only [Act.put, List.setIfInBounds_toArray, List.set_cons_zero, List.set_cons_succ]
        refine AnyL.ready (rs := [20]) (by kernel_rfl) (by simp) ?_
        refine (AllL.cons (o := { dst := some 38, op := Op.fieldAddr 52 (Operand.tmp 37) 0, type := 0, pos := "ref.go:81", after := #[{ on := 19, ground := Ground.data }, { on := 0, ground := Ground.phase }, { on := 1, ground := Ground.phase }, { on := 2, ground := Ground.phase }, { on := 3, ground := Ground.phase }, { on := 4, ground := Ground.phase }, { on := 5, ground := Ground.phase }, { on := 6, ground := Ground.phase }, { on := 7, ground := Ground.phase }, { on := 8, ground := Ground.phase }, { on := 9, ground := Ground.phase }, { on := 10, ground := Ground.phase }, { on := 11, ground := Ground.phase }, { on := 12, ground := Ground.phase }, { on := 13, ground := Ground.phase }, { on := 14, ground := Ground.phase }, { on := 15, ground := Ground.phase }, { on := 16, ground := Ground.phase }, { on := 17, ground := Ground.phase }, { on := 18, ground := Ground.phase }], guard := none }) rfl (fun K hK => ?_) AllL.nil)
        go_simp
        refine hK.out _ _ (fun _ => HS.out _ hBz3.out) ?_
        clear hK K
        try simp only [Act.put, List.setIfInBounds_toArray, List.set_cons_zero, List.set_cons_succ]
        refine AnyL.ready (rs := [21]) (by kernel_rfl) (by simp) ?_
        refine (AllL.cons (o := { dst := none, op := Op.store 50 (Operand.tmp 38) (Operand.tmp 36), type := 0, pos := "ref.go:81", after := #[{ on := 20, ground := Ground.data }, { on := 18, ground := Ground.data }, { on := 18, ground := Ground.chain }, { on := 0, ground := Ground.phase }, { on := 1, ground := Ground.phase }, { on := 2, ground := Ground.phase }, { on := 3, ground := Ground.phase }, { on := 4, ground := Ground.phase }, { on := 5, ground := Ground.phase }, { on := 6, ground := Ground.phase }, { on := 7, ground := Ground.phase }, { on := 8, ground := Ground.phase }, { on := 9, ground := Ground.phase }, { on := 10, ground := Ground.phase }, { on := 11, ground := Ground.phase }, { on := 12, ground := Ground.phase }, { on := 13, ground := Ground.phase }, { on := 14, ground := Ground.phase }, { on := 15, ground := Ground.phase }, { on := 16, ground := Ground.phase }, { on := 17, ground := Ground.phase }, { on := 18, ground := Ground.phase }], guard := none }) rfl (fun K hK => ?_) AllL.nil)
        obtain ⟨s0, -, -, -, s4, -⟩ := HS.out _ hBz3.out
        go_simp
        refine hK.out _ _ (fun h => absurd rfl h) ?_
        clear hK K s0 s4
        try simp only [Act.put, List.setIfInBounds_toArray, List.set_cons_zero, List.set_cons_succ]
        refine AnyL.done (by kernel_rfl) ?_ _
        go_wp2_with (fail)
        go_end0
        have hpf := (HR1.out.bel hBz3.out).put_files (hOwn3.out.low (Nat.le_trans hn (Nat.le_of_lt hz1)))
        rw [HI2.out]
        exact ⟨⟨_, rfl⟩, _, hpf, fun k hk => Nat.le_trans HB.out.size (hOwn3.out.lt k hk).1, ((Keep.of_bel (HB.out.trans hBz3.out) [b]).setCell (p := ⟨b, 0, none⟩) (Or.inl (by simp)) _)⟩

    · have HIGH := Lib.hid (fun y (hy : Bel w1 y) => (show SrcAt fileEl y (.slice (some ⟨g, (fn + 1) * 3, none⟩) (n - (fn + 1)) (cap - (fn + 1))) (M.L.drop kk) by rw [hkk, HN.out]; exact src_high (L := M.L) HR1.out.own hy (fn + 1) _ (by rw [← HN.out]; omega)))
      clear hkk
      have HS := Lib.hid (show ∀ y, Bel w1 y → (y.cell? ⟨b, 0, none⟩ = some (.slice (some ⟨g, 0, none⟩) n cap) ∧ y.cell? ⟨bx, 0, none⟩ = some (.string ⟨x.name.toArray⟩) ∧ y.cell? ⟨bx, 1, none⟩ = some (.string ⟨x.bytes.toArray⟩) ∧ y.cell? ⟨bx, 2, none⟩ = some (.int .i64 x.safe) ∧ y.frozen? ⟨b, 0, none⟩ = false ∧ Bel w1 y) from fun y hy => ⟨cell_later hy c0, cell_later hy x0, cell_later hy x1, cell_later hy x2, (hy.frozen _ _ hbl).trans f0, hy⟩)
      go_wp2_with (fail)
      refine region_L 21 (S := fun y => y.cell? ⟨b, 0, none⟩ = some (.slice (some ⟨g, 0, none⟩) n cap) ∧ y.cell? ⟨bx, 0, none⟩ = some (.string ⟨x.name.toArray⟩) ∧ y.cell? ⟨bx, 1, none⟩ = some (.string ⟨x.bytes.toArray⟩) ∧ y.cell? ⟨bx, 2, none⟩ = some (.int .i64 x.safe) ∧ y.frozen? ⟨b, 0, none⟩ = false ∧ Bel w1 y) (by kernel_rfl) (HS.out _ (Bel.refl w1).drew) (fun hHeld => ?_)
      refine AnyL.take (i := 0) (oi := { dst := some 18, op := Op.move (Operand.tmp 0), type := 29, pos := "ref.go:81", after := #[], guard := none }) (v := ?_) rfl (by decide) (by kernel_rfl) (by kernel_rfl) (by kernel_rfl) (by kernel_rfl) (fun _ _ _ h => h) (Or.inl ⟨by rfl, ?_⟩) (by assumption) ?_
      rotate_left
      · (intro w hSw; (try dsimp only at hSw); first | (go_simp; done) | (go_simp; with_reducible rfl))
      try simp only [Act.put, List.setIfInBounds_toArray, List.set_cons_zero, List.set_cons_succ]
      refine AnyL.take (i := 2) (oi := { dst := some 20, op := Op.move (Operand.tmp 0), type := 29, pos := "ref.go:81", after := #[], guard := none }) (v := ?_) rfl (by decide) (by kernel_rfl) (by kernel_rfl) (by kernel_rfl) (by kernel_rfl) (fun _ _ _ h => h) (Or.inl ⟨by rfl, ?_⟩) (by assumption) ?_
      rotate_left
      · (intro w hSw; (try dsimp only at hSw); first | (go_simp; done) | (go_simp; with_reducible rfl))
      try simp only [Act.put, List.setIfInBounds_toArray, List.set_cons_zero, List.set_cons_succ]
      refine AnyL.take (i := 3) (oi := { dst := some 21, op := Op.nilCheck (Operand.tmp 20), type := 0, pos := "ref.go:81", after := #[{ on := 2, ground := Ground.data }], guard := none }) (v := ?_) rfl (by decide) (by kernel_rfl) (by kernel_rfl) (by kernel_rfl) (by kernel_rfl) (fun _ _ _ h => h) (Or.inl ⟨by rfl, ?_⟩) (by assumption) ?_
      rotate_left
      · (intro w hSw; (try dsimp only at hSw); first | (go_simp; done) | (go_simp; with_reducible rfl))
      try simp only [Act.put, List.setIfInBounds_toArray, List.set_cons_zero, List.set_cons_succ]
      refine AnyL.take (i := 4) (oi := { dst := some 22, op := Op.fieldAddr 52 (Operand.tmp 21) 0, type := 0, pos := "ref.go:81", after := #[{ on := 3, ground := Ground.data }], guard := none }) (v := ?_) rfl (by decide) (by kernel_rfl) (by kernel_rfl) (by kernel_rfl) (by kernel_rfl) (fun _ _ _ h => h) (Or.inl ⟨by rfl, ?_⟩) (by assumption) ?_
      rotate_left
      · (intro w hSw; (try dsimp only at hSw); first | (go_simp; done) | (go_simp; with_reducible rfl))
      try simp only [Act.put, List.setIfInBounds_toArray, List.set_cons_zero, List.set_cons_succ]
      refine AnyL.take (i := 5) (oi := { dst := some 23, op := Op.load 50 (Operand.tmp 22), type := 50, pos := "ref.go:81", after := #[{ on := 4, ground := Ground.data }], guard := none }) (v := ?_) rfl (by decide) (by kernel_rfl) (by kernel_rfl) (by kernel_rfl) (by kernel_rfl) (fun _ _ _ h => h) (Or.inl ⟨by rfl, ?_⟩) (by assumption) ?_
      rotate_left
      · (intro w hSw; (try dsimp only at hSw); first | (go_simp; done) | (go_simp; with_reducible rfl))
      try simp only [Act.put, List.setIfInBounds_toArray, List.set_cons_zero, List.set_cons_succ]
      refine AnyL.take (i := 6) (oi := { dst := some 24, op := Op.move (Operand.tmp 4), type := 3, pos := "ref.go:81", after := #[], guard := none }) (v := ?_) rfl (by decide) (by kernel_rfl) (by kernel_rfl) (by kernel_rfl) (by kernel_rfl) (fun _ _ _ h => h) (Or.inl ⟨by rfl, ?_⟩) (by assumption) ?_
      rotate_left
      · (intro w hSw; (try dsimp only at hSw); first | (go_simp; done) | (go_simp; with_reducible rfl))
      try simp only [Act.put, List.setIfInBounds_toArray, List.set_cons_zero, List.set_cons_succ]
      refine AnyL.take (i := 7) (oi := { dst := some 25, op := Op.slice 50 (Operand.tmp 23) none (some (Operand.tmp 24)) none, type := 50, pos := "ref.go:81", after := #[{ on := 5, ground := Ground.data }, { on := 6, ground := Ground.data }], guard := none }) (v := ?_) rfl (by decide) (by kernel_rfl) (by kernel_rfl) (by kernel_rfl) (by kernel_rfl) (fun _ _ _ h => h) (Or.inl ⟨by rfl, ?_⟩) (by assumption) ?_
      rotate_left
      · (intro w hSw; (try dsimp only at hSw); first | (go_simp; done) | (go_simp; with_reducible rfl))
      try simp only [Act.put, List.setIfInBounds_toArray, List.set_cons_zero, List.set_cons_succ]
      refine AnyL.take (i := 9) (oi := { dst := some 27, op := Op.load 64 (Operand.tmp 3), type := 64, pos := "ref.go:81", after := #[], guard := none }) (v := ?_) rfl (by decide) (by kernel_rfl) (by kernel_rfl) (by kernel_rfl) (by kernel_rfl) (fun _ _ _ h => h) (Or.inl ⟨by rfl, ?_⟩) (by assumption) ?_
      rotate_left
      · (intro w hSw; (try dsimp only at hSw); first | (go_simp; done) | (go_simp; with_reducible rfl))
      try simp only [Act.put, List.setIfInBounds_toArray, List.set_cons_zero, List.set_cons_succ]
      refine AnyL.take (i := 12) (oi := { dst := some 30, op := Op.move (Operand.tmp 0), type := 29, pos := "ref.go:81", after := #[], guard := none }) (v := ?_) rfl (by decide) (by kernel_rfl) (by kernel_rfl) (by kernel_rfl) (by kernel_rfl) (fun _ _ _ h => h) (Or.inl ⟨by rfl, ?_⟩) (by assumption) ?_
      rotate_left
      · (intro w hSw; (try dsimp only at hSw); first | (go_simp; done) | (go_simp; with_reducible rfl))
      try simp only [Act.put, List.setIfInBounds_toArray, List.set_cons_zero, List.set_cons_succ]
      refine AnyL.take (i := 13) (oi := { dst := some 31, op := Op.nilCheck (Operand.tmp 30), type := 0, pos := "ref.go:81", after := #[{ on := 12, ground := Ground.data }], guard := none }) (v := ?_) rfl (by decide) (by kernel_rfl) (by kernel_rfl) (by kernel_rfl) (by kernel_rfl) (fun _ _ _ h => h) (Or.inl ⟨by rfl, ?_⟩) (by assumption) ?_
      rotate_left
      · (intro w hSw; (try dsimp only at hSw); first | (go_simp; done) | (go_simp; with_reducible rfl))
      try simp only [Act.put, List.setIfInBounds_toArray, List.set_cons_zero, List.set_cons_succ]
      refine AnyL.take (i := 14) (oi := { dst := some 32, op := Op.fieldAddr 52 (Operand.tmp 31) 0, type := 0, pos := "ref.go:81", after := #[{ on := 13, ground := Ground.data }], guard := none }) (v := ?_) rfl (by decide) (by kernel_rfl) (by kernel_rfl) (by kernel_rfl) (by kernel_rfl) (fun _ _ _ h => h) (Or.inl ⟨by rfl, ?_⟩) (by assumption) ?_
      rotate_left
      · (intro w hSw; (try dsimp only at hSw); first | (go_simp; done) | (go_simp; with_reducible rfl))
      try simp only [Act.put, List.setIfInBounds_toArray, List.set_cons_zero, List.set_cons_succ]
      refine AnyL.take (i := 15) (oi := { dst := some 33, op := Op.load 50 (Operand.tmp 32), type := 50, pos := "ref.go:81", after := #[{ on := 14, ground := Ground.data }], guard := none }) (v := ?_) rfl (by decide) (by kernel_rfl) (by kernel_rfl) (by kernel_rfl) (by kernel_rfl) (fun _ _ _ h => h) (Or.inl ⟨by rfl, ?_⟩) (by assumption) ?_
      rotate_left
      · (intro w hSw; (try dsimp only at hSw); first | (go_simp; done) | (go_simp; with_reducible rfl))
      try simp only [Act.put, List.setIfInBounds_toArray, List.set_cons_zero, List.set_cons_succ]
      refine AnyL.take (i := 16) (oi := { dst := some 34, op := Op.move (Operand.tmp 6), type := 3, pos := "ref.go:81", after := #[], guard := none }) (v := ?_) rfl (by decide) (by kernel_rfl) (by kernel_rfl) (by kernel_rfl) (by kernel_rfl) (fun _ _ _ h => h) (Or.inl ⟨by rfl, ?_⟩) (by assumption) ?_
      rotate_left
      · (intro w hSw; (try dsimp only at hSw); first | (go_simp; done) | (go_simp; with_reducible rfl))
      try simp only [Act.put, List.setIfInBounds_toArray, List.set_cons_zero, List.set_cons_succ]
      refine AnyL.take (i := 17) (oi := { dst := some 35, op := Op.slice 50 (Operand.tmp 33) (some (Operand.tmp 34)) none none, type := 50, pos := "ref.go:81", after := #[{ on := 15, ground := Ground.data }, { on := 16, ground := Ground.data }], guard := none }) (v := ?_) rfl (by decide) (by kernel_rfl) (by kernel_rfl) (by kernel_rfl) (by kernel_rfl) (fun _ _ _ h => h) (Or.inl ⟨by rfl, ?_⟩) (by assumption) ?_
      rotate_left
      · (intro w hSw; (try dsimp only at hSw); first | (go_simp; done) | (go_simp; with_reducible rfl))
      try simp only [Act.put, List.setIfInBounds_toArray, List.set_cons_zero, List.set_cons_succ]
      clear hHeld
      refine AnyL.ready (rs := [1, 10]) (by kernel_rfl) (by simp) ?_
      refine (AllL.cons (o := { dst := some 19, op := Op.buildSlice 50 0 #[], type := 50, pos := "ref.go:81", after := #[], guard := none }) rfl (fun K hK => ?_) (AllL.cons (o := { dst := some 28, op := Op.buildSlice 50 1 #[(0, Operand.tmp 27)], type := 50, pos := "ref.go:81", after := #[{ on := 9, ground := Ground.data }], guard := none }) rfl (fun K hK => ?_) AllL.nil))
      · go_simp
        refine hK.out _ _ (fun _ => HS.out _ ((Bel.refl w1).drew.alloc _)) ?_
        clear hK K
        try simp only [Act.put, List.setIfInBounds_toArray, List.set_cons_zero, List.set_cons_succ]
        refine AnyL.ready (rs := [8, 10]) (by kernel_rfl) (by simp) ?_
        refine (AllL.cons (o := { dst := some 26, op := Op.call { callee := Callee.builtin Builtin.append, args := #[Operand.tmp 19, Operand.tmp 25], argTypes := #[50, 50] }, type := 50, pos := "ref.go:81", after := #[{ on := 1, ground := Ground.data }, { on := 7, ground := Ground.data }], guard := none }) rfl (fun K hK => ?_) (AllL.cons (o := { dst := some 28, op := Op.buildSlice 50 1 #[(0, Operand.tmp 27)], type := 50, pos := "ref.go:81", after := #[{ on := 9, ground := Ground.data }], guard := none }) rfl (fun K hK => ?_) AllL.nil))
        · refine step_append_seg (n := w1.heap.size) (v := .slice (some ⟨w1.heap.size, 0, none⟩) 0 0) fileOk rfl (.tmp 19) (.tmp 25) rfl rfl (ownG_none (heap_alloc_new w1.drew _) (Nat.le_refl _)) (M.L.take fn) rfl (LOW.out _ (((Bel.refl w1).drew.alloc _))) (LT1.out) (LT2.out) (Bel.size (((Bel.refl w1).drew.alloc _))) ?_
          intro v1 z1 ho1 hg1 hb1
          have hBz1 := Lib.hid (Bel.trans_below' (((Bel.refl w1).drew.alloc _)) hb1)
          have hOwn1 := Lib.hid (show OwnG fileEl w1.heap.size z1 v1 (M.L.take fn) from ho1)
          refine hK.out _ _ (fun _ => HS.out _ hBz1.out) ?_
          clear hK K ho1 hg1 hb1
          try simp only [Act.put, List.setIfInBounds_toArray, List.set_cons_zero, List.set_cons_succ]
          refine AnyL.ready (rs := [10]) (by kernel_rfl) (by simp) ?_
          refine (AllL.cons (o := { dst := some 28, op := Op.buildSlice 50 1 #[(0, Operand.tmp 27)], type := 50, pos := "ref.go:81", after := #[{ on := 9, ground := Ground.data }], guard := none }) rfl (fun K hK => ?_) AllL.nil)
          go_simp
          refine hK.out _ _ (fun _ => HS.out _ (hBz1.out.alloc _)) ?_
          clear hK K
          try simp only [Act.put, List.setIfInBounds_toArray, List.set_cons_zero, List.set_cons_succ]
          have hBz := Lib.hid (hBz1.out.alloc (.cells #[.string ⟨x.name.toArray⟩, .string ⟨x.bytes.toArray⟩, .int .i64 x.safe] 64))
          have hLit := Lib.hid (heap_alloc_new z1 (.cells #[.string ⟨x.name.toArray⟩, .string ⟨x.bytes.toArray⟩, .int .i64 x.safe] 64))
          replace hOwn1 := Lib.hid (hOwn1.out.alloc (.cells #[.string ⟨x.name.toArray⟩, .string ⟨x.bytes.toArray⟩, .int .i64 x.safe] 64))
          refine AnyL.ready (rs := [11]) (by kernel_rfl) (by simp) ?_
          refine (AllL.cons (o := { dst := some 29, op := Op.call { callee := Callee.builtin Builtin.append, args := #[Operand.tmp 26, Operand.tmp 28], argTypes := #[50, 50] }, type := 50, pos := "ref.go:81", after := #[{ on := 8, ground := Ground.data }, { on := 10, ground := Ground.data }, { on := 8, ground := Ground.chain }], guard := none }) rfl (fun K hK => ?_) AllL.nil)
          refine step_append_seg (n := w1.heap.size) fileOk rfl (.tmp 26) (.tmp 28) rfl rfl hOwn1.out [x] rfl (lit_src hLit.out) (LT3.out) (LT4.out) (Bel.size hBz.out) ?_
          intro v2 z2 ho2 hg2 hb2
          have hBz2 := Lib.hid (Bel.trans_below' hBz.out hb2)
          have hOwn2 := Lib.hid ho2
          refine hK.out _ _ (fun _ => HS.out _ hBz2.out) ?_
          clear hK K ho2 hg2 hb2
          try simp only [Act.put, List.setIfInBounds_toArray, List.set_cons_zero, List.set_cons_succ]
          refine AnyL.ready (rs := [18]) (by kernel_rfl) (by simp) ?_
          refine (AllL.cons (o := { dst := some 36, op := Op.call { callee := Callee.builtin Builtin.append, args := #[Operand.tmp 29, Operand.tmp 35], argTypes := #[50, 50] }, type := 50, pos := "ref.go:81", after := #[{ on := 11, ground := Ground.data }, { on := 17, ground := Ground.data }, { on := 11, ground := Ground.chain }], guard := none }) rfl (fun K hK => ?_) AllL.nil)
          refine step_append_seg (n := w1.heap.size) fileOk rfl (.tmp 29) (.tmp 35) rfl rfl hOwn2.out (M.L.drop kk) rfl (HIGH.out _ hBz2.out) (LT5.out) (LT6.out) (Bel.size hBz2.out) ?_
          intro v3 z3 ho3 hg3 hb3
          have hBz3 := Lib.hid (Bel.trans_below' hBz2.out hb3)
          obtain ⟨p3, c3, hv3⟩ := ownG_len ho3
          generalize (M.L.take fn ++ [x] ++ M.L.drop kk).length = l3 at hv3
          subst hv3
          have hOwn3 := Lib.hid ho3
          refine hK.out _ _ (fun _ => HS.out _ hBz3.out) ?_
          clear hK K ho3 hg3 hb3
          try simp only [Act.put, List.setIfInBounds_toArray, List.set_cons_zero, List.set_cons_succ]
          refine AnyL.ready (rs := [19]) (by kernel_rfl) (by simp) ?_
          refine (AllL.cons (o := { dst := some 37, op := Op.nilCheck (Operand.tmp 18), type := 0, pos := "ref.go:81", after := #[{ on := 0, ground := Ground.data }, { on := 0, ground := Ground.phase }, { on := 1, ground := Ground.phase }, { on := 2, ground := Ground.phase }, { on := 3, ground := Ground.phase }, { on := 4, ground := Ground.phase }, { on := 5, ground := Ground.phase }, { on := 6, ground := Ground.phase }, { on := 7, ground := Ground.phase }, { on := 8, ground := Ground.phase }, { on := 9, ground := Ground.phase }, { on := 10, ground := Ground.phase }, { on := 11, ground := Ground.phase }, { on := 12, ground := Ground.phase }, { on := 13, ground := Ground.phase }, { on := 14, ground := Ground.phase }, { on := 15, ground := Ground.phase }, { on := 16, ground := Ground.phase }, { on := 17, ground := Ground.phase }, { on := 18, ground := Ground.phase }], guard := none }) rfl (fun K hK => ?_) AllL.nil)
          go_simp
          refine hK.out _ _ (fun _ => HS.out _ hBz3.out) ?_
          clear hK K
          try simp only [Act.put, List.setIfInBounds_toArray, List.set_cons_zero, List.set_cons_succ]
          refine AnyL.ready (rs := [20]) (by kernel_rfl) (by simp) ?_
          refine (AllL.cons (o := { dst := some 38, op := Op.fieldAddr 52 (Operand.tmp 37) 0, type := 0, pos := "ref.go:81", after := #[{ on := 19, ground := Ground.data }, { on := 0, ground := Ground.phase }, { on := 1, ground := Ground.phase }, { on := 2, ground := Ground.phase }, { on := 3, ground := Ground.phase }, { on := 4, ground := Ground.phase }, { on := 5, ground := Ground.phase }, { on := 6, ground := Ground.phase }, { on := 7, ground := Ground.phase }, { on := 8, ground := Ground.phase }, { on := 9, ground := Ground.phase }, { on := 10, ground := Ground.phase }, { on := 11, ground := Ground.phase }, { on := 12, ground := Ground.phase }, { on := 13, ground := Ground.phase }, { on := 14, ground := Ground.phase }, { on := 15, ground := Ground.phase }, { on := 16, ground := Ground.phase }, { on := 17, ground := Ground.phase }, { on := 18, ground := Ground.phase }], guard := none }) rfl (fun K hK => ?_) AllL.nil)
          go_simp
          refine hK.out _ _ (fun _ => HS.out _ hBz3.out) ?_
          clear hK K
          try simp only [Act.put, List.setIfInBounds_toArray, List.set_cons_zero, List.set_cons_succ]
          refine AnyL.ready (rs := [21]) (by kernel_rfl) (by simp) ?_
          refine (AllL.cons (o := { dst := none, op := Op.store 50 (Operand.tmp 38) (Operand.tmp 36), type := 0, pos := "ref.go:81", after := #[{ on := 20, ground := Ground.data }, { on := 18, ground := Ground.data }, { on := 18, ground := Ground.chain }, { on := 0, ground := Ground.phase }, { on := 1, ground := Ground.phase }, { on := 2, ground := Ground.phase }, { on := 3, ground := Ground.phase }, { on := 4, ground := Ground.phase }, { on := 5, ground := Ground.phase }, { on := 6, ground := Ground.phase }, { on := 7, ground := Ground.phase }, { on := 8, ground := Ground.phase }, { on := 9, ground := Ground.phase }, { on := 10, ground := Ground.phase }, { on := 11, ground := Ground.phase }, { on := 12, ground := Ground.phase }, { on := 13, ground := Ground.phase }, { on := 14, ground := Ground.phase }, { on := 15, ground := Ground.phase }, { on := 16, ground := Ground.phase }, { on := 17, ground := Ground.phase }, { on := 18, ground := Ground.phase }], guard := none }) rfl (fun K hK => ?_) AllL.nil)
          obtain ⟨s0, -, -, -, s4, -⟩ := HS.out _ hBz3.out
          go_simp
          refine hK.out _ _ (fun h => absurd rfl h) ?_
          clear hK K s0 s4
          try simp only [Act.put, List.setIfInBounds_toArray, List.set_cons_zero, List.set_cons_succ]
          refine AnyL.done (by kernel_rfl) ?_ _
          go_wp2_with (fail)
          go_end0
          have hpf := (HR1.out.bel hBz3.out).put_files (hOwn3.out.low (Nat.le_trans hn (Nat.le_of_lt hz1)))
          rw [HI2.out]
          exact ⟨⟨_, rfl⟩, _, hpf, fun k hk => Nat.le_trans HB.out.size (hOwn3.out.lt k hk).1, ((Keep.of_bel (HB.out.trans hBz3.out) [b]).setCell (p := ⟨b, 0, none⟩) (Or.inl (by simp)) _)⟩
        · go_simp
          refine hK.out _ _ (fun _ => HS.out _ (((Bel.refl w1).drew.alloc _).alloc _)) ?_
          clear hK K
          try simp only [Act.put, List.setIfInBounds_toArray, List.set_cons_zero, List.set_cons_succ]
          refine AnyL.ready (rs := [8]) (by kernel_rfl) (by simp) ?_
          refine (AllL.cons (o := { dst := some 26, op := Op.call { callee := Callee.builtin Builtin.append, args := #[Operand.tmp 19, Operand.tmp 25], argTypes := #[50, 50] }, type := 50, pos := "ref.go:81", after := #[{ on := 1, ground := Ground.data }, { on := 7, ground := Ground.data }], guard := none }) rfl (fun K hK => ?_) AllL.nil)
          refine step_append_seg (n := w1.heap.size) (v := .slice (some ⟨w1.heap.size, 0, none⟩) 0 0) fileOk rfl (.tmp 19) (.tmp 25) rfl rfl ((ownG_none (heap_alloc_new w1.drew _) (Nat.le_refl _)).alloc _) (M.L.take fn) rfl (LOW.out _ ((((Bel.refl w1).drew.alloc _).alloc _))) (LT1.out) (LT2.out) (Bel.size ((((Bel.refl w1).drew.alloc _).alloc _))) ?_
          intro v1 z1 ho1 hg1 hb1
          have hBz1 := Lib.hid (Bel.trans_below' ((((Bel.refl w1).drew.alloc _).alloc _)) hb1)
          have hOwn1 := Lib.hid (show OwnG fileEl w1.heap.size z1 v1 (M.L.take fn) from ho1)
          have hLit := Lib.hid (show z1.heap[w1.heap.size + 1]? = some (.cells #[.string ⟨x.name.toArray⟩, .string ⟨x.bytes.toArray⟩, .int .i64 x.safe] 64) from at_grown hg1 (at_new (by simp)) (by simp [Value.ownBlock]))
          refine hK.out _ _ (fun _ => HS.out _ hBz1.out) ?_
          clear hK K ho1 hg1 hb1
          try simp only [Act.put, List.setIfInBounds_toArray, List.set_cons_zero, List.set_cons_succ]
          have hBz := Lib.hid hBz1.out
          refine AnyL.ready (rs := [11]) (by kernel_rfl) (by simp) ?_
          refine (AllL.cons (o := { dst := some 29, op := Op.call { callee := Callee.builtin Builtin.append, args := #[Operand.tmp 26, Operand.tmp 28], argTypes := #[50, 50] }, type := 50, pos := "ref.go:81", after := #[{ on := 8, ground := Ground.data }, { on := 10, ground := Ground.data }, { on := 8, ground := Ground.chain }], guard := none }) rfl (fun K hK => ?_) AllL.nil)
          refine step_append_seg (n := w1.heap.size) fileOk rfl (.tmp 26) (.tmp 28) rfl rfl hOwn1.out [x] rfl (lit_src hLit.out) (LT3.out) (LT4.out) (Bel.size hBz.out) ?_
          intro v2 z2 ho2 hg2 hb2
          have hBz2 := Lib.hid (Bel.trans_below' hBz.out hb2)
          have hOwn2 := Lib.hid ho2
          refine hK.out _ _ (fun _ => HS.out _ hBz2.out) ?_
          clear hK K ho2 hg2 hb2
          try simp only [Act.put, List.setIfInBounds_toArray, List.set_cons_zero, List.set_cons_succ]
          refine AnyL.ready (rs := [18]) (by kernel_rfl) (by simp) ?_
          refine (AllL.cons (o := { dst := some 36, op := Op.call { callee := Callee.builtin Builtin.append, args := #[Operand.tmp 29, Operand.tmp 35], argTypes := #[50, 50] }, type := 50, pos := "ref.go:81", after := #[{ on := 11, ground := Ground.data }, { on := 17, ground := Ground.data }, { on := 11, ground := Ground.chain }], guard := none }) rfl (fun K hK => ?_) AllL.nil)
          refine step_append_seg (n := w1.heap.size) fileOk rfl (.tmp 29) (.tmp 35) rfl rfl hOwn2.out (M.L.drop kk) rfl (HIGH.out _ hBz2.out) (LT5.out) (LT6.out) (Bel.size hBz2.out) ?_
          intro v3 z3 ho3 hg3 hb3
          have hBz3 := Lib.hid (Bel.trans_below' hBz2.out hb3)
          obtain ⟨p3, c3, hv3⟩ := ownG_len ho3
          generalize (M.L.take fn ++ [x] ++ M.L.drop kk).length = l3 at hv3
          subst hv3
          have hOwn3 := Lib.hid ho3
          refine hK.out _ _ (fun _ => HS.out _ hBz3.out) ?_
          clear hK K ho3 hg3 hb3
          try simp only [Act.put, List.setIfInBounds_toArray, List.set_cons_zero, List.set_cons_succ]
          refine AnyL.ready (rs := [19]) (by kernel_rfl) (by simp) ?_
          refine (AllL.cons (o := { dst := some 37, op := Op.nilCheck (Operand.tmp 18), type := 0, pos := "ref.go:81", after := #[{ on := 0, ground := Ground.data }, { on := 0, ground := Ground.phase }, { on := 1, ground := Ground.phase }, { on := 2, ground := Ground.phase }, { on := 3, ground := Ground.phase }, { on := 4, ground := Ground.phase }, { on := 5, ground := Ground.phase }, { on := 6, ground := Ground.phase }, { on := 7, ground := Ground.phase }, { on := 8, ground := Ground.phase }, { on := 9, ground := Ground.phase }, { on := 10, ground := Ground.phase }, { on := 11, ground := Ground.phase }, { on := 12, ground := Ground.phase }, { on := 13, ground := Ground.phase }, { on := 14, ground := Ground.phase }, { on := 15, ground := Ground.phase }, { on := 16, ground := Ground.phase }, { on := 17, ground := Ground.phase }, { on := 18, ground := Ground.phase }], guard := none }) rfl (fun K hK => ?_) AllL.nil)
          go_simp
          refine hK.out _ _ (fun _ => HS.out _ hBz3.out) ?_
          clear hK K
          try simp only [Act.put, List.setIfInBounds_toArray, List.set_cons_zero, List.set_cons_succ]
          refine AnyL.ready (rs := [20]) (by kernel_rfl) (by simp) ?_
          refine (AllL.cons (o := { dst := some 38, op := Op.fieldAddr 52 (Operand.tmp 37) 0, type := 0, pos := "ref.go:81", after := #[{ on := 19, ground := Ground.data }, { on := 0, ground := Ground.phase }, { on := 1, ground := Ground.phase }, { on := 2, ground := Ground.phase }, { on := 3, ground := Ground.phase }, { on := 4, ground := Ground.phase }, { on := 5, ground := Ground.phase }, { on := 6, ground := Ground.phase }, { on := 7, ground := Ground.phase }, { on := 8, ground := Ground.phase }, { on := 9, ground := Ground.phase }, { on := 10, ground := Ground.phase }, { on := 11, ground := Ground.phase }, { on := 12, ground := Ground.phase }, { on := 13, ground := Ground.phase }, { on := 14, ground := Ground.phase }, { on := 15, ground := Ground.phase }, { on := 16, ground := Ground.phase }, { on := 17, ground := Ground.phase }, { on := 18, ground := Ground.phase }], guard := none }) rfl (fun K hK => ?_) AllL.nil)
          go_simp
          refine hK.out _ _ (fun _ => HS.out _ hBz3.out) ?_
          clear hK K
          try simp only [Act.put, List.setIfInBounds_toArray, List.set_cons_zero, List.set_cons_succ]
          refine AnyL.ready (rs := [21]) (by kernel_rfl) (by simp) ?_
          refine (AllL.cons (o := { dst := none, op := Op.store 50 (Operand.tmp 38) (Operand.tmp 36), type := 0, pos := "ref.go:81", after := #[{ on := 20, ground := Ground.data }, { on := 18, ground := Ground.data }, { on := 18, ground := Ground.chain }, { on := 0, ground := Ground.phase }, { on := 1, ground := Ground.phase }, { on := 2, ground := Ground.phase }, { on := 3, ground := Ground.phase }, { on := 4, ground := Ground.phase }, { on := 5, ground := Ground.phase }, { on := 6, ground := Ground.phase }, { on := 7, ground := Ground.phase }, { on := 8, ground := Ground.phase }, { on := 9, ground := Ground.phase }, { on := 10, ground := Ground.phase }, { on := 11, ground := Ground.phase }, { on := 12, ground := Ground.phase }, { on := 13, ground := Ground.phase }, { on := 14, ground := Ground.phase }, { on := 15, ground := Ground.phase }, { on := 16, ground := Ground.phase }, { on := 17, ground := Ground.phase }, { on := 18, ground := Ground.phase }], guard := none }) rfl (fun K hK => ?_) AllL.nil)
          obtain ⟨s0, -, -, -, s4, -⟩ := HS.out _ hBz3.out
          go_simp
          refine hK.out _ _ (fun h => absurd rfl h) ?_
          clear hK K s0 s4
          try simp only [Act.put, List.setIfInBounds_toArray, List.set_cons_zero, List.set_cons_succ]
          refine AnyL.done (by kernel_rfl) ?_ _
          go_wp2_with (fail)
          go_end0
          have hpf := (HR1.out.bel hBz3.out).put_files (hOwn3.out.low (Nat.le_trans hn (Nat.le_of_lt hz1)))
          rw [HI2.out]
          exact ⟨⟨_, rfl⟩, _, hpf, fun k hk => Nat.le_trans HB.out.size (hOwn3.out.lt k hk).1, ((Keep.of_bel (HB.out.trans hBz3.out) [b]).setCell (p := ⟨b, 0, none⟩) (Or.inl (by simp)) _)⟩
      · go_simp
        refine hK.out _ _ (fun _ => HS.out _ ((Bel.refl w1).drew.alloc _)) ?_
        clear hK K
        try simp only [Act.put, List.setIfInBounds_toArray, List.set_cons_zero, List.set_cons_succ]
        refine AnyL.ready (rs := [1]) (by kernel_rfl) (by simp) ?_
        refine (AllL.cons (o := { dst := some 19, op := Op.buildSlice 50 0 #[], type := 50, pos := "ref.go:81", after := #[], guard := none }) rfl (fun K hK => ?_) AllL.nil)
        go_simp
        refine hK.out _ _ (fun _ => HS.out _ (((Bel.refl w1).drew.alloc _).alloc _)) ?_
        clear hK K
        try simp only [Act.put, List.setIfInBounds_toArray, List.set_cons_zero, List.set_cons_succ]
        refine AnyL.ready (rs := [8]) (by kernel_rfl) (by simp) ?_
        refine (AllL.cons (o := { dst := some 26, op := Op.call { callee := Callee.builtin Builtin.append, args := #[Operand.tmp 19, Operand.tmp 25], argTypes := #[50, 50] }, type := 50, pos := "ref.go:81", after := #[{ on := 1, ground := Ground.data }, { on := 7, ground := Ground.data }], guard := none }) rfl (fun K hK => ?_) AllL.nil)
        refine step_append_seg (n := w1.heap.size) (v := .slice (some ⟨w1.heap.size + 1, 0, none⟩) 0 0) fileOk rfl (.tmp 19) (.tmp 25) rfl rfl (ownG_none (n := w1.heap.size) (at_new (by simp)) (by simp)) (M.L.take fn) rfl (LOW.out _ ((((Bel.refl w1).drew.alloc _).alloc _))) (LT1.out) (LT2.out) (Bel.size ((((Bel.refl w1).drew.alloc _).alloc _))) ?_
        intro v1 z1 ho1 hg1 hb1
        have hBz1 := Lib.hid (Bel.trans_below' ((((Bel.refl w1).drew.alloc _).alloc _)) hb1)
        have hOwn1 := Lib.hid (show OwnG fileEl w1.heap.size z1 v1 (M.L.take fn) from ho1)
        have hLit := Lib.hid (show z1.heap[w1.heap.size]? = some (.cells #[.string ⟨x.name.toArray⟩, .string ⟨x.bytes.toArray⟩, .int .i64 x.safe] 64) from at_grown hg1 (at_old (at_new (by simp))) (by simp [Value.ownBlock]))
        refine hK.out _ _ (fun _ => HS.out _ hBz1.out) ?_
        clear hK K ho1 hg1 hb1
        try simp only [Act.put, List.setIfInBounds_toArray, List.set_cons_zero, List.set_cons_succ]
        have hBz := Lib.hid hBz1.out
        refine AnyL.ready (rs := [11]) (by kernel_rfl) (by simp) ?_
        refine (AllL.cons (o := { dst := some 29, op := Op.call { callee := Callee.builtin Builtin.append, args := #[Operand.tmp 26, Operand.tmp 28], argTypes := #[50, 50] }, type := 50, pos := "ref.go:81", after := #[{ on := 8, ground := Ground.data }, { on := 10, ground := Ground.data }, { on := 8, ground := Ground.chain }], guard := none }) rfl (fun K hK => ?_) AllL.nil)
        refine step_append_seg (n := w1.heap.size) fileOk rfl (.tmp 26) (.tmp 28) rfl rfl hOwn1.out [x] rfl (lit_src hLit.out) (LT3.out) (LT4.out) (Bel.size hBz.out) ?_
        intro v2 z2 ho2 hg2 hb2
        have hBz2 := Lib.hid (Bel.trans_below' hBz.out hb2)
        have hOwn2 := Lib.hid ho2
        refine hK.out _ _ (fun _ => HS.out _ hBz2.out) ?_
        clear hK K ho2 hg2 hb2
        try simp only [Act.put, List.setIfInBounds_toArray, List.set_cons_zero, List.set_cons_succ]
        refine AnyL.ready (rs := [18]) (by kernel_rfl) (by simp) ?_
        refine (AllL.cons (o := { dst := some 36, op := Op.call { callee := Callee.builtin Builtin.append, args := #[Operand.tmp 29, Operand.tmp 35], argTypes := #[50, 50] }, type := 50, pos := "ref.go:81", after := #[{ on := 11, ground := Ground.data }, { on := 17, ground := Ground.data }, { on := 11, ground := Ground.chain }], guard := none }) rfl (fun K hK => ?_) AllL.nil)
        refine step_append_seg (n := w1.heap.size) fileOk rfl (.tmp 29) (.tmp 35) rfl rfl hOwn2.out (M.L.drop kk) rfl (HIGH.out _ hBz2.out) (LT5.out) (LT6.out) (Bel.size hBz2.out) ?_
        intro v3 z3 ho3 hg3 hb3
        have hBz3 := Lib.hid (Bel.trans_below' hBz2.out hb3)
        obtain ⟨p3, c3, hv3⟩ := ownG_len ho3
        generalize (M.L.take fn ++ [x] ++ M.L.drop kk).length = l3 at hv3
        subst hv3
        have hOwn3 := Lib.hid ho3
        refine hK.out _ _ (fun _ => HS.out _ hBz3.out) ?_
        clear hK K ho3 hg3 hb3
        try simp only [Act.put, List.setIfInBounds_toArray, List.set_cons_zero, List.set_cons_succ]
        refine AnyL.ready (rs := [19]) (by kernel_rfl) (by simp) ?_
        refine (AllL.cons (o := { dst := some 37, op := Op.nilCheck (Operand.tmp 18), type := 0, pos := "ref.go:81", after := #[{ on := 0, ground := Ground.data }, { on := 0, ground := Ground.phase }, { on := 1, ground := Ground.phase }, { on := 2, ground := Ground.phase }, { on := 3, ground := Ground.phase }, { on := 4, ground := Ground.phase }, { on := 5, ground := Ground.phase }, { on := 6, ground := Ground.phase }, { on := 7, ground := Ground.phase }, { on := 8, ground := Ground.phase }, { on := 9, ground := Ground.phase }, { on := 10, ground := Ground.phase }, { on := 11, ground := Ground.phase }, { on := 12, ground := Ground.phase }, { on := 13, ground := Ground.phase }, { on := 14, ground := Ground.phase }, { on := 15, ground := Ground.phase }, { on := 16, ground := Ground.phase }, { on := 17, ground := Ground.phase }, { on := 18, ground := Ground.phase }], guard := none }) rfl (fun K hK => ?_) AllL.nil)
        go_simp
        refine hK.out _ _ (fun _ => HS.out _ hBz3.out) ?_
        clear hK K
        try simp only [Act.put, List.setIfInBounds_toArray, List.set_cons_zero, List.set_cons_succ]
        refine AnyL.ready (rs := [20]) (by kernel_rfl) (by simp) ?_
        refine (AllL.cons (o := { dst := some 38, op := Op.fieldAddr 52 (Operand.tmp 37) 0, type := 0, pos := "ref.go:81", after := #[{ on := 19, ground := Ground.data }, { on := 0, ground := Ground.phase }, { on := 1, ground := Ground.phase }, { on := 2, ground := Ground.phase }, { on := 3, ground := Ground.phase }, { on := 4, ground := Ground.phase }, { on := 5, ground := Ground.phase }, { on := 6, ground := Ground.phase }, { on := 7, ground := Ground.phase }, { on := 8, ground := Ground.phase }, { on := 9, ground := Ground.phase }, { on := 10, ground := Ground.phase }, { on := 11, ground := Ground.phase }, { on := 12, ground := Ground.phase }, { on := 13, ground := Ground.phase }, { on := 14, ground := Ground.phase }, { on := 15, ground := Ground.phase }, { on := 16, ground := Ground.phase }, { on := 17, ground := Ground.phase }, { on := 18, ground := Ground.phase }], guard := none }) rfl (fun K hK => ?_) AllL.nil)
        go_simp
        refine hK.out _ _ (fun _ => HS.out _ hBz3.out) ?_
        clear hK K
        try simp only [Act.put, List.setIfInBounds_toArray, List.set_cons_zero, List.set_cons_succ]
        refine AnyL.ready (rs := [21]) (by kernel_rfl) (by simp) ?_
        refine (AllL.cons (o := { dst := none, op := Op.store 50 (Operand.tmp 38) (Operand.tmp 36), type := 0, pos := "ref.go:81", after := #[{ on := 20, ground := Ground.data }, { on := 18, ground := Ground.data }, { on := 18, ground := Ground.chain }, { on := 0, ground := Ground.phase }, { on := 1, ground := Ground.phase }, { on := 2, ground := Ground.phase }, { on := 3, ground := Ground.phase }, { on := 4, ground := Ground.phase }, { on := 5, ground := Ground.phase }, { on := 6, ground := Ground.phase }, { on := 7, ground := Ground.phase }, { on := 8, ground := Ground.phase }, { on := 9, ground := Ground.phase }, { on := 10, ground := Ground.phase }, { on := 11, ground := Ground.phase }, { on := 12, ground := Ground.phase }, { on := 13, ground := Ground.phase }, { on := 14, ground := Ground.phase }, { on := 15, ground := Ground.phase }, { on := 16, ground := Ground.phase }, { on := 17, ground := Ground.phase }, { on := 18, ground := Ground.phase }], guard := none }) rfl (fun K hK => ?_) AllL.nil)
        obtain ⟨s0, -, -, -, s4, -⟩ := HS.out _ hBz3.out
        go_simp
        refine hK.out _ _ (fun h => absurd rfl h) ?_
        clear hK K s0 s4
        try simp only [Act.put, List.setIfInBounds_toArray, List.set_cons_zero, List.set_cons_succ]
        refine AnyL.done (by kernel_rfl) ?_ _
        go_wp2_with (fail)
        go_end0
        have hpf := (HR1.out.bel hBz3.out).put_files (hOwn3.out.low (Nat.le_trans hn (Nat.le_of_lt hz1)))
        rw [HI2.out]
        exact ⟨⟨_, rfl⟩, _, hpf, fun k hk => Nat.le_trans HB.out.size (hOwn3.out.lt k hk).1, ((Keep.of_bel (HB.out.trans hBz3.out) [b]).setCell (p := ⟨b, 0, none⟩) (Or.inl (by simp)) _)⟩

  | false =>
    rw [hI] at hkk
    simp only [Bool.false_eq_true, if_false, Nat.add_zero] at hkk
    clear hI HE
    rcases HR1.out.own.2 with ⟨h1, h0⟩ | ⟨g, cap, cur, rfl, hg, hh, hc, hx, _⟩
    · subst h1
      have hn0 : n = 0 := by rw [HN.out]; exact h0
      obtain rfl : fn = 0 := by omega
      have hnil : M.L = [] := List.length_eq_zero_iff.1 h0
      have LOW := Lib.hid (fun y (hy : Bel w1 y) => (show SrcAt fileEl y (.slice none 0 0) (M.L.take 0) from Or.inl ⟨rfl, rfl⟩))
      have HIGH := Lib.hid (fun y (hy : Bel w1 y) => (show SrcAt fileEl y (.slice none 0 0) (M.L.drop kk) from Or.inl ⟨rfl, by rw [hnil]; simp⟩))
      have HI2 := Lib.hid (show insS x M.L = M.L.take 0 ++ [x] ++ M.L.drop kk by rw [HI.out, hkk]; simp)
      have LTK := Lib.hid (show (M.L.take 0).length ≤ 100 by rw [List.length_take]; have := HN.out; omega)
      have LDK := Lib.hid (show (M.L.drop kk).length ≤ 100 by rw [List.length_drop]; have := HN.out; omega)
      have LT1 := Lib.hid (show ([] : List FI).length + (M.L.take 0).length ≤ maxLen by have := LTK.out; unfold maxLen; simp only [List.length_nil]; omega)
      have LT2 := Lib.hid (show (([] : List FI).length + (M.L.take 0).length) * 40 ≤ 140737488355328 by have := LTK.out; simp only [List.length_nil]; omega)
      have LT3 := Lib.hid (show (M.L.take 0).length + [x].length ≤ maxLen by have := LTK.out; unfold maxLen; simp only [List.length_singleton]; omega)
      have LT4 := Lib.hid (show ((M.L.take 0).length + [x].length) * 40 ≤ 140737488355328 by have := LTK.out; simp only [List.length_singleton]; omega)
      have LT5 := Lib.hid (show (M.L.take 0 ++ [x]).length + (M.L.drop kk).length ≤ maxLen by have := LTK.out; have := LDK.out; unfold maxLen; simp only [List.length_append, List.length_singleton]; omega)
      have LT6 := Lib.hid (show ((M.L.take 0 ++ [x]).length + (M.L.drop kk).length) * 40 ≤ 140737488355328 by have := LTK.out; have := LDK.out; simp only [List.length_append, List.length_singleton]; omega)
      clear hkk hnil h0 hn0
      have HS := Lib.hid (show ∀ y, Bel w1 y → (y.cell? ⟨b, 0, none⟩ = some (.slice none 0 0) ∧ y.cell? ⟨bx, 0, none⟩ = some (.string ⟨x.name.toArray⟩) ∧ y.cell? ⟨bx, 1, none⟩ = some (.string ⟨x.bytes.toArray⟩) ∧ y.cell? ⟨bx, 2, none⟩ = some (.int .i64 x.safe) ∧ y.frozen? ⟨b, 0, none⟩ = false ∧ Bel w1 y) from fun y hy => ⟨cell_later hy c0, cell_later hy x0, cell_later hy x1, cell_later hy x2, (hy.frozen _ _ hbl).trans f0, hy⟩)
      go_wp2_with (fail)
      refine region_L 21 (S := fun y => y.cell? ⟨b, 0, none⟩ = some (.slice none 0 0) ∧ y.cell? ⟨bx, 0, none⟩ = some (.string ⟨x.name.toArray⟩) ∧ y.cell? ⟨bx, 1, none⟩ = some (.string ⟨x.bytes.toArray⟩) ∧ y.cell? ⟨bx, 2, none⟩ = some (.int .i64 x.safe) ∧ y.frozen? ⟨b, 0, none⟩ = false ∧ Bel w1 y) (by kernel_rfl) (HS.out _ (Bel.refl w1).drew) (fun hHeld => ?_)
      refine AnyL.take (i := 0) (oi := { dst := some 18, op := Op.move (Operand.tmp 0), type := 29, pos := "ref.go:81", after := #[], guard := none }) (v := ?_) rfl (by decide) (by kernel_rfl) (by kernel_rfl) (by kernel_rfl) (by kernel_rfl) (fun _ _ _ h => h) (Or.inl ⟨by rfl, ?_⟩) (by assumption) ?_
      rotate_left
      · (intro w hSw; (try dsimp only at hSw); first | (go_simp; done) | (go_simp; with_reducible rfl))
      try simp only [Act.put, List.setIfInBounds_toArray, List.set_cons_zero, List.set_cons_succ]
      refine AnyL.take (i := 2) (oi := { dst := some 20, op := Op.move (Operand.tmp 0), type := 29, pos := "ref.go:81", after := #[], guard := none }) (v := ?_) rfl (by decide) (by kernel_rfl) (by kernel_rfl) (by kernel_rfl) (by kernel_rfl) (fun _ _ _ h => h) (Or.inl ⟨by rfl, ?_⟩) (by assumption) ?_
      rotate_left
      · (intro w hSw; (try dsimp only at hSw); first | (go_simp; done) | (go_simp; with_reducible rfl))
      try simp only [Act.put, List.setIfInBounds_toArray, List.set_cons_zero, List.set_cons_succ]
      refine AnyL.take (i := 3) (oi := { dst := some 21, op := Op.nilCheck (Operand.tmp 20), type := 0, pos := "ref.go:81", after := #[{ on := 2, ground := Ground.data }], guard := none }) (v := ?_) rfl (by decide) (by kernel_rfl) (by kernel_rfl) (by kernel_rfl) (by kernel_rfl) (fun _ _ _ h => h) (Or.inl ⟨by rfl, ?_⟩) (by assumption) ?_
      rotate_left
      · (intro w hSw; (try dsimp only at hSw); first | (go_simp; done) | (go_simp; with_reducible rfl))
      try simp only [Act.put, List.setIfInBounds_toArray, List.set_cons_zero, List.set_cons_succ]
      refine AnyL.take (i := 4) (oi := { dst := some 22, op := Op.fieldAddr 52 (Operand.tmp 21) 0, type := 0, pos := "ref.go:81", after := #[{ on := 3, ground := Ground.data }], guard := none }) (v := ?_) rfl (by decide) (by kernel_rfl) (by kernel_rfl) (by kernel_rfl) (by kernel_rfl) (fun _ _ _ h => h) (Or.inl ⟨by rfl, ?_⟩) (by assumption) ?_
      rotate_left
      · (intro w hSw; (try dsimp only at hSw); first | (go_simp; done) | (go_simp; with_reducible rfl))
      try simp only [Act.put, List.setIfInBounds_toArray, List.set_cons_zero, List.set_cons_succ]
      refine AnyL.take (i := 5) (oi := { dst := some 23, op := Op.load 50 (Operand.tmp 22), type := 50, pos := "ref.go:81", after := #[{ on := 4, ground := Ground.data }], guard := none }) (v := ?_) rfl (by decide) (by kernel_rfl) (by kernel_rfl) (by kernel_rfl) (by kernel_rfl) (fun _ _ _ h => h) (Or.inl ⟨by rfl, ?_⟩) (by assumption) ?_
      rotate_left
      · (intro w hSw; (try dsimp only at hSw); first | (go_simp; done) | (go_simp; with_reducible rfl))
      try simp only [Act.put, List.setIfInBounds_toArray, List.set_cons_zero, List.set_cons_succ]
      refine AnyL.take (i := 6) (oi := { dst := some 24, op := Op.move (Operand.tmp 4), type := 3, pos := "ref.go:81", after := #[], guard := none }) (v := ?_) rfl (by decide) (by kernel_rfl) (by kernel_rfl) (by kernel_rfl) (by kernel_rfl) (fun _ _ _ h => h) (Or.inl ⟨by rfl, ?_⟩) (by assumption) ?_
      rotate_left
      · (intro w hSw; (try dsimp only at hSw); first | (go_simp; done) | (go_simp; with_reducible rfl))
      try simp only [Act.put, List.setIfInBounds_toArray, List.set_cons_zero, List.set_cons_succ]
      refine AnyL.take (i := 7) (oi := { dst := some 25, op := Op.slice 50 (Operand.tmp 23) none (some (Operand.tmp 24)) none, type := 50, pos := "ref.go:81", after := #[{ on := 5, ground := Ground.data }, { on := 6, ground := Ground.data }], guard := none }) (v := ?_) rfl (by decide) (by kernel_rfl) (by kernel_rfl) (by kernel_rfl) (by kernel_rfl) (fun _ _ _ h => h) (Or.inl ⟨by rfl, ?_⟩) (by assumption) ?_
      rotate_left
      · (intro w hSw; (try dsimp only at hSw); first | (go_simp; done) | (go_simp; with_reducible rfl))
      try simp only [Act.put, List.setIfInBounds_toArray, List.set_cons_zero, List.set_cons_succ]
      refine AnyL.take (i := 9) (oi := { dst := some 27, op := Op.load 64 (Operand.tmp 3), type := 64, pos := "ref.go:81", after := #[], guard := none }) (v := ?_) rfl (by decide) (by kernel_rfl) (by kernel_rfl) (by kernel_rfl) (by kernel_rfl) (fun _ _ _ h => h) (Or.inl ⟨by rfl, ?_⟩) (by assumption) ?_
      rotate_left
      · (intro w hSw; (try dsimp only at hSw); first | (go_simp; done) | (go_simp; with_reducible rfl))
      try simp only [Act.put, List.setIfInBounds_toArray, List.set_cons_zero, List.set_cons_succ]
      refine AnyL.take (i := 12) (oi := { dst := some 30, op := Op.move (Operand.tmp 0), type := 29, pos := "ref.go:81", after := #[], guard := none }) (v := ?_) rfl (by decide) (by kernel_rfl) (by kernel_rfl) (by kernel_rfl) (by kernel_rfl) (fun _ _ _ h => h) (Or.inl ⟨by rfl, ?_⟩) (by assumption) ?_
      rotate_left
      · (intro w hSw; (try dsimp only at hSw); first | (go_simp; done) | (go_simp; with_reducible rfl))
      try simp only [Act.put, List.setIfInBounds_toArray, List.set_cons_zero, List.set_cons_succ]
      refine AnyL.take (i := 13) (oi := { dst := some 31, op := Op.nilCheck (Operand.tmp 30), type := 0, pos := "ref.go:81", after := #[{ on := 12, ground := Ground.data }], guard := none }) (v := ?_) rfl (by decide) (by kernel_rfl) (by kernel_rfl) (by kernel_rfl) (by kernel_rfl) (fun _ _ _ h => h) (Or.inl ⟨by rfl, ?_⟩) (by assumption) ?_
      rotate_left
      · (intro w hSw; (try dsimp only at hSw); first | (go_simp; done) | (go_simp; with_reducible rfl))
      try simp only [Act.put, List.setIfInBounds_toArray, List.set_cons_zero, List.set_cons_succ]
      refine AnyL.take (i := 14) (oi := { dst := some 32, op := Op.fieldAddr 52 (Operand.tmp 31) 0, type := 0, pos := "ref.go:81", after := #[{ on := 13, ground := Ground.data }], guard := none }) (v := ?_) rfl (by decide) (by kernel_rfl) (by kernel_rfl) (by kernel_rfl) (by kernel_rfl) (fun _ _ _ h => h) (Or.inl ⟨by rfl, ?_⟩) (by assumption) ?_
      rotate_left
      · (intro w hSw; (try dsimp only at hSw); first | (go_simp; done) | (go_simp; with_reducible rfl))
      try simp only [Act.put, List.setIfInBounds_toArray, List.set_cons_zero, List.set_cons_succ]
      refine AnyL.take (i := 15) (oi := { dst := some 33, op := Op.load 50 (Operand.tmp 32), type := 50, pos := "ref.go:81", after := #[{ on := 14, ground := Ground.data }], guard := none }) (v := ?_) rfl (by decide) (by kernel_rfl) (by kernel_rfl) (by kernel_rfl) (by kernel_rfl) (fun _ _ _ h => h) (Or.inl ⟨by rfl, ?_⟩) (by assumption) ?_
      rotate_left
      · (intro w hSw; (try dsimp only at hSw); first | (go_simp; done) | (go_simp; with_reducible rfl))
      try simp only [Act.put, List.setIfInBounds_toArray, List.set_cons_zero, List.set_cons_succ]
      refine AnyL.take (i := 16) (oi := { dst := some 34, op := Op.move (Operand.tmp 6), type := 3, pos := "ref.go:81", after := #[], guard := none }) (v := ?_) rfl (by decide) (by kernel_rfl) (by kernel_rfl) (by kernel_rfl) (by kernel_rfl) (fun _ _ _ h => h) (Or.inl ⟨by rfl, ?_⟩) (by assumption) ?_
      rotate_left
      · (intro w hSw; (try dsimp only at hSw); first | (go_simp; done) | (go_simp; with_reducible rfl))
      try simp only [Act.put, List.setIfInBounds_toArray, List.set_cons_zero, List.set_cons_succ]
      refine AnyL.take (i := 17) (oi := { dst := some 35, op := Op.slice 50 (Operand.tmp 33) (some (Operand.tmp 34)) none none, type := 50, pos := "ref.go:81", after := #[{ on := 15, ground := Ground.data }, { on := 16, ground := Ground.data }], guard := none }) (v := ?_) rfl (by decide) (by kernel_rfl) (by kernel_rfl) (by kernel_rfl) (by kernel_rfl) (fun _ _ _ h => h) (Or.inl ⟨by rfl, ?_⟩) (by assumption) ?_
      rotate_left
      · (intro w hSw; (try dsimp only at hSw); first | (go_simp; done) | (go_simp; with_reducible rfl))
      try simp only [Act.put, List.setIfInBounds_toArray, List.set_cons_zero, List.set_cons_succ]
      clear hHeld
      refine AnyL.ready (rs := [1, 10]) (by kernel_rfl) (by simp) ?_
      refine (AllL.cons (o := { dst := some 19, op := Op.buildSlice 50 0 #[], type := 50, pos := "ref.go:81", after := #[], guard := none }) rfl (fun K hK => ?_) (AllL.cons (o := { dst := some 28, op := Op.buildSlice 50 1 #[(0, Operand.tmp 27)], type := 50, pos := "ref.go:81", after := #[{ on := 9, ground := Ground.data }], guard := none }) rfl (fun K hK => ?_) AllL.nil))
      · go_simp
        refine hK.out _ _ (fun _ => HS.out _ ((Bel.refl w1).drew.alloc _)) ?_
        clear hK K
        try simp only [Act.put, List.setIfInBounds_toArray, List.set_cons_zero, List.set_cons_succ]
        refine AnyL.ready (rs := [8, 10]) (by kernel_rfl) (by simp) ?_
        refine (AllL.cons (o := { dst := some 26, op := Op.call { callee := Callee.builtin Builtin.append, args := #[Operand.tmp 19, Operand.tmp 25], argTypes := #[50, 50] }, type := 50, pos := "ref.go:81", after := #[{ on := 1, ground := Ground.data }, { on := 7, ground := Ground.data }], guard := none }) rfl (fun K hK => ?_) (AllL.cons (o := { dst := some 28, op := Op.buildSlice 50 1 #[(0, Operand.tmp 27)], type := 50, pos := "ref.go:81", after := #[{ on := 9, ground := Ground.data }], guard := none }) rfl (fun K hK => ?_) AllL.nil))
        · refine step_append_seg (n := w1.heap.size) (v := .slice (some ⟨w1.heap.size, 0, none⟩) 0 0) fileOk rfl (.tmp 19) (.tmp 25) rfl rfl (ownG_none (heap_alloc_new w1.drew _) (Nat.le_refl _)) (M.L.take 0) rfl (LOW.out _ (((Bel.refl w1).drew.alloc _))) (LT1.out) (LT2.out) (Bel.size (((Bel.refl w1).drew.alloc _))) ?_
          intro v1 z1 ho1 hg1 hb1
          have hBz1 := Lib.hid (Bel.trans_below' (((Bel.refl w1).drew.alloc _)) hb1)
          have hOwn1 := Lib.hid (show OwnG fileEl w1.heap.size z1 v1 (M.L.take 0) from ho1)
          refine hK.out _ _ (fun _ => HS.out _ hBz1.out) ?_
          clear hK K ho1 hg1 hb1
          try simp only [Act.put, List.setIfInBounds_toArray, List.set_cons_zero, List.set_cons_succ]
          refine AnyL.ready (rs := [10]) (by kernel_rfl) (by simp) ?_
          refine (AllL.cons (o := { dst := some 28, op := Op.buildSlice 50 1 #[(0, Operand.tmp 27)], type := 50, pos := "ref.go:81", after := #[{ on := 9, ground := Ground.data }], guard := none }) rfl (fun K hK => ?_) AllL.nil)
          go_simp
          refine hK.out _ _ (fun _ => HS.out _ (hBz1.out.alloc _)) ?_
          clear hK K
          try simp only [Act.put, List.setIfInBounds_toArray, List.set_cons_zero, List.set_cons_succ]
          have hBz := Lib.hid (hBz1.out.alloc (.cells #[.string ⟨x.name.toArray⟩, .string ⟨x.bytes.toArray⟩, .int .i64 x.safe] 64))
          have hLit := Lib.hid (heap_alloc_new z1 (.cells #[.string ⟨x.name.toArray⟩, .string ⟨x.bytes.toArray⟩, .int .i64 x.safe] 64))
          replace hOwn1 := Lib.hid (hOwn1.out.alloc (.cells #[.string ⟨x.name.toArray⟩, .string ⟨x.bytes.toArray⟩, .int .i64 x.safe] 64))
          refine AnyL.ready (rs := [11]) (by kernel_rfl) (by simp) ?_
          refine (AllL.cons (o := { dst := some 29, op := Op.call { callee := Callee.builtin Builtin.append, args := #[Operand.tmp 26, Operand.tmp 28], argTypes := #[50, 50] }, type := 50, pos := "ref.go:81", after := #[{ on := 8, ground := Ground.data }, { on := 10, ground := Ground.data }, { on := 8, ground := Ground.chain }], guard := none }) rfl (fun K hK => ?_) AllL.nil)
          refine step_append_seg (n := w1.heap.size) fileOk rfl (.tmp 26) (.tmp 28) rfl rfl hOwn1.out [x] rfl (lit_src hLit.out) (LT3.out) (LT4.out) (Bel.size hBz.out) ?_
          intro v2 z2 ho2 hg2 hb2
          have hBz2 := Lib.hid (Bel.trans_below' hBz.out hb2)
          have hOwn2 := Lib.hid ho2
          refine hK.out _ _ (fun _ => HS.out _ hBz2.out) ?_
          clear hK K ho2 hg2 hb2
          try simp only [Act.put, List.setIfInBounds_toArray, List.set_cons_zero, List.set_cons_succ]
          refine AnyL.ready (rs := [18]) (by kernel_rfl) (by simp) ?_
          refine (AllL.cons (o := { dst := some 36, op := Op.call { callee := Callee.builtin Builtin.append, args := #[Operand.tmp 29, Operand.tmp 35], argTypes := #[50, 50] }, type := 50, pos := "ref.go:81", after := #[{ on := 11, ground := Ground.data }, { on := 17, ground := Ground.data }, { on := 11, ground := Ground.chain }], guard := none }) rfl (fun K hK => ?_) AllL.nil)
          refine step_append_seg (n := w1.heap.size) fileOk rfl (.tmp 29) (.tmp 35) rfl rfl hOwn2.out (M.L.drop kk) rfl (HIGH.out _ hBz2.out) (LT5.out) (LT6.out) (Bel.size hBz2.out) ?_
          intro v3 z3 ho3 hg3 hb3
          have hBz3 := Lib.hid (Bel.trans_below' hBz2.out hb3)
          obtain ⟨p3, c3, hv3⟩ := ownG_len ho3
          generalize (M.L.take 0 ++ [x] ++ M.L.drop kk).length = l3 at hv3
          subst hv3
          have hOwn3 := Lib.hid ho3
          refine hK.out _ _ (fun _ => HS.out _ hBz3.out) ?_
          clear hK K ho3 hg3 hb3
          try simp only [Act.put, List.setIfInBounds_toArray, List.set_cons_zero, List.set_cons_succ]
          refine AnyL.ready (rs := [19]) (by kernel_rfl) (by simp) ?_
          refine (AllL.cons (o := { dst := some 37, op := Op.nilCheck (Operand.tmp 18), type := 0, pos := "ref.go:81", after := #[{ on := 0, ground := Ground.data }, { on := 0, ground := Ground.phase }, { on := 1, ground := Ground.phase }, { on := 2, ground := Ground.phase }, { on := 3, ground := Ground.phase }, { on := 4, ground := Ground.phase }, { on := 5, ground := Ground.phase }, { on := 6, ground := Ground.phase }, { on := 7, ground := Ground.phase }, { on := 8, ground := Ground.phase }, { on := 9, ground := Ground.phase }, { on := 10, ground := Ground.phase }, { on := 11, ground := Ground.phase }, { on := 12, ground := Ground.phase }, { on := 13, ground := Ground.phase }, { on := 14, ground := Ground.phase }, { on := 15, ground := Ground.phase }, { on := 16, ground := Ground.phase }, { on := 17, ground := Ground.phase }, { on := 18, ground := Ground.phase }], guard := none }) rfl (fun K hK => ?_) AllL.nil)
          go_simp
          refine hK.out _ _ (fun _ => HS.out _ hBz3.out) ?_
          clear hK K
          try simp only [Act.put, List.setIfInBounds_toArray, List.set_cons_zero, List.set_cons_succ]
          refine AnyL.ready (rs := [20]) (by kernel_rfl) (by simp) ?_
          refine (AllL.cons (o := { dst := some 38, op := Op.fieldAddr 52 (Operand.tmp 37) 0, type := 0, pos := "ref.go:81", after := #[{ on := 19, ground := Ground.data }, { on := 0, ground := Ground.phase }, { on := 1, ground := Ground.phase }, { on := 2, ground := Ground.phase }, { on := 3, ground := Ground.phase }, { on := 4, ground := Ground.phase }, { on := 5, ground := Ground.phase }, { on := 6, ground := Ground.phase }, { on := 7, ground := Ground.phase }, { on := 8, ground := Ground.phase }, { on := 9, ground := Ground.phase }, { on := 10, ground := Ground.phase }, { on := 11, ground := Ground.phase }, { on := 12, ground := Ground.phase }, { on := 13, ground := Ground.phase }, { on := 14, ground := Ground.phase }, { on := 15, ground := Ground.phase }, { on := 16, ground := Ground.phase }, { on := 17, ground := Ground.phase }, { on := 18, ground := Ground.phase }], guard := none }) rfl (fun K hK => ?_) AllL.nil)
          go_simp
          refine hK.out _ _ (fun _ => HS.out _ hBz3.out) ?_
          clear hK K
          try simp only [Act.put, List.setIfInBounds_toArray, List.set_cons_zero, List.set_cons_succ]
          refine AnyL.ready (rs := [21]) (by kernel_rfl) (by simp) ?_
          refine (AllL.cons (o := { dst := none, op := Op.store 50 (Operand.tmp 38) (Operand.tmp 36), type := 0, pos := "ref.go:81", after := #[{ on := 20, ground := Ground.data }, { on := 18, ground := Ground.data }, { on := 18, ground := Ground.chain }, { on := 0, ground := Ground.phase }, { on := 1, ground := Ground.phase }, { on := 2, ground := Ground.phase }, { on := 3, ground := Ground.phase }, { on := 4, ground := Ground.phase }, { on := 5, ground := Ground.phase }, { on := 6, ground := Ground.phase }, { on := 7, ground := Ground.phase }, { on := 8, ground := Ground.phase }, { on := 9, ground := Ground.phase }, { on := 10, ground := Ground.phase }, { on := 11, ground := Ground.phase }, { on := 12, ground := Ground.phase }, { on := 13, ground := Ground.phase }, { on := 14, ground := Ground.phase }, { on := 15, ground := Ground.phase }, { on := 16, ground := Ground.phase }, { on := 17, ground := Ground.phase }, { on := 18, ground := Ground.phase }], guard := none }) rfl (fun K hK => ?_) AllL.nil)
          obtain ⟨s0, -, -, -, s4, -⟩ := HS.out _ hBz3.out
          go_simp
          refine hK.out _ _ (fun h => absurd rfl h) ?_
          clear hK K s0 s4
          try simp only [Act.put, List.setIfInBounds_toArray, List.set_cons_zero, List.set_cons_succ]
          refine AnyL.done (by kernel_rfl) ?_ _
          go_wp2_with (fail)
          go_end0
          have hpf := (HR1.out.bel hBz3.out).put_files (hOwn3.out.low (Nat.le_trans hn (Nat.le_of_lt hz1)))
          rw [HI2.out]
          exact ⟨⟨_, rfl⟩, _, hpf, fun k hk => Nat.le_trans HB.out.size (hOwn3.out.lt k hk).1, ((Keep.of_bel (HB.out.trans hBz3.out) [b]).setCell (p := ⟨b, 0, none⟩) (Or.inl (by simp)) _)⟩
        · go_simp
          refine hK.out _ _ (fun _ => HS.out _ (((Bel.refl w1).drew.alloc _).alloc _)) ?_
          clear hK K
          try simp only [Act.put, List.setIfInBounds_toArray, List.set_cons_zero, List.set_cons_succ]
          refine AnyL.ready (rs := [8]) (by kernel_rfl) (by simp) ?_
          refine (AllL.cons (o := { dst := some 26, op := Op.call { callee := Callee.builtin Builtin.append, args := #[Operand.tmp 19, Operand.tmp 25], argTypes := #[50, 50] }, type := 50, pos := "ref.go:81", after := #[{ on := 1, ground := Ground.data }, { on := 7, ground := Ground.data }], guard := none }) rfl (fun K hK => ?_) AllL.nil)
          refine step_append_seg (n := w1.heap.size) (v := .slice (some ⟨w1.heap.size, 0, none⟩) 0 0) fileOk rfl (.tmp 19) (.tmp 25) rfl rfl ((ownG_none (heap_alloc_new w1.drew _) (Nat.le_refl _)).alloc _) (M.L.take 0) rfl (LOW.out _ ((((Bel.refl w1).drew.alloc _).alloc _))) (LT1.out) (LT2.out) (Bel.size ((((Bel.refl w1).drew.alloc _).alloc _))) ?_
          intro v1 z1 ho1 hg1 hb1
          have hBz1 := Lib.hid (Bel.trans_below' ((((Bel.refl w1).drew.alloc _).alloc _)) hb1)
          have hOwn1 := Lib.hid (show OwnG fileEl w1.heap.size z1 v1 (M.L.take 0) from ho1)
          have hLit := Lib.hid (show z1.heap[w1.heap.size + 1]? = some (.cells #[.string ⟨x.name.toArray⟩, .string ⟨x.bytes.toArray⟩, .int .i64 x.safe] 64) from at_grown hg1 (at_new (by simp)) (by simp [Value.ownBlock]))
          refine hK.out _ _ (fun _ => HS.out _ hBz1.out) ?_
          clear hK K ho1 hg1 hb1
          try simp only [Act.put, List.setIfInBounds_toArray, List.set_cons_zero, List.set_cons_succ]
          have hBz := Lib.hid hBz1.out
          refine AnyL.ready (rs := [11]) (by kernel_rfl) (by simp) ?_
          refine (AllL.cons (o := { dst := some 29, op := Op.call { callee := Callee.builtin Builtin.append, args := #[Operand.tmp 26, Operand.tmp 28], argTypes := #[50, 50] }, type := 50, pos := "ref.go:81", after := #[{ on := 8, ground := Ground.data }, { on := 10, ground := Ground.data }, { on := 8, ground := Ground.chain }], guard := none }) rfl (fun K hK => ?_) AllL.nil)
          refine step_append_seg (n := w1.heap.size) fileOk rfl (.tmp 26) (.tmp 28) rfl rfl hOwn1.out [x] rfl (lit_src hLit.out) (LT3.out) (LT4.out) (Bel.size hBz.out) ?_
          intro v2 z2 ho2 hg2 hb2
          have hBz2 := Lib.hid (Bel.trans_below' hBz.out hb2)
          have hOwn2 := Lib.hid ho2
          refine hK.out _ _ (fun _ => HS.out _ hBz2.out) ?_
          clear hK K ho2 hg2 hb2
          try simp only [Act.put, List.setIfInBounds_toArray, List.set_cons_zero, List.set_cons_succ]
          refine AnyL.ready (rs := [18]) (by kernel_rfl) (by simp) ?_
          refine (AllL.cons (o := { dst := some 36, op := Op.call { callee := Callee.builtin Builtin.append, args := #[Operand.tmp 29, Operand.tmp 35], argTypes := #[50, 50] }, type := 50, pos := "ref.go:81", after := #[{ on := 11, ground := Ground.data }, { on := 17, ground := Ground.data }, { on := 11, ground := Ground.chain }], guard := none }) rfl (fun K hK => ?_) AllL.nil)
          refine step_append_seg (n := w1.heap.size) fileOk rfl (.tmp 29) (.tmp 35) rfl rfl hOwn2.out (M.L.drop kk) rfl (HIGH.out _ hBz2.out) (LT5.out) (LT6.out) (Bel.size hBz2.out) ?_
          intro v3 z3 ho3 hg3 hb3
          have hBz3 := Lib.hid (Bel.trans_below' hBz2.out hb3)
          obtain ⟨p3, c3, hv3⟩ := ownG_len ho3
          generalize (M.L.take 0 ++ [x] ++ M.L.drop kk).length = l3 at hv3
          subst hv3
          have hOwn3 := Lib.hid ho3
          refine hK.out _ _ (fun _ => HS.out _ hBz3.out) ?_
          clear hK K ho3 hg3 hb3
          try simp only [Act.put, List.setIfInBounds_toArray, List.set_cons_zero, List.set_cons_succ]
          refine AnyL.ready (rs := [19]) (by kernel_rfl) (by simp) ?_
          refine (AllL.cons (o := { dst := some 37, op := Op.nilCheck (Operand.tmp 18), type := 0, pos := "ref.go:81", after := #[{ on := 0, ground := Ground.data }, { on := 0, ground := Ground.phase }, { on := 1, ground := Ground.phase }, { on := 2, ground := Ground.phase }, { on := 3, ground := Ground.phase }, { on := 4, ground := Ground.phase }, { on := 5, ground := Ground.phase }, { on := 6, ground := Ground.phase }, { on := 7, ground := Ground.phase }, { on := 8, ground := Ground.phase }, { on := 9, ground := Ground.phase }, { on := 10, ground := Ground.phase }, { on := 11, ground := Ground.phase }, { on := 12, ground := Ground.phase }, { on := 13, ground := Ground.phase }, { on := 14, ground := Ground.phase }, { on := 15, ground := Ground.phase }, { on := 16, ground := Ground.phase }, { on := 17, ground := Ground.phase }, { on := 18, ground := Ground.phase }], guard := none }) rfl (fun K hK => ?_) AllL.nil)
          go_simp
          refine hK.out _ _ (fun _ => HS.out _ hBz3.out) ?_
          clear hK K
          try simp only [Act.put, List.setIfInBounds_toArray, List.set_cons_zero, List.set_cons_succ]
          refine AnyL.ready (rs := [20]) (by kernel_rfl) (by simp) ?_
          refine (AllL.cons (o := { dst := some 38, op := Op.fieldAddr 52 (Operand.tmp 37) 0, type := 0, pos := "ref.go:81", after := #[{ on := 19, ground := Ground.data }, { on := 0, ground := Ground.phase }, { on := 1, ground := Ground.phase }, { on := 2, ground := Ground.phase }, { on := 3, ground := Ground.phase }, { on := 4, ground := Ground.phase }, { on := 5, ground := Ground.phase }, { on := 6, ground := Ground.phase }, { on := 7, ground := Ground.phase }, { on := 8, ground := Ground.phase }, { on := 9, ground := Ground.phase }, { on := 10, ground := Ground.phase }, { on := 11, ground := Ground.phase }, { on := 12, ground := Ground.phase }, { on := 13, ground := Ground.phase }, { on := 14, ground := Ground.phase }, { on := 15, ground := Ground.phase }, { on := 16, ground := Ground.phase }, { on := 17, ground := Ground.phase }, { on := 18, ground := Ground.phase }], guard := none }) rfl (fun K hK => ?_) AllL.nil)
          go_simp
          refine hK.out _ _ (fun _ => HS.out _ hBz3.out) ?_
          clear hK K
          try simp only [Act.put, List.setIfInBounds_toArray, List.set_cons_zero, List.set_cons_succ]
          refine AnyL.ready (rs := [21]) (by kernel_rfl) (by simp) ?_
          refine (AllL.cons (o := { dst := none, op := Op.store 50 (Operand.tmp 38) (Operand.tmp 36), type := 0, pos := "ref.go:81", after := #[{ on := 20, ground := Ground.data }, { on := 18, ground := Ground.data }, { on := 18, ground := Ground.chain }, { on := 0, ground := Ground.phase }, { on := 1, ground := Ground.phase }, { on := 2, ground := Ground.phase }, { on := 3, ground := Ground.phase }, { on := 4, ground := Ground.phase }, { on := 5, ground := Ground.phase }, { on := 6, ground := Ground.phase }, { on := 7, ground := Ground.phase }, { on := 8, ground := Ground.phase }, { on := 9, ground := Ground.phase }, { on := 10, ground := Ground.phase }, { on := 11, ground := Ground.phase }, { on := 12, ground := Ground.phase }, { on := 13, ground := Ground.phase }, { on := 14, ground := Ground.phase }, { on := 15, ground := Ground.phase }, { on := 16, ground := Ground.phase }, { on := 17, ground := Ground.phase }, { on := 18, ground := Ground.phase }], guard := none }) rfl (fun K hK => ?_) AllL.nil)
          obtain ⟨s0, -, -, -, s4, -⟩ := HS.out _ hBz3.out
          go_simp
          refine hK.out _ _ (fun h => absurd rfl h) ?_
          clear hK K s0 s4
          try simp only [Act.put, List.setIfInBounds_toArray, List.set_cons_zero, List.set_cons_succ]
          refine AnyL.done (by kernel_rfl) ?_ _
          go_wp2_with (fail)
          go_end0
          have hpf := (HR1.out.bel hBz3.out).put_files (hOwn3.out.low (Nat.le_trans hn (Nat.le_of_lt hz1)))
          rw [HI2.out]
          exact ⟨⟨_, rfl⟩, _, hpf, fun k hk => Nat.le_trans HB.out.size (hOwn3.out.lt k hk).1, ((Keep.of_bel (HB.out.trans hBz3.out) [b]).setCell (p := ⟨b, 0, none⟩) (Or.inl (by simp)) _)⟩
      · go_simp
        refine hK.out _ _ (fun _ => HS.out _ ((Bel.refl w1).drew.alloc _)) ?_
        clear hK K
        try simp only [Act.put, List.setIfInBounds_toArray, List.set_cons_zero, List.set_cons_succ]
        refine AnyL.ready (rs := [1]) (by kernel_rfl) (by simp) ?_
        refine (AllL.cons (o := { dst := some 19, op := Op.buildSlice 50 0 #[], type := 50, pos := "ref.go:81", after := #[], guard := none }) rfl (fun K hK => ?_) AllL.nil)
        go_simp
        refine hK.out _ _ (fun _ => HS.out _ (((Bel.refl w1).drew.alloc _).alloc _)) ?_
        clear hK K
        try simp only [Act.put, List.setIfInBounds_toArray, List.set_cons_zero, List.set_cons_succ]
        refine AnyL.ready (rs := [8]) (by kernel_rfl) (by simp) ?_
        refine (AllL.cons (o := { dst := some 26, op := Op.call { callee := Callee.builtin Builtin.append, args := #[Operand.tmp 19, Operand.tmp 25], argTypes := #[50, 50] }, type := 50, pos := "ref.go:81", after := #[{ on := 1, ground := Ground.data }, { on := 7, ground := Ground.data }], guard := none }) rfl (fun K hK => ?_) AllL.nil)
        refine step_append_seg (n := w1.heap.size) (v := .slice (some ⟨w1.heap.size + 1, 0, none⟩) 0 0) fileOk rfl (.tmp 19) (.tmp 25) rfl rfl (ownG_none (n := w1.heap.size) (at_new (by simp)) (by simp)) (M.L.take 0) rfl (LOW.out _ ((((Bel.refl w1).drew.alloc _).alloc _))) (LT1.out) (LT2.out) (Bel.size ((((Bel.refl w1).drew.alloc _).alloc _))) ?_
        intro v1 z1 ho1 hg1 hb1
        have hBz1 := Lib.hid (Bel.trans_below' ((((Bel.refl w1).drew.alloc _).alloc _)) hb1)
        have hOwn1 := Lib.hid (show OwnG fileEl w1.heap.size z1 v1 (M.L.take 0) from ho1)
        have hLit := Lib.hid (show z1.heap[w1.heap.size]? = some (.cells #[.string ⟨x.name.toArray⟩, .string ⟨x.bytes.toArray⟩, .int .i64 x.safe] 64) from at_grown hg1 (at_old (at_new (by simp))) (by simp [Value.ownBlock]))
        refine hK.out _ _ (fun _ => HS.out _ hBz1.out) ?_
        clear hK K ho1 hg1 hb1
        try simp only [Act.put, List.setIfInBounds_toArray, List.set_cons_zero, List.set_cons_succ]
        have hBz := Lib.hid hBz1.out
        refine AnyL.ready (rs := [11]) (by kernel_rfl) (by simp) ?_
        refine (AllL.cons (o := { dst := some 29, op := Op.call { callee := Callee.builtin Builtin.append, args := #[Operand.tmp 26, Operand.tmp 28], argTypes := #[50, 50] }, type := 50, pos := "ref.go:81", after := #[{ on := 8, ground := Ground.data }, { on := 10, ground := Ground.data }, { on := 8, ground := Ground.chain }], guard := none }) rfl (fun K hK => ?_) AllL.nil)
        refine step_append_seg (n := w1.heap.size) fileOk rfl (.tmp 26) (.tmp 28) rfl rfl hOwn1.out [x] rfl (lit_src hLit.out) (LT3.out) (LT4.out) (Bel.size hBz.out) ?_
        intro v2 z2 ho2 hg2 hb2
        have hBz2 := Lib.hid (Bel.trans_below' hBz.out hb2)
        have hOwn2 := Lib.hid ho2
        refine hK.out _ _ (fun _ => HS.out _ hBz2.out) ?_
        clear hK K ho2 hg2 hb2
        try simp only [Act.put, List.setIfInBounds_toArray, List.set_cons_zero, List.set_cons_succ]
        refine AnyL.ready (rs := [18]) (by kernel_rfl) (by simp) ?_
        refine (AllL.cons (o := { dst := some 36, op := Op.call { callee := Callee.builtin Builtin.append, args := #[Operand.tmp 29, Operand.tmp 35], argTypes := #[50, 50] }, type := 50, pos := "ref.go:81", after := #[{ on := 11, ground := Ground.data }, { on := 17, ground := Ground.data }, { on := 11, ground := Ground.chain }], guard := none }) rfl (fun K hK => ?_) AllL.nil)
        refine step_append_seg (n := w1.heap.size) fileOk rfl (.tmp 29) (.tmp 35) rfl rfl hOwn2.out (M.L.drop kk) rfl (HIGH.out _ hBz2.out) (LT5.out) (LT6.out) (Bel.size hBz2.out) ?_
        intro v3 z3 ho3 hg3 hb3
        have hBz3 := Lib.hid (Bel.trans_below' hBz2.out hb3)
        obtain ⟨p3, c3, hv3⟩ := ownG_len ho3
        generalize (M.L.take 0 ++ [x] ++ M.L.drop kk).length = l3 at hv3
        subst hv3
        have hOwn3 := Lib.hid ho3
        refine hK.out _ _ (fun _ => HS.out _ hBz3.out) ?_
        clear hK K ho3 hg3 hb3
        try simp only [Act.put, List.setIfInBounds_toArray, List.set_cons_zero, List.set_cons_succ]
        refine AnyL.ready (rs := [19]) (by kernel_rfl) (by simp) ?_
        refine (AllL.cons (o := { dst := some 37, op := Op.nilCheck (Operand.tmp 18), type := 0, pos := "ref.go:81", after := #[{ on := 0, ground := Ground.data }, { on := 0, ground := Ground.phase }, { on := 1, ground := Ground.phase }, { on := 2, ground := Ground.phase }, { on := 3, ground := Ground.phase }, { on := 4, ground := Ground.phase }, { on := 5, ground := Ground.phase }, { on := 6, ground := Ground.phase }, { on := 7, ground := Ground.phase }, { on := 8, ground := Ground.phase }, { on := 9, ground := Ground.phase }, { on := 10, ground := Ground.phase }, { on := 11, ground := Ground.phase }, { on := 12, ground := Ground.phase }, { on := 13, ground := Ground.phase }, { on := 14, ground := Ground.phase }, { on := 15, ground := Ground.phase }, { on := 16, ground := Ground.phase }, { on := 17, ground := Ground.phase }, { on := 18, ground := Ground.phase }], guard := none }) rfl (fun K hK => ?_) AllL.nil)
        go_simp
        refine hK.out _ _ (fun _ => HS.out _ hBz3.out) ?_
        clear hK K
        try simp only [Act.put, List.setIfInBounds_toArray, List.set_cons_zero, List.set_cons_succ]
        refine AnyL.ready (rs := [20]) (by kernel_rfl) (by simp) ?_
        refine (AllL.cons (o := { dst := some 38, op := Op.fieldAddr 52 (Operand.tmp 37) 0, type := 0, pos := "ref.go:81", after := #[{ on := 19, ground := Ground.data }, { on := 0, ground := Ground.phase }, { on := 1, ground := Ground.phase }, { on := 2, ground := Ground.phase }, { on := 3, ground := Ground.phase }, { on := 4, ground := Ground.phase }, { on := 5, ground := Ground.phase }, { on := 6, ground := Ground.phase }, { on := 7, ground := Ground.phase }, { on := 8, ground := Ground.phase }, { on := 9, ground := Ground.phase }, { on := 10, ground := Ground.phase }, { on := 11, ground := Ground.phase }, { on := 12, ground := Ground.phase }, { on := 13, ground := Ground.phase }, { on := 14, ground := Ground.phase }, { on := 15, ground := Ground.phase }, { on := 16, ground := Ground.phase }, { on := 17, ground := Ground.phase }, { on := 18, ground := Ground.phase }], guard := none }) rfl (fun K hK => ?_) AllL.nil)
        go_simp
        refine hK.out _ _ (fun _ => HS.out _ hBz3.out) ?_
        clear hK K
        try simp only [Act.put, List.setIfInBounds_toArray, List.set_cons_zero, List.set_cons_succ]
        refine AnyL.ready (rs := [21]) (by kernel_rfl) (by simp) ?_
        refine (AllL.cons (o := { dst := none, op := Op.store 50 (Operand.tmp 38) (Operand.tmp 36), type := 0, pos := "ref.go:81", after := #[{ on := 20, ground := Ground.data }, { on := 18, ground := Ground.data }, { on := 18, ground := Ground.chain }, { on := 0, ground := Ground.phase }, { on := 1, ground := Ground.phase }, { on := 2, ground := Ground.phase }, { on := 3, ground := Ground.phase }, { on := 4, ground := Ground.phase }, { on := 5, ground := Ground.phase }, { on := 6, ground := Ground.phase }, { on := 7, ground := Ground.phase }, { on := 8, ground := Ground.phase }, { on := 9, ground := Ground.phase }, { on := 10, ground := Ground.phase }, { on := 11, ground := Ground.phase }, { on := 12, ground := Ground.phase }, { on := 13, ground := Ground.phase }, { on := 14, ground := Ground.phase }, { on := 15, ground := Ground.phase }, { on := 16, ground := Ground.phase }, { on := 17, ground := Ground.phase }, { on := 18, ground := Ground.phase }], guard := none }) rfl (fun K hK => ?_) AllL.nil)
        obtain ⟨s0, -, -, -, s4, -⟩ := HS.out _ hBz3.out
        go_simp
        refine hK.out _ _ (fun h => absurd rfl h) ?_
        clear hK K s0 s4
        try simp only [Act.put, List.setIfInBounds_toArray, List.set_cons_zero, List.set_cons_succ]
        refine AnyL.done (by kernel_rfl) ?_ _
        go_wp2_with (fail)
        go_end0
        have hpf := (HR1.out.bel hBz3.out).put_files (hOwn3.out.low (Nat.le_trans hn (Nat.le_of_lt hz1)))
        rw [HI2.out]
        exact ⟨⟨_, rfl⟩, _, hpf, fun k hk => Nat.le_trans HB.out.size (hOwn3.out.lt k hk).1, ((Keep.of_bel (HB.out.trans hBz3.out) [b]).setCell (p := ⟨b, 0, none⟩) (Or.inl (by simp)) _)⟩

    rw [← HN.out] at HR1 c0 hc
    clear hh
    unfold maxLen at hx
    have hfc : fn ≤ cap := by omega
    have LOW := Lib.hid (fun y (hy : Bel w1 y) => src_low (y := y) (L := M.L) HR1.out.own hy fn (by rw [← HN.out]; omega))
    have HI2 := Lib.hid (show insS x M.L = M.L.take fn ++ [x] ++ M.L.drop kk by rw [HI.out, hkk]; simp)
    have LTK := Lib.hid (show (M.L.take fn).length ≤ 100 by rw [List.length_take]; have := HN.out; omega)
    have LDK := Lib.hid (show (M.L.drop kk).length ≤ 100 by rw [List.length_drop]; have := HN.out; omega)
    have LT1 := Lib.hid (show ([] : List FI).length + (M.L.take fn).length ≤ maxLen by have := LTK.out; unfold maxLen; simp only [List.length_nil]; omega)
    have LT2 := Lib.hid (show (([] : List FI).length + (M.L.take fn).length) * 40 ≤ 140737488355328 by have := LTK.out; simp only [List.length_nil]; omega)
    have LT3 := Lib.hid (show (M.L.take fn).length + [x].length ≤ maxLen by have := LTK.out; unfold maxLen; simp only [List.length_singleton]; omega)
    have LT4 := Lib.hid (show ((M.L.take fn).length + [x].length) * 40 ≤ 140737488355328 by have := LTK.out; simp only [List.length_singleton]; omega)
    have LT5 := Lib.hid (show (M.L.take fn ++ [x]).length + (M.L.drop kk).length ≤ maxLen by have := LTK.out; have := LDK.out; unfold maxLen; simp only [List.length_append, List.length_singleton]; omega)
    have LT6 := Lib.hid (show ((M.L.take fn ++ [x]).length + (M.L.drop kk).length) * 40 ≤ 140737488355328 by have := LTK.out; have := LDK.out; simp only [List.length_append, List.length_singleton]; omega)
    by_cases hcf : cap = fn
    · obtain rfl : fn = n := by omega
      obtain rfl : fn = cap := hcf.symm
      have HIGH := Lib.hid (fun y (hy : Bel w1 y) => (show SrcAt fileEl y (.slice (some ⟨g, 0, none⟩) 0 0) (M.L.drop kk) from src_end kk (by rw [hkk, ← HN.out]; exact Nat.le_refl _)))
      clear hkk
      have HS := Lib.hid (show ∀ y, Bel w1 y → (y.cell? ⟨b, 0, none⟩ = some (.slice (some ⟨g, 0, none⟩) fn fn) ∧ y.cell? ⟨bx, 0, none⟩ = some (.string ⟨x.name.toArray⟩) ∧ y.cell? ⟨bx, 1, none⟩ = some (.string ⟨x.bytes.toArray⟩) ∧ y.cell? ⟨bx, 2, none⟩ = some (.int .i64 x.safe) ∧ y.frozen? ⟨b, 0, none⟩ = false ∧ Bel w1 y) from fun y hy => ⟨cell_later hy c0, cell_later hy x0, cell_later hy x1, cell_later hy x2, (hy.frozen _ _ hbl).trans f0, hy⟩)
      go_wp2_with (fail)
      refine region_L 21 (S := fun y => y.cell? ⟨b, 0, none⟩ = some (.slice (some ⟨g, 0, none⟩) fn fn) ∧ y.cell? ⟨bx, 0, none⟩ = some (.string ⟨x.name.toArray⟩) ∧ y.cell? ⟨bx, 1, none⟩ = some (.string ⟨x.bytes.toArray⟩) ∧ y.cell? ⟨bx, 2, none⟩ = some (.int .i64 x.safe) ∧ y.frozen? ⟨b, 0, none⟩ = false ∧ Bel w1 y) (by kernel_rfl) (HS.out _ (Bel.refl w1).drew) (fun hHeld => ?_)
      refine AnyL.take (i := 0) (oi := { dst := some 18, op := Op.move (Operand.tmp 0), type := 29, pos := "ref.go:81", after := #[], guard := none }) (v := ?_) rfl (by decide) (by kernel_rfl) (by kernel_rfl) (by kernel_rfl) (by kernel_rfl) (fun _ _ _ h => h) (Or.inl ⟨by rfl, ?_⟩) (by assumption) ?_
      rotate_left
      · (intro w hSw; (try dsimp only at hSw); first | (go_simp; done) | (go_simp; with_reducible rfl))
      try simp only [Act.put, List.setIfInBounds_toArray, List.set_cons_zero, List.set_cons_succ]
      refine AnyL.take (i := 2) (oi := { dst := some 20, op := Op.move (Operand.tmp 0), type := 29, pos := "ref.go:81", after := #[], guard := none }) (v := ?_) rfl (by decide) (by kernel_rfl) (by kernel_rfl) (by kernel_rfl) (by kernel_rfl) (fun _ _ _ h => h) (Or.inl ⟨by rfl, ?_⟩) (by assumption) ?_
      rotate_left
      · (intro w hSw; (try dsimp only at hSw); first | (go_simp; done) | (go_simp; with_reducible rfl))
      try simp only [Act.put, List.setIfInBounds_toArray, List.set_cons_zero, List.set_cons_succ]
      refine AnyL.take (i := 3) (oi := { dst := some 21, op := Op.nilCheck (Operand.tmp 20), type := 0, pos := "ref.go:81", after := #[{ on := 2, ground := Ground.data }], guard := none }) (v := ?_) rfl (by decide) (by kernel_rfl) (by kernel_rfl) (by kernel_rfl) (by kernel_rfl) (fun _ _ _ h => h) (Or.inl ⟨by rfl, ?_⟩) (by assumption) ?_
      rotate_left
      · (intro w hSw; (try dsimp only at hSw); first | (go_simp; done) | (go_simp; with_reducible rfl))
      try simp only [Act.put, List.setIfInBounds_toArray, List.set_cons_zero, List.set_cons_succ]
      refine AnyL.take (i := 4) (oi := { dst := some 22, op := Op.fieldAddr 52 (Operand.tmp 21) 0, type := 0, pos := "ref.go:81", after := #[{ on := 3, ground := Ground.data }], guard := none }) (v := ?_) rfl (by decide) (by kernel_rfl) (by kernel_rfl) (by kernel_rfl) (by kernel_rfl) (fun _ _ _ h => h) (Or.inl ⟨by rfl, ?_⟩) (by assumption) ?_
      rotate_left
      · (intro w hSw; (try dsimp only at hSw); first | (go_simp; done) | (go_simp; with_reducible rfl))
      try simp only [Act.put, List.setIfInBounds_toArray, List.set_cons_zero, List.set_cons_succ]
      refine AnyL.take (i := 5) (oi := { dst := some 23, op := Op.load 50 (Operand.tmp 22), type := 50, pos := "ref.go:81", after := #[{ on := 4, ground := Ground.data }], guard := none }) (v := ?_) rfl (by decide) (by kernel_rfl) (by kernel_rfl) (by kernel_rfl) (by kernel_rfl) (fun _ _ _ h => h) (Or.inl ⟨by rfl, ?_⟩) (by assumption) ?_
      rotate_left
      · (intro w hSw; (try dsimp only at hSw); first | (go_simp; done) | (go_simp; with_reducible rfl))
      try simp only [Act.put, List.setIfInBounds_toArray, List.set_cons_zero, List.set_cons_succ]
      refine AnyL.take (i := 6) (oi := { dst := some 24, op := Op.move (Operand.tmp 4), type := 3, pos := "ref.go:81", after := #[], guard := none }) (v := ?_) rfl (by decide) (by kernel_rfl) (by kernel_rfl) (by kernel_rfl) (by kernel_rfl) (fun _ _ _ h => h) (Or.inl ⟨by rfl, ?_⟩) (by assumption) ?_
      rotate_left
      · (intro w hSw; (try dsimp only at hSw); first | (go_simp; done) | (go_simp; with_reducible rfl))
      try simp only [Act.put, List.setIfInBounds_toArray, List.set_cons_zero, List.set_cons_succ]
      refine AnyL.take (i := 7) (oi := { dst := some 25, op := Op.slice 50 (Operand.tmp 23) none (some (Operand.tmp 24)) none, type := 50, pos := "ref.go:81", after := #[{ on := 5, ground := Ground.data }, { on := 6, ground := Ground.data }], guard := none }) (v := ?_) rfl (by decide) (by kernel_rfl) (by kernel_rfl) (by kernel_rfl) (by kernel_rfl) (fun _ _ _ h => h) (Or.inl ⟨by rfl, ?_⟩) (by assumption) ?_
      rotate_left
      · (intro w hSw; (try dsimp only at hSw); first | (go_simp; done) | (go_simp; with_reducible rfl))
      try simp only [Act.put, List.setIfInBounds_toArray, List.set_cons_zero, List.set_cons_succ]
      refine AnyL.take (i := 9) (oi := { dst := some 27, op := Op.load 64 (Operand.tmp 3), type := 64, pos := "ref.go:81", after := #[], guard := none }) (v := ?_) rfl (by decide) (by kernel_rfl) (by kernel_rfl) (by kernel_rfl) (by kernel_rfl) (fun _ _ _ h => h) (Or.inl ⟨by rfl, ?_⟩) (by assumption) ?_
      rotate_left
      · (intro w hSw; (try dsimp only at hSw); first | (go_simp; done) | (go_simp; with_reducible rfl))
      try simp only [Act.put, List.setIfInBounds_toArray, List.set_cons_zero, List.set_cons_succ]
      refine AnyL.take (i := 12) (oi := { dst := some 30, op := Op.move (Operand.tmp 0), type := 29, pos := "ref.go:81", after := #[], guard := none }) (v := ?_) rfl (by decide) (by kernel_rfl) (by kernel_rfl) (by kernel_rfl) (by kernel_rfl) (fun _ _ _ h => h) (Or.inl ⟨by rfl, ?_⟩) (by assumption) ?_
      rotate_left
      · (intro w hSw; (try dsimp only at hSw); first | (go_simp; done) | (go_simp; with_reducible rfl))
      try simp only [Act.put, List.setIfInBounds_toArray, List.set_cons_zero, List.set_cons_succ]
      refine AnyL.take (i := 13) (oi := { dst := some 31, op := Op.nilCheck (Operand.tmp 30), type := 0, pos := "ref.go:81", after := #[{ on := 12, ground := Ground.data }], guard := none }) (v := ?_) rfl (by decide) (by kernel_rfl) (by kernel_rfl) (by kernel_rfl) (by kernel_rfl) (fun _ _ _ h => h) (Or.inl ⟨by rfl, ?_⟩) (by assumption) ?_
      rotate_left
      · (intro w hSw; (try dsimp only at hSw); first | (go_simp; done) | (go_simp; with_reducible rfl))
      try simp only [Act.put, List.setIfInBounds_toArray, List.set_cons_zero, List.set_cons_succ]
      refine AnyL.take (i := 14) (oi := { dst := some 32, op := Op.fieldAddr 52 (Operand.tmp 31) 0, type := 0, pos := "ref.go:81", after := #[{ on := 13, ground := Ground.data }], guard := none }) (v := ?_) rfl (by decide) (by kernel_rfl) (by kernel_rfl) (by kernel_rfl) (by kernel_rfl) (fun _ _ _ h => h) (Or.inl ⟨by rfl, ?_⟩) (by assumption) ?_
      rotate_left
      · (intro w hSw; (try dsimp only at hSw); first | (go_simp; done) | (go_simp; with_reducible rfl))
      try simp only [Act.put, List.setIfInBounds_toArray, List.set_cons_zero, List.set_cons_succ]
      refine AnyL.take (i := 15) (oi := { dst := some 33, op := Op.load 50 (Operand.tmp 32), type := 50, pos := "ref.go:81", after := #[{ on := 14, ground := Ground.data }], guard := none }) (v := ?_) rfl (by decide) (by kernel_rfl) (by kernel_rfl) (by kernel_rfl) (by kernel_rfl) (fun _ _ _ h => h) (Or.inl ⟨by rfl, ?_⟩) (by assumption) ?_
      rotate_left
      · (intro w hSw; (try dsimp only at hSw); first | (go_simp; done) | (go_simp; with_reducible rfl))
      try simp only [Act.put, List.setIfInBounds_toArray, List.set_cons_zero, List.set_cons_succ]
      refine AnyL.take (i := 16) (oi := { dst := some 34, op := Op.move (Operand.tmp 6), type := 3, pos := "ref.go:81", after := #[], guard := none }) (v := ?_) rfl (by decide) (by kernel_rfl) (by kernel_rfl) (by kernel_rfl) (by kernel_rfl) (fun _ _ _ h => h) (Or.inl ⟨by rfl, ?_⟩) (by assumption) ?_
      rotate_left
      · (intro w hSw; (try dsimp only at hSw); first | (go_simp; done) | (go_simp; with_reducible rfl))
      try simp only [Act.put, List.setIfInBounds_toArray, List.set_cons_zero, List.set_cons_succ]
      refine AnyL.take (i := 17) (oi := { dst := some 35, op := Op.slice 50 (Operand.tmp 33) (some (Operand.tmp 34)) none none, type := 50, pos := "ref.go:81", after := #[{ on := 15, ground := Ground.data }, { on := 16, ground := Ground.data }], guard := none }) (v := ?_) rfl (by decide) (by kernel_rfl) (by kernel_rfl) (by kernel_rfl) (by kernel_rfl) (fun _ _ _ h => h) (Or.inl ⟨by rfl, ?_⟩) (by assumption) ?_
      rotate_left
      · (intro w hSw; (try dsimp only at hSw); first | (go_simp; done) | (go_simp; with_reducible rfl))
      try simp only [Act.put, List.setIfInBounds_toArray, List.set_cons_zero, List.set_cons_succ]
      clear hHeld
      refine AnyL.ready (rs := [1, 10]) (by kernel_rfl) (by simp) ?_
      refine (AllL.cons (o := { dst := some 19, op := Op.buildSlice 50 0 #[], type := 50, pos := "ref.go:81", after := #[], guard := none }) rfl (fun K hK => ?_) (AllL.cons (o := { dst := some 28, op := Op.buildSlice 50 1 #[(0, Operand.tmp 27)], type := 50, pos := "ref.go:81", after := #[{ on := 9, ground := Ground.data }], guard := none }) rfl (fun K hK => ?_) AllL.nil))
      · go_simp
        refine hK.out _ _ (fun _ => HS.out _ ((Bel.refl w1).drew.alloc _)) ?_
        clear hK K
        try simp only [Act.put, List.setIfInBounds_toArray, List.set_cons_zero, List.set_cons_succ]
        refine AnyL.ready (rs := [8, 10]) (by kernel_rfl) (by simp) ?_
        refine (AllL.cons (o := { dst := some 26, op := Op.call { callee := Callee.builtin Builtin.append, args := #[Operand.tmp 19, Operand.tmp 25], argTypes := #[50, 50] }, type := 50, pos := "ref.go:81", after := #[{ on := 1, ground := Ground.data }, { on := 7, ground := Ground.data }], guard := none }) rfl (fun K hK => ?_) (AllL.cons (o := { dst := some 28, op := Op.buildSlice 50 1 #[(0, Operand.tmp 27)], type := 50, pos := "ref.go:81", after := #[{ on := 9, ground := Ground.data }], guard := none }) rfl (fun K hK => ?_) AllL.nil))
        · refine step_append_seg (n := w1.heap.size) (v := .slice (some ⟨w1.heap.size, 0, none⟩) 0 0) fileOk rfl (.tmp 19) (.tmp 25) rfl rfl (ownG_none (heap_alloc_new w1.drew _) (Nat.le_refl _)) (M.L.take fn) rfl (LOW.out _ (((Bel.refl w1).drew.alloc _))) (LT1.out) (LT2.out) (Bel.size (((Bel.refl w1).drew.alloc _))) ?_
          intro v1 z1 ho1 hg1 hb1
          have hBz1 := Lib.hid (Bel.trans_below' (((Bel.refl w1).drew.alloc _)) hb1)
          have hOwn1 := Lib.hid (show OwnG fileEl w1.heap.size z1 v1 (M.L.take fn) from ho1)
          refine hK.out _ _ (fun _ => HS.out _ hBz1.out) ?_
          clear hK K ho1 hg1 hb1
          try simp only [Act.put, List.setIfInBounds_toArray, List.set_cons_zero, List.set_cons_succ]
          refine AnyL.ready (rs := [10]) (by kernel_rfl) (by simp) ?_
          refine (AllL.cons (o := { dst := some 28, op := Op.buildSlice 50 1 #[(0, Operand.tmp 27)], type := 50, pos := "ref.go:81", after := #[{ on := 9, ground := Ground.data }], guard := none }) rfl (fun K hK => ?_) AllL.nil)
          go_simp
          refine hK.out _ _ (fun _ => HS.out _ (hBz1.out.alloc _)) ?_
          clear hK K
          try simp only [Act.put, List.setIfInBounds_toArray, List.set_cons_zero, List.set_cons_succ]
          have hBz := Lib.hid (hBz1.out.alloc (.cells #[.string ⟨x.name.toArray⟩, .string ⟨x.bytes.toArray⟩, .int .i64 x.safe] 64))
          have hLit := Lib.hid (heap_alloc_new z1 (.cells #[.string ⟨x.name.toArray⟩, .string ⟨x.bytes.toArray⟩, .int .i64 x.safe] 64))
          replace hOwn1 := Lib.hid (hOwn1.out.alloc (.cells #[.string ⟨x.name.toArray⟩, .string ⟨x.bytes.toArray⟩, .int .i64 x.safe] 64))
          refine AnyL.ready (rs := [11]) (by kernel_rfl) (by simp) ?_
          refine (AllL.cons (o := { dst := some 29, op := Op.call { callee := Callee.builtin Builtin.append, args := #[Operand.tmp 26, Operand.tmp 28], argTypes := #[50, 50] }, type := 50, pos := "ref.go:81", after := #[{ on := 8, ground := Ground.data }, { on := 10, ground := Ground.data }, { on := 8, ground := Ground.chain }], guard := none }) rfl (fun K hK => ?_) AllL.nil)
          refine step_append_seg (n := w1.heap.size) fileOk rfl (.tmp 26) (.tmp 28) rfl rfl hOwn1.out [x] rfl (lit_src hLit.out) (LT3.out) (LT4.out) (Bel.size hBz.out) ?_
          intro v2 z2 ho2 hg2 hb2
          have hBz2 := Lib.hid (Bel.trans_below' hBz.out hb2)
          have hOwn2 := Lib.hid ho2
          refine hK.out _ _ (fun _ => HS.out _ hBz2.out) ?_
          clear hK K ho2 hg2 hb2
          try simp only [Act.put, List.setIfInBounds_toArray, List.set_cons_zero, List.set_cons_succ]
          refine AnyL.ready (rs := [18]) (by kernel_rfl) (by simp) ?_
          refine (AllL.cons (o := { dst := some 36, op := Op.call { callee := Callee.builtin Builtin.append, args := #[Operand.tmp 29, Operand.tmp 35], argTypes := #[50, 50] }, type := 50, pos := "ref.go:81", after := #[{ on := 11, ground := Ground.data }, { on := 17, ground := Ground.data }, { on := 11, ground := Ground.chain }], guard := none }) rfl (fun K hK => ?_) AllL.nil)
          refine step_append_seg (n := w1.heap.size) fileOk rfl (.tmp 29) (.tmp 35) rfl rfl hOwn2.out (M.L.drop kk) rfl (HIGH.out _ hBz2.out) (LT5.out) (LT6.out) (Bel.size hBz2.out) ?_
          intro v3 z3 ho3 hg3 hb3
          have hBz3 := Lib.hid (Bel.trans_below' hBz2.out hb3)
          obtain ⟨p3, c3, hv3⟩ := ownG_len ho3
          generalize (M.L.take fn ++ [x] ++ M.L.drop kk).length = l3 at hv3
          subst hv3
          have hOwn3 := Lib.hid ho3
          refine hK.out _ _ (fun _ => HS.out _ hBz3.out) ?_
          clear hK K ho3 hg3 hb3
          try simp only [Act.put, List.setIfInBounds_toArray, List.set_cons_zero, List.set_cons_succ]
          refine AnyL.ready (rs := [19]) (by kernel_rfl) (by simp) ?_
          refine (AllL.cons (o := { dst := some 37, op := Op.nilCheck (Operand.tmp 18), type := 0, pos := "ref.go:81", after := #[{ on := 0, ground := Ground.data }, { on := 0, ground := Ground.phase }, { on := 1, ground := Ground.phase }, { on := 2, ground := Ground.phase }, { on := 3, ground := Ground.phase }, { on := 4, ground := Ground.phase }, { on := 5, ground := Ground.phase }, { on := 6, ground := Ground.phase }, { on := 7, ground := Ground.phase }, { on := 8, ground := Ground.phase }, { on := 9, ground := Ground.phase }, { on := 10, ground := Ground.phase }, { on := 11, ground := Ground.phase }, { on := 12, ground := Ground.phase }, { on := 13, ground := Ground.phase }, { on := 14, ground := Ground.phase }, { on := 15, ground := Ground.phase }, { on := 16, ground := Ground.phase }, { on := 17, ground := Ground.phase }, { on := 18, ground := Ground.phase }], guard := none }) rfl (fun K hK => ?_) AllL.nil)
          go_simp
          refine hK.out _ _ (fun _ => HS.out _ hBz3.out) ?_
          clear hK K
          try simp only [Act.put, List.setIfInBounds_toArray, List.set_cons_zero, List.set_cons_succ]
          refine AnyL.ready (rs := [20]) (by kernel_rfl) (by simp) ?_
          refine (AllL.cons (o := { dst := some 38, op := Op.fieldAddr 52 (Operand.tmp 37) 0, type := 0, pos := "ref.go:81", after := #[{ on := 19, ground := Ground.data }, { on := 0, ground := Ground.phase }, { on := 1, ground := Ground.phase }, { on := 2, ground := Ground.phase }, { on := 3, ground := Ground.phase }, { on := 4, ground := Ground.phase }, { on := 5, ground := Ground.phase }, { on := 6, ground := Ground.phase }, { on := 7, ground := Ground.phase }, { on := 8, ground := Ground.phase }, { on := 9, ground := Ground.phase }, { on := 10, ground := Ground.phase }, { on := 11, ground := Ground.phase }, { on := 12, ground := Ground.phase }, { on := 13, ground := Ground.phase }, { on := 14, ground := Ground.phase }, { on := 15, ground := Ground.phase }, { on := 16, ground := Ground.phase }, { on := 17, ground := Ground.phase }, { on := 18, ground := Ground.phase }], guard := none }) rfl (fun K hK => ?_) AllL.nil)
          go_simp
          refine hK.out _ _ (fun _ => HS.out _ hBz3.out) ?_
          clear hK K
          try simp only [Act.put, List.setIfInBounds_toArray, List.set_cons_zero, List.set_cons_succ]
          refine AnyL.ready (rs := [21]) (by kernel_rfl) (by simp) ?_
          refine (AllL.cons (o := { dst := none, op := Op.store 50 (Operand.tmp 38) (Operand.tmp 36), type := 0, pos := "ref.go:81", after := #[{ on := 20, ground := Ground.data }, { on := 18, ground := Ground.data }, { on := 18, ground := Ground.chain }, { on := 0, ground := Ground.phase }, { on := 1, ground := Ground.phase }, { on := 2, ground := Ground.phase }, { on := 3, ground := Ground.phase }, { on := 4, ground := Ground.phase }, { on := 5, ground := Ground.phase }, { on := 6, ground := Ground.phase }, { on := 7, ground := Ground.phase }, { on := 8, ground := Ground.phase }, { on := 9, ground := Ground.phase }, { on := 10, ground := Ground.phase }, { on := 11, ground := Ground.phase }, { on := 12, ground := Ground.phase }, { on := 13, ground := Ground.phase }, { on := 14, ground := Ground.phase }, { on := 15, ground := Ground.phase }, { on := 16, ground := Ground.phase }, { on := 17, ground := Ground.phase }, { on := 18, ground := Ground.phase }], guard := none }) rfl (fun K hK => ?_) AllL.nil)
          obtain ⟨s0, -, -, -, s4, -⟩ := HS.out _ hBz3.out
          go_simp
          refine hK.out _ _ (fun h => absurd rfl h) ?_
          clear hK K s0 s4
          try simp only [Act.put, List.setIfInBounds_toArray, List.set_cons_zero, List.set_cons_succ]
          refine AnyL.done (by kernel_rfl) ?_ _
          go_wp2_with (fail)
          go_end0
          have hpf := (HR1.out.bel hBz3.out).put_files (hOwn3.out.low (Nat.le_trans hn (Nat.le_of_lt hz1)))
          rw [HI2.out]
          exact ⟨⟨_, rfl⟩, _, hpf, fun k hk => Nat.le_trans HB.out.size (hOwn3.out.lt k hk).1, ((Keep.of_bel (HB.out.trans hBz3.out) [b]).setCell (p := ⟨b, 0, none⟩) (Or.inl (by simp)) _)⟩
        · go_simp
          refine hK.out _ _ (fun _ => HS.out _ (((Bel.refl w1).drew.alloc _).alloc _)) ?_
          clear hK K
          try simp only [Act.put, List.setIfInBounds_toArray, List.set_cons_zero, List.set_cons_succ]
          refine AnyL.ready (rs := [8]) (by kernel_rfl) (by simp) ?_
          refine (AllL.cons (o := { dst := some 26, op := Op.call { callee := Callee.builtin Builtin.append, args := #[Operand.tmp 19, Operand.tmp 25], argTypes := #[50, 50] }, type := 50, pos := "ref.go:81", after := #[{ on := 1, ground := Ground.data }, { on := 7, ground := Ground.data }], guard := none }) rfl (fun K hK => ?_) AllL.nil)
          refine step_append_seg (n := w1.heap.size) (v := .slice (some ⟨w1.heap.size, 0, none⟩) 0 0) fileOk rfl (.tmp 19) (.tmp 25) rfl rfl ((ownG_none (heap_alloc_new w1.drew _) (Nat.le_refl _)).alloc _) (M.L.take fn) rfl (LOW.out _ ((((Bel.refl w1).drew.alloc _).alloc _))) (LT1.out) (LT2.out) (Bel.size ((((Bel.refl w1).drew.alloc _).alloc _))) ?_
          intro v1 z1 ho1 hg1 hb1
          have hBz1 := Lib.hid (Bel.trans_below' ((((Bel.refl w1).drew.alloc _).alloc _)) hb1)
          have hOwn1 := Lib.hid (show OwnG fileEl w1.heap.size z1 v1 (M.L.take fn) from ho1)
          have hLit := Lib.hid (show z1.heap[w1.heap.size + 1]? = some (.cells #[.string ⟨x.name.toArray⟩, .string ⟨x.bytes.toArray⟩, .int .i64 x.safe] 64) from at_grown hg1 (at_new (by simp)) (by simp [Value.ownBlock]))
          refine hK.out _ _ (fun _ => HS.out _ hBz1.out) ?_
          clear hK K ho1 hg1 hb1
          try simp only [Act.put, List.setIfInBounds_toArray, List.set_cons_zero, List.set_cons_succ]
          have hBz := Lib.hid hBz1.out
          refine AnyL.ready (rs := [11]) (by kernel_rfl) (by simp) ?_
          refine (AllL.cons (o := { dst := some 29, op := Op.call { callee := Callee.builtin Builtin.append, args := #[Operand.tmp 26, Operand.tmp 28], argTypes := #[50, 50] }, type := 50, pos := "ref.go:81", after := #[{ on := 8, ground := Ground.data }, { on := 10, ground := Ground.data }, { on := 8, ground := Ground.chain }], guard := none }) rfl (fun K hK => ?_) AllL.nil)
          refine step_append_seg (n := w1.heap.size) fileOk rfl (.tmp 26) (.tmp 28) rfl rfl hOwn1.out [x] rfl (lit_src hLit.out) (LT3.out) (LT4.out) (Bel.size hBz.out) ?_
          intro v2 z2 ho2 hg2 hb2
          have hBz2 := Lib.hid (Bel.trans_below' hBz.out hb2)
          have hOwn2 := Lib.hid ho2
          refine hK.out _ _ (fun _ => HS.out _ hBz2.out) ?_
          clear hK K ho2 hg2 hb2
          try simp only [Act.put, List.setIfInBounds_toArray, List.set_cons_zero, List.set_cons_succ]
          refine AnyL.ready (rs := [18]) (by kernel_rfl) (by simp) ?_
          refine (AllL.cons (o := { dst := some 36, op := Op.call { callee := Callee.builtin Builtin.append, args := #[Operand.tmp 29, Operand.tmp 35], argTypes := #[50, 50] }, type := 50, pos := "ref.go:81", after := #[{ on := 11, ground := Ground.data }, { on := 17, ground := Ground.data }, { on := 11, ground := Ground.chain }], guard := none }) rfl (fun K hK => ?_) AllL.nil)
          refine step_append_seg (n := w1.heap.size) fileOk rfl (.tmp 29) (.tmp 35) rfl rfl hOwn2.out (M.L.drop kk) rfl (HIGH.out _ hBz2.out) (LT5.out) (LT6.out) (Bel.size hBz2.out) ?_
          intro v3 z3 ho3 hg3 hb3
          have hBz3 := Lib.hid (Bel.trans_below' hBz2.out hb3)
          obtain ⟨p3, c3, hv3⟩ := ownG_len ho3
          generalize (M.L.take fn ++ [x] ++ M.L.drop kk).length = l3 at hv3
          subst hv3
          have hOwn3 := Lib.hid ho3
          refine hK.out _ _ (fun _ => HS.out _ hBz3.out) ?_
          clear hK K ho3 hg3 hb3
          try simp only [Act.put, List.setIfInBounds_toArray, List.set_cons_zero, List.set_cons_succ]
          refine AnyL.ready (rs := [19]) (by kernel_rfl) (by simp) ?_
          refine (AllL.cons (o := { dst := some 37, op := Op.nilCheck (Operand.tmp 18), type := 0, pos := "ref.go:81", after := #[{ on := 0, ground := Ground.data }, { on := 0, ground := Ground.phase }, { on := 1, ground := Ground.phase }, { on := 2, ground := Ground.phase }, { on := 3, ground := Ground.phase }, { on := 4, ground := Ground.phase }, { on := 5, ground := Ground.phase }, { on := 6, ground := Ground.phase }, { on := 7, ground := Ground.phase }, { on := 8, ground := Ground.phase }, { on := 9, ground := Ground.phase }, { on := 10, ground := Ground.phase }, { on := 11, ground := Ground.phase }, { on := 12, ground := Ground.phase }, { on := 13, ground := Ground.phase }, { on := 14, ground := Ground.phase }, { on := 15, ground := Ground.phase }, { on := 16, ground := Ground.phase }, { on := 17, ground := Ground.phase }, { on := 18, ground := Ground.phase }], guard := none }) rfl (fun K hK => ?_) AllL.nil)
          go_simp
          refine hK.out _ _ (fun _ => HS.out _ hBz3.out) ?_
          clear hK K
          try simp only [Act.put, List.setIfInBounds_toArray, List.set_cons_zero, List.set_cons_succ]
          refine AnyL.ready (rs := [20]) (by kernel_rfl) (by simp) ?_
          refine (AllL.cons (o := { dst := some 38, op := Op.fieldAddr 52 (Operand.tmp 37) 0, type := 0, pos := "ref.go:81", after := #[{ on := 19, ground := Ground.data }, { on := 0, ground := Ground.phase }, { on := 1, ground := Ground.phase }, { on := 2, ground := Ground.phase }, { on := 3, ground := Ground.phase }, { on := 4, ground := Ground.phase }, { on := 5, ground := Ground.phase }, { on := 6, ground := Ground.phase }, { on := 7, ground := Ground.phase }, { on := 8, ground := Ground.phase }, { on := 9, ground := Ground.phase }, { on := 10, ground := Ground.phase }, { on := 11, ground := Ground.phase }, { on := 12, ground := Ground.phase }, { on := 13, ground := Ground.phase }, { on := 14, ground := Ground.phase }, { on := 15, ground := Ground.phase }, { on := 16, ground := Ground.phase }, { on := 17, ground := Ground.phase }, { on := 18, ground := Ground.phase }], guard := none }) rfl (fun K hK => ?_) AllL.nil)
          go_simp
          refine hK.out _ _ (fun _ => HS.out _ hBz3.out) ?_
          clear hK K
          try simp only [Act.put, List.setIfInBounds_toArray, List.set_cons_zero, List.set_cons_succ]
          refine AnyL.ready (rs := [21]) (by kernel_rfl) (by simp) ?_
          refine (AllL.cons (o := { dst := none, op := Op.store 50 (Operand.tmp 38) (Operand.tmp 36), type := 0, pos := "ref.go:81", after := #[{ on := 20, ground := Ground.data }, { on := 18, ground := Ground.data }, { on := 18, ground := Ground.chain }, { on := 0, ground := Ground.phase }, { on := 1, ground := Ground.phase }, { on := 2, ground := Ground.phase }, { on := 3, ground := Ground.phase }, { on := 4, ground := Ground.phase }, { on := 5, ground := Ground.phase }, { on := 6, ground := Ground.phase }, { on := 7, ground := Ground.phase }, { on := 8, ground := Ground.phase }, { on := 9, ground := Ground.phase }, { on := 10, ground := Ground.phase }, { on := 11, ground := Ground.phase }, { on := 12, ground := Ground.phase }, { on := 13, ground := Ground.phase }, { on := 14, ground := Ground.phase }, { on := 15, ground := Ground.phase }, { on := 16, ground := Ground.phase }, { on := 17, ground := Ground.phase }, { on := 18, ground := Ground.phase }], guard := none }) rfl (fun K hK => ?_) AllL.nil)
          obtain ⟨s0, -, -, -, s4, -⟩ := HS.out _ hBz3.out
          go_simp
          refine hK.out _ _ (fun h => absurd rfl h) ?_
          clear hK K s0 s4
          try simp only [Act.put, List.setIfInBounds_toArray, List.set_cons_zero, List.set_cons_succ]
          refine AnyL.done (by kernel_rfl) ?_ _
          go_wp2_with (fail)
          go_end0
          have hpf := (HR1.out.bel hBz3.out).put_files (hOwn3.out.low (Nat.le_trans hn (Nat.le_of_lt hz1)))
          rw [HI2.out]
          exact ⟨⟨_, rfl⟩, _, hpf, fun k hk => Nat.le_trans HB.out.size (hOwn3.out.lt k hk).1, ((Keep.of_bel (HB.out.trans hBz3.out) [b]).setCell (p := ⟨b, 0, none⟩) (Or.inl (by simp)) _)⟩
      · go_simp
        refine hK.out _ _ (fun _ => HS.out _ ((Bel.refl w1).drew.alloc _)) ?_
        clear hK K
        try simp only [Act.put, List.setIfInBounds_toArray, List.set_cons_zero, List.set_cons_succ]
        refine AnyL.ready (rs := [1]) (by kernel_rfl) (by simp) ?_
        refine (AllL.cons (o := { dst := some 19, op := Op.buildSlice 50 0 #[], type := 50, pos := "ref.go:81", after := #[], guard := none }) rfl (fun K hK => ?_) AllL.nil)
        go_simp
        refine hK.out _ _ (fun _ => HS.out _ (((Bel.refl w1).drew.alloc _).alloc _)) ?_
        clear hK K
        try simp only [Act.put, List.setIfInBounds_toArray, List.set_cons_zero, List.set_cons_succ]
        refine AnyL.ready (rs := [8]) (by kernel_rfl) (by simp) ?_
        refine (AllL.cons (o := { dst := some 26, op := Op.call { callee := Callee.builtin Builtin.append, args := #[Operand.tmp 19, Operand.tmp 25], argTypes := #[50, 50] }, type := 50, pos := "ref.go:81", after := #[{ on := 1, ground := Ground.data }, { on := 7, ground := Ground.data }], guard := none }) rfl (fun K hK => ?_) AllL.nil)
        refine step_append_seg (n := w1.heap.size) (v := .slice (some ⟨w1.heap.size + 1, 0, none⟩) 0 0) fileOk rfl (.tmp 19) (.tmp 25) rfl rfl (ownG_none (n := w1.heap.size) (at_new (by simp)) (by simp)) (M.L.take fn) rfl (LOW.out _ ((((Bel.refl w1).drew.alloc _).alloc _))) (LT1.out) (LT2.out) (Bel.size ((((Bel.refl w1).drew.alloc _).alloc _))) ?_
        intro v1 z1 ho1 hg1 hb1
        have hBz1 := Lib.hid (Bel.trans_below' ((((Bel.refl w1).drew.alloc _).alloc _)) hb1)
        have hOwn1 := Lib.hid (show OwnG fileEl w1.heap.size z1 v1 (M.L.take fn) from ho1)
        have hLit := Lib.hid (show z1.heap[w1.heap.size]? = some (.cells #[.string ⟨x.name.toArray⟩, .string ⟨x.bytes.toArray⟩, .int .i64 x.safe] 64) from at_grown hg1 (at_old (at_new (by simp))) (by simp [Value.ownBlock]))
        refine hK.out _ _ (fun _ => HS.out _ hBz1.out) ?_
        clear hK K ho1 hg1 hb1
        try simp only [Act.put, List.setIfInBounds_toArray, List.set_cons_zero, List.set_cons_succ]
        have hBz := Lib.hid hBz1.out
        refine AnyL.ready (rs := [11]) (by kernel_rfl) (by simp) ?_
        refine (AllL.cons (o := { dst := some 29, op := Op.call { callee := Callee.builtin Builtin.append, args := #[Operand.tmp 26, Operand.tmp 28], argTypes := #[50, 50] }, type := 50, pos := "ref.go:81", after := #[{ on := 8, ground := Ground.data }, { on := 10, ground := Ground.data }, { on := 8, ground := Ground.chain }], guard := none }) rfl (fun K hK => ?_) AllL.nil)
        refine step_append_seg (n := w1.heap.size) fileOk rfl (.tmp 26) (.tmp 28) rfl rfl hOwn1.out [x] rfl (lit_src hLit.out) (LT3.out) (LT4.out) (Bel.size hBz.out) ?_
        intro v2 z2 ho2 hg2 hb2
        have hBz2 := Lib.hid (Bel.trans_below' hBz.out hb2)
        have hOwn2 := Lib.hid ho2
        refine hK.out _ _ (fun _ => HS.out _ hBz2.out) ?_
        clear hK K ho2 hg2 hb2
        try simp only [Act.put, List.setIfInBounds_toArray, List.set_cons_zero, List.set_cons_succ]
        refine AnyL.ready (rs := [18]) (by kernel_rfl) (by simp) ?_
        refine (AllL.cons (o := { dst := some 36, op := Op.call { callee := Callee.builtin Builtin.append, args := #[Operand.tmp 29, Operand.tmp 35], argTypes := #[50, 50] }, type := 50, pos := "ref.go:81", after := #[{ on := 11, ground := Ground.data }, { on := 17, ground := Ground.data }, { on := 11, ground := Ground.chain }], guard := none }) rfl (fun K hK => ?_) AllL.nil)
        refine step_append_seg (n := w1.heap.size) fileOk rfl (.tmp 29) (.tmp 35) rfl rfl hOwn2.out (M.L.drop kk) rfl (HIGH.out _ hBz2.out) (LT5.out) (LT6.out) (Bel.size hBz2.out) ?_
        intro v3 z3 ho3 hg3 hb3
        have hBz3 := Lib.hid (Bel.trans_below' hBz2.out hb3)
        obtain ⟨p3, c3, hv3⟩ := ownG_len ho3
        generalize (M.L.take fn ++ [x] ++ M.L.drop kk).length = l3 at hv3
        subst hv3
        have hOwn3 := Lib.hid ho3
        refine hK.out _ _ (fun _ => HS.out _ hBz3.out) ?_
        clear hK K ho3 hg3 hb3
        try simp only [Act.put, List.setIfInBounds_toArray, List.set_cons_zero, List.set_cons_succ]
        refine AnyL.ready (rs := [19]) (by kernel_rfl) (by simp) ?_
        refine (AllL.cons (o := { dst := some 37, op := Op.nilCheck (Operand.tmp 18), type := 0, pos := "ref.go:81", after := #[{ on := 0, ground := Ground.data }, { on := 0, ground := Ground.phase }, { on := 1, ground := Ground.phase }, { on := 2, ground := Ground.phase }, { on := 3, ground := Ground.phase }, { on := 4, ground := Ground.phase }, { on := 5, ground := Ground.phase }, { on := 6, ground := Ground.phase }, { on := 7, ground := Ground.phase }, { on := 8, ground := Ground.phase }, { on := 9, ground := Ground.phase }, { on := 10, ground := Ground.phase }, { on := 11, ground := Ground.phase }, { on := 12, ground := Ground.phase }, { on := 13, ground := Ground.phase }, { on := 14, ground := Ground.phase }, { on := 15, ground := Ground.phase }, { on := 16, ground := Ground.phase }, { on := 17, ground := Ground.phase }, { on := 18, ground := Ground.phase }], guard := none }) rfl (fun K hK => ?_) AllL.nil)
        go_simp
        refine hK.out _ _ (fun _ => HS.out _ hBz3.out) ?_
        clear hK K
        try simp only [Act.put, List.setIfInBounds_toArray, List.set_cons_zero, List.set_cons_succ]
        refine AnyL.ready (rs := [20]) (by kernel_rfl) (by simp) ?_
        refine (AllL.cons (o := { dst := some 38, op := Op.fieldAddr 52 (Operand.tmp 37) 0, type := 0, pos := "ref.go:81", after := #[{ on := 19, ground := Ground.data }, { on := 0, ground := Ground.phase }, { on := 1, ground := Ground.phase }, { on := 2, ground := Ground.phase }, { on := 3, ground := Ground.phase }, { on := 4, ground := Ground.phase }, { on := 5, ground := Ground.phase }, { on := 6, ground := Ground.phase }, { on := 7, ground := Ground.phase }, { on := 8, ground := Ground.phase }, { on := 9, ground := Ground.phase }, { on := 10, ground := Ground.phase }, { on := 11, ground := Ground.phase }, { on := 12, ground := Ground.phase }, { on := 13, ground := Ground.phase }, { on := 14, ground := Ground.phase }, { on := 15, ground := Ground.phase }, { on := 16, ground := Ground.phase }, { on := 17, ground := Ground.phase }, { on := 18, ground := Ground.phase }], guard := none }) rfl (fun K hK => ?_) AllL.nil)
        go_simp
        refine hK.out _ _ (fun _ => HS.out _ hBz3.out) ?_
        clear hK K
        try simp only [Act.put, List.setIfInBounds_toArray, List.set_cons_zero, List.set_cons_succ]
        refine AnyL.ready (rs := [21]) (by kernel_rfl) (by simp) ?_
        refine (AllL.cons (o := { dst := none, op := Op.store 50 (Operand.tmp 38) (Operand.tmp 36), type := 0, pos := "ref.go:81", after := #[{ on := 20, ground := Ground.data }, { on := 18, ground := Ground.data }, { on := 18, ground := Ground.chain }, { on := 0, ground := Ground.phase }, { on := 1, ground := Ground.phase }, { on := 2, ground := Ground.phase }, { on := 3, ground := Ground.phase }, { on := 4, ground := Ground.phase }, { on := 5, ground := Ground.phase }, { on := 6, ground := Ground.phase }, { on := 7, ground := Ground.phase }, { on := 8, ground := Ground.phase }, { on := 9, ground := Ground.phase }, { on := 10, ground := Ground.phase }, { on := 11, ground := Ground.phase }, { on := 12, ground := Ground.phase }, { on := 13, ground := Ground.phase }, { on := 14, ground := Ground.phase }, { on := 15, ground := Ground.phase }, { on := 16, ground := Ground.phase }, { on := 17, ground := Ground.phase }, { on := 18, ground := Ground.phase }], guard := none }) rfl (fun K hK => ?_) AllL.nil)
        obtain ⟨s0, -, -, -, s4, -⟩ := HS.out _ hBz3.out
        go_simp
        refine hK.out _ _ (fun h => absurd rfl h) ?_
        clear hK K s0 s4
        try simp only [Act.put, List.setIfInBounds_toArray, List.set_cons_zero, List.set_cons_succ]
        refine AnyL.done (by kernel_rfl) ?_ _
        go_wp2_with (fail)
        go_end0
        have hpf := (HR1.out.bel hBz3.out).put_files (hOwn3.out.low (Nat.le_trans hn (Nat.le_of_lt hz1)))
        rw [HI2.out]
        exact ⟨⟨_, rfl⟩, _, hpf, fun k hk => Nat.le_trans HB.out.size (hOwn3.out.lt k hk).1, ((Keep.of_bel (HB.out.trans hBz3.out) [b]).setCell (p := ⟨b, 0, none⟩) (Or.inl (by simp)) _)⟩

    · have HIGH := Lib.hid (fun y (hy : Bel w1 y) => (show SrcAt fileEl y (.slice (some ⟨g, fn * 3, none⟩) (n - fn) (cap - fn)) (M.L.drop kk) by rw [hkk, HN.out]; exact src_high (L := M.L) HR1.out.own hy fn _ (by rw [← HN.out]; omega)))
      clear hkk
      have HS := Lib.hid (show ∀ y, Bel w1 y → (y.cell? ⟨b, 0, none⟩ = some (.slice (some ⟨g, 0, none⟩) n cap) ∧ y.cell? ⟨bx, 0, none⟩ = some (.string ⟨x.name.toArray⟩) ∧ y.cell? ⟨bx, 1, none⟩ = some (.string ⟨x.bytes.toArray⟩) ∧ y.cell? ⟨bx, 2, none⟩ = some (.int .i64 x.safe) ∧ y.frozen? ⟨b, 0, none⟩ = false ∧ Bel w1 y) from fun y hy => ⟨cell_later hy c0, cell_later hy x0, cell_later hy x1, cell_later hy x2, (hy.frozen _ _ hbl).trans f0, hy⟩)
      go_wp2_with (fail)
      refine region_L 21 (S := fun y => y.cell? ⟨b, 0, none⟩ = some (.slice (some ⟨g, 0, none⟩) n cap) ∧ y.cell? ⟨bx, 0, none⟩ = some (.string ⟨x.name.toArray⟩) ∧ y.cell? ⟨bx, 1, none⟩ = some (.string ⟨x.bytes.toArray⟩) ∧ y.cell? ⟨bx, 2, none⟩ = some (.int .i64 x.safe) ∧ y.frozen? ⟨b, 0, none⟩ = false ∧ Bel w1 y) (by kernel_rfl) (HS.out _ (Bel.refl w1).drew) (fun hHeld => ?_)
      refine AnyL.take (i := 0) (oi := { dst := some 18, op := Op.move (Operand.tmp 0), type := 29, pos := "ref.go:81", after := #[], guard := none }) (v := ?_) rfl (by decide) (by kernel_rfl) (by kernel_rfl) (by kernel_rfl) (by kernel_rfl) (fun _ _ _ h => h) (Or.inl ⟨by rfl, ?_⟩) (by assumption) ?_
      rotate_left
      · (intro w hSw; (try dsimp only at hSw); first | (go_simp; done) | (go_simp; with_reducible rfl))
      try simp only [Act.put, List.setIfInBounds_toArray, List.set_cons_zero, List.set_cons_succ]
      refine AnyL.take (i := 2) (oi := { dst := some 20, op := Op.move (Operand.tmp 0), type := 29, pos := "ref.go:81", after := #[], guard := none }) (v := ?_) rfl (by decide) (by kernel_rfl) (by kernel_rfl) (by kernel_rfl) (by kernel_rfl) (fun _ _ _ h => h) (Or.inl ⟨by rfl, ?_⟩) (by assumption) ?_
      rotate_left
      · (intro w hSw; (try dsimp only at hSw); first | (go_simp; done) | (go_simp; with_reducible rfl))
      try simp only [Act.put, List.setIfInBounds_toArray, List.set_cons_zero, List.set_cons_succ]
      refine AnyL.take (i := 3) (oi := { dst := some 21, op := Op.nilCheck (Operand.tmp 20), type := 0, pos := "ref.go:81", after := #[{ on := 2, ground := Ground.data }], guard := none }) (v := ?_) rfl (by decide) (by kernel_rfl) (by kernel_rfl) (by kernel_rfl) (by kernel_rfl) (fun _ _ _ h => h) (Or.inl ⟨by rfl, ?_⟩) (by assumption) ?_
      rotate_left
      · (intro w hSw; (try dsimp only at hSw); first | (go_simp; done) | (go_simp; with_reducible rfl))
      try simp only [Act.put, List.setIfInBounds_toArray, List.set_cons_zero, List.set_cons_succ]
      refine AnyL.take (i := 4) (oi := { dst := some 22, op := Op.fieldAddr 52 (Operand.tmp 21) 0, type := 0, pos := "ref.go:81", after := #[{ on := 3, ground := Ground.data }], guard := none }) (v := ?_) rfl (by decide) (by kernel_rfl) (by kernel_rfl) (by kernel_rfl) (by kernel_rfl) (fun _ _ _ h => h) (Or.inl ⟨by rfl, ?_⟩) (by assumption) ?_
      rotate_left
      · (intro w hSw; (try dsimp only at hSw); first | (go_simp; done) | (go_simp; with_reducible rfl))
      try simp only [Act.put, List.setIfInBounds_toArray, List.set_cons_zero, List.set_cons_succ]
      refine AnyL.take (i := 5) (oi := { dst := some 23, op := Op.load 50 (Operand.tmp 22), type := 50, pos := "ref.go:81", after := #[{ on := 4, ground := Ground.data }], guard := none }) (v := ?_) rfl (by decide) (by kernel_rfl) (by kernel_rfl) (by kernel_rfl) (by kernel_rfl) (fun _ _ _ h => h) (Or.inl ⟨by rfl, ?_⟩) (by assumption) ?_
      rotate_left
      · (intro w hSw; (try dsimp only at hSw); first | (go_simp; done) | (go_simp; with_reducible rfl))
      try simp only [Act.put, List.setIfInBounds_toArray, List.set_cons_zero, List.set_cons_succ]
      refine AnyL.take (i := 6) (oi := { dst := some 24, op := Op.move (Operand.tmp 4), type := 3, pos := "ref.go:81", after := #[], guard := none }) (v := ?_) rfl (by decide) (by kernel_rfl) (by kernel_rfl) (by kernel_rfl) (by kernel_rfl) (fun _ _ _ h => h) (Or.inl ⟨by rfl, ?_⟩) (by assumption) ?_
      rotate_left
      · (intro w hSw; (try dsimp only at hSw); first | (go_simp; done) | (go_simp; with_reducible rfl))
      try simp only [Act.put, List.setIfInBounds_toArray, List.set_cons_zero, List.set_cons_succ]
      refine AnyL.take (i := 7) (oi := { dst := some 25, op := Op.slice 50 (Operand.tmp 23) none (some (Operand.tmp 24)) none, type := 50, pos := "ref.go:81", after := #[{ on := 5, ground := Ground.data }, { on := 6, ground := Ground.data }], guard := none }) (v := ?_) rfl (by decide) (by kernel_rfl) (by kernel_rfl) (by kernel_rfl) (by kernel_rfl) (fun _ _ _ h => h) (Or.inl ⟨by rfl, ?_⟩) (by assumption) ?_
      rotate_left
      · (intro w hSw; (try dsimp only at hSw); first | (go_simp; done) | (go_simp; with_reducible rfl))
      try simp only [Act.put, List.setIfInBounds_toArray, List.set_cons_zero, List.set_cons_succ]
      refine AnyL.take (i := 9) (oi := { dst := some 27, op := Op.load 64 (Operand.tmp 3), type := 64, pos := "ref.go:81", after := #[], guard := none }) (v := ?_) rfl (by decide) (by kernel_rfl) (by kernel_rfl) (by kernel_rfl) (by kernel_rfl) (fun _ _ _ h => h) (Or.inl ⟨by rfl, ?_⟩) (by assumption) ?_
      rotate_left
      · (intro w hSw; (try dsimp only at hSw); first | (go_simp; done) | (go_simp; with_reducible rfl))
      try simp only [Act.put, List.setIfInBounds_toArray, List.set_cons_zero, List.set_cons_succ]
      refine AnyL.take (i := 12) (oi := { dst := some 30, op := Op.move (Operand.tmp 0), type := 29, pos := "ref.go:81", after := #[], guard := none }) (v := ?_) rfl (by decide) (by kernel_rfl) (by kernel_rfl) (by kernel_rfl) (by kernel_rfl) (fun _ _ _ h => h) (Or.inl ⟨by rfl, ?_⟩) (by assumption) ?_
      rotate_left
      · (intro w hSw; (try dsimp only at hSw); first | (go_simp; done) | (go_simp; with_reducible rfl))
      try simp only [Act.put, List.setIfInBounds_toArray, List.set_cons_zero, List.set_cons_succ]
      refine AnyL.take (i := 13) (oi := { dst := some 31, op := Op.nilCheck (Operand.tmp 30), type := 0, pos := "ref.go:81", after := #[{ on := 12, ground := Ground.data }], guard := none }) (v := ?_) rfl (by decide) (by kernel_rfl) (by kernel_rfl) (by kernel_rfl) (by kernel_rfl) (fun _ _ _ h => h) (Or.inl ⟨by rfl, ?_⟩) (by assumption) ?_
      rotate_left
      · (intro w hSw; (try dsimp only at hSw); first | (go_simp; done) | (go_simp; with_reducible rfl))
      try simp only [Act.put, List.setIfInBounds_toArray, List.set_cons_zero, List.set_cons_succ]
      refine AnyL.take (i := 14) (oi := { dst := some 32, op := Op.fieldAddr 52 (Operand.tmp 31) 0, type := 0, pos := "ref.go:81", after := #[{ on := 13, ground := Ground.data }], guard := none }) (v := ?_) rfl (by decide) (by kernel_rfl) (by kernel_rfl) (by kernel_rfl) (by kernel_rfl) (fun _ _ _ h => h) (Or.inl ⟨by rfl, ?_⟩) (by assumption) ?_
      rotate_left
      · (intro w hSw; (try dsimp only at hSw); first | (go_simp; done) | (go_simp; with_reducible rfl))
      try simp only [Act.put, List.setIfInBounds_toArray, List.set_cons_zero, List.set_cons_succ]
      refine AnyL.take (i := 15) (oi := { dst := some 33, op := Op.load 50 (Operand.tmp 32), type := 50, pos := "ref.go:81", after := #[{ on := 14, ground := Ground.data }], guard := none }) (v := ?_) rfl (by decide) (by kernel_rfl) (by kernel_rfl) (by kernel_rfl) (by kernel_rfl) (fun _ _ _ h => h) (Or.inl ⟨by rfl, ?_⟩) (by assumption) ?_
      rotate_left
      · (intro w hSw; (try dsimp only at hSw); first | (go_simp; done) | (go_simp; with_reducible rfl))
      try simp only [Act.put, List.setIfInBounds_toArray, List.set_cons_zero, List.set_cons_succ]
      refine AnyL.take (i := 16) (oi := { dst := some 34, op := Op.move (Operand.tmp 6), type := 3, pos := "ref.go:81", after := #[], guard := none }) (v := ?_) rfl (by decide) (by kernel_rfl) (by kernel_rfl) (by kernel_rfl) (by kernel_rfl) (fun _ _ _ h => h) (Or.inl ⟨by rfl, ?_⟩) (by assumption) ?_
      rotate_left
      · (intro w hSw; (try dsimp only at hSw); first | (go_simp; done) | (go_simp; with_reducible rfl))
      try simp only [Act.put, List.setIfInBounds_toArray, List.set_cons_zero, List.set_cons_succ]
      refine AnyL.take (i := 17) (oi := { dst := some 35, op := Op.slice 50 (Operand.tmp 33) (some (Operand.tmp 34)) none none, type := 50, pos := "ref.go:81", after := #[{ on := 15, ground := Ground.data }, { on := 16, ground := Ground.data }], guard := none }) (v := ?_) rfl (by decide) (by kernel_rfl) (by kernel_rfl) (by kernel_rfl) (by kernel_rfl) (fun _ _ _ h => h) (Or.inl ⟨by rfl, ?_⟩) (by assumption) ?_
      rotate_left
      · (intro w hSw; (try dsimp only at hSw); first | (go_simp; done) | (go_simp; with_reducible rfl))
      try simp only [Act.put, List.setIfInBounds_toArray, List.set_cons_zero, List.set_cons_succ]
      clear hHeld
      refine AnyL.ready (rs := [1, 10]) (by kernel_rfl) (by simp) ?_
      refine (AllL.cons (o := { dst := some 19, op := Op.buildSlice 50 0 #[], type := 50, pos := "ref.go:81", after := #[], guard := none }) rfl (fun K hK => ?_) (AllL.cons (o := { dst := some 28, op := Op.buildSlice 50 1 #[(0, Operand.tmp 27)], type := 50, pos := "ref.go:81", after := #[{ on := 9, ground := Ground.data }], guard := none }) rfl (fun K hK => ?_) AllL.nil))
      · go_simp
        refine hK.out _ _ (fun _ => HS.out _ ((Bel.refl w1).drew.alloc _)) ?_
        clear hK K
        try simp only [Act.put, List.setIfInBounds_toArray, List.set_cons_zero, List.set_cons_succ]
        refine AnyL.ready (rs := [8, 10]) (by kernel_rfl) (by simp) ?_
        refine (AllL.cons (o := { dst := some 26, op := Op.call { callee := Callee.builtin Builtin.append, args := #[Operand.tmp 19, Operand.tmp 25], argTypes := #[50, 50] }, type := 50, pos := "ref.go:81", after := #[{ on := 1, ground := Ground.data }, { on := 7, ground := Ground.data }], guard := none }) rfl (fun K hK => ?_) (AllL.cons (o := { dst := some 28, op := Op.buildSlice 50 1 #[(0, Operand.tmp 27)], type := 50, pos := "ref.go:81", after := #[{ on := 9, ground := Ground.data }], guard := none }) rfl (fun K hK => ?_) AllL.nil))
        · refine step_append_seg (n := w1.heap.size) (v := .slice (some ⟨w1.heap.size, 0, none⟩) 0 0) fileOk rfl (.tmp 19) (.tmp 25) rfl rfl (ownG_none (heap_alloc_new w1.drew _) (Nat.le_refl _)) (M.L.take fn) rfl (LOW.out _ (((Bel.refl w1).drew.alloc _))) (LT1.out) (LT2.out) (Bel.size (((Bel.refl w1).drew.alloc _))) ?_
          intro v1 z1 ho1 hg1 hb1
          have hBz1 := Lib.hid (Bel.trans_below' (((Bel.refl w1).drew.alloc _)) hb1)
          have hOwn1 := Lib.hid (show OwnG fileEl w1.heap.size z1 v1 (M.L.take fn) from ho1)
          refine hK.out _ _ (fun _ => HS.out _ hBz1.out) ?_
          clear hK K ho1 hg1 hb1
          try simp only [Act.put, List.setIfInBounds_toArray, List.set_cons_zero, List.set_cons_succ]
          refine AnyL.ready (rs := [10]) (by kernel_rfl) (by simp) ?_
          refine (AllL.cons (o := { dst := some 28, op := Op.buildSlice 50 1 #[(0, Operand.tmp 27)], type := 50, pos := "ref.go:81", after := #[{ on := 9, ground := Ground.data }], guard := none }) rfl (fun K hK => ?_) AllL.nil)
          go_simp
          refine hK.out _ _ (fun _ => HS.out _ (hBz1.out.alloc _)) ?_
          clear hK K
          try simp only [Act.put, List.setIfInBounds_toArray, List.set_cons_zero, List.set_cons_succ]
          have hBz := Lib.hid (hBz1.out.alloc (.cells #[.string ⟨x.name.toArray⟩, .string ⟨x.bytes.toArray⟩, .int .i64 x.safe] 64))
          have hLit := Lib.hid (heap_alloc_new z1 (.cells #[.string ⟨x.name.toArray⟩, .string ⟨x.bytes.toArray⟩, .int .i64 x.safe] 64))
          replace hOwn1 := Lib.hid (hOwn1.out.alloc (.cells #[.string ⟨x.name.toArray⟩, .string ⟨x.bytes.toArray⟩, .int .i64 x.safe] 64))
          refine AnyL.ready (rs := [11]) (by kernel_rfl) (by simp) ?_
          refine (AllL.cons (o := { dst := some 29, op := Op.call { callee := Callee.builtin Builtin.append, args := #[Operand.tmp 26, Operand.tmp 28], argTypes := #[50, 50] }, type := 50, pos := "ref.go:81", after := #[{ on := 8, ground := Ground.data }, { on := 10, ground := Ground.data }, { on := 8, ground := Ground.chain }], guard := none }) rfl (fun K hK => ?_) AllL.nil)
          refine step_append_seg (n := w1.heap.size) fileOk rfl (.tmp 26) (.tmp 28) rfl rfl hOwn1.out [x] rfl (lit_src hLit.out) (LT3.out) (LT4.out) (Bel.size hBz.out) ?_
          intro v2 z2 ho2 hg2 hb2
          have hBz2 := Lib.hid (Bel.trans_below' hBz.out hb2)
          have hOwn2 := Lib.hid ho2
          refine hK.out _ _ (fun _ => HS.out _ hBz2.out) ?_
          clear hK K ho2 hg2 hb2
          try simp only [Act.put, List.setIfInBounds_toArray, List.set_cons_zero, List.set_cons_succ]
          refine AnyL.ready (rs := [18]) (by kernel_rfl) (by simp) ?_
          refine (AllL.cons (o := { dst := some 36, op := Op.call { callee := Callee.builtin Builtin.append, args := #[Operand.tmp 29, Operand.tmp 35], argTypes := #[50, 50] }, type := 50, pos := "ref.go:81", after := #[{ on := 11, ground := Ground.data }, { on := 17, ground := Ground.data }, { on := 11, ground := Ground.chain }], guard := none }) rfl (fun K hK => ?_) AllL.nil)
          refine step_append_seg (n := w1.heap.size) fileOk rfl (.tmp 29) (.tmp 35) rfl rfl hOwn2.out (M.L.drop kk) rfl (HIGH.out _ hBz2.out) (LT5.out) (LT6.out) (Bel.size hBz2.out) ?_
          intro v3 z3 ho3 hg3 hb3
          have hBz3 := Lib.hid (Bel.trans_below' hBz2.out hb3)
          obtain ⟨p3, c3, hv3⟩ := ownG_len ho3
          generalize (M.L.take fn ++ [x] ++ M.L.drop kk).length = l3 at hv3
          subst hv3
          have hOwn3 := Lib.hid ho3
          refine hK.out _ _ (fun _ => HS.out _ hBz3.out) ?_
          clear hK K ho3 hg3 hb3
          try simp only [Act.put, List.setIfInBounds_toArray, List.set_cons_zero, List.set_cons_succ]
          refine AnyL.ready (rs := [19]) (by kernel_rfl) (by simp) ?_
          refine (AllL.cons (o := { dst := some 37, op := Op.nilCheck (Operand.tmp 18), type := 0, pos := "ref.go:81", after := #[{ on := 0, ground := Ground.data }, { on := 0, ground := Ground.phase }, { on := 1, ground := Ground.phase }, { on := 2, ground := Ground.phase }, { on := 3, ground := Ground.phase }, { on := 4, ground := Ground.phase }, { on := 5, ground := Ground.phase }, { on := 6, ground := Ground.phase }, { on := 7, ground := Ground.phase }, { on := 8, ground := Ground.phase }, { on := 9, ground := Ground.phase }, { on := 10, ground := Ground.phase }, { on := 11, ground := Ground.phase }, { on := 12, ground := Ground.phase }, { on := 13, ground := Ground.phase }, { on := 14, ground := Ground.phase }, { on := 15, ground := Ground.phase }, { on := 16, ground := Ground.phase }, { on := 17, ground := Ground.phase }, { on := 18, ground := Ground.phase }], guard := none }) rfl (fun K hK => ?_) AllL.nil)
          go_simp
          refine hK.out _ _ (fun _ => HS.out _ hBz3.out) ?_
          clear hK K
          try simp only [Act.put, List.setIfInBounds_toArray, List.set_cons_zero, List.set_cons_succ]
          refine AnyL.ready (rs := [20]) (by kernel_rfl) (by simp) ?_
          refine (AllL.cons (o := { dst := some 38, op := Op.fieldAddr 52 (Operand.tmp 37) 0, type := 0, pos := "ref.go:81", after := #[{ on := 19, ground := Ground.data }, { on := 0, ground := Ground.phase }, { on := 1, ground := Ground.phase }, { on := 2, ground := Ground.phase }, { on := 3, ground := Ground.phase }, { on := 4, ground := Ground.phase }, { on := 5, ground := Ground.phase }, { on := 6, ground := Ground.phase }, { on := 7, ground := Ground.phase }, { on := 8, ground := Ground.phase }, { on := 9, ground := Ground.phase }, { on := 10, ground := Ground.phase }, { on := 11, ground := Ground.phase }, { on := 12, ground := Ground.phase }, { on := 13, ground := Ground.phase }, { on := 14, ground := Ground.phase }, { on := 15, ground := Ground.phase }, { on := 16, ground := Ground.phase }, { on := 17, ground := Ground.phase }, { on := 18, ground := Ground.phase }], guard := none }) rfl (fun K hK => ?_) AllL.nil)
          go_simp
          refine hK.out _ _ (fun _ => HS.out _ hBz3.out) ?_
          clear hK K
          try simp only [Act.put, List.setIfInBounds_toArray, List.set_cons_zero, List.set_cons_succ]
          refine AnyL.ready (rs := [21]) (by kernel_rfl) (by simp) ?_
          refine (AllL.cons (o := { dst := none, op := Op.store 50 (Operand.tmp 38) (Operand.tmp 36), type := 0, pos := "ref.go:81", after := #[{ on := 20, ground := Ground.data }, { on := 18, ground := Ground.data }, { on := 18, ground := Ground.chain }, { on := 0, ground := Ground.phase }, { on := 1, ground := Ground.phase }, { on := 2, ground := Ground.phase }, { on := 3, ground := Ground.phase }, { on := 4, ground := Ground.phase }, { on := 5, ground := Ground.phase }, { on := 6, ground := Ground.phase }, { on := 7, ground := Ground.phase }, { on := 8, ground := Ground.phase }, { on := 9, ground := Ground.phase }, { on := 10, ground := Ground.phase }, { on := 11, ground := Ground.phase }, { on := 12, ground := Ground.phase }, { on := 13, ground := Ground.phase }, { on := 14, ground := Ground.phase }, { on := 15, ground := Ground.phase }, { on := 16, ground := Ground.phase }, { on := 17, ground := Ground.phase }, { on := 18, ground := Ground.phase }], guard := none }) rfl (fun K hK => ?_) AllL.nil)
          obtain ⟨s0, -, -, -, s4, -⟩ := HS.out _ hBz3.out
          go_simp
          refine hK.out _ _ (fun h => absurd rfl h) ?_
          clear hK K s0 s4
          try simp only [Act.put, List.setIfInBounds_toArray, List.set_cons_zero, List.set_cons_succ]
          refine AnyL.done (by kernel_rfl) ?_ _
          go_wp2_with (fail)
          go_end0
          have hpf := (HR1.out.bel hBz3.out).put_files (hOwn3.out.low (Nat.le_trans hn (Nat.le_of_lt hz1)))
          rw [HI2.out]
          exact ⟨⟨_, rfl⟩, _, hpf, fun k hk => Nat.le_trans HB.out.size (hOwn3.out.lt k hk).1, ((Keep.of_bel (HB.out.trans hBz3.out) [b]).setCell (p := ⟨b, 0, none⟩) (Or.inl (by simp)) _)⟩
        · go_simp
          refine hK.out _ _ (fun _ => HS.out _ (((Bel.refl w1).drew.alloc _).alloc _)) ?_
          clear hK K
          try simp only [Act.put, List.setIfInBounds_toArray, List.set_cons_zero, List.set_cons_succ]
          refine AnyL.ready (rs := [8]) (by kernel_rfl) (by simp) ?_
          refine (AllL.cons (o := { dst := some 26, op := Op.call { callee := Callee.builtin Builtin.append, args := #[Operand.tmp 19, Operand.tmp 25], argTypes := #[50, 50] }, type := 50, pos := "ref.go:81", after := #[{ on := 1, ground := Ground.data }, { on := 7, ground := Ground.data }], guard := none }) rfl (fun K hK => ?_) AllL.nil)
          refine step_append_seg (n := w1.heap.size) (v := .slice (some ⟨w1.heap.size, 0, none⟩) 0 0) fileOk rfl (.tmp 19) (.tmp 25) rfl rfl ((ownG_none (heap_alloc_new w1.drew _) (Nat.le_refl _)).alloc _) (M.L.take fn) rfl (LOW.out _ ((((Bel.refl w1).drew.alloc _).alloc _))) (LT1.out) (LT2.out) (Bel.size ((((Bel.refl w1).drew.alloc _).alloc _))) ?_
          intro v1 z1 ho1 hg1 hb1
          have hBz1 := Lib.hid (Bel.trans_below' ((((Bel.refl w1).drew.alloc _).alloc _)) hb1)
          have hOwn1 := Lib.hid (show OwnG fileEl w1.heap.size z1 v1 (M.L.take fn) from ho1)
          have hLit := Lib.hid (show z1.heap[w1.heap.size + 1]? = some (.cells #[.string ⟨x.name.toArray⟩, .string ⟨x.bytes.toArray⟩, .int .i64 x.safe] 64) from at_grown hg1 (at_new (by simp)) (by simp [Value.ownBlock]))
          refine hK.out _ _ (fun _ => HS.out _ hBz1.out) ?_
          clear hK K ho1 hg1 hb1
          try simp only [Act.put, List.setIfInBounds_toArray, List.set_cons_zero, List.set_cons_succ]
          have hBz := Lib.hid hBz1.out
          refine AnyL.ready (rs := [11]) (by kernel_rfl) (by simp) ?_
          refine (AllL.cons (o := { dst := some 29, op := Op.call { callee := Callee.builtin Builtin.append, args := #[Operand.tmp 26, Operand.tmp 28], argTypes := #[50, 50] }, type := 50, pos := "ref.go:81", after := #[{ on := 8, ground := Ground.data }, { on := 10, ground := Ground.data }, { on := 8, ground := Ground.chain }], guard := none }) rfl (fun K hK => ?_) AllL.nil)
          refine step_append_seg (n := w1.heap.size) fileOk rfl (.tmp 26) (.tmp 28) rfl rfl hOwn1.out [x] rfl (lit_src hLit.out) (LT3.out) (LT4.out) (Bel.size hBz.out) ?_
          intro v2 z2 ho2 hg2 hb2
          have hBz2 := Lib.hid (Bel.trans_below' hBz.out hb2)
          have hOwn2 := Lib.hid ho2
          refine hK.out _ _ (fun _ => HS.out _ hBz2.out) ?_
          clear hK K ho2 hg2 hb2
          try simp only [Act.put, List.setIfInBounds_toArray, List.set_cons_zero, List.set_cons_succ]
          refine AnyL.ready (rs := [18]) (by kernel_rfl) (by simp) ?_
          refine (AllL.cons (o := { dst := some 36, op := Op.call { callee := Callee.builtin Builtin.append, args := #[Operand.tmp 29, Operand.tmp 35], argTypes := #[50, 50] }, type := 50, pos := "ref.go:81", after := #[{ on := 11, ground := Ground.data }, { on := 17, ground := Ground.data }, { on := 11, ground := Ground.chain }], guard := none }) rfl (fun K hK => ?_) AllL.nil)
          refine step_append_seg (n := w1.heap.size) fileOk rfl (.tmp 29) (.tmp 35) rfl rfl hOwn2.out (M.L.drop kk) rfl (HIGH.out _ hBz2.out) (LT5.out) (LT6.out) (Bel.size hBz2.out) ?_
          intro v3 z3 ho3 hg3 hb3
          have hBz3 := Lib.hid (Bel.trans_below' hBz2.out hb3)
          obtain ⟨p3, c3, hv3⟩ := ownG_len ho3
          generalize (M.L.take fn ++ [x] ++ M.L.drop kk).length = l3 at hv3
          subst hv3
          have hOwn3 := Lib.hid ho3
          refine hK.out _ _ (fun _ => HS.out _ hBz3.out) ?_
          clear hK K ho3 hg3 hb3
          try simp only [Act.put, List.setIfInBounds_toArray, List.set_cons_zero, List.set_cons_succ]
          refine AnyL.ready (rs := [19]) (by kernel_rfl) (by simp) ?_
          refine (AllL.cons (o := { dst := some 37, op := Op.nilCheck (Operand.tmp 18), type := 0, pos := "ref.go:81", after := #[{ on := 0, ground := Ground.data }, { on := 0, ground := Ground.phase }, { on := 1, ground := Ground.phase }, { on := 2, ground := Ground.phase }, { on := 3, ground := Ground.phase }, { on := 4, ground := Ground.phase }, { on := 5, ground := Ground.phase }, { on := 6, ground := Ground.phase }, { on := 7, ground := Ground.phase }, { on := 8, ground := Ground.phase }, { on := 9, ground := Ground.phase }, { on := 10, ground := Ground.phase }, { on := 11, ground := Ground.phase }, { on := 12, ground := Ground.phase }, { on := 13, ground := Ground.phase }, { on := 14, ground := Ground.phase }, { on := 15, ground := Ground.phase }, { on := 16, ground := Ground.phase }, { on := 17, ground := Ground.phase }, { on := 18, ground := Ground.phase }], guard := none }) rfl (fun K hK => ?_) AllL.nil)
          go_simp
          refine hK.out _ _ (fun _ => HS.out _ hBz3.out) ?_
          clear hK K
          try simp only [Act.put, List.setIfInBounds_toArray, List.set_cons_zero, List.set_cons_succ]
          refine AnyL.ready (rs := [20]) (by kernel_rfl) (by simp) ?_
          refine (AllL.cons (o := { dst := some 38, op := Op.fieldAddr 52 (Operand.tmp 37) 0, type := 0, pos := "ref.go:81", after := #[{ on := 19, ground := Ground.data }, { on := 0, ground := Ground.phase }, { on := 1, ground := Ground.phase }, { on := 2, ground := Ground.phase }, { on := 3, ground := Ground.phase }, { on := 4, ground := Ground.phase }, { on := 5, ground := Ground.phase }, { on := 6, ground := Ground.phase }, { on := 7, ground := Ground.phase }, { on := 8, ground := Ground.phase }, { on := 9, ground := Ground.phase }, { on := 10, ground := Ground.phase }, { on := 11, ground := Ground.phase }, { on := 12, ground := Ground.phase }, { on := 13, ground := Ground.phase }, { on := 14, ground := Ground.phase }, { on := 15, ground := Ground.phase }, { on := 16, ground := Ground.phase }, { on := 17, ground := Ground.phase }, { on := 18, ground := Ground.phase }], guard := none }) rfl (fun K hK => ?_) AllL.nil)
          go_simp
          refine hK.out _ _ (fun _ => HS.out _ hBz3.out) ?_
          clear hK K
          try simp only [Act.put, List.setIfInBounds_toArray, List.set_cons_zero, List.set_cons_succ]
          refine AnyL.ready (rs := [21]) (by kernel_rfl) (by simp) ?_
          refine (AllL.cons (o := { dst := none, op := Op.store 50 (Operand.tmp 38) (Operand.tmp 36), type := 0, pos := "ref.go:81", after := #[{ on := 20, ground := Ground.data }, { on := 18, ground := Ground.data }, { on := 18, ground := Ground.chain }, { on := 0, ground := Ground.phase }, { on := 1, ground := Ground.phase }, { on := 2, ground := Ground.phase }, { on := 3, ground := Ground.phase }, { on := 4, ground := Ground.phase }, { on := 5, ground := Ground.phase }, { on := 6, ground := Ground.phase }, { on := 7, ground := Ground.phase }, { on := 8, ground := Ground.phase }, { on := 9, ground := Ground.phase }, { on := 10, ground := Ground.phase }, { on := 11, ground := Ground.phase }, { on := 12, ground := Ground.phase }, { on := 13, ground := Ground.phase }, { on := 14, ground := Ground.phase }, { on := 15, ground := Ground.phase }, { on := 16, ground := Ground.phase }, { on := 17, ground := Ground.phase }, { on := 18, ground := Ground.phase }], guard := none }) rfl (fun K hK => ?_) AllL.nil)
          obtain ⟨s0, -, -, -, s4, -⟩ := HS.out _ hBz3.out
          go_simp
          refine hK.out _ _ (fun h => absurd rfl h) ?_
          clear hK K s0 s4
          try simp only [Act.put, List.setIfInBounds_toArray, List.set_cons_zero, List.set_cons_succ]
          refine AnyL.done (by kernel_rfl) ?_ _
          go_wp2_with (fail)
          go_end0
          have hpf := (HR1.out.bel hBz3.out).put_files (hOwn3.out.low (Nat.le_trans hn (Nat.le_of_lt hz1)))
          rw [HI2.out]
          exact ⟨⟨_, rfl⟩, _, hpf, fun k hk => Nat.le_trans HB.out.size (hOwn3.out.lt k hk).1, ((Keep.of_bel (HB.out.trans hBz3.out) [b]).setCell (p := ⟨b, 0, none⟩) (Or.inl (by simp)) _)⟩
      · go_simp
        refine hK.out _ _ (fun _ => HS.out _ ((Bel.refl w1).drew.alloc _)) ?_
        clear hK K
        try simp only [Act.put, List.setIfInBounds_toArray, List.set_cons_zero, List.set_cons_succ]
        refine AnyL.ready (rs := [1]) (by kernel_rfl) (by simp) ?_
        refine (AllL.cons (o := { dst := some 19, op := Op.buildSlice 50 0 #[], type := 50, pos := "ref.go:81", after := #[], guard := none }) rfl (fun K hK => ?_) AllL.nil)
        go_simp
        refine hK.out _ _ (fun _ => HS.out _ (((Bel.refl w1).drew.alloc _).alloc _)) ?_
        clear hK K
        try simp only [Act.put, List.setIfInBounds_toArray, List.set_cons_zero, List.set_cons_succ]
        refine AnyL.ready (rs := [8]) (by kernel_rfl) (by simp) ?_
        refine (AllL.cons (o := { dst := some 26, op := Op.call { callee := Callee.builtin Builtin.append, args := #[Operand.tmp 19, Operand.tmp 25], argTypes := #[50, 50] }, type := 50, pos := "ref.go:81", after := #[{ on := 1, ground := Ground.data }, { on := 7, ground := Ground.data }], guard := none }) rfl (fun K hK => ?_) AllL.nil)
        refine step_append_seg (n := w1.heap.size) (v := .slice (some ⟨w1.heap.size + 1, 0, none⟩) 0 0) fileOk rfl (.tmp 19) (.tmp 25) rfl rfl (ownG_none (n := w1.heap.size) (at_new (by simp)) (by simp)) (M.L.take fn) rfl (LOW.out _ ((((Bel.refl w1).drew.alloc _).alloc _))) (LT1.out) (LT2.out) (Bel.size ((((Bel.refl w1).drew.alloc _).alloc _))) ?_
        intro v1 z1 ho1 hg1 hb1
        have hBz1 := Lib.hid (Bel.trans_below' ((((Bel.refl w1).drew.alloc _).alloc _)) hb1)
        have hOwn1 := Lib.hid (show OwnG fileEl w1.heap.size z1 v1 (M.L.take fn) from ho1)
        have hLit := Lib.hid (show z1.heap[w1.heap.size]? = some (.cells #[.string ⟨x.name.toArray⟩, .string ⟨x.bytes.toArray⟩, .int .i64 x.safe] 64) from at_grown hg1 (at_old (at_new (by simp))) (by simp [Value.ownBlock]))
        refine hK.out _ _ (fun _ => HS.out _ hBz1.out) ?_
        clear hK K ho1 hg1 hb1
        try simp only [Act.put, List.setIfInBounds_toArray, List.set_cons_zero, List.set_cons_succ]
        have hBz := Lib.hid hBz1.out
        refine AnyL.ready (rs := [11]) (by kernel_rfl) (by simp) ?_
        refine (AllL.cons (o := { dst := some 29, op := Op.call { callee := Callee.builtin Builtin.append, args := #[Operand.tmp 26, Operand.tmp 28], argTypes := #[50, 50] }, type := 50, pos := "ref.go:81", after := #[{ on := 8, ground := Ground.data }, { on := 10, ground := Ground.data }, { on := 8, ground := Ground.chain }], guard := none }) rfl (fun K hK => ?_) AllL.nil)
        refine step_append_seg (n := w1.heap.size) fileOk rfl (.tmp 26) (.tmp 28) rfl rfl hOwn1.out [x] rfl (lit_src hLit.out) (LT3.out) (LT4.out) (Bel.size hBz.out) ?_
        intro v2 z2 ho2 hg2 hb2
        have hBz2 := Lib.hid (Bel.trans_below' hBz.out hb2)
        have hOwn2 := Lib.hid ho2
        refine hK.out _ _ (fun _ => HS.out _ hBz2.out) ?_
        clear hK K ho2 hg2 hb2
        try simp only [Act.put, List.setIfInBounds_toArray, List.set_cons_zero, List.set_cons_succ]
        refine AnyL.ready (rs := [18]) (by kernel_rfl) (by simp) ?_
        refine (AllL.cons (o := { dst := some 36, op := Op.call { callee := Callee.builtin Builtin.append, args := #[Operand.tmp 29, Operand.tmp 35], argTypes := #[50, 50] }, type := 50, pos := "ref.go:81", after := #[{ on := 11, ground := Ground.data }, { on := 17, ground := Ground.data }, { on := 11, ground := Ground.chain }], guard := none }) rfl (fun K hK => ?_) AllL.nil)
        refine step_append_seg (n := w1.heap.size) fileOk rfl (.tmp 29) (.tmp 35) rfl rfl hOwn2.out (M.L.drop kk) rfl (HIGH.out _ hBz2.out) (LT5.out) (LT6.out) (Bel.size hBz2.out) ?_
        intro v3 z3 ho3 hg3 hb3
        have hBz3 := Lib.hid (Bel.trans_below' hBz2.out hb3)
        obtain ⟨p3, c3, hv3⟩ := ownG_len ho3
        generalize (M.L.take fn ++ [x] ++ M.L.drop kk).length = l3 at hv3
        subst hv3
        have hOwn3 := Lib.hid ho3
        refine hK.out _ _ (fun _ => HS.out _ hBz3.out) ?_
        clear hK K ho3 hg3 hb3
        try simp only [Act.put, List.setIfInBounds_toArray, List.set_cons_zero, List.set_cons_succ]
        refine AnyL.ready (rs := [19]) (by kernel_rfl) (by simp) ?_
        refine (AllL.cons (o := { dst := some 37, op := Op.nilCheck (Operand.tmp 18), type := 0, pos := "ref.go:81", after := #[{ on := 0, ground := Ground.data }, { on := 0, ground := Ground.phase }, { on := 1, ground := Ground.phase }, { on := 2, ground := Ground.phase }, { on := 3, ground := Ground.phase }, { on := 4, ground := Ground.phase }, { on := 5, ground := Ground.phase }, { on := 6, ground := Ground.phase }, { on := 7, ground := Ground.phase }, { on := 8, ground := Ground.phase }, { on := 9, ground := Ground.phase }, { on := 10, ground := Ground.phase }, { on := 11, ground := Ground.phase }, { on := 12, ground := Ground.phase }, { on := 13, ground := Ground.phase }, { on := 14, ground := Ground.phase }, { on := 15, ground := Ground.phase }, { on := 16, ground := Ground.phase }, { on := 17, ground := Ground.phase }, { on := 18, ground := Ground.phase }], guard := none }) rfl (fun K hK => ?_) AllL.nil)
        go_simp
        refine hK.out _ _ (fun _ => HS.out _ hBz3.out) ?_
        clear hK K
        try simp only [Act.put, List.setIfInBounds_toArray, List.set_cons_zero, List.set_cons_succ]
        refine AnyL.ready (rs := [20]) (by kernel_rfl) (by simp) ?_
        refine (AllL.cons (o := { dst := some 38, op := Op.fieldAddr 52 (Operand.tmp 37) 0, type := 0, pos := "ref.go:81", after := #[{ on := 19, ground := Ground.data }, { on := 0, ground := Ground.phase }, { on := 1, ground := Ground.phase }, { on := 2, ground := Ground.phase }, { on := 3, ground := Ground.phase }, { on := 4, ground := Ground.phase }, { on := 5, ground := Ground.phase }, { on := 6, ground := Ground.phase }, { on := 7, ground := Ground.phase }, { on := 8, ground := Ground.phase }, { on := 9, ground := Ground.phase }, { on := 10, ground := Ground.phase }, { on := 11, ground := Ground.phase }, { on := 12, ground := Ground.phase }, { on := 13, ground := Ground.phase }, { on := 14, ground := Ground.phase }, { on := 15, ground := Ground.phase }, { on := 16, ground := Ground.phase }, { on := 17, ground := Ground.phase }, { on := 18, ground := Ground.phase }], guard := none }) rfl (fun K hK => ?_) AllL.nil)
        go_simp
        refine hK.out _ _ (fun _ => HS.out _ hBz3.out) ?_
        clear hK K
        try simp only [Act.put, List.setIfInBounds_toArray, List.set_cons_zero, List.set_cons_succ]
        refine AnyL.ready (rs := [21]) (by kernel_rfl) (by simp) ?_
        refine (AllL.cons (o := { dst := none, op := Op.store 50 (Operand.tmp 38) (Operand.tmp 36), type := 0, pos := "ref.go:81", after := #[{ on := 20, ground := Ground.data }, { on := 18, ground := Ground.data }, { on := 18, ground := Ground.chain }, { on := 0, ground := Ground.phase }, { on := 1, ground := Ground.phase }, { on := 2, ground := Ground.phase }, { on := 3, ground := Ground.phase }, { on := 4, ground := Ground.phase }, { on := 5, ground := Ground.phase }, { on := 6, ground := Ground.phase }, { on := 7, ground := Ground.phase }, { on := 8, ground := Ground.phase }, { on := 9, ground := Ground.phase }, { on := 10, ground := Ground.phase }, { on := 11, ground := Ground.phase }, { on := 12, ground := Ground.phase }, { on := 13, ground := Ground.phase }, { on := 14, ground := Ground.phase }, { on := 15, ground := Ground.phase }, { on := 16, ground := Ground.phase }, { on := 17, ground := Ground.phase }, { on := 18, ground := Ground.phase }], guard := none }) rfl (fun K hK => ?_) AllL.nil)
        obtain ⟨s0, -, -, -, s4, -⟩ := HS.out _ hBz3.out
        go_simp
        refine hK.out _ _ (fun h => absurd rfl h) ?_
        clear hK K s0 s4
        try simp only [Act.put, List.setIfInBounds_toArray, List.set_cons_zero, List.set_cons_succ]
        refine AnyL.done (by kernel_rfl) ?_ _
        go_wp2_with (fail)
        go_end0
        have hpf := (HR1.out.bel hBz3.out).put_files (hOwn3.out.low (Nat.le_trans hn (Nat.le_of_lt hz1)))
        rw [HI2.out]
        exact ⟨⟨_, rfl⟩, _, hpf, fun k hk => Nat.le_trans HB.out.size (hOwn3.out.lt k hk).1, ((Keep.of_bel (HB.out.trans hBz3.out) [b]).setCell (p := ⟨b, 0, none⟩) (Or.inl (by simp)) _)⟩

end Go.Proofs.Ytedopiojidaeiaa
