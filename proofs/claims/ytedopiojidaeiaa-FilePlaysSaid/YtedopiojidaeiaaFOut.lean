/- moultref6's out: a file is not there any more. -/
import Derived.Test.YtedopiojidaeiaaFPut2
set_option linter.unusedSimpArgs false
set_option linter.unusedVariables false
namespace Go.Proofs.Ytedopiojidaeiaa
open Go.RowKit Go.Deep

theorem wrap_i64_in {n : Int} (h1 : -9223372036854775808 ≤ n) (h2 : n ≤ 9223372036854775807) : IntKind.i64.wrap n = n := by
  rw [IntKind.wrap_i64]
  try unfold wrap64
  omega
set_option maxHeartbeats 4000000 in
set_option maxRecDepth 20000 in
theorem out_any' (nl : List UInt8) (n₀ : Nat) (w : World) (b : Nat) (M : RS) (v : Value) (h : RefAt n₀ w b M v) (nm : ByteArray) (hnl : nm.data.toList = nl) (hL : M.L.length ≤ 100) (hn : n₀ ≤ w.heap.size) :
    Calls Try.prog 52 #[.pointer (some ⟨b, 0, none⟩), .string nm] w fun e w' => (∃ u, e = .returned u) ∧
      ∃ v', RefAt n₀ w' b { M with L := outS nl M.L } v' ∧ (v' = v ∨ ∀ k, v'.ownBlock = some k → w.heap.size ≤ k) ∧ Keep [b] w w' := by
  have HR := Lib.hid h
  have hlt := h.lt
  clear h
  go_enter Try.func52, Try.ntmps52
  go_wp2_with (fail)
  refine (find_any n₀ _ b M v nm HR.out (by omega)).mono ?_
  rintro e w1 ⟨rfl, hd⟩
  rw [hnl]
  have HI := Lib.hid (show outS nl M.L = if isN nl M.L then M.L.take (findN nl M.L) ++ M.L.drop (findN nl M.L + 1) else M.L from rfl)
  have HE := Lib.hid (show isN nl M.L = true → findN nl M.L < M.L.length from fun h => by
    rcases Nat.lt_or_ge (findN nl M.L) M.L.length with k | k
    · exact k
    · rw [is_end nl M.L (by omega)] at h; cases h)
  have hle := find_le nl M.L
  generalize findN nl M.L = fn at *
  have HB := Lib.hid hd.bel
  have HR1 := Lib.hid (HR.out.bel HB.out)
  have f0 := HR1.out.frozen 0
  obtain ⟨c0, -, -, -⟩ := HR1.out.cells
  have hbl : b < w1.heap.size := HR1.out.lt
  clear hd
  obtain ⟨n, hnn⟩ : ∃ n, n = M.L.length := ⟨_, rfl⟩
  rw [← hnn] at hL hle
  have HN := Lib.hid hnn
  clear hnn
  cases hI : isN nl M.L with
  | true =>
    have hfl : fn < n := by rw [HN.out]; exact HE.out hI
    rw [hI] at HI
    obtain ⟨kk, hkk⟩ : ∃ kk, kk = fn + 1 := ⟨_, rfl⟩
    rw [← hkk] at HI
    clear hI HE
    rcases HR1.out.own.2 with ⟨h1, h0⟩ | ⟨g, cap, cur, rfl, hg, hh, hc, hx, _⟩
    · have := HN.out; omega
    rw [← HN.out] at HR1 c0 hc
    clear hh
    unfold maxLen at hx
    have hfc : fn ≤ cap := by omega
    have hk1 : (fn : Int) + 1 ≤ (n : Int) := by omega
    have hk0 : (0 : Int) ≤ (fn : Int) + 1 := by omega
    have hwr : IntKind.i64.wrap ((fn : Int) + 1) = (fn : Int) + 1 := wrap_i64_in (by omega) (by omega)
    have hwn : ((fn : Int) + 1).toNat = fn + 1 := by omega
    have LOW := Lib.hid (fun y (hy : Bel w1 y) => src_low (y := y) (L := M.L) HR1.out.own hy fn (by rw [← HN.out]; omega))
    have HI2 := Lib.hid (show outS nl M.L = M.L.take fn ++ M.L.drop kk from HI.out)
    have LTK := Lib.hid (show (M.L.take fn).length ≤ 100 by rw [List.length_take]; have := HN.out; omega)
    have LDK := Lib.hid (show (M.L.drop kk).length ≤ 100 by rw [List.length_drop]; have := HN.out; omega)
    have LT1 := Lib.hid (show ([] : List FI).length + (M.L.take fn).length ≤ maxLen by have := LTK.out; unfold maxLen; simp only [List.length_nil]; omega)
    have LT2 := Lib.hid (show (([] : List FI).length + (M.L.take fn).length) * 40 ≤ 140737488355328 by have := LTK.out; simp only [List.length_nil]; omega)
    have LT5 := Lib.hid (show (M.L.take fn).length + (M.L.drop kk).length ≤ maxLen by have := LTK.out; have := LDK.out; unfold maxLen; omega)
    have LT6 := Lib.hid (show ((M.L.take fn).length + (M.L.drop kk).length) * 40 ≤ 140737488355328 by have := LTK.out; have := LDK.out; omega)
    by_cases hcf : cap = fn + 1
    · obtain rfl : n = fn + 1 := by omega
      subst hcf
      have hq : (fn : Int) ≤ (fn : Int) + 1 := by omega
      have HIGH := Lib.hid (fun y (hy : Bel w1 y) => (show SrcAt fileEl y (.slice (some ⟨g, 0, none⟩) 0 0) (M.L.drop kk) from src_end kk (by rw [hkk, ← HN.out]; exact Nat.le_refl _)))
      clear hkk
      have HS := Lib.hid (show ∀ y, Bel w1 y → (y.cell? ⟨b, 0, none⟩ = some (.slice (some ⟨g, 0, none⟩) (fn + 1) (fn + 1)) ∧ y.frozen? ⟨b, 0, none⟩ = false ∧ Bel w1 y) from fun y hy => ⟨cell_later hy c0, (hy.frozen _ _ hbl).trans f0, hy⟩)
      go_wp2_with (fail)
      refine region_L 19 (S := fun y => y.cell? ⟨b, 0, none⟩ = some (.slice (some ⟨g, 0, none⟩) (fn + 1) (fn + 1)) ∧ y.frozen? ⟨b, 0, none⟩ = false ∧ Bel w1 y) (by kernel_rfl) (HS.out _ (Bel.refl w1).drew) (fun hHeld => ?_)
      refine AnyL.take (i := 0) (oi := { dst := some 13, op := Op.move (Operand.tmp 0), type := 29, pos := "ref.go:158", after := #[], guard := none }) (v := ?_) rfl (by decide) (by kernel_rfl) (by kernel_rfl) (by kernel_rfl) (by kernel_rfl) (fun _ _ _ h => h) (Or.inl ⟨by rfl, ?_⟩) (by assumption) ?_
      rotate_left
      · (intro w hSw; (try dsimp only at hSw); first | (go_simp; done) | (go_simp; with_reducible rfl))
      try simp only [Act.put, List.setIfInBounds_toArray, List.set_cons_zero, List.set_cons_succ]
      refine AnyL.take (i := 2) (oi := { dst := some 15, op := Op.move (Operand.tmp 0), type := 29, pos := "ref.go:158", after := #[], guard := none }) (v := ?_) rfl (by decide) (by kernel_rfl) (by kernel_rfl) (by kernel_rfl) (by kernel_rfl) (fun _ _ _ h => h) (Or.inl ⟨by rfl, ?_⟩) (by assumption) ?_
      rotate_left
      · (intro w hSw; (try dsimp only at hSw); first | (go_simp; done) | (go_simp; with_reducible rfl))
      try simp only [Act.put, List.setIfInBounds_toArray, List.set_cons_zero, List.set_cons_succ]
      refine AnyL.take (i := 3) (oi := { dst := some 16, op := Op.nilCheck (Operand.tmp 15), type := 0, pos := "ref.go:158", after := #[{ on := 2, ground := Ground.data }], guard := none }) (v := ?_) rfl (by decide) (by kernel_rfl) (by kernel_rfl) (by kernel_rfl) (by kernel_rfl) (fun _ _ _ h => h) (Or.inl ⟨by rfl, ?_⟩) (by assumption) ?_
      rotate_left
      · (intro w hSw; (try dsimp only at hSw); first | (go_simp; done) | (go_simp; with_reducible rfl))
      try simp only [Act.put, List.setIfInBounds_toArray, List.set_cons_zero, List.set_cons_succ]
      refine AnyL.take (i := 4) (oi := { dst := some 17, op := Op.fieldAddr 52 (Operand.tmp 16) 0, type := 0, pos := "ref.go:158", after := #[{ on := 3, ground := Ground.data }], guard := none }) (v := ?_) rfl (by decide) (by kernel_rfl) (by kernel_rfl) (by kernel_rfl) (by kernel_rfl) (fun _ _ _ h => h) (Or.inl ⟨by rfl, ?_⟩) (by assumption) ?_
      rotate_left
      · (intro w hSw; (try dsimp only at hSw); first | (go_simp; done) | (go_simp; with_reducible rfl))
      try simp only [Act.put, List.setIfInBounds_toArray, List.set_cons_zero, List.set_cons_succ]
      refine AnyL.take (i := 5) (oi := { dst := some 18, op := Op.load 50 (Operand.tmp 17), type := 50, pos := "ref.go:158", after := #[{ on := 4, ground := Ground.data }], guard := none }) (v := ?_) rfl (by decide) (by kernel_rfl) (by kernel_rfl) (by kernel_rfl) (by kernel_rfl) (fun _ _ _ h => h) (Or.inl ⟨by rfl, ?_⟩) (by assumption) ?_
      rotate_left
      · (intro w hSw; (try dsimp only at hSw); first | (go_simp; done) | (go_simp; with_reducible rfl))
      try simp only [Act.put, List.setIfInBounds_toArray, List.set_cons_zero, List.set_cons_succ]
      refine AnyL.take (i := 6) (oi := { dst := some 19, op := Op.move (Operand.tmp 4), type := 3, pos := "ref.go:158", after := #[], guard := none }) (v := ?_) rfl (by decide) (by kernel_rfl) (by kernel_rfl) (by kernel_rfl) (by kernel_rfl) (fun _ _ _ h => h) (Or.inl ⟨by rfl, ?_⟩) (by assumption) ?_
      rotate_left
      · (intro w hSw; (try dsimp only at hSw); first | (go_simp; done) | (go_simp; with_reducible rfl))
      try simp only [Act.put, List.setIfInBounds_toArray, List.set_cons_zero, List.set_cons_succ]
      refine AnyL.take (i := 7) (oi := { dst := some 20, op := Op.slice 50 (Operand.tmp 18) none (some (Operand.tmp 19)) none, type := 50, pos := "ref.go:158", after := #[{ on := 5, ground := Ground.data }, { on := 6, ground := Ground.data }], guard := none }) (v := ?_) rfl (by decide) (by kernel_rfl) (by kernel_rfl) (by kernel_rfl) (by kernel_rfl) (fun _ _ _ h => h) (Or.inl ⟨by rfl, ?_⟩) (by assumption) ?_
      rotate_left
      · (intro w hSw; (try dsimp only at hSw); first | (go_simp; done) | (go_simp; with_reducible rfl))
      try simp only [Act.put, List.setIfInBounds_toArray, List.set_cons_zero, List.set_cons_succ]
      refine AnyL.take (i := 9) (oi := { dst := some 22, op := Op.move (Operand.tmp 0), type := 29, pos := "ref.go:158", after := #[], guard := none }) (v := ?_) rfl (by decide) (by kernel_rfl) (by kernel_rfl) (by kernel_rfl) (by kernel_rfl) (fun _ _ _ h => h) (Or.inl ⟨by rfl, ?_⟩) (by assumption) ?_
      rotate_left
      · (intro w hSw; (try dsimp only at hSw); first | (go_simp; done) | (go_simp; with_reducible rfl))
      try simp only [Act.put, List.setIfInBounds_toArray, List.set_cons_zero, List.set_cons_succ]
      refine AnyL.take (i := 10) (oi := { dst := some 23, op := Op.nilCheck (Operand.tmp 22), type := 0, pos := "ref.go:158", after := #[{ on := 9, ground := Ground.data }], guard := none }) (v := ?_) rfl (by decide) (by kernel_rfl) (by kernel_rfl) (by kernel_rfl) (by kernel_rfl) (fun _ _ _ h => h) (Or.inl ⟨by rfl, ?_⟩) (by assumption) ?_
      rotate_left
      · (intro w hSw; (try dsimp only at hSw); first | (go_simp; done) | (go_simp; with_reducible rfl))
      try simp only [Act.put, List.setIfInBounds_toArray, List.set_cons_zero, List.set_cons_succ]
      refine AnyL.take (i := 11) (oi := { dst := some 24, op := Op.fieldAddr 52 (Operand.tmp 23) 0, type := 0, pos := "ref.go:158", after := #[{ on := 10, ground := Ground.data }], guard := none }) (v := ?_) rfl (by decide) (by kernel_rfl) (by kernel_rfl) (by kernel_rfl) (by kernel_rfl) (fun _ _ _ h => h) (Or.inl ⟨by rfl, ?_⟩) (by assumption) ?_
      rotate_left
      · (intro w hSw; (try dsimp only at hSw); first | (go_simp; done) | (go_simp; with_reducible rfl))
      try simp only [Act.put, List.setIfInBounds_toArray, List.set_cons_zero, List.set_cons_succ]
      refine AnyL.take (i := 12) (oi := { dst := some 25, op := Op.load 50 (Operand.tmp 24), type := 50, pos := "ref.go:158", after := #[{ on := 11, ground := Ground.data }], guard := none }) (v := ?_) rfl (by decide) (by kernel_rfl) (by kernel_rfl) (by kernel_rfl) (by kernel_rfl) (fun _ _ _ h => h) (Or.inl ⟨by rfl, ?_⟩) (by assumption) ?_
      rotate_left
      · (intro w hSw; (try dsimp only at hSw); first | (go_simp; done) | (go_simp; with_reducible rfl))
      try simp only [Act.put, List.setIfInBounds_toArray, List.set_cons_zero, List.set_cons_succ]
      refine AnyL.take (i := 13) (oi := { dst := some 26, op := Op.move (Operand.tmp 4), type := 3, pos := "ref.go:158", after := #[], guard := none }) (v := ?_) rfl (by decide) (by kernel_rfl) (by kernel_rfl) (by kernel_rfl) (by kernel_rfl) (fun _ _ _ h => h) (Or.inl ⟨by rfl, ?_⟩) (by assumption) ?_
      rotate_left
      · (intro w hSw; (try dsimp only at hSw); first | (go_simp; done) | (go_simp; with_reducible rfl))
      try simp only [Act.put, List.setIfInBounds_toArray, List.set_cons_zero, List.set_cons_succ]
      refine AnyL.take (i := 14) (oi := { dst := some 27, op := Op.binOp BinOp.add 3 (Operand.tmp 26) (Operand.const (Value.int IntKind.i64 1)) 3, type := 3, pos := "ref.go:158", after := #[{ on := 13, ground := Ground.data }], guard := none }) (v := ?_) rfl (by decide) (by kernel_rfl) (by kernel_rfl) (by kernel_rfl) (by kernel_rfl) (fun _ _ _ h => h) (Or.inl ⟨by rfl, ?_⟩) (by assumption) ?_
      rotate_left
      · (intro w hSw; (try dsimp only at hSw); first | (go_simp; done) | (go_simp; with_reducible rfl))
      try simp only [Act.put, List.setIfInBounds_toArray, List.set_cons_zero, List.set_cons_succ]
      refine AnyL.take (i := 15) (oi := { dst := some 28, op := Op.slice 50 (Operand.tmp 25) (some (Operand.tmp 27)) none none, type := 50, pos := "ref.go:158", after := #[{ on := 12, ground := Ground.data }, { on := 14, ground := Ground.data }], guard := none }) (v := ?_) rfl (by decide) (by kernel_rfl) (by kernel_rfl) (by kernel_rfl) (by kernel_rfl) (fun _ _ _ h => h) (Or.inl ⟨by rfl, ?_⟩) (by assumption) ?_
      rotate_left
      · (intro w hSw; (try dsimp only at hSw); first | (go_simp; done) | (go_simp; with_reducible rfl))
      try simp only [Act.put, List.setIfInBounds_toArray, List.set_cons_zero, List.set_cons_succ]
      clear hHeld
      refine AnyL.ready (rs := [1]) (by kernel_rfl) (by simp) ?_
      refine (AllL.cons (o := { dst := some 14, op := Op.buildSlice 50 0 #[], type := 50, pos := "ref.go:158", after := #[], guard := none }) rfl (fun K hK => ?_) AllL.nil)
      go_simp
      refine hK.out _ _ (fun _ => HS.out _ ((Bel.refl w1).drew.alloc _)) ?_
      clear hK K
      try simp only [Act.put, List.setIfInBounds_toArray, List.set_cons_zero, List.set_cons_succ]
      refine AnyL.ready (rs := [8]) (by kernel_rfl) (by simp) ?_
      refine (AllL.cons (o := { dst := some 21, op := Op.call { callee := Callee.builtin Builtin.append, args := #[Operand.tmp 14, Operand.tmp 20], argTypes := #[50, 50] }, type := 50, pos := "ref.go:158", after := #[{ on := 1, ground := Ground.data }, { on := 7, ground := Ground.data }], guard := none }) rfl (fun K hK => ?_) AllL.nil)
      refine step_append_seg (n := w1.heap.size) (v := .slice (some ⟨w1.heap.size, 0, none⟩) 0 0) fileOk rfl (.tmp 14) (.tmp 20) rfl rfl (ownG_none (heap_alloc_new w1.drew _) (Nat.le_refl _)) (M.L.take fn) rfl (LOW.out _ ((Bel.refl w1).drew.alloc _)) (LT1.out) (LT2.out) (Bel.size ((Bel.refl w1).drew.alloc _)) ?_
      intro v1 z1 ho1 hg1 hb1
      have hBz1 := Lib.hid (Bel.trans_below' ((Bel.refl w1).drew.alloc _) hb1)
      have hOwn1 := Lib.hid (show OwnG fileEl w1.heap.size z1 v1 (M.L.take fn) from ho1)
      refine hK.out _ _ (fun _ => HS.out _ hBz1.out) ?_
      clear hK K ho1 hg1 hb1
      try simp only [Act.put, List.setIfInBounds_toArray, List.set_cons_zero, List.set_cons_succ]
      refine AnyL.ready (rs := [16]) (by kernel_rfl) (by simp) ?_
      refine (AllL.cons (o := { dst := some 29, op := Op.call { callee := Callee.builtin Builtin.append, args := #[Operand.tmp 21, Operand.tmp 28], argTypes := #[50, 50] }, type := 50, pos := "ref.go:158", after := #[{ on := 8, ground := Ground.data }, { on := 15, ground := Ground.data }, { on := 8, ground := Ground.chain }], guard := none }) rfl (fun K hK => ?_) AllL.nil)
      refine step_append_seg (n := w1.heap.size) fileOk rfl (.tmp 21) (.tmp 28) rfl rfl hOwn1.out (M.L.drop kk) rfl (HIGH.out _ hBz1.out) (LT5.out) (LT6.out) (Bel.size hBz1.out) ?_
      intro v3 z3 ho3 hg3 hb3
      have hBz3 := Lib.hid (Bel.trans_below' hBz1.out hb3)
      obtain ⟨p3, c3, hv3⟩ := ownG_len ho3
      generalize (M.L.take fn ++ M.L.drop kk).length = l3 at hv3
      subst hv3
      have hOwn3 := Lib.hid ho3
      refine hK.out _ _ (fun _ => HS.out _ hBz3.out) ?_
      clear hK K ho3 hg3 hb3
      try simp only [Act.put, List.setIfInBounds_toArray, List.set_cons_zero, List.set_cons_succ]
      refine AnyL.ready (rs := [17]) (by kernel_rfl) (by simp) ?_
      refine (AllL.cons (o := { dst := some 30, op := Op.nilCheck (Operand.tmp 13), type := 0, pos := "ref.go:158", after := #[{ on := 0, ground := Ground.data }, { on := 0, ground := Ground.phase }, { on := 1, ground := Ground.phase }, { on := 2, ground := Ground.phase }, { on := 3, ground := Ground.phase }, { on := 4, ground := Ground.phase }, { on := 5, ground := Ground.phase }, { on := 6, ground := Ground.phase }, { on := 7, ground := Ground.phase }, { on := 8, ground := Ground.phase }, { on := 9, ground := Ground.phase }, { on := 10, ground := Ground.phase }, { on := 11, ground := Ground.phase }, { on := 12, ground := Ground.phase }, { on := 13, ground := Ground.phase }, { on := 14, ground := Ground.phase }, { on := 15, ground := Ground.phase }, { on := 16, ground := Ground.phase }], guard := none }) rfl (fun K hK => ?_) AllL.nil)
      go_simp
      refine hK.out _ _ (fun _ => HS.out _ hBz3.out) ?_
      clear hK K
      try simp only [Act.put, List.setIfInBounds_toArray, List.set_cons_zero, List.set_cons_succ]
      refine AnyL.ready (rs := [18]) (by kernel_rfl) (by simp) ?_
      refine (AllL.cons (o := { dst := some 31, op := Op.fieldAddr 52 (Operand.tmp 30) 0, type := 0, pos := "ref.go:158", after := #[{ on := 17, ground := Ground.data }, { on := 0, ground := Ground.phase }, { on := 1, ground := Ground.phase }, { on := 2, ground := Ground.phase }, { on := 3, ground := Ground.phase }, { on := 4, ground := Ground.phase }, { on := 5, ground := Ground.phase }, { on := 6, ground := Ground.phase }, { on := 7, ground := Ground.phase }, { on := 8, ground := Ground.phase }, { on := 9, ground := Ground.phase }, { on := 10, ground := Ground.phase }, { on := 11, ground := Ground.phase }, { on := 12, ground := Ground.phase }, { on := 13, ground := Ground.phase }, { on := 14, ground := Ground.phase }, { on := 15, ground := Ground.phase }, { on := 16, ground := Ground.phase }], guard := none }) rfl (fun K hK => ?_) AllL.nil)
      go_simp
      refine hK.out _ _ (fun _ => HS.out _ hBz3.out) ?_
      clear hK K
      try simp only [Act.put, List.setIfInBounds_toArray, List.set_cons_zero, List.set_cons_succ]
      refine AnyL.ready (rs := [19]) (by kernel_rfl) (by simp) ?_
      refine (AllL.cons (o := { dst := none, op := Op.store 50 (Operand.tmp 31) (Operand.tmp 29), type := 0, pos := "ref.go:158", after := #[{ on := 18, ground := Ground.data }, { on := 16, ground := Ground.data }, { on := 16, ground := Ground.chain }, { on := 0, ground := Ground.phase }, { on := 1, ground := Ground.phase }, { on := 2, ground := Ground.phase }, { on := 3, ground := Ground.phase }, { on := 4, ground := Ground.phase }, { on := 5, ground := Ground.phase }, { on := 6, ground := Ground.phase }, { on := 7, ground := Ground.phase }, { on := 8, ground := Ground.phase }, { on := 9, ground := Ground.phase }, { on := 10, ground := Ground.phase }, { on := 11, ground := Ground.phase }, { on := 12, ground := Ground.phase }, { on := 13, ground := Ground.phase }, { on := 14, ground := Ground.phase }, { on := 15, ground := Ground.phase }, { on := 16, ground := Ground.phase }], guard := none }) rfl (fun K hK => ?_) AllL.nil)
      obtain ⟨s0, s4, -⟩ := HS.out _ hBz3.out
      go_simp
      refine hK.out _ _ (fun h => absurd rfl h) ?_
      clear hK K s0 s4
      try simp only [Act.put, List.setIfInBounds_toArray, List.set_cons_zero, List.set_cons_succ]
      refine AnyL.done (by kernel_rfl) ?_ _
      go_wp2_with (fail)
      go_end0
      have hpf := (HR1.out.bel hBz3.out).put_files (hOwn3.out.low (Nat.le_trans hn HB.out.size))
      rw [HI2.out]
      exact ⟨⟨_, rfl⟩, _, hpf, Or.inr (fun k hk => Nat.le_trans HB.out.size (hOwn3.out.lt k hk).1), ((Keep.of_bel (HB.out.trans hBz3.out) [b]).setCell (p := ⟨b, 0, none⟩) (Or.inl (by simp)) _)⟩

    · have HIGH := Lib.hid (fun y (hy : Bel w1 y) => (show SrcAt fileEl y (.slice (some ⟨g, (fn + 1) * 3, none⟩) (n - (fn + 1)) (cap - (fn + 1))) (M.L.drop kk) by rw [hkk, HN.out]; exact src_high (L := M.L) HR1.out.own hy (fn + 1) _ (by rw [← HN.out]; omega)))
      clear hkk
      have HS := Lib.hid (show ∀ y, Bel w1 y → (y.cell? ⟨b, 0, none⟩ = some (.slice (some ⟨g, 0, none⟩) n cap) ∧ y.frozen? ⟨b, 0, none⟩ = false ∧ Bel w1 y) from fun y hy => ⟨cell_later hy c0, (hy.frozen _ _ hbl).trans f0, hy⟩)
      go_wp2_with (fail)
      refine region_L 19 (S := fun y => y.cell? ⟨b, 0, none⟩ = some (.slice (some ⟨g, 0, none⟩) n cap) ∧ y.frozen? ⟨b, 0, none⟩ = false ∧ Bel w1 y) (by kernel_rfl) (HS.out _ (Bel.refl w1).drew) (fun hHeld => ?_)
      refine AnyL.take (i := 0) (oi := { dst := some 13, op := Op.move (Operand.tmp 0), type := 29, pos := "ref.go:158", after := #[], guard := none }) (v := ?_) rfl (by decide) (by kernel_rfl) (by kernel_rfl) (by kernel_rfl) (by kernel_rfl) (fun _ _ _ h => h) (Or.inl ⟨by rfl, ?_⟩) (by assumption) ?_
      rotate_left
      · (intro w hSw; (try dsimp only at hSw); first | (go_simp; done) | (go_simp; with_reducible rfl))
      try simp only [Act.put, List.setIfInBounds_toArray, List.set_cons_zero, List.set_cons_succ]
      refine AnyL.take (i := 2) (oi := { dst := some 15, op := Op.move (Operand.tmp 0), type := 29, pos := "ref.go:158", after := #[], guard := none }) (v := ?_) rfl (by decide) (by kernel_rfl) (by kernel_rfl) (by kernel_rfl) (by kernel_rfl) (fun _ _ _ h => h) (Or.inl ⟨by rfl, ?_⟩) (by assumption) ?_
      rotate_left
      · (intro w hSw; (try dsimp only at hSw); first | (go_simp; done) | (go_simp; with_reducible rfl))
      try simp only [Act.put, List.setIfInBounds_toArray, List.set_cons_zero, List.set_cons_succ]
      refine AnyL.take (i := 3) (oi := { dst := some 16, op := Op.nilCheck (Operand.tmp 15), type := 0, pos := "ref.go:158", after := #[{ on := 2, ground := Ground.data }], guard := none }) (v := ?_) rfl (by decide) (by kernel_rfl) (by kernel_rfl) (by kernel_rfl) (by kernel_rfl) (fun _ _ _ h => h) (Or.inl ⟨by rfl, ?_⟩) (by assumption) ?_
      rotate_left
      · (intro w hSw; (try dsimp only at hSw); first | (go_simp; done) | (go_simp; with_reducible rfl))
      try simp only [Act.put, List.setIfInBounds_toArray, List.set_cons_zero, List.set_cons_succ]
      refine AnyL.take (i := 4) (oi := { dst := some 17, op := Op.fieldAddr 52 (Operand.tmp 16) 0, type := 0, pos := "ref.go:158", after := #[{ on := 3, ground := Ground.data }], guard := none }) (v := ?_) rfl (by decide) (by kernel_rfl) (by kernel_rfl) (by kernel_rfl) (by kernel_rfl) (fun _ _ _ h => h) (Or.inl ⟨by rfl, ?_⟩) (by assumption) ?_
      rotate_left
      · (intro w hSw; (try dsimp only at hSw); first | (go_simp; done) | (go_simp; with_reducible rfl))
      try simp only [Act.put, List.setIfInBounds_toArray, List.set_cons_zero, List.set_cons_succ]
      refine AnyL.take (i := 5) (oi := { dst := some 18, op := Op.load 50 (Operand.tmp 17), type := 50, pos := "ref.go:158", after := #[{ on := 4, ground := Ground.data }], guard := none }) (v := ?_) rfl (by decide) (by kernel_rfl) (by kernel_rfl) (by kernel_rfl) (by kernel_rfl) (fun _ _ _ h => h) (Or.inl ⟨by rfl, ?_⟩) (by assumption) ?_
      rotate_left
      · (intro w hSw; (try dsimp only at hSw); first | (go_simp; done) | (go_simp; with_reducible rfl))
      try simp only [Act.put, List.setIfInBounds_toArray, List.set_cons_zero, List.set_cons_succ]
      refine AnyL.take (i := 6) (oi := { dst := some 19, op := Op.move (Operand.tmp 4), type := 3, pos := "ref.go:158", after := #[], guard := none }) (v := ?_) rfl (by decide) (by kernel_rfl) (by kernel_rfl) (by kernel_rfl) (by kernel_rfl) (fun _ _ _ h => h) (Or.inl ⟨by rfl, ?_⟩) (by assumption) ?_
      rotate_left
      · (intro w hSw; (try dsimp only at hSw); first | (go_simp; done) | (go_simp; with_reducible rfl))
      try simp only [Act.put, List.setIfInBounds_toArray, List.set_cons_zero, List.set_cons_succ]
      refine AnyL.take (i := 7) (oi := { dst := some 20, op := Op.slice 50 (Operand.tmp 18) none (some (Operand.tmp 19)) none, type := 50, pos := "ref.go:158", after := #[{ on := 5, ground := Ground.data }, { on := 6, ground := Ground.data }], guard := none }) (v := ?_) rfl (by decide) (by kernel_rfl) (by kernel_rfl) (by kernel_rfl) (by kernel_rfl) (fun _ _ _ h => h) (Or.inl ⟨by rfl, ?_⟩) (by assumption) ?_
      rotate_left
      · (intro w hSw; (try dsimp only at hSw); first | (go_simp; done) | (go_simp; with_reducible rfl))
      try simp only [Act.put, List.setIfInBounds_toArray, List.set_cons_zero, List.set_cons_succ]
      refine AnyL.take (i := 9) (oi := { dst := some 22, op := Op.move (Operand.tmp 0), type := 29, pos := "ref.go:158", after := #[], guard := none }) (v := ?_) rfl (by decide) (by kernel_rfl) (by kernel_rfl) (by kernel_rfl) (by kernel_rfl) (fun _ _ _ h => h) (Or.inl ⟨by rfl, ?_⟩) (by assumption) ?_
      rotate_left
      · (intro w hSw; (try dsimp only at hSw); first | (go_simp; done) | (go_simp; with_reducible rfl))
      try simp only [Act.put, List.setIfInBounds_toArray, List.set_cons_zero, List.set_cons_succ]
      refine AnyL.take (i := 10) (oi := { dst := some 23, op := Op.nilCheck (Operand.tmp 22), type := 0, pos := "ref.go:158", after := #[{ on := 9, ground := Ground.data }], guard := none }) (v := ?_) rfl (by decide) (by kernel_rfl) (by kernel_rfl) (by kernel_rfl) (by kernel_rfl) (fun _ _ _ h => h) (Or.inl ⟨by rfl, ?_⟩) (by assumption) ?_
      rotate_left
      · (intro w hSw; (try dsimp only at hSw); first | (go_simp; done) | (go_simp; with_reducible rfl))
      try simp only [Act.put, List.setIfInBounds_toArray, List.set_cons_zero, List.set_cons_succ]
      refine AnyL.take (i := 11) (oi := { dst := some 24, op := Op.fieldAddr 52 (Operand.tmp 23) 0, type := 0, pos := "ref.go:158", after := #[{ on := 10, ground := Ground.data }], guard := none }) (v := ?_) rfl (by decide) (by kernel_rfl) (by kernel_rfl) (by kernel_rfl) (by kernel_rfl) (fun _ _ _ h => h) (Or.inl ⟨by rfl, ?_⟩) (by assumption) ?_
      rotate_left
      · (intro w hSw; (try dsimp only at hSw); first | (go_simp; done) | (go_simp; with_reducible rfl))
      try simp only [Act.put, List.setIfInBounds_toArray, List.set_cons_zero, List.set_cons_succ]
      refine AnyL.take (i := 12) (oi := { dst := some 25, op := Op.load 50 (Operand.tmp 24), type := 50, pos := "ref.go:158", after := #[{ on := 11, ground := Ground.data }], guard := none }) (v := ?_) rfl (by decide) (by kernel_rfl) (by kernel_rfl) (by kernel_rfl) (by kernel_rfl) (fun _ _ _ h => h) (Or.inl ⟨by rfl, ?_⟩) (by assumption) ?_
      rotate_left
      · (intro w hSw; (try dsimp only at hSw); first | (go_simp; done) | (go_simp; with_reducible rfl))
      try simp only [Act.put, List.setIfInBounds_toArray, List.set_cons_zero, List.set_cons_succ]
      refine AnyL.take (i := 13) (oi := { dst := some 26, op := Op.move (Operand.tmp 4), type := 3, pos := "ref.go:158", after := #[], guard := none }) (v := ?_) rfl (by decide) (by kernel_rfl) (by kernel_rfl) (by kernel_rfl) (by kernel_rfl) (fun _ _ _ h => h) (Or.inl ⟨by rfl, ?_⟩) (by assumption) ?_
      rotate_left
      · (intro w hSw; (try dsimp only at hSw); first | (go_simp; done) | (go_simp; with_reducible rfl))
      try simp only [Act.put, List.setIfInBounds_toArray, List.set_cons_zero, List.set_cons_succ]
      refine AnyL.take (i := 14) (oi := { dst := some 27, op := Op.binOp BinOp.add 3 (Operand.tmp 26) (Operand.const (Value.int IntKind.i64 1)) 3, type := 3, pos := "ref.go:158", after := #[{ on := 13, ground := Ground.data }], guard := none }) (v := ?_) rfl (by decide) (by kernel_rfl) (by kernel_rfl) (by kernel_rfl) (by kernel_rfl) (fun _ _ _ h => h) (Or.inl ⟨by rfl, ?_⟩) (by assumption) ?_
      rotate_left
      · (intro w hSw; (try dsimp only at hSw); first | (go_simp; done) | (go_simp; with_reducible rfl))
      try simp only [Act.put, List.setIfInBounds_toArray, List.set_cons_zero, List.set_cons_succ]
      refine AnyL.take (i := 15) (oi := { dst := some 28, op := Op.slice 50 (Operand.tmp 25) (some (Operand.tmp 27)) none none, type := 50, pos := "ref.go:158", after := #[{ on := 12, ground := Ground.data }, { on := 14, ground := Ground.data }], guard := none }) (v := ?_) rfl (by decide) (by kernel_rfl) (by kernel_rfl) (by kernel_rfl) (by kernel_rfl) (fun _ _ _ h => h) (Or.inl ⟨by rfl, ?_⟩) (by assumption) ?_
      rotate_left
      · (intro w hSw; (try dsimp only at hSw); first | (go_simp; done) | (go_simp; with_reducible rfl))
      try simp only [Act.put, List.setIfInBounds_toArray, List.set_cons_zero, List.set_cons_succ]
      clear hHeld
      refine AnyL.ready (rs := [1]) (by kernel_rfl) (by simp) ?_
      refine (AllL.cons (o := { dst := some 14, op := Op.buildSlice 50 0 #[], type := 50, pos := "ref.go:158", after := #[], guard := none }) rfl (fun K hK => ?_) AllL.nil)
      go_simp
      refine hK.out _ _ (fun _ => HS.out _ ((Bel.refl w1).drew.alloc _)) ?_
      clear hK K
      try simp only [Act.put, List.setIfInBounds_toArray, List.set_cons_zero, List.set_cons_succ]
      refine AnyL.ready (rs := [8]) (by kernel_rfl) (by simp) ?_
      refine (AllL.cons (o := { dst := some 21, op := Op.call { callee := Callee.builtin Builtin.append, args := #[Operand.tmp 14, Operand.tmp 20], argTypes := #[50, 50] }, type := 50, pos := "ref.go:158", after := #[{ on := 1, ground := Ground.data }, { on := 7, ground := Ground.data }], guard := none }) rfl (fun K hK => ?_) AllL.nil)
      refine step_append_seg (n := w1.heap.size) (v := .slice (some ⟨w1.heap.size, 0, none⟩) 0 0) fileOk rfl (.tmp 14) (.tmp 20) rfl rfl (ownG_none (heap_alloc_new w1.drew _) (Nat.le_refl _)) (M.L.take fn) rfl (LOW.out _ ((Bel.refl w1).drew.alloc _)) (LT1.out) (LT2.out) (Bel.size ((Bel.refl w1).drew.alloc _)) ?_
      intro v1 z1 ho1 hg1 hb1
      have hBz1 := Lib.hid (Bel.trans_below' ((Bel.refl w1).drew.alloc _) hb1)
      have hOwn1 := Lib.hid (show OwnG fileEl w1.heap.size z1 v1 (M.L.take fn) from ho1)
      refine hK.out _ _ (fun _ => HS.out _ hBz1.out) ?_
      clear hK K ho1 hg1 hb1
      try simp only [Act.put, List.setIfInBounds_toArray, List.set_cons_zero, List.set_cons_succ]
      refine AnyL.ready (rs := [16]) (by kernel_rfl) (by simp) ?_
      refine (AllL.cons (o := { dst := some 29, op := Op.call { callee := Callee.builtin Builtin.append, args := #[Operand.tmp 21, Operand.tmp 28], argTypes := #[50, 50] }, type := 50, pos := "ref.go:158", after := #[{ on := 8, ground := Ground.data }, { on := 15, ground := Ground.data }, { on := 8, ground := Ground.chain }], guard := none }) rfl (fun K hK => ?_) AllL.nil)
      refine step_append_seg (n := w1.heap.size) fileOk rfl (.tmp 21) (.tmp 28) rfl rfl hOwn1.out (M.L.drop kk) rfl (HIGH.out _ hBz1.out) (LT5.out) (LT6.out) (Bel.size hBz1.out) ?_
      intro v3 z3 ho3 hg3 hb3
      have hBz3 := Lib.hid (Bel.trans_below' hBz1.out hb3)
      obtain ⟨p3, c3, hv3⟩ := ownG_len ho3
      generalize (M.L.take fn ++ M.L.drop kk).length = l3 at hv3
      subst hv3
      have hOwn3 := Lib.hid ho3
      refine hK.out _ _ (fun _ => HS.out _ hBz3.out) ?_
      clear hK K ho3 hg3 hb3
      try simp only [Act.put, List.setIfInBounds_toArray, List.set_cons_zero, List.set_cons_succ]
      refine AnyL.ready (rs := [17]) (by kernel_rfl) (by simp) ?_
      refine (AllL.cons (o := { dst := some 30, op := Op.nilCheck (Operand.tmp 13), type := 0, pos := "ref.go:158", after := #[{ on := 0, ground := Ground.data }, { on := 0, ground := Ground.phase }, { on := 1, ground := Ground.phase }, { on := 2, ground := Ground.phase }, { on := 3, ground := Ground.phase }, { on := 4, ground := Ground.phase }, { on := 5, ground := Ground.phase }, { on := 6, ground := Ground.phase }, { on := 7, ground := Ground.phase }, { on := 8, ground := Ground.phase }, { on := 9, ground := Ground.phase }, { on := 10, ground := Ground.phase }, { on := 11, ground := Ground.phase }, { on := 12, ground := Ground.phase }, { on := 13, ground := Ground.phase }, { on := 14, ground := Ground.phase }, { on := 15, ground := Ground.phase }, { on := 16, ground := Ground.phase }], guard := none }) rfl (fun K hK => ?_) AllL.nil)
      go_simp
      refine hK.out _ _ (fun _ => HS.out _ hBz3.out) ?_
      clear hK K
      try simp only [Act.put, List.setIfInBounds_toArray, List.set_cons_zero, List.set_cons_succ]
      refine AnyL.ready (rs := [18]) (by kernel_rfl) (by simp) ?_
      refine (AllL.cons (o := { dst := some 31, op := Op.fieldAddr 52 (Operand.tmp 30) 0, type := 0, pos := "ref.go:158", after := #[{ on := 17, ground := Ground.data }, { on := 0, ground := Ground.phase }, { on := 1, ground := Ground.phase }, { on := 2, ground := Ground.phase }, { on := 3, ground := Ground.phase }, { on := 4, ground := Ground.phase }, { on := 5, ground := Ground.phase }, { on := 6, ground := Ground.phase }, { on := 7, ground := Ground.phase }, { on := 8, ground := Ground.phase }, { on := 9, ground := Ground.phase }, { on := 10, ground := Ground.phase }, { on := 11, ground := Ground.phase }, { on := 12, ground := Ground.phase }, { on := 13, ground := Ground.phase }, { on := 14, ground := Ground.phase }, { on := 15, ground := Ground.phase }, { on := 16, ground := Ground.phase }], guard := none }) rfl (fun K hK => ?_) AllL.nil)
      go_simp
      refine hK.out _ _ (fun _ => HS.out _ hBz3.out) ?_
      clear hK K
      try simp only [Act.put, List.setIfInBounds_toArray, List.set_cons_zero, List.set_cons_succ]
      refine AnyL.ready (rs := [19]) (by kernel_rfl) (by simp) ?_
      refine (AllL.cons (o := { dst := none, op := Op.store 50 (Operand.tmp 31) (Operand.tmp 29), type := 0, pos := "ref.go:158", after := #[{ on := 18, ground := Ground.data }, { on := 16, ground := Ground.data }, { on := 16, ground := Ground.chain }, { on := 0, ground := Ground.phase }, { on := 1, ground := Ground.phase }, { on := 2, ground := Ground.phase }, { on := 3, ground := Ground.phase }, { on := 4, ground := Ground.phase }, { on := 5, ground := Ground.phase }, { on := 6, ground := Ground.phase }, { on := 7, ground := Ground.phase }, { on := 8, ground := Ground.phase }, { on := 9, ground := Ground.phase }, { on := 10, ground := Ground.phase }, { on := 11, ground := Ground.phase }, { on := 12, ground := Ground.phase }, { on := 13, ground := Ground.phase }, { on := 14, ground := Ground.phase }, { on := 15, ground := Ground.phase }, { on := 16, ground := Ground.phase }], guard := none }) rfl (fun K hK => ?_) AllL.nil)
      obtain ⟨s0, s4, -⟩ := HS.out _ hBz3.out
      go_simp
      refine hK.out _ _ (fun h => absurd rfl h) ?_
      clear hK K s0 s4
      try simp only [Act.put, List.setIfInBounds_toArray, List.set_cons_zero, List.set_cons_succ]
      refine AnyL.done (by kernel_rfl) ?_ _
      go_wp2_with (fail)
      go_end0
      have hpf := (HR1.out.bel hBz3.out).put_files (hOwn3.out.low (Nat.le_trans hn HB.out.size))
      rw [HI2.out]
      exact ⟨⟨_, rfl⟩, _, hpf, Or.inr (fun k hk => Nat.le_trans HB.out.size (hOwn3.out.lt k hk).1), ((Keep.of_bel (HB.out.trans hBz3.out) [b]).setCell (p := ⟨b, 0, none⟩) (Or.inl (by simp)) _)⟩

  | false =>
    rw [hI] at HI
    go_wp2_with (fail)
    go_end0
    rw [HI.out]
    exact ⟨⟨_, rfl⟩, _, HR1.out, Or.inl rfl, Keep.of_bel HB.out [b]⟩
theorem out_any (n₀ : Nat) (w : World) (b : Nat) (M : RS) (v : Value) (h : RefAt n₀ w b M v) (nm : ByteArray) (hL : M.L.length ≤ 100) (hn : n₀ ≤ w.heap.size) :
    Calls Try.prog 52 #[.pointer (some ⟨b, 0, none⟩), .string nm] w fun e w' => (∃ u, e = .returned u) ∧
      ∃ v', RefAt n₀ w' b { M with L := outS nm.data.toList M.L } v' ∧ (v' = v ∨ ∀ k, v'.ownBlock = some k → w.heap.size ≤ k) ∧ Keep [b] w w' := out_any' _ n₀ w b M v h nm rfl hL hn
end Go.Proofs.Ytedopiojidaeiaa
