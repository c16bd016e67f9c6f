/- The changes of file that Cut, Drop and Move hand to turn. -/
import Derived.Test.YtedopiojidaeiaaFCl1
set_option linter.unusedSimpArgs false
set_option linter.unusedVariables false
namespace Go.Proofs.Ytedopiojidaeiaa
open Go.RowKit Go.Deep Go.Maps

theorem slice_block (p : Option Addr) (n m cap : Nat) : (Value.slice p n cap).ownBlock = (Value.slice p m cap).ownBlock := by cases p <;> rfl
theorem own_shape {B : Nat} {w : World} {p : Option Addr} {n cap : Nat} {l : List UInt8} (h : Own B w (.slice p n cap) l) : n ≤ cap ∧ cap ≤ maxLen ∧ (∀ a, p = some a → a = ⟨a.block, 0, none⟩) ∧ (p = none → n = 0 ∧ cap = 0) := by
  rcases h.2 with ⟨h1, h0⟩ | ⟨g, cap', cur, h1, _, _, hc, hx, _⟩
  · simp only [Value.slice.injEq] at h1
    obtain ⟨rfl, rfl, rfl⟩ := h1
    exact ⟨Nat.le_refl _, by unfold maxLen; omega, by simp, fun _ => ⟨rfl, rfl⟩⟩
  · simp only [Value.slice.injEq] at h1
    obtain ⟨rfl, rfl, rfl⟩ := h1
    exact ⟨hc, hx, by simp, by simp⟩

set_option maxHeartbeats 4000000 in
set_option maxRecDepth 20000 in
theorem cutcl_any (n₀ : Nat) (w : World) (b mb : Nat) (M : RS) (t : Int) (D : DataW Value) (V : List UInt8 → Value) (Bc Bi Bf Bn : Nat) (s : ByteArray) (y : FI) (h : Hdr w b M (.map (some mb)) t) (hV : FilesV n₀ w mb D V M.L none) (hS : Srt M.L) (hL : M.L.length ≤ 1000)
    (hs : s.size ≤ maxLen) (hy : getF s.data.toList M.L = some y) {p : Option Addr} {n cap : Nat} (hp : V y.name = .slice p n cap) (hn : y.bytes.length = n) (m : Nat) (hm : m ≤ n) (e5 : w.cell? ⟨Bi, 0, none⟩ = some (.int .i64 m))
    (e0 : w.cell? ⟨Bc, 0, none⟩ = some (.slice p n cap)) (e1 : w.cell? ⟨Bc, 1, none⟩ = some (.int .i64 y.safe)) (e2 : w.cell? ⟨Bf, 0, none⟩ = some (.pointer (some ⟨b, 0, none⟩))) (e3 : w.cell? ⟨Bn, 0, none⟩ = some (.string s)) :
    Calls Try.prog 47 #[.pointer (some ⟨Bc, 0, none⟩), .pointer (some ⟨Bi, 0, none⟩), .pointer (some ⟨Bf, 0, none⟩), .pointer (some ⟨Bn, 0, none⟩)] w fun e w' =>
      e = .returned (.tuple #[]) ∧ Chg n₀ w w' b M mb t V M.L (insS { y with bytes := y.bytes.take m, safe := min y.safe m } M.L) [mb] := by
  have e4 : w.cell? ⟨b, 1, none⟩ = some (.map (some mb)) := by simp [World.cell?, h.1]
  have hSK : ∀ G x z, Keep G x z → Bc ∉ G → Bf ∉ G → Bn ∉ G → b ∉ G → Bi ∉ G →
      (x.cell? ⟨Bc, 0, none⟩ = some (.slice p n cap) ∧ x.cell? ⟨Bc, 1, none⟩ = some (.int .i64 y.safe) ∧ x.cell? ⟨Bf, 0, none⟩ = some (.pointer (some ⟨b, 0, none⟩)) ∧ x.cell? ⟨Bn, 0, none⟩ = some (.string s) ∧ x.cell? ⟨b, 1, none⟩ = some (.map (some mb)) ∧ x.cell? ⟨Bi, 0, none⟩ = some (.int .i64 m)) →
      (z.cell? ⟨Bc, 0, none⟩ = some (.slice p n cap) ∧ z.cell? ⟨Bc, 1, none⟩ = some (.int .i64 y.safe) ∧ z.cell? ⟨Bf, 0, none⟩ = some (.pointer (some ⟨b, 0, none⟩)) ∧ z.cell? ⟨Bn, 0, none⟩ = some (.string s) ∧ z.cell? ⟨b, 1, none⟩ = some (.map (some mb)) ∧ z.cell? ⟨Bi, 0, none⟩ = some (.int .i64 m)) :=
    fun G x z hk h1 h2 h3 h4 h5 hc => ⟨hk.cell hc.1 h1, hk.cell hc.2.1 h1, hk.cell hc.2.2.1 h2, hk.cell hc.2.2.2.1 h3, hk.cell hc.2.2.2.2.1 h4, hk.cell hc.2.2.2.2.2 h5⟩
  have HSK := Lib.hid hSK
  have N1 := cell_ne_map hV.own e0
  have N2 := cell_ne_map hV.own e2
  have N3 := cell_ne_map hV.own e3
  have N4 := h.ne hV.own
  have N5 := cell_ne_map hV.own e5
  obtain ⟨hp1, hp2, hp3, hp4⟩ : n ≤ cap ∧ cap ≤ maxLen ∧ (∀ a, p = some a → a = ⟨a.block, 0, none⟩) ∧ (p = none → n = 0 ∧ cap = 0) := own_shape (hp ▸ hV.val y (getF_mem hy) (by simp))
  have HF := Lib.hid (fun x => first_any x p n cap y.safe m hm hp1 hp2 hp3 hp4)
  clear hp1 hp2 hp3 hp4
  have HV := Lib.hid hV
  have HH := Lib.hid h
  have HS := Lib.hid hS
  have HY := Lib.hid hy
  have HP := Lib.hid hp
  have HN := Lib.hid hn
  clear hSK hV h hS hy hp hn
  go_enter Try.func47, Try.ntmps47
  go_wp2_with (fail)
  refine wp_region_held_drew (S := fun z => (z.cell? ⟨Bc, 0, none⟩ = some (.slice p n cap) ∧ z.cell? ⟨Bc, 1, none⟩ = some (.int .i64 y.safe) ∧ z.cell? ⟨Bf, 0, none⟩ = some (.pointer (some ⟨b, 0, none⟩)) ∧ z.cell? ⟨Bn, 0, none⟩ = some (.string s) ∧ z.cell? ⟨b, 1, none⟩ = some (.map (some mb)) ∧ z.cell? ⟨Bi, 0, none⟩ = some (.int .i64 m))) (by kernel_rfl) ⟨e0, e1, e2, e3, e4, e5⟩ (fun hHeld => ?_)
  refine wpAnyH_take (i := 0) (oi := { dst := some 4, op := Op.load 25 (Operand.tmp 2), type := 25, pos := "file.go:86", after := #[], guard := none }) (v := ?_) rfl (by kernel_rfl) (by kernel_rfl) (by kernel_rfl) (fun _ _ _ h => h) (Or.inl ⟨by rfl, ?_⟩) (by assumption) ?_
  rotate_left
  · (intro w hSw; (try dsimp only at hSw); first | (go_simp; done) | (go_simp; with_reducible rfl))
  try simp only [Act.put, List.setIfInBounds_toArray, List.set_cons_zero, List.set_cons_succ]
  refine wpAnyH_take (i := 1) (oi := { dst := some 5, op := Op.nilCheck (Operand.tmp 4), type := 0, pos := "file.go:86", after := #[{ on := 0, ground := Ground.data }], guard := none }) (v := ?_) rfl (by kernel_rfl) (by kernel_rfl) (by kernel_rfl) (fun _ _ _ h => h) (Or.inl ⟨by rfl, ?_⟩) (by assumption) ?_
  rotate_left
  · (intro w hSw; (try dsimp only at hSw); first | (go_simp; done) | (go_simp; with_reducible rfl))
  try simp only [Act.put, List.setIfInBounds_toArray, List.set_cons_zero, List.set_cons_succ]
  refine wpAnyH_take (i := 2) (oi := { dst := some 6, op := Op.fieldAddr 49 (Operand.tmp 5) 1, type := 0, pos := "file.go:86", after := #[{ on := 1, ground := Ground.data }], guard := none }) (v := ?_) rfl (by kernel_rfl) (by kernel_rfl) (by kernel_rfl) (fun _ _ _ h => h) (Or.inl ⟨by rfl, ?_⟩) (by assumption) ?_
  rotate_left
  · (intro w hSw; (try dsimp only at hSw); first | (go_simp; done) | (go_simp; with_reducible rfl))
  try simp only [Act.put, List.setIfInBounds_toArray, List.set_cons_zero, List.set_cons_succ]
  refine wpAnyH_take (i := 3) (oi := { dst := some 7, op := Op.load 47 (Operand.tmp 6), type := 47, pos := "file.go:86", after := #[{ on := 2, ground := Ground.data }], guard := none }) (v := ?_) rfl (by kernel_rfl) (by kernel_rfl) (by kernel_rfl) (fun _ _ _ h => h) (Or.inl ⟨by rfl, ?_⟩) (by assumption) ?_
  rotate_left
  · (intro w hSw; (try dsimp only at hSw); first | (go_simp; done) | (go_simp; with_reducible rfl))
  try simp only [Act.put, List.setIfInBounds_toArray, List.set_cons_zero, List.set_cons_succ]
  refine wpAnyH_take (i := 4) (oi := { dst := some 8, op := Op.load 9 (Operand.tmp 3), type := 9, pos := "file.go:86", after := #[], guard := none }) (v := ?_) rfl (by kernel_rfl) (by kernel_rfl) (by kernel_rfl) (fun _ _ _ h => h) (Or.inl ⟨by rfl, ?_⟩) (by assumption) ?_
  rotate_left
  · (intro w hSw; (try dsimp only at hSw); first | (go_simp; done) | (go_simp; with_reducible rfl))
  try simp only [Act.put, List.setIfInBounds_toArray, List.set_cons_zero, List.set_cons_succ]
  refine wpAnyH_take (i := 5) (oi := { dst := some 9, op := Op.load 56 (Operand.tmp 0), type := 56, pos := "file.go:86", after := #[], guard := none }) (v := ?_) rfl (by kernel_rfl) (by kernel_rfl) (by kernel_rfl) (fun _ _ _ h => h) (Or.inl ⟨by rfl, ?_⟩) (by assumption) ?_
  rotate_left
  · (intro w hSw; (try dsimp only at hSw); first | (go_simp; done) | (go_simp; with_reducible rfl))
  try simp only [Act.put, List.setIfInBounds_toArray, List.set_cons_zero, List.set_cons_succ]
  refine wpAnyH_take (i := 6) (oi := { dst := some 10, op := Op.load 3 (Operand.tmp 1), type := 3, pos := "file.go:86", after := #[], guard := none }) (v := ?_) rfl (by kernel_rfl) (by kernel_rfl) (by kernel_rfl) (fun _ _ _ h => h) (Or.inl ⟨by rfl, ?_⟩) (by assumption) ?_
  rotate_left
  · (intro w hSw; (try dsimp only at hSw); first | (go_simp; done) | (go_simp; with_reducible rfl))
  try simp only [Act.put, List.setIfInBounds_toArray, List.set_cons_zero, List.set_cons_succ]
  refine wpAnyH_ready (rs := [7]) (by kernel_rfl) (by simp) ?_
  refine AllReadyH.cons (o := { dst := some 11, op := Op.call { callee := Callee.value (Operand.func 48), args := #[Operand.tmp 9, Operand.tmp 10], argTypes := #[56, 3] }, type := 56, pos := "file.go:86", after := #[{ on := 5, ground := Ground.data }, { on := 6, ground := Ground.data }], guard := none }) rfl (fun K hK => ?_) AllReadyH.nil
  go_simp
  refine (HF.out _).mono ?_
  rintro e w2 ⟨rfl, hb2⟩
  have D1 := Lib.hid (((Bel.refl w).drew).trans hb2)
  have S2 := HSK.out [] _ _ (Keep.of_bel hb2 []) (by simp) (by simp) (by simp) (by simp) (by simp) hHeld
  clear hb2
  dsimp only
  refine hK.out _ _ S2 (fun hHeld2 => ?_)
  clear hK K
  try simp only [Act.put, List.setIfInBounds_toArray, List.set_cons_zero, List.set_cons_succ]
  refine wpAnyH_ready (rs := [8]) (by kernel_rfl) (by simp) ?_
  refine AllReadyH.cons (o := { dst := none, op := Op.mapUpdate 47 (Operand.tmp 7) (Operand.tmp 8) (Operand.tmp 11), type := 0, pos := "file.go:86", after := #[{ on := 3, ground := Ground.data }, { on := 4, ground := Ground.data }, { on := 7, ground := Ground.data }, { on := 7, ground := Ground.chain }, { on := 0, ground := Ground.phase }, { on := 1, ground := Ground.phase }, { on := 2, ground := Ground.phase }, { on := 3, ground := Ground.phase }, { on := 4, ground := Ground.phase }, { on := 5, ground := Ground.phase }, { on := 6, ground := Ground.phase }, { on := 7, ground := Ground.phase }], guard := none }) rfl (fun K hK => ?_) AllReadyH.nil
  refine step_store (mb := mb) (s := s) (val := .agg #[.slice p m cap, .int .i64 (min y.safe m : Nat)]) rfl (.tmp 7) (.tmp 8) (.tmp 11) rfl rfl rfl rfl (HV.out.bel D1.out).own (by omega) hs ?_
  intro w3 ho hk
  refine hK.out _ _ (HSK.out [mb] _ _ hk (by simpa using N1) (by simpa using N2) (by simpa using N3) (by simpa using N4) (by simpa using N5) S2) (fun hHeld3 => ?_)
  clear hK K
  try simp only [Act.put, List.setIfInBounds_toArray, List.set_cons_zero, List.set_cons_succ]
  refine wpAnyH_done (by kernel_rfl) ?_ _
  have HO := Lib.hid ho
  have HK := Lib.hid hk
  clear ho hk hHeld hHeld2 hHeld3 S2
  go_wp2_with (fail)
  go_end0
  have hym := getF_mem HY.out
  have hnm := getF_name HY.out
  have hv := (HV.out.bel D1.out).val y hym (by simp)
  rw [HP.out] at hv
  have hval := (own_first hv m hm).keep HK.out (fun k hk1 hk2 => by
    rw [List.mem_singleton] at hk2
    subst hk2
    exact (HV.out.bel D1.out).ne_row (own_first hv m hm) hk1)
  have hput := FilesV.put (y := { y with bytes := y.bytes.take m, safe := min y.safe m }) (v' := .slice p m cap) HS.out ((HV.out.bel D1.out).weak y.name) (x := w3) (n := M.L.length + 1) (by
      have := HO.out
      rw [← hnm] at this
      exact this) HK.out hval (fun z hz hne k hk => (HV.out.apart y hym z hz (fun e => hne e.symm) k (by rw [HP.out, slice_block p n m cap]; exact hk)))
  refine ⟨rfl, _, _, (HH.out.keep (Keep.of_bel D1.out []) (by simp)).keep HK.out (by simpa using N4), hput, (Keep.of_bel D1.out _).trans HK.out (fun x hx => Or.inl hx), fun z hz k hk => Or.inl ?_⟩
  rcases mem_ins hz with rfl | hz
  · simp only [if_true] at hk
    exact ⟨y, hym, by rw [HP.out, slice_block p n m cap]; exact hk⟩
  · by_cases he : z.name = y.name
    · simp only [he, if_true] at hk
      exact ⟨y, hym, by rw [HP.out, slice_block p n m cap]; exact hk⟩
    · simp only [he, if_false] at hk
      exact ⟨z, hz, hk⟩
set_option maxHeartbeats 4000000 in
set_option maxRecDepth 20000 in
theorem dropcl_any (n₀ : Nat) (w : World) (b mb : Nat) (M : RS) (t : Int) (D : DataW Value) (V : List UInt8 → Value) (Bf Bn : Nat) (s : ByteArray) (h : Hdr w b M (.map (some mb)) t) (hV : FilesV n₀ w mb D V M.L none) (hS : Srt M.L)
    (hs : s.size ≤ maxLen) (e2 : w.cell? ⟨Bf, 0, none⟩ = some (.pointer (some ⟨b, 0, none⟩))) (e3 : w.cell? ⟨Bn, 0, none⟩ = some (.string s)) :
    Calls Try.prog 50 #[.pointer (some ⟨Bf, 0, none⟩), .pointer (some ⟨Bn, 0, none⟩)] w fun e w' =>
      e = .returned (.tuple #[]) ∧ Chg n₀ w w' b M mb t V M.L (outS s.data.toList M.L) [mb] := by
  have e4 : w.cell? ⟨b, 1, none⟩ = some (.map (some mb)) := by simp [World.cell?, h.1]
  have N2 := cell_ne_map hV.own e2
  have N3 := cell_ne_map hV.own e3
  have N4 := h.ne hV.own
  have HV := Lib.hid hV
  have HH := Lib.hid h
  have HS := Lib.hid hS
  clear hV h hS
  go_enter Try.func50, Try.ntmps50
  go_wp2_with (fail)
  refine wp_region_held_drew (S := fun z => (z.cell? ⟨Bf, 0, none⟩ = some (.pointer (some ⟨b, 0, none⟩)) ∧ z.cell? ⟨Bn, 0, none⟩ = some (.string s) ∧ z.cell? ⟨b, 1, none⟩ = some (.map (some mb)))) (by kernel_rfl) ⟨e2, e3, e4⟩ (fun hHeld => ?_)
  refine wpAnyH_take (i := 0) (oi := { dst := some 2, op := Op.load 25 (Operand.tmp 0), type := 25, pos := "file.go:108", after := #[], guard := none }) (v := ?_) rfl (by kernel_rfl) (by kernel_rfl) (by kernel_rfl) (fun _ _ _ h => h) (Or.inl ⟨by rfl, ?_⟩) (by assumption) ?_
  rotate_left
  · (intro w hSw; (try dsimp only at hSw); first | (go_simp; done) | (go_simp; with_reducible rfl))
  try simp only [Act.put, List.setIfInBounds_toArray, List.set_cons_zero, List.set_cons_succ]
  refine wpAnyH_take (i := 1) (oi := { dst := some 3, op := Op.nilCheck (Operand.tmp 2), type := 0, pos := "file.go:108", after := #[{ on := 0, ground := Ground.data }], guard := none }) (v := ?_) rfl (by kernel_rfl) (by kernel_rfl) (by kernel_rfl) (fun _ _ _ h => h) (Or.inl ⟨by rfl, ?_⟩) (by assumption) ?_
  rotate_left
  · (intro w hSw; (try dsimp only at hSw); first | (go_simp; done) | (go_simp; with_reducible rfl))
  try simp only [Act.put, List.setIfInBounds_toArray, List.set_cons_zero, List.set_cons_succ]
  refine wpAnyH_take (i := 2) (oi := { dst := some 4, op := Op.fieldAddr 49 (Operand.tmp 3) 1, type := 0, pos := "file.go:108", after := #[{ on := 1, ground := Ground.data }], guard := none }) (v := ?_) rfl (by kernel_rfl) (by kernel_rfl) (by kernel_rfl) (fun _ _ _ h => h) (Or.inl ⟨by rfl, ?_⟩) (by assumption) ?_
  rotate_left
  · (intro w hSw; (try dsimp only at hSw); first | (go_simp; done) | (go_simp; with_reducible rfl))
  try simp only [Act.put, List.setIfInBounds_toArray, List.set_cons_zero, List.set_cons_succ]
  refine wpAnyH_take (i := 3) (oi := { dst := some 5, op := Op.load 47 (Operand.tmp 4), type := 47, pos := "file.go:108", after := #[{ on := 2, ground := Ground.data }], guard := none }) (v := ?_) rfl (by kernel_rfl) (by kernel_rfl) (by kernel_rfl) (fun _ _ _ h => h) (Or.inl ⟨by rfl, ?_⟩) (by assumption) ?_
  rotate_left
  · (intro w hSw; (try dsimp only at hSw); first | (go_simp; done) | (go_simp; with_reducible rfl))
  try simp only [Act.put, List.setIfInBounds_toArray, List.set_cons_zero, List.set_cons_succ]
  refine wpAnyH_take (i := 4) (oi := { dst := some 6, op := Op.load 9 (Operand.tmp 1), type := 9, pos := "file.go:108", after := #[], guard := none }) (v := ?_) rfl (by kernel_rfl) (by kernel_rfl) (by kernel_rfl) (fun _ _ _ h => h) (Or.inl ⟨by rfl, ?_⟩) (by assumption) ?_
  rotate_left
  · (intro w hSw; (try dsimp only at hSw); first | (go_simp; done) | (go_simp; with_reducible rfl))
  try simp only [Act.put, List.setIfInBounds_toArray, List.set_cons_zero, List.set_cons_succ]
  refine wpAnyH_ready (rs := [5]) (by kernel_rfl) (by simp) ?_
  refine AllReadyH.cons (o := { dst := none, op := Op.call { callee := Callee.builtin Builtin.delete, args := #[Operand.tmp 5, Operand.tmp 6], argTypes := #[47, 9] }, type := 0, pos := "file.go:108", after := #[{ on := 3, ground := Ground.data }, { on := 4, ground := Ground.data }], guard := none }) rfl (fun K hK => ?_) AllReadyH.nil
  refine step_del (mb := mb) (s := s) rfl (.tmp 5) (.tmp 6) rfl rfl rfl (HV.out.bel (Bel.refl w).drew).own hs ?_
  intro w3 ho hk
  refine hK.out _ _ ⟨hk.cell hHeld.1 (by simpa using N2), hk.cell hHeld.2.1 (by simpa using N3), hk.cell hHeld.2.2 (by simpa using N4)⟩ (fun hHeld3 => ?_)
  clear hK K
  try simp only [Act.put, List.setIfInBounds_toArray, List.set_cons_zero, List.set_cons_succ]
  refine wpAnyH_done (by kernel_rfl) ?_ _
  have HO := Lib.hid ho
  have HK := Lib.hid hk
  clear ho hk hHeld hHeld3
  go_wp2_with (fail)
  go_end0
  have hdel := FilesV.del HS.out (HV.out.bel (Bel.refl w).drew) HO.out HK.out
  exact ⟨rfl, _, _, (HH.out.keep (Keep.of_bel (Bel.refl w).drew []) (by simp)).keep HK.out (by simpa using N4), hdel, (Keep.of_bel (Bel.refl w).drew _).trans HK.out (fun x hx => Or.inl hx), fun z hz k hk => Or.inl ⟨z, mem_out hz, hk⟩⟩

set_option maxHeartbeats 4000000 in
set_option maxRecDepth 20000 in
theorem movecl_any (n₀ : Nat) (w : World) (b mb : Nat) (M : RS) (t : Int) (D : DataW Value) (V : List UInt8 → Value) (Bf Bn Bc Bt : Nat) (s to : ByteArray) (y : FI) (h : Hdr w b M (.map (some mb)) t) (hV : FilesV n₀ w mb D V M.L none) (hS : Srt M.L) (hL : M.L.length ≤ 1000)
    (hs : s.size ≤ maxLen) (hto : to.size ≤ maxLen) (hy : getF s.data.toList M.L = some y) {p : Option Addr} {n cap : Nat} (hp : V y.name = .slice p n cap) (hn : y.bytes.length = n)
    (e0 : w.cell? ⟨Bc, 0, none⟩ = some (.slice p n cap)) (e1 : w.cell? ⟨Bc, 1, none⟩ = some (.int .i64 y.safe)) (e2 : w.cell? ⟨Bf, 0, none⟩ = some (.pointer (some ⟨b, 0, none⟩))) (e3 : w.cell? ⟨Bn, 0, none⟩ = some (.string s)) (e5 : w.cell? ⟨Bt, 0, none⟩ = some (.string to)) :
    Calls Try.prog 49 #[.pointer (some ⟨Bf, 0, none⟩), .pointer (some ⟨Bn, 0, none⟩), .pointer (some ⟨Bc, 0, none⟩), .pointer (some ⟨Bt, 0, none⟩)] w fun e w' =>
      e = .returned (.tuple #[]) ∧ Chg n₀ w w' b M mb t V M.L (insS { y with name := to.data.toList } (outS s.data.toList M.L)) [mb] := by
  have e4 : w.cell? ⟨b, 1, none⟩ = some (.map (some mb)) := by simp [World.cell?, h.1]
  have N1 := cell_ne_map hV.own e0
  have N2 := cell_ne_map hV.own e2
  have N3 := cell_ne_map hV.own e3
  have N4 := h.ne hV.own
  have N5 := cell_ne_map hV.own e5
  have HV := Lib.hid hV
  have HH := Lib.hid h
  have HS := Lib.hid hS
  have HY := Lib.hid hy
  have HP := Lib.hid hp
  have HN := Lib.hid hn
  have HL2 := Lib.hid (show (outS s.data.toList M.L).length ≤ 1000 by rw [len_out _ hS]; split <;> omega)
  clear hV h hS hy hp hn
  go_enter Try.func49, Try.ntmps49
  go_wp2_with (fail)
  refine wp_region_held_drew (S := fun z => (z.cell? ⟨Bf, 0, none⟩ = some (.pointer (some ⟨b, 0, none⟩)) ∧ z.cell? ⟨Bn, 0, none⟩ = some (.string s) ∧ z.cell? ⟨b, 1, none⟩ = some (.map (some mb)))) (by kernel_rfl) ⟨e2, e3, e4⟩ (fun hHeld => ?_)
  refine wpAnyH_take (i := 0) (oi := { dst := some 4, op := Op.load 25 (Operand.tmp 0), type := 25, pos := "file.go:99", after := #[], guard := none }) (v := ?_) rfl (by kernel_rfl) (by kernel_rfl) (by kernel_rfl) (fun _ _ _ h => h) (Or.inl ⟨by rfl, ?_⟩) (by assumption) ?_
  rotate_left
  · (intro w hSw; (try dsimp only at hSw); first | (go_simp; done) | (go_simp; with_reducible rfl))
  try simp only [Act.put, List.setIfInBounds_toArray, List.set_cons_zero, List.set_cons_succ]
  refine wpAnyH_take (i := 1) (oi := { dst := some 5, op := Op.nilCheck (Operand.tmp 4), type := 0, pos := "file.go:99", after := #[{ on := 0, ground := Ground.data }], guard := none }) (v := ?_) rfl (by kernel_rfl) (by kernel_rfl) (by kernel_rfl) (fun _ _ _ h => h) (Or.inl ⟨by rfl, ?_⟩) (by assumption) ?_
  rotate_left
  · (intro w hSw; (try dsimp only at hSw); first | (go_simp; done) | (go_simp; with_reducible rfl))
  try simp only [Act.put, List.setIfInBounds_toArray, List.set_cons_zero, List.set_cons_succ]
  refine wpAnyH_take (i := 2) (oi := { dst := some 6, op := Op.fieldAddr 49 (Operand.tmp 5) 1, type := 0, pos := "file.go:99", after := #[{ on := 1, ground := Ground.data }], guard := none }) (v := ?_) rfl (by kernel_rfl) (by kernel_rfl) (by kernel_rfl) (fun _ _ _ h => h) (Or.inl ⟨by rfl, ?_⟩) (by assumption) ?_
  rotate_left
  · (intro w hSw; (try dsimp only at hSw); first | (go_simp; done) | (go_simp; with_reducible rfl))
  try simp only [Act.put, List.setIfInBounds_toArray, List.set_cons_zero, List.set_cons_succ]
  refine wpAnyH_take (i := 3) (oi := { dst := some 7, op := Op.load 47 (Operand.tmp 6), type := 47, pos := "file.go:99", after := #[{ on := 2, ground := Ground.data }], guard := none }) (v := ?_) rfl (by kernel_rfl) (by kernel_rfl) (by kernel_rfl) (fun _ _ _ h => h) (Or.inl ⟨by rfl, ?_⟩) (by assumption) ?_
  rotate_left
  · (intro w hSw; (try dsimp only at hSw); first | (go_simp; done) | (go_simp; with_reducible rfl))
  try simp only [Act.put, List.setIfInBounds_toArray, List.set_cons_zero, List.set_cons_succ]
  refine wpAnyH_take (i := 4) (oi := { dst := some 8, op := Op.load 9 (Operand.tmp 1), type := 9, pos := "file.go:99", after := #[], guard := none }) (v := ?_) rfl (by kernel_rfl) (by kernel_rfl) (by kernel_rfl) (fun _ _ _ h => h) (Or.inl ⟨by rfl, ?_⟩) (by assumption) ?_
  rotate_left
  · (intro w hSw; (try dsimp only at hSw); first | (go_simp; done) | (go_simp; with_reducible rfl))
  try simp only [Act.put, List.setIfInBounds_toArray, List.set_cons_zero, List.set_cons_succ]
  refine wpAnyH_ready (rs := [5]) (by kernel_rfl) (by simp) ?_
  refine AllReadyH.cons (o := { dst := none, op := Op.call { callee := Callee.builtin Builtin.delete, args := #[Operand.tmp 7, Operand.tmp 8], argTypes := #[47, 9] }, type := 0, pos := "file.go:99", after := #[{ on := 3, ground := Ground.data }, { on := 4, ground := Ground.data }], guard := none }) rfl (fun K hK => ?_) AllReadyH.nil
  refine step_del (mb := mb) (s := s) rfl (.tmp 7) (.tmp 8) rfl rfl rfl (HV.out.bel (Bel.refl w).drew).own hs ?_
  intro w3 ho hk
  refine hK.out _ _ ⟨hk.cell hHeld.1 (by simpa using N2), hk.cell hHeld.2.1 (by simpa using N3), hk.cell hHeld.2.2 (by simpa using N4)⟩ (fun hHeld3 => ?_)
  clear hK K
  try simp only [Act.put, List.setIfInBounds_toArray, List.set_cons_zero, List.set_cons_succ]
  refine wpAnyH_done (by kernel_rfl) ?_ _
  have HK := Lib.hid ((Keep.of_bel (Bel.refl w).drew _).trans hk (fun x hx => Or.inl hx))
  have HD := Lib.hid (FilesV.del HS.out (HV.out.bel (Bel.refl w).drew) ho hk)
  have q0 := HK.out.cell e0 (by simpa using N1)
  have q1 := HK.out.cell e1 (by simpa using N1)
  have q2 := HK.out.cell e2 (by simpa using N2)
  have q5 := HK.out.cell e5 (by simpa using N5)
  have q4 := HK.out.cell e4 (by simpa using N4)
  clear ho hk hHeld hHeld3 e0 e1 e2 e3 e4 e5
  go_wp2_with (fail)
  refine wp_region_held_drew (S := fun z => (z.cell? ⟨Bf, 0, none⟩ = some (.pointer (some ⟨b, 0, none⟩)) ∧ z.cell? ⟨Bt, 0, none⟩ = some (.string to) ∧ z.cell? ⟨b, 1, none⟩ = some (.map (some mb)) ∧ z.cell? ⟨Bc, 0, none⟩ = some (.slice p n cap) ∧ z.cell? ⟨Bc, 1, none⟩ = some (.int .i64 y.safe))) (by kernel_rfl) ⟨q2, q5, q4, q0, q1⟩ (fun hHeld => ?_)
  refine wpAnyH_take (i := 0) (oi := { dst := some 9, op := Op.load 25 (Operand.tmp 0), type := 25, pos := "file.go:100", after := #[], guard := none }) (v := ?_) rfl (by kernel_rfl) (by kernel_rfl) (by kernel_rfl) (fun _ _ _ h => h) (Or.inl ⟨by rfl, ?_⟩) (by assumption) ?_
  rotate_left
  · (intro w hSw; (try dsimp only at hSw); first | (go_simp; done) | (go_simp; with_reducible rfl))
  try simp only [Act.put, List.setIfInBounds_toArray, List.set_cons_zero, List.set_cons_succ]
  refine wpAnyH_take (i := 1) (oi := { dst := some 10, op := Op.nilCheck (Operand.tmp 9), type := 0, pos := "file.go:100", after := #[{ on := 0, ground := Ground.data }], guard := none }) (v := ?_) rfl (by kernel_rfl) (by kernel_rfl) (by kernel_rfl) (fun _ _ _ h => h) (Or.inl ⟨by rfl, ?_⟩) (by assumption) ?_
  rotate_left
  · (intro w hSw; (try dsimp only at hSw); first | (go_simp; done) | (go_simp; with_reducible rfl))
  try simp only [Act.put, List.setIfInBounds_toArray, List.set_cons_zero, List.set_cons_succ]
  refine wpAnyH_take (i := 2) (oi := { dst := some 11, op := Op.fieldAddr 49 (Operand.tmp 10) 1, type := 0, pos := "file.go:100", after := #[{ on := 1, ground := Ground.data }], guard := none }) (v := ?_) rfl (by kernel_rfl) (by kernel_rfl) (by kernel_rfl) (fun _ _ _ h => h) (Or.inl ⟨by rfl, ?_⟩) (by assumption) ?_
  rotate_left
  · (intro w hSw; (try dsimp only at hSw); first | (go_simp; done) | (go_simp; with_reducible rfl))
  try simp only [Act.put, List.setIfInBounds_toArray, List.set_cons_zero, List.set_cons_succ]
  refine wpAnyH_take (i := 3) (oi := { dst := some 12, op := Op.load 47 (Operand.tmp 11), type := 47, pos := "file.go:100", after := #[{ on := 2, ground := Ground.data }], guard := none }) (v := ?_) rfl (by kernel_rfl) (by kernel_rfl) (by kernel_rfl) (fun _ _ _ h => h) (Or.inl ⟨by rfl, ?_⟩) (by assumption) ?_
  rotate_left
  · (intro w hSw; (try dsimp only at hSw); first | (go_simp; done) | (go_simp; with_reducible rfl))
  try simp only [Act.put, List.setIfInBounds_toArray, List.set_cons_zero, List.set_cons_succ]
  refine wpAnyH_take (i := 4) (oi := { dst := some 13, op := Op.load 9 (Operand.tmp 3), type := 9, pos := "file.go:100", after := #[], guard := none }) (v := ?_) rfl (by kernel_rfl) (by kernel_rfl) (by kernel_rfl) (fun _ _ _ h => h) (Or.inl ⟨by rfl, ?_⟩) (by assumption) ?_
  rotate_left
  · (intro w hSw; (try dsimp only at hSw); first | (go_simp; done) | (go_simp; with_reducible rfl))
  try simp only [Act.put, List.setIfInBounds_toArray, List.set_cons_zero, List.set_cons_succ]
  refine wpAnyH_take (i := 5) (oi := { dst := some 14, op := Op.load 56 (Operand.tmp 2), type := 56, pos := "file.go:100", after := #[], guard := none }) (v := ?_) rfl (by kernel_rfl) (by kernel_rfl) (by kernel_rfl) (fun _ _ _ h => h) (Or.inl ⟨by rfl, ?_⟩) (by assumption) ?_
  rotate_left
  · (intro w hSw; (try dsimp only at hSw); first | (go_simp; done) | (go_simp; with_reducible rfl))
  try simp only [Act.put, List.setIfInBounds_toArray, List.set_cons_zero, List.set_cons_succ]
  refine wpAnyH_ready (rs := [6]) (by kernel_rfl) (by simp) ?_
  refine AllReadyH.cons (o := { dst := none, op := Op.mapUpdate 47 (Operand.tmp 12) (Operand.tmp 13) (Operand.tmp 14), type := 0, pos := "file.go:100", after := #[{ on := 3, ground := Ground.data }, { on := 4, ground := Ground.data }, { on := 5, ground := Ground.data }, { on := 0, ground := Ground.phase }, { on := 1, ground := Ground.phase }, { on := 2, ground := Ground.phase }, { on := 3, ground := Ground.phase }, { on := 4, ground := Ground.phase }, { on := 5, ground := Ground.phase }], guard := none }) rfl (fun K hK => ?_) AllReadyH.nil
  refine step_store (mb := mb) (s := to) (val := .agg #[.slice p n cap, .int .i64 y.safe]) rfl (.tmp 12) (.tmp 13) (.tmp 14) rfl rfl rfl rfl (HD.out.bel (Bel.refl w3).drew).own (Nat.le_trans HL2.out (by omega)) hto ?_
  intro w4 ho hk
  refine hK.out _ _ ⟨hk.cell hHeld.1 (by simpa using N2), hk.cell hHeld.2.1 (by simpa using N5), hk.cell hHeld.2.2.1 (by simpa using N4), hk.cell hHeld.2.2.2.1 (by simpa using N1), hk.cell hHeld.2.2.2.2 (by simpa using N1)⟩ (fun hHeld3 => ?_)
  clear hK K
  try simp only [Act.put, List.setIfInBounds_toArray, List.set_cons_zero, List.set_cons_succ]
  refine wpAnyH_done (by kernel_rfl) ?_ _
  have HO := Lib.hid ho
  have HK4 := Lib.hid hk
  clear ho hk hHeld hHeld3
  go_wp2_with (fail)
  go_end0
  have hym := getF_mem HY.out
  have hnm := getF_name HY.out
  have hrow : ∀ k, (V y.name).ownBlock = some k → k ∉ [mb] := fun k hk1 hk2 => by
    rw [List.mem_singleton] at hk2
    subst hk2
    exact HV.out.ne_row (HV.out.val y hym (by simp)) hk1
  have KK := (HK.out.trans (Keep.of_bel (Bel.refl w3).drew [mb]) (fun x hx => Or.inl hx)).trans HK4.out (fun x hx => Or.inl hx)
  have hval : Own n₀ w4 (V y.name) y.bytes := (HV.out.val y hym (by simp)).keep KK hrow
  have ne_s : ∀ z ∈ outS s.data.toList M.L, z.name ≠ y.name := fun z hz e => by
    have hg := getF_of_mem (srt_out s.data.toList HS.out) hz
    rw [getF_out _ HS.out, if_pos (e.trans hnm)] at hg
    cases hg
  have hput := FilesV.put (y := { y with name := to.data.toList }) (v' := V y.name) (srt_out s.data.toList HS.out) ((HD.out.bel (Bel.refl w3).drew).weak to.data.toList) (x := w4) (n := (outS s.data.toList M.L).length + 1) (by
      simp only [conV, HP.out]
      exact HO.out) HK4.out hval (fun z hz _ k hk => (HV.out.apart y hym z (mem_out hz) (fun e => ne_s z hz e.symm) k hk))
  refine ⟨rfl, _, _, HH.out.keep KK (by simpa using N4), hput, KK, fun z hz k hk => Or.inl ?_⟩
  by_cases he : z.name = to.data.toList
  · simp only [he, if_true] at hk
    exact ⟨y, hym, hk⟩
  · simp only [he, if_false] at hk
    rcases mem_ins hz with rfl | hz
    · exact absurd rfl he
    · exact ⟨z, mem_out hz, hk⟩
end Go.Proofs.Ytedopiojidaeiaa
