/- JAlike, JInv, JLawO, JLaw1, JLists, laid together. -/
import Derived.Test.YtlmlcnbgdaiaeaaGreatDoorP24
import Derived.Test.YtlmlcnbgdaiaeaaGreatDoorP2
import Derived.Test.YtlmlcnbgdaiaeaaGreatDoorP19
set_option linter.unusedSimpArgs false
set_option linter.unusedVariables false
/- moultlaw7's alike: files and segments of both sides are the same. -/
namespace Go.Proofs.YtlmlcnbgdaiaeaaGreatDoor
open Go.RowKit Go.Deep Go.Maps

section
variable {w x y z : World} {ws ms b r jb rb : Nat} {M M' M1 : RS} {nm : ByteArray} {most : Int} {R R' : List Nat}
theorem lw_names (h : LW w x ws ms b r jb rb M M' nm most R) (hz : Bel x z) :
    Calls Tryz.prog 37 #[.pointer (some ⟨b, 0, none⟩)] z fun e y => (∃ v, e = .returned v ∧ OwnG strEl z.heap.size y v (M.L.map (·.name))) ∧ LW w y ws ms b r jb rb M M' nm most R ∧ Bel z y :=
  h.look hz (A := fun e y => ∃ v, e = .returned v ∧ OwnG strEl z.heap.size y v (M.L.map (·.name))) fun F hF => (pnames_any _ z b M F hF.prog hF.ok.srt (good_len hF.ok)).mono fun e y ⟨v, h1, h2, h3⟩ => ⟨⟨v, h1, h2⟩, h3⟩
theorem lw_get (h : LW w x ws ms b r jb rb M M' nm most R) (hz : Bel x z) (s : ByteArray) (hs : s.size ≤ maxLen) :
    Calls Tryz.prog 40 #[.pointer (some ⟨b, 0, none⟩), .string s] z fun e y => e = .returned (.tuple #[.string ⟨(getS s.data.toList M).1.toArray⟩, .int .i64 (getS s.data.toList M).2]) ∧ LW w y ws ms b r jb rb M M' nm most R ∧ Bel z y :=
  h.look hz (A := fun e y => e = .returned (.tuple #[.string ⟨(getS s.data.toList M).1.toArray⟩, .int .i64 (getS s.data.toList M).2])) fun F hF => pget_any _ z b M F s hF.prog hs
theorem lw_used (h : LW w x ws ms b r jb rb M M' nm most R) (hz : Bel x z) :
    Calls Tryz.prog 38 #[.pointer (some ⟨b, 0, none⟩)] z fun e y => e = .returned (.int .i64 (bytesN M.L : Nat)) ∧ LW w y ws ms b r jb rb M M' nm most R ∧ Bel z y :=
  h.look hz (A := fun e y => e = .returned (.int .i64 (bytesN M.L : Nat))) fun F hF => pused_any _ z b M F hF.prog hF.ok.srt (good_bytes hF.ok)
theorem lw_rused (h : LW w x ws ms b r jb rb M M' nm most R) (hz : Bel x z) :
    Calls Tryz.prog 39 #[.pointer (some ⟨r, 0, none⟩)] z fun e y => e = .returned (.int .i64 (bytesN M'.L : Nat)) ∧ LW w y ws ms b r jb rb M M' nm most R ∧ Bel z y :=
  h.rlook hz (A := fun e y => e = .returned (.int .i64 (bytesN M'.L : Nat))) fun G hG => (rused_ref hG.ref hG.ok).mono fun e y ⟨h1, h2⟩ => ⟨h1, h2.bel⟩
end
def JalRel (w1 : World) (n : Nat) (i : Value) (x : World) : Prop := ∃ k : Nat, i = .int .i64 k ∧ k ≤ n ∧ Bel w1 x
set_option maxHeartbeats 8000000 in
set_option maxRecDepth 20000 in
theorem jalike_any (w x : World) (ws ms b r jb rb : Nat) (M : RS) (nm : ByteArray) (most : Int) (R : List Nat) (h : LW w x ws ms b r jb rb M M nm most R) (hnm : nm.size ≤ 100) :
    Calls Tryz.prog 13 #[.pointer (some ⟨ws, 0, none⟩), .pointer (some ⟨ms, 0, none⟩)] x fun e y => e = .returned (.bool true) ∧ Bel x y := by
  have HX := Lib.hid h
  have HM := Lib.hid h.tw.good
  have HRR := Lib.hid (show ∃ G v, RefAt w.heap.size x r M v from by
    obtain ⟨⟨F, G, h1, ⟨v, h2, _⟩, _⟩, _⟩ := h.tw
    exact ⟨G, v, h2⟩)
  obtain ⟨G, v, hr⟩ := HRR.out
  have HR := Lib.hid hr
  obtain ⟨rp, rcap, rfl⟩ := ownG_len hr.own
  obtain ⟨c0, -, -, c3⟩ := hr.cells
  obtain ⟨s0, s1, -, t0, t1, -⟩ := h.cells
  have HS0 := Lib.hid s0
  have HS1 := Lib.hid s1
  have HT0 := Lib.hid t0
  have HT1 := Lib.hid t1
  have HC0 := Lib.hid c0
  have HC3 := Lib.hid c3
  have hrl := hr.lt
  clear hr h HRR
  have hlen := HM.out.len
  have hbm := good_bytes HM.out
  have hsl := segs_len nm.data.toList M.L
  go_enter Tryz.func13, Tryz.ntmps13
  go_wp2_with (fail)
  refine (lw_names HX.out (Bel.refl _)).mono ?_
  rintro e w1 ⟨⟨nv, rfl, hnl⟩, -, hb1⟩
  obtain ⟨np, ncap, hnv⟩ := ownG_len hnl
  rw [List.length_map] at hnv
  subst hnv
  have HNM := Lib.hid hnl
  have HB1 := Lib.hid hb1
  have s0' := cell_later hb1 HS0.out
  have t0' := cell_later hb1 HT0.out
  have c0' := cell_later hb1 HC0.out
  have c3' := cell_later hb1 HC3.out
  clear hnl hb1 s0 s1 t0 t1 c0 c3
  go_wp2_with (fail)
  refine wp_region_held_drew (S := fun z => z.cell? ⟨ws, 0, none⟩ = some (.pointer (some ⟨b, 0, none⟩)) ∧ z.cell? ⟨ms, 0, none⟩ = some (.pointer (some ⟨r, 0, none⟩)) ∧ z.cell? ⟨r, 0, none⟩ = some (.slice rp M.L.length rcap) ∧ z.cell? ⟨r, 3, none⟩ = some (.bool M.gone)) (by kernel_rfl) ⟨s0', t0', c0', c3'⟩ (fun hHeld => ?_)
  refine tk (oi := { dst := some 14, op := Op.move (Operand.tmp 5), type := 34, pos := "law.go:166", after := #[], guard := none }) (v := ?_) 0 rfl ?_ ?_
  rotate_left
  · (intro w hSw; (try dsimp only at hSw); first | (go_simp; done) | (go_simp; with_reducible rfl))
  try simp only [Act.put, List.setIfInBounds_toArray, List.set_cons_zero, List.set_cons_succ]
  refine tk (oi := { dst := some 15, op := Op.call { callee := Callee.builtin Builtin.len, args := #[Operand.tmp 14], argTypes := #[34] }, type := 3, pos := "law.go:166", after := #[{ on := 0, ground := Ground.data }], guard := none }) (v := ?_) 1 rfl ?_ ?_
  rotate_left
  · (intro w hSw; (try dsimp only at hSw); first | (go_simp; done) | (go_simp; with_reducible rfl))
  try simp only [Act.put, List.setIfInBounds_toArray, List.set_cons_zero, List.set_cons_succ]
  refine tk (oi := { dst := some 16, op := Op.move (Operand.tmp 1), type := 26, pos := "law.go:166", after := #[], guard := none }) (v := ?_) 2 rfl ?_ ?_
  rotate_left
  · (intro w hSw; (try dsimp only at hSw); first | (go_simp; done) | (go_simp; with_reducible rfl))
  try simp only [Act.put, List.setIfInBounds_toArray, List.set_cons_zero, List.set_cons_succ]
  refine tk (oi := { dst := some 17, op := Op.nilCheck (Operand.tmp 16), type := 0, pos := "law.go:166", after := #[{ on := 2, ground := Ground.data }], guard := none }) (v := ?_) 3 rfl ?_ ?_
  rotate_left
  · (intro w hSw; (try dsimp only at hSw); first | (go_simp; done) | (go_simp; with_reducible rfl))
  try simp only [Act.put, List.setIfInBounds_toArray, List.set_cons_zero, List.set_cons_succ]
  refine tk (oi := { dst := some 18, op := Op.fieldAddr 60 (Operand.tmp 17) 0, type := 0, pos := "law.go:166", after := #[{ on := 3, ground := Ground.data }], guard := none }) (v := ?_) 4 rfl ?_ ?_
  rotate_left
  · (intro w hSw; (try dsimp only at hSw); first | (go_simp; done) | (go_simp; with_reducible rfl))
  try simp only [Act.put, List.setIfInBounds_toArray, List.set_cons_zero, List.set_cons_succ]
  refine tk (oi := { dst := some 19, op := Op.load 45 (Operand.tmp 18), type := 45, pos := "law.go:166", after := #[{ on := 4, ground := Ground.data }], guard := none }) (v := ?_) 5 rfl ?_ ?_
  rotate_left
  · (intro w hSw; (try dsimp only at hSw); first | (go_simp; done) | (go_simp; with_reducible rfl))
  try simp only [Act.put, List.setIfInBounds_toArray, List.set_cons_zero, List.set_cons_succ]
  refine tk (oi := { dst := some 20, op := Op.nilCheck (Operand.tmp 19), type := 0, pos := "law.go:166", after := #[{ on := 5, ground := Ground.data }], guard := none }) (v := ?_) 6 rfl ?_ ?_
  rotate_left
  · (intro w hSw; (try dsimp only at hSw); first | (go_simp; done) | (go_simp; with_reducible rfl))
  try simp only [Act.put, List.setIfInBounds_toArray, List.set_cons_zero, List.set_cons_succ]
  refine tk (oi := { dst := some 21, op := Op.fieldAddr 80 (Operand.tmp 20) 0, type := 0, pos := "law.go:166", after := #[{ on := 6, ground := Ground.data }], guard := none }) (v := ?_) 7 rfl ?_ ?_
  rotate_left
  · (intro w hSw; (try dsimp only at hSw); first | (go_simp; done) | (go_simp; with_reducible rfl))
  try simp only [Act.put, List.setIfInBounds_toArray, List.set_cons_zero, List.set_cons_succ]
  refine tk (oi := { dst := some 22, op := Op.load 78 (Operand.tmp 21), type := 78, pos := "law.go:166", after := #[{ on := 7, ground := Ground.data }], guard := none }) (v := ?_) 8 rfl ?_ ?_
  rotate_left
  · (intro w hSw; (try dsimp only at hSw); first | (go_simp; done) | (go_simp; with_reducible rfl))
  try simp only [Act.put, List.setIfInBounds_toArray, List.set_cons_zero, List.set_cons_succ]
  refine tk (oi := { dst := some 23, op := Op.call { callee := Callee.builtin Builtin.len, args := #[Operand.tmp 22], argTypes := #[78] }, type := 3, pos := "law.go:166", after := #[{ on := 8, ground := Ground.data }], guard := none }) (v := ?_) 9 rfl ?_ ?_
  rotate_left
  · (intro w hSw; (try dsimp only at hSw); first | (go_simp; done) | (go_simp; with_reducible rfl))
  try simp only [Act.put, List.setIfInBounds_toArray, List.set_cons_zero, List.set_cons_succ]
  refine tk (oi := { dst := some 24, op := Op.binOp BinOp.neq 3 (Operand.tmp 15) (Operand.tmp 23) 3, type := 4, pos := "law.go:166", after := #[{ on := 1, ground := Ground.data }, { on := 9, ground := Ground.data }], guard := none }) (v := ?_) 10 rfl ?_ ?_
  rotate_left
  · (intro w hSw; (try dsimp only at hSw); first | (go_simp; done) | (go_simp; with_reducible rfl))
  try simp only [Act.put, List.setIfInBounds_toArray, List.set_cons_zero, List.set_cons_succ]
  refine tk (oi := { dst := some 25, op := Op.move (Operand.tmp 24), type := 4, pos := "law.go:166", after := #[{ on := 10, ground := Ground.data }], guard := none }) (v := ?_) 11 rfl ?_ ?_
  rotate_left
  · (intro w hSw; (try dsimp only at hSw); first | (go_simp; done) | (go_simp; with_reducible rfl))
  try simp only [Act.put, List.setIfInBounds_toArray, List.set_cons_zero, List.set_cons_succ]
  refine tk (oi := { dst := some 26, op := Op.move (Operand.tmp 0), type := 25, pos := "law.go:166", after := #[{ on := 11, ground := Ground.guard }], guard := some (11, false) }) (v := ?_) 12 rfl ?_ ?_
  rotate_left
  · (intro w hSw; (try dsimp only at hSw); first | (go_simp; done) | (go_simp; with_reducible rfl))
  try simp only [Act.put, List.setIfInBounds_toArray, List.set_cons_zero, List.set_cons_succ]
  refine tk (oi := { dst := some 27, op := Op.nilCheck (Operand.tmp 26), type := 0, pos := "law.go:166", after := #[{ on := 12, ground := Ground.data }, { on := 11, ground := Ground.guard }], guard := some (11, false) }) (v := ?_) 13 rfl ?_ ?_
  rotate_left
  · (intro w hSw; (try dsimp only at hSw); first | (go_simp; done) | (go_simp; with_reducible rfl))
  try simp only [Act.put, List.setIfInBounds_toArray, List.set_cons_zero, List.set_cons_succ]
  refine tk (oi := { dst := some 28, op := Op.fieldAddr 58 (Operand.tmp 27) 0, type := 0, pos := "law.go:166", after := #[{ on := 13, ground := Ground.data }, { on := 11, ground := Ground.guard }], guard := some (11, false) }) (v := ?_) 14 rfl ?_ ?_
  rotate_left
  · (intro w hSw; (try dsimp only at hSw); first | (go_simp; done) | (go_simp; with_reducible rfl))
  try simp only [Act.put, List.setIfInBounds_toArray, List.set_cons_zero, List.set_cons_succ]
  refine tk (oi := { dst := some 29, op := Op.load 42 (Operand.tmp 28), type := 42, pos := "law.go:166", after := #[{ on := 14, ground := Ground.data }, { on := 11, ground := Ground.guard }], guard := some (11, false) }) (v := ?_) 15 rfl ?_ ?_
  rotate_left
  · (intro w hSw; (try dsimp only at hSw); first | (go_simp; done) | (go_simp; with_reducible rfl))
  try simp only [Act.put, List.setIfInBounds_toArray, List.set_cons_zero, List.set_cons_succ]
  refine tk (oi := { dst := some 31, op := Op.move (Operand.tmp 1), type := 26, pos := "law.go:166", after := #[{ on := 11, ground := Ground.guard }], guard := some (11, false) }) (v := ?_) 17 rfl ?_ ?_
  rotate_left
  · (intro w hSw; (try dsimp only at hSw); first | (go_simp; done) | (go_simp; with_reducible rfl))
  try simp only [Act.put, List.setIfInBounds_toArray, List.set_cons_zero, List.set_cons_succ]
  refine tk (oi := { dst := some 32, op := Op.nilCheck (Operand.tmp 31), type := 0, pos := "law.go:166", after := #[{ on := 17, ground := Ground.data }, { on := 11, ground := Ground.guard }], guard := some (11, false) }) (v := ?_) 18 rfl ?_ ?_
  rotate_left
  · (intro w hSw; (try dsimp only at hSw); first | (go_simp; done) | (go_simp; with_reducible rfl))
  try simp only [Act.put, List.setIfInBounds_toArray, List.set_cons_zero, List.set_cons_succ]
  refine tk (oi := { dst := some 33, op := Op.fieldAddr 60 (Operand.tmp 32) 0, type := 0, pos := "law.go:166", after := #[{ on := 18, ground := Ground.data }, { on := 11, ground := Ground.guard }], guard := some (11, false) }) (v := ?_) 19 rfl ?_ ?_
  rotate_left
  · (intro w hSw; (try dsimp only at hSw); first | (go_simp; done) | (go_simp; with_reducible rfl))
  try simp only [Act.put, List.setIfInBounds_toArray, List.set_cons_zero, List.set_cons_succ]
  refine tk (oi := { dst := some 34, op := Op.load 45 (Operand.tmp 33), type := 45, pos := "law.go:166", after := #[{ on := 19, ground := Ground.data }, { on := 11, ground := Ground.guard }], guard := some (11, false) }) (v := ?_) 20 rfl ?_ ?_
  rotate_left
  · (intro w hSw; (try dsimp only at hSw); first | (go_simp; done) | (go_simp; with_reducible rfl))
  try simp only [Act.put, List.setIfInBounds_toArray, List.set_cons_zero, List.set_cons_succ]
  refine tk (oi := { dst := some 35, op := Op.nilCheck (Operand.tmp 34), type := 0, pos := "law.go:166", after := #[{ on := 20, ground := Ground.data }, { on := 11, ground := Ground.guard }], guard := some (11, false) }) (v := ?_) 21 rfl ?_ ?_
  rotate_left
  · (intro w hSw; (try dsimp only at hSw); first | (go_simp; done) | (go_simp; with_reducible rfl))
  try simp only [Act.put, List.setIfInBounds_toArray, List.set_cons_zero, List.set_cons_succ]
  refine tk (oi := { dst := some 36, op := Op.fieldAddr 80 (Operand.tmp 35) 3, type := 0, pos := "law.go:166", after := #[{ on := 21, ground := Ground.data }, { on := 11, ground := Ground.guard }], guard := some (11, false) }) (v := ?_) 22 rfl ?_ ?_
  rotate_left
  · (intro w hSw; (try dsimp only at hSw); first | (go_simp; done) | (go_simp; with_reducible rfl))
  try simp only [Act.put, List.setIfInBounds_toArray, List.set_cons_zero, List.set_cons_succ]
  refine tk (oi := { dst := some 37, op := Op.load 4 (Operand.tmp 36), type := 4, pos := "law.go:166", after := #[{ on := 22, ground := Ground.data }, { on := 11, ground := Ground.guard }], guard := some (11, false) }) (v := ?_) 23 rfl ?_ ?_
  rotate_left
  · (intro w hSw; (try dsimp only at hSw); first | (go_simp; done) | (go_simp; with_reducible rfl))
  try simp only [Act.put, List.setIfInBounds_toArray, List.set_cons_zero, List.set_cons_succ]
  refine wpAnyH_ready (rs := [16]) (by kernel_rfl) (by simp) ?_
  refine AllReadyH.cons (o := { dst := some 30, op := Op.call { callee := Callee.value (Operand.func 22), args := #[Operand.tmp 29], argTypes := #[42] }, type := 4, pos := "law.go:166", after := #[{ on := 15, ground := Ground.data }, { on := 11, ground := Ground.chain }, { on := 11, ground := Ground.guard }], guard := some (11, false) }) rfl (fun K hK => ?_) AllReadyH.nil
  go_simp
  refine (lw_dead HX.out (HB1.out.trans (Bel.refl w1).drew)).mono ?_
  rintro e w2 ⟨rfl, -, hb2⟩
  have HN2 := Lib.hid ((Bel.refl w1).drew.trans hb2)
  have HB2 := Lib.hid (HB1.out.trans HN2.out)
  clear hb2
  dsimp only
  refine hK.out _ _ ⟨cell_later HB2.out HS0.out, cell_later HB2.out HT0.out, cell_later HB2.out HC0.out, cell_later HB2.out HC3.out⟩ (fun hHeld => ?_)
  clear hK K
  try simp only [Act.put, List.setIfInBounds_toArray, List.set_cons_zero, List.set_cons_succ]
  refine tk (oi := { dst := some 38, op := Op.binOp BinOp.neq 4 (Operand.tmp 30) (Operand.tmp 37) 4, type := 4, pos := "law.go:166", after := #[{ on := 16, ground := Ground.data }, { on := 23, ground := Ground.data }, { on := 11, ground := Ground.guard }], guard := some (11, false) }) (v := ?_) 24 rfl ?_ ?_
  rotate_left
  · (intro w hSw; (try dsimp only at hSw); first | (go_simp; done) | (go_simp; with_reducible rfl))
  try simp only [Act.put, List.setIfInBounds_toArray, List.set_cons_zero, List.set_cons_succ]
  refine tk (oi := { dst := some 39, op := Op.pick (Operand.tmp 25) (Operand.const (Value.bool true)) (Operand.tmp 38), type := 4, pos := "law.go:166", after := #[{ on := 11, ground := Ground.data }, { on := 24, ground := Ground.data }], guard := none }) (v := ?_) 25 rfl ?_ ?_
  rotate_left
  · (intro w hSw; (try dsimp only at hSw); first | (go_simp; done) | (go_simp; with_reducible rfl))
  try simp only [Act.put, List.setIfInBounds_toArray, List.set_cons_zero, List.set_cons_succ]
  refine tk (oi := { dst := some 40, op := Op.move (Operand.tmp 39), type := 4, pos := "law.go:166", after := #[{ on := 25, ground := Ground.data }, { on := 16, ground := Ground.chain }], guard := none }) (v := ?_) 26 rfl ?_ ?_
  rotate_left
  · (intro w hSw; (try dsimp only at hSw); first | (go_simp; done) | (go_simp; with_reducible rfl))
  try simp only [Act.put, List.setIfInBounds_toArray, List.set_cons_zero, List.set_cons_succ]
  refine tk (oi := { dst := some 41, op := Op.move (Operand.tmp 0), type := 25, pos := "law.go:166", after := #[{ on := 26, ground := Ground.guard }], guard := some (26, false) }) (v := ?_) 27 rfl ?_ ?_
  rotate_left
  · (intro w hSw; (try dsimp only at hSw); first | (go_simp; done) | (go_simp; with_reducible rfl))
  try simp only [Act.put, List.setIfInBounds_toArray, List.set_cons_zero, List.set_cons_succ]
  refine tk (oi := { dst := some 42, op := Op.nilCheck (Operand.tmp 41), type := 0, pos := "law.go:166", after := #[{ on := 27, ground := Ground.data }, { on := 26, ground := Ground.guard }], guard := some (26, false) }) (v := ?_) 28 rfl ?_ ?_
  rotate_left
  · (intro w hSw; (try dsimp only at hSw); first | (go_simp; done) | (go_simp; with_reducible rfl))
  try simp only [Act.put, List.setIfInBounds_toArray, List.set_cons_zero, List.set_cons_succ]
  refine tk (oi := { dst := some 43, op := Op.fieldAddr 58 (Operand.tmp 42) 0, type := 0, pos := "law.go:166", after := #[{ on := 28, ground := Ground.data }, { on := 26, ground := Ground.guard }], guard := some (26, false) }) (v := ?_) 29 rfl ?_ ?_
  rotate_left
  · (intro w hSw; (try dsimp only at hSw); first | (go_simp; done) | (go_simp; with_reducible rfl))
  try simp only [Act.put, List.setIfInBounds_toArray, List.set_cons_zero, List.set_cons_succ]
  refine tk (oi := { dst := some 44, op := Op.load 42 (Operand.tmp 43), type := 42, pos := "law.go:166", after := #[{ on := 29, ground := Ground.data }, { on := 26, ground := Ground.guard }], guard := some (26, false) }) (v := ?_) 30 rfl ?_ ?_
  rotate_left
  · (intro w hSw; (try dsimp only at hSw); first | (go_simp; done) | (go_simp; with_reducible rfl))
  try simp only [Act.put, List.setIfInBounds_toArray, List.set_cons_zero, List.set_cons_succ]
  refine tk (oi := { dst := some 46, op := Op.move (Operand.tmp 1), type := 26, pos := "law.go:166", after := #[{ on := 26, ground := Ground.guard }], guard := some (26, false) }) (v := ?_) 32 rfl ?_ ?_
  rotate_left
  · (intro w hSw; (try dsimp only at hSw); first | (go_simp; done) | (go_simp; with_reducible rfl))
  try simp only [Act.put, List.setIfInBounds_toArray, List.set_cons_zero, List.set_cons_succ]
  refine tk (oi := { dst := some 47, op := Op.nilCheck (Operand.tmp 46), type := 0, pos := "law.go:166", after := #[{ on := 32, ground := Ground.data }, { on := 26, ground := Ground.guard }], guard := some (26, false) }) (v := ?_) 33 rfl ?_ ?_
  rotate_left
  · (intro w hSw; (try dsimp only at hSw); first | (go_simp; done) | (go_simp; with_reducible rfl))
  try simp only [Act.put, List.setIfInBounds_toArray, List.set_cons_zero, List.set_cons_succ]
  refine tk (oi := { dst := some 48, op := Op.fieldAddr 60 (Operand.tmp 47) 0, type := 0, pos := "law.go:166", after := #[{ on := 33, ground := Ground.data }, { on := 26, ground := Ground.guard }], guard := some (26, false) }) (v := ?_) 34 rfl ?_ ?_
  rotate_left
  · (intro w hSw; (try dsimp only at hSw); first | (go_simp; done) | (go_simp; with_reducible rfl))
  try simp only [Act.put, List.setIfInBounds_toArray, List.set_cons_zero, List.set_cons_succ]
  refine tk (oi := { dst := some 49, op := Op.load 45 (Operand.tmp 48), type := 45, pos := "law.go:166", after := #[{ on := 34, ground := Ground.data }, { on := 26, ground := Ground.guard }], guard := some (26, false) }) (v := ?_) 35 rfl ?_ ?_
  rotate_left
  · (intro w hSw; (try dsimp only at hSw); first | (go_simp; done) | (go_simp; with_reducible rfl))
  try simp only [Act.put, List.setIfInBounds_toArray, List.set_cons_zero, List.set_cons_succ]
  refine wpAnyH_ready (rs := [31]) (by kernel_rfl) (by simp) ?_
  refine AllReadyH.cons (o := { dst := some 45, op := Op.call { callee := Callee.value (Operand.func 38), args := #[Operand.tmp 44], argTypes := #[42] }, type := 3, pos := "law.go:166", after := #[{ on := 30, ground := Ground.data }, { on := 26, ground := Ground.chain }, { on := 26, ground := Ground.guard }], guard := some (26, false) }) rfl (fun K hK => ?_) AllReadyH.nil
  go_simp
  refine (lw_used HX.out HB2.out).mono ?_
  rintro e w3 ⟨rfl, -, hb3⟩
  have HN3 := Lib.hid (HN2.out.trans hb3)
  have HB3 := Lib.hid (HB1.out.trans HN3.out)
  clear hb3
  dsimp only
  refine hK.out _ _ ⟨cell_later HB3.out HS0.out, cell_later HB3.out HT0.out, cell_later HB3.out HC0.out, cell_later HB3.out HC3.out⟩ (fun hHeld => ?_)
  clear hK K
  try simp only [Act.put, List.setIfInBounds_toArray, List.set_cons_zero, List.set_cons_succ]
  refine wpAnyH_ready (rs := [36]) (by kernel_rfl) (by simp) ?_
  refine AllReadyH.cons (o := { dst := some 50, op := Op.call { callee := Callee.value (Operand.func 39), args := #[Operand.tmp 49], argTypes := #[45] }, type := 3, pos := "law.go:166", after := #[{ on := 35, ground := Ground.data }, { on := 31, ground := Ground.chain }, { on := 26, ground := Ground.guard }], guard := some (26, false) }) rfl (fun K hK => ?_) AllReadyH.nil
  go_simp
  refine (lw_rused HX.out HB3.out).mono ?_
  rintro e w4 ⟨rfl, -, hb4⟩
  have HN4 := Lib.hid (HN3.out.trans hb4)
  have HB4 := Lib.hid (HB1.out.trans HN4.out)
  clear hb4
  dsimp only
  refine hK.out _ _ ⟨cell_later HB4.out HS0.out, cell_later HB4.out HT0.out, cell_later HB4.out HC0.out, cell_later HB4.out HC3.out⟩ (fun hHeld => ?_)
  clear hK K
  try simp only [Act.put, List.setIfInBounds_toArray, List.set_cons_zero, List.set_cons_succ]
  refine tk (oi := { dst := some 51, op := Op.binOp BinOp.neq 3 (Operand.tmp 45) (Operand.tmp 50) 3, type := 4, pos := "law.go:166", after := #[{ on := 31, ground := Ground.data }, { on := 36, ground := Ground.data }, { on := 26, ground := Ground.guard }], guard := some (26, false) }) (v := ?_) 37 rfl ?_ ?_
  rotate_left
  · (intro w hSw; (try dsimp only at hSw); first | (go_simp; done) | (go_simp; with_reducible rfl))
  try simp only [Act.put, List.setIfInBounds_toArray, List.set_cons_zero, List.set_cons_succ]
  refine tk (oi := { dst := some 52, op := Op.pick (Operand.tmp 40) (Operand.const (Value.bool true)) (Operand.tmp 51), type := 4, pos := "law.go:166", after := #[{ on := 26, ground := Ground.data }, { on := 37, ground := Ground.data }], guard := none }) (v := ?_) 38 rfl ?_ ?_
  rotate_left
  · (intro w hSw; (try dsimp only at hSw); first | (go_simp; done) | (go_simp; with_reducible rfl))
  try simp only [Act.put, List.setIfInBounds_toArray, List.set_cons_zero, List.set_cons_succ]
  refine wpAnyH_done (by kernel_rfl) ?_ _
  clear s0' t0' c0' c3' hHeld
  have HNB := HN4
  go_wp2_with (fail)
  go_loopw [6] (fun i y => JalRel w4 M.L.length i y) (fun i _ => M.L.length - (intOf i).toNat)
  case atStart => exact ⟨0, rfl, Nat.zero_le _, Bel.refl _⟩
  case round =>
    obtain ⟨k, rfl, hk, hbel⟩ := hrel
    have HB := Lib.hid (HB4.out.trans hbel)
    have HBW := Lib.hid hbel
    clear hbel
    by_cases hlt : k < M.L.length
    · have hne : M.L.map (·.name) ≠ [] := by intro e; rw [List.map_eq_nil_iff] at e; rw [e] at hlt; simp at hlt
      obtain ⟨g, ncap', hv, _, hgl, _, hcs⟩ := ownG_cells strOk (HNM.out.bel (HNB.out.trans HBW.out)) hne
      rw [List.length_map] at hv
      simp only [Value.slice.injEq, true_and] at hv
      obtain ⟨rfl, rfl⟩ := hv
      have hne2 : M.L ≠ [] := by intro e; rw [e] at hlt; simp at hlt
      obtain ⟨g2, rcap', hv, _, hgl2, _, hcs2⟩ := ownG_cells fileOk (HR.out.own.bel HB.out) hne2
      simp only [Value.slice.injEq, true_and] at hv
      obtain ⟨rfl, rfl⟩ := hv
      obtain ⟨y, hy⟩ : ∃ y, y = M.L[k] := ⟨_, rfl⟩
      have e0 := hcs k M.L[k].name (by rw [List.getElem?_map, List.getElem?_eq_getElem hlt]; rfl) 0 _ rfl
      rw [← hy] at e0
      simp only [strEl, Nat.mul_one, Nat.add_zero] at e0
      have f0 := hcs2 k y (by rw [hy, List.getElem?_eq_getElem hlt]) 0 _ rfl
      have f1 := hcs2 k y (by rw [hy, List.getElem?_eq_getElem hlt]) 1 _ rfl
      simp only [fileEl, Nat.add_zero] at f0 f1
      have a0 := cell_later HB.out HC0.out
      have a3 := cell_later HB.out HC3.out
      have p0 := cell_later HB.out HS0.out
      have m0 := cell_later HB.out HT0.out
      have hym : y ∈ M.L := by rw [hy]; exact List.getElem_mem hlt
      have hgy := getF_of_mem HM.out.srt hym
      have hyn := name_len (HM.out.each y hym).1
      have hnmL : (⟨y.name.toArray⟩ : ByteArray).data.toList = y.name := by simp
      have hsz : (⟨y.name.toArray⟩ : ByteArray).size ≤ maxLen := by show y.name.toArray.size ≤ _; rw [List.size_toArray]; unfold maxLen; omega
      have HC := Lib.hid (fun z (hz : Bel x z) => lw_get HX.out hz (⟨y.name.toArray⟩ : ByteArray) hsz)
      clear hy
      cases hg : M.gone with
      | true =>
        have HGS := Lib.hid (show getS (⟨y.name.toArray⟩ : ByteArray).data.toList M = ([], 7) by unfold getS; rw [hg]; rfl)
        have HC' := Lib.hid (show ∀ z, Bel x z → Calls Tryz.prog 40 #[.pointer (some ⟨b, 0, none⟩), .string ⟨y.name.toArray⟩] z fun e y' => e = .returned (.tuple #[.string ⟨([] : List UInt8).toArray⟩, .int .i64 7]) ∧ LW w y' ws ms b r jb rb M M nm most R ∧ Bel z y' from fun z hz => by
          have := HC.out z hz
          rw [HGS.out] at this
          exact this)
        rw [hg] at a3
        clear hym hgy hyn hnmL hsz hcs hcs2 hne hne2 hg HC HGS
        go_wp2_with (fail)
        refine wp_region_held_drew (S := fun z => z.cell? ⟨ws, 0, none⟩ = some (.pointer (some ⟨b, 0, none⟩)) ∧ z.cell? ⟨g, k, none⟩ = some (.string ⟨y.name.toArray⟩)) (by kernel_rfl) ⟨p0, e0⟩ (fun hHeld => ?_)
        refine tk (oi := { dst := some 60, op := Op.move (Operand.tmp 0), type := 25, pos := "law.go:170", after := #[], guard := none }) (v := ?_) 0 rfl ?_ ?_
        rotate_left
        · (intro w hSw; (try dsimp only at hSw); first | (go_simp; done) | (go_simp; with_reducible rfl))
        try simp only [Act.put, List.setIfInBounds_toArray, List.set_cons_zero, List.set_cons_succ]
        refine tk (oi := { dst := some 61, op := Op.nilCheck (Operand.tmp 60), type := 0, pos := "law.go:170", after := #[{ on := 0, ground := Ground.data }], guard := none }) (v := ?_) 1 rfl ?_ ?_
        rotate_left
        · (intro w hSw; (try dsimp only at hSw); first | (go_simp; done) | (go_simp; with_reducible rfl))
        try simp only [Act.put, List.setIfInBounds_toArray, List.set_cons_zero, List.set_cons_succ]
        refine tk (oi := { dst := some 62, op := Op.fieldAddr 58 (Operand.tmp 61) 0, type := 0, pos := "law.go:170", after := #[{ on := 1, ground := Ground.data }], guard := none }) (v := ?_) 2 rfl ?_ ?_
        rotate_left
        · (intro w hSw; (try dsimp only at hSw); first | (go_simp; done) | (go_simp; with_reducible rfl))
        try simp only [Act.put, List.setIfInBounds_toArray, List.set_cons_zero, List.set_cons_succ]
        refine tk (oi := { dst := some 63, op := Op.load 42 (Operand.tmp 62), type := 42, pos := "law.go:170", after := #[{ on := 2, ground := Ground.data }], guard := none }) (v := ?_) 3 rfl ?_ ?_
        rotate_left
        · (intro w hSw; (try dsimp only at hSw); first | (go_simp; done) | (go_simp; with_reducible rfl))
        try simp only [Act.put, List.setIfInBounds_toArray, List.set_cons_zero, List.set_cons_succ]
        refine tk (oi := { dst := some 64, op := Op.move (Operand.tmp 5), type := 34, pos := "law.go:170", after := #[], guard := none }) (v := ?_) 4 rfl ?_ ?_
        rotate_left
        · (intro w hSw; (try dsimp only at hSw); first | (go_simp; done) | (go_simp; with_reducible rfl))
        try simp only [Act.put, List.setIfInBounds_toArray, List.set_cons_zero, List.set_cons_succ]
        refine tk (oi := { dst := some 65, op := Op.move (Operand.tmp 6), type := 3, pos := "law.go:170", after := #[], guard := none }) (v := ?_) 5 rfl ?_ ?_
        rotate_left
        · (intro w hSw; (try dsimp only at hSw); first | (go_simp; done) | (go_simp; with_reducible rfl))
        try simp only [Act.put, List.setIfInBounds_toArray, List.set_cons_zero, List.set_cons_succ]
        refine tk (oi := { dst := some 66, op := Op.indexAddr 34 (Operand.tmp 64) (Operand.tmp 65), type := 0, pos := "law.go:170", after := #[{ on := 4, ground := Ground.data }, { on := 5, ground := Ground.data }], guard := none }) (v := ?_) 6 rfl ?_ ?_
        rotate_left
        · (intro w hSw; (try dsimp only at hSw); first | (go_simp; done) | (go_simp; with_reducible rfl))
        try simp only [Act.put, List.setIfInBounds_toArray, List.set_cons_zero, List.set_cons_succ]
        refine tk (oi := { dst := some 67, op := Op.load 9 (Operand.tmp 66), type := 9, pos := "law.go:170", after := #[{ on := 6, ground := Ground.data }], guard := none }) (v := ?_) 7 rfl ?_ ?_
        rotate_left
        · (intro w hSw; (try dsimp only at hSw); first | (go_simp; done) | (go_simp; with_reducible rfl))
        try simp only [Act.put, List.setIfInBounds_toArray, List.set_cons_zero, List.set_cons_succ]
        refine wpAnyH_ready (rs := [8]) (by kernel_rfl) (by simp) ?_
        refine AllReadyH.cons (o := { dst := some 68, op := Op.call { callee := Callee.value (Operand.func 40), args := #[Operand.tmp 63, Operand.tmp 67], argTypes := #[42, 9] }, type := 73, pos := "law.go:170", after := #[{ on := 3, ground := Ground.data }, { on := 7, ground := Ground.data }], guard := none }) rfl (fun K hK => ?_) AllReadyH.nil
        go_simp
        refine (HC'.out _ (HB.out.trans (Bel.refl _).drew)).mono ?_
        rintro e w6 ⟨rfl, -, hb6⟩
        have HBK := Lib.hid ((Bel.refl wr).drew.trans hb6)
        have e0' := cell_later HBK.out e0
        have f0' := cell_later HBK.out f0
        have f1' := cell_later HBK.out f1
        have a0' := cell_later HBK.out a0
        have a3' := cell_later HBK.out a3
        have p0' := cell_later HBK.out p0
        have m0' := cell_later HBK.out m0
        clear hb6
        dsimp only
        refine hK.out _ _ ⟨p0', e0'⟩ (fun hHeld => ?_)
        clear hK K
        try simp only [Act.put, List.setIfInBounds_toArray, List.set_cons_zero, List.set_cons_succ]
        refine tk (oi := { dst := some 59, op := Op.move (Operand.tmp 68), type := 73, pos := "law.go:170", after := #[{ on := 8, ground := Ground.data }], guard := none }) (v := ?_) 9 rfl ?_ ?_
        rotate_left
        · (intro w hSw; (try dsimp only at hSw); first | (go_simp; done) | (go_simp; with_reducible rfl))
        try simp only [Act.put, List.setIfInBounds_toArray, List.set_cons_zero, List.set_cons_succ]
        refine tk (oi := { dst := some 69, op := Op.extract (Operand.tmp 59) 0, type := 9, pos := "law.go:170", after := #[{ on := 9, ground := Ground.data }], guard := none }) (v := ?_) 10 rfl ?_ ?_
        rotate_left
        · (intro w hSw; (try dsimp only at hSw); first | (go_simp; done) | (go_simp; with_reducible rfl))
        try simp only [Act.put, List.setIfInBounds_toArray, List.set_cons_zero, List.set_cons_succ]
        refine tk (oi := { dst := some 70, op := Op.extract (Operand.tmp 59) 1, type := 31, pos := "law.go:170", after := #[{ on := 9, ground := Ground.data }, { on := 12, ground := Ground.gcOnly Departure.lateStores }], guard := none }) (v := ?_) 11 rfl ?_ ?_
        rotate_left
        · (intro w hSw; (try dsimp only at hSw); first | (go_simp; done) | (go_simp; with_reducible rfl))
        try simp only [Act.put, List.setIfInBounds_toArray, List.set_cons_zero, List.set_cons_succ]
        refine tk (oi := { dst := some 7, op := Op.assign (Operand.tmp 69), type := 9, pos := "law.go:170", after := #[{ on := 10, ground := Ground.data }, { on := 8, ground := Ground.chain }, { on := 0, ground := Ground.phase }, { on := 1, ground := Ground.phase }, { on := 2, ground := Ground.phase }, { on := 3, ground := Ground.phase }, { on := 4, ground := Ground.phase }, { on := 5, ground := Ground.phase }, { on := 6, ground := Ground.phase }, { on := 7, ground := Ground.phase }, { on := 8, ground := Ground.phase }, { on := 9, ground := Ground.phase }, { on := 10, ground := Ground.phase }, { on := 11, ground := Ground.textOnly Departure.lateStores }], guard := none }) (v := ?_) 12 rfl ?_ ?_
        rotate_left
        · (intro w hSw; (try dsimp only at hSw); first | (go_simp; done) | (go_simp; with_reducible rfl))
        try simp only [Act.put, List.setIfInBounds_toArray, List.set_cons_zero, List.set_cons_succ]
        refine tk (oi := { dst := some 8, op := Op.assign (Operand.tmp 70), type := 31, pos := "law.go:170", after := #[{ on := 11, ground := Ground.data }, { on := 12, ground := Ground.chain }, { on := 0, ground := Ground.phase }, { on := 1, ground := Ground.phase }, { on := 2, ground := Ground.phase }, { on := 3, ground := Ground.phase }, { on := 4, ground := Ground.phase }, { on := 5, ground := Ground.phase }, { on := 6, ground := Ground.phase }, { on := 7, ground := Ground.phase }, { on := 8, ground := Ground.phase }, { on := 9, ground := Ground.phase }, { on := 10, ground := Ground.phase }, { on := 11, ground := Ground.phase }, { on := 12, ground := Ground.phase }], guard := none }) (v := ?_) 13 rfl ?_ ?_
        rotate_left
        · (intro w hSw; (try dsimp only at hSw); first | (go_simp; done) | (go_simp; with_reducible rfl))
        try simp only [Act.put, List.setIfInBounds_toArray, List.set_cons_zero, List.set_cons_succ]
        refine wpAnyH_done (by kernel_rfl) ?_ _
        clear e0 f0 f1 a0 a3 p0 m0 p0'
        go_wp2_with (fail)
        refine wp_region_held_drew (S := fun z => z.cell? ⟨g, k, none⟩ = some (.string ⟨y.name.toArray⟩) ∧ z.cell? ⟨ms, 0, none⟩ = some (.pointer (some ⟨r, 0, none⟩)) ∧ z.cell? ⟨r, 0, none⟩ = some (.slice (some ⟨g2, 0, none⟩) M.L.length rcap) ∧ z.cell? ⟨r, 3, none⟩ = some (.bool true) ∧ z.cell? ⟨g2, k * 3, none⟩ = some (.string ⟨y.name.toArray⟩)) (by kernel_rfl) ⟨e0', m0', a0', a3', f0'⟩ (fun hHeld => ?_)
        refine tk (oi := { dst := some 71, op := Op.move (Operand.tmp 5), type := 34, pos := "law.go:171", after := #[], guard := none }) (v := ?_) 0 rfl ?_ ?_
        rotate_left
        · (intro w hSw; (try dsimp only at hSw); first | (go_simp; done) | (go_simp; with_reducible rfl))
        try simp only [Act.put, List.setIfInBounds_toArray, List.set_cons_zero, List.set_cons_succ]
        refine tk (oi := { dst := some 72, op := Op.move (Operand.tmp 6), type := 3, pos := "law.go:171", after := #[], guard := none }) (v := ?_) 1 rfl ?_ ?_
        rotate_left
        · (intro w hSw; (try dsimp only at hSw); first | (go_simp; done) | (go_simp; with_reducible rfl))
        try simp only [Act.put, List.setIfInBounds_toArray, List.set_cons_zero, List.set_cons_succ]
        refine tk (oi := { dst := some 73, op := Op.indexAddr 34 (Operand.tmp 71) (Operand.tmp 72), type := 0, pos := "law.go:171", after := #[{ on := 0, ground := Ground.data }, { on := 1, ground := Ground.data }], guard := none }) (v := ?_) 2 rfl ?_ ?_
        rotate_left
        · (intro w hSw; (try dsimp only at hSw); first | (go_simp; done) | (go_simp; with_reducible rfl))
        try simp only [Act.put, List.setIfInBounds_toArray, List.set_cons_zero, List.set_cons_succ]
        refine tk (oi := { dst := some 74, op := Op.load 9 (Operand.tmp 73), type := 9, pos := "law.go:171", after := #[{ on := 2, ground := Ground.data }], guard := none }) (v := ?_) 3 rfl ?_ ?_
        rotate_left
        · (intro w hSw; (try dsimp only at hSw); first | (go_simp; done) | (go_simp; with_reducible rfl))
        try simp only [Act.put, List.setIfInBounds_toArray, List.set_cons_zero, List.set_cons_succ]
        refine tk (oi := { dst := some 75, op := Op.move (Operand.tmp 1), type := 26, pos := "law.go:171", after := #[], guard := none }) (v := ?_) 4 rfl ?_ ?_
        rotate_left
        · (intro w hSw; (try dsimp only at hSw); first | (go_simp; done) | (go_simp; with_reducible rfl))
        try simp only [Act.put, List.setIfInBounds_toArray, List.set_cons_zero, List.set_cons_succ]
        refine tk (oi := { dst := some 76, op := Op.nilCheck (Operand.tmp 75), type := 0, pos := "law.go:171", after := #[{ on := 4, ground := Ground.data }], guard := none }) (v := ?_) 5 rfl ?_ ?_
        rotate_left
        · (intro w hSw; (try dsimp only at hSw); first | (go_simp; done) | (go_simp; with_reducible rfl))
        try simp only [Act.put, List.setIfInBounds_toArray, List.set_cons_zero, List.set_cons_succ]
        refine tk (oi := { dst := some 77, op := Op.fieldAddr 60 (Operand.tmp 76) 0, type := 0, pos := "law.go:171", after := #[{ on := 5, ground := Ground.data }], guard := none }) (v := ?_) 6 rfl ?_ ?_
        rotate_left
        · (intro w hSw; (try dsimp only at hSw); first | (go_simp; done) | (go_simp; with_reducible rfl))
        try simp only [Act.put, List.setIfInBounds_toArray, List.set_cons_zero, List.set_cons_succ]
        refine tk (oi := { dst := some 78, op := Op.load 45 (Operand.tmp 77), type := 45, pos := "law.go:171", after := #[{ on := 6, ground := Ground.data }], guard := none }) (v := ?_) 7 rfl ?_ ?_
        rotate_left
        · (intro w hSw; (try dsimp only at hSw); first | (go_simp; done) | (go_simp; with_reducible rfl))
        try simp only [Act.put, List.setIfInBounds_toArray, List.set_cons_zero, List.set_cons_succ]
        refine tk (oi := { dst := some 79, op := Op.nilCheck (Operand.tmp 78), type := 0, pos := "law.go:171", after := #[{ on := 7, ground := Ground.data }], guard := none }) (v := ?_) 8 rfl ?_ ?_
        rotate_left
        · (intro w hSw; (try dsimp only at hSw); first | (go_simp; done) | (go_simp; with_reducible rfl))
        try simp only [Act.put, List.setIfInBounds_toArray, List.set_cons_zero, List.set_cons_succ]
        refine tk (oi := { dst := some 80, op := Op.fieldAddr 80 (Operand.tmp 79) 0, type := 0, pos := "law.go:171", after := #[{ on := 8, ground := Ground.data }], guard := none }) (v := ?_) 9 rfl ?_ ?_
        rotate_left
        · (intro w hSw; (try dsimp only at hSw); first | (go_simp; done) | (go_simp; with_reducible rfl))
        try simp only [Act.put, List.setIfInBounds_toArray, List.set_cons_zero, List.set_cons_succ]
        refine tk (oi := { dst := some 81, op := Op.load 78 (Operand.tmp 80), type := 78, pos := "law.go:171", after := #[{ on := 9, ground := Ground.data }], guard := none }) (v := ?_) 10 rfl ?_ ?_
        rotate_left
        · (intro w hSw; (try dsimp only at hSw); first | (go_simp; done) | (go_simp; with_reducible rfl))
        try simp only [Act.put, List.setIfInBounds_toArray, List.set_cons_zero, List.set_cons_succ]
        refine tk (oi := { dst := some 82, op := Op.move (Operand.tmp 6), type := 3, pos := "law.go:171", after := #[], guard := none }) (v := ?_) 11 rfl ?_ ?_
        rotate_left
        · (intro w hSw; (try dsimp only at hSw); first | (go_simp; done) | (go_simp; with_reducible rfl))
        try simp only [Act.put, List.setIfInBounds_toArray, List.set_cons_zero, List.set_cons_succ]
        refine tk (oi := { dst := some 83, op := Op.indexAddr 78 (Operand.tmp 81) (Operand.tmp 82), type := 0, pos := "law.go:171", after := #[{ on := 10, ground := Ground.data }, { on := 11, ground := Ground.data }], guard := none }) (v := ?_) 12 rfl ?_ ?_
        rotate_left
        · (intro w hSw; (try dsimp only at hSw); first | (go_simp; done) | (go_simp; with_reducible rfl))
        try simp only [Act.put, List.setIfInBounds_toArray, List.set_cons_zero, List.set_cons_succ]
        refine tk (oi := { dst := some 84, op := Op.fieldAddr 83 (Operand.tmp 83) 0, type := 0, pos := "law.go:171", after := #[{ on := 12, ground := Ground.data }], guard := none }) (v := ?_) 13 rfl ?_ ?_
        rotate_left
        · (intro w hSw; (try dsimp only at hSw); first | (go_simp; done) | (go_simp; with_reducible rfl))
        try simp only [Act.put, List.setIfInBounds_toArray, List.set_cons_zero, List.set_cons_succ]
        refine tk (oi := { dst := some 85, op := Op.load 9 (Operand.tmp 84), type := 9, pos := "law.go:171", after := #[{ on := 13, ground := Ground.data }], guard := none }) (v := ?_) 14 rfl ?_ ?_
        rotate_left
        · (intro w hSw; (try dsimp only at hSw); first | (go_simp; done) | (go_simp; with_reducible rfl))
        try simp only [Act.put, List.setIfInBounds_toArray, List.set_cons_zero, List.set_cons_succ]
        refine tk (oi := { dst := some 86, op := Op.binOp BinOp.neq 9 (Operand.tmp 74) (Operand.tmp 85) 9, type := 4, pos := "law.go:171", after := #[{ on := 3, ground := Ground.data }, { on := 14, ground := Ground.data }], guard := none }) (v := ?_) 15 rfl ?_ ?_
        rotate_left
        · (intro w hSw; (try dsimp only at hSw); first | (go_simp; done) | (go_simp; with_reducible rfl))
        try simp only [Act.put, List.setIfInBounds_toArray, List.set_cons_zero, List.set_cons_succ]
        refine tk (oi := { dst := some 87, op := Op.move (Operand.tmp 86), type := 4, pos := "law.go:171", after := #[{ on := 15, ground := Ground.data }], guard := none }) (v := ?_) 16 rfl ?_ ?_
        rotate_left
        · (intro w hSw; (try dsimp only at hSw); first | (go_simp; done) | (go_simp; with_reducible rfl))
        try simp only [Act.put, List.setIfInBounds_toArray, List.set_cons_zero, List.set_cons_succ]
        refine tk (oi := { dst := some 88, op := Op.move (Operand.tmp 1), type := 26, pos := "law.go:171", after := #[{ on := 16, ground := Ground.guard }], guard := some (16, false) }) (v := ?_) 17 rfl ?_ ?_
        rotate_left
        · (intro w hSw; (try dsimp only at hSw); first | (go_simp; done) | (go_simp; with_reducible rfl))
        try simp only [Act.put, List.setIfInBounds_toArray, List.set_cons_zero, List.set_cons_succ]
        refine tk (oi := { dst := some 89, op := Op.nilCheck (Operand.tmp 88), type := 0, pos := "law.go:171", after := #[{ on := 17, ground := Ground.data }, { on := 16, ground := Ground.guard }], guard := some (16, false) }) (v := ?_) 18 rfl ?_ ?_
        rotate_left
        · (intro w hSw; (try dsimp only at hSw); first | (go_simp; done) | (go_simp; with_reducible rfl))
        try simp only [Act.put, List.setIfInBounds_toArray, List.set_cons_zero, List.set_cons_succ]
        refine tk (oi := { dst := some 90, op := Op.fieldAddr 60 (Operand.tmp 89) 0, type := 0, pos := "law.go:171", after := #[{ on := 18, ground := Ground.data }, { on := 16, ground := Ground.guard }], guard := some (16, false) }) (v := ?_) 19 rfl ?_ ?_
        rotate_left
        · (intro w hSw; (try dsimp only at hSw); first | (go_simp; done) | (go_simp; with_reducible rfl))
        try simp only [Act.put, List.setIfInBounds_toArray, List.set_cons_zero, List.set_cons_succ]
        refine tk (oi := { dst := some 91, op := Op.load 45 (Operand.tmp 90), type := 45, pos := "law.go:171", after := #[{ on := 19, ground := Ground.data }, { on := 16, ground := Ground.guard }], guard := some (16, false) }) (v := ?_) 20 rfl ?_ ?_
        rotate_left
        · (intro w hSw; (try dsimp only at hSw); first | (go_simp; done) | (go_simp; with_reducible rfl))
        try simp only [Act.put, List.setIfInBounds_toArray, List.set_cons_zero, List.set_cons_succ]
        refine tk (oi := { dst := some 92, op := Op.nilCheck (Operand.tmp 91), type := 0, pos := "law.go:171", after := #[{ on := 20, ground := Ground.data }, { on := 16, ground := Ground.guard }], guard := some (16, false) }) (v := ?_) 21 rfl ?_ ?_
        rotate_left
        · (intro w hSw; (try dsimp only at hSw); first | (go_simp; done) | (go_simp; with_reducible rfl))
        try simp only [Act.put, List.setIfInBounds_toArray, List.set_cons_zero, List.set_cons_succ]
        refine tk (oi := { dst := some 93, op := Op.fieldAddr 80 (Operand.tmp 92) 3, type := 0, pos := "law.go:171", after := #[{ on := 21, ground := Ground.data }, { on := 16, ground := Ground.guard }], guard := some (16, false) }) (v := ?_) 22 rfl ?_ ?_
        rotate_left
        · (intro w hSw; (try dsimp only at hSw); first | (go_simp; done) | (go_simp; with_reducible rfl))
        try simp only [Act.put, List.setIfInBounds_toArray, List.set_cons_zero, List.set_cons_succ]
        refine tk (oi := { dst := some 94, op := Op.load 4 (Operand.tmp 93), type := 4, pos := "law.go:171", after := #[{ on := 22, ground := Ground.data }, { on := 16, ground := Ground.guard }], guard := some (16, false) }) (v := ?_) 23 rfl ?_ ?_
        rotate_left
        · (intro w hSw; (try dsimp only at hSw); first | (go_simp; done) | (go_simp; with_reducible rfl))
        try simp only [Act.put, List.setIfInBounds_toArray, List.set_cons_zero, List.set_cons_succ]
        refine tk (oi := { dst := some 95, op := Op.unOp UnOp.not 4 (Operand.tmp 94), type := 4, pos := "law.go:171", after := #[{ on := 23, ground := Ground.data }, { on := 16, ground := Ground.guard }], guard := some (16, false) }) (v := ?_) 24 rfl ?_ ?_
        rotate_left
        · (intro w hSw; (try dsimp only at hSw); first | (go_simp; done) | (go_simp; with_reducible rfl))
        try simp only [Act.put, List.setIfInBounds_toArray, List.set_cons_zero, List.set_cons_succ]
        refine tk (oi := { dst := some 96, op := Op.move (Operand.tmp 95), type := 4, pos := "law.go:171", after := #[{ on := 24, ground := Ground.data }, { on := 16, ground := Ground.chain }, { on := 16, ground := Ground.guard }], guard := some (16, false) }) (v := ?_) 25 rfl ?_ ?_
        rotate_left
        · (intro w hSw; (try dsimp only at hSw); first | (go_simp; done) | (go_simp; with_reducible rfl))
        try simp only [Act.put, List.setIfInBounds_toArray, List.set_cons_zero, List.set_cons_succ]
        refine wpAnyH_take (i := 26) (oi := { dst := some 97, op := Op.move (Operand.tmp 7), type := 9, pos := "law.go:171", after := #[{ on := 25, ground := Ground.guard }], guard := some (25, true) }) (v := undef) rfl (by kernel_rfl) (by kernel_rfl) (by kernel_rfl) (fun _ _ _ h => h) (Or.inr ⟨by rfl, rfl⟩) (by assumption) ?_
        try simp only [Act.put, List.setIfInBounds_toArray, List.set_cons_zero, List.set_cons_succ]
        refine wpAnyH_take (i := 27) (oi := { dst := some 98, op := Op.move (Operand.tmp 1), type := 26, pos := "law.go:171", after := #[{ on := 25, ground := Ground.guard }], guard := some (25, true) }) (v := undef) rfl (by kernel_rfl) (by kernel_rfl) (by kernel_rfl) (fun _ _ _ h => h) (Or.inr ⟨by rfl, rfl⟩) (by assumption) ?_
        try simp only [Act.put, List.setIfInBounds_toArray, List.set_cons_zero, List.set_cons_succ]
        refine wpAnyH_take (i := 28) (oi := { dst := some 99, op := Op.nilCheck (Operand.tmp 98), type := 0, pos := "law.go:171", after := #[{ on := 27, ground := Ground.data }, { on := 25, ground := Ground.guard }], guard := some (25, true) }) (v := undef) rfl (by kernel_rfl) (by kernel_rfl) (by kernel_rfl) (fun _ _ _ h => h) (Or.inr ⟨by rfl, rfl⟩) (by assumption) ?_
        try simp only [Act.put, List.setIfInBounds_toArray, List.set_cons_zero, List.set_cons_succ]
        refine wpAnyH_take (i := 29) (oi := { dst := some 100, op := Op.fieldAddr 60 (Operand.tmp 99) 0, type := 0, pos := "law.go:171", after := #[{ on := 28, ground := Ground.data }, { on := 25, ground := Ground.guard }], guard := some (25, true) }) (v := undef) rfl (by kernel_rfl) (by kernel_rfl) (by kernel_rfl) (fun _ _ _ h => h) (Or.inr ⟨by rfl, rfl⟩) (by assumption) ?_
        try simp only [Act.put, List.setIfInBounds_toArray, List.set_cons_zero, List.set_cons_succ]
        refine wpAnyH_take (i := 30) (oi := { dst := some 101, op := Op.load 45 (Operand.tmp 100), type := 45, pos := "law.go:171", after := #[{ on := 29, ground := Ground.data }, { on := 25, ground := Ground.guard }], guard := some (25, true) }) (v := undef) rfl (by kernel_rfl) (by kernel_rfl) (by kernel_rfl) (fun _ _ _ h => h) (Or.inr ⟨by rfl, rfl⟩) (by assumption) ?_
        try simp only [Act.put, List.setIfInBounds_toArray, List.set_cons_zero, List.set_cons_succ]
        refine wpAnyH_take (i := 31) (oi := { dst := some 102, op := Op.nilCheck (Operand.tmp 101), type := 0, pos := "law.go:171", after := #[{ on := 30, ground := Ground.data }, { on := 25, ground := Ground.guard }], guard := some (25, true) }) (v := undef) rfl (by kernel_rfl) (by kernel_rfl) (by kernel_rfl) (fun _ _ _ h => h) (Or.inr ⟨by rfl, rfl⟩) (by assumption) ?_
        try simp only [Act.put, List.setIfInBounds_toArray, List.set_cons_zero, List.set_cons_succ]
        refine wpAnyH_take (i := 32) (oi := { dst := some 103, op := Op.fieldAddr 80 (Operand.tmp 102) 0, type := 0, pos := "law.go:171", after := #[{ on := 31, ground := Ground.data }, { on := 25, ground := Ground.guard }], guard := some (25, true) }) (v := undef) rfl (by kernel_rfl) (by kernel_rfl) (by kernel_rfl) (fun _ _ _ h => h) (Or.inr ⟨by rfl, rfl⟩) (by assumption) ?_
        try simp only [Act.put, List.setIfInBounds_toArray, List.set_cons_zero, List.set_cons_succ]
        refine wpAnyH_take (i := 33) (oi := { dst := some 104, op := Op.load 78 (Operand.tmp 103), type := 78, pos := "law.go:171", after := #[{ on := 32, ground := Ground.data }, { on := 25, ground := Ground.guard }], guard := some (25, true) }) (v := undef) rfl (by kernel_rfl) (by kernel_rfl) (by kernel_rfl) (fun _ _ _ h => h) (Or.inr ⟨by rfl, rfl⟩) (by assumption) ?_
        try simp only [Act.put, List.setIfInBounds_toArray, List.set_cons_zero, List.set_cons_succ]
        refine wpAnyH_take (i := 34) (oi := { dst := some 105, op := Op.move (Operand.tmp 6), type := 3, pos := "law.go:171", after := #[{ on := 25, ground := Ground.guard }], guard := some (25, true) }) (v := undef) rfl (by kernel_rfl) (by kernel_rfl) (by kernel_rfl) (fun _ _ _ h => h) (Or.inr ⟨by rfl, rfl⟩) (by assumption) ?_
        try simp only [Act.put, List.setIfInBounds_toArray, List.set_cons_zero, List.set_cons_succ]
        refine wpAnyH_take (i := 35) (oi := { dst := some 106, op := Op.indexAddr 78 (Operand.tmp 104) (Operand.tmp 105), type := 0, pos := "law.go:171", after := #[{ on := 33, ground := Ground.data }, { on := 34, ground := Ground.data }, { on := 25, ground := Ground.guard }], guard := some (25, true) }) (v := undef) rfl (by kernel_rfl) (by kernel_rfl) (by kernel_rfl) (fun _ _ _ h => h) (Or.inr ⟨by rfl, rfl⟩) (by assumption) ?_
        try simp only [Act.put, List.setIfInBounds_toArray, List.set_cons_zero, List.set_cons_succ]
        refine wpAnyH_take (i := 36) (oi := { dst := some 107, op := Op.fieldAddr 83 (Operand.tmp 106) 1, type := 0, pos := "law.go:171", after := #[{ on := 35, ground := Ground.data }, { on := 25, ground := Ground.guard }], guard := some (25, true) }) (v := undef) rfl (by kernel_rfl) (by kernel_rfl) (by kernel_rfl) (fun _ _ _ h => h) (Or.inr ⟨by rfl, rfl⟩) (by assumption) ?_
        try simp only [Act.put, List.setIfInBounds_toArray, List.set_cons_zero, List.set_cons_succ]
        refine wpAnyH_take (i := 37) (oi := { dst := some 108, op := Op.load 9 (Operand.tmp 107), type := 9, pos := "law.go:171", after := #[{ on := 36, ground := Ground.data }, { on := 25, ground := Ground.guard }], guard := some (25, true) }) (v := undef) rfl (by kernel_rfl) (by kernel_rfl) (by kernel_rfl) (fun _ _ _ h => h) (Or.inr ⟨by rfl, rfl⟩) (by assumption) ?_
        try simp only [Act.put, List.setIfInBounds_toArray, List.set_cons_zero, List.set_cons_succ]
        refine wpAnyH_take (i := 38) (oi := { dst := some 109, op := Op.binOp BinOp.neq 9 (Operand.tmp 97) (Operand.tmp 108) 9, type := 4, pos := "law.go:171", after := #[{ on := 26, ground := Ground.data }, { on := 37, ground := Ground.data }, { on := 25, ground := Ground.guard }], guard := some (25, true) }) (v := undef) rfl (by kernel_rfl) (by kernel_rfl) (by kernel_rfl) (fun _ _ _ h => h) (Or.inr ⟨by rfl, rfl⟩) (by assumption) ?_
        try simp only [Act.put, List.setIfInBounds_toArray, List.set_cons_zero, List.set_cons_succ]
        refine tk (oi := { dst := some 110, op := Op.pick (Operand.tmp 96) (Operand.tmp 109) (Operand.const (Value.bool false)), type := 4, pos := "law.go:171", after := #[{ on := 25, ground := Ground.data }, { on := 38, ground := Ground.data }, { on := 16, ground := Ground.guard }], guard := some (16, false) }) (v := ?_) 39 rfl ?_ ?_
        rotate_left
        · (intro w hSw; (try dsimp only at hSw); first | (go_simp; done) | (go_simp; with_reducible rfl))
        try simp only [Act.put, List.setIfInBounds_toArray, List.set_cons_zero, List.set_cons_succ]
        refine tk (oi := { dst := some 111, op := Op.pick (Operand.tmp 87) (Operand.const (Value.bool true)) (Operand.tmp 110), type := 4, pos := "law.go:171", after := #[{ on := 16, ground := Ground.data }, { on := 39, ground := Ground.data }], guard := none }) (v := ?_) 40 rfl ?_ ?_
        rotate_left
        · (intro w hSw; (try dsimp only at hSw); first | (go_simp; done) | (go_simp; with_reducible rfl))
        try simp only [Act.put, List.setIfInBounds_toArray, List.set_cons_zero, List.set_cons_succ]
        refine wpAnyH_done (by kernel_rfl) ?_ _
        go_wp2_with (fail)
        go_roundw
        case rel => exact ⟨k + 1, by go_num, by omega, (HBW.out.trans HBK.out).drew⟩
        case measure => simp [intOf]; omega
      | false =>
        have HGS := Lib.hid (show getS (⟨y.name.toArray⟩ : ByteArray).data.toList M = (y.bytes, 0) by rw [hnmL]; unfold getS; rw [hg, hgy]; rfl)
        have HC' := Lib.hid (show ∀ z, Bel x z → Calls Tryz.prog 40 #[.pointer (some ⟨b, 0, none⟩), .string ⟨y.name.toArray⟩] z fun e y' => e = .returned (.tuple #[.string ⟨y.bytes.toArray⟩, .int .i64 0]) ∧ LW w y' ws ms b r jb rb M M nm most R ∧ Bel z y' from fun z hz => by
          have := HC.out z hz
          rw [HGS.out] at this
          exact this)
        rw [hg] at a3
        clear hym hgy hyn hnmL hsz hcs hcs2 hne hne2 hg HC HGS
        go_wp2_with (fail)
        refine wp_region_held_drew (S := fun z => z.cell? ⟨ws, 0, none⟩ = some (.pointer (some ⟨b, 0, none⟩)) ∧ z.cell? ⟨g, k, none⟩ = some (.string ⟨y.name.toArray⟩)) (by kernel_rfl) ⟨p0, e0⟩ (fun hHeld => ?_)
        refine tk (oi := { dst := some 60, op := Op.move (Operand.tmp 0), type := 25, pos := "law.go:170", after := #[], guard := none }) (v := ?_) 0 rfl ?_ ?_
        rotate_left
        · (intro w hSw; (try dsimp only at hSw); first | (go_simp; done) | (go_simp; with_reducible rfl))
        try simp only [Act.put, List.setIfInBounds_toArray, List.set_cons_zero, List.set_cons_succ]
        refine tk (oi := { dst := some 61, op := Op.nilCheck (Operand.tmp 60), type := 0, pos := "law.go:170", after := #[{ on := 0, ground := Ground.data }], guard := none }) (v := ?_) 1 rfl ?_ ?_
        rotate_left
        · (intro w hSw; (try dsimp only at hSw); first | (go_simp; done) | (go_simp; with_reducible rfl))
        try simp only [Act.put, List.setIfInBounds_toArray, List.set_cons_zero, List.set_cons_succ]
        refine tk (oi := { dst := some 62, op := Op.fieldAddr 58 (Operand.tmp 61) 0, type := 0, pos := "law.go:170", after := #[{ on := 1, ground := Ground.data }], guard := none }) (v := ?_) 2 rfl ?_ ?_
        rotate_left
        · (intro w hSw; (try dsimp only at hSw); first | (go_simp; done) | (go_simp; with_reducible rfl))
        try simp only [Act.put, List.setIfInBounds_toArray, List.set_cons_zero, List.set_cons_succ]
        refine tk (oi := { dst := some 63, op := Op.load 42 (Operand.tmp 62), type := 42, pos := "law.go:170", after := #[{ on := 2, ground := Ground.data }], guard := none }) (v := ?_) 3 rfl ?_ ?_
        rotate_left
        · (intro w hSw; (try dsimp only at hSw); first | (go_simp; done) | (go_simp; with_reducible rfl))
        try simp only [Act.put, List.setIfInBounds_toArray, List.set_cons_zero, List.set_cons_succ]
        refine tk (oi := { dst := some 64, op := Op.move (Operand.tmp 5), type := 34, pos := "law.go:170", after := #[], guard := none }) (v := ?_) 4 rfl ?_ ?_
        rotate_left
        · (intro w hSw; (try dsimp only at hSw); first | (go_simp; done) | (go_simp; with_reducible rfl))
        try simp only [Act.put, List.setIfInBounds_toArray, List.set_cons_zero, List.set_cons_succ]
        refine tk (oi := { dst := some 65, op := Op.move (Operand.tmp 6), type := 3, pos := "law.go:170", after := #[], guard := none }) (v := ?_) 5 rfl ?_ ?_
        rotate_left
        · (intro w hSw; (try dsimp only at hSw); first | (go_simp; done) | (go_simp; with_reducible rfl))
        try simp only [Act.put, List.setIfInBounds_toArray, List.set_cons_zero, List.set_cons_succ]
        refine tk (oi := { dst := some 66, op := Op.indexAddr 34 (Operand.tmp 64) (Operand.tmp 65), type := 0, pos := "law.go:170", after := #[{ on := 4, ground := Ground.data }, { on := 5, ground := Ground.data }], guard := none }) (v := ?_) 6 rfl ?_ ?_
        rotate_left
        · (intro w hSw; (try dsimp only at hSw); first | (go_simp; done) | (go_simp; with_reducible rfl))
        try simp only [Act.put, List.setIfInBounds_toArray, List.set_cons_zero, List.set_cons_succ]
        refine tk (oi := { dst := some 67, op := Op.load 9 (Operand.tmp 66), type := 9, pos := "law.go:170", after := #[{ on := 6, ground := Ground.data }], guard := none }) (v := ?_) 7 rfl ?_ ?_
        rotate_left
        · (intro w hSw; (try dsimp only at hSw); first | (go_simp; done) | (go_simp; with_reducible rfl))
        try simp only [Act.put, List.setIfInBounds_toArray, List.set_cons_zero, List.set_cons_succ]
        refine wpAnyH_ready (rs := [8]) (by kernel_rfl) (by simp) ?_
        refine AllReadyH.cons (o := { dst := some 68, op := Op.call { callee := Callee.value (Operand.func 40), args := #[Operand.tmp 63, Operand.tmp 67], argTypes := #[42, 9] }, type := 73, pos := "law.go:170", after := #[{ on := 3, ground := Ground.data }, { on := 7, ground := Ground.data }], guard := none }) rfl (fun K hK => ?_) AllReadyH.nil
        go_simp
        refine (HC'.out _ (HB.out.trans (Bel.refl _).drew)).mono ?_
        rintro e w6 ⟨rfl, -, hb6⟩
        have HBK := Lib.hid ((Bel.refl wr).drew.trans hb6)
        have e0' := cell_later HBK.out e0
        have f0' := cell_later HBK.out f0
        have f1' := cell_later HBK.out f1
        have a0' := cell_later HBK.out a0
        have a3' := cell_later HBK.out a3
        have p0' := cell_later HBK.out p0
        have m0' := cell_later HBK.out m0
        clear hb6
        dsimp only
        refine hK.out _ _ ⟨p0', e0'⟩ (fun hHeld => ?_)
        clear hK K
        try simp only [Act.put, List.setIfInBounds_toArray, List.set_cons_zero, List.set_cons_succ]
        refine tk (oi := { dst := some 59, op := Op.move (Operand.tmp 68), type := 73, pos := "law.go:170", after := #[{ on := 8, ground := Ground.data }], guard := none }) (v := ?_) 9 rfl ?_ ?_
        rotate_left
        · (intro w hSw; (try dsimp only at hSw); first | (go_simp; done) | (go_simp; with_reducible rfl))
        try simp only [Act.put, List.setIfInBounds_toArray, List.set_cons_zero, List.set_cons_succ]
        refine tk (oi := { dst := some 69, op := Op.extract (Operand.tmp 59) 0, type := 9, pos := "law.go:170", after := #[{ on := 9, ground := Ground.data }], guard := none }) (v := ?_) 10 rfl ?_ ?_
        rotate_left
        · (intro w hSw; (try dsimp only at hSw); first | (go_simp; done) | (go_simp; with_reducible rfl))
        try simp only [Act.put, List.setIfInBounds_toArray, List.set_cons_zero, List.set_cons_succ]
        refine tk (oi := { dst := some 70, op := Op.extract (Operand.tmp 59) 1, type := 31, pos := "law.go:170", after := #[{ on := 9, ground := Ground.data }, { on := 12, ground := Ground.gcOnly Departure.lateStores }], guard := none }) (v := ?_) 11 rfl ?_ ?_
        rotate_left
        · (intro w hSw; (try dsimp only at hSw); first | (go_simp; done) | (go_simp; with_reducible rfl))
        try simp only [Act.put, List.setIfInBounds_toArray, List.set_cons_zero, List.set_cons_succ]
        refine tk (oi := { dst := some 7, op := Op.assign (Operand.tmp 69), type := 9, pos := "law.go:170", after := #[{ on := 10, ground := Ground.data }, { on := 8, ground := Ground.chain }, { on := 0, ground := Ground.phase }, { on := 1, ground := Ground.phase }, { on := 2, ground := Ground.phase }, { on := 3, ground := Ground.phase }, { on := 4, ground := Ground.phase }, { on := 5, ground := Ground.phase }, { on := 6, ground := Ground.phase }, { on := 7, ground := Ground.phase }, { on := 8, ground := Ground.phase }, { on := 9, ground := Ground.phase }, { on := 10, ground := Ground.phase }, { on := 11, ground := Ground.textOnly Departure.lateStores }], guard := none }) (v := ?_) 12 rfl ?_ ?_
        rotate_left
        · (intro w hSw; (try dsimp only at hSw); first | (go_simp; done) | (go_simp; with_reducible rfl))
        try simp only [Act.put, List.setIfInBounds_toArray, List.set_cons_zero, List.set_cons_succ]
        refine tk (oi := { dst := some 8, op := Op.assign (Operand.tmp 70), type := 31, pos := "law.go:170", after := #[{ on := 11, ground := Ground.data }, { on := 12, ground := Ground.chain }, { on := 0, ground := Ground.phase }, { on := 1, ground := Ground.phase }, { on := 2, ground := Ground.phase }, { on := 3, ground := Ground.phase }, { on := 4, ground := Ground.phase }, { on := 5, ground := Ground.phase }, { on := 6, ground := Ground.phase }, { on := 7, ground := Ground.phase }, { on := 8, ground := Ground.phase }, { on := 9, ground := Ground.phase }, { on := 10, ground := Ground.phase }, { on := 11, ground := Ground.phase }, { on := 12, ground := Ground.phase }], guard := none }) (v := ?_) 13 rfl ?_ ?_
        rotate_left
        · (intro w hSw; (try dsimp only at hSw); first | (go_simp; done) | (go_simp; with_reducible rfl))
        try simp only [Act.put, List.setIfInBounds_toArray, List.set_cons_zero, List.set_cons_succ]
        refine wpAnyH_done (by kernel_rfl) ?_ _
        clear e0 f0 f1 a0 a3 p0 m0 p0'
        go_wp2_with (fail)
        refine wp_region_held_drew (S := fun z => z.cell? ⟨g, k, none⟩ = some (.string ⟨y.name.toArray⟩) ∧ z.cell? ⟨ms, 0, none⟩ = some (.pointer (some ⟨r, 0, none⟩)) ∧ z.cell? ⟨r, 0, none⟩ = some (.slice (some ⟨g2, 0, none⟩) M.L.length rcap) ∧ z.cell? ⟨r, 3, none⟩ = some (.bool false) ∧ z.cell? ⟨g2, k * 3, none⟩ = some (.string ⟨y.name.toArray⟩) ∧ z.cell? ⟨g2, k * 3 + 1, none⟩ = some (.string ⟨y.bytes.toArray⟩)) (by kernel_rfl) ⟨e0', m0', a0', a3', f0', f1'⟩ (fun hHeld => ?_)
        refine tk (oi := { dst := some 71, op := Op.move (Operand.tmp 5), type := 34, pos := "law.go:171", after := #[], guard := none }) (v := ?_) 0 rfl ?_ ?_
        rotate_left
        · (intro w hSw; (try dsimp only at hSw); first | (go_simp; done) | (go_simp; with_reducible rfl))
        try simp only [Act.put, List.setIfInBounds_toArray, List.set_cons_zero, List.set_cons_succ]
        refine tk (oi := { dst := some 72, op := Op.move (Operand.tmp 6), type := 3, pos := "law.go:171", after := #[], guard := none }) (v := ?_) 1 rfl ?_ ?_
        rotate_left
        · (intro w hSw; (try dsimp only at hSw); first | (go_simp; done) | (go_simp; with_reducible rfl))
        try simp only [Act.put, List.setIfInBounds_toArray, List.set_cons_zero, List.set_cons_succ]
        refine tk (oi := { dst := some 73, op := Op.indexAddr 34 (Operand.tmp 71) (Operand.tmp 72), type := 0, pos := "law.go:171", after := #[{ on := 0, ground := Ground.data }, { on := 1, ground := Ground.data }], guard := none }) (v := ?_) 2 rfl ?_ ?_
        rotate_left
        · (intro w hSw; (try dsimp only at hSw); first | (go_simp; done) | (go_simp; with_reducible rfl))
        try simp only [Act.put, List.setIfInBounds_toArray, List.set_cons_zero, List.set_cons_succ]
        refine tk (oi := { dst := some 74, op := Op.load 9 (Operand.tmp 73), type := 9, pos := "law.go:171", after := #[{ on := 2, ground := Ground.data }], guard := none }) (v := ?_) 3 rfl ?_ ?_
        rotate_left
        · (intro w hSw; (try dsimp only at hSw); first | (go_simp; done) | (go_simp; with_reducible rfl))
        try simp only [Act.put, List.setIfInBounds_toArray, List.set_cons_zero, List.set_cons_succ]
        refine tk (oi := { dst := some 75, op := Op.move (Operand.tmp 1), type := 26, pos := "law.go:171", after := #[], guard := none }) (v := ?_) 4 rfl ?_ ?_
        rotate_left
        · (intro w hSw; (try dsimp only at hSw); first | (go_simp; done) | (go_simp; with_reducible rfl))
        try simp only [Act.put, List.setIfInBounds_toArray, List.set_cons_zero, List.set_cons_succ]
        refine tk (oi := { dst := some 76, op := Op.nilCheck (Operand.tmp 75), type := 0, pos := "law.go:171", after := #[{ on := 4, ground := Ground.data }], guard := none }) (v := ?_) 5 rfl ?_ ?_
        rotate_left
        · (intro w hSw; (try dsimp only at hSw); first | (go_simp; done) | (go_simp; with_reducible rfl))
        try simp only [Act.put, List.setIfInBounds_toArray, List.set_cons_zero, List.set_cons_succ]
        refine tk (oi := { dst := some 77, op := Op.fieldAddr 60 (Operand.tmp 76) 0, type := 0, pos := "law.go:171", after := #[{ on := 5, ground := Ground.data }], guard := none }) (v := ?_) 6 rfl ?_ ?_
        rotate_left
        · (intro w hSw; (try dsimp only at hSw); first | (go_simp; done) | (go_simp; with_reducible rfl))
        try simp only [Act.put, List.setIfInBounds_toArray, List.set_cons_zero, List.set_cons_succ]
        refine tk (oi := { dst := some 78, op := Op.load 45 (Operand.tmp 77), type := 45, pos := "law.go:171", after := #[{ on := 6, ground := Ground.data }], guard := none }) (v := ?_) 7 rfl ?_ ?_
        rotate_left
        · (intro w hSw; (try dsimp only at hSw); first | (go_simp; done) | (go_simp; with_reducible rfl))
        try simp only [Act.put, List.setIfInBounds_toArray, List.set_cons_zero, List.set_cons_succ]
        refine tk (oi := { dst := some 79, op := Op.nilCheck (Operand.tmp 78), type := 0, pos := "law.go:171", after := #[{ on := 7, ground := Ground.data }], guard := none }) (v := ?_) 8 rfl ?_ ?_
        rotate_left
        · (intro w hSw; (try dsimp only at hSw); first | (go_simp; done) | (go_simp; with_reducible rfl))
        try simp only [Act.put, List.setIfInBounds_toArray, List.set_cons_zero, List.set_cons_succ]
        refine tk (oi := { dst := some 80, op := Op.fieldAddr 80 (Operand.tmp 79) 0, type := 0, pos := "law.go:171", after := #[{ on := 8, ground := Ground.data }], guard := none }) (v := ?_) 9 rfl ?_ ?_
        rotate_left
        · (intro w hSw; (try dsimp only at hSw); first | (go_simp; done) | (go_simp; with_reducible rfl))
        try simp only [Act.put, List.setIfInBounds_toArray, List.set_cons_zero, List.set_cons_succ]
        refine tk (oi := { dst := some 81, op := Op.load 78 (Operand.tmp 80), type := 78, pos := "law.go:171", after := #[{ on := 9, ground := Ground.data }], guard := none }) (v := ?_) 10 rfl ?_ ?_
        rotate_left
        · (intro w hSw; (try dsimp only at hSw); first | (go_simp; done) | (go_simp; with_reducible rfl))
        try simp only [Act.put, List.setIfInBounds_toArray, List.set_cons_zero, List.set_cons_succ]
        refine tk (oi := { dst := some 82, op := Op.move (Operand.tmp 6), type := 3, pos := "law.go:171", after := #[], guard := none }) (v := ?_) 11 rfl ?_ ?_
        rotate_left
        · (intro w hSw; (try dsimp only at hSw); first | (go_simp; done) | (go_simp; with_reducible rfl))
        try simp only [Act.put, List.setIfInBounds_toArray, List.set_cons_zero, List.set_cons_succ]
        refine tk (oi := { dst := some 83, op := Op.indexAddr 78 (Operand.tmp 81) (Operand.tmp 82), type := 0, pos := "law.go:171", after := #[{ on := 10, ground := Ground.data }, { on := 11, ground := Ground.data }], guard := none }) (v := ?_) 12 rfl ?_ ?_
        rotate_left
        · (intro w hSw; (try dsimp only at hSw); first | (go_simp; done) | (go_simp; with_reducible rfl))
        try simp only [Act.put, List.setIfInBounds_toArray, List.set_cons_zero, List.set_cons_succ]
        refine tk (oi := { dst := some 84, op := Op.fieldAddr 83 (Operand.tmp 83) 0, type := 0, pos := "law.go:171", after := #[{ on := 12, ground := Ground.data }], guard := none }) (v := ?_) 13 rfl ?_ ?_
        rotate_left
        · (intro w hSw; (try dsimp only at hSw); first | (go_simp; done) | (go_simp; with_reducible rfl))
        try simp only [Act.put, List.setIfInBounds_toArray, List.set_cons_zero, List.set_cons_succ]
        refine tk (oi := { dst := some 85, op := Op.load 9 (Operand.tmp 84), type := 9, pos := "law.go:171", after := #[{ on := 13, ground := Ground.data }], guard := none }) (v := ?_) 14 rfl ?_ ?_
        rotate_left
        · (intro w hSw; (try dsimp only at hSw); first | (go_simp; done) | (go_simp; with_reducible rfl))
        try simp only [Act.put, List.setIfInBounds_toArray, List.set_cons_zero, List.set_cons_succ]
        refine tk (oi := { dst := some 86, op := Op.binOp BinOp.neq 9 (Operand.tmp 74) (Operand.tmp 85) 9, type := 4, pos := "law.go:171", after := #[{ on := 3, ground := Ground.data }, { on := 14, ground := Ground.data }], guard := none }) (v := ?_) 15 rfl ?_ ?_
        rotate_left
        · (intro w hSw; (try dsimp only at hSw); first | (go_simp; done) | (go_simp; with_reducible rfl))
        try simp only [Act.put, List.setIfInBounds_toArray, List.set_cons_zero, List.set_cons_succ]
        refine tk (oi := { dst := some 87, op := Op.move (Operand.tmp 86), type := 4, pos := "law.go:171", after := #[{ on := 15, ground := Ground.data }], guard := none }) (v := ?_) 16 rfl ?_ ?_
        rotate_left
        · (intro w hSw; (try dsimp only at hSw); first | (go_simp; done) | (go_simp; with_reducible rfl))
        try simp only [Act.put, List.setIfInBounds_toArray, List.set_cons_zero, List.set_cons_succ]
        refine tk (oi := { dst := some 88, op := Op.move (Operand.tmp 1), type := 26, pos := "law.go:171", after := #[{ on := 16, ground := Ground.guard }], guard := some (16, false) }) (v := ?_) 17 rfl ?_ ?_
        rotate_left
        · (intro w hSw; (try dsimp only at hSw); first | (go_simp; done) | (go_simp; with_reducible rfl))
        try simp only [Act.put, List.setIfInBounds_toArray, List.set_cons_zero, List.set_cons_succ]
        refine tk (oi := { dst := some 89, op := Op.nilCheck (Operand.tmp 88), type := 0, pos := "law.go:171", after := #[{ on := 17, ground := Ground.data }, { on := 16, ground := Ground.guard }], guard := some (16, false) }) (v := ?_) 18 rfl ?_ ?_
        rotate_left
        · (intro w hSw; (try dsimp only at hSw); first | (go_simp; done) | (go_simp; with_reducible rfl))
        try simp only [Act.put, List.setIfInBounds_toArray, List.set_cons_zero, List.set_cons_succ]
        refine tk (oi := { dst := some 90, op := Op.fieldAddr 60 (Operand.tmp 89) 0, type := 0, pos := "law.go:171", after := #[{ on := 18, ground := Ground.data }, { on := 16, ground := Ground.guard }], guard := some (16, false) }) (v := ?_) 19 rfl ?_ ?_
        rotate_left
        · (intro w hSw; (try dsimp only at hSw); first | (go_simp; done) | (go_simp; with_reducible rfl))
        try simp only [Act.put, List.setIfInBounds_toArray, List.set_cons_zero, List.set_cons_succ]
        refine tk (oi := { dst := some 91, op := Op.load 45 (Operand.tmp 90), type := 45, pos := "law.go:171", after := #[{ on := 19, ground := Ground.data }, { on := 16, ground := Ground.guard }], guard := some (16, false) }) (v := ?_) 20 rfl ?_ ?_
        rotate_left
        · (intro w hSw; (try dsimp only at hSw); first | (go_simp; done) | (go_simp; with_reducible rfl))
        try simp only [Act.put, List.setIfInBounds_toArray, List.set_cons_zero, List.set_cons_succ]
        refine tk (oi := { dst := some 92, op := Op.nilCheck (Operand.tmp 91), type := 0, pos := "law.go:171", after := #[{ on := 20, ground := Ground.data }, { on := 16, ground := Ground.guard }], guard := some (16, false) }) (v := ?_) 21 rfl ?_ ?_
        rotate_left
        · (intro w hSw; (try dsimp only at hSw); first | (go_simp; done) | (go_simp; with_reducible rfl))
        try simp only [Act.put, List.setIfInBounds_toArray, List.set_cons_zero, List.set_cons_succ]
        refine tk (oi := { dst := some 93, op := Op.fieldAddr 80 (Operand.tmp 92) 3, type := 0, pos := "law.go:171", after := #[{ on := 21, ground := Ground.data }, { on := 16, ground := Ground.guard }], guard := some (16, false) }) (v := ?_) 22 rfl ?_ ?_
        rotate_left
        · (intro w hSw; (try dsimp only at hSw); first | (go_simp; done) | (go_simp; with_reducible rfl))
        try simp only [Act.put, List.setIfInBounds_toArray, List.set_cons_zero, List.set_cons_succ]
        refine tk (oi := { dst := some 94, op := Op.load 4 (Operand.tmp 93), type := 4, pos := "law.go:171", after := #[{ on := 22, ground := Ground.data }, { on := 16, ground := Ground.guard }], guard := some (16, false) }) (v := ?_) 23 rfl ?_ ?_
        rotate_left
        · (intro w hSw; (try dsimp only at hSw); first | (go_simp; done) | (go_simp; with_reducible rfl))
        try simp only [Act.put, List.setIfInBounds_toArray, List.set_cons_zero, List.set_cons_succ]
        refine tk (oi := { dst := some 95, op := Op.unOp UnOp.not 4 (Operand.tmp 94), type := 4, pos := "law.go:171", after := #[{ on := 23, ground := Ground.data }, { on := 16, ground := Ground.guard }], guard := some (16, false) }) (v := ?_) 24 rfl ?_ ?_
        rotate_left
        · (intro w hSw; (try dsimp only at hSw); first | (go_simp; done) | (go_simp; with_reducible rfl))
        try simp only [Act.put, List.setIfInBounds_toArray, List.set_cons_zero, List.set_cons_succ]
        refine tk (oi := { dst := some 96, op := Op.move (Operand.tmp 95), type := 4, pos := "law.go:171", after := #[{ on := 24, ground := Ground.data }, { on := 16, ground := Ground.chain }, { on := 16, ground := Ground.guard }], guard := some (16, false) }) (v := ?_) 25 rfl ?_ ?_
        rotate_left
        · (intro w hSw; (try dsimp only at hSw); first | (go_simp; done) | (go_simp; with_reducible rfl))
        try simp only [Act.put, List.setIfInBounds_toArray, List.set_cons_zero, List.set_cons_succ]
        refine tk (oi := { dst := some 97, op := Op.move (Operand.tmp 7), type := 9, pos := "law.go:171", after := #[{ on := 25, ground := Ground.guard }], guard := some (25, true) }) (v := ?_) 26 rfl ?_ ?_
        rotate_left
        · (intro w hSw; (try dsimp only at hSw); first | (go_simp; done) | (go_simp; with_reducible rfl))
        try simp only [Act.put, List.setIfInBounds_toArray, List.set_cons_zero, List.set_cons_succ]
        refine tk (oi := { dst := some 98, op := Op.move (Operand.tmp 1), type := 26, pos := "law.go:171", after := #[{ on := 25, ground := Ground.guard }], guard := some (25, true) }) (v := ?_) 27 rfl ?_ ?_
        rotate_left
        · (intro w hSw; (try dsimp only at hSw); first | (go_simp; done) | (go_simp; with_reducible rfl))
        try simp only [Act.put, List.setIfInBounds_toArray, List.set_cons_zero, List.set_cons_succ]
        refine tk (oi := { dst := some 99, op := Op.nilCheck (Operand.tmp 98), type := 0, pos := "law.go:171", after := #[{ on := 27, ground := Ground.data }, { on := 25, ground := Ground.guard }], guard := some (25, true) }) (v := ?_) 28 rfl ?_ ?_
        rotate_left
        · (intro w hSw; (try dsimp only at hSw); first | (go_simp; done) | (go_simp; with_reducible rfl))
        try simp only [Act.put, List.setIfInBounds_toArray, List.set_cons_zero, List.set_cons_succ]
        refine tk (oi := { dst := some 100, op := Op.fieldAddr 60 (Operand.tmp 99) 0, type := 0, pos := "law.go:171", after := #[{ on := 28, ground := Ground.data }, { on := 25, ground := Ground.guard }], guard := some (25, true) }) (v := ?_) 29 rfl ?_ ?_
        rotate_left
        · (intro w hSw; (try dsimp only at hSw); first | (go_simp; done) | (go_simp; with_reducible rfl))
        try simp only [Act.put, List.setIfInBounds_toArray, List.set_cons_zero, List.set_cons_succ]
        refine tk (oi := { dst := some 101, op := Op.load 45 (Operand.tmp 100), type := 45, pos := "law.go:171", after := #[{ on := 29, ground := Ground.data }, { on := 25, ground := Ground.guard }], guard := some (25, true) }) (v := ?_) 30 rfl ?_ ?_
        rotate_left
        · (intro w hSw; (try dsimp only at hSw); first | (go_simp; done) | (go_simp; with_reducible rfl))
        try simp only [Act.put, List.setIfInBounds_toArray, List.set_cons_zero, List.set_cons_succ]
        refine tk (oi := { dst := some 102, op := Op.nilCheck (Operand.tmp 101), type := 0, pos := "law.go:171", after := #[{ on := 30, ground := Ground.data }, { on := 25, ground := Ground.guard }], guard := some (25, true) }) (v := ?_) 31 rfl ?_ ?_
        rotate_left
        · (intro w hSw; (try dsimp only at hSw); first | (go_simp; done) | (go_simp; with_reducible rfl))
        try simp only [Act.put, List.setIfInBounds_toArray, List.set_cons_zero, List.set_cons_succ]
        refine tk (oi := { dst := some 103, op := Op.fieldAddr 80 (Operand.tmp 102) 0, type := 0, pos := "law.go:171", after := #[{ on := 31, ground := Ground.data }, { on := 25, ground := Ground.guard }], guard := some (25, true) }) (v := ?_) 32 rfl ?_ ?_
        rotate_left
        · (intro w hSw; (try dsimp only at hSw); first | (go_simp; done) | (go_simp; with_reducible rfl))
        try simp only [Act.put, List.setIfInBounds_toArray, List.set_cons_zero, List.set_cons_succ]
        refine tk (oi := { dst := some 104, op := Op.load 78 (Operand.tmp 103), type := 78, pos := "law.go:171", after := #[{ on := 32, ground := Ground.data }, { on := 25, ground := Ground.guard }], guard := some (25, true) }) (v := ?_) 33 rfl ?_ ?_
        rotate_left
        · (intro w hSw; (try dsimp only at hSw); first | (go_simp; done) | (go_simp; with_reducible rfl))
        try simp only [Act.put, List.setIfInBounds_toArray, List.set_cons_zero, List.set_cons_succ]
        refine tk (oi := { dst := some 105, op := Op.move (Operand.tmp 6), type := 3, pos := "law.go:171", after := #[{ on := 25, ground := Ground.guard }], guard := some (25, true) }) (v := ?_) 34 rfl ?_ ?_
        rotate_left
        · (intro w hSw; (try dsimp only at hSw); first | (go_simp; done) | (go_simp; with_reducible rfl))
        try simp only [Act.put, List.setIfInBounds_toArray, List.set_cons_zero, List.set_cons_succ]
        refine tk (oi := { dst := some 106, op := Op.indexAddr 78 (Operand.tmp 104) (Operand.tmp 105), type := 0, pos := "law.go:171", after := #[{ on := 33, ground := Ground.data }, { on := 34, ground := Ground.data }, { on := 25, ground := Ground.guard }], guard := some (25, true) }) (v := ?_) 35 rfl ?_ ?_
        rotate_left
        · (intro w hSw; (try dsimp only at hSw); first | (go_simp; done) | (go_simp; with_reducible rfl))
        try simp only [Act.put, List.setIfInBounds_toArray, List.set_cons_zero, List.set_cons_succ]
        refine tk (oi := { dst := some 107, op := Op.fieldAddr 83 (Operand.tmp 106) 1, type := 0, pos := "law.go:171", after := #[{ on := 35, ground := Ground.data }, { on := 25, ground := Ground.guard }], guard := some (25, true) }) (v := ?_) 36 rfl ?_ ?_
        rotate_left
        · (intro w hSw; (try dsimp only at hSw); first | (go_simp; done) | (go_simp; with_reducible rfl))
        try simp only [Act.put, List.setIfInBounds_toArray, List.set_cons_zero, List.set_cons_succ]
        refine tk (oi := { dst := some 108, op := Op.load 9 (Operand.tmp 107), type := 9, pos := "law.go:171", after := #[{ on := 36, ground := Ground.data }, { on := 25, ground := Ground.guard }], guard := some (25, true) }) (v := ?_) 37 rfl ?_ ?_
        rotate_left
        · (intro w hSw; (try dsimp only at hSw); first | (go_simp; done) | (go_simp; with_reducible rfl))
        try simp only [Act.put, List.setIfInBounds_toArray, List.set_cons_zero, List.set_cons_succ]
        refine tk (oi := { dst := some 109, op := Op.binOp BinOp.neq 9 (Operand.tmp 97) (Operand.tmp 108) 9, type := 4, pos := "law.go:171", after := #[{ on := 26, ground := Ground.data }, { on := 37, ground := Ground.data }, { on := 25, ground := Ground.guard }], guard := some (25, true) }) (v := ?_) 38 rfl ?_ ?_
        rotate_left
        · (intro w hSw; (try dsimp only at hSw); first | (go_simp; done) | (go_simp; with_reducible rfl))
        try simp only [Act.put, List.setIfInBounds_toArray, List.set_cons_zero, List.set_cons_succ]
        refine tk (oi := { dst := some 110, op := Op.pick (Operand.tmp 96) (Operand.tmp 109) (Operand.const (Value.bool false)), type := 4, pos := "law.go:171", after := #[{ on := 25, ground := Ground.data }, { on := 38, ground := Ground.data }, { on := 16, ground := Ground.guard }], guard := some (16, false) }) (v := ?_) 39 rfl ?_ ?_
        rotate_left
        · (intro w hSw; (try dsimp only at hSw); first | (go_simp; done) | (go_simp; with_reducible rfl))
        try simp only [Act.put, List.setIfInBounds_toArray, List.set_cons_zero, List.set_cons_succ]
        refine tk (oi := { dst := some 111, op := Op.pick (Operand.tmp 87) (Operand.const (Value.bool true)) (Operand.tmp 110), type := 4, pos := "law.go:171", after := #[{ on := 16, ground := Ground.data }, { on := 39, ground := Ground.data }], guard := none }) (v := ?_) 40 rfl ?_ ?_
        rotate_left
        · (intro w hSw; (try dsimp only at hSw); first | (go_simp; done) | (go_simp; with_reducible rfl))
        try simp only [Act.put, List.setIfInBounds_toArray, List.set_cons_zero, List.set_cons_succ]
        refine wpAnyH_done (by kernel_rfl) ?_ _
        go_wp2_with (fail)
        go_roundw
        case rel => exact ⟨k + 1, by go_num, by omega, (HBW.out.trans HBK.out).drew⟩
        case measure => simp [intOf]; omega
    · obtain rfl : k = M.L.length := by omega
      have a3 := cell_later HB.out HC3.out
      have p1 := cell_later HB.out HS1.out
      have m0 := cell_later HB.out HT0.out
      have m1 := cell_later HB.out HT1.out
      cases hg : M.gone with
      | true =>
        rw [hg] at a3
        clear hg
        go_wp2_with (fail)
        refine wp_region_held_drew (S := fun z => z.cell? ⟨ms, 0, none⟩ = some (.pointer (some ⟨r, 0, none⟩)) ∧ z.cell? ⟨r, 3, none⟩ = some (.bool true)) (by kernel_rfl) ⟨m0, a3⟩ (fun hHeld => ?_)
        refine tk (oi := { dst := some 112, op := Op.move (Operand.tmp 1), type := 26, pos := "law.go:175", after := #[], guard := none }) (v := ?_) 0 rfl ?_ ?_
        rotate_left
        · (intro w hSw; (try dsimp only at hSw); first | (go_simp; done) | (go_simp; with_reducible rfl))
        try simp only [Act.put, List.setIfInBounds_toArray, List.set_cons_zero, List.set_cons_succ]
        refine tk (oi := { dst := some 113, op := Op.nilCheck (Operand.tmp 112), type := 0, pos := "law.go:175", after := #[{ on := 0, ground := Ground.data }], guard := none }) (v := ?_) 1 rfl ?_ ?_
        rotate_left
        · (intro w hSw; (try dsimp only at hSw); first | (go_simp; done) | (go_simp; with_reducible rfl))
        try simp only [Act.put, List.setIfInBounds_toArray, List.set_cons_zero, List.set_cons_succ]
        refine tk (oi := { dst := some 114, op := Op.fieldAddr 60 (Operand.tmp 113) 0, type := 0, pos := "law.go:175", after := #[{ on := 1, ground := Ground.data }], guard := none }) (v := ?_) 2 rfl ?_ ?_
        rotate_left
        · (intro w hSw; (try dsimp only at hSw); first | (go_simp; done) | (go_simp; with_reducible rfl))
        try simp only [Act.put, List.setIfInBounds_toArray, List.set_cons_zero, List.set_cons_succ]
        refine tk (oi := { dst := some 115, op := Op.load 45 (Operand.tmp 114), type := 45, pos := "law.go:175", after := #[{ on := 2, ground := Ground.data }], guard := none }) (v := ?_) 3 rfl ?_ ?_
        rotate_left
        · (intro w hSw; (try dsimp only at hSw); first | (go_simp; done) | (go_simp; with_reducible rfl))
        try simp only [Act.put, List.setIfInBounds_toArray, List.set_cons_zero, List.set_cons_succ]
        refine tk (oi := { dst := some 116, op := Op.nilCheck (Operand.tmp 115), type := 0, pos := "law.go:175", after := #[{ on := 3, ground := Ground.data }], guard := none }) (v := ?_) 4 rfl ?_ ?_
        rotate_left
        · (intro w hSw; (try dsimp only at hSw); first | (go_simp; done) | (go_simp; with_reducible rfl))
        try simp only [Act.put, List.setIfInBounds_toArray, List.set_cons_zero, List.set_cons_succ]
        refine tk (oi := { dst := some 117, op := Op.fieldAddr 80 (Operand.tmp 116) 3, type := 0, pos := "law.go:175", after := #[{ on := 4, ground := Ground.data }], guard := none }) (v := ?_) 5 rfl ?_ ?_
        rotate_left
        · (intro w hSw; (try dsimp only at hSw); first | (go_simp; done) | (go_simp; with_reducible rfl))
        try simp only [Act.put, List.setIfInBounds_toArray, List.set_cons_zero, List.set_cons_succ]
        refine tk (oi := { dst := some 118, op := Op.load 4 (Operand.tmp 117), type := 4, pos := "law.go:175", after := #[{ on := 5, ground := Ground.data }], guard := none }) (v := ?_) 6 rfl ?_ ?_
        rotate_left
        · (intro w hSw; (try dsimp only at hSw); first | (go_simp; done) | (go_simp; with_reducible rfl))
        try simp only [Act.put, List.setIfInBounds_toArray, List.set_cons_zero, List.set_cons_succ]
        refine tk (oi := { dst := some 119, op := Op.move (Operand.tmp 118), type := 4, pos := "law.go:175", after := #[{ on := 6, ground := Ground.data }], guard := none }) (v := ?_) 7 rfl ?_ ?_
        rotate_left
        · (intro w hSw; (try dsimp only at hSw); first | (go_simp; done) | (go_simp; with_reducible rfl))
        try simp only [Act.put, List.setIfInBounds_toArray, List.set_cons_zero, List.set_cons_succ]
        refine wpAnyH_take (i := 8) (oi := { dst := some 120, op := Op.move (Operand.tmp 0), type := 25, pos := "law.go:175", after := #[{ on := 7, ground := Ground.guard }], guard := some (7, false) }) (v := undef) rfl (by kernel_rfl) (by kernel_rfl) (by kernel_rfl) (fun _ _ _ h => h) (Or.inr ⟨by rfl, rfl⟩) (by assumption) ?_
        try simp only [Act.put, List.setIfInBounds_toArray, List.set_cons_zero, List.set_cons_succ]
        refine wpAnyH_take (i := 9) (oi := { dst := some 121, op := Op.nilCheck (Operand.tmp 120), type := 0, pos := "law.go:175", after := #[{ on := 8, ground := Ground.data }, { on := 7, ground := Ground.guard }], guard := some (7, false) }) (v := undef) rfl (by kernel_rfl) (by kernel_rfl) (by kernel_rfl) (fun _ _ _ h => h) (Or.inr ⟨by rfl, rfl⟩) (by assumption) ?_
        try simp only [Act.put, List.setIfInBounds_toArray, List.set_cons_zero, List.set_cons_succ]
        refine wpAnyH_take (i := 10) (oi := { dst := some 122, op := Op.fieldAddr 58 (Operand.tmp 121) 1, type := 0, pos := "law.go:175", after := #[{ on := 9, ground := Ground.data }, { on := 7, ground := Ground.guard }], guard := some (7, false) }) (v := undef) rfl (by kernel_rfl) (by kernel_rfl) (by kernel_rfl) (fun _ _ _ h => h) (Or.inr ⟨by rfl, rfl⟩) (by assumption) ?_
        try simp only [Act.put, List.setIfInBounds_toArray, List.set_cons_zero, List.set_cons_succ]
        refine wpAnyH_take (i := 11) (oi := { dst := some 123, op := Op.load 51 (Operand.tmp 122), type := 51, pos := "law.go:175", after := #[{ on := 10, ground := Ground.data }, { on := 7, ground := Ground.guard }], guard := some (7, false) }) (v := undef) rfl (by kernel_rfl) (by kernel_rfl) (by kernel_rfl) (fun _ _ _ h => h) (Or.inr ⟨by rfl, rfl⟩) (by assumption) ?_
        try simp only [Act.put, List.setIfInBounds_toArray, List.set_cons_zero, List.set_cons_succ]
        refine wpAnyH_take (i := 12) (oi := { dst := some 124, op := Op.call { callee := Callee.value (Operand.func 26), args := #[Operand.tmp 123], argTypes := #[51] }, type := 3, pos := "law.go:175", after := #[{ on := 11, ground := Ground.data }, { on := 7, ground := Ground.chain }, { on := 7, ground := Ground.guard }], guard := some (7, false) }) (v := undef) rfl (by kernel_rfl) (by kernel_rfl) (by kernel_rfl) (fun _ _ _ h => h) (Or.inr ⟨by rfl, rfl⟩) (by assumption) ?_
        try simp only [Act.put, List.setIfInBounds_toArray, List.set_cons_zero, List.set_cons_succ]
        refine wpAnyH_take (i := 13) (oi := { dst := some 125, op := Op.move (Operand.tmp 1), type := 26, pos := "law.go:175", after := #[{ on := 7, ground := Ground.guard }], guard := some (7, false) }) (v := undef) rfl (by kernel_rfl) (by kernel_rfl) (by kernel_rfl) (fun _ _ _ h => h) (Or.inr ⟨by rfl, rfl⟩) (by assumption) ?_
        try simp only [Act.put, List.setIfInBounds_toArray, List.set_cons_zero, List.set_cons_succ]
        refine wpAnyH_take (i := 14) (oi := { dst := some 126, op := Op.nilCheck (Operand.tmp 125), type := 0, pos := "law.go:175", after := #[{ on := 13, ground := Ground.data }, { on := 7, ground := Ground.guard }], guard := some (7, false) }) (v := undef) rfl (by kernel_rfl) (by kernel_rfl) (by kernel_rfl) (fun _ _ _ h => h) (Or.inr ⟨by rfl, rfl⟩) (by assumption) ?_
        try simp only [Act.put, List.setIfInBounds_toArray, List.set_cons_zero, List.set_cons_succ]
        refine wpAnyH_take (i := 15) (oi := { dst := some 127, op := Op.fieldAddr 60 (Operand.tmp 126) 1, type := 0, pos := "law.go:175", after := #[{ on := 14, ground := Ground.data }, { on := 7, ground := Ground.guard }], guard := some (7, false) }) (v := undef) rfl (by kernel_rfl) (by kernel_rfl) (by kernel_rfl) (fun _ _ _ h => h) (Or.inr ⟨by rfl, rfl⟩) (by assumption) ?_
        try simp only [Act.put, List.setIfInBounds_toArray, List.set_cons_zero, List.set_cons_succ]
        refine wpAnyH_take (i := 16) (oi := { dst := some 128, op := Op.load 54 (Operand.tmp 127), type := 54, pos := "law.go:175", after := #[{ on := 15, ground := Ground.data }, { on := 7, ground := Ground.guard }], guard := some (7, false) }) (v := undef) rfl (by kernel_rfl) (by kernel_rfl) (by kernel_rfl) (fun _ _ _ h => h) (Or.inr ⟨by rfl, rfl⟩) (by assumption) ?_
        try simp only [Act.put, List.setIfInBounds_toArray, List.set_cons_zero, List.set_cons_succ]
        refine wpAnyH_take (i := 17) (oi := { dst := some 129, op := Op.call { callee := Callee.value (Operand.func 41), args := #[Operand.tmp 128], argTypes := #[54] }, type := 3, pos := "law.go:175", after := #[{ on := 16, ground := Ground.data }, { on := 12, ground := Ground.chain }, { on := 7, ground := Ground.guard }], guard := some (7, false) }) (v := undef) rfl (by kernel_rfl) (by kernel_rfl) (by kernel_rfl) (fun _ _ _ h => h) (Or.inr ⟨by rfl, rfl⟩) (by assumption) ?_
        try simp only [Act.put, List.setIfInBounds_toArray, List.set_cons_zero, List.set_cons_succ]
        refine wpAnyH_take (i := 18) (oi := { dst := some 130, op := Op.binOp BinOp.eql 3 (Operand.tmp 124) (Operand.tmp 129) 3, type := 4, pos := "law.go:175", after := #[{ on := 12, ground := Ground.data }, { on := 17, ground := Ground.data }, { on := 7, ground := Ground.guard }], guard := some (7, false) }) (v := undef) rfl (by kernel_rfl) (by kernel_rfl) (by kernel_rfl) (fun _ _ _ h => h) (Or.inr ⟨by rfl, rfl⟩) (by assumption) ?_
        try simp only [Act.put, List.setIfInBounds_toArray, List.set_cons_zero, List.set_cons_succ]
        refine wpAnyH_take (i := 19) (oi := { dst := some 131, op := Op.move (Operand.tmp 130), type := 4, pos := "law.go:175", after := #[{ on := 18, ground := Ground.data }, { on := 17, ground := Ground.chain }, { on := 7, ground := Ground.guard }], guard := some (7, false) }) (v := undef) rfl (by kernel_rfl) (by kernel_rfl) (by kernel_rfl) (fun _ _ _ h => h) (Or.inr ⟨by rfl, rfl⟩) (by assumption) ?_
        try simp only [Act.put, List.setIfInBounds_toArray, List.set_cons_zero, List.set_cons_succ]
        refine wpAnyH_take (i := 20) (oi := { dst := some 132, op := Op.move (Operand.tmp 0), type := 25, pos := "law.go:175", after := #[{ on := 19, ground := Ground.guard }], guard := some (19, true) }) (v := undef) rfl (by kernel_rfl) (by kernel_rfl) (by kernel_rfl) (fun _ _ _ h => h) (Or.inr ⟨by rfl, rfl⟩) (by assumption) ?_
        try simp only [Act.put, List.setIfInBounds_toArray, List.set_cons_zero, List.set_cons_succ]
        refine wpAnyH_take (i := 21) (oi := { dst := some 133, op := Op.nilCheck (Operand.tmp 132), type := 0, pos := "law.go:175", after := #[{ on := 20, ground := Ground.data }, { on := 19, ground := Ground.guard }], guard := some (19, true) }) (v := undef) rfl (by kernel_rfl) (by kernel_rfl) (by kernel_rfl) (fun _ _ _ h => h) (Or.inr ⟨by rfl, rfl⟩) (by assumption) ?_
        try simp only [Act.put, List.setIfInBounds_toArray, List.set_cons_zero, List.set_cons_succ]
        refine wpAnyH_take (i := 22) (oi := { dst := some 134, op := Op.fieldAddr 58 (Operand.tmp 133) 1, type := 0, pos := "law.go:175", after := #[{ on := 21, ground := Ground.data }, { on := 19, ground := Ground.guard }], guard := some (19, true) }) (v := undef) rfl (by kernel_rfl) (by kernel_rfl) (by kernel_rfl) (fun _ _ _ h => h) (Or.inr ⟨by rfl, rfl⟩) (by assumption) ?_
        try simp only [Act.put, List.setIfInBounds_toArray, List.set_cons_zero, List.set_cons_succ]
        refine wpAnyH_take (i := 23) (oi := { dst := some 135, op := Op.load 51 (Operand.tmp 134), type := 51, pos := "law.go:175", after := #[{ on := 22, ground := Ground.data }, { on := 19, ground := Ground.guard }], guard := some (19, true) }) (v := undef) rfl (by kernel_rfl) (by kernel_rfl) (by kernel_rfl) (fun _ _ _ h => h) (Or.inr ⟨by rfl, rfl⟩) (by assumption) ?_
        try simp only [Act.put, List.setIfInBounds_toArray, List.set_cons_zero, List.set_cons_succ]
        refine wpAnyH_take (i := 24) (oi := { dst := some 136, op := Op.call { callee := Callee.value (Operand.func 29), args := #[Operand.tmp 135], argTypes := #[51] }, type := 35, pos := "law.go:175", after := #[{ on := 23, ground := Ground.data }, { on := 19, ground := Ground.chain }, { on := 19, ground := Ground.guard }], guard := some (19, true) }) (v := undef) rfl (by kernel_rfl) (by kernel_rfl) (by kernel_rfl) (fun _ _ _ h => h) (Or.inr ⟨by rfl, rfl⟩) (by assumption) ?_
        try simp only [Act.put, List.setIfInBounds_toArray, List.set_cons_zero, List.set_cons_succ]
        refine wpAnyH_take (i := 25) (oi := { dst := some 137, op := Op.move (Operand.tmp 1), type := 26, pos := "law.go:175", after := #[{ on := 19, ground := Ground.guard }], guard := some (19, true) }) (v := undef) rfl (by kernel_rfl) (by kernel_rfl) (by kernel_rfl) (fun _ _ _ h => h) (Or.inr ⟨by rfl, rfl⟩) (by assumption) ?_
        try simp only [Act.put, List.setIfInBounds_toArray, List.set_cons_zero, List.set_cons_succ]
        refine wpAnyH_take (i := 26) (oi := { dst := some 138, op := Op.nilCheck (Operand.tmp 137), type := 0, pos := "law.go:175", after := #[{ on := 25, ground := Ground.data }, { on := 19, ground := Ground.guard }], guard := some (19, true) }) (v := undef) rfl (by kernel_rfl) (by kernel_rfl) (by kernel_rfl) (fun _ _ _ h => h) (Or.inr ⟨by rfl, rfl⟩) (by assumption) ?_
        try simp only [Act.put, List.setIfInBounds_toArray, List.set_cons_zero, List.set_cons_succ]
        refine wpAnyH_take (i := 27) (oi := { dst := some 139, op := Op.fieldAddr 60 (Operand.tmp 138) 1, type := 0, pos := "law.go:175", after := #[{ on := 26, ground := Ground.data }, { on := 19, ground := Ground.guard }], guard := some (19, true) }) (v := undef) rfl (by kernel_rfl) (by kernel_rfl) (by kernel_rfl) (fun _ _ _ h => h) (Or.inr ⟨by rfl, rfl⟩) (by assumption) ?_
        try simp only [Act.put, List.setIfInBounds_toArray, List.set_cons_zero, List.set_cons_succ]
        refine wpAnyH_take (i := 28) (oi := { dst := some 140, op := Op.load 54 (Operand.tmp 139), type := 54, pos := "law.go:175", after := #[{ on := 27, ground := Ground.data }, { on := 19, ground := Ground.guard }], guard := some (19, true) }) (v := undef) rfl (by kernel_rfl) (by kernel_rfl) (by kernel_rfl) (fun _ _ _ h => h) (Or.inr ⟨by rfl, rfl⟩) (by assumption) ?_
        try simp only [Act.put, List.setIfInBounds_toArray, List.set_cons_zero, List.set_cons_succ]
        refine wpAnyH_take (i := 29) (oi := { dst := some 141, op := Op.call { callee := Callee.value (Operand.func 42), args := #[Operand.tmp 140], argTypes := #[54] }, type := 35, pos := "law.go:175", after := #[{ on := 28, ground := Ground.data }, { on := 24, ground := Ground.chain }, { on := 19, ground := Ground.guard }], guard := some (19, true) }) (v := undef) rfl (by kernel_rfl) (by kernel_rfl) (by kernel_rfl) (fun _ _ _ h => h) (Or.inr ⟨by rfl, rfl⟩) (by assumption) ?_
        try simp only [Act.put, List.setIfInBounds_toArray, List.set_cons_zero, List.set_cons_succ]
        refine wpAnyH_take (i := 30) (oi := { dst := some 142, op := Op.call { callee := Callee.value (Operand.func 28), args := #[Operand.tmp 136, Operand.tmp 141], argTypes := #[35, 35] }, type := 4, pos := "law.go:175", after := #[{ on := 24, ground := Ground.data }, { on := 29, ground := Ground.data }, { on := 29, ground := Ground.chain }, { on := 19, ground := Ground.guard }], guard := some (19, true) }) (v := undef) rfl (by kernel_rfl) (by kernel_rfl) (by kernel_rfl) (fun _ _ _ h => h) (Or.inr ⟨by rfl, rfl⟩) (by assumption) ?_
        try simp only [Act.put, List.setIfInBounds_toArray, List.set_cons_zero, List.set_cons_succ]
        refine wpAnyH_take (i := 31) (oi := { dst := some 143, op := Op.pick (Operand.tmp 131) (Operand.tmp 142) (Operand.const (Value.bool false)), type := 4, pos := "law.go:175", after := #[{ on := 19, ground := Ground.data }, { on := 30, ground := Ground.data }, { on := 7, ground := Ground.guard }], guard := some (7, false) }) (v := undef) rfl (by kernel_rfl) (by kernel_rfl) (by kernel_rfl) (fun _ _ _ h => h) (Or.inr ⟨by rfl, rfl⟩) (by assumption) ?_
        try simp only [Act.put, List.setIfInBounds_toArray, List.set_cons_zero, List.set_cons_succ]
        refine tk (oi := { dst := some 144, op := Op.pick (Operand.tmp 119) (Operand.const (Value.bool true)) (Operand.tmp 143), type := 4, pos := "law.go:175", after := #[{ on := 7, ground := Ground.data }, { on := 31, ground := Ground.data }], guard := none }) (v := ?_) 32 rfl ?_ ?_
        rotate_left
        · (intro w hSw; (try dsimp only at hSw); first | (go_simp; done) | (go_simp; with_reducible rfl))
        try simp only [Act.put, List.setIfInBounds_toArray, List.set_cons_zero, List.set_cons_succ]
        refine tk (oi := { dst := some 4, op := Op.assign (Operand.tmp 144), type := 4, pos := "law.go:175", after := #[{ on := 32, ground := Ground.data }, { on := 30, ground := Ground.chain }, { on := 0, ground := Ground.phase }, { on := 1, ground := Ground.phase }, { on := 2, ground := Ground.phase }, { on := 3, ground := Ground.phase }, { on := 4, ground := Ground.phase }, { on := 5, ground := Ground.phase }, { on := 6, ground := Ground.phase }, { on := 7, ground := Ground.phase }, { on := 8, ground := Ground.phase }, { on := 9, ground := Ground.phase }, { on := 10, ground := Ground.phase }, { on := 11, ground := Ground.phase }, { on := 12, ground := Ground.phase }, { on := 13, ground := Ground.phase }, { on := 14, ground := Ground.phase }, { on := 15, ground := Ground.phase }, { on := 16, ground := Ground.phase }, { on := 17, ground := Ground.phase }, { on := 18, ground := Ground.phase }, { on := 19, ground := Ground.phase }, { on := 20, ground := Ground.phase }, { on := 21, ground := Ground.phase }, { on := 22, ground := Ground.phase }, { on := 23, ground := Ground.phase }, { on := 24, ground := Ground.phase }, { on := 25, ground := Ground.phase }, { on := 26, ground := Ground.phase }, { on := 27, ground := Ground.phase }, { on := 28, ground := Ground.phase }, { on := 29, ground := Ground.phase }, { on := 30, ground := Ground.phase }, { on := 31, ground := Ground.phase }, { on := 32, ground := Ground.phase }], guard := none }) (v := ?_) 33 rfl ?_ ?_
        rotate_left
        · (intro w hSw; (try dsimp only at hSw); first | (go_simp; done) | (go_simp; with_reducible rfl))
        try simp only [Act.put, List.setIfInBounds_toArray, List.set_cons_zero, List.set_cons_succ]
        refine wpAnyH_done (by kernel_rfl) ?_ _
        go_wp2_with (fail)
        go_ret
        exact ⟨rfl, HB.out.drew⟩
      | false =>
        rw [hg] at a3
        have HC3' := Lib.hid (show x.cell? ⟨r, 3, none⟩ = some (.bool false) by rw [← hg]; exact HC3.out)
        clear hg
        go_wp2_with (fail)
        refine wp_region_held_drew (S := fun z => z.cell? ⟨ms, 0, none⟩ = some (.pointer (some ⟨r, 0, none⟩)) ∧ z.cell? ⟨r, 3, none⟩ = some (.bool false) ∧ z.cell? ⟨ws, 1, none⟩ = some (.pointer (some ⟨jb, 0, none⟩)) ∧ z.cell? ⟨ms, 1, none⟩ = some (.pointer (some ⟨rb, 0, none⟩))) (by kernel_rfl) ⟨m0, a3, p1, m1⟩ (fun hHeld => ?_)
        refine tk (oi := { dst := some 112, op := Op.move (Operand.tmp 1), type := 26, pos := "law.go:175", after := #[], guard := none }) (v := ?_) 0 rfl ?_ ?_
        rotate_left
        · (intro w hSw; (try dsimp only at hSw); first | (go_simp; done) | (go_simp; with_reducible rfl))
        try simp only [Act.put, List.setIfInBounds_toArray, List.set_cons_zero, List.set_cons_succ]
        refine tk (oi := { dst := some 113, op := Op.nilCheck (Operand.tmp 112), type := 0, pos := "law.go:175", after := #[{ on := 0, ground := Ground.data }], guard := none }) (v := ?_) 1 rfl ?_ ?_
        rotate_left
        · (intro w hSw; (try dsimp only at hSw); first | (go_simp; done) | (go_simp; with_reducible rfl))
        try simp only [Act.put, List.setIfInBounds_toArray, List.set_cons_zero, List.set_cons_succ]
        refine tk (oi := { dst := some 114, op := Op.fieldAddr 60 (Operand.tmp 113) 0, type := 0, pos := "law.go:175", after := #[{ on := 1, ground := Ground.data }], guard := none }) (v := ?_) 2 rfl ?_ ?_
        rotate_left
        · (intro w hSw; (try dsimp only at hSw); first | (go_simp; done) | (go_simp; with_reducible rfl))
        try simp only [Act.put, List.setIfInBounds_toArray, List.set_cons_zero, List.set_cons_succ]
        refine tk (oi := { dst := some 115, op := Op.load 45 (Operand.tmp 114), type := 45, pos := "law.go:175", after := #[{ on := 2, ground := Ground.data }], guard := none }) (v := ?_) 3 rfl ?_ ?_
        rotate_left
        · (intro w hSw; (try dsimp only at hSw); first | (go_simp; done) | (go_simp; with_reducible rfl))
        try simp only [Act.put, List.setIfInBounds_toArray, List.set_cons_zero, List.set_cons_succ]
        refine tk (oi := { dst := some 116, op := Op.nilCheck (Operand.tmp 115), type := 0, pos := "law.go:175", after := #[{ on := 3, ground := Ground.data }], guard := none }) (v := ?_) 4 rfl ?_ ?_
        rotate_left
        · (intro w hSw; (try dsimp only at hSw); first | (go_simp; done) | (go_simp; with_reducible rfl))
        try simp only [Act.put, List.setIfInBounds_toArray, List.set_cons_zero, List.set_cons_succ]
        refine tk (oi := { dst := some 117, op := Op.fieldAddr 80 (Operand.tmp 116) 3, type := 0, pos := "law.go:175", after := #[{ on := 4, ground := Ground.data }], guard := none }) (v := ?_) 5 rfl ?_ ?_
        rotate_left
        · (intro w hSw; (try dsimp only at hSw); first | (go_simp; done) | (go_simp; with_reducible rfl))
        try simp only [Act.put, List.setIfInBounds_toArray, List.set_cons_zero, List.set_cons_succ]
        refine tk (oi := { dst := some 118, op := Op.load 4 (Operand.tmp 117), type := 4, pos := "law.go:175", after := #[{ on := 5, ground := Ground.data }], guard := none }) (v := ?_) 6 rfl ?_ ?_
        rotate_left
        · (intro w hSw; (try dsimp only at hSw); first | (go_simp; done) | (go_simp; with_reducible rfl))
        try simp only [Act.put, List.setIfInBounds_toArray, List.set_cons_zero, List.set_cons_succ]
        refine tk (oi := { dst := some 119, op := Op.move (Operand.tmp 118), type := 4, pos := "law.go:175", after := #[{ on := 6, ground := Ground.data }], guard := none }) (v := ?_) 7 rfl ?_ ?_
        rotate_left
        · (intro w hSw; (try dsimp only at hSw); first | (go_simp; done) | (go_simp; with_reducible rfl))
        try simp only [Act.put, List.setIfInBounds_toArray, List.set_cons_zero, List.set_cons_succ]
        refine tk (oi := { dst := some 120, op := Op.move (Operand.tmp 0), type := 25, pos := "law.go:175", after := #[{ on := 7, ground := Ground.guard }], guard := some (7, false) }) (v := ?_) 8 rfl ?_ ?_
        rotate_left
        · (intro w hSw; (try dsimp only at hSw); first | (go_simp; done) | (go_simp; with_reducible rfl))
        try simp only [Act.put, List.setIfInBounds_toArray, List.set_cons_zero, List.set_cons_succ]
        refine tk (oi := { dst := some 121, op := Op.nilCheck (Operand.tmp 120), type := 0, pos := "law.go:175", after := #[{ on := 8, ground := Ground.data }, { on := 7, ground := Ground.guard }], guard := some (7, false) }) (v := ?_) 9 rfl ?_ ?_
        rotate_left
        · (intro w hSw; (try dsimp only at hSw); first | (go_simp; done) | (go_simp; with_reducible rfl))
        try simp only [Act.put, List.setIfInBounds_toArray, List.set_cons_zero, List.set_cons_succ]
        refine tk (oi := { dst := some 122, op := Op.fieldAddr 58 (Operand.tmp 121) 1, type := 0, pos := "law.go:175", after := #[{ on := 9, ground := Ground.data }, { on := 7, ground := Ground.guard }], guard := some (7, false) }) (v := ?_) 10 rfl ?_ ?_
        rotate_left
        · (intro w hSw; (try dsimp only at hSw); first | (go_simp; done) | (go_simp; with_reducible rfl))
        try simp only [Act.put, List.setIfInBounds_toArray, List.set_cons_zero, List.set_cons_succ]
        refine tk (oi := { dst := some 123, op := Op.load 51 (Operand.tmp 122), type := 51, pos := "law.go:175", after := #[{ on := 10, ground := Ground.data }, { on := 7, ground := Ground.guard }], guard := some (7, false) }) (v := ?_) 11 rfl ?_ ?_
        rotate_left
        · (intro w hSw; (try dsimp only at hSw); first | (go_simp; done) | (go_simp; with_reducible rfl))
        try simp only [Act.put, List.setIfInBounds_toArray, List.set_cons_zero, List.set_cons_succ]
        refine tk (oi := { dst := some 125, op := Op.move (Operand.tmp 1), type := 26, pos := "law.go:175", after := #[{ on := 7, ground := Ground.guard }], guard := some (7, false) }) (v := ?_) 13 rfl ?_ ?_
        rotate_left
        · (intro w hSw; (try dsimp only at hSw); first | (go_simp; done) | (go_simp; with_reducible rfl))
        try simp only [Act.put, List.setIfInBounds_toArray, List.set_cons_zero, List.set_cons_succ]
        refine tk (oi := { dst := some 126, op := Op.nilCheck (Operand.tmp 125), type := 0, pos := "law.go:175", after := #[{ on := 13, ground := Ground.data }, { on := 7, ground := Ground.guard }], guard := some (7, false) }) (v := ?_) 14 rfl ?_ ?_
        rotate_left
        · (intro w hSw; (try dsimp only at hSw); first | (go_simp; done) | (go_simp; with_reducible rfl))
        try simp only [Act.put, List.setIfInBounds_toArray, List.set_cons_zero, List.set_cons_succ]
        refine tk (oi := { dst := some 127, op := Op.fieldAddr 60 (Operand.tmp 126) 1, type := 0, pos := "law.go:175", after := #[{ on := 14, ground := Ground.data }, { on := 7, ground := Ground.guard }], guard := some (7, false) }) (v := ?_) 15 rfl ?_ ?_
        rotate_left
        · (intro w hSw; (try dsimp only at hSw); first | (go_simp; done) | (go_simp; with_reducible rfl))
        try simp only [Act.put, List.setIfInBounds_toArray, List.set_cons_zero, List.set_cons_succ]
        refine tk (oi := { dst := some 128, op := Op.load 54 (Operand.tmp 127), type := 54, pos := "law.go:175", after := #[{ on := 15, ground := Ground.data }, { on := 7, ground := Ground.guard }], guard := some (7, false) }) (v := ?_) 16 rfl ?_ ?_
        rotate_left
        · (intro w hSw; (try dsimp only at hSw); first | (go_simp; done) | (go_simp; with_reducible rfl))
        try simp only [Act.put, List.setIfInBounds_toArray, List.set_cons_zero, List.set_cons_succ]
        refine wpAnyH_ready (rs := [12]) (by kernel_rfl) (by simp) ?_
        refine AllReadyH.cons (o := { dst := some 124, op := Op.call { callee := Callee.value (Operand.func 26), args := #[Operand.tmp 123], argTypes := #[51] }, type := 3, pos := "law.go:175", after := #[{ on := 11, ground := Ground.data }, { on := 7, ground := Ground.chain }, { on := 7, ground := Ground.guard }], guard := some (7, false) }) rfl (fun K hK => ?_) AllReadyH.nil
        go_simp
        refine (lw_num HX.out (HB.out.trans (Bel.refl _).drew) hnm).mono ?_
        rintro e w5 ⟨rfl, -, hb5⟩
        have HB5 := Lib.hid ((HB.out.trans (Bel.refl _).drew).trans hb5)
        clear hb5
        dsimp only
        refine hK.out _ _ ⟨cell_later HB5.out HT0.out, cell_later HB5.out HC3'.out, cell_later HB5.out HS1.out, cell_later HB5.out HT1.out⟩ (fun hHeld => ?_)
        clear hK K
        try simp only [Act.put, List.setIfInBounds_toArray, List.set_cons_zero, List.set_cons_succ]
        refine wpAnyH_ready (rs := [17]) (by kernel_rfl) (by simp) ?_
        refine AllReadyH.cons (o := { dst := some 129, op := Op.call { callee := Callee.value (Operand.func 41), args := #[Operand.tmp 128], argTypes := #[54] }, type := 3, pos := "law.go:175", after := #[{ on := 16, ground := Ground.data }, { on := 12, ground := Ground.chain }, { on := 7, ground := Ground.guard }], guard := some (7, false) }) rfl (fun K hK => ?_) AllReadyH.nil
        go_simp
        refine (lw_rnum HX.out HB5.out hnm).mono ?_
        rintro e w6 ⟨rfl, -, hb6⟩
        have HB6 := Lib.hid (HB5.out.trans hb6)
        clear hb6
        dsimp only
        refine hK.out _ _ ⟨cell_later HB6.out HT0.out, cell_later HB6.out HC3'.out, cell_later HB6.out HS1.out, cell_later HB6.out HT1.out⟩ (fun hHeld => ?_)
        clear hK K
        try simp only [Act.put, List.setIfInBounds_toArray, List.set_cons_zero, List.set_cons_succ]
        refine tk (oi := { dst := some 130, op := Op.binOp BinOp.eql 3 (Operand.tmp 124) (Operand.tmp 129) 3, type := 4, pos := "law.go:175", after := #[{ on := 12, ground := Ground.data }, { on := 17, ground := Ground.data }, { on := 7, ground := Ground.guard }], guard := some (7, false) }) (v := ?_) 18 rfl ?_ ?_
        rotate_left
        · (intro w hSw; (try dsimp only at hSw); first | (go_simp; done) | (go_simp; with_reducible rfl))
        try simp only [Act.put, List.setIfInBounds_toArray, List.set_cons_zero, List.set_cons_succ]
        refine tk (oi := { dst := some 131, op := Op.move (Operand.tmp 130), type := 4, pos := "law.go:175", after := #[{ on := 18, ground := Ground.data }, { on := 17, ground := Ground.chain }, { on := 7, ground := Ground.guard }], guard := some (7, false) }) (v := ?_) 19 rfl ?_ ?_
        rotate_left
        · (intro w hSw; (try dsimp only at hSw); first | (go_simp; done) | (go_simp; with_reducible rfl))
        try simp only [Act.put, List.setIfInBounds_toArray, List.set_cons_zero, List.set_cons_succ]
        refine tk (oi := { dst := some 132, op := Op.move (Operand.tmp 0), type := 25, pos := "law.go:175", after := #[{ on := 19, ground := Ground.guard }], guard := some (19, true) }) (v := ?_) 20 rfl ?_ ?_
        rotate_left
        · (intro w hSw; (try dsimp only at hSw); first | (go_simp; done) | (go_simp; with_reducible rfl))
        try simp only [Act.put, List.setIfInBounds_toArray, List.set_cons_zero, List.set_cons_succ]
        refine tk (oi := { dst := some 133, op := Op.nilCheck (Operand.tmp 132), type := 0, pos := "law.go:175", after := #[{ on := 20, ground := Ground.data }, { on := 19, ground := Ground.guard }], guard := some (19, true) }) (v := ?_) 21 rfl ?_ ?_
        rotate_left
        · (intro w hSw; (try dsimp only at hSw); first | (go_simp; done) | (go_simp; with_reducible rfl))
        try simp only [Act.put, List.setIfInBounds_toArray, List.set_cons_zero, List.set_cons_succ]
        refine tk (oi := { dst := some 134, op := Op.fieldAddr 58 (Operand.tmp 133) 1, type := 0, pos := "law.go:175", after := #[{ on := 21, ground := Ground.data }, { on := 19, ground := Ground.guard }], guard := some (19, true) }) (v := ?_) 22 rfl ?_ ?_
        rotate_left
        · (intro w hSw; (try dsimp only at hSw); first | (go_simp; done) | (go_simp; with_reducible rfl))
        try simp only [Act.put, List.setIfInBounds_toArray, List.set_cons_zero, List.set_cons_succ]
        refine tk (oi := { dst := some 135, op := Op.load 51 (Operand.tmp 134), type := 51, pos := "law.go:175", after := #[{ on := 22, ground := Ground.data }, { on := 19, ground := Ground.guard }], guard := some (19, true) }) (v := ?_) 23 rfl ?_ ?_
        rotate_left
        · (intro w hSw; (try dsimp only at hSw); first | (go_simp; done) | (go_simp; with_reducible rfl))
        try simp only [Act.put, List.setIfInBounds_toArray, List.set_cons_zero, List.set_cons_succ]
        refine tk (oi := { dst := some 137, op := Op.move (Operand.tmp 1), type := 26, pos := "law.go:175", after := #[{ on := 19, ground := Ground.guard }], guard := some (19, true) }) (v := ?_) 25 rfl ?_ ?_
        rotate_left
        · (intro w hSw; (try dsimp only at hSw); first | (go_simp; done) | (go_simp; with_reducible rfl))
        try simp only [Act.put, List.setIfInBounds_toArray, List.set_cons_zero, List.set_cons_succ]
        refine tk (oi := { dst := some 138, op := Op.nilCheck (Operand.tmp 137), type := 0, pos := "law.go:175", after := #[{ on := 25, ground := Ground.data }, { on := 19, ground := Ground.guard }], guard := some (19, true) }) (v := ?_) 26 rfl ?_ ?_
        rotate_left
        · (intro w hSw; (try dsimp only at hSw); first | (go_simp; done) | (go_simp; with_reducible rfl))
        try simp only [Act.put, List.setIfInBounds_toArray, List.set_cons_zero, List.set_cons_succ]
        refine tk (oi := { dst := some 139, op := Op.fieldAddr 60 (Operand.tmp 138) 1, type := 0, pos := "law.go:175", after := #[{ on := 26, ground := Ground.data }, { on := 19, ground := Ground.guard }], guard := some (19, true) }) (v := ?_) 27 rfl ?_ ?_
        rotate_left
        · (intro w hSw; (try dsimp only at hSw); first | (go_simp; done) | (go_simp; with_reducible rfl))
        try simp only [Act.put, List.setIfInBounds_toArray, List.set_cons_zero, List.set_cons_succ]
        refine tk (oi := { dst := some 140, op := Op.load 54 (Operand.tmp 139), type := 54, pos := "law.go:175", after := #[{ on := 27, ground := Ground.data }, { on := 19, ground := Ground.guard }], guard := some (19, true) }) (v := ?_) 28 rfl ?_ ?_
        rotate_left
        · (intro w hSw; (try dsimp only at hSw); first | (go_simp; done) | (go_simp; with_reducible rfl))
        try simp only [Act.put, List.setIfInBounds_toArray, List.set_cons_zero, List.set_cons_succ]
        refine wpAnyH_ready (rs := [24]) (by kernel_rfl) (by simp) ?_
        refine AllReadyH.cons (o := { dst := some 136, op := Op.call { callee := Callee.value (Operand.func 29), args := #[Operand.tmp 135], argTypes := #[51] }, type := 35, pos := "law.go:175", after := #[{ on := 23, ground := Ground.data }, { on := 19, ground := Ground.chain }, { on := 19, ground := Ground.guard }], guard := some (19, true) }) rfl (fun K hK => ?_) AllReadyH.nil
        go_simp
        refine (lw_segs HX.out HB6.out hnm).mono ?_
        rintro e w7 ⟨⟨va, rfl, ha⟩, -, hb7⟩
        have HA := Lib.hid ha
        have HB7 := Lib.hid (HB6.out.trans hb7)
        clear hb7 ha
        dsimp only
        refine hK.out _ _ ⟨cell_later HB7.out HT0.out, cell_later HB7.out HC3'.out, cell_later HB7.out HS1.out, cell_later HB7.out HT1.out⟩ (fun hHeld => ?_)
        clear hK K
        try simp only [Act.put, List.setIfInBounds_toArray, List.set_cons_zero, List.set_cons_succ]
        refine wpAnyH_ready (rs := [29]) (by kernel_rfl) (by simp) ?_
        refine AllReadyH.cons (o := { dst := some 141, op := Op.call { callee := Callee.value (Operand.func 42), args := #[Operand.tmp 140], argTypes := #[54] }, type := 35, pos := "law.go:175", after := #[{ on := 28, ground := Ground.data }, { on := 24, ground := Ground.chain }, { on := 19, ground := Ground.guard }], guard := some (19, true) }) rfl (fun K hK => ?_) AllReadyH.nil
        go_simp
        refine (lw_rsegs HX.out HB7.out hnm).mono ?_
        rintro e w8 ⟨⟨vb, rfl, hbb⟩, -, hb8⟩
        have HA2 := Lib.hid (show OwnG intEl w6.heap.size w8 va ((segsL nm.data.toList M.L).map fun n : Nat => (n : Int)) from HA.out.bel hb8)
        have HBB := Lib.hid hbb
        have HB8 := Lib.hid (HB7.out.trans hb8)
        clear hb8 hbb
        dsimp only
        refine hK.out _ _ ⟨cell_later HB8.out HT0.out, cell_later HB8.out HC3'.out, cell_later HB8.out HS1.out, cell_later HB8.out HT1.out⟩ (fun hHeld => ?_)
        clear hK K
        try simp only [Act.put, List.setIfInBounds_toArray, List.set_cons_zero, List.set_cons_succ]
        refine wpAnyH_ready (rs := [30]) (by kernel_rfl) (by simp) ?_
        refine AllReadyH.cons (o := { dst := some 142, op := Op.call { callee := Callee.value (Operand.func 28), args := #[Operand.tmp 136, Operand.tmp 141], argTypes := #[35, 35] }, type := 4, pos := "law.go:175", after := #[{ on := 24, ground := Ground.data }, { on := 29, ground := Ground.data }, { on := 29, ground := Ground.chain }, { on := 19, ground := Ground.guard }], guard := some (19, true) }) rfl (fun K hK => ?_) AllReadyH.nil
        go_simp
        refine (jints_any w8 va vb _ _ _ _ HA2.out HBB.out (by omega) (by omega)).mono ?_
        rintro e w9 ⟨rfl, hd9⟩
        rw [decide_eq_true rfl]
        have HB9 := Lib.hid (HB8.out.trans hd9.bel)
        clear hd9
        dsimp only
        refine hK.out _ _ ⟨cell_later HB9.out HT0.out, cell_later HB9.out HC3'.out, cell_later HB9.out HS1.out, cell_later HB9.out HT1.out⟩ (fun hHeld => ?_)
        clear hK K
        try simp only [Act.put, List.setIfInBounds_toArray, List.set_cons_zero, List.set_cons_succ]
        refine tk (oi := { dst := some 143, op := Op.pick (Operand.tmp 131) (Operand.tmp 142) (Operand.const (Value.bool false)), type := 4, pos := "law.go:175", after := #[{ on := 19, ground := Ground.data }, { on := 30, ground := Ground.data }, { on := 7, ground := Ground.guard }], guard := some (7, false) }) (v := ?_) 31 rfl ?_ ?_
        rotate_left
        · (intro w hSw; (try dsimp only at hSw); first | (go_simp; done) | (go_simp; with_reducible rfl))
        try simp only [Act.put, List.setIfInBounds_toArray, List.set_cons_zero, List.set_cons_succ]
        refine tk (oi := { dst := some 144, op := Op.pick (Operand.tmp 119) (Operand.const (Value.bool true)) (Operand.tmp 143), type := 4, pos := "law.go:175", after := #[{ on := 7, ground := Ground.data }, { on := 31, ground := Ground.data }], guard := none }) (v := ?_) 32 rfl ?_ ?_
        rotate_left
        · (intro w hSw; (try dsimp only at hSw); first | (go_simp; done) | (go_simp; with_reducible rfl))
        try simp only [Act.put, List.setIfInBounds_toArray, List.set_cons_zero, List.set_cons_succ]
        refine tk (oi := { dst := some 4, op := Op.assign (Operand.tmp 144), type := 4, pos := "law.go:175", after := #[{ on := 32, ground := Ground.data }, { on := 30, ground := Ground.chain }, { on := 0, ground := Ground.phase }, { on := 1, ground := Ground.phase }, { on := 2, ground := Ground.phase }, { on := 3, ground := Ground.phase }, { on := 4, ground := Ground.phase }, { on := 5, ground := Ground.phase }, { on := 6, ground := Ground.phase }, { on := 7, ground := Ground.phase }, { on := 8, ground := Ground.phase }, { on := 9, ground := Ground.phase }, { on := 10, ground := Ground.phase }, { on := 11, ground := Ground.phase }, { on := 12, ground := Ground.phase }, { on := 13, ground := Ground.phase }, { on := 14, ground := Ground.phase }, { on := 15, ground := Ground.phase }, { on := 16, ground := Ground.phase }, { on := 17, ground := Ground.phase }, { on := 18, ground := Ground.phase }, { on := 19, ground := Ground.phase }, { on := 20, ground := Ground.phase }, { on := 21, ground := Ground.phase }, { on := 22, ground := Ground.phase }, { on := 23, ground := Ground.phase }, { on := 24, ground := Ground.phase }, { on := 25, ground := Ground.phase }, { on := 26, ground := Ground.phase }, { on := 27, ground := Ground.phase }, { on := 28, ground := Ground.phase }, { on := 29, ground := Ground.phase }, { on := 30, ground := Ground.phase }, { on := 31, ground := Ground.phase }, { on := 32, ground := Ground.phase }], guard := none }) (v := ?_) 33 rfl ?_ ?_
        rotate_left
        · (intro w hSw; (try dsimp only at hSw); first | (go_simp; done) | (go_simp; with_reducible rfl))
        try simp only [Act.put, List.setIfInBounds_toArray, List.set_cons_zero, List.set_cons_succ]
        refine wpAnyH_done (by kernel_rfl) ?_ _
        go_wp2_with (fail)
        go_ret
        exact ⟨rfl, HB9.out⟩
end Go.Proofs.YtlmlcnbgdaiaeaaGreatDoor
/- Mathematics: what the acts of layer 7's laws leave as it was; no program. -/
namespace Go.Proofs.YtlmlcnbgdaiaeaaGreatDoor
open Go.RowKit Go.Deep Go.Maps

theorem on_room (nm : List UInt8) (M : RS) (k : FI → Int × RS) (hk : ∀ y, (k y).2.room = M.room) : (onS nm M k).2.room = M.room := by
  unfold onS
  split
  · rfl
  · cases getF nm M.L with
    | none => rfl
    | some y => exact hk y
theorem flush_room (M : RS) (nm : List UInt8) : (flushS nm M).2.room = M.room := on_room nm M _ fun y => chg_room M _
theorem drop_room (M : RS) (nm : List UInt8) : (dropS nm M).2.room = M.room := on_room nm M _ fun y => chg_room M _
theorem cut_room (M : RS) (nm : List UInt8) (n : Int) : (cutS nm n M).2.room = M.room := on_room nm M _ fun y => by
  split
  · rfl
  · exact chg_room M _
theorem mend_room (M : RS) (nm : List UInt8) (n : Int) : (mendS nm n M).2.room = M.room := by
  unfold mendS
  split
  · exact cut_room M nm n
  · rw [flush_room, cut_room]
theorem jturn_room (p : List UInt8) (M : RS) : (jturn p M).2.room = M.room := add_room M _ _
theorem jput_room (nm t : List UInt8) (M : RS) : (jput nm t M).2.room = M.room := by
  unfold jput
  split
  · exact add_room M _ _
  · rw [flush_room, add_room]
theorem jroom_room (p : List UInt8) (most : Int) (M : RS) : (jroom p most M).2.room = M.room := by
  unfold jroom; split; exact jturn_room p M; rfl
theorem jwrite_room (p : List UInt8) (most : Int) (l : List (List UInt8)) (M : RS) : (jwrite p most l M).2.room = M.room := by
  unfold jwrite
  split
  · rfl
  · split
    · rfl
    · split
      · exact jroom_room p most M
      · rw [jput_room, jroom_room]
theorem trim_room (p : List UInt8) (before : Int) : ∀ (l : List Nat) (M : RS), (trimL p before l M).2.room = M.room
  | [], M => rfl
  | [_], M => rfl
  | n :: m :: r, M => by
    simp only [trimL]
    split
    · split
      · rw [trim_room p before (m :: r), drop_room]
      · exact drop_room M _
    · rfl
theorem readsegs_room (p : List UInt8) : ∀ (l : List Nat) (M : RS), (readSegs p l M).2.2.room = M.room
  | [], M => rfl
  | n :: r, M => by
    have ih := readsegs_room p r M
    simp only [readSegs]
    split
    · split
      · exact ih
      · exact ih
    · split
      · rfl
      · split
        · exact mend_room M _ _
        · exact mend_room M _ _
theorem jopen_room (p : List UInt8) (M : RS) : (jopen p M).2.2.room = M.room := by
  unfold jopen
  split
  · rfl
  · split
    · rfl
    · split
      · exact jturn_room p M
      · exact readsegs_room p _ M
theorem read_each : ∀ (n : Nat) (s : List UInt8), s.length ≤ n → ∀ l ∈ (readL s).1, l.length ≤ 50
  | n, s, hn => by
    by_cases hs : s = []
    · subst hs; rw [read_nil]; intro l hl; cases hl
    obtain ⟨l, r, e, hF⟩ : ∃ l r e, firstL s = (l, r, e) := ⟨_, _, _, rfl⟩
    by_cases he : e = 0
    · subst he
      obtain ⟨t, -, hu, hlt⟩ := first_rest hF
      rw [read_next hF]
      cases n with
      | zero => omega
      | succ n =>
        intro m hm
        rcases List.mem_cons.1 hm with rfl | hm
        · exact (unb_back hu).2
        · exact read_each n r (by omega) m hm
    · rw [read_end hs hF he]; intro l hl; cases hl
theorem readsegs_each (p : List UInt8) : ∀ (l : List Nat) (M : RS), ∀ b ∈ (readSegs p l M).2.1, b.length ≤ 50
  | [], M => fun b hb => by cases hb
  | n :: r, M => by
    have ih := readsegs_each p r M
    have h1 := read_each _ (bytesOf (fileN p n) M) (Nat.le_refl _)
    simp only [readSegs]
    split
    · split
      · intro b hb
        rcases List.mem_append.1 hb with hb | hb
        · exact h1 b hb
        · exact ih b hb
      · intro b hb; cases hb
    · split
      · intro b hb; cases hb
      · split
        · exact h1
        · intro b hb; cases hb
theorem jopen_each (p : List UInt8) (M : RS) : ∀ b ∈ (jopen p M).2.1, b.length ≤ 50 := by
  unfold jopen
  split
  · intro b hb; cases hb
  · split
    · intro b hb; cases hb
    · split
      · intro b hb; cases hb
      · exact readsegs_each p _ M
theorem jopen_lens (p : List UInt8) {M : RS} (h : M.ok) (hr : M.room ≤ 1000000) : (jopen p M).2.1.length ≤ 60000000 := by
  unfold jopen
  split
  · simp
  · split
    · simp
    · split
      · simp
      · have h1 := readSegs_lens p (segsL p M.L) M (room_sizes h hr)
        have h2 := segs_len p M.L
        have h3 := h.len
        omega
theorem doj_each (p : List UInt8) (most : Int) (a : JV) (M : RS) : ∀ b ∈ (doJ p most a M).2.1, b.length ≤ 1000000 := by
  unfold doJ
  repeat' split
  all_goals first
    | (intro b hb; cases hb; done)
    | (intro b hb; have := jopen_each p _ b hb; omega)
theorem doj_lens (p : List UInt8) (most : Int) (a : JV) {M : RS} (h : M.ok) (hr : M.room ≤ 1000000) : (doJ p most a M).2.1.length ≤ 1000000000 := by
  have h2 : ∀ lf sp, (jopen p (crashS lf sp M)).2.1.length ≤ 60000000 := fun lf sp => jopen_lens p (crash_ok h lf sp) hr
  unfold doJ
  repeat' split
  all_goals first
    | (simp; done)
    | (have := h2 a.left.L a.spoil.L; omega)
theorem doj_room (p : List UInt8) (most : Int) (a : JV) (M : RS) : (doJ p most a M).2.2.room = M.room := by
  unfold doJ
  repeat' split
  · exact jturn_room p M
  · exact trim_room p _ _ M
  · rfl
  · exact jopen_room p _
  · exact jwrite_room p most _ M
theorem last_drop {n : Nat} {r : List Nat} (hr : r ≠ []) : (n :: r).getLast?.getD 0 = r.getLast?.getD 0 := by
  cases r with
  | nil => exact absurd rfl hr
  | cons m r => rw [List.getLast?_cons_cons]
theorem drop_L (M : RS) (nm : List UInt8) : ((dropS nm M).1 = 0 → (dropS nm M).2.L = outS nm M.L) ∧ ((dropS nm M).1 ≠ 0 → (dropS nm M).2.L = M.L) := by
  unfold dropS onS
  split
  · exact ⟨(fun h => by cases h), fun _ => rfl⟩
  · cases getF nm M.L with
    | none => exact ⟨(fun h => by cases h), fun _ => rfl⟩
    | some y =>
      simp only
      unfold chgS
      split
      · exact ⟨(fun h => by cases h), fun _ => turn_L M⟩
      · exact ⟨fun _ => rfl, fun h => absurd rfl h⟩
theorem trim_last (p : List UInt8) (before : Int) : ∀ (l : List Nat) {M : RS}, M.ok → segsL p M.L = l → lastN p (trimL p before l M).2.L = lastN p M.L
  | [], M, _, _ => rfl
  | [_], M, _, _ => rfl
  | n :: m :: r, M, h, hl => by
    obtain ⟨d1, d2⟩ := drop_L M (fileN p n)
    simp only [trimL]
    split
    · split
      · rename_i h0
        have hs := segs_out (p := p) h.srt hl
        rw [← d1 h0] at hs
        rw [trim_last p before (m :: r) (drop_ok h _) hs]
        unfold lastN
        rw [hs, hl, last_drop (n := n) (r := m :: r) (by simp)]
      · rename_i h0
        unfold lastN; rw [d2 h0]
    · rfl
theorem jput_last {p : List UInt8} {M : RS} (h : M.ok) (h0 : lastN p M.L ≠ 0) (t : List UInt8) : lastN p (jput (fileN p (lastN p M.L)) t M).2.L = lastN p M.L := by
  have hth := last_there (p := p) h rfl h0
  unfold jput
  split
  · exact last_names (add_names h hth t)
  · exact (last_names (flush_names (add_ok h _ _) _)).trans (last_names (add_names h hth t))
theorem jroom_last {p : List UInt8} {M : RS} (most : Int) (h : M.ok) (h9 : lastN p M.L < 9999999) : lastN p (jroom p most M).2.L = lastN p M.L ∨ lastN p (jroom p most M).2.L = lastN p M.L + 1 := by
  unfold jroom
  split
  · by_cases ht : (jturn p M).1 = 0
    · exact Or.inr (jturn_last h h9 ht)
    · exact Or.inl (by unfold lastN; rw [(jturn_segs h h9).2 ht])
  · exact Or.inl rfl
theorem doj_last {p : List UInt8} {most : Int} {a : JV} {M : RS} (h : M.ok) (h0 : lastN p M.L ≠ 0) (h9 : lastN p M.L < 9999998) (hp : nameJ p = true) : lastN p (doJ p most a M).2.2.L ≠ 0 ∧ lastN p (doJ p most a M).2.2.L ≤ lastN p M.L + 1 := by
  unfold doJ
  split
  · by_cases ht : (jturn p M).1 = 0
    · have := jturn_last h (by omega) ht
      exact ⟨by simp only; omega, by simp only; omega⟩
    · have : lastN p (jturn p M).2.L = lastN p M.L := by unfold lastN; rw [(jturn_segs h (by omega)).2 ht]
      exact ⟨by simp only; omega, by simp only; omega⟩
  · split
    · have := trim_last p a.n (segsL p M.L) h rfl
      unfold jtrim
      exact ⟨by simp only; omega, by simp only; omega⟩
    · split
      · exact ⟨h0, Nat.le_succ _⟩
      · split
        · have hc := last_names (p := p) (crash_names a.left.L a.spoil.L M.L 0)
          have hok := crash_ok h a.left.L a.spoil.L
          have hne : segsL p (crashS a.left.L a.spoil.L M).L ≠ [] := fun e => h0 (by rw [← hc]; exact last_zero.2 e)
          have : lastN p (jopen p (crashS a.left.L a.spoil.L M)).2.2.L = lastN p M.L := by
            unfold jopen
            rw [if_neg (by rw [hp]; simp)]
            split
            · exact hc
            · try rw [if_neg hne]
              exact (last_names (read_ok p _ hok).2).trans hc
          exact ⟨by omega, by omega⟩
        · have : lastN p (jwrite p most a.bl M).2.L = lastN p M.L ∨ lastN p (jwrite p most a.bl M).2.L = lastN p M.L + 1 := by
            unfold jwrite
            split
            · exact Or.inl rfl
            · split
              · exact Or.inl rfl
              · split
                · exact jroom_last most h (by omega)
                · have hj := jroom_last (p := p) most h (by omega)
                  rw [jput_last (jroom_ok h p most) (by omega)]
                  exact hj
          exact ⟨by simp only; omega, by simp only; omega⟩
end Go.Proofs.YtlmlcnbgdaiaeaaGreatDoor
/- moultlaw7.JournalOpens. -/
namespace Go.Proofs.YtlmlcnbgdaiaeaaGreatDoor
open Go.RowKit Go.Deep Go.Maps

structure FB where
  name : ByteArray
  data : ByteArray
def FlsAt (w : World) (p : Option Addr) (L : List FB) : Prop := ∀ i (h : i < L.length), ∃ B O sp, p.map (fun a => a.add (i * 2)) = some ⟨B, O, sp⟩ ∧
  w.cell? ⟨B, O, sp⟩ = some (.string L[i].name) ∧ w.cell? ⟨B, O + 1, none⟩ = some (.string L[i].data) ∧ L[i].name.size ≤ maxLen ∧ L[i].data.size ≤ maxLen
theorem FlsAt.bel {w x : World} {p : Option Addr} {L : List FB} (h : FlsAt w p L) (hb : Bel w x) : FlsAt x p L := by
  intro i hi
  obtain ⟨B, O, sp, hp, h1, h2, h3, h4⟩ := h i hi
  exact ⟨B, O, sp, hp, cell_later hb h1, cell_later hb h2, h3, h4⟩
end Go.Proofs.YtlmlcnbgdaiaeaaGreatDoor
/- moultlaw7.JournalBatches, JournalBack. -/
namespace Go.Proofs.YtlmlcnbgdaiaeaaGreatDoor
open Go.RowKit Go.Deep Go.Maps

end Go.Proofs.YtlmlcnbgdaiaeaaGreatDoor
/- Slices of slices of texts, and of bools, that came in; a list of such slices that a law makes. -/
namespace Go.Proofs.YtlmlcnbgdaiaeaaGreatDoor
open Go.RowKit Go.Deep Go.Maps

structure LV where
  p : Option Addr
  cap : Nat
  l : List (List UInt8)
def LV.val (v : LV) : Value := .slice v.p v.l.length v.cap
def LV.ok (w : World) (v : LV) : Prop := StrsAt w v.p v.l ∧ v.l.length ≤ maxLen ∧ ∀ t ∈ v.l, t.length ≤ maxLen
theorem LV.ok.bel {w x : World} {v : LV} (h : LV.ok w v) (hb : Bel w x) : LV.ok x v := ⟨h.1.bel hb, h.2⟩
def LvsAt (w : World) (p : Option Addr) (L : List LV) : Prop := ∀ i (h : i < L.length), ∃ a, p = some a ∧ w.cell? (a.add i) = some L[i].val ∧ LV.ok w L[i]
theorem LvsAt.bel {w x : World} {p : Option Addr} {L : List LV} (h : LvsAt w p L) (hb : Bel w x) : LvsAt x p L := fun i hi => by
  obtain ⟨a, h1, h2, h3⟩ := h i hi
  exact ⟨a, h1, cell_later hb h2, h3.bel hb⟩
def BoolsAt (w : World) (p : Option Addr) (L : List Bool) : Prop := ∀ i (h : i < L.length), ∃ a, p = some a ∧ w.cell? (a.add i) = some (.bool L[i])
theorem BoolsAt.bel {w x : World} {p : Option Addr} {L : List Bool} (h : BoolsAt w p L) (hb : Bel w x) : BoolsAt x p L := fun i hi => by
  obtain ⟨a, h1, h2⟩ := h i hi
  exact ⟨a, h1, cell_later hb h2⟩
theorem RowL.drop {P : Nat → Prop} {x : World} {a : Addr} {L : List (List (List UInt8))} (h : RowL P x (some a) L) (k : Nat) : RowL P x (some (a.add k)) (L.drop k) := by
  obtain ⟨H, h1, h2, h3⟩ := h.ex
  refine ⟨H.drop k, by simp [h1], fun i s hs => ?_, fun i s l hs hl => ?_⟩
  · rw [List.getElem?_drop] at hs
    obtain ⟨a', ha, hP, hc⟩ := h2 _ s hs
    simp only [Option.some.injEq] at ha
    subst ha
    refine ⟨_, rfl, by rw [add_block]; exact hP, ?_⟩
    have e : (a.add k).add i = a.add (k + i) := by
      cases k with
      | zero => rw [Nat.zero_add]; rfl
      | succ k => cases i <;> simp [Addr.add, Nat.add_assoc]
    rw [e]; exact hc
  · rw [List.getElem?_drop] at hs hl
    exact h3 _ s l hs hl
section
variable {w x y z : World} {ws ms b r jb rb : Nat} {M M' M1 : RS} {nm : ByteArray} {most : Int} {R R' : List Nat}
end
end Go.Proofs.YtlmlcnbgdaiaeaaGreatDoor
