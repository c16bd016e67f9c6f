/- BShort, laid together. -/
import Derived.Test.YteimllgoelleeaaGreatDoorZ9
import Derived.Deep.RegionHeld3
import Derived.Test.YteimllgoelleeaaGreatDoorZ2
set_option linter.unusedSimpArgs false
set_option linter.unusedVariables false
/- block.shortened: what stands ahead of a pair, and what its key has beyond the one ahead of it. -/
namespace Go.Proofs.YteimllgoelleeaaGreatDoor
open Go.RowKit Go.Deep

theorem mk_size (l : List UInt8) : (⟨l.toArray⟩ : ByteArray).size = l.length := by show l.toArray.size = _; simp
theorem cell_later {w x : World} {b o : Nat} {v : Value} (hb : Bel w x) (h : w.cell? ⟨b, o, none⟩ = some v) : x.cell? ⟨b, o, none⟩ = some v :=
  (hb.cell b o (block_of_cell h)).trans h
theorem ext_drop (s : ByteArray) (n : Nat) : s.extract n s.size = ⟨(s.data.toList.drop n).toArray⟩ := by
  apply ba_eq
  rw [ext_data, List.take_of_length_le (by exact Nat.le_refl _)]

set_option maxHeartbeats 4000000 in
set_option maxRecDepth 20000 in
theorem shortened_any (p : PB) (prev : ByteArray) (w : World) (hk : p.k.size ≤ 1000000) (hv : p.v.size ≤ 1000000) (hp : prev.size ≤ 1000000) :
    Calls Tryz.prog 73 #[.agg #[.string p.k, .string p.v], .string prev] w fun e w' =>
      e = .returned (.tuple #[.string ⟨(headL prev.data.toList p.pr).toArray⟩, .string ⟨(restL prev.data.toList p.pr).toArray⟩]) ∧ Bel w w' := by
  obtain ⟨k, v⟩ := p
  obtain ⟨c, hc⟩ : ∃ c, comL k.data.toList prev.data.toList = c := ⟨_, rfl⟩
  have hcl := com_left k.data.toList prev.data.toList
  have hkl : k.data.toList.length = k.size := rfl
  have hvl : v.data.toList.length = v.size := rfl
  rw [hc, hkl] at hcl
  simp only at hk hv
  have HH := Lib.hid (show headL prev.data.toList (PB.pr ⟨k, v⟩) = putL c ++ putL (k.size - c) ++ putL v.size by simp only [headL, PB.pr]; rw [hc]; rfl)
  have HS : Hid ((⟨(putL c).toArray⟩ ++ ⟨(putL (k.size - c)).toArray⟩ ++ ⟨(putL v.size).toArray⟩ : ByteArray) = ⟨(headL prev.data.toList (PB.pr ⟨k, v⟩)).toArray⟩) := Lib.hid (by rw [HH.out]; apply ByteArray.ext; simp)
  have HR := Lib.hid (show restL prev.data.toList (PB.pr ⟨k, v⟩) = k.data.toList.drop c by simp only [restL, PB.pr]; rw [hc])
  have HE := Lib.hid (ext_drop k c)
  have hez : (k.extract c k.size).size = k.size - c := by simp [ByteArray.size_extract]
  have z1 := put_le9 c
  have z2 := put_le9 (k.size - c)
  have z3 := put_le9 v.size
  have HC := Lib.hid hc; clear hc
  have hbw := Lib.hid ((Bel.refl w).alloc (.cells #[.string k, .string v] 137))
  go_enter Tryz.func73, Tryz.ntmps73
  go_wp2_with (fail)
  refine (common_any k prev _ (by unfold maxLen; omega) (by unfold maxLen; omega)).mono ?_
  rintro e w1 ⟨rfl, n1, rfl⟩
  rw [HC.out]
  have c0 : ((w.alloc (.cells #[.string k, .string v] 137)).drewN n1).cell? ⟨w.heap.size, 0, none⟩ = some (.string k) := (World.cell?_alloc_new ..).trans (by simp)
  have c1 : ((w.alloc (.cells #[.string k, .string v] 137)).drewN n1).cell? ⟨w.heap.size, 1, none⟩ = some (.string v) := (World.cell?_alloc_new ..).trans (by simp)
  have HB := Lib.hid (hbw.out.drewN n1)
  generalize (w.alloc (.cells #[.string k, .string v] 137)).drewN n1 = w1 at *
  clear hbw
  go_wp2_with (fail)
  refine wp_region_held_drew (S := fun z => z.cell? ⟨w.heap.size, 1, none⟩ = some (.string v) ∧ Bel w z) (by kernel_rfl) ⟨c1, HB.out.drew⟩ (fun hHeld => ?_)
  refine tk (oi := { dst := some 16, op := Op.move (Operand.tmp 6), type := 3, pos := "block.go:59", after := #[], guard := none }) (v := ?_) 0 rfl ?_ ?_
  rotate_left
  · (intro w hSw; (try dsimp only at hSw); first | (go_simp; done) | (go_simp; with_reducible rfl))
  try simp only [Act.put, List.setIfInBounds_toArray, List.set_cons_zero, List.set_cons_succ]
  refine tk (oi := { dst := some 18, op := Op.move (Operand.tmp 7), type := 9, pos := "block.go:59", after := #[], guard := none }) (v := ?_) 2 rfl ?_ ?_
  rotate_left
  · (intro w hSw; (try dsimp only at hSw); first | (go_simp; done) | (go_simp; with_reducible rfl))
  try simp only [Act.put, List.setIfInBounds_toArray, List.set_cons_zero, List.set_cons_succ]
  refine tk (oi := { dst := some 19, op := Op.call { callee := Callee.builtin Builtin.len, args := #[Operand.tmp 18], argTypes := #[9] }, type := 3, pos := "block.go:59", after := #[{ on := 2, ground := Ground.data }], guard := none }) (v := ?_) 3 rfl ?_ ?_
  rotate_left
  · (intro w hSw; (try dsimp only at hSw); first | (go_simp; done) | (go_simp; with_reducible rfl))
  try simp only [Act.put, List.setIfInBounds_toArray, List.set_cons_zero, List.set_cons_succ]
  refine tk (oi := { dst := some 22, op := Op.fieldAddr 137 (Operand.tmp 2) 1, type := 0, pos := "block.go:59", after := #[], guard := none }) (v := ?_) 6 rfl ?_ ?_
  rotate_left
  · (intro w hSw; (try dsimp only at hSw); first | (go_simp; done) | (go_simp; with_reducible rfl))
  try simp only [Act.put, List.setIfInBounds_toArray, List.set_cons_zero, List.set_cons_succ]
  refine tk (oi := { dst := some 23, op := Op.load 9 (Operand.tmp 22), type := 9, pos := "block.go:59", after := #[{ on := 6, ground := Ground.data }], guard := none }) (v := ?_) 7 rfl ?_ ?_
  rotate_left
  · (intro w hSw; (try dsimp only at hSw); first | (go_simp; done) | (go_simp; with_reducible rfl))
  try simp only [Act.put, List.setIfInBounds_toArray, List.set_cons_zero, List.set_cons_succ]
  refine tk (oi := { dst := some 24, op := Op.call { callee := Callee.builtin Builtin.len, args := #[Operand.tmp 23], argTypes := #[9] }, type := 3, pos := "block.go:59", after := #[{ on := 7, ground := Ground.data }], guard := none }) (v := ?_) 8 rfl ?_ ?_
  rotate_left
  · (intro w hSw; (try dsimp only at hSw); first | (go_simp; done) | (go_simp; with_reducible rfl))
  try simp only [Act.put, List.setIfInBounds_toArray, List.set_cons_zero, List.set_cons_succ]
  refine tk (oi := { dst := some 27, op := Op.move (Operand.tmp 7), type := 9, pos := "block.go:59", after := #[{ on := 12, ground := Ground.gcOnly Departure.lateStores }], guard := none }) (v := ?_) 11 rfl ?_ ?_
  rotate_left
  · (intro w hSw; (try dsimp only at hSw); first | (go_simp; done) | (go_simp; with_reducible rfl))
  try simp only [Act.put, List.setIfInBounds_toArray, List.set_cons_zero, List.set_cons_succ]
  refine wpAnyH_ready (rs := [1]) (by kernel_rfl) (by simp) ?_
  refine AllReadyH.cons (o := { dst := some 17, op := Op.call { callee := Callee.value (Operand.func 99), args := #[Operand.tmp 16], argTypes := #[3] }, type := 9, pos := "block.go:59", after := #[{ on := 0, ground := Ground.data }], guard := none }) rfl (fun K hK => ?_) AllReadyH.nil
  go_simp
  refine (length_any _ c w1.drew rfl (by unfold maxLen; omega)).mono ?_
  rintro e w2 ⟨rfl, hb⟩
  have c2 := cell_later hb (show _ = _ from c1)
  have HB2 := Lib.hid (HB.out.drew.trans hb)
  clear hb
  dsimp only
  refine hK.out _ _ ⟨c2, HB2.out⟩ (fun hHeld => ?_)
  clear hK K
  try simp only [Act.put, List.setIfInBounds_toArray, List.set_cons_zero, List.set_cons_succ]
  refine wpAnyH_ready (rs := [4]) (by kernel_rfl) (by simp) ?_
  refine AllReadyH.cons (o := { dst := some 20, op := Op.call { callee := Callee.value (Operand.func 99), args := #[Operand.tmp 19], argTypes := #[3] }, type := 9, pos := "block.go:59", after := #[{ on := 3, ground := Ground.data }, { on := 1, ground := Ground.chain }], guard := none }) rfl (fun K hK => ?_) AllReadyH.nil
  go_simp
  refine (length_any _ (k.size - c) w2 rfl (by unfold maxLen; omega)).mono ?_
  rintro e w3 ⟨rfl, hb⟩
  have c3 := cell_later hb c2
  have HB3 := Lib.hid (HB2.out.trans hb)
  clear hb
  dsimp only
  refine hK.out _ _ ⟨c3, HB3.out⟩ (fun hHeld => ?_)
  clear hK K
  try simp only [Act.put, List.setIfInBounds_toArray, List.set_cons_zero, List.set_cons_succ]
  refine tk (oi := { dst := some 21, op := Op.binOp BinOp.add 9 (Operand.tmp 17) (Operand.tmp 20) 9, type := 9, pos := "block.go:59", after := #[{ on := 1, ground := Ground.data }, { on := 4, ground := Ground.data }], guard := none }) (v := ?_) 5 rfl ?_ ?_
  rotate_left
  · (intro w hSw; (try dsimp only at hSw); first | (go_simp; rw [if_neg (by omega)]; done))
  try simp only [Act.put, List.setIfInBounds_toArray, List.set_cons_zero, List.set_cons_succ]
  refine wpAnyH_ready (rs := [9]) (by kernel_rfl) (by simp) ?_
  refine AllReadyH.cons (o := { dst := some 25, op := Op.call { callee := Callee.value (Operand.func 99), args := #[Operand.tmp 24], argTypes := #[3] }, type := 9, pos := "block.go:59", after := #[{ on := 8, ground := Ground.data }, { on := 4, ground := Ground.chain }], guard := none }) rfl (fun K hK => ?_) AllReadyH.nil
  go_simp
  refine (length_any _ v.size w3 rfl (by unfold maxLen; omega)).mono ?_
  rintro e w4 ⟨rfl, hb⟩
  have c4 := cell_later hb c3
  have HB4 := Lib.hid (HB3.out.trans hb)
  clear hb
  dsimp only
  refine hK.out _ _ ⟨c4, HB4.out⟩ (fun hHeld => ?_)
  clear hK K
  try simp only [Act.put, List.setIfInBounds_toArray, List.set_cons_zero, List.set_cons_succ]
  refine tk (oi := { dst := some 26, op := Op.binOp BinOp.add 9 (Operand.tmp 21) (Operand.tmp 25) 9, type := 9, pos := "block.go:59", after := #[{ on := 5, ground := Ground.data }, { on := 9, ground := Ground.data }], guard := none }) (v := ?_) 10 rfl ?_ ?_
  rotate_left
  · (intro w hSw; (try dsimp only at hSw); first | (go_simp; rw [if_neg (by omega)]; done))
  try simp only [Act.put, List.setIfInBounds_toArray, List.set_cons_zero, List.set_cons_succ]
  refine tk (oi := { dst := some 4, op := Op.assign (Operand.tmp 26), type := 9, pos := "block.go:59", after := #[{ on := 10, ground := Ground.data }, { on := 9, ground := Ground.chain }, { on := 0, ground := Ground.phase }, { on := 1, ground := Ground.phase }, { on := 2, ground := Ground.phase }, { on := 3, ground := Ground.phase }, { on := 4, ground := Ground.phase }, { on := 5, ground := Ground.phase }, { on := 6, ground := Ground.phase }, { on := 7, ground := Ground.phase }, { on := 8, ground := Ground.phase }, { on := 9, ground := Ground.phase }, { on := 10, ground := Ground.phase }, { on := 11, ground := Ground.textOnly Departure.lateStores }], guard := none }) (v := ?_) 12 rfl ?_ ?_
  rotate_left
  · (intro w hSw; (try dsimp only at hSw); first | (go_simp; done) | (go_simp; with_reducible rfl))
  try simp only [Act.put, List.setIfInBounds_toArray, List.set_cons_zero, List.set_cons_succ]
  refine tk (oi := { dst := some 5, op := Op.assign (Operand.tmp 27), type := 9, pos := "block.go:59", after := #[{ on := 11, ground := Ground.data }, { on := 12, ground := Ground.chain }, { on := 0, ground := Ground.phase }, { on := 1, ground := Ground.phase }, { on := 2, ground := Ground.phase }, { on := 3, ground := Ground.phase }, { on := 4, ground := Ground.phase }, { on := 5, ground := Ground.phase }, { on := 6, ground := Ground.phase }, { on := 7, ground := Ground.phase }, { on := 8, ground := Ground.phase }, { on := 9, ground := Ground.phase }, { on := 10, ground := Ground.phase }, { on := 11, ground := Ground.phase }, { on := 12, ground := Ground.phase }], guard := none }) (v := ?_) 13 rfl ?_ ?_
  rotate_left
  · (intro w hSw; (try dsimp only at hSw); first | (go_simp; done) | (go_simp; with_reducible rfl))
  try simp only [Act.put, List.setIfInBounds_toArray, List.set_cons_zero, List.set_cons_succ]
  refine wpAnyH_done (by kernel_rfl) ?_ _
  go_wp2_with (fail)
  go_ret2
  exact ⟨by rw [HR.out, ← HE.out, ← HS.out]; rfl, HB4.out⟩
end Go.Proofs.YteimllgoelleeaaGreatDoor
