/- moultlaw13.ManifestPacks, ManifestBack. -/
import Derived.Test.YtfbiinnenlgkfaaGreatDoorP24
import Derived.Deep.RegionHeld
import Derived.Test.YtfbiinnenlgkfaaGreatDoorP2
set_option linter.unusedSimpArgs false
set_option linter.unusedVariables false
set_option maxRecDepth 100000
namespace Go.Proofs.YtfbiinnenlgkfaaGreatDoor
open Go.RowKit Go.Deep Go.Maps

theorem packV_parts (s : MS) : ∃ P E, packV s = .tuple #[.string P, .int .i64 E] ∧ ((E = 0 ∧ rightM s = true ∧ P = ⟨(encM s).toArray⟩) ∨ (E = 1 ∧ rightM s = false ∧ P = ⟨#[]⟩)) := by
  cases h : rightM s with
  | true => exact ⟨_, _, pack_yes h, Or.inl ⟨rfl, rfl, rfl⟩⟩
  | false => exact ⟨_, _, pack_no h, Or.inr ⟨rfl, rfl, rfl⟩⟩
theorem asB_parts {s : MS} (h : asB s = true) : s.files.length ≤ 60 ∧ s.mt.size ≤ 31000 := by
  unfold asB at h
  simpa using h
theorem unp_len (t : List UInt8) : (unpSt t).files.length ≤ 40 ∧ (unpSt t).mt.size ≤ 30000 := by
  rcases unp_cases t with ⟨_, _, h, _⟩ | ⟨_, _, h⟩
  · obtain ⟨-, h2, -, -, -, h6⟩ := right_parts h; exact ⟨h2, h6⟩
  · rw [h]; decide
set_option maxHeartbeats 16000000 in
theorem law_packs13_any (w : World) (p : Option Addr) (c : Nat) (s : MS) (t : ByteArray) (hstd : Std w) (hp : PlsAt w p s.files) (hl : s.files.length ≤ 9223372036854775807) (hz : s.mt.size ≤ 9223372036854775807) :
    Calls Tryz.prog 3 #[.agg #[.slice p s.files.length c, .int .i64 s.next, .int .i64 s.seq, .int .i64 s.log, .string s.mt], .string t] w fun e w' => e = .returned (.bool true) ∧ Bel w w' := by
  obtain ⟨X, hX⟩ : ∃ X, X = w.heap.size := ⟨_, rfl⟩
  obtain ⟨w1, hw1⟩ : ∃ z, z = w.alloc (.cells #[.slice p s.files.length c, .int .i64 s.next, .int .i64 s.seq, .int .i64 s.log, .string s.mt] 24) := ⟨_, rfl⟩
  have hb1 : Bel w w1 := by rw [hw1]; exact (Bel.refl w).alloc _
  have HKA := Lib.hid (show w1.heap[X]? = some (.cells #[.slice p s.files.length c, .int .i64 s.next, .int .i64 s.seq, .int .i64 s.log, .string s.mt] 24 (0, 0)) by rw [hw1, hX]; exact heap_alloc_new w _)
  have HB1 := Lib.hid hb1
  have HP := Lib.hid (hp.bel hb1)
  have HSH := Lib.hid (shown13_any w1 (hstd.bel hb1))
  clear hp hb1 hstd
  go_enter Tryz.func3, Tryz.ntmps3
  go_wp2_with (fail)
  rw [← hw1, ← hX]
  clear hw1 hX
  refine HSH.out.mono ?_
  rintro e w2 ⟨rfl, hb2⟩
  have HB2 := Lib.hid (HB1.out.trans hb2)
  have HP2 := Lib.hid (HP.out.bel hb2)
  have HA2 := Lib.hid (box_bel HKA.out hb2)
  obtain ⟨a0, a1, a2, a3, a4⟩ := cell5 HA2.out
  clear hb2 HSH
  go_wp2_with (fail)
  refine (as13_any p c s w2 HP2.out hl hz).mono ?_
  rintro e w3 ⟨p3, c3, rfl, ho3, hb3⟩
  have HO3 := Lib.hid ho3
  have HB3 := Lib.hid hb3
  clear ho3 hb3 a0 a1 a2 a3 a4
  cases has : asB s with
  | false =>
    go_wp2_with (fail)
    go_ret
    exact ⟨rfl, HB2.out.trans (HB3.out.alloc _)⟩
  | true =>
  have HAE := Lib.hid (as_yes has)
  have HAP := Lib.hid (asB_parts has)
  rw [HAE.out] at HO3
  rw [HAE.out]
  clear has
  by_cases h3 : 3000 < t.size
  · have h3i : (3000 : Int) < (t.size : Int) := by omega
    go_wp2_with (fail)
    go_ret
    exact ⟨rfl, HB2.out.trans (HB3.out.alloc _)⟩
  have h3i : ¬ (3000 : Int) < (t.size : Int) := by omega
  obtain ⟨X4, hX4⟩ : ∃ X4, X4 = w3.heap.size := ⟨_, rfl⟩
  obtain ⟨w4, hw4⟩ : ∃ w4, w4 = w3.alloc (.cells #[.slice p3 s.files.length c3, .int .i64 s.next, .int .i64 s.seq, .int .i64 s.log, .string s.mt] 28) := ⟨_, rfl⟩
  have hb4 : Bel w2 w4 := by rw [hw4]; exact HB3.out.alloc _
  have HB4 := Lib.hid hb4
  have HK4 := Lib.hid (show w4.heap[X4]? = some (.cells #[.slice p3 s.files.length c3, .int .i64 s.next, .int .i64 s.seq, .int .i64 s.log, .string s.mt] 28 (0, 0)) by rw [hw4, hX4]; exact heap_alloc_new w3 _)
  have HP4 := Lib.hid (HP2.out.bel hb4)
  have HQ4 := Lib.hid (show PlsAt w4 p3 s.files by rw [hw4]; exact (pls_ownR HO3.out).bel ((Bel.refl w3).alloc _))
  obtain ⟨a0, a1, a2, a3, a4⟩ := cell5 (box_bel HA2.out hb4)
  obtain ⟨P, E, hPV, hPE⟩ := packV_parts s
  have HPV := Lib.hid hPV
  have HPE := Lib.hid hPE
  have hl5 : s.files.length ≤ 100000 := by have := HAP.out.1; omega
  have hz5 : s.mt.size ≤ 100000000 := by have := HAP.out.2; omega
  rw [hw4] at a0 a1 a2 a3 a4
  go_wp2_with (fail)
  rw [← hw4, ← hX4]
  clear hw4 hX4 hPV hPE hb4
  refine (pack13_any p c s w4 HP4.out hl5 hz5).mono ?_
  rintro e w5 ⟨rfl, hb5⟩
  rw [HPV.out]
  have HB5 := Lib.hid hb5
  have HA5 := Lib.hid (box_bel (box_bel HA2.out HB4.out) hb5)
  have HK5 := Lib.hid (box_bel HK4.out hb5)
  clear hb5 a0 a1 a2 a3 a4
  obtain ⟨b0, b1, b2, b3, b4⟩ := cell5 HK5.out
  go_wp2_with (fail)
  refine (rpack13_any p3 c3 s w5 (HQ4.out.bel HB5.out) hl5 hz5).mono ?_
  rintro e w6 ⟨rfl, hb6⟩
  rw [HPV.out]
  have HB6 := Lib.hid hb6
  have HUL := Lib.hid (unp_len t.data.toList)
  obtain ⟨u, hu⟩ : ∃ u, u = unpSt t.data.toList := ⟨_, rfl⟩
  obtain ⟨ue, hue⟩ : ∃ ue, ue = unpEr t.data.toList := ⟨_, rfl⟩
  have HU1 := Lib.hid (unpack13_any t w6 (by omega))
  have HU2 := Lib.hid (fun z => runpack13_any t z (by omega))
  rw [← hu, ← hue] at HU1
  rw [← hu, ← hue] at HU2
  rw [← hu] at HUL
  clear hb6 b0 b1 b2 b3 b4 hu hue
  go_wp2_with (fail)
  refine HU1.out.mono ?_
  rintro e w7 ⟨p7, c7, rfl, ho7, hb7⟩
  have HO7 := Lib.hid ho7
  have HB7 := Lib.hid hb7
  obtain ⟨X7, hX7⟩ : ∃ X7, X7 = w7.heap.size := ⟨_, rfl⟩
  obtain ⟨w8, hw8⟩ : ∃ w8, w8 = w7.alloc (.cells #[.slice p7 u.files.length c7, .int .i64 u.next, .int .i64 u.seq, .int .i64 u.log, .string u.mt] 24) := ⟨_, rfl⟩
  have HK8 := Lib.hid (show w8.heap[X7]? = some (.cells #[.slice p7 u.files.length c7, .int .i64 u.next, .int .i64 u.seq, .int .i64 u.log, .string u.mt] 24 (0, 0)) by rw [hw8, hX7]; exact heap_alloc_new w7 _)
  have HB8 := Lib.hid (show Bel w7 w8 by rw [hw8]; exact (Bel.refl w7).alloc _)
  clear ho7 hb7 HU1
  go_wp2_with (fail)
  rw [← hw8, ← hX7]
  clear hw8 hX7
  refine (HU2.out w8).mono ?_
  rintro e w9 ⟨p9, c9, rfl, ho9, hb9⟩
  have HO9 := Lib.hid ho9
  have HB9 := Lib.hid hb9
  obtain ⟨X9, hX9⟩ : ∃ X9, X9 = w9.heap.size := ⟨_, rfl⟩
  obtain ⟨x, hx⟩ : ∃ x, x = w9.alloc (.cells #[.slice p9 u.files.length c9, .int .i64 u.next, .int .i64 u.seq, .int .i64 u.log, .string u.mt] 28) := ⟨_, rfl⟩
  have HKX := Lib.hid (show x.heap[X9]? = some (.cells #[.slice p9 u.files.length c9, .int .i64 u.next, .int .i64 u.seq, .int .i64 u.log, .string u.mt] 28 (0, 0)) by rw [hx, hX9]; exact heap_alloc_new w9 _)
  have HBX := Lib.hid (show Bel w9 x by rw [hx]; exact (Bel.refl w9).alloc _)
  have HB5X := Lib.hid (HB6.out.trans (HB7.out.trans (HB8.out.trans (HB9.out.trans HBX.out))))
  have HA := Lib.hid (box_bel HA5.out HB5X.out)
  have HK := Lib.hid (box_bel HK5.out HB5X.out)
  have HY := Lib.hid (box_bel HK8.out (HB9.out.trans HBX.out))
  have HS := Lib.hid (fun z (hz : Bel x z) => And.intro (cell5 (box_bel HA.out hz)) (And.intro (cell5 (box_bel HK.out hz)) (And.intro (cell5 (box_bel HY.out hz)) (cell5 (box_bel HKX.out hz)))))
  have HPX := Lib.hid (HP4.out.bel (HB5.out.trans HB5X.out))
  have HQX := Lib.hid (HQ4.out.bel (HB5.out.trans HB5X.out))
  have HYX := Lib.hid ((pls_ownP HO7.out).bel (HB8.out.trans (HB9.out.trans HBX.out)))
  have HZX := Lib.hid ((pls_ownR HO9.out).bel HBX.out)
  have HBW := Lib.hid (HB2.out.trans (HB4.out.trans (HB5.out.trans HB5X.out)))
  clear ho9 hb9 HU2
  go_wp2_with (fail)
  rw [← hx, ← hX9]
  clear hx hX9
  have hPP : (P.toList == P.toList) = true := beq_self_eq_true _
  have hEE : (E == E) = true := beq_self_eq_true _
  have hUU : (ue == ue) = true := beq_self_eq_true _
  refine wp_region_held_drew (S := fun z => (z.cell? ⟨X, 0, none⟩ = some (.slice p s.files.length c) ∧ z.cell? ⟨X, 1, none⟩ = some (.int .i64 s.next) ∧ z.cell? ⟨X, 2, none⟩ = some (.int .i64 s.seq) ∧ z.cell? ⟨X, 3, none⟩ = some (.int .i64 s.log) ∧ z.cell? ⟨X, 4, none⟩ = some (.string s.mt)) ∧ (z.cell? ⟨X4, 0, none⟩ = some (.slice p3 s.files.length c3) ∧ z.cell? ⟨X4, 1, none⟩ = some (.int .i64 s.next) ∧ z.cell? ⟨X4, 2, none⟩ = some (.int .i64 s.seq) ∧ z.cell? ⟨X4, 3, none⟩ = some (.int .i64 s.log) ∧ z.cell? ⟨X4, 4, none⟩ = some (.string s.mt)) ∧ (z.cell? ⟨X7, 0, none⟩ = some (.slice p7 u.files.length c7) ∧ z.cell? ⟨X7, 1, none⟩ = some (.int .i64 u.next) ∧ z.cell? ⟨X7, 2, none⟩ = some (.int .i64 u.seq) ∧ z.cell? ⟨X7, 3, none⟩ = some (.int .i64 u.log) ∧ z.cell? ⟨X7, 4, none⟩ = some (.string u.mt)) ∧ (z.cell? ⟨X9, 0, none⟩ = some (.slice p9 u.files.length c9) ∧ z.cell? ⟨X9, 1, none⟩ = some (.int .i64 u.next) ∧ z.cell? ⟨X9, 2, none⟩ = some (.int .i64 u.seq) ∧ z.cell? ⟨X9, 3, none⟩ = some (.int .i64 u.log) ∧ z.cell? ⟨X9, 4, none⟩ = some (.string u.mt))) (by kernel_rfl) (HS.out x (Bel.refl x)) (fun hHeld => ?_)
  refine tk (oi := { dst := some 54, op := Op.move (Operand.tmp 8), type := 9, pos := "law.go:81", after := #[], guard := none }) (v := ?_) 0 rfl ?_ ?_
  rotate_left
  · (intro w hSw; (try dsimp only at hSw); first | (go_simp; done) | (go_simp; with_reducible rfl))
  try simp only [Act.put, List.setIfInBounds_toArray, List.set_cons_zero, List.set_cons_succ]
  refine tk (oi := { dst := some 55, op := Op.move (Operand.tmp 10), type := 9, pos := "law.go:81", after := #[], guard := none }) (v := ?_) 1 rfl ?_ ?_
  rotate_left
  · (intro w hSw; (try dsimp only at hSw); first | (go_simp; done) | (go_simp; with_reducible rfl))
  try simp only [Act.put, List.setIfInBounds_toArray, List.set_cons_zero, List.set_cons_succ]
  refine tk (oi := { dst := some 56, op := Op.binOp BinOp.eql 9 (Operand.tmp 54) (Operand.tmp 55) 9, type := 4, pos := "law.go:81", after := #[{ on := 0, ground := Ground.data }, { on := 1, ground := Ground.data }], guard := none }) (v := ?_) 2 rfl ?_ ?_
  rotate_left
  · (intro w hSw; (try dsimp only at hSw); first | (go_simp; done) | (go_simp; with_reducible rfl))
  try simp only [Act.put, List.setIfInBounds_toArray, List.set_cons_zero, List.set_cons_succ]
  refine tk (oi := { dst := some 57, op := Op.move (Operand.tmp 56), type := 4, pos := "law.go:81", after := #[{ on := 2, ground := Ground.data }], guard := none }) (v := ?_) 3 rfl ?_ ?_
  rotate_left
  · (intro w hSw; (try dsimp only at hSw); first | (go_simp; done) | (go_simp; with_reducible rfl))
  try simp only [Act.put, List.setIfInBounds_toArray, List.set_cons_zero, List.set_cons_succ]
  refine tk (oi := { dst := some 58, op := Op.move (Operand.tmp 9), type := 31, pos := "law.go:81", after := #[{ on := 3, ground := Ground.guard }], guard := some (3, true) }) (v := ?_) 4 rfl ?_ ?_
  rotate_left
  · (intro w hSw; (try dsimp only at hSw); first | (go_simp; done) | (go_simp; with_reducible rfl))
  try simp only [Act.put, List.setIfInBounds_toArray, List.set_cons_zero, List.set_cons_succ]
  refine tk (oi := { dst := some 59, op := Op.move (Operand.tmp 11), type := 31, pos := "law.go:81", after := #[{ on := 3, ground := Ground.guard }], guard := some (3, true) }) (v := ?_) 5 rfl ?_ ?_
  rotate_left
  · (intro w hSw; (try dsimp only at hSw); first | (go_simp; done) | (go_simp; with_reducible rfl))
  try simp only [Act.put, List.setIfInBounds_toArray, List.set_cons_zero, List.set_cons_succ]
  refine tk (oi := { dst := some 60, op := Op.binOp BinOp.eql 31 (Operand.tmp 58) (Operand.tmp 59) 31, type := 4, pos := "law.go:81", after := #[{ on := 4, ground := Ground.data }, { on := 5, ground := Ground.data }, { on := 3, ground := Ground.guard }], guard := some (3, true) }) (v := ?_) 6 rfl ?_ ?_
  rotate_left
  · (intro w hSw; (try dsimp only at hSw); first | (go_simp; done) | (go_simp; with_reducible rfl))
  try simp only [Act.put, List.setIfInBounds_toArray, List.set_cons_zero, List.set_cons_succ]
  refine tk (oi := { dst := some 61, op := Op.pick (Operand.tmp 57) (Operand.tmp 60) (Operand.const (Value.bool false)), type := 4, pos := "law.go:81", after := #[{ on := 3, ground := Ground.data }, { on := 6, ground := Ground.data }], guard := none }) (v := ?_) 7 rfl ?_ ?_
  rotate_left
  · (intro w hSw; (try dsimp only at hSw); first | (go_simp; done) | (go_simp; with_reducible rfl))
  try simp only [Act.put, List.setIfInBounds_toArray, List.set_cons_zero, List.set_cons_succ]
  refine tk (oi := { dst := some 62, op := Op.move (Operand.tmp 61), type := 4, pos := "law.go:81", after := #[{ on := 7, ground := Ground.data }, { on := 3, ground := Ground.chain }], guard := none }) (v := ?_) 8 rfl ?_ ?_
  rotate_left
  · (intro w hSw; (try dsimp only at hSw); first | (go_simp; done) | (go_simp; with_reducible rfl))
  try simp only [Act.put, List.setIfInBounds_toArray, List.set_cons_zero, List.set_cons_succ]
  refine tk (oi := { dst := some 63, op := Op.load 24 (Operand.tmp 2), type := 24, pos := "law.go:81", after := #[{ on := 8, ground := Ground.guard }], guard := some (8, true) }) (v := ?_) 9 rfl ?_ ?_
  rotate_left
  · (intro w hSw; (try dsimp only at hSw); first | (go_simp; done) | (go_simp; with_reducible rfl))
  try simp only [Act.put, List.setIfInBounds_toArray, List.set_cons_zero, List.set_cons_succ]
  refine tk (oi := { dst := some 65, op := Op.load 28 (Operand.tmp 6), type := 28, pos := "law.go:81", after := #[{ on := 8, ground := Ground.guard }], guard := some (8, true) }) (v := ?_) 11 rfl ?_ ?_
  rotate_left
  · (intro w hSw; (try dsimp only at hSw); first | (go_simp; done) | (go_simp; with_reducible rfl))
  try simp only [Act.put, List.setIfInBounds_toArray, List.set_cons_zero, List.set_cons_succ]
  refine wpAnyH_ready (rs := [10]) (by kernel_rfl) (by simp) ?_
  refine AllReadyH.cons (o := { dst := some 64, op := Op.call { callee := Callee.value (Operand.func 15), args := #[Operand.tmp 63], argTypes := #[24] }, type := 4, pos := "law.go:81", after := #[{ on := 9, ground := Ground.data }, { on := 8, ground := Ground.chain }, { on := 8, ground := Ground.guard }], guard := some (8, true) }) rfl (fun K hK => ?_) AllReadyH.nil
  go_simp
  refine (right13_any p c s x.drew HPX.out hl5 hz5).mono ?_
  rintro e x1 ⟨rfl, hb1⟩
  have HX1 := Lib.hid (show Bel x x1 from (Bel.refl x).drew.trans hb1)
  clear hb1
  dsimp only
  refine hK.out _ _ (HS.out x1 HX1.out) (fun hHeld => ?_)
  clear hK K
  try simp only [Act.put, List.setIfInBounds_toArray, List.set_cons_zero, List.set_cons_succ]
  refine wpAnyH_ready (rs := [12]) (by kernel_rfl) (by simp) ?_
  refine AllReadyH.cons (o := { dst := some 66, op := Op.call { callee := Callee.value (Operand.func 16), args := #[Operand.tmp 65], argTypes := #[28] }, type := 4, pos := "law.go:81", after := #[{ on := 11, ground := Ground.data }, { on := 10, ground := Ground.chain }, { on := 8, ground := Ground.guard }], guard := some (8, true) }) rfl (fun K hK => ?_) AllReadyH.nil
  go_simp
  refine (rright13_any p3 c3 s x1 (HQX.out.bel HX1.out) hl5 hz5).mono ?_
  rintro e x2 ⟨rfl, hb2⟩
  have HX2 := Lib.hid (HX1.out.trans hb2)
  clear hb2
  dsimp only
  refine hK.out _ _ (HS.out x2 HX2.out) (fun hHeld => ?_)
  clear hK K
  try simp only [Act.put, List.setIfInBounds_toArray, List.set_cons_zero, List.set_cons_succ]
  refine tk (oi := { dst := some 67, op := Op.binOp BinOp.eql 4 (Operand.tmp 64) (Operand.tmp 66) 4, type := 4, pos := "law.go:81", after := #[{ on := 10, ground := Ground.data }, { on := 12, ground := Ground.data }, { on := 8, ground := Ground.guard }], guard := some (8, true) }) (v := ?_) 13 rfl ?_ ?_
  rotate_left
  · (intro w hSw; (try dsimp only at hSw); first | (go_simp; done) | (go_simp; with_reducible rfl))
  try simp only [Act.put, List.setIfInBounds_toArray, List.set_cons_zero, List.set_cons_succ]
  refine tk (oi := { dst := some 68, op := Op.pick (Operand.tmp 62) (Operand.tmp 67) (Operand.const (Value.bool false)), type := 4, pos := "law.go:81", after := #[{ on := 8, ground := Ground.data }, { on := 13, ground := Ground.data }], guard := none }) (v := ?_) 14 rfl ?_ ?_
  rotate_left
  · (intro w hSw; (try dsimp only at hSw); first | (go_simp; done) | (go_simp; with_reducible rfl))
  try simp only [Act.put, List.setIfInBounds_toArray, List.set_cons_zero, List.set_cons_succ]
  refine tk (oi := { dst := some 69, op := Op.move (Operand.tmp 68), type := 4, pos := "law.go:81", after := #[{ on := 14, ground := Ground.data }, { on := 12, ground := Ground.chain }], guard := none }) (v := ?_) 15 rfl ?_ ?_
  rotate_left
  · (intro w hSw; (try dsimp only at hSw); first | (go_simp; done) | (go_simp; with_reducible rfl))
  try simp only [Act.put, List.setIfInBounds_toArray, List.set_cons_zero, List.set_cons_succ]
  refine tk (oi := { dst := some 70, op := Op.load 24 (Operand.tmp 12), type := 24, pos := "law.go:81", after := #[{ on := 15, ground := Ground.guard }], guard := some (15, true) }) (v := ?_) 16 rfl ?_ ?_
  rotate_left
  · (intro w hSw; (try dsimp only at hSw); first | (go_simp; done) | (go_simp; with_reducible rfl))
  try simp only [Act.put, List.setIfInBounds_toArray, List.set_cons_zero, List.set_cons_succ]
  refine tk (oi := { dst := some 71, op := Op.load 28 (Operand.tmp 14), type := 28, pos := "law.go:81", after := #[{ on := 15, ground := Ground.guard }], guard := some (15, true) }) (v := ?_) 17 rfl ?_ ?_
  rotate_left
  · (intro w hSw; (try dsimp only at hSw); first | (go_simp; done) | (go_simp; with_reducible rfl))
  try simp only [Act.put, List.setIfInBounds_toArray, List.set_cons_zero, List.set_cons_succ]
  refine wpAnyH_ready (rs := [18]) (by kernel_rfl) (by simp) ?_
  refine AllReadyH.cons (o := { dst := some 72, op := Op.call { callee := Callee.value (Operand.func 17), args := #[Operand.tmp 70, Operand.tmp 71], argTypes := #[24, 28] }, type := 4, pos := "law.go:81", after := #[{ on := 16, ground := Ground.data }, { on := 17, ground := Ground.data }, { on := 15, ground := Ground.chain }, { on := 15, ground := Ground.guard }], guard := some (15, true) }) rfl (fun K hK => ?_) AllReadyH.nil
  go_simp
  refine (alike13_any p7 p9 c7 c9 u u x2 (HYX.out.bel HX2.out) (HZX.out.bel HX2.out) (by have := HUL.out.1; omega) (by have := HUL.out.1; omega)).mono ?_
  rintro e x3 ⟨rfl, hb3⟩
  rw [eqM_yes rfl]
  have HX3 := Lib.hid (HX2.out.trans hb3)
  clear hb3
  dsimp only
  refine hK.out _ _ (HS.out x3 HX3.out) (fun hHeld => ?_)
  clear hK K
  try simp only [Act.put, List.setIfInBounds_toArray, List.set_cons_zero, List.set_cons_succ]
  refine tk (oi := { dst := some 73, op := Op.pick (Operand.tmp 69) (Operand.tmp 72) (Operand.const (Value.bool false)), type := 4, pos := "law.go:81", after := #[{ on := 15, ground := Ground.data }, { on := 18, ground := Ground.data }], guard := none }) (v := ?_) 19 rfl ?_ ?_
  rotate_left
  · (intro w hSw; (try dsimp only at hSw); first | (go_simp; done) | (go_simp; with_reducible rfl))
  try simp only [Act.put, List.setIfInBounds_toArray, List.set_cons_zero, List.set_cons_succ]
  refine tk (oi := { dst := some 74, op := Op.move (Operand.tmp 73), type := 4, pos := "law.go:81", after := #[{ on := 19, ground := Ground.data }, { on := 18, ground := Ground.chain }], guard := none }) (v := ?_) 20 rfl ?_ ?_
  rotate_left
  · (intro w hSw; (try dsimp only at hSw); first | (go_simp; done) | (go_simp; with_reducible rfl))
  try simp only [Act.put, List.setIfInBounds_toArray, List.set_cons_zero, List.set_cons_succ]
  refine tk (oi := { dst := some 75, op := Op.move (Operand.tmp 13), type := 31, pos := "law.go:81", after := #[{ on := 20, ground := Ground.guard }], guard := some (20, true) }) (v := ?_) 21 rfl ?_ ?_
  rotate_left
  · (intro w hSw; (try dsimp only at hSw); first | (go_simp; done) | (go_simp; with_reducible rfl))
  try simp only [Act.put, List.setIfInBounds_toArray, List.set_cons_zero, List.set_cons_succ]
  refine tk (oi := { dst := some 76, op := Op.move (Operand.tmp 15), type := 31, pos := "law.go:81", after := #[{ on := 20, ground := Ground.guard }], guard := some (20, true) }) (v := ?_) 22 rfl ?_ ?_
  rotate_left
  · (intro w hSw; (try dsimp only at hSw); first | (go_simp; done) | (go_simp; with_reducible rfl))
  try simp only [Act.put, List.setIfInBounds_toArray, List.set_cons_zero, List.set_cons_succ]
  refine tk (oi := { dst := some 77, op := Op.binOp BinOp.eql 31 (Operand.tmp 75) (Operand.tmp 76) 31, type := 4, pos := "law.go:81", after := #[{ on := 21, ground := Ground.data }, { on := 22, ground := Ground.data }, { on := 20, ground := Ground.guard }], guard := some (20, true) }) (v := ?_) 23 rfl ?_ ?_
  rotate_left
  · (intro w hSw; (try dsimp only at hSw); first | (go_simp; done) | (go_simp; with_reducible rfl))
  try simp only [Act.put, List.setIfInBounds_toArray, List.set_cons_zero, List.set_cons_succ]
  refine tk (oi := { dst := some 78, op := Op.pick (Operand.tmp 74) (Operand.tmp 77) (Operand.const (Value.bool false)), type := 4, pos := "law.go:81", after := #[{ on := 20, ground := Ground.data }, { on := 23, ground := Ground.data }], guard := none }) (v := ?_) 24 rfl ?_ ?_
  rotate_left
  · (intro w hSw; (try dsimp only at hSw); first | (go_simp; done) | (go_simp; with_reducible rfl))
  try simp only [Act.put, List.setIfInBounds_toArray, List.set_cons_zero, List.set_cons_succ]
  refine tk (oi := { dst := some 4, op := Op.assign (Operand.tmp 78), type := 4, pos := "law.go:81", after := #[{ on := 24, ground := Ground.data }, { on := 20, ground := Ground.chain }, { on := 0, ground := Ground.phase }, { on := 1, ground := Ground.phase }, { on := 2, ground := Ground.phase }, { on := 3, ground := Ground.phase }, { on := 4, ground := Ground.phase }, { on := 5, ground := Ground.phase }, { on := 6, ground := Ground.phase }, { on := 7, ground := Ground.phase }, { on := 8, ground := Ground.phase }, { on := 9, ground := Ground.phase }, { on := 10, ground := Ground.phase }, { on := 11, ground := Ground.phase }, { on := 12, ground := Ground.phase }, { on := 13, ground := Ground.phase }, { on := 14, ground := Ground.phase }, { on := 15, ground := Ground.phase }, { on := 16, ground := Ground.phase }, { on := 17, ground := Ground.phase }, { on := 18, ground := Ground.phase }, { on := 19, ground := Ground.phase }, { on := 20, ground := Ground.phase }, { on := 21, ground := Ground.phase }, { on := 22, ground := Ground.phase }, { on := 23, ground := Ground.phase }, { on := 24, ground := Ground.phase }], guard := none }) (v := ?_) 25 rfl ?_ ?_
  rotate_left
  · (intro w hSw; (try dsimp only at hSw); first | (go_simp; done) | (go_simp; with_reducible rfl))
  try simp only [Act.put, List.setIfInBounds_toArray, List.set_cons_zero, List.set_cons_succ]
  refine wpAnyH_done (by kernel_rfl) ?_ _
  clear hHeld
  go_wp2_with (fail)
  go_ret
  exact ⟨rfl, HBW.out.trans HX3.out⟩
set_option maxHeartbeats 16000000 in
theorem law_back13_any (w : World) (p : Option Addr) (c : Nat) (s : MS) (t : ByteArray) (hstd : Std w) (hp : PlsAt w p s.files) (hl : s.files.length ≤ 9223372036854775807) (hz : s.mt.size ≤ 9223372036854775807) :
    Calls Tryz.prog 4 #[.agg #[.slice p s.files.length c, .int .i64 s.next, .int .i64 s.seq, .int .i64 s.log, .string s.mt], .string t] w fun e w' => e = .returned (.bool true) ∧ Bel w w' := by
  obtain ⟨X, hX⟩ : ∃ X, X = w.heap.size := ⟨_, rfl⟩
  obtain ⟨w1, hw1⟩ : ∃ z, z = w.alloc (.cells #[.slice p s.files.length c, .int .i64 s.next, .int .i64 s.seq, .int .i64 s.log, .string s.mt] 24) := ⟨_, rfl⟩
  have hb1 : Bel w w1 := by rw [hw1]; exact (Bel.refl w).alloc _
  have HKA := Lib.hid (show w1.heap[X]? = some (.cells #[.slice p s.files.length c, .int .i64 s.next, .int .i64 s.seq, .int .i64 s.log, .string s.mt] 24 (0, 0)) by rw [hw1, hX]; exact heap_alloc_new w _)
  have HB1 := Lib.hid hb1
  have HP := Lib.hid (hp.bel hb1)
  have HSH := Lib.hid (shown13_any w1 (hstd.bel hb1))
  clear hp hb1 hstd
  go_enter Tryz.func4, Tryz.ntmps4
  go_wp2_with (fail)
  rw [← hw1, ← hX]
  clear hw1 hX
  refine HSH.out.mono ?_
  rintro e w2 ⟨rfl, hb2⟩
  have HB2 := Lib.hid (HB1.out.trans hb2)
  have HP2 := Lib.hid (HP.out.bel hb2)
  have HA2 := Lib.hid (box_bel HKA.out hb2)
  obtain ⟨a0, a1, a2, a3, a4⟩ := cell5 HA2.out
  clear hb2 HSH
  go_wp2_with (fail)
  refine (as13_any p c s w2 HP2.out hl hz).mono ?_
  rintro e w3 ⟨p3, c3, rfl, ho3, hb3⟩
  have HO3 := Lib.hid ho3
  have HB3 := Lib.hid hb3
  clear ho3 hb3 a0 a1 a2 a3 a4
  cases has : asB s with
  | false =>
    go_wp2_with (fail)
    go_ret
    exact ⟨rfl, HB2.out.trans (HB3.out.alloc _)⟩
  | true =>
  have HAE := Lib.hid (as_yes has)
  have HAP := Lib.hid (asB_parts has)
  rw [HAE.out] at HO3
  rw [HAE.out]
  clear has
  by_cases h3 : 3000 < t.size
  · have h3i : (3000 : Int) < (t.size : Int) := by omega
    go_wp2_with (fail)
    go_ret
    exact ⟨rfl, HB2.out.trans (HB3.out.alloc _)⟩
  have h3i : ¬ (3000 : Int) < (t.size : Int) := by omega
  obtain ⟨X4, hX4⟩ : ∃ X4, X4 = w3.heap.size := ⟨_, rfl⟩
  obtain ⟨w4, hw4⟩ : ∃ w4, w4 = w3.alloc (.cells #[.slice p3 s.files.length c3, .int .i64 s.next, .int .i64 s.seq, .int .i64 s.log, .string s.mt] 28) := ⟨_, rfl⟩
  have hb4 : Bel w2 w4 := by rw [hw4]; exact HB3.out.alloc _
  have HB4 := Lib.hid hb4
  have HK4 := Lib.hid (show w4.heap[X4]? = some (.cells #[.slice p3 s.files.length c3, .int .i64 s.next, .int .i64 s.seq, .int .i64 s.log, .string s.mt] 28 (0, 0)) by rw [hw4, hX4]; exact heap_alloc_new w3 _)
  have HP4 := Lib.hid (HP2.out.bel hb4)
  have HQ4 := Lib.hid (show PlsAt w4 p3 s.files by rw [hw4]; exact (pls_ownR HO3.out).bel ((Bel.refl w3).alloc _))
  obtain ⟨a0, a1, a2, a3, a4⟩ := cell5 (box_bel HA2.out hb4)
  obtain ⟨P, E, hPV, hPE⟩ := packV_parts s
  have HPV := Lib.hid hPV
  have HPE := Lib.hid hPE
  have hl5 : s.files.length ≤ 100000 := by have := HAP.out.1; omega
  have hz5 : s.mt.size ≤ 100000000 := by have := HAP.out.2; omega
  rw [hw4] at a0 a1 a2 a3 a4
  go_wp2_with (fail)
  rw [← hw4, ← hX4]
  clear hw4 hX4 hPV hPE hb4
  refine (pack13_any p c s w4 HP4.out hl5 hz5).mono ?_
  rintro e w5 ⟨rfl, hb5⟩
  rw [HPV.out]
  have HB5 := Lib.hid hb5
  have HA5 := Lib.hid (box_bel (box_bel HA2.out HB4.out) hb5)
  have HK5 := Lib.hid (box_bel HK4.out hb5)
  clear hb5 a0 a1 a2 a3 a4
  rcases HPE.out with ⟨rfl, hr, rfl⟩ | ⟨rfl, hr, rfl⟩
  rotate_left
  · have HBW5 := Lib.hid (HB2.out.trans (HB4.out.trans HB5.out))
    clear hr HPE
    have HU := Lib.hid (unp_cases t.data.toList)
    have HUL := Lib.hid (unp_len t.data.toList)
    obtain ⟨u, hu⟩ : ∃ u, u = unpSt t.data.toList := ⟨_, rfl⟩
    obtain ⟨ue, hue⟩ : ∃ ue, ue = unpEr t.data.toList := ⟨_, rfl⟩
    have HU1 := Lib.hid (unpack13_any t w5 (by omega))
    rw [← hu, ← hue] at HU1 HU
    rw [← hu] at HUL
    clear hu hue
    go_wp2_with (fail)
    refine HU1.out.mono ?_
    rintro e w7 ⟨p7, c7, rfl, ho7, hb7⟩
    have HO7 := Lib.hid ho7
    have HB7 := Lib.hid hb7
    obtain ⟨X7, hX7⟩ : ∃ X7, X7 = w7.heap.size := ⟨_, rfl⟩
    obtain ⟨w8, hw8⟩ : ∃ w8, w8 = w7.alloc (.cells #[.slice p7 u.files.length c7, .int .i64 u.next, .int .i64 u.seq, .int .i64 u.log, .string u.mt] 24) := ⟨_, rfl⟩
    have HK8 := Lib.hid (show w8.heap[X7]? = some (.cells #[.slice p7 u.files.length c7, .int .i64 u.next, .int .i64 u.seq, .int .i64 u.log, .string u.mt] 24 (0, 0)) by rw [hw8, hX7]; exact heap_alloc_new w7 _)
    have HB8 := Lib.hid (show Bel w7 w8 by rw [hw8]; exact (Bel.refl w7).alloc _)
    have HY8 := Lib.hid ((pls_ownP HO7.out).bel HB8.out)
    obtain ⟨V, VE, hVV⟩ : ∃ V VE, packV u = .tuple #[.string V, .int .i64 VE] := by obtain ⟨P, E, h, _⟩ := packV_parts u; exact ⟨P, E, h⟩
    have HVV := Lib.hid hVV
    obtain ⟨z0, z1, z2, z3, z4⟩ := cell5 HK8.out
    rw [hw8] at z0 z1 z2 z3 z4
    clear ho7 hb7 HU1 hVV
    go_wp2_with (fail)
    rw [← hw8, ← hX7]
    clear hw8 hX7
    refine (pack13_any p7 c7 u w8 HY8.out (by have := HUL.out.1; omega) (by have := HUL.out.2; omega)).mono ?_
    rintro e w9 ⟨rfl, hb9⟩
    rw [HVV.out]
    have HB9 := Lib.hid hb9
    have HZ9 := Lib.hid (cell5 (box_bel HK8.out hb9))
    obtain ⟨y0, y1, y2, y3, y4⟩ := HZ9.out
    have HY9 := Lib.hid (HY8.out.bel hb9)
    clear hb9 z0 z1 z2 z3 z4
    rcases HU.out with ⟨h1, h2, h3, h4⟩ | ⟨h1, h2, h3⟩
    · subst h1
      have e1 := HVV.out
      rw [pack_yes h3] at e1
      simp only [Value.tuple.injEq, Array.mk.injEq, List.cons.injEq, Value.string.injEq, Value.int.injEq, and_true, true_and] at e1
      obtain ⟨rfl, rfl⟩ := e1
      have hVt : (⟨(encM u).toArray⟩ : ByteArray) = t := by rw [h4, ba_list]
      rw [hVt] at HVV ⊢
      clear h2 h3 h4 HU hVt
      go_wp2_with (fail)
      go_ret
      exact ⟨rfl,  HBW5.out.trans (HB7.out.trans (HB8.out.trans HB9.out))⟩
    · subst h1
      subst h3
      clear h2 HU
      go_wp2_with (fail)
      refine (same13_any p7 none c7 0 zeroM zeroM w9 (PlsAt.nil _ _) (PlsAt.nil _ _) (by decide) (by decide) (by decide)).mono ?_
      rintro e wA ⟨rfl, hbA⟩
      rw [show (asB zeroM && eqM zeroM zeroM) = true by rw [eqM_yes rfl]; decide]
      have HBA := Lib.hid hbA
      clear hbA
      go_wp2_with (fail)
      go_ret
      exact ⟨rfl,  HBW5.out.trans (HB7.out.trans (HB8.out.trans (HB9.out.trans HBA.out)))⟩
  · have HSU := Lib.hid (unp_some (unpack_enc hr))
    have hsz : (⟨(encM s).toArray⟩ : ByteArray).size ≤ 1000000 := by rw [str_len]; have := encM_len hr; omega
    have HUN := Lib.hid (show Calls Tryz.prog 13 #[.string ⟨(encM s).toArray⟩] w5 fun e y => ∃ p c, e = .returned (.tuple #[.agg #[.slice p s.files.length c, .int .i64 s.next, .int .i64 s.seq, .int .i64 s.log, .string s.mt], .int .i64 0]) ∧ OwnG plElP w5.heap.size y (.slice p s.files.length c) s.files ∧ Bel w5 y from by
      have := unpack13_any ⟨(encM s).toArray⟩ w5 hsz
      rw [str_list, HSU.out.1, HSU.out.2] at this
      exact this)
    clear hr HPE hsz
    go_wp2_with (fail)
    refine HUN.out.mono ?_
    rintro e v1 ⟨pv, cv, rfl, hov, hbv⟩
    have HOV := Lib.hid hov
    have HBV := Lib.hid hbv
    obtain ⟨XV, hXV⟩ : ∃ XV, XV = v1.heap.size := ⟨_, rfl⟩
    obtain ⟨v2, hv2⟩ : ∃ v2, v2 = v1.alloc (.cells #[.slice pv s.files.length cv, .int .i64 s.next, .int .i64 s.seq, .int .i64 s.log, .string s.mt] 24) := ⟨_, rfl⟩
    have HBV2 := Lib.hid (show Bel v1 v2 by rw [hv2]; exact (Bel.refl v1).alloc _)
    obtain ⟨z0, z1, z2, z3, z4⟩ := cell5 (show v2.heap[XV]? = some (.cells #[.slice pv s.files.length cv, .int .i64 s.next, .int .i64 s.seq, .int .i64 s.log, .string s.mt] 24 (0, 0)) by rw [hv2, hXV]; exact heap_alloc_new v1 _)
    obtain ⟨a0, a1, a2, a3, a4⟩ := cell5 (box_bel HA5.out (HBV.out.trans HBV2.out))
    rw [hv2] at a0 a1 a2 a3 a4 z0 z1 z2 z3 z4
    rw [hXV] at z0 z1 z2 z3 z4
    clear hov hbv HUN
    go_wp2_with (fail)
    rw [← hv2]
    clear hv2
    refine (same13_any pv p cv c s s v2 ((pls_ownP HOV.out).bel HBV2.out) (HP4.out.bel (HB5.out.trans (HBV.out.trans HBV2.out))) (by omega) hl hz).mono ?_
    rintro e v3 ⟨rfl, hb3⟩
    rw [show (asB s && eqM s s) = true by rw [eqM_yes rfl, Bool.and_true]; unfold asB; simp; exact HAP.out]
    have HBV3 := Lib.hid (HBV.out.trans (HBV2.out.trans hb3))
    have HBW5 := Lib.hid (HB2.out.trans (HB4.out.trans (HB5.out.trans HBV3.out)))
    clear hb3 a0 a1 a2 a3 a4 z0 z1 z2 z3 z4
    have HU := Lib.hid (unp_cases t.data.toList)
    have HUL := Lib.hid (unp_len t.data.toList)
    obtain ⟨u, hu⟩ : ∃ u, u = unpSt t.data.toList := ⟨_, rfl⟩
    obtain ⟨ue, hue⟩ : ∃ ue, ue = unpEr t.data.toList := ⟨_, rfl⟩
    have HU1 := Lib.hid (unpack13_any t v3 (by omega))
    rw [← hu, ← hue] at HU1 HU
    rw [← hu] at HUL
    clear hu hue
    go_wp2_with (fail)
    refine HU1.out.mono ?_
    rintro e w7 ⟨p7, c7, rfl, ho7, hb7⟩
    have HO7 := Lib.hid ho7
    have HB7 := Lib.hid hb7
    obtain ⟨X7, hX7⟩ : ∃ X7, X7 = w7.heap.size := ⟨_, rfl⟩
    obtain ⟨w8, hw8⟩ : ∃ w8, w8 = w7.alloc (.cells #[.slice p7 u.files.length c7, .int .i64 u.next, .int .i64 u.seq, .int .i64 u.log, .string u.mt] 24) := ⟨_, rfl⟩
    have HK8 := Lib.hid (show w8.heap[X7]? = some (.cells #[.slice p7 u.files.length c7, .int .i64 u.next, .int .i64 u.seq, .int .i64 u.log, .string u.mt] 24 (0, 0)) by rw [hw8, hX7]; exact heap_alloc_new w7 _)
    have HB8 := Lib.hid (show Bel w7 w8 by rw [hw8]; exact (Bel.refl w7).alloc _)
    have HY8 := Lib.hid ((pls_ownP HO7.out).bel HB8.out)
    obtain ⟨V, VE, hVV⟩ : ∃ V VE, packV u = .tuple #[.string V, .int .i64 VE] := by obtain ⟨P, E, h, _⟩ := packV_parts u; exact ⟨P, E, h⟩
    have HVV := Lib.hid hVV
    obtain ⟨z0, z1, z2, z3, z4⟩ := cell5 HK8.out
    rw [hw8] at z0 z1 z2 z3 z4
    clear ho7 hb7 HU1 hVV
    go_wp2_with (fail)
    rw [← hw8, ← hX7]
    clear hw8 hX7
    refine (pack13_any p7 c7 u w8 HY8.out (by have := HUL.out.1; omega) (by have := HUL.out.2; omega)).mono ?_
    rintro e w9 ⟨rfl, hb9⟩
    rw [HVV.out]
    have HB9 := Lib.hid hb9
    have HZ9 := Lib.hid (cell5 (box_bel HK8.out hb9))
    obtain ⟨y0, y1, y2, y3, y4⟩ := HZ9.out
    have HY9 := Lib.hid (HY8.out.bel hb9)
    clear hb9 z0 z1 z2 z3 z4
    rcases HU.out with ⟨h1, h2, h3, h4⟩ | ⟨h1, h2, h3⟩
    · subst h1
      have e1 := HVV.out
      rw [pack_yes h3] at e1
      simp only [Value.tuple.injEq, Array.mk.injEq, List.cons.injEq, Value.string.injEq, Value.int.injEq, and_true, true_and] at e1
      obtain ⟨rfl, rfl⟩ := e1
      have hVt : (⟨(encM u).toArray⟩ : ByteArray) = t := by rw [h4, ba_list]
      rw [hVt] at HVV ⊢
      clear h2 h3 h4 HU hVt
      go_wp2_with (fail)
      go_ret
      exact ⟨rfl,  HBW5.out.trans (HB7.out.trans (HB8.out.trans HB9.out))⟩
    · subst h1
      subst h3
      clear h2 HU
      go_wp2_with (fail)
      refine (same13_any p7 none c7 0 zeroM zeroM w9 (PlsAt.nil _ _) (PlsAt.nil _ _) (by decide) (by decide) (by decide)).mono ?_
      rintro e wA ⟨rfl, hbA⟩
      rw [show (asB zeroM && eqM zeroM zeroM) = true by rw [eqM_yes rfl]; decide]
      have HBA := Lib.hid hbA
      clear hbA
      go_wp2_with (fail)
      go_ret
      exact ⟨rfl,  HBW5.out.trans (HB7.out.trans (HB8.out.trans (HB9.out.trans HBA.out)))⟩
end Go.Proofs.YtfbiinnenlgkfaaGreatDoor
