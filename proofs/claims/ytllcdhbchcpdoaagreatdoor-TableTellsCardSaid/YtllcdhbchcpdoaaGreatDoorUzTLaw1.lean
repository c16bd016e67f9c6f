/- TableTells. -/
import Derived.Test.YtllcdhbchcpdoaaGreatDoorU26
import Derived.Test.YtllcdhbchcpdoaaGreatDoorU11
import Derived.Test.YtllcdhbchcpdoaaGreatDoorU2
set_option linter.unusedSimpArgs false
set_option linter.unusedVariables false
namespace Go.Proofs.YtllcdhbchcpdoaaGreatDoor
open Go.RowKit Go.Deep

theorem cite_tuple (s : List UInt8) : ∃ x y : Int, ∃ z : Bool, citeV s = .tuple #[.int .i64 x, .int .i64 y, .bool z] := by
  cases h : citeL s with
  | none => exact ⟨0, 0, false, citeV_none h⟩
  | some p => obtain ⟨a, b⟩ := p; exact ⟨_, _, _, citeV_some h⟩
theorem outer_both {s : List UInt8} {e e' : Ending} (h : OuterPost s e) (h' : OuterPost s e') : ∃ (k : ByteArray) (n : Int) (z : Bool), e = .returned (.tuple #[.string k, .int .i64 n, .bool z]) ∧ e' = .returned (.tuple #[.string k, .int .i64 n, .bool z]) := by
  rcases h with ⟨k, q, hk, rfl⟩ | ⟨hn, rfl⟩
  · rcases h' with ⟨k', q', hk', rfl⟩ | ⟨hn', rfl⟩
    · obtain ⟨rfl, rfl⟩ := outer_one hk hk'
      exact ⟨_, _, _, rfl, rfl⟩
    · exact absurd ⟨k, q, hk⟩ hn'
  · rcases h' with ⟨k', q', hk', rfl⟩ | ⟨hn', rfl⟩
    · exact absurd ⟨k', q', hk'⟩ hn
    · exact ⟨_, _, _, rfl, rfl⟩
theorem cells8 {w x : World} {X Y : Nat} {e f : EB} (hb : Bel w x) (h : w.cell? ⟨X, 0, none⟩ = some (.string e.k) ∧ w.cell? ⟨X, 1, none⟩ = some (.int .i64 e.q) ∧ w.cell? ⟨X, 2, none⟩ = some (.bool e.d) ∧ w.cell? ⟨X, 3, none⟩ = some (.string e.v) ∧ w.cell? ⟨Y, 0, none⟩ = some (.string f.k) ∧ w.cell? ⟨Y, 1, none⟩ = some (.int .i64 f.q) ∧ w.cell? ⟨Y, 2, none⟩ = some (.bool f.d) ∧ w.cell? ⟨Y, 3, none⟩ = some (.string f.v)) :
    x.cell? ⟨X, 0, none⟩ = some (.string e.k) ∧ x.cell? ⟨X, 1, none⟩ = some (.int .i64 e.q) ∧ x.cell? ⟨X, 2, none⟩ = some (.bool e.d) ∧ x.cell? ⟨X, 3, none⟩ = some (.string e.v) ∧ x.cell? ⟨Y, 0, none⟩ = some (.string f.k) ∧ x.cell? ⟨Y, 1, none⟩ = some (.int .i64 f.q) ∧ x.cell? ⟨Y, 2, none⟩ = some (.bool f.d) ∧ x.cell? ⟨Y, 3, none⟩ = some (.string f.v) := by
  obtain ⟨h0, h1, h2, h3, h4, h5, h6, h7⟩ := h
  exact ⟨cl10 hb h0, cl10 hb h1, cl10 hb h2, cl10 hb h3, cl10 hb h4, cl10 hb h5, cl10 hb h6, cl10 hb h7⟩
set_option maxHeartbeats 16000000 in
set_option maxRecDepth 20000 in
theorem law_tells_any (W : World) (hstd : MaxOk W) (e0 e1 : EB) (s2 : ByteArray) (hs0 : e0.fits) (hs1 : e1.fits) (ws2 : s2.size ≤ maxLen) :
    Calls Tryz.prog 3 #[.agg #[.string e0.k, .int .i64 e0.q, .bool e0.d, .string e0.v], .agg #[.string e1.k, .int .i64 e1.q, .bool e1.d, .string e1.v], .string s2] W fun e w' => e = .returned (.bool true) ∧ Bel W w' := by
  unfold maxLen at ws2
  obtain ⟨w1, hw1⟩ : ∃ w1, w1 = W.alloc (.cells #[.string e0.k, .int .i64 e0.q, .bool e0.d, .string e0.v] 23) := ⟨_, rfl⟩
  obtain ⟨w2, hw2⟩ : ∃ w2, w2 = w1.alloc (.cells #[.string e1.k, .int .i64 e1.q, .bool e1.d, .string e1.v] 23) := ⟨_, rfl⟩
  obtain ⟨X, hX⟩ : ∃ X, X = W.heap.size := ⟨_, rfl⟩
  obtain ⟨Y, hY⟩ : ∃ Y, Y = w1.heap.size := ⟨_, rfl⟩
  have hz1 : Y = W.heap.size + 1 := by rw [hY, hw1]; simp
  have b1 : Bel W w1 := by rw [hw1]; exact (Bel.refl W).alloc _
  have b2 : Bel w1 w2 := by rw [hw2]; exact (Bel.refl w1).alloc _
  have hbk1 : w1.heap[X]? = some (.cells #[.string e0.k, .int .i64 e0.q, .bool e0.d, .string e0.v] 23 (0, 0)) := by rw [hw1, hX]; exact heap_alloc_new W _
  have hbk2 : w2.heap[Y]? = some (.cells #[.string e1.k, .int .i64 e1.q, .bool e1.d, .string e1.v] 23 (0, 0)) := by rw [hw2, hY]; exact heap_alloc_new w1 _
  have HC2 := Lib.hid (show w2.cell? ⟨X, 0, none⟩ = some (.string e0.k) ∧ w2.cell? ⟨X, 1, none⟩ = some (.int .i64 e0.q) ∧ w2.cell? ⟨X, 2, none⟩ = some (.bool e0.d) ∧ w2.cell? ⟨X, 3, none⟩ = some (.string e0.v) ∧ w2.cell? ⟨Y, 0, none⟩ = some (.string e1.k) ∧ w2.cell? ⟨Y, 1, none⟩ = some (.int .i64 e1.q) ∧ w2.cell? ⟨Y, 2, none⟩ = some (.bool e1.d) ∧ w2.cell? ⟨Y, 3, none⟩ = some (.string e1.v) from
    ⟨cl10 b2 (by simp [World.cell?, hbk1]), cl10 b2 (by simp [World.cell?, hbk1]), cl10 b2 (by simp [World.cell?, hbk1]), cl10 b2 (by simp [World.cell?, hbk1]), by simp [World.cell?, hbk2], by simp [World.cell?, hbk2], by simp [World.cell?, hbk2], by simp [World.cell?, hbk2]⟩)
  have HB2 := Lib.hid (b1.trans b2)
  have HM2 := Lib.hid (hstd.bel HB2.out)
  have HMW := Lib.hid hstd
  have HF0 := Lib.hid hs0; have HF1 := Lib.hid hs1
  have HFL := Lib.hid (show fitsL [e0, e1] from fun e he => by
    rcases List.mem_cons.1 he with rfl | he
    · exact hs0
    · rcases List.mem_cons.1 he with rfl | he
      · exact hs1
      · cases he)
  have HQ := Lib.hid (show -9223372036854775808 ≤ e0.q ∧ e0.q ≤ 9223372036854775807 by obtain ⟨f1, f2, f3, f4⟩ := hs0; constructor <;> omega)
  have K1 := Lib.hid hw1; have K2 := Lib.hid hw2; have K3 := Lib.hid hz1; have K4 := Lib.hid hX; have K5 := Lib.hid hY
  clear b1 b2 hbk1 hbk2 hstd hs0 hs1 hw1 hw2 hz1 hX hY
  go_enter Tryz.func3, Tryz.ntmps3
  go_wp2_with (fail)
  rw [← K1.out]
  try rw [← K5.out]
  try rw [← K3.out]
  rw [← K2.out, ← K4.out]
  clear K1 K2 K3 K4 K5
  refine (shown10_any w2 HM2.out).mono ?_
  rintro e w3 ⟨rfl, hb⟩
  have HB3 := Lib.hid (HB2.out.trans hb)
  have HC3 := Lib.hid (cells8 hb HC2.out)
  clear hb
  have HE := Lib.hid (ents_lit (L := [e0, e1]) (heap_alloc_new w3 (.cells #[.string e0.k, .int .i64 e0.q, .bool e0.d, .string e0.v, .string e1.k, .int .i64 e1.q, .bool e1.d, .string e1.v] 23)) rfl)
  obtain ⟨x0, x1, x2, x3, y0, y1, y2, y3⟩ := HC3.out
  go_wp2_with (fail)
  clear x0 x1 x2 x3 y0 y1 y2 y3
  refine (small10_any (some ⟨w3.heap.size, 0, none⟩) 2 [e0, e1] _ HE.out (by simp) HFL.out).mono ?_
  rintro e w4 ⟨hd, hres⟩
  have hb34 : Bel w3 w4 := ((Bel.refl w3).alloc _).trans hd.bel
  have HB4 := Lib.hid (HB3.out.trans hb34)
  have HC4 := Lib.hid (cells8 hb34 HC3.out)
  clear hd hb34
  rcases hres with ⟨hsm, rfl⟩ | rfl
  · by_cases hz : s2.size ≤ 2000
    · have hz' : ¬ (2000 : Int) < s2.size := by omega
      have hk0 : e0.k.size ≤ 1500 := (hsm.2 0 (by simp)).1
      have hv0 : e0.v.size ≤ 2000 := (hsm.2 0 (by simp)).2
      clear hsm
      obtain ⟨cx, cy, cz, hcv⟩ := cite_tuple s2.data.toList
      go_wp2_with (fail)
      refine (pcite_any s2 w4 (by omega)).mono ?_
      rw [hcv]
      rintro e w5 ⟨rfl, hb⟩
      have HB5 := Lib.hid (HB4.out.trans hb)
      have HC5 := Lib.hid (cells8 hb HC4.out)
      clear hb
      go_wp2_with (fail)
      refine (rcite_any s2 w5 (by omega)).mono ?_
      rw [hcv]
      rintro e w6 ⟨rfl, hb⟩
      have HB6 := Lib.hid (HB5.out.trans hb)
      have HC6 := Lib.hid (cells8 hb HC5.out)
      clear hb hcv
      go_wp2_with (fail)
      have HM6 := Lib.hid (HMW.out.bel HB6.out)
      refine (pouter_any s2 w6 (by omega) HM6.out).mono ?_
      rintro e w7 ⟨ho, hb⟩
      have HB7 := Lib.hid (HB6.out.trans hb)
      have HC7 := Lib.hid (cells8 hb HC6.out)
      have hoe : ∃ v, e = .returned v := by rcases ho with ⟨k, q, _, rfl⟩ | ⟨_, rfl⟩ <;> exact ⟨_, rfl⟩
      obtain ⟨ov, rfl⟩ := hoe
      obtain ⟨ok, on, oz, hov, -⟩ := outer_both ho ho
      obtain rfl : ov = .tuple #[.string ok, .int .i64 on, .bool oz] := by injection hov
      have HO := Lib.hid ho
      clear hb ho hov
      go_wp2_with (fail)
      refine (router_any s2 w7 (by omega)).mono ?_
      rintro e w8 ⟨ho, hb⟩
      have HB8 := Lib.hid (HB7.out.trans hb)
      have HC8 := Lib.hid (cells8 hb HC7.out)
      obtain rfl : e = .returned (.tuple #[.string ok, .int .i64 on, .bool oz]) := by
        obtain ⟨k, n, z, h1, h2⟩ := outer_both HO.out ho
        rw [h2, ← h1]
      clear hb ho
      obtain ⟨x0, x1, x2, x3, y0, y1, y2, y3⟩ := HC8.out
      go_wp2_with (fail)
      clear x0 x1 x2 x3 y0 y1 y2 y3
      refine (pickM_at e0.q 1099511627777 1099511627777 w8 HQ.out (by decide) (by decide) (by decide)).mono ?_
      obtain ⟨n, hn⟩ : ∃ n, pickM e0.q 1099511627777 = n := ⟨_, rfl⟩
      have hnl : n ≤ 1099511627776 := by rw [← hn]; exact Nat.le_of_lt_succ (pickM_lt e0.q (by decide))
      rw [hn]
      rintro e w9 ⟨rfl, hd⟩
      have HB9 := Lib.hid (HB8.out.trans hd.bel)
      have HC9 := Lib.hid (cells8 hd.bel HC8.out)
      clear hd hn
      obtain ⟨rb, hrb⟩ : ∃ rb, rb = rightB e0 := ⟨_, rfl⟩
      obtain ⟨lb, hlb⟩ : ∃ lb, lb = lessB e0 e1 := ⟨_, rfl⟩
      obtain ⟨T, hT⟩ : ∃ T : ByteArray, T = ⟨(innerL e0.k.data.toList n).toArray⟩ := ⟨_, rfl⟩
      have HP30 := Lib.hid (show ∀ w, Calls Tryz.prog 16 #[.agg #[.string e0.k, .int .i64 e0.q, .bool e0.d, .string e0.v]] w fun r w' => r = .returned (.bool rb) ∧ Bel w w' from fun w => by rw [hrb]; exact pright_any e0 w HF0.out (by omega))
      have HP32 := Lib.hid (show ∀ w, Calls Tryz.prog 17 #[.agg #[.string e0.k, .int .i64 e0.q, .bool e0.d, .string e0.v]] w fun r w' => r = .returned (.bool rb) ∧ Bel w w' from fun w => by rw [hrb]; exact rright_any e0 w HF0.out)
      have HP38 := Lib.hid (show ∀ w, Calls Tryz.prog 18 #[.agg #[.string e0.k, .int .i64 e0.q, .bool e0.d, .string e0.v], .agg #[.string e1.k, .int .i64 e1.q, .bool e1.d, .string e1.v]] w fun r w' => r = .returned (.bool lb) ∧ Bel w w' from fun w => by rw [hlb]; exact pless_any e0 e1 w)
      have HP41 := Lib.hid (show ∀ w, Calls Tryz.prog 19 #[.agg #[.string e0.k, .int .i64 e0.q, .bool e0.d, .string e0.v], .agg #[.string e1.k, .int .i64 e1.q, .bool e1.d, .string e1.v]] w fun r w' => r = .returned (.bool lb) ∧ Bel w w' from fun w => by rw [hlb]; exact rless_any e0 e1 w HF0.out HF1.out)
      have HP48 := Lib.hid (show ∀ w, Calls Tryz.prog 20 #[.string e0.k, .int .i64 n] w fun r w' => r = .returned (.string T) ∧ Bel w w' from fun w => by rw [hT]; exact pinner_any e0.k n w (by omega) (by omega))
      have HP52 := Lib.hid (show ∀ w, Calls Tryz.prog 21 #[.string e0.k, .int .i64 n] w fun r w' => r = .returned (.string T) ∧ Bel w w' from fun w => by rw [hT]; exact rinner_any e0.k n w (by omega) (by omega))
      clear hrb hlb hT
      go_wp2_with (fail)
      refine wp_region_held_drew (S := fun z => z.cell? ⟨X, 0, none⟩ = some (.string e0.k) ∧ z.cell? ⟨X, 1, none⟩ = some (.int .i64 e0.q) ∧ z.cell? ⟨X, 2, none⟩ = some (.bool e0.d) ∧ z.cell? ⟨X, 3, none⟩ = some (.string e0.v) ∧ z.cell? ⟨Y, 0, none⟩ = some (.string e1.k) ∧ z.cell? ⟨Y, 1, none⟩ = some (.int .i64 e1.q) ∧ z.cell? ⟨Y, 2, none⟩ = some (.bool e1.d) ∧ z.cell? ⟨Y, 3, none⟩ = some (.string e1.v)) (by kernel_rfl) HC9.out (fun hHeld => ?_)
      have HZ := Lib.hid HB9.out.drew
      refine tk (oi := { dst := some 66, op := Op.move (Operand.tmp 9), type := 3, pos := "law.go:104", after := #[], guard := none }) (v := ?_) 0 rfl ?_ ?_
      rotate_left
      · (intro w hSw; (try dsimp only at hSw); first | (go_simp; done) | (go_simp; with_reducible rfl))
      try simp only [Act.put, List.setIfInBounds_toArray, List.set_cons_zero, List.set_cons_succ]
      refine tk (oi := { dst := some 67, op := Op.move (Operand.tmp 12), type := 3, pos := "law.go:104", after := #[], guard := none }) (v := ?_) 1 rfl ?_ ?_
      rotate_left
      · (intro w hSw; (try dsimp only at hSw); first | (go_simp; done) | (go_simp; with_reducible rfl))
      try simp only [Act.put, List.setIfInBounds_toArray, List.set_cons_zero, List.set_cons_succ]
      refine tk (oi := { dst := some 68, op := Op.binOp BinOp.eql 3 (Operand.tmp 66) (Operand.tmp 67) 3, type := 4, pos := "law.go:104", after := #[{ on := 0, ground := Ground.data }, { on := 1, ground := Ground.data }], guard := none }) (v := ?_) 2 rfl ?_ ?_
      rotate_left
      · (intro w hSw; (try dsimp only at hSw); first | (go_simp; done) | (go_simp; with_reducible rfl))
      try simp only [Act.put, List.setIfInBounds_toArray, List.set_cons_zero, List.set_cons_succ]
      refine tk (oi := { dst := some 69, op := Op.move (Operand.tmp 68), type := 4, pos := "law.go:104", after := #[{ on := 2, ground := Ground.data }], guard := none }) (v := ?_) 3 rfl ?_ ?_
      rotate_left
      · (intro w hSw; (try dsimp only at hSw); first | (go_simp; done) | (go_simp; with_reducible rfl))
      try simp only [Act.put, List.setIfInBounds_toArray, List.set_cons_zero, List.set_cons_succ]
      refine tk (oi := { dst := some 70, op := Op.move (Operand.tmp 10), type := 3, pos := "law.go:104", after := #[{ on := 3, ground := Ground.guard }], guard := some (3, true) }) (v := ?_) 4 rfl ?_ ?_
      rotate_left
      · (intro w hSw; (try dsimp only at hSw); first | (go_simp; done) | (go_simp; with_reducible rfl))
      try simp only [Act.put, List.setIfInBounds_toArray, List.set_cons_zero, List.set_cons_succ]
      refine tk (oi := { dst := some 71, op := Op.move (Operand.tmp 13), type := 3, pos := "law.go:104", after := #[{ on := 3, ground := Ground.guard }], guard := some (3, true) }) (v := ?_) 5 rfl ?_ ?_
      rotate_left
      · (intro w hSw; (try dsimp only at hSw); first | (go_simp; done) | (go_simp; with_reducible rfl))
      try simp only [Act.put, List.setIfInBounds_toArray, List.set_cons_zero, List.set_cons_succ]
      refine tk (oi := { dst := some 72, op := Op.binOp BinOp.eql 3 (Operand.tmp 70) (Operand.tmp 71) 3, type := 4, pos := "law.go:104", after := #[{ on := 4, ground := Ground.data }, { on := 5, ground := Ground.data }, { on := 3, ground := Ground.guard }], guard := some (3, true) }) (v := ?_) 6 rfl ?_ ?_
      rotate_left
      · (intro w hSw; (try dsimp only at hSw); first | (go_simp; done) | (go_simp; with_reducible rfl))
      try simp only [Act.put, List.setIfInBounds_toArray, List.set_cons_zero, List.set_cons_succ]
      refine tk (oi := { dst := some 73, op := Op.pick (Operand.tmp 69) (Operand.tmp 72) (Operand.const (Value.bool false)), type := 4, pos := "law.go:104", after := #[{ on := 3, ground := Ground.data }, { on := 6, ground := Ground.data }], guard := none }) (v := ?_) 7 rfl ?_ ?_
      rotate_left
      · (intro w hSw; (try dsimp only at hSw); first | (go_simp; done) | (go_simp; with_reducible rfl))
      try simp only [Act.put, List.setIfInBounds_toArray, List.set_cons_zero, List.set_cons_succ]
      refine tk (oi := { dst := some 74, op := Op.move (Operand.tmp 73), type := 4, pos := "law.go:104", after := #[{ on := 7, ground := Ground.data }, { on := 3, ground := Ground.chain }], guard := none }) (v := ?_) 8 rfl ?_ ?_
      rotate_left
      · (intro w hSw; (try dsimp only at hSw); first | (go_simp; done) | (go_simp; with_reducible rfl))
      try simp only [Act.put, List.setIfInBounds_toArray, List.set_cons_zero, List.set_cons_succ]
      refine tk (oi := { dst := some 75, op := Op.move (Operand.tmp 11), type := 4, pos := "law.go:104", after := #[{ on := 8, ground := Ground.guard }], guard := some (8, true) }) (v := ?_) 9 rfl ?_ ?_
      rotate_left
      · (intro w hSw; (try dsimp only at hSw); first | (go_simp; done) | (go_simp; with_reducible rfl))
      try simp only [Act.put, List.setIfInBounds_toArray, List.set_cons_zero, List.set_cons_succ]
      refine tk (oi := { dst := some 76, op := Op.move (Operand.tmp 14), type := 4, pos := "law.go:104", after := #[{ on := 8, ground := Ground.guard }], guard := some (8, true) }) (v := ?_) 10 rfl ?_ ?_
      rotate_left
      · (intro w hSw; (try dsimp only at hSw); first | (go_simp; done) | (go_simp; with_reducible rfl))
      try simp only [Act.put, List.setIfInBounds_toArray, List.set_cons_zero, List.set_cons_succ]
      refine tk (oi := { dst := some 77, op := Op.binOp BinOp.eql 4 (Operand.tmp 75) (Operand.tmp 76) 4, type := 4, pos := "law.go:104", after := #[{ on := 9, ground := Ground.data }, { on := 10, ground := Ground.data }, { on := 8, ground := Ground.guard }], guard := some (8, true) }) (v := ?_) 11 rfl ?_ ?_
      rotate_left
      · (intro w hSw; (try dsimp only at hSw); first | (go_simp; done) | (go_simp; with_reducible rfl))
      try simp only [Act.put, List.setIfInBounds_toArray, List.set_cons_zero, List.set_cons_succ]
      refine tk (oi := { dst := some 78, op := Op.pick (Operand.tmp 74) (Operand.tmp 77) (Operand.const (Value.bool false)), type := 4, pos := "law.go:104", after := #[{ on := 8, ground := Ground.data }, { on := 11, ground := Ground.data }], guard := none }) (v := ?_) 12 rfl ?_ ?_
      rotate_left
      · (intro w hSw; (try dsimp only at hSw); first | (go_simp; done) | (go_simp; with_reducible rfl))
      try simp only [Act.put, List.setIfInBounds_toArray, List.set_cons_zero, List.set_cons_succ]
      refine tk (oi := { dst := some 79, op := Op.move (Operand.tmp 78), type := 4, pos := "law.go:104", after := #[{ on := 12, ground := Ground.data }, { on := 8, ground := Ground.chain }], guard := none }) (v := ?_) 13 rfl ?_ ?_
      rotate_left
      · (intro w hSw; (try dsimp only at hSw); first | (go_simp; done) | (go_simp; with_reducible rfl))
      try simp only [Act.put, List.setIfInBounds_toArray, List.set_cons_zero, List.set_cons_succ]
      refine tk (oi := { dst := some 80, op := Op.move (Operand.tmp 15), type := 9, pos := "law.go:104", after := #[{ on := 13, ground := Ground.guard }], guard := some (13, true) }) (v := ?_) 14 rfl ?_ ?_
      rotate_left
      · (intro w hSw; (try dsimp only at hSw); first | (go_simp; done) | (go_simp; with_reducible rfl))
      try simp only [Act.put, List.setIfInBounds_toArray, List.set_cons_zero, List.set_cons_succ]
      refine tk (oi := { dst := some 81, op := Op.move (Operand.tmp 18), type := 9, pos := "law.go:104", after := #[{ on := 13, ground := Ground.guard }], guard := some (13, true) }) (v := ?_) 15 rfl ?_ ?_
      rotate_left
      · (intro w hSw; (try dsimp only at hSw); first | (go_simp; done) | (go_simp; with_reducible rfl))
      try simp only [Act.put, List.setIfInBounds_toArray, List.set_cons_zero, List.set_cons_succ]
      refine tk (oi := { dst := some 82, op := Op.binOp BinOp.eql 9 (Operand.tmp 80) (Operand.tmp 81) 9, type := 4, pos := "law.go:104", after := #[{ on := 14, ground := Ground.data }, { on := 15, ground := Ground.data }, { on := 13, ground := Ground.guard }], guard := some (13, true) }) (v := ?_) 16 rfl ?_ ?_
      rotate_left
      · (intro w hSw; (try dsimp only at hSw); first | (go_simp; done) | (go_simp; with_reducible rfl))
      try simp only [Act.put, List.setIfInBounds_toArray, List.set_cons_zero, List.set_cons_succ]
      refine tk (oi := { dst := some 83, op := Op.pick (Operand.tmp 79) (Operand.tmp 82) (Operand.const (Value.bool false)), type := 4, pos := "law.go:104", after := #[{ on := 13, ground := Ground.data }, { on := 16, ground := Ground.data }], guard := none }) (v := ?_) 17 rfl ?_ ?_
      rotate_left
      · (intro w hSw; (try dsimp only at hSw); first | (go_simp; done) | (go_simp; with_reducible rfl))
      try simp only [Act.put, List.setIfInBounds_toArray, List.set_cons_zero, List.set_cons_succ]
      refine tk (oi := { dst := some 84, op := Op.move (Operand.tmp 83), type := 4, pos := "law.go:104", after := #[{ on := 17, ground := Ground.data }, { on := 13, ground := Ground.chain }], guard := none }) (v := ?_) 18 rfl ?_ ?_
      rotate_left
      · (intro w hSw; (try dsimp only at hSw); first | (go_simp; done) | (go_simp; with_reducible rfl))
      try simp only [Act.put, List.setIfInBounds_toArray, List.set_cons_zero, List.set_cons_succ]
      refine tk (oi := { dst := some 85, op := Op.move (Operand.tmp 16), type := 3, pos := "law.go:104", after := #[{ on := 18, ground := Ground.guard }], guard := some (18, true) }) (v := ?_) 19 rfl ?_ ?_
      rotate_left
      · (intro w hSw; (try dsimp only at hSw); first | (go_simp; done) | (go_simp; with_reducible rfl))
      try simp only [Act.put, List.setIfInBounds_toArray, List.set_cons_zero, List.set_cons_succ]
      refine tk (oi := { dst := some 86, op := Op.move (Operand.tmp 19), type := 3, pos := "law.go:104", after := #[{ on := 18, ground := Ground.guard }], guard := some (18, true) }) (v := ?_) 20 rfl ?_ ?_
      rotate_left
      · (intro w hSw; (try dsimp only at hSw); first | (go_simp; done) | (go_simp; with_reducible rfl))
      try simp only [Act.put, List.setIfInBounds_toArray, List.set_cons_zero, List.set_cons_succ]
      refine tk (oi := { dst := some 87, op := Op.binOp BinOp.eql 3 (Operand.tmp 85) (Operand.tmp 86) 3, type := 4, pos := "law.go:104", after := #[{ on := 19, ground := Ground.data }, { on := 20, ground := Ground.data }, { on := 18, ground := Ground.guard }], guard := some (18, true) }) (v := ?_) 21 rfl ?_ ?_
      rotate_left
      · (intro w hSw; (try dsimp only at hSw); first | (go_simp; done) | (go_simp; with_reducible rfl))
      try simp only [Act.put, List.setIfInBounds_toArray, List.set_cons_zero, List.set_cons_succ]
      refine tk (oi := { dst := some 88, op := Op.pick (Operand.tmp 84) (Operand.tmp 87) (Operand.const (Value.bool false)), type := 4, pos := "law.go:104", after := #[{ on := 18, ground := Ground.data }, { on := 21, ground := Ground.data }], guard := none }) (v := ?_) 22 rfl ?_ ?_
      rotate_left
      · (intro w hSw; (try dsimp only at hSw); first | (go_simp; done) | (go_simp; with_reducible rfl))
      try simp only [Act.put, List.setIfInBounds_toArray, List.set_cons_zero, List.set_cons_succ]
      refine tk (oi := { dst := some 89, op := Op.move (Operand.tmp 88), type := 4, pos := "law.go:104", after := #[{ on := 22, ground := Ground.data }, { on := 18, ground := Ground.chain }], guard := none }) (v := ?_) 23 rfl ?_ ?_
      rotate_left
      · (intro w hSw; (try dsimp only at hSw); first | (go_simp; done) | (go_simp; with_reducible rfl))
      try simp only [Act.put, List.setIfInBounds_toArray, List.set_cons_zero, List.set_cons_succ]
      refine tk (oi := { dst := some 90, op := Op.move (Operand.tmp 17), type := 4, pos := "law.go:104", after := #[{ on := 23, ground := Ground.guard }], guard := some (23, true) }) (v := ?_) 24 rfl ?_ ?_
      rotate_left
      · (intro w hSw; (try dsimp only at hSw); first | (go_simp; done) | (go_simp; with_reducible rfl))
      try simp only [Act.put, List.setIfInBounds_toArray, List.set_cons_zero, List.set_cons_succ]
      refine tk (oi := { dst := some 91, op := Op.move (Operand.tmp 20), type := 4, pos := "law.go:104", after := #[{ on := 23, ground := Ground.guard }], guard := some (23, true) }) (v := ?_) 25 rfl ?_ ?_
      rotate_left
      · (intro w hSw; (try dsimp only at hSw); first | (go_simp; done) | (go_simp; with_reducible rfl))
      try simp only [Act.put, List.setIfInBounds_toArray, List.set_cons_zero, List.set_cons_succ]
      refine tk (oi := { dst := some 92, op := Op.binOp BinOp.eql 4 (Operand.tmp 90) (Operand.tmp 91) 4, type := 4, pos := "law.go:104", after := #[{ on := 24, ground := Ground.data }, { on := 25, ground := Ground.data }, { on := 23, ground := Ground.guard }], guard := some (23, true) }) (v := ?_) 26 rfl ?_ ?_
      rotate_left
      · (intro w hSw; (try dsimp only at hSw); first | (go_simp; done) | (go_simp; with_reducible rfl))
      try simp only [Act.put, List.setIfInBounds_toArray, List.set_cons_zero, List.set_cons_succ]
      refine tk (oi := { dst := some 93, op := Op.pick (Operand.tmp 89) (Operand.tmp 92) (Operand.const (Value.bool false)), type := 4, pos := "law.go:104", after := #[{ on := 23, ground := Ground.data }, { on := 26, ground := Ground.data }], guard := none }) (v := ?_) 27 rfl ?_ ?_
      rotate_left
      · (intro w hSw; (try dsimp only at hSw); first | (go_simp; done) | (go_simp; with_reducible rfl))
      try simp only [Act.put, List.setIfInBounds_toArray, List.set_cons_zero, List.set_cons_succ]
      refine tk (oi := { dst := some 94, op := Op.move (Operand.tmp 93), type := 4, pos := "law.go:104", after := #[{ on := 27, ground := Ground.data }, { on := 23, ground := Ground.chain }], guard := none }) (v := ?_) 28 rfl ?_ ?_
      rotate_left
      · (intro w hSw; (try dsimp only at hSw); first | (go_simp; done) | (go_simp; with_reducible rfl))
      try simp only [Act.put, List.setIfInBounds_toArray, List.set_cons_zero, List.set_cons_succ]
      refine tk (oi := { dst := some 95, op := Op.load 23 (Operand.tmp 3), type := 23, pos := "law.go:104", after := #[{ on := 28, ground := Ground.guard }], guard := some (28, true) }) (v := ?_) 29 rfl ?_ ?_
      rotate_left
      · (intro w hSw; (try dsimp only at hSw); first | (go_simp; done) | (go_simp; with_reducible rfl))
      try simp only [Act.put, List.setIfInBounds_toArray, List.set_cons_zero, List.set_cons_succ]
      refine tk (oi := { dst := some 97, op := Op.load 23 (Operand.tmp 3), type := 23, pos := "law.go:104", after := #[{ on := 28, ground := Ground.guard }], guard := some (28, true) }) (v := ?_) 31 rfl ?_ ?_
      rotate_left
      · (intro w hSw; (try dsimp only at hSw); first | (go_simp; done) | (go_simp; with_reducible rfl))
      try simp only [Act.put, List.setIfInBounds_toArray, List.set_cons_zero, List.set_cons_succ]
      refine wpAnyH_ready (rs := [30]) (by kernel_rfl) (by simp) ?_
      refine AllReadyH.cons (o := { dst := some 96, op := Op.call { callee := Callee.value (Operand.func 16), args := #[Operand.tmp 95], argTypes := #[23] }, type := 4, pos := "law.go:104", after := #[{ on := 29, ground := Ground.data }, { on := 28, ground := Ground.chain }, { on := 28, ground := Ground.guard }], guard := some (28, true) }) rfl (fun K hK => ?_) AllReadyH.nil
      go_simp
      refine (HP30.out _).mono ?_
      rintro r z ⟨rfl, hb⟩
      replace HZ := Lib.hid (HZ.out.trans hb)
      dsimp only
      refine hK.out _ _ (cells8 hb hHeld) (fun hHeld => ?_)
      clear hK K hb
      try simp only [Act.put, List.setIfInBounds_toArray, List.set_cons_zero, List.set_cons_succ]
      refine wpAnyH_ready (rs := [32]) (by kernel_rfl) (by simp) ?_
      refine AllReadyH.cons (o := { dst := some 98, op := Op.call { callee := Callee.value (Operand.func 17), args := #[Operand.tmp 97], argTypes := #[23] }, type := 4, pos := "law.go:104", after := #[{ on := 31, ground := Ground.data }, { on := 30, ground := Ground.chain }, { on := 28, ground := Ground.guard }], guard := some (28, true) }) rfl (fun K hK => ?_) AllReadyH.nil
      go_simp
      refine (HP32.out _).mono ?_
      rintro r z ⟨rfl, hb⟩
      replace HZ := Lib.hid (HZ.out.trans hb)
      dsimp only
      refine hK.out _ _ (cells8 hb hHeld) (fun hHeld => ?_)
      clear hK K hb
      try simp only [Act.put, List.setIfInBounds_toArray, List.set_cons_zero, List.set_cons_succ]
      refine tk (oi := { dst := some 99, op := Op.binOp BinOp.eql 4 (Operand.tmp 96) (Operand.tmp 98) 4, type := 4, pos := "law.go:104", after := #[{ on := 30, ground := Ground.data }, { on := 32, ground := Ground.data }, { on := 28, ground := Ground.guard }], guard := some (28, true) }) (v := ?_) 33 rfl ?_ ?_
      rotate_left
      · (intro w hSw; (try dsimp only at hSw); first | (go_simp; done) | (go_simp; with_reducible rfl))
      try simp only [Act.put, List.setIfInBounds_toArray, List.set_cons_zero, List.set_cons_succ]
      refine tk (oi := { dst := some 100, op := Op.pick (Operand.tmp 94) (Operand.tmp 99) (Operand.const (Value.bool false)), type := 4, pos := "law.go:104", after := #[{ on := 28, ground := Ground.data }, { on := 33, ground := Ground.data }], guard := none }) (v := ?_) 34 rfl ?_ ?_
      rotate_left
      · (intro w hSw; (try dsimp only at hSw); first | (go_simp; done) | (go_simp; with_reducible rfl))
      try simp only [Act.put, List.setIfInBounds_toArray, List.set_cons_zero, List.set_cons_succ]
      refine tk (oi := { dst := some 101, op := Op.move (Operand.tmp 100), type := 4, pos := "law.go:104", after := #[{ on := 34, ground := Ground.data }, { on := 32, ground := Ground.chain }], guard := none }) (v := ?_) 35 rfl ?_ ?_
      rotate_left
      · (intro w hSw; (try dsimp only at hSw); first | (go_simp; done) | (go_simp; with_reducible rfl))
      try simp only [Act.put, List.setIfInBounds_toArray, List.set_cons_zero, List.set_cons_succ]
      refine tk (oi := { dst := some 102, op := Op.load 23 (Operand.tmp 3), type := 23, pos := "law.go:104", after := #[{ on := 35, ground := Ground.guard }], guard := some (35, true) }) (v := ?_) 36 rfl ?_ ?_
      rotate_left
      · (intro w hSw; (try dsimp only at hSw); first | (go_simp; done) | (go_simp; with_reducible rfl))
      try simp only [Act.put, List.setIfInBounds_toArray, List.set_cons_zero, List.set_cons_succ]
      refine tk (oi := { dst := some 103, op := Op.load 23 (Operand.tmp 4), type := 23, pos := "law.go:104", after := #[{ on := 35, ground := Ground.guard }], guard := some (35, true) }) (v := ?_) 37 rfl ?_ ?_
      rotate_left
      · (intro w hSw; (try dsimp only at hSw); first | (go_simp; done) | (go_simp; with_reducible rfl))
      try simp only [Act.put, List.setIfInBounds_toArray, List.set_cons_zero, List.set_cons_succ]
      refine tk (oi := { dst := some 105, op := Op.load 23 (Operand.tmp 3), type := 23, pos := "law.go:104", after := #[{ on := 35, ground := Ground.guard }], guard := some (35, true) }) (v := ?_) 39 rfl ?_ ?_
      rotate_left
      · (intro w hSw; (try dsimp only at hSw); first | (go_simp; done) | (go_simp; with_reducible rfl))
      try simp only [Act.put, List.setIfInBounds_toArray, List.set_cons_zero, List.set_cons_succ]
      refine tk (oi := { dst := some 106, op := Op.load 23 (Operand.tmp 4), type := 23, pos := "law.go:104", after := #[{ on := 35, ground := Ground.guard }], guard := some (35, true) }) (v := ?_) 40 rfl ?_ ?_
      rotate_left
      · (intro w hSw; (try dsimp only at hSw); first | (go_simp; done) | (go_simp; with_reducible rfl))
      try simp only [Act.put, List.setIfInBounds_toArray, List.set_cons_zero, List.set_cons_succ]
      refine wpAnyH_ready (rs := [38]) (by kernel_rfl) (by simp) ?_
      refine AllReadyH.cons (o := { dst := some 104, op := Op.call { callee := Callee.value (Operand.func 18), args := #[Operand.tmp 102, Operand.tmp 103], argTypes := #[23, 23] }, type := 4, pos := "law.go:104", after := #[{ on := 36, ground := Ground.data }, { on := 37, ground := Ground.data }, { on := 35, ground := Ground.chain }, { on := 35, ground := Ground.guard }], guard := some (35, true) }) rfl (fun K hK => ?_) AllReadyH.nil
      go_simp
      refine (HP38.out _).mono ?_
      rintro r z ⟨rfl, hb⟩
      replace HZ := Lib.hid (HZ.out.trans hb)
      dsimp only
      refine hK.out _ _ (cells8 hb hHeld) (fun hHeld => ?_)
      clear hK K hb
      try simp only [Act.put, List.setIfInBounds_toArray, List.set_cons_zero, List.set_cons_succ]
      refine wpAnyH_ready (rs := [41]) (by kernel_rfl) (by simp) ?_
      refine AllReadyH.cons (o := { dst := some 107, op := Op.call { callee := Callee.value (Operand.func 19), args := #[Operand.tmp 105, Operand.tmp 106], argTypes := #[23, 23] }, type := 4, pos := "law.go:104", after := #[{ on := 39, ground := Ground.data }, { on := 40, ground := Ground.data }, { on := 38, ground := Ground.chain }, { on := 35, ground := Ground.guard }], guard := some (35, true) }) rfl (fun K hK => ?_) AllReadyH.nil
      go_simp
      refine (HP41.out _).mono ?_
      rintro r z ⟨rfl, hb⟩
      replace HZ := Lib.hid (HZ.out.trans hb)
      dsimp only
      refine hK.out _ _ (cells8 hb hHeld) (fun hHeld => ?_)
      clear hK K hb
      try simp only [Act.put, List.setIfInBounds_toArray, List.set_cons_zero, List.set_cons_succ]
      refine tk (oi := { dst := some 108, op := Op.binOp BinOp.eql 4 (Operand.tmp 104) (Operand.tmp 107) 4, type := 4, pos := "law.go:104", after := #[{ on := 38, ground := Ground.data }, { on := 41, ground := Ground.data }, { on := 35, ground := Ground.guard }], guard := some (35, true) }) (v := ?_) 42 rfl ?_ ?_
      rotate_left
      · (intro w hSw; (try dsimp only at hSw); first | (go_simp; done) | (go_simp; with_reducible rfl))
      try simp only [Act.put, List.setIfInBounds_toArray, List.set_cons_zero, List.set_cons_succ]
      refine tk (oi := { dst := some 109, op := Op.pick (Operand.tmp 101) (Operand.tmp 108) (Operand.const (Value.bool false)), type := 4, pos := "law.go:104", after := #[{ on := 35, ground := Ground.data }, { on := 42, ground := Ground.data }], guard := none }) (v := ?_) 43 rfl ?_ ?_
      rotate_left
      · (intro w hSw; (try dsimp only at hSw); first | (go_simp; done) | (go_simp; with_reducible rfl))
      try simp only [Act.put, List.setIfInBounds_toArray, List.set_cons_zero, List.set_cons_succ]
      refine tk (oi := { dst := some 110, op := Op.move (Operand.tmp 109), type := 4, pos := "law.go:104", after := #[{ on := 43, ground := Ground.data }, { on := 41, ground := Ground.chain }], guard := none }) (v := ?_) 44 rfl ?_ ?_
      rotate_left
      · (intro w hSw; (try dsimp only at hSw); first | (go_simp; done) | (go_simp; with_reducible rfl))
      try simp only [Act.put, List.setIfInBounds_toArray, List.set_cons_zero, List.set_cons_succ]
      refine tk (oi := { dst := some 111, op := Op.fieldAddr 23 (Operand.tmp 3) 0, type := 0, pos := "law.go:104", after := #[{ on := 44, ground := Ground.guard }], guard := some (44, true) }) (v := ?_) 45 rfl ?_ ?_
      rotate_left
      · (intro w hSw; (try dsimp only at hSw); first | (go_simp; done) | (go_simp; with_reducible rfl))
      try simp only [Act.put, List.setIfInBounds_toArray, List.set_cons_zero, List.set_cons_succ]
      refine tk (oi := { dst := some 112, op := Op.load 9 (Operand.tmp 111), type := 9, pos := "law.go:104", after := #[{ on := 45, ground := Ground.data }, { on := 44, ground := Ground.guard }], guard := some (44, true) }) (v := ?_) 46 rfl ?_ ?_
      rotate_left
      · (intro w hSw; (try dsimp only at hSw); first | (go_simp; done) | (go_simp; with_reducible rfl))
      try simp only [Act.put, List.setIfInBounds_toArray, List.set_cons_zero, List.set_cons_succ]
      refine tk (oi := { dst := some 113, op := Op.move (Operand.tmp 21), type := 3, pos := "law.go:104", after := #[{ on := 44, ground := Ground.guard }], guard := some (44, true) }) (v := ?_) 47 rfl ?_ ?_
      rotate_left
      · (intro w hSw; (try dsimp only at hSw); first | (go_simp; done) | (go_simp; with_reducible rfl))
      try simp only [Act.put, List.setIfInBounds_toArray, List.set_cons_zero, List.set_cons_succ]
      refine tk (oi := { dst := some 115, op := Op.fieldAddr 23 (Operand.tmp 3) 0, type := 0, pos := "law.go:104", after := #[{ on := 44, ground := Ground.guard }], guard := some (44, true) }) (v := ?_) 49 rfl ?_ ?_
      rotate_left
      · (intro w hSw; (try dsimp only at hSw); first | (go_simp; done) | (go_simp; with_reducible rfl))
      try simp only [Act.put, List.setIfInBounds_toArray, List.set_cons_zero, List.set_cons_succ]
      refine tk (oi := { dst := some 116, op := Op.load 9 (Operand.tmp 115), type := 9, pos := "law.go:104", after := #[{ on := 49, ground := Ground.data }, { on := 44, ground := Ground.guard }], guard := some (44, true) }) (v := ?_) 50 rfl ?_ ?_
      rotate_left
      · (intro w hSw; (try dsimp only at hSw); first | (go_simp; done) | (go_simp; with_reducible rfl))
      try simp only [Act.put, List.setIfInBounds_toArray, List.set_cons_zero, List.set_cons_succ]
      refine tk (oi := { dst := some 117, op := Op.move (Operand.tmp 21), type := 3, pos := "law.go:104", after := #[{ on := 44, ground := Ground.guard }], guard := some (44, true) }) (v := ?_) 51 rfl ?_ ?_
      rotate_left
      · (intro w hSw; (try dsimp only at hSw); first | (go_simp; done) | (go_simp; with_reducible rfl))
      try simp only [Act.put, List.setIfInBounds_toArray, List.set_cons_zero, List.set_cons_succ]
      refine wpAnyH_ready (rs := [48]) (by kernel_rfl) (by simp) ?_
      refine AllReadyH.cons (o := { dst := some 114, op := Op.call { callee := Callee.value (Operand.func 20), args := #[Operand.tmp 112, Operand.tmp 113], argTypes := #[9, 3] }, type := 9, pos := "law.go:104", after := #[{ on := 46, ground := Ground.data }, { on := 47, ground := Ground.data }, { on := 44, ground := Ground.chain }, { on := 44, ground := Ground.guard }], guard := some (44, true) }) rfl (fun K hK => ?_) AllReadyH.nil
      go_simp
      refine (HP48.out _).mono ?_
      rintro r z ⟨rfl, hb⟩
      replace HZ := Lib.hid (HZ.out.trans hb)
      dsimp only
      refine hK.out _ _ (cells8 hb hHeld) (fun hHeld => ?_)
      clear hK K hb
      try simp only [Act.put, List.setIfInBounds_toArray, List.set_cons_zero, List.set_cons_succ]
      refine wpAnyH_ready (rs := [52]) (by kernel_rfl) (by simp) ?_
      refine AllReadyH.cons (o := { dst := some 118, op := Op.call { callee := Callee.value (Operand.func 21), args := #[Operand.tmp 116, Operand.tmp 117], argTypes := #[9, 3] }, type := 9, pos := "law.go:104", after := #[{ on := 50, ground := Ground.data }, { on := 51, ground := Ground.data }, { on := 48, ground := Ground.chain }, { on := 44, ground := Ground.guard }], guard := some (44, true) }) rfl (fun K hK => ?_) AllReadyH.nil
      go_simp
      refine (HP52.out _).mono ?_
      rintro r z ⟨rfl, hb⟩
      replace HZ := Lib.hid (HZ.out.trans hb)
      dsimp only
      refine hK.out _ _ (cells8 hb hHeld) (fun hHeld => ?_)
      clear hK K hb
      try simp only [Act.put, List.setIfInBounds_toArray, List.set_cons_zero, List.set_cons_succ]
      refine tk (oi := { dst := some 119, op := Op.binOp BinOp.eql 9 (Operand.tmp 114) (Operand.tmp 118) 9, type := 4, pos := "law.go:104", after := #[{ on := 48, ground := Ground.data }, { on := 52, ground := Ground.data }, { on := 44, ground := Ground.guard }], guard := some (44, true) }) (v := ?_) 53 rfl ?_ ?_
      rotate_left
      · (intro w hSw; (try dsimp only at hSw); first | (go_simp; done) | (go_simp; with_reducible rfl))
      try simp only [Act.put, List.setIfInBounds_toArray, List.set_cons_zero, List.set_cons_succ]
      refine tk (oi := { dst := some 120, op := Op.pick (Operand.tmp 110) (Operand.tmp 119) (Operand.const (Value.bool false)), type := 4, pos := "law.go:104", after := #[{ on := 44, ground := Ground.data }, { on := 53, ground := Ground.data }], guard := none }) (v := ?_) 54 rfl ?_ ?_
      rotate_left
      · (intro w hSw; (try dsimp only at hSw); first | (go_simp; done) | (go_simp; with_reducible rfl))
      try simp only [Act.put, List.setIfInBounds_toArray, List.set_cons_zero, List.set_cons_succ]
      refine tk (oi := { dst := some 6, op := Op.assign (Operand.tmp 120), type := 4, pos := "law.go:104", after := #[{ on := 54, ground := Ground.data }, { on := 52, ground := Ground.chain }, { on := 0, ground := Ground.phase }, { on := 1, ground := Ground.phase }, { on := 2, ground := Ground.phase }, { on := 3, ground := Ground.phase }, { on := 4, ground := Ground.phase }, { on := 5, ground := Ground.phase }, { on := 6, ground := Ground.phase }, { on := 7, ground := Ground.phase }, { on := 8, ground := Ground.phase }, { on := 9, ground := Ground.phase }, { on := 10, ground := Ground.phase }, { on := 11, ground := Ground.phase }, { on := 12, ground := Ground.phase }, { on := 13, ground := Ground.phase }, { on := 14, ground := Ground.phase }, { on := 15, ground := Ground.phase }, { on := 16, ground := Ground.phase }, { on := 17, ground := Ground.phase }, { on := 18, ground := Ground.phase }, { on := 19, ground := Ground.phase }, { on := 20, ground := Ground.phase }, { on := 21, ground := Ground.phase }, { on := 22, ground := Ground.phase }, { on := 23, ground := Ground.phase }, { on := 24, ground := Ground.phase }, { on := 25, ground := Ground.phase }, { on := 26, ground := Ground.phase }, { on := 27, ground := Ground.phase }, { on := 28, ground := Ground.phase }, { on := 29, ground := Ground.phase }, { on := 30, ground := Ground.phase }, { on := 31, ground := Ground.phase }, { on := 32, ground := Ground.phase }, { on := 33, ground := Ground.phase }, { on := 34, ground := Ground.phase }, { on := 35, ground := Ground.phase }, { on := 36, ground := Ground.phase }, { on := 37, ground := Ground.phase }, { on := 38, ground := Ground.phase }, { on := 39, ground := Ground.phase }, { on := 40, ground := Ground.phase }, { on := 41, ground := Ground.phase }, { on := 42, ground := Ground.phase }, { on := 43, ground := Ground.phase }, { on := 44, ground := Ground.phase }, { on := 45, ground := Ground.phase }, { on := 46, ground := Ground.phase }, { on := 47, ground := Ground.phase }, { on := 48, ground := Ground.phase }, { on := 49, ground := Ground.phase }, { on := 50, ground := Ground.phase }, { on := 51, ground := Ground.phase }, { on := 52, ground := Ground.phase }, { on := 53, ground := Ground.phase }, { on := 54, ground := Ground.phase }], guard := none }) (v := ?_) 55 rfl ?_ ?_
      rotate_left
      · (intro w hSw; (try dsimp only at hSw); first | (go_simp; done) | (go_simp; with_reducible rfl))
      try simp only [Act.put, List.setIfInBounds_toArray, List.set_cons_zero, List.set_cons_succ]
      refine wpAnyH_done (by kernel_rfl) ?_ _
      go_wp2_with (fail)
      go_ret
      exact ⟨rfl, HZ.out⟩
    · have hz' : (2000 : Int) < s2.size := by omega
      go_wp2_with (fail)
      go_ret
      exact ⟨rfl, HB4.out⟩
  · go_wp2_with (fail)
    go_ret
    exact ⟨rfl, HB4.out⟩
end Go.Proofs.YtllcdhbchcpdoaaGreatDoor
