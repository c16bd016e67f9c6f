/- QPPut, QPTake, QRTk, QRUn, QPPack, QShown, laid together. -/
import Derived.Test.YtbalkchphijehaaDoorP10
import Derived.Test.YtbalkchphijehaaDoorP9
import Derived.Test.YtbalkchphijehaaDoorP11
import Derived.Test.YtbalkchphijehaaDoorP6
import Derived.Test.YtbalkchphijehaaDoorP13
import Derived.Test.YtbalkchphijehaaDoorP14
set_option linter.unusedSimpArgs false
set_option linter.unusedVariables false
/- schema.Put. -/
set_option maxRecDepth 20000
namespace Go.Proofs.YtbalkchphijehaaDoor
open Go.RowKit Go.Deep

theorem row_wit (t ver : Int) (L : List KV) : rowB t ver L = (witB t 0 1000000 && (witB ver 0 1000000 && (decide (L.length ≤ 12) && L.all KV.right))) := by
  unfold rowB witB
  cases decide (0 ≤ t) <;> cases decide (t ≤ 1000000) <;> cases decide (0 ≤ ver) <;> cases decide (ver ≤ 1000000) <;> rfl
theorem tup_all {L : List KV} (h : L.length ≤ 12) : tupV L = if L.all KV.right = true then .tuple #[.string ⟨(valsL L).toArray⟩, .int .i64 0] else .tuple #[.string ⟨#[]⟩, .int .i64 1] := by
  unfold tupV tupB
  rw [decide_eq_true (show L.length ≤ 20 by omega), Bool.true_and]
  rfl
set_option maxHeartbeats 16000000 in
theorem pput14_any (t ver : Int) (p : Option Addr) (c : Nat) (L : List KV) (w : World) (h : ValsAt w p L) (hL : L.length ≤ maxLen) (hV : allV L) (hstd : Std w) :
    Calls Tryd.prog 21 #[.int .i64 t, .agg #[.int .i64 ver, .slice p L.length c]] w fun e w' => e = .returned (prowV t ver L) ∧ Bel w w' := by
  have HLM := Lib.hid hL
  unfold maxLen at hL
  have H := Lib.hid h; clear h
  have HV := Lib.hid hV; clear hV
  have HRW := Lib.hid (row_wit t ver L)
  obtain ⟨X, hX⟩ : ∃ X, X = w.heap.size := ⟨_, rfl⟩
  obtain ⟨w1, hw1⟩ : ∃ z, z = w.alloc (.cells #[.int .i64 ver, .slice p L.length c] 41) := ⟨_, rfl⟩
  have HB1 := Lib.hid (show Bel w w1 by rw [hw1]; exact (Bel.refl w).alloc _)
  have HST := Lib.hid (hstd.bel HB1.out)
  have HK1 := Lib.hid (show w1.heap[X]? = some (.cells #[.int .i64 ver, .slice p L.length c] 41 (0, 0)) by rw [hw1, hX]; exact heap_alloc_new w _)
  have HRS := Lib.hid (show ∀ z, Bel w1 z → (z.cell? ⟨X, 0, none⟩ = some (.int .i64 ver) ∧ z.cell? ⟨X, 1, none⟩ = some (.slice p L.length c)) from fun z hz => (qbox2 (qbel HK1.out hz)).1)
  go_enter Tryd.func21, Tryd.ntmps21
  obtain ⟨s0, s1⟩ := HRS.out w1 (Bel.refl _)
  rw [hX, hw1] at s0 s1
  clear hstd
  go_wp2_with (fail)
  rw [← hw1, ← hX]
  rw [← hw1, ← hX] at s0 s1
  clear hw1 hX
  refine (within14_any t 0 1000000 _).mono ?_
  rintro e x ⟨rfl, rfl⟩
  cases ha : witB t 0 1000000 with
  | false =>
    have HR := Lib.hid (prow_no (show rowB t ver L = false by rw [HRW.out, ha]; rfl))
    clear ha
    go_wp2_with (fail)
    go_ret2
    exact ⟨by rw [HR.out]; rfl, HB1.out⟩
  | true =>
    have HA := Lib.hid ha
    clear ha
    go_wp2_with (fail)
    refine (within14_any ver 0 1000000 _).mono ?_
    rintro e x ⟨rfl, rfl⟩
    cases hb : witB ver 0 1000000 with
    | false =>
      have HR := Lib.hid (prow_no (show rowB t ver L = false by rw [HRW.out, HA.out, hb]; rfl))
      clear hb
      go_wp2_with (fail)
      go_ret2
      exact ⟨by rw [HR.out]; rfl, HB1.out⟩
    | true =>
      have HB := Lib.hid hb
      clear hb
      by_cases hl : L.length ≤ 12
      · have hli : ¬ (12 : Int) < (L.length : Int) := by omega
        have HL12 := Lib.hid hl
        have HTV := Lib.hid (tup_all hl)
        have HLD := Lib.hid (decide_eq_true hl)
        clear hl
        go_wp2_with (fail)
        refine (tuple_any p c L _ (H.out.bel HB1.out) HLM.out HV.out HST.out).mono ?_
        rintro e w2 ⟨rfl, hb2⟩
        have HB2 := Lib.hid (show Bel _ w2 from hb2)
        rw [HTV.out]
        clear hb2 s0 s1
        cases hr : L.all KV.right with
        | false =>
          have HR := Lib.hid (prow_no (show rowB t ver L = false by rw [HRW.out, HA.out, HB.out, HLD.out, hr]; rfl))
          rw [if_neg (by simp)]
          clear hr
          go_wp2_with (fail)
          go_ret2
          exact ⟨by rw [HR.out]; rfl, HB1.out.trans HB2.out⟩
        | true =>
          have HROW := Lib.hid (show rowB t ver L = true by rw [HRW.out, HA.out, HB.out, HLD.out, hr]; rfl)
          have HR := Lib.hid (prow_yes HROW.out)
          have HP := Lib.hid (rowB_parts HROW.out)
          rw [if_pos rfl]
          clear hr
          have z0 : (⟨(valsL L).toArray⟩ : ByteArray).size ≤ 24036 := by
            rw [qba_size]
            have := vals_len L HP.out.2.2.2
            have := HL12.out
            omega
          obtain ⟨S0, hS0⟩ : ∃ S : ByteArray, S = ⟨(valsL L).toArray⟩ := ⟨_, rfl⟩
          rw [← hS0] at z0 ⊢
          have HS0 := Lib.hid hS0; clear hS0
          go_wp2_with (fail)
          refine wp_region_held_drew (S := fun z => z.cell? ⟨X, 0, none⟩ = some (.int .i64 ver) ∧ z.cell? ⟨X, 1, none⟩ = some (.slice p L.length c)) (by kernel_rfl) (HRS.out _ HB2.out.drew) (fun hHeld => ?_)
          refine wpAnyH_take (i := 0) (oi := { dst := some 31, op := Op.move (Operand.tmp 0), type := 3, pos := "pack.go:21", after := #[], guard := none }) (v := ?_) rfl (by kernel_rfl) (by kernel_rfl) (by kernel_rfl) (fun _ _ _ h => h) (Or.inl ⟨by rfl, ?_⟩) (by assumption) ?_
          rotate_left
          · (intro w hSw; (try dsimp only at hSw); first | (go_simp; done) | (go_simp; with_reducible rfl))
          try simp only [Act.put, List.setIfInBounds_toArray, List.set_cons_zero, List.set_cons_succ]
          refine wpAnyH_take (i := 2) (oi := { dst := some 33, op := Op.fieldAddr 41 (Operand.tmp 3) 0, type := 0, pos := "pack.go:21", after := #[], guard := none }) (v := ?_) rfl (by kernel_rfl) (by kernel_rfl) (by kernel_rfl) (fun _ _ _ h => h) (Or.inl ⟨by rfl, ?_⟩) (by assumption) ?_
          rotate_left
          · (intro w hSw; (try dsimp only at hSw); first | (go_simp; done) | (go_simp; with_reducible rfl))
          try simp only [Act.put, List.setIfInBounds_toArray, List.set_cons_zero, List.set_cons_succ]
          refine wpAnyH_take (i := 3) (oi := { dst := some 34, op := Op.load 3 (Operand.tmp 33), type := 3, pos := "pack.go:21", after := #[{ on := 2, ground := Ground.data }], guard := none }) (v := ?_) rfl (by kernel_rfl) (by kernel_rfl) (by kernel_rfl) (fun _ _ _ h => h) (Or.inl ⟨by rfl, ?_⟩) (by assumption) ?_
          rotate_left
          · (intro w hSw; (try dsimp only at hSw); first | (go_simp; done) | (go_simp; with_reducible rfl))
          try simp only [Act.put, List.setIfInBounds_toArray, List.set_cons_zero, List.set_cons_succ]
          refine wpAnyH_take (i := 6) (oi := { dst := some 37, op := Op.fieldAddr 41 (Operand.tmp 3) 1, type := 0, pos := "pack.go:21", after := #[], guard := none }) (v := ?_) rfl (by kernel_rfl) (by kernel_rfl) (by kernel_rfl) (fun _ _ _ h => h) (Or.inl ⟨by rfl, ?_⟩) (by assumption) ?_
          rotate_left
          · (intro w hSw; (try dsimp only at hSw); first | (go_simp; done) | (go_simp; with_reducible rfl))
          try simp only [Act.put, List.setIfInBounds_toArray, List.set_cons_zero, List.set_cons_succ]
          refine wpAnyH_take (i := 7) (oi := { dst := some 38, op := Op.load 25 (Operand.tmp 37), type := 25, pos := "pack.go:21", after := #[{ on := 6, ground := Ground.data }], guard := none }) (v := ?_) rfl (by kernel_rfl) (by kernel_rfl) (by kernel_rfl) (fun _ _ _ h => h) (Or.inl ⟨by rfl, ?_⟩) (by assumption) ?_
          rotate_left
          · (intro w hSw; (try dsimp only at hSw); first | (go_simp; done) | (go_simp; with_reducible rfl))
          try simp only [Act.put, List.setIfInBounds_toArray, List.set_cons_zero, List.set_cons_succ]
          refine wpAnyH_take (i := 8) (oi := { dst := some 39, op := Op.call { callee := Callee.builtin Builtin.len, args := #[Operand.tmp 38], argTypes := #[25] }, type := 3, pos := "pack.go:21", after := #[{ on := 7, ground := Ground.data }], guard := none }) (v := ?_) rfl (by kernel_rfl) (by kernel_rfl) (by kernel_rfl) (fun _ _ _ h => h) (Or.inl ⟨by rfl, ?_⟩) (by assumption) ?_
          rotate_left
          · (intro w hSw; (try dsimp only at hSw); first | (go_simp; done) | (go_simp; with_reducible rfl))
          try simp only [Act.put, List.setIfInBounds_toArray, List.set_cons_zero, List.set_cons_succ]
          refine wpAnyH_take (i := 11) (oi := { dst := some 42, op := Op.move (Operand.tmp 6), type := 9, pos := "pack.go:21", after := #[], guard := none }) (v := ?_) rfl (by kernel_rfl) (by kernel_rfl) (by kernel_rfl) (fun _ _ _ h => h) (Or.inl ⟨by rfl, ?_⟩) (by assumption) ?_
          rotate_left
          · (intro w hSw; (try dsimp only at hSw); first | (go_simp; done) | (go_simp; with_reducible rfl))
          try simp only [Act.put, List.setIfInBounds_toArray, List.set_cons_zero, List.set_cons_succ]
          refine wpAnyH_ready (rs := [1]) (by kernel_rfl) (by simp) ?_
          refine AllReadyH.cons (o := { dst := some 32, op := Op.call { callee := Callee.value (Operand.func 42), args := #[Operand.tmp 31], argTypes := #[3] }, type := 9, pos := "pack.go:21", after := #[{ on := 0, ground := Ground.data }], guard := none }) rfl (fun K hK => ?_) AllReadyH.nil
          go_simp
          refine (pnumber14_any t (by have := HP.out.1; omega) (by have := HP.out.1; omega) _).mono ?_
          rintro e y1 ⟨rfl, hbn⟩
          have HY1 := Lib.hid (HB2.out.drew.trans hbn)
          clear hbn
          have z1 : (⟨(putL (t).toNat).toArray⟩ : ByteArray).size ≤ 9 := by show (putL (t).toNat).toArray.size ≤ 9; rw [List.size_toArray, putL_len]; exact szN_le _
          obtain ⟨S1, hS1⟩ : ∃ S : ByteArray, S = ⟨(putL (t).toNat).toArray⟩ := ⟨_, rfl⟩
          rw [← hS1] at z1 ⊢
          have HS1 := Lib.hid hS1; clear hS1
          dsimp only
          refine hK.out _ _ (HRS.out _ HY1.out) (fun hHeld => ?_)
          clear hK K
          try simp only [Act.put, List.setIfInBounds_toArray, List.set_cons_zero, List.set_cons_succ]
          refine wpAnyH_ready (rs := [4]) (by kernel_rfl) (by simp) ?_
          refine AllReadyH.cons (o := { dst := some 35, op := Op.call { callee := Callee.value (Operand.func 42), args := #[Operand.tmp 34], argTypes := #[3] }, type := 9, pos := "pack.go:21", after := #[{ on := 3, ground := Ground.data }, { on := 1, ground := Ground.chain }], guard := none }) rfl (fun K hK => ?_) AllReadyH.nil
          go_simp
          refine (pnumber14_any ver (by have := HP.out.2.1; omega) (by have := HP.out.2.1; omega) _).mono ?_
          rintro e y2 ⟨rfl, hbn⟩
          have HY2 := Lib.hid (HY1.out.trans hbn)
          clear hbn
          have z2 : (⟨(putL (ver).toNat).toArray⟩ : ByteArray).size ≤ 9 := by show (putL (ver).toNat).toArray.size ≤ 9; rw [List.size_toArray, putL_len]; exact szN_le _
          obtain ⟨S2, hS2⟩ : ∃ S : ByteArray, S = ⟨(putL (ver).toNat).toArray⟩ := ⟨_, rfl⟩
          rw [← hS2] at z2 ⊢
          have HS2 := Lib.hid hS2; clear hS2
          dsimp only
          refine hK.out _ _ (HRS.out _ HY2.out) (fun hHeld => ?_)
          clear hK K
          try simp only [Act.put, List.setIfInBounds_toArray, List.set_cons_zero, List.set_cons_succ]
          have zz1 : ¬ 9223372036854775807 < S1.size + S2.size := by omega
          refine wpAnyH_take (i := 5) (oi := { dst := some 36, op := Op.binOp BinOp.add 9 (Operand.tmp 32) (Operand.tmp 35) 9, type := 9, pos := "pack.go:21", after := #[{ on := 1, ground := Ground.data }, { on := 4, ground := Ground.data }], guard := none }) (v := ?_) rfl (by kernel_rfl) (by kernel_rfl) (by kernel_rfl) (fun _ _ _ h => h) (Or.inl ⟨by rfl, ?_⟩) (by assumption) ?_
          rotate_left
          · (intro w hSw; (try dsimp only at hSw); first | (go_simp; done) | (go_simp; with_reducible rfl))
          try simp only [Act.put, List.setIfInBounds_toArray, List.set_cons_zero, List.set_cons_succ]
          refine wpAnyH_ready (rs := [9]) (by kernel_rfl) (by simp) ?_
          refine AllReadyH.cons (o := { dst := some 40, op := Op.call { callee := Callee.value (Operand.func 42), args := #[Operand.tmp 39], argTypes := #[3] }, type := 9, pos := "pack.go:21", after := #[{ on := 8, ground := Ground.data }, { on := 4, ground := Ground.chain }], guard := none }) rfl (fun K hK => ?_) AllReadyH.nil
          go_simp
          refine (pnumber14_any (L.length : Int) (by omega) (by have := HL12.out; omega) _).mono ?_
          rintro e y3 ⟨rfl, hbn⟩
          have HY3 := Lib.hid (HY2.out.trans hbn)
          clear hbn
          have z3 : (⟨(putL ((L.length : Int)).toNat).toArray⟩ : ByteArray).size ≤ 9 := by show (putL ((L.length : Int)).toNat).toArray.size ≤ 9; rw [List.size_toArray, putL_len]; exact szN_le _
          obtain ⟨S3, hS3⟩ : ∃ S : ByteArray, S = ⟨(putL ((L.length : Int)).toNat).toArray⟩ := ⟨_, rfl⟩
          rw [← hS3] at z3 ⊢
          have HS3 := Lib.hid hS3; clear hS3
          dsimp only
          refine hK.out _ _ (HRS.out _ HY3.out) (fun hHeld => ?_)
          clear hK K
          try simp only [Act.put, List.setIfInBounds_toArray, List.set_cons_zero, List.set_cons_succ]
          have z12 : (S1 ++ S2).size ≤ 18 := by rw [ByteArray.size_append]; omega
          have zz2 : ¬ 9223372036854775807 < S1.size + S2.size + S3.size := by omega
          have zz3 : ¬ 9223372036854775807 < (S1 ++ S2).size + S3.size := by omega
          have zz4 : ¬ 9223372036854775807 < S1.size + S2.size + S3.size + S0.size := by omega
          have zz5 : ¬ 9223372036854775807 < (S1 ++ S2 ++ S3).size + S0.size := by rw [ByteArray.size_append]; omega
          refine wpAnyH_take (i := 10) (oi := { dst := some 41, op := Op.binOp BinOp.add 9 (Operand.tmp 36) (Operand.tmp 40) 9, type := 9, pos := "pack.go:21", after := #[{ on := 5, ground := Ground.data }, { on := 9, ground := Ground.data }], guard := none }) (v := ?_) rfl (by kernel_rfl) (by kernel_rfl) (by kernel_rfl) (fun _ _ _ h => h) (Or.inl ⟨by rfl, ?_⟩) (by assumption) ?_
          rotate_left
          · (intro w hSw; (try dsimp only at hSw); first | (go_simp; done) | (go_simp; with_reducible rfl))
          try simp only [Act.put, List.setIfInBounds_toArray, List.set_cons_zero, List.set_cons_succ]
          refine wpAnyH_take (i := 12) (oi := { dst := some 43, op := Op.binOp BinOp.add 9 (Operand.tmp 41) (Operand.tmp 42) 9, type := 9, pos := "pack.go:21", after := #[{ on := 10, ground := Ground.data }, { on := 11, ground := Ground.data }], guard := none }) (v := ?_) rfl (by kernel_rfl) (by kernel_rfl) (by kernel_rfl) (fun _ _ _ h => h) (Or.inl ⟨by rfl, ?_⟩) (by assumption) ?_
          rotate_left
          · (intro w hSw; (try dsimp only at hSw); first | (go_simp; done) | (go_simp; with_reducible rfl))
          try simp only [Act.put, List.setIfInBounds_toArray, List.set_cons_zero, List.set_cons_succ]
          refine wpAnyH_take (i := 13) (oi := { dst := some 4, op := Op.assign (Operand.tmp 43), type := 9, pos := "pack.go:21", after := #[{ on := 12, ground := Ground.data }, { on := 9, ground := Ground.chain }, { on := 0, ground := Ground.phase }, { on := 1, ground := Ground.phase }, { on := 2, ground := Ground.phase }, { on := 3, ground := Ground.phase }, { on := 4, ground := Ground.phase }, { on := 5, ground := Ground.phase }, { on := 6, ground := Ground.phase }, { on := 7, ground := Ground.phase }, { on := 8, ground := Ground.phase }, { on := 9, ground := Ground.phase }, { on := 10, ground := Ground.phase }, { on := 11, ground := Ground.phase }, { on := 12, ground := Ground.phase }], guard := none }) (v := ?_) rfl (by kernel_rfl) (by kernel_rfl) (by kernel_rfl) (fun _ _ _ h => h) (Or.inl ⟨by rfl, ?_⟩) (by assumption) ?_
          rotate_left
          · (intro w hSw; (try dsimp only at hSw); first | (go_simp; done) | (go_simp; with_reducible rfl))
          try simp only [Act.put, List.setIfInBounds_toArray, List.set_cons_zero, List.set_cons_succ]
          refine wpAnyH_take (i := 14) (oi := { dst := some 5, op := Op.assign (Operand.const (Value.int IntKind.i64 0)), type := 37, pos := "pack.go:21", after := #[{ on := 13, ground := Ground.chain }, { on := 0, ground := Ground.phase }, { on := 1, ground := Ground.phase }, { on := 2, ground := Ground.phase }, { on := 3, ground := Ground.phase }, { on := 4, ground := Ground.phase }, { on := 5, ground := Ground.phase }, { on := 6, ground := Ground.phase }, { on := 7, ground := Ground.phase }, { on := 8, ground := Ground.phase }, { on := 9, ground := Ground.phase }, { on := 10, ground := Ground.phase }, { on := 11, ground := Ground.phase }, { on := 12, ground := Ground.phase }, { on := 13, ground := Ground.phase }], guard := none }) (v := ?_) rfl (by kernel_rfl) (by kernel_rfl) (by kernel_rfl) (fun _ _ _ h => h) (Or.inl ⟨by rfl, ?_⟩) (by assumption) ?_
          rotate_left
          · (intro w hSw; (try dsimp only at hSw); first | (go_simp; done) | (go_simp; with_reducible rfl))
          try simp only [Act.put, List.setIfInBounds_toArray, List.set_cons_zero, List.set_cons_succ]
          refine wpAnyH_done (by kernel_rfl) ?_ _
          clear hHeld
          have HT0 := Lib.hid (show S1 ++ S2 ++ S3 ++ S0 = ⟨(encRow t.toNat ver.toNat L).toArray⟩ by
            apply qba_of
            rw [HS1.out, HS2.out, HS3.out, HS0.out]
            simp [encRow, putsN])
          go_wp2_with (fail)
          go_ret2
          exact ⟨by rw [HR.out, ← HT0.out]; rfl, HB1.out.trans HY3.out⟩
      · have hli : (12 : Int) < (L.length : Int) := by omega
        have HR := Lib.hid (prow_no (show rowB t ver L = false by rw [HRW.out, decide_eq_false hl]; simp))
        clear hl
        go_wp2_with (fail)
        go_ret2
        exact ⟨by rw [HR.out]; rfl, HB1.out⟩
end Go.Proofs.YtbalkchphijehaaDoor
/- schema.Take. -/
set_option maxRecDepth 20000
namespace Go.Proofs.YtbalkchphijehaaDoor
open Go.RowKit Go.Deep

/-- What Take answers. -/
def TakPost14 (o : Option (Nat × Nat × List KV)) (w : World) (e : Ending) (w' : World) : Prop := match o with
  | some x => ∃ v, e = .returned (.tuple #[.int .i64 (x.1 : Int), .agg #[.int .i64 (x.2.1 : Int), v], .int .i64 0]) ∧ OwnG valEl w.heap.size w' v x.2.2 ∧ Bel w w'
  | none => e = .returned (.tuple #[.int .i64 0, .agg #[.int .i64 0, .slice none 0 0], .int .i64 8]) ∧ Bel w w'
theorem TakPost14.no {o : Option (Nat × Nat × List KV)} (ho : o = none) {w w' : World} (hb : Bel w w') : TakPost14 o w (.returned (.tuple #[.int .i64 0, .agg #[.int .i64 0, .slice none 0 0], .int .i64 8])) w' := by subst ho; exact ⟨rfl, hb⟩
theorem TakPost14.yes {o : Option (Nat × Nat × List KV)} {a b : Nat} {L : List KV} (ho : o = some (a, b, L)) {w w' : World} {v : Value} (hv : OwnG valEl w.heap.size w' v L) (hb : Bel w w') : TakPost14 o w (.returned (.tuple #[.int .i64 (a : Int), .agg #[.int .i64 (b : Int), v], .int .i64 0])) w' := by
  subst ho; exact ⟨v, rfl, hv, hb⟩
theorem unt_rdV : ∀ (j : Nat) (s : List UInt8) (L : List KV), untL j s = some L → rdV L.length s = some (L, [])
  | 0, s, L, h => by
    rw [untL] at h
    split at h
    · rename_i hs; cases h; subst hs; rfl
    · cases h
  | j + 1, s, L, h => by
    by_cases hs : s = []
    · subst hs
      rw [unt_nil] at h; cases h; rfl
    · cases hr : readL s with
      | none => rw [unt_none _ _ hs hr] at h; cases h
      | some x =>
        obtain ⟨v, r⟩ := x
        rw [unt_step j s r v hs hr] at h
        cases hu : untL j r with
        | none => rw [hu] at h; cases h
        | some M =>
          rw [hu] at h
          cases h
          show rdV (M.length + 1) s = _
          rw [rdV, hr]
          simp only
          rw [unt_rdV j r M hu]; rfl
theorem rdV_unt {j c : Nat} {s : List UInt8} {L : List KV} (h : rdV c s = some (L, [])) (hc : c ≤ j) : untL j s = some L := by
  obtain ⟨h1, h2, h3⟩ := rdV_back c s L [] h
  rw [← h2, List.append_nil]
  exact unt_cat L j (by omega) (fun v hv => (h3 v hv).1) (fun v hv => (h3 v hv).2)
theorem tk_bad {s : List UInt8} (h : (tkC s).2.2 = true) : readRow s = none := by
  cases hS : readRow s with
  | none => rfl
  | some x =>
    exfalso
    obtain ⟨a, b, L⟩ := x
    obtain ⟨hr, hi, he⟩ := row_back hS
    obtain ⟨p1, p2, p3, p4⟩ := rowB_parts hr
    unfold readRow at hS
    cases hN : rdN 3 s with
    | none => rw [hN] at hS; cases hS
    | some y =>
      obtain ⟨l, q⟩ := y
      obtain ⟨a', b', c, rfl⟩ := three_of (rdN_back 3 s l q hN).1
      have hle := (rdN_back 3 s _ q hN).2.2
      obtain ⟨a1, a2, b1, b2, c1, c2, rq⟩ := rdN3_of hN
      rw [hN] at hS
      simp only at hS
      split at hS
      · rename_i hc
        have la := hle a' (by simp)
        have lb := hle b' (by simp)
        have ea : unpA s = (a', ((takeL s).2.1, false)) := by unfold unpA; rw [numS_yes (st := (s, false)) a1 (by simp only [a2]; omega)]; simp only [a2]
        have eb : tkB s = (b', ((takeL (takeL s).2.1).2.1, false)) := by unfold tkB; rw [ea]; show numS 1000000 ((takeL s).2.1, false) = _; rw [numS_yes (st := ((takeL s).2.1, false)) b1 (by simp only [b2]; omega)]; simp only [b2]
        have ec : tkC s = (c, (q, false)) := by unfold tkC; rw [eb]; show numS 12 ((takeL (takeL s).2.1).2.1, false) = _; rw [numS_yes (st := ((takeL (takeL s).2.1).2.1, false)) c1 (by simp only [c2]; omega)]; simp only [c2, rq]
        rw [ec] at h; cases h
      · cases hS
theorem tk_good {s : List UInt8} (h : (tkC s).2.2 = false) : readRow s = match rdV (tkC s).1 (tkC s).2.1 with
    | some (L, []) => some ((unpA s).1, (tkB s).1, L)
    | _ => none := by
  have gb : (tkB s).2.2 = false := by
    cases q : (tkB s).2.2 with
    | false => rfl
    | true => have := numS_bad (most := 12) (st := (tkB s).2) q; unfold tkC at h; rw [h] at this; cases this
  have ga : (unpA s).2.2 = false := by
    cases q : (unpA s).2.2 with
    | false => rfl
    | true => have := numS_bad (most := 1000000) (st := (unpA s).2) q; unfold tkB at gb; rw [gb] at this; cases this
  obtain ⟨a1, a2, a3⟩ := numS_good (s := s) (most := 1000000) ga
  have ea : unpA s = ((takeL s).1, ((takeL s).2.1, false)) := a3
  have hb0 : tkB s = numS 1000000 ((takeL s).2.1, false) := by unfold tkB; rw [ea]
  rw [hb0] at gb
  obtain ⟨b1, b2, b3⟩ := numS_good gb
  have eb : tkB s = ((takeL (takeL s).2.1).1, ((takeL (takeL s).2.1).2.1, false)) := hb0.trans b3
  have hc0 : tkC s = numS 12 ((takeL (takeL s).2.1).2.1, false) := by unfold tkC; rw [eb]
  rw [hc0] at h
  obtain ⟨c1, c2, c3⟩ := numS_good h
  have ec : tkC s = ((takeL (takeL (takeL s).2.1).2.1).1, ((takeL (takeL (takeL s).2.1).2.1).2.1, false)) := hc0.trans c3
  unfold readRow
  rw [rdN3 a1 (by omega) b1 (by omega) c1 (by omega)]
  simp only
  rw [if_pos c2, ec, ea, eb]
  simp only
  generalize rdV (takeL (takeL (takeL s).2.1).2.1).1 (takeL (takeL (takeL s).2.1).2.1).2.1 = o
  cases o with
  | none => rfl
  | some x =>
    obtain ⟨L, z⟩ := x
    cases z <;> rfl
set_option maxHeartbeats 16000000 in
theorem ptake14_any (s : ByteArray) (w : World) (hs : s.size ≤ 1000000) (hstd : Std w) :
    Calls Tryd.prog 23 #[.string s] w (TakPost14 (readRow s.data.toList) w) := by
  obtain ⟨l, hl⟩ : ∃ l, l = s.data.toList := ⟨_, rfl⟩
  rw [← hl]
  have HSE := Lib.hid (show s = ⟨l.toArray⟩ by rw [hl])
  have HLS := Lib.hid (show l.length ≤ 1000000 by have e : s.data.toList.length = s.size := rfl; rw [← hl] at e; omega)
  obtain ⟨⟨na, sa⟩, hna⟩ : ∃ a, unpA l = a := ⟨_, rfl⟩
  obtain ⟨⟨nb, sb⟩, hnb⟩ : ∃ a, tkB l = a := ⟨_, rfl⟩
  obtain ⟨⟨nc, sc⟩, hnc⟩ : ∃ a, tkC l = a := ⟨_, rfl⟩
  have HA := Lib.hid (show numS 1000000 (l, false) = (na, sa) from hna)
  have HB := Lib.hid (show numS 1000000 sa = (nb, sb) by have := hnb; unfold tkB at this; rw [hna] at this; exact this)
  have HC := Lib.hid (show numS 12 sb = (nc, sc) by have := hnc; unfold tkC at this; rw [hnb] at this; exact this)
  have HBAD := Lib.hid (show sc.2 = true → readRow l = none from fun h => tk_bad (by rw [hnc]; exact h))
  have HGOOD := Lib.hid (show sc.2 = false → readRow l = (match rdV nc sc.1 with | some (L, []) => some (na, nb, L) | _ => none) from fun h => by have := tk_good (s := l) (by rw [hnc]; exact h); rw [hna, hnb, hnc] at this; exact this)
  have la := numS_len 1000000 (l, false)
  rw [HA.out] at la
  have lb := numS_len 1000000 sa
  rw [HB.out] at lb
  have lc := numS_len 12 sb
  rw [HC.out] at lc
  have hc12 := numS_le 12 sb
  rw [HC.out] at hc12
  simp only at la lb lc hc12
  have hls := HLS.out
  have HLA := Lib.hid (show sa.1.length ≤ 1000000 by omega)
  have HLB := Lib.hid (show sb.1.length ≤ 1000000 by omega)
  have HLC := Lib.hid (show sc.1.length ≤ 1000000 by omega)
  have HNC := Lib.hid (show nc ≤ 12 from hc12)
  clear la lb lc hls hna hnb hnc hl hs hc12
  obtain ⟨X, hX⟩ : ∃ X, X = w.heap.size := ⟨_, rfl⟩
  have HXE := Lib.hid hX
  obtain ⟨w1, hw1⟩ : ∃ z, z = (w.alloc (.cells #[.int .i64 0, .slice none 0 0] 41)).alloc (.cells #[.string s, .bool false] 74) := ⟨_, rfl⟩
  have hb1 : Bel w w1 := by rw [hw1]; exact ((Bel.refl w).alloc _).alloc _
  have HX1 := Lib.hid (show w1.heap[X]? = some (.cells #[.int .i64 0, .slice none 0 0] 41 (0, 0)) by rw [hw1, hX]; exact qbel (heap_alloc_new w _) ((Bel.refl _).alloc _))
  have HI1 := Lib.hid (show InAt w1 (X + 1) (l, false) by
    have e := heap_alloc_new (w.alloc (.cells #[.int .i64 0, .slice none 0 0] 41)) (.cells #[.string s, .bool false] 74)
    simp only [World.size_alloc] at e
    rw [hw1, hX]
    unfold InAt
    simp only
    rw [← HSE.out]
    exact e)
  have HB1 := Lib.hid hb1
  have HZ1 := Lib.hid (show w1.heap.size = X + 2 by rw [hw1, hX]; simp)
  have HST := Lib.hid (hstd.bel hb1)
  have HSG := Lib.hid hstd.1
  clear hb1 hstd
  go_enter Tryd.func23, Tryd.ntmps23
  go_wp2_with (fail)
  rw [← hw1, ← hX]
  clear hw1 hX
  refine (inum14_any (X + 1) 1000000 (l, false) _ HI1.out HLS.out (by omega)).mono ?_
  rintro e w2 ⟨rfl, hi, hk⟩
  rw [HA.out] at hi ⊢
  simp only at hi ⊢
  have HK2 := Lib.hid hk
  have HI2 := Lib.hid hi
  clear hi hk
  go_wp2_with (fail)
  refine (inum14_any (X + 1) 1000000 sa _ HI2.out HLA.out (by omega)).mono ?_
  rintro e w3 ⟨rfl, hi, hk⟩
  rw [HB.out] at hi ⊢
  simp only at hi ⊢
  have HK3 := Lib.hid (kt HK2.out hk)
  have HI3 := Lib.hid hi
  clear hi hk
  go_wp2_with (fail)
  refine (inum14_any (X + 1) 12 sb _ HI3.out HLB.out (by omega)).mono ?_
  rintro e w4 ⟨rfl, hi, hk⟩
  rw [HC.out] at hi ⊢
  simp only at hi ⊢
  have HK4 := Lib.hid (kt HK3.out hk)
  have HI4 := Lib.hid hi
  have HX4 := Lib.hid (HK4.out.at HX1.out (by simp))
  have HS4 := Lib.hid (show Std w4 from ⟨Nat.lt_of_lt_of_le HST.out.1 HK4.out.size, fun i hi => HK4.out.cell (HST.out.2 i hi) (by
    intro hm
    rw [List.mem_singleton] at hm
    have h1 := HSG.out
    have h2 := HXE.out
    simp only at hm
    omega)⟩)
  have HB4 := Lib.hid (show Bel w w4 from keep_belq HK4.out HB1.out (by have := HXE.out; omega))
  clear hi hk
  obtain ⟨⟨c0, c1⟩, -⟩ := qbox2 HI4.out
  obtain ⟨r, hr⟩ : ∃ r : ByteArray, r = ⟨sc.1.toArray⟩ := ⟨_, rfl⟩
  have HRL := Lib.hid (show r.data.toList = sc.1 by rw [hr])
  have HRZ := Lib.hid (show r.size ≤ 1000000 by rw [hr, qba_size]; exact HLC.out)
  rw [← hr] at c0
  clear hr
  go_wp2_with (fail)
  refine (untuple_any r _ HRZ.out HS4.out).mono ?_
  rintro e w5 ⟨v, rfl, hov, hb5⟩
  rw [HRL.out] at hov ⊢
  have HOV := Lib.hid hov
  have HB5 := Lib.hid hb5
  have HI5 := Lib.hid (HI4.out.bel hb5)
  have HX5 := Lib.hid (qbel HX4.out hb5)
  obtain ⟨vp, vc, rfl⟩ := ownG_len hov
  obtain ⟨U, hU⟩ : ∃ U, U = untL 20 sc.1 := ⟨_, rfl⟩
  have HU := Lib.hid hU
  rw [← hU] at HOV ⊢
  clear hov hb5 c0 c1 hU
  obtain ⟨scl, scb⟩ := sc
  obtain ⟨⟨c0, c1⟩, -⟩ := qbox2 HI5.out
  obtain ⟨⟨d0, d1⟩, g0, g1⟩ := qbox2 HX5.out
  simp only at c0 c1
  cases scb with
  | true =>
    have HR := Lib.hid (HBAD.out (by trivial))
    have hun : unErr U = 0 ∨ unErr U = 8 := by unfold unErr; split; exact Or.inl rfl; exact Or.inr rfl
    obtain ⟨eu, heu⟩ : ∃ eu, eu = unErr U := ⟨_, rfl⟩
    rw [← heu] at hun ⊢
    clear heu
    go_wp2_with (fail)
    have hst := qset (qset HX5.out 0 (.int .i64 0)) 1 (.slice none 0 0)
    have hks := kt (keep_st w5 X 0 (.int .i64 0)) (keep_st _ X 1 (.slice none 0 0))
    obtain ⟨⟨y0, y1⟩, -⟩ := qbox2 hst
    exact bodyPost_ret (v := .tuple #[.int .i64 0, .agg #[.int .i64 0, .slice none 0 0], .int .i64 8]) (by simp [results, Tryd.results23, go_sem, y0, y1]) rfl (TakPost14.no HR.out (keep_belq hks (HB4.out.trans HB5.out) (by have := HXE.out; omega)))
  | false =>
    cases U with
    | none =>
      have HR := Lib.hid (show readRow l = none by
        rw [HGOOD.out (by trivial)]
        cases hv : rdV nc scl with
        | none => rfl
        | some x =>
          obtain ⟨L, z⟩ := x
          cases z with
          | cons a z => rfl
          | nil => have h1 := HU.out; rw [rdV_unt hv (by have := HNC.out; omega)] at h1; cases h1)
      rw [show unErr (none : Option (List KV)) = 8 from rfl]
      go_wp2_with (fail)
      have hst := qset (qset HX5.out 0 (.int .i64 0)) 1 (.slice none 0 0)
      have hks := kt (keep_st w5 X 0 (.int .i64 0)) (keep_st _ X 1 (.slice none 0 0))
      obtain ⟨⟨y0, y1⟩, -⟩ := qbox2 hst
      exact bodyPost_ret (v := .tuple #[.int .i64 0, .agg #[.int .i64 0, .slice none 0 0], .int .i64 8]) (by simp [results, Tryd.results23, go_sem, y0, y1]) rfl (TakPost14.no HR.out (keep_belq hks (HB4.out.trans HB5.out) (by have := HXE.out; omega)))
    | some L =>
      rw [show unErr (some L) = 0 from rfl]
      simp only [Option.getD_some] at HOV ⊢
      have HVR := Lib.hid (unt_rdV 20 scl L HU.out.symm)
      by_cases hlc : L.length = nc
      · have hne : ((L.length : Int) != (nc : Int)) = false := by simp [hlc]
        have HR := Lib.hid (show readRow l = some (na, nb, L) by rw [HGOOD.out (by trivial), ← hlc, HVR.out])
        clear hlc
        go_wp2_with (fail)
        have hst := qset (qset HX5.out 0 (.int .i64 (nb : Int))) 1 (.slice vp L.length vc)
        have hks := kt (keep_st w5 X 0 (.int .i64 (nb : Int))) (keep_st _ X 1 (.slice vp L.length vc))
        obtain ⟨⟨y0, y1⟩, -⟩ := qbox2 hst
        have ho := (HOV.out.keep hks (fun b hb hm => by have h8 := (HOV.out.lt b hb).1; have h9 := qlt HX4.out; rw [List.mem_singleton] at hm; omega)).low (show w.heap.size ≤ w4.heap.size from HB4.out.size)
        exact bodyPost_ret (v := .tuple #[.int .i64 (na : Int), .agg #[.int .i64 (nb : Int), .slice vp L.length vc], .int .i64 0]) (by simp [results, Tryd.results23, go_sem, y0, y1]) rfl (TakPost14.yes HR.out ho (keep_belq hks (HB4.out.trans HB5.out) (by have := HXE.out; omega)))
      · have hne : ((L.length : Int) != (nc : Int)) = true := by rw [bne_iff_ne]; omega
        have HR := Lib.hid (show readRow l = none by
          rw [HGOOD.out (by trivial)]
          cases hv : rdV nc scl with
          | none => rfl
          | some x =>
            obtain ⟨M, z⟩ := x
            cases z with
            | cons a z => rfl
            | nil =>
              have h1 := HU.out
              rw [rdV_unt hv (by have := HNC.out; omega)] at h1
              cases h1
              exact absurd (rdV_back nc scl _ [] hv).1 hlc)
        clear hlc
        go_wp2_with (fail)
        have hst := qset (qset HX5.out 0 (.int .i64 0)) 1 (.slice none 0 0)
        have hks := kt (keep_st w5 X 0 (.int .i64 0)) (keep_st _ X 1 (.slice none 0 0))
        obtain ⟨⟨y0, y1⟩, -⟩ := qbox2 hst
        exact bodyPost_ret (v := .tuple #[.int .i64 0, .agg #[.int .i64 0, .slice none 0 0], .int .i64 8]) (by simp [results, Tryd.results23, go_sem, y0, y1]) rfl (TakPost14.no HR.out (keep_belq hks (HB4.out.trans HB5.out) (by have := HXE.out; omega)))
end Go.Proofs.YtbalkchphijehaaDoor
/- moultref14.Take. -/
set_option maxRecDepth 20000
namespace Go.Proofs.YtbalkchphijehaaDoor
open Go.RowKit Go.Deep

theorem three_cells {B : Nat} {w : World} {v : Value} {a b c : Nat} (h : OwnG intQ B w v [a, b, c]) : ∃ g cap, v = .slice (some ⟨g, 0, none⟩) 3 cap ∧ B ≤ g ∧ g < w.heap.size ∧ w.cell? ⟨g, 0, none⟩ = some (.int .i64 (a : Int)) ∧ w.cell? ⟨g, 1, none⟩ = some (.int .i64 (b : Int)) ∧ w.cell? ⟨g, 2, none⟩ = some (.int .i64 (c : Int)) := by
  obtain ⟨g, cap, hv, h1, h2, _, hc⟩ := ownG_cells intQok h (by simp)
  exact ⟨g, cap, hv, h1, h2, hc 0 a rfl 0 _ rfl, hc 1 b rfl 0 _ rfl, hc 2 c rfl 0 _ rfl⟩
theorem append_glitQ {α : Type} {E : El α} {B b : Nat} {x : World} {v : Value} {L : List α} (hE : ElOk E b) {ops : Array Oper} {rest : List Oper} {o : Oper} {a : Act} {Q : Exit → Act → World → Prop} {W : World} {T : TypeId} (hgd : o.guard = none) (s y : Operand)
    (ho : o.op = .call { callee := .builtin .append, args := #[s, y], argTypes := #[E.ST, E.ST] })
    (hs : a.eval s = v) (hown : OwnG E B x v L) (n : Nat) (hn : n = x.heap.size)
    (arr : Array Value) (m c : Nat) (news : List α) (hx : a.eval y = .slice (some ⟨n, 0, none⟩) m c) (hm : m = news.length) (harr : arr.toList = E.all news)
    (hl1 : L.length + news.length ≤ maxLen) (hlim : (L.length + news.length) * b ≤ 140737488355328) (hbase : B ≤ x.heap.size) (hW : W = x.alloc (.cells arr T) ∨ W = (x.alloc (.cells arr T)).drew)
    (h : ∀ v' w', OwnG E B w' v' (L ++ news) → Below B x w' → B ≤ w'.heap.size → wpList Tryd.prog ops Q rest (a.put o.dst v') w') : wpList Tryd.prog ops Q (o :: rest) a W := by
  subst hn
  exact append_glit hE hgd s y ho hs hown arr m c news hx hm harr hl1 hlim hbase hW h
theorem meas14 {n c : Nat} (h : n < c) (hw : wrap64 ((n : Int) + 1) = (n : Int) + 1) : c - (intOf (.int .i64 (wrap64 ((n : Int) + 1)))).toNat < c - (intOf (.int .i64 (n : Int))).toNat := by
  rw [hw]
  simp only [intOf]
  omega
theorem keep_belowA {x y z : World} {A : Nat} (h : Keep [A] x y) (hb : Below (A + 1) y z) (hA : x.heap.size = A + 1) : Keep [A] x z :=
  ⟨hb.os.trans h.os, hb.tape.trans h.tape, hb.output.trans h.output, Nat.le_trans h.size hb.size, fun k hk hF => (hb.block k (by omega)).trans (h.block k hk hF)⟩
def RTkRel (A : Nat) (b : Int) (c n : Nat) (s0 : List UInt8) (w : World) (iv sv : Value) (x : World) : Prop :=
  ∃ (acc : List KV) (r : ByteArray) (vv : Value), iv = .int .i64 (acc.length : Int) ∧ acc.length ≤ c ∧ sv = .string r ∧ r.size ≤ n ∧ x.heap[A]? = some (.cells #[.int .i64 b, vv] 41 (0, 0)) ∧ OwnG valEl (A + 1) x vv acc ∧ rdV c s0 = preP acc (rdV (c - acc.length) r.data.toList) ∧ Keep [A] w x
set_option maxHeartbeats 16000000 in
theorem rtk14_any (s : ByteArray) (w : World) (hs : s.size ≤ 1000000) :
    Calls Tryd.prog 24 #[.string s] w (TakPost14 (readRow s.data.toList) w) := by
  obtain ⟨l, hl⟩ : ∃ l, l = s.data.toList := ⟨_, rfl⟩
  rw [← hl]
  have HLE := Lib.hid hl
  have HLS := Lib.hid (show l.length ≤ 1000000 by have e : s.data.toList.length = s.size := rfl; rw [← hl] at e; omega)
  have HSS := Lib.hid hs
  clear hl hs
  obtain ⟨X, hX⟩ : ∃ X, X = w.heap.size := ⟨_, rfl⟩
  have HXE := Lib.hid hX
  obtain ⟨w1, hw1⟩ : ∃ z, z = w.alloc (.cells #[.int .i64 0, .slice none 0 0] 41) := ⟨_, rfl⟩
  have HB1 := Lib.hid (show Bel w w1 by rw [hw1]; exact (Bel.refl w).alloc _)
  have HX1 := Lib.hid (show w1.heap[X]? = some (.cells #[.int .i64 0, .slice none 0 0] 41 (0, 0)) by rw [hw1, hX]; exact heap_alloc_new w _)
  go_enter Tryd.func24, Tryd.ntmps24
  go_wp2_with (fail)
  rw [← hw1, ← hX]
  clear hw1 hX
  refine (rnumbers14_any s _ HSS.out).mono ?_
  intro e w2 hnp
  rw [← HLE.out] at hnp
  cases hN : rdN 3 l with
  | none =>
    rw [hN] at hnp
    obtain ⟨rfl, hb2⟩ := hnp
    have HR := Lib.hid (show readRow l = none by unfold readRow; rw [hN])
    have HB2 := Lib.hid (HB1.out.trans hb2)
    have HX2 := Lib.hid (qbel HX1.out hb2)
    obtain ⟨⟨d0, d1⟩, g0, g1⟩ := qbox2 HX2.out
    clear hN hb2
    go_wp2_with (fail)
    have hst := qset (qset HX2.out 0 (.int .i64 0)) 1 (.slice none 0 0)
    have hks := kt (keep_st w2 X 0 (.int .i64 0)) (keep_st _ X 1 (.slice none 0 0))
    obtain ⟨⟨y0, y1⟩, -⟩ := qbox2 hst
    exact bodyPost_ret (v := .tuple #[.int .i64 0, .agg #[.int .i64 0, .slice none 0 0], .int .i64 8]) (by simp [results, Tryd.results24, go_sem, y0, y1]) rfl (TakPost14.no HR.out (keep_belq hks HB2.out (by have := HXE.out; omega)))
  | some q =>
    obtain ⟨N, r0⟩ := q
    obtain ⟨a, b, c, rfl⟩ := three_of (rdN_back 3 l N r0 hN).1
    rw [hN] at hnp
    obtain ⟨v, rfl, hov, hb2⟩ := hnp
    have HRR := Lib.hid (show readRow l = if c ≤ 12 then (match rdV c r0 with | some (L, []) => some (a, b, L) | _ => none) else none by
      unfold readRow; rw [hN]; simp only; split
      · generalize rdV c r0 = o
        cases o with
        | none => rfl
        | some x =>
          obtain ⟨L, z⟩ := x
          cases z <;> rfl
      · rfl)
    have HRL := Lib.hid (rdN_len hN)
    obtain ⟨g, cap, rfl, hg1, hg2, c0, c1, c2⟩ := three_cells hov
    have HG := Lib.hid (show g < w2.heap.size from hg2)
    have HGX := Lib.hid (show g ≠ X by have h1 := qlt HX1.out; omega)
    have HC := Lib.hid (And.intro c0 (And.intro c1 c2))
    have HB2 := Lib.hid (HB1.out.trans hb2)
    have HX2 := Lib.hid (qbel HX1.out hb2)
    obtain ⟨⟨d0, d1⟩, g0, g1⟩ := qbox2 HX2.out
    have h32 : (2 : Int) < ((3 : Nat) : Int) := by decide
    clear hN hov hb2 hg1 hg2
    by_cases hc12 : c ≤ 12
    · have hci : ¬ (12 : Int) < (c : Int) := by omega
      have HRC := Lib.hid (show readRow l = (match rdV c r0 with | some (L, []) => some (a, b, L) | _ => none) by rw [HRR.out, if_pos hc12])
      have HC12 := Lib.hid hc12
      clear hc12
      obtain ⟨r, hr⟩ : ∃ r : ByteArray, r = ⟨r0.toArray⟩ := ⟨_, rfl⟩
      have HRD := Lib.hid (show r.data.toList = r0 by rw [hr])
      have HRZ := Lib.hid (show r.size ≤ 1000000 by rw [hr, qba_size]; have h1 := HRL.out; have h2 := HLS.out; omega)
      simp only
      rw [← hr]
      clear hr
      go_wp2_with (fail)
      obtain ⟨A, hA⟩ : ∃ A, A = w2.heap.size := ⟨_, rfl⟩
      obtain ⟨w3, hw3⟩ : ∃ z, z = w2.alloc (.cells #[.int .i64 (b : Int), .slice none 0 0] 41) := ⟨_, rfl⟩
      have hb3 : Bel w2 w3 := by rw [hw3]; exact (Bel.refl _).alloc _
      have HB3 := Lib.hid (HB2.out.trans hb3)
      have HA3 := Lib.hid (show w3.heap[A]? = some (.cells #[.int .i64 (b : Int), .slice none 0 0] 41 (0, 0)) by rw [hw3, hA]; exact heap_alloc_new w2 _)
      have HX3 := Lib.hid (qbel HX2.out hb3)
      have HC3 := Lib.hid (show w3.cell? ⟨g, 0, none⟩ = some (.int .i64 (a : Int)) ∧ w3.cell? ⟨g, 1, none⟩ = some (.int .i64 (b : Int)) ∧ w3.cell? ⟨g, 2, none⟩ = some (.int .i64 (c : Int)) from ⟨clQ hb3 HC.out.1, clQ hb3 HC.out.2.1, clQ hb3 HC.out.2.2⟩)
      have HAX := Lib.hid (show X < A by have h1 := qlt HX2.out; omega)
      have HGA := Lib.hid (show g ≠ A by have h1 := HG.out; omega)
      have HAS := Lib.hid (show w.heap.size ≤ A by have := HB2.out.size; omega)
      have HZ3 := Lib.hid (show w3.heap.size = A + 1 by rw [hw3, hA]; simp)
      rw [← hw3, ← hA]
      clear hw3 hA hb3 c0 c1 c2 d0 d1 g0 g1 hci
      go_loopw [9, 6] (fun iv sv x => RTkRel A b c 1000000 r0 w3 iv sv x) (fun iv _ _ => c - (intOf iv).toNat)
      case atStart => exact ⟨[], r, .slice none 0 0, rfl, Nat.zero_le _, rfl, HRZ.out, HA3.out, OwnG.nil _ _ _, by rw [HRD.out]; exact (preP_nil _).symm, Keep.refl _ _⟩
      case round =>
        obtain ⟨acc, q, vv, rfl, hac, rfl, hqz, hbx, hov, hpre, hkp⟩ := hrel
        have HBX := Lib.hid hbx
        have HOV := Lib.hid hov
        have HPR := Lib.hid hpre
        have HKP := Lib.hid hkp
        have HQZ := Lib.hid hqz
        have c2 : wr.cell? ⟨g, 2, none⟩ = some (.int .i64 (c : Int)) := hkp.cell HC3.out.2.2 (by have := HGA.out; simpa using this)
        obtain ⟨vp, vc, rfl⟩ := ownG_len hov
        have HNX := Lib.hid (show wr.heap[X]? = some (.cells #[.int .i64 0, .slice none 0 0] 41 (0, 0)) from hkp.at HX3.out (by have := HAX.out; simp; omega))
        have HBR := Lib.hid (show Bel w wr from keep_belq hkp HB3.out HAS.out)
        clear hbx hov hpre hkp hqz
        by_cases hlt : acc.length < c
        · have hii : (acc.length : Int) < (c : Int) := by omega
          obtain ⟨j, hj⟩ : ∃ j, c - acc.length = j + 1 := ⟨c - acc.length - 1, by omega⟩
          have HJ := Lib.hid hj
          have HJ2 := Lib.hid (show c - (acc.length + 1) = j by omega)
          have HAC := Lib.hid (show acc.length + 1 ≤ c from hlt)
          have HACL := Lib.hid (show acc.length ≤ 12 by have := HC12.out; omega)
          clear hj
          go_wp2_with (fail)
          refine (rtake_any q _ HQZ.out).mono ?_
          rintro e w5 ⟨rfl, hb5⟩
          have HB5 := Lib.hid hb5
          have HBX5 := Lib.hid (qbel HBX.out hb5)
          have HNX5 := Lib.hid (qbel HNX.out hb5)
          have HOV5 := Lib.hid (HOV.out.bel hb5)
          clear hb5 c2
          cases hv : readL q.data.toList with
          | none =>
            have HR := Lib.hid (show readRow l = none by rw [HRC.out, HPR.out, HJ.out, rdV_no hv])
            clear hv
            unfold takeV
            have hal : Bel w5 (w5.alloc (.cells #[.int .i64 0, .int .i64 0, .string ⟨#[]⟩] 29)) := (Bel.refl _).alloc _
            have HNX6 := Lib.hid (qbel HNX5.out hal)
            have HBL := Lib.hid ((HBR.out.trans HB5.out).trans hal)
            clear hal
            obtain ⟨⟨d0, d1⟩, g0, g1⟩ := qbox2 HNX6.out
            go_wp2_with (fail)
            have hst := qset (qset HNX6.out 0 (.int .i64 0)) 1 (.slice none 0 0)
            have hks := kt (keep_st (w5.alloc (.cells #[.int .i64 0, .int .i64 0, .string ⟨#[]⟩] 29)) X 0 (.int .i64 0)) (keep_st _ X 1 (.slice none 0 0))
            obtain ⟨⟨y0, y1⟩, -⟩ := qbox2 hst
            exact bodyPost_ret (v := .tuple #[.int .i64 0, .agg #[.int .i64 0, .slice none 0 0], .int .i64 8]) (by simp [results, Tryd.results24, go_sem, y0, y1]) rfl (TakPost14.no HR.out (keep_belq hks HBL.out (by have := HXE.out; omega)))
          | some x =>
            obtain ⟨u, q1⟩ := x
            have HPR2 := Lib.hid (show rdV c r0 = preP (acc ++ [u]) (rdV j q1) by rw [HPR.out, HJ.out, rdV_yes hv])
            have HQL := Lib.hid (show q1.length ≤ 1000000 by have h1 := read_len14 hv; have h2 := HQZ.out; have h3 : q.data.toList.length = q.size := rfl; omega)
            clear hv
            unfold takeV KV.val
            obtain ⟨r1, hr1⟩ : ∃ r : ByteArray, r = ⟨q1.toArray⟩ := ⟨_, rfl⟩
            have HR1 := Lib.hid (show r1.data.toList = q1 by rw [hr1])
            have HR1Z := Lib.hid (show r1.size ≤ 1000000 by rw [hr1, qba_size]; exact HQL.out)
            simp only
            rw [← hr1]
            clear hr1
            have hal : Bel w5 (w5.alloc (.cells #[.int .i64 u.k, .int .i64 u.n, .string u.s] 29)) := (Bel.refl _).alloc _
            have HBX6 := Lib.hid (qbel HBX5.out hal)
            have HU6 := Lib.hid (heap_alloc_new w5 (.cells #[.int .i64 u.k, .int .i64 u.n, .string u.s] 29))
            have HOV6 := Lib.hid (HOV5.out.bel hal)
            have HKP6 := Lib.hid ((HKP.out.then HB5.out).then hal)
            have HSZ6 := Lib.hid (show A + 1 ≤ (w5.alloc (.cells #[.int .i64 u.k, .int .i64 u.n, .string u.s] 29)).heap.size by have h1 := qlt HBX6.out; omega)
            clear hal
            obtain ⟨⟨c0, c1⟩, f0, f1⟩ := qbox2 HBX6.out
            obtain ⟨⟨u0, u1, u2⟩, -⟩ := qbox3 HU6.out
            go_wp2_with (at_builtin; refine stop_here ?_)
            refine go_on ?_
            refine append_glitQ (x := w5.alloc (.cells #[.int .i64 u.k, .int .i64 u.n, .string u.s] 29)) valOk rfl _ _ rfl rfl HOV6.out (w5.heap.size + 1) (World.size_alloc _ _).symm _ _ _ [u] rfl rfl rfl (by have := HACL.out; simp [maxLen]; omega) (by have := HACL.out; simp; omega) HSZ6.out (Or.inl rfl) ?_
            intro v3 w6 hown3 hbel3 hZ3
            obtain ⟨pp3, cap3, rfl⟩ := ownG_len hown3
            have hbx := (hbel3.block A (by omega)).trans HBX6.out
            have HBX7 := Lib.hid hbx
            have HOW := Lib.hid hown3
            have HKP7 := Lib.hid (keep_belowA HKP6.out hbel3 HZ3.out)
            have HLN := Lib.hid (show (acc ++ [u]).length = acc.length + 1 by simp)
            clear hbel3 hown3 c0 c1 f0 f1 u0 u1 u2 hZ3
            obtain ⟨M, hM⟩ : ∃ M, M = acc ++ [u] := ⟨_, rfl⟩
            rw [← hM] at HOW HPR2 HLN ⊢
            clear hM
            obtain ⟨⟨c0, c1⟩, f0, f1⟩ := qbox2 hbx
            clear hbx
            have hwr : wrap64 ((acc.length : Int) + 1) = (acc.length : Int) + 1 := by unfold wrap64; have := HACL.out; omega
            go_wp2_with (fail)
            go_roundw
            case rel => exact ⟨M, r1, .slice pp3 M.length cap3, by rw [HLN.out]; first | rfl | (rw [hwr]; rfl), by rw [HLN.out]; exact HAC.out, rfl, HR1Z.out, qset HBX7.out 1 _, HOW.out.setCell (p := ⟨A, 1, none⟩) (by show A < A + 1; omega) _, by rw [HPR2.out, HLN.out, HJ2.out, HR1.out], HKP7.out.setCell (p := ⟨A, 1, none⟩) (Or.inl (by simp)) _⟩
            case measure => exact meas14 hlt hwr
        · obtain hee : acc.length = c := by omega
          have hii : ¬ (acc.length : Int) < (c : Int) := by omega
          have HV := Lib.hid (show rdV c r0 = some (acc, q.data.toList) by rw [HPR.out, show c - acc.length = 0 by omega]; simp [preP, rdV])
          have c0 : wr.cell? ⟨g, 0, none⟩ = some (.int .i64 (a : Int)) := HKP.out.cell HC3.out.1 (by have := HGA.out; simpa using this)
          obtain ⟨⟨d0, d1⟩, g0, g1⟩ := qbox2 HNX.out
          obtain ⟨⟨e0, e1⟩, -⟩ := qbox2 HBX.out
          clear hee
          by_cases hq0 : q.size = 0
          · obtain rfl : q = ⟨#[]⟩ := by apply ByteArray.ext; exact Array.eq_empty_of_size_eq_zero hq0
            have HR := Lib.hid (show readRow l = some (a, b, acc) by rw [HRC.out, HV.out])
            clear hq0
            go_wp2_with (fail)
            go_region
            go_wp2_with (fail)
            all_goals
              have hst := qset (qset HNX.out 0 (.int .i64 (b : Int))) 1 (.slice vp acc.length vc)
              have hks := kt (keep_st wr X 0 (.int .i64 (b : Int))) (keep_st _ X 1 (.slice vp acc.length vc))
              obtain ⟨⟨y0, y1⟩, -⟩ := qbox2 hst
              have ho := (HOV.out.keep hks (fun b hb hm => by have h8 := (HOV.out.lt b hb).1; have h9 := HAX.out; rw [List.mem_singleton] at hm; omega)).low (show w.heap.size ≤ A + 1 by have := HAS.out; omega)
              exact bodyPost_ret (v := .tuple #[.int .i64 (a : Int), .agg #[.int .i64 (b : Int), .slice vp acc.length vc], .int .i64 0]) (by simp [results, Tryd.results24, go_sem, y0, y1, Act.put]) rfl (TakPost14.yes HR.out ho (keep_belq hks.drew HBR.out (by have := HXE.out; omega)))
          · have hne : q.toList.isEmpty = false := by
              rw [ByteArray.toList_eq]
              cases h : q.data.toList with
              | nil => exfalso; have e : q.data.toList.length = q.size := rfl; rw [h] at e; simp at e; omega
              | cons a l => rfl
            have HR := Lib.hid (show readRow l = none by
              rw [HRC.out, HV.out]
              cases h : q.data.toList with
              | nil => exfalso; have e : q.data.toList.length = q.size := rfl; rw [h] at e; simp at e; omega
              | cons a l => rfl)
            clear hq0
            go_wp2_with (fail)
            have hst := qset (qset HNX.out 0 (.int .i64 0)) 1 (.slice none 0 0)
            have hks := kt (keep_st wr X 0 (.int .i64 0)) (keep_st _ X 1 (.slice none 0 0))
            obtain ⟨⟨y0, y1⟩, -⟩ := qbox2 hst
            exact bodyPost_ret (v := .tuple #[.int .i64 0, .agg #[.int .i64 0, .slice none 0 0], .int .i64 8]) (by simp [results, Tryd.results24, go_sem, y0, y1]) rfl (TakPost14.no HR.out (keep_belq hks HBR.out (by have := HXE.out; omega)))
    · have hci : (12 : Int) < (c : Int) := by omega
      have HR := Lib.hid (show readRow l = none by rw [HRR.out, if_neg hc12])
      clear hc12
      go_wp2_with (fail)
      have hst := qset (qset HX2.out 0 (.int .i64 0)) 1 (.slice none 0 0)
      have hks := kt (keep_st w2 X 0 (.int .i64 0)) (keep_st _ X 1 (.slice none 0 0))
      obtain ⟨⟨y0, y1⟩, -⟩ := qbox2 hst
      exact bodyPost_ret (v := .tuple #[.int .i64 0, .agg #[.int .i64 0, .slice none 0 0], .int .i64 8]) (by simp [results, Tryd.results24, go_sem, y0, y1]) rfl (TakPost14.no HR.out (keep_belq hks HB2.out (by have := HXE.out; omega)))
end Go.Proofs.YtbalkchphijehaaDoor
/- moultref14.Unpack. -/
set_option maxRecDepth 20000
namespace Go.Proofs.YtbalkchphijehaaDoor
open Go.RowKit Go.Deep

theorem step_append_kQ {α : Type} {E : El α} {B b : Nat} {x : World} {v : Value} {L : List α} (hE : ElOk E b) {ops : Array Oper} {o : Oper} {a : Act} {K : Act → World → Prop} {Q : Exit → Act → World → Prop} {F : Prop} {W : World} {T : TypeId} (hgd : o.guard = none) (s y : Operand)
    (ho : o.op = .call { callee := .builtin .append, args := #[s, y], argTypes := #[E.ST, E.ST] })
    (hs : a.eval s = v) (hown : OwnG E B x v L) (n : Nat) (hn : n = x.heap.size)
    (arr : Array Value) (m c : Nat) (news : List α) (hx : a.eval y = .slice (some ⟨n, 0, none⟩) m c) (hm : m = news.length) (harr : arr.toList = E.all news)
    (hl1 : L.length + news.length ≤ maxLen) (hlim : (L.length + news.length) * b ≤ 140737488355328) (hbase : B ≤ x.heap.size) (hW : W = x.alloc (.cells arr T) ∨ W = (x.alloc (.cells arr T)).drew)
    (h : ∀ v' w', OwnG E B w' v' (L ++ news) → Keep v.ownBlock.toList x w' → K (a.put o.dst v') w') : if Region.wanted o (yielded ops a.tmps) = true then o.wp Tryd.prog a W K Q else F := by
  subst hn
  rw [if_pos (by simp [Region.wanted, hgd])]
  have hsz : W.heap.size = x.heap.size + 1 := by rcases hW with rfl | rfl <;> simp [World.drew]
  have hc : ∀ j u, (E.all news)[j]? = some u → W.cell? ((⟨x.heap.size, 0, none⟩ : Addr).add j) = some u := by rcases hW with rfl | rfl <;> exact cellsG_new x arr T news harr
  have ho' : OwnG E B W v L := by rcases hW with rfl | rfl <;> exact hown.alloc _
  have hb : Bel x W := by
    rcases hW with rfl | rfl
    · exact (Bel.refl x).alloc _
    · exact ((Bel.refl x).alloc _).drew
  refine wp_append_gen hE s y ho hs ho' ⟨x.heap.size, 0, none⟩ m c news hx hm hc hl1 hlim (by omega) ?_
  intro v' w' h1 hg _
  exact h v' w' h1 ((Keep.of_bel hb _).grown hg (fun r hr => Or.inl (by rw [hr]; simp)))
def RUnRel (A : Nat) (a b : Int) (c : Nat) (s0 : List UInt8) (w : World) (iv sv : Value) (x : World) : Prop :=
  ∃ (acc : List FV) (r : ByteArray) (vv : Value), iv = .int .i64 (acc.length : Int) ∧ acc.length ≤ c ∧ sv = .string r ∧ r.size ≤ 1000000 ∧ x.heap[A]? = some (.cells #[.int .i64 a, .int .i64 b, vv] 24 (0, 0)) ∧ OwnG fldEl (A + 1) x vv acc ∧ rdFs c s0 = preP acc (rdFs (c - acc.length) r.data.toList) ∧ allF acc ∧ Keep [A] w x
set_option maxHeartbeats 32000000 in
theorem run14_any (s : ByteArray) (w : World) (hs : s.size ≤ 1000000) :
    Calls Tryd.prog 50 #[.string s] w (UnpPost14 (readS s.data.toList) w) := by
  obtain ⟨l, hl⟩ : ∃ l, l = s.data.toList := ⟨_, rfl⟩
  rw [← hl]
  have HLE := Lib.hid hl
  have HLS := Lib.hid (show l.length ≤ 1000000 by have e : s.data.toList.length = s.size := rfl; rw [← hl] at e; omega)
  have HSS := Lib.hid hs
  clear hl hs
  obtain ⟨X, hX⟩ : ∃ X, X = w.heap.size := ⟨_, rfl⟩
  have HXE := Lib.hid hX
  obtain ⟨w1, hw1⟩ : ∃ z, z = w.alloc (.cells #[.int .i64 0, .int .i64 0, .slice none 0 0] 24) := ⟨_, rfl⟩
  have HB1 := Lib.hid (show Bel w w1 by rw [hw1]; exact (Bel.refl w).alloc _)
  have HX1 := Lib.hid (show w1.heap[X]? = some (.cells #[.int .i64 0, .int .i64 0, .slice none 0 0] 24 (0, 0)) by rw [hw1, hX]; exact heap_alloc_new w _)
  go_enter Tryd.func50, Tryd.ntmps50
  go_wp2_with (fail)
  rw [← hw1, ← hX]
  clear hw1 hX
  refine (rnumbers14_any s _ HSS.out).mono ?_
  intro e w2 hnp
  rw [← HLE.out] at hnp
  cases hN : rdN 3 l with
  | none =>
    rw [hN] at hnp
    obtain ⟨rfl, hb2⟩ := hnp
    have HR := Lib.hid (show readS l = none by unfold readS; rw [hN])
    have HB2 := Lib.hid (HB1.out.trans hb2)
    have HX2 := Lib.hid (qbel HX1.out hb2)
    obtain ⟨⟨d0, d1, d2⟩, g0, g1, g2⟩ := qbox3 HX2.out
    clear hN hb2
    go_wp2_with (fail)
    have hst := qset (qset (qset HX2.out 0 (.int .i64 0)) 1 (.int .i64 0)) 2 (.slice none 0 0)
    have hks := kt (kt (keep_st w2 X 0 (.int .i64 0)) (keep_st _ X 1 (.int .i64 0))) (keep_st _ X 2 (.slice none 0 0))
    obtain ⟨⟨y0, y1, y2⟩, -⟩ := qbox3 hst
    exact bodyPost_ret (v := .tuple #[.agg #[.int .i64 0, .int .i64 0, .slice none 0 0], .string ⟨#[]⟩, .int .i64 8]) (by simp [results, Tryd.results50, go_sem, y0, y1, y2]) rfl (UnpPost14.no HR.out (keep_belq hks HB2.out (by have := HXE.out; omega)))
  | some q =>
    obtain ⟨N, r0⟩ := q
    obtain ⟨a, b, c, rfl⟩ := three_of (rdN_back 3 l N r0 hN).1
    rw [hN] at hnp
    obtain ⟨v, rfl, hov, hb2⟩ := hnp
    have HRR := Lib.hid (show readS l = if c ≤ 12 then (match rdFs c r0 with | some (L, x) => if rightS ⟨a, b, L⟩ = true then some (⟨a, b, L⟩, x) else none | none => none) else none by
      unfold readS; rw [hN]; simp only; split
      · generalize rdFs c r0 = o
        cases o <;> rfl
      · rfl)
    have HRL := Lib.hid (rdN_len hN)
    obtain ⟨g, cap, rfl, hg1, hg2, c0, c1, c2⟩ := three_cells hov
    have HG := Lib.hid (show g < w2.heap.size from hg2)
    have HGX := Lib.hid (show g ≠ X by have h1 := qlt HX1.out; omega)
    have HC := Lib.hid (And.intro c0 (And.intro c1 c2))
    have HB2 := Lib.hid (HB1.out.trans hb2)
    have HX2 := Lib.hid (qbel HX1.out hb2)
    obtain ⟨⟨d0, d1, d2⟩, g0, g1, g2⟩ := qbox3 HX2.out
    have h31 : (1 : Int) < ((3 : Nat) : Int) := by decide
    have h32 : (2 : Int) < ((3 : Nat) : Int) := by decide
    clear hN hov hb2 hg1 hg2
    by_cases hc12 : c ≤ 12
    · have hci : ¬ (12 : Int) < (c : Int) := by omega
      have HRC := Lib.hid (show readS l = (match rdFs c r0 with | some (L, x) => if rightS ⟨a, b, L⟩ = true then some (⟨a, b, L⟩, x) else none | none => none) by rw [HRR.out, if_pos hc12])
      have HC12 := Lib.hid hc12
      clear hc12
      obtain ⟨r, hr⟩ : ∃ r : ByteArray, r = ⟨r0.toArray⟩ := ⟨_, rfl⟩
      have HRD := Lib.hid (show r.data.toList = r0 by rw [hr])
      have HRZ := Lib.hid (show r.size ≤ 1000000 by rw [hr, qba_size]; have h1 := HRL.out; have h2 := HLS.out; omega)
      simp only
      rw [← hr]
      clear hr
      go_wp2_with (fail)
      refine wp_region_held_drew (S := fun z => z.cell? ⟨g, 0, none⟩ = some (.int .i64 (a : Int)) ∧ z.cell? ⟨g, 1, none⟩ = some (.int .i64 (b : Int)) ∧ z.cell? ⟨g, 2, none⟩ = some (.int .i64 (c : Int))) (by kernel_rfl) ⟨c0, c1, c2⟩ (fun hHeld => ?_)
      refine wpAnyH_take (i := 0) (oi := { dst := some 32, op := Op.move (Operand.tmp 5), type := 78, pos := "ref.go:165", after := #[], guard := none }) (v := ?_) rfl (by kernel_rfl) (by kernel_rfl) (by kernel_rfl) (fun _ _ _ h => h) (Or.inl ⟨by rfl, ?_⟩) (by assumption) ?_
      rotate_left
      · (intro w hSw; (try dsimp only at hSw); first | (go_simp; done) | (go_simp; with_reducible rfl))
      try simp only [Act.put, List.setIfInBounds_toArray, List.set_cons_zero, List.set_cons_succ]
      refine wpAnyH_take (i := 1) (oi := { dst := some 33, op := Op.indexAddr 78 (Operand.tmp 32) (Operand.const (Value.int IntKind.i64 0)), type := 0, pos := "ref.go:165", after := #[{ on := 0, ground := Ground.data }], guard := none }) (v := ?_) rfl (by kernel_rfl) (by kernel_rfl) (by kernel_rfl) (fun _ _ _ h => h) (Or.inl ⟨by rfl, ?_⟩) (by assumption) ?_
      rotate_left
      · (intro w hSw; (try dsimp only at hSw); first | (go_simp; done) | (go_simp; with_reducible rfl))
      try simp only [Act.put, List.setIfInBounds_toArray, List.set_cons_zero, List.set_cons_succ]
      refine wpAnyH_take (i := 2) (oi := { dst := some 34, op := Op.load 3 (Operand.tmp 33), type := 3, pos := "ref.go:165", after := #[{ on := 1, ground := Ground.data }], guard := none }) (v := ?_) rfl (by kernel_rfl) (by kernel_rfl) (by kernel_rfl) (fun _ _ _ h => h) (Or.inl ⟨by rfl, ?_⟩) (by assumption) ?_
      rotate_left
      · (intro w hSw; (try dsimp only at hSw); first | (go_simp; done) | (go_simp; with_reducible rfl))
      try simp only [Act.put, List.setIfInBounds_toArray, List.set_cons_zero, List.set_cons_succ]
      refine wpAnyH_take (i := 3) (oi := { dst := some 35, op := Op.move (Operand.tmp 5), type := 78, pos := "ref.go:165", after := #[], guard := none }) (v := ?_) rfl (by kernel_rfl) (by kernel_rfl) (by kernel_rfl) (fun _ _ _ h => h) (Or.inl ⟨by rfl, ?_⟩) (by assumption) ?_
      rotate_left
      · (intro w hSw; (try dsimp only at hSw); first | (go_simp; done) | (go_simp; with_reducible rfl))
      try simp only [Act.put, List.setIfInBounds_toArray, List.set_cons_zero, List.set_cons_succ]
      refine wpAnyH_take (i := 4) (oi := { dst := some 36, op := Op.indexAddr 78 (Operand.tmp 35) (Operand.const (Value.int IntKind.i64 1)), type := 0, pos := "ref.go:165", after := #[{ on := 3, ground := Ground.data }], guard := none }) (v := ?_) rfl (by kernel_rfl) (by kernel_rfl) (by kernel_rfl) (fun _ _ _ h => h) (Or.inl ⟨by rfl, ?_⟩) (by assumption) ?_
      rotate_left
      · (intro w hSw; (try dsimp only at hSw); first | (go_simp; done) | (go_simp; with_reducible rfl))
      try simp only [Act.put, List.setIfInBounds_toArray, List.set_cons_zero, List.set_cons_succ]
      refine wpAnyH_take (i := 5) (oi := { dst := some 37, op := Op.load 3 (Operand.tmp 36), type := 3, pos := "ref.go:165", after := #[{ on := 4, ground := Ground.data }], guard := none }) (v := ?_) rfl (by kernel_rfl) (by kernel_rfl) (by kernel_rfl) (fun _ _ _ h => h) (Or.inl ⟨by rfl, ?_⟩) (by assumption) ?_
      rotate_left
      · (intro w hSw; (try dsimp only at hSw); first | (go_simp; done) | (go_simp; with_reducible rfl))
      try simp only [Act.put, List.setIfInBounds_toArray, List.set_cons_zero, List.set_cons_succ]
      refine wpAnyH_take (i := 6) (oi := { dst := some 38, op := Op.build 24 #[(0, Operand.tmp 34), (1, Operand.tmp 37)], type := 24, pos := "ref.go:165", after := #[{ on := 2, ground := Ground.data }, { on := 5, ground := Ground.data }], guard := none }) (v := ?_) rfl (by kernel_rfl) (by kernel_rfl) (by kernel_rfl) (fun _ _ _ h => h) (Or.inl ⟨by rfl, ?_⟩) (by assumption) ?_
      rotate_left
      · (intro w hSw; (try dsimp only at hSw); first | (go_simp; done) | (go_simp; with_reducible rfl))
      try simp only [Act.put, List.setIfInBounds_toArray, List.set_cons_zero, List.set_cons_succ]
      refine wpAnyH_ready (rs := [7]) (by kernel_rfl) (by simp) ?_
      refine AllReadyH.cons (o := { dst := some 8, op := Op.alloc 24, type := 0, pos := "ref.go:165", after := #[], guard := none }) rfl (fun K hK => ?_) AllReadyH.nil
      go_simp
      obtain ⟨A, hA⟩ : ∃ A, A = w2.heap.size := ⟨_, rfl⟩
      obtain ⟨x2, hx2⟩ : ∃ x, x = (w2.alloc (.cells #[.int .i64 0, .int .i64 0, .slice none 0 0] 24)).drew := ⟨_, rfl⟩
      have hkX : x2.heap[A]? = some (.cells #[.int .i64 0, .int .i64 0, .slice none 0 0] 24 (0, 0)) := by rw [hx2, hA]; exact heap_alloc_new w2 _
      have hbx2 : Bel w2 x2 := by rw [hx2]; exact ((Bel.refl w2).alloc _).drew
      have hs2 : x2.heap.size = A + 1 := by rw [hx2, hA]; simp
      refine hK.out _ _ (by rw [← hx2]; exact ⟨clQ hbx2 c0, clQ hbx2 c1, clQ hbx2 c2⟩) (fun hHeld => ?_)
      clear hK K
      try simp only [Act.put, List.setIfInBounds_toArray, List.set_cons_zero, List.set_cons_succ]
      rw [← hx2, ← hA]
      have HKX := Lib.hid hkX
      have HBX2 := Lib.hid hbx2
      have HSX := Lib.hid hs2
      have HAE := Lib.hid hA
      obtain ⟨⟨p0, p1, p2⟩, q0, q1, q2⟩ := qbox3 hkX
      clear hx2 hkX hbx2 hs2 hA
      refine wpAnyH_ready (rs := [8]) (by kernel_rfl) (by simp) ?_
      refine AllReadyH.cons (o := { dst := none, op := Op.store 24 (Operand.tmp 8) (Operand.tmp 38), type := 0, pos := "ref.go:165", after := #[{ on := 7, ground := Ground.data }, { on := 6, ground := Ground.data }, { on := 0, ground := Ground.phase }, { on := 1, ground := Ground.phase }, { on := 2, ground := Ground.phase }, { on := 3, ground := Ground.phase }, { on := 4, ground := Ground.phase }, { on := 5, ground := Ground.phase }, { on := 6, ground := Ground.phase }, { on := 7, ground := Ground.phase }], guard := none }) rfl (fun K hK => ?_) AllReadyH.nil
      go_simp
      obtain ⟨w3, hw3⟩ : ∃ x, x = ((x2.setCell ⟨A, 0, none⟩ (.int .i64 (a : Int))).setCell ⟨A, 1, none⟩ (.int .i64 (b : Int))).setCell ⟨A, 2, none⟩ (.slice none 0 0) := ⟨_, rfl⟩
      have hk3 : w3.heap[A]? = some (.cells #[.int .i64 (a : Int), .int .i64 (b : Int), .slice none 0 0] 24 (0, 0)) := by rw [hw3]; exact qset (qset (qset HKX.out 0 _) 1 _) 2 _
      have hb3 : Bel w2 w3 := by rw [hw3]; exact keep_belq (kt (kt (keep_st x2 A 0 _) (keep_st _ A 1 _)) (keep_st _ A 2 _)) HBX2.out (by rw [HAE.out]; exact Nat.le_refl _)
      have hz3 : w3.heap.size = A + 1 := by rw [hw3]; simp [World.setCell, HSX.out]
      refine hK.out _ _ (by rw [← hw3]; exact ⟨clQ hb3 HC.out.1, clQ hb3 HC.out.2.1, clQ hb3 HC.out.2.2⟩) (fun hHeld => ?_)
      clear hK K
      try simp only [Act.put, List.setIfInBounds_toArray, List.set_cons_zero, List.set_cons_succ]
      rw [← hw3]
      refine wpAnyH_done (by kernel_rfl) ?_ _
      have HB3 := Lib.hid (HB2.out.trans hb3)
      have HA3 := Lib.hid hk3
      have HX3 := Lib.hid (qbel HX2.out hb3)
      have HZ3 := Lib.hid hz3
      have HC3 := Lib.hid (show w3.cell? ⟨g, 0, none⟩ = some (.int .i64 (a : Int)) ∧ w3.cell? ⟨g, 1, none⟩ = some (.int .i64 (b : Int)) ∧ w3.cell? ⟨g, 2, none⟩ = some (.int .i64 (c : Int)) from ⟨clQ hb3 HC.out.1, clQ hb3 HC.out.2.1, clQ hb3 HC.out.2.2⟩)
      have HAX := Lib.hid (show X < A by have h1 := qlt HX2.out; have h2 := HAE.out; omega)
      have HGA := Lib.hid (show g ≠ A by have h1 := HG.out; have h2 := HAE.out; omega)
      have HAS := Lib.hid (show w.heap.size ≤ A by have := HB2.out.size; have h2 := HAE.out; omega)
      clear hw3 hk3 hb3 hz3 c0 c1 c2 d0 d1 d2 g0 g1 g2 p0 p1 p2 q0 q1 q2 hci hHeld
      go_wp2_with (fail)
      go_loopw [9, 6] (fun iv sv x => RUnRel A a b c r0 w3 iv sv x) (fun iv _ _ => c - (intOf iv).toNat)
      case atStart => exact ⟨[], r, .slice none 0 0, rfl, Nat.zero_le _, rfl, HRZ.out, HA3.out, OwnG.nil _ _ _, by rw [HRD.out]; exact (preP_nil _).symm, fun f hf => (by cases hf), Keep.refl _ _⟩
      case round =>
        obtain ⟨acc, q, vv, rfl, hac, rfl, hqz, hbx, hov, hpre, hokA, hkp⟩ := hrel
        have HBX := Lib.hid hbx
        have HOV := Lib.hid hov
        have HPR := Lib.hid hpre
        have HKP := Lib.hid hkp
        have HQZ := Lib.hid hqz
        have HOK := Lib.hid hokA
        have c2 : wr.cell? ⟨g, 2, none⟩ = some (.int .i64 (c : Int)) := hkp.cell HC3.out.2.2 (by have := HGA.out; simpa using this)
        obtain ⟨vp, vc, rfl⟩ := ownG_len hov
        have HNX := Lib.hid (show wr.heap[X]? = some (.cells #[.int .i64 0, .int .i64 0, .slice none 0 0] 24 (0, 0)) from hkp.at HX3.out (by have := HAX.out; simp; omega))
        have HBR := Lib.hid (show Bel w wr from keep_belq hkp HB3.out HAS.out)
        clear hbx hov hpre hkp hqz hokA
        by_cases hlt : acc.length < c
        · have hii : (acc.length : Int) < (c : Int) := by omega
          obtain ⟨j, hj⟩ : ∃ j, c - acc.length = j + 1 := ⟨c - acc.length - 1, by omega⟩
          have HJ := Lib.hid hj
          have HJ2 := Lib.hid (show c - (acc.length + 1) = j by omega)
          have HAC := Lib.hid (show acc.length + 1 ≤ c from hlt)
          have HACL := Lib.hid (show acc.length ≤ 12 by have := HC12.out; omega)
          have HFAIL := Lib.hid (show rdF q.data.toList = none → readS l = none from fun h => by rw [HRC.out, HPR.out, HJ.out, rdFs_no h])
          clear hj
          go_wp2_with (fail)
          refine (rnumbers14_any q _ HQZ.out).mono ?_
          intro e w5 hnp
          cases hN : rdN 3 q.data.toList with
          | none =>
            rw [hN] at hnp
            obtain ⟨rfl, hb5⟩ := hnp
            have HR := Lib.hid (HFAIL.out (by unfold rdF; rw [hN]))
            have HB5 := Lib.hid (HBR.out.trans hb5)
            have HX5 := Lib.hid (qbel HNX.out hb5)
            obtain ⟨⟨d0, d1, d2⟩, g0, g1, g2⟩ := qbox3 HX5.out
            clear hN hb5 c2
            go_wp2_with (fail)
            have hst := qset (qset (qset HX5.out 0 (.int .i64 0)) 1 (.int .i64 0)) 2 (.slice none 0 0)
            have hks := kt (kt (keep_st w5 X 0 (.int .i64 0)) (keep_st _ X 1 (.int .i64 0))) (keep_st _ X 2 (.slice none 0 0))
            obtain ⟨⟨y0, y1, y2⟩, -⟩ := qbox3 hst
            exact bodyPost_ret (v := .tuple #[.agg #[.int .i64 0, .int .i64 0, .slice none 0 0], .string ⟨#[]⟩, .int .i64 8]) (by simp [results, Tryd.results50, go_sem, y0, y1, y2]) rfl (UnpPost14.no HR.out (keep_belq hks HB5.out (by have := HXE.out; omega)))
          | some qq =>
            obtain ⟨N2, r2⟩ := qq
            obtain ⟨a2, b2, c3, rfl⟩ := three_of (rdN_back 3 _ N2 r2 hN).1
            have HN3 := Lib.hid (rdN_back 3 _ _ r2 hN).2.2
            rw [hN] at hnp
            obtain ⟨v2, rfl, hov2, hb5⟩ := hnp
            have HRF := Lib.hid (show rdF q.data.toList = if c3 ≤ r2.length then (match readL (r2.drop c3) with | some (v, x) => some (⟨a2, b2, ⟨(r2.take c3).toArray⟩, v⟩, x) | none => none) else none by
              unfold rdF; rw [hN]; simp only; split
              · generalize readL (r2.drop c3) = o
                cases o <;> rfl
              · rfl)
            have HR2L := Lib.hid (show r2.length ≤ 1000000 by have h1 := rdN_len hN; have h2 := HQZ.out; have h3 : q.data.toList.length = q.size := rfl; omega)
            obtain ⟨gm, capm, rfl, hgm1, hgm2, m0, m1, m2⟩ := three_cells hov2
            have HGM := Lib.hid (And.intro hgm1 hgm2)
            have HM := Lib.hid (And.intro m0 (And.intro m1 m2))
            have HB5 := Lib.hid hb5
            have HBX5 := Lib.hid (qbel HBX.out hb5)
            have HNX5 := Lib.hid (qbel HNX.out hb5)
            have HOV5 := Lib.hid (HOV.out.bel hb5)
            have HOB := Lib.hid (show ∀ k, (Value.slice vp acc.length vc).ownBlock = some k → k < wr.heap.size from fun k hk => (HOV.out.lt k hk).2)
            obtain ⟨⟨d0, d1, d2⟩, g0, g1, g2⟩ := qbox3 HNX5.out
            obtain ⟨rr, hrr⟩ : ∃ r : ByteArray, r = ⟨r2.toArray⟩ := ⟨_, rfl⟩
            have HRR2 := Lib.hid (show rr.data.toList = r2 by rw [hrr])
            have hrz : rr.size = r2.length := by rw [hrr, qba_size]
            have HRZ2 := Lib.hid hrz
            simp only
            rw [← hrr]
            clear hrr hN hov2 hb5 hgm1 hgm2 c2
            by_cases hcl : c3 ≤ r2.length
            · have hcli : ¬ (rr.size : Int) < (c3 : Int) := by rw [hrz]; omega
              have hcz : c3 ≤ rr.size := by rw [hrz]; exact hcl
              have hczi : (c3 : Int) ≤ (rr.size : Int) := by omega
              have HRF2 := Lib.hid (show rdF q.data.toList = (match readL (r2.drop c3) with | some (v, x) => some (⟨a2, b2, ⟨(r2.take c3).toArray⟩, v⟩, x) | none => none) by rw [HRF.out, if_pos hcl])
              have HEX := Lib.hid (show rr.extract c3 rr.size = ⟨(r2.drop c3).toArray⟩ by rw [qext_drop, HRR2.out])
              have HEX1 := Lib.hid (show rr.extract 0 c3 = ⟨(r2.take c3).toArray⟩ by rw [qext_take, HRR2.out])
              have HCZ := Lib.hid hcz
              clear hrz hcl
              go_wp2_with (fail)
              refine (rtake_any (rr.extract c3 rr.size) _ (by rw [HEX.out, qba_size, List.length_drop]; have := HR2L.out; omega)).mono ?_
              rintro e w6 ⟨rfl, hb6⟩
              rw [show (rr.extract c3 rr.size).data.toList = r2.drop c3 by rw [HEX.out]]
              have HB6 := Lib.hid (HB5.out.trans hb6)
              have HBX6 := Lib.hid (qbel HBX5.out hb6)
              have HNX6 := Lib.hid (qbel HNX5.out hb6)
              have HOV6 := Lib.hid (HOV5.out.bel hb6)
              have HM6 := Lib.hid (show w6.cell? ⟨gm, 0, none⟩ = some (.int .i64 (a2 : Int)) ∧ w6.cell? ⟨gm, 1, none⟩ = some (.int .i64 (b2 : Int)) ∧ w6.cell? ⟨gm, 2, none⟩ = some (.int .i64 (c3 : Int)) from ⟨clQ hb6 HM.out.1, clQ hb6 HM.out.2.1, clQ hb6 HM.out.2.2⟩)
              clear hb6 d0 d1 d2 g0 g1 g2 m0 m1 m2
              cases hv : readL (r2.drop c3) with
              | none =>
                have HR := Lib.hid (HFAIL.out (by rw [HRF2.out, hv]))
                clear hv
                unfold takeV
                have hal : Bel w6 (w6.alloc (.cells #[.int .i64 0, .int .i64 0, .string ⟨#[]⟩] 29)) := (Bel.refl _).alloc _
                have HNX7 := Lib.hid (qbel HNX6.out hal)
                have HBL := Lib.hid ((HBR.out.trans HB6.out).trans hal)
                clear hal
                obtain ⟨⟨d0, d1, d2⟩, g0, g1, g2⟩ := qbox3 HNX7.out
                go_wp2_with (fail)
                have hst := qset (qset (qset HNX7.out 0 (.int .i64 0)) 1 (.int .i64 0)) 2 (.slice none 0 0)
                have hks := kt (kt (keep_st (w6.alloc (.cells #[.int .i64 0, .int .i64 0, .string ⟨#[]⟩] 29)) X 0 (.int .i64 0)) (keep_st _ X 1 (.int .i64 0))) (keep_st _ X 2 (.slice none 0 0))
                obtain ⟨⟨y0, y1, y2⟩, -⟩ := qbox3 hst
                exact bodyPost_ret (v := .tuple #[.agg #[.int .i64 0, .int .i64 0, .slice none 0 0], .string ⟨#[]⟩, .int .i64 8]) (by simp [results, Tryd.results50, go_sem, y0, y1, y2]) rfl (UnpPost14.no HR.out (keep_belq hks HBL.out (by have := HXE.out; omega)))
              | some x =>
                obtain ⟨u, q1⟩ := x
                have hfv : rdF q.data.toList = some (⟨a2, b2, ⟨(r2.take c3).toArray⟩, u⟩, q1) := by rw [HRF2.out, hv]
                have HPR2 := Lib.hid (show rdFs c r0 = preP (acc ++ [⟨a2, b2, ⟨(r2.take c3).toArray⟩, u⟩]) (rdFs j q1) by rw [HPR.out, HJ.out, rdFs_yes hfv])
                have HOKN := Lib.hid (rdF_okay hfv)
                have HQL := Lib.hid (show q1.length ≤ 1000000 by have h1 := rdF_len hfv; have h2 := HQZ.out; have h3 : q.data.toList.length = q.size := rfl; omega)
                clear hv hfv
                unfold takeV KV.val
                obtain ⟨r1, hr1⟩ : ∃ r : ByteArray, r = ⟨q1.toArray⟩ := ⟨_, rfl⟩
                have HR1 := Lib.hid (show r1.data.toList = q1 by rw [hr1])
                have HR1Z := Lib.hid (show r1.size ≤ 1000000 by rw [hr1, qba_size]; exact HQL.out)
                simp only
                rw [← hr1]
                clear hr1
                go_wp2_with (fail)
                obtain ⟨y, hy⟩ : ∃ y, y = w6.alloc (.cells #[.int .i64 u.k, .int .i64 u.n, .string u.s] 29) := ⟨_, rfl⟩
                obtain ⟨Z, hZ⟩ : ∃ Z, Z = w6.heap.size := ⟨_, rfl⟩
                have hal : Bel w6 y := by rw [hy]; exact (Bel.refl _).alloc _
                have HU7 := Lib.hid (show y.heap[Z]? = some (.cells #[.int .i64 u.k, .int .i64 u.n, .string u.s] 29 (0, 0)) by rw [hy, hZ]; exact heap_alloc_new w6 _)
                have HBX7 := Lib.hid (qbel HBX6.out hal)
                have HOV7 := Lib.hid (HOV6.out.bel hal)
                have HKP7 := Lib.hid ((HKP.out.then HB6.out).then hal)
                have HM7 := Lib.hid (show y.cell? ⟨gm, 0, none⟩ = some (.int .i64 (a2 : Int)) ∧ y.cell? ⟨gm, 1, none⟩ = some (.int .i64 (b2 : Int)) ∧ y.cell? ⟨gm, 2, none⟩ = some (.int .i64 (c3 : Int)) from ⟨clQ hal HM6.out.1, clQ hal HM6.out.2.1, clQ hal HM6.out.2.2⟩)
                have HOBZ := Lib.hid (show ∀ k, (Value.slice vp acc.length vc).ownBlock = some k → A + 1 ≤ k ∧ k ≠ gm ∧ k ≠ Z from fun k hk => by
                  have h1 := HOB.out k hk
                  have h2 := HGM.out.1
                  have h3 := HB6.out.size
                  have h4 := (HOV.out.lt k hk).1
                  exact ⟨h4, by omega, by omega⟩)
                have HSZ7 := Lib.hid (show A + 1 ≤ y.heap.size by have h1 := qlt HBX7.out; omega)
                have HNA := Lib.hid (show gm ≠ A ∧ Z ≠ A by have h1 := qlt HBX.out; have h2 := HGM.out.1; have h3 := HB6.out.size; exact ⟨by omega, by omega⟩)
                rw [← hy, ← hZ]
                clear hy hZ hal
                obtain ⟨f, hf⟩ : ∃ f : FV, f = ⟨a2, b2, ⟨(r2.take c3).toArray⟩, u⟩ := ⟨_, rfl⟩
                have HFE := Lib.hid hf
                have HS := Lib.hid (show ∀ z, Keep (Value.slice vp acc.length vc).ownBlock.toList y z → ((z.cell? ⟨A, 2, none⟩ = some (.slice vp acc.length vc) ∧ z.frozen? ⟨A, 2, none⟩ = false) ∧ (z.cell? ⟨gm, 0, none⟩ = some (.int .i64 (a2 : Int)) ∧ z.cell? ⟨gm, 1, none⟩ = some (.int .i64 (b2 : Int)) ∧ z.cell? ⟨gm, 2, none⟩ = some (.int .i64 (c3 : Int))) ∧ (z.cell? ⟨Z, 0, none⟩ = some (.int .i64 u.k) ∧ z.cell? ⟨Z, 1, none⟩ = some (.int .i64 u.n) ∧ z.cell? ⟨Z, 2, none⟩ = some (.string u.s))) from fun z hz => by
                  have n1 : A ∉ (Value.slice vp acc.length vc).ownBlock.toList := fun hm => by have := (HOBZ.out A (by simpa using hm)).1; omega
                  have n2 : gm ∉ (Value.slice vp acc.length vc).ownBlock.toList := fun hm => (HOBZ.out gm (by simpa using hm)).2.1 rfl
                  have n3 : Z ∉ (Value.slice vp acc.length vc).ownBlock.toList := fun hm => (HOBZ.out Z (by simpa using hm)).2.2 rfl
                  obtain ⟨⟨-, -, e2⟩, -, -, e3⟩ := qbox3 (hz.at HBX7.out n1)
                  exact ⟨⟨e2, e3⟩, ⟨hz.cell HM7.out.1 n2, hz.cell HM7.out.2.1 n2, hz.cell HM7.out.2.2 n2⟩, (qbox3 (hz.at HU7.out n3)).1⟩)
                clear hf
                refine region_L 18 (S := fun z => (z.cell? ⟨A, 2, none⟩ = some (.slice vp acc.length vc) ∧ z.frozen? ⟨A, 2, none⟩ = false) ∧ (z.cell? ⟨gm, 0, none⟩ = some (.int .i64 (a2 : Int)) ∧ z.cell? ⟨gm, 1, none⟩ = some (.int .i64 (b2 : Int)) ∧ z.cell? ⟨gm, 2, none⟩ = some (.int .i64 (c3 : Int))) ∧ (z.cell? ⟨Z, 0, none⟩ = some (.int .i64 u.k) ∧ z.cell? ⟨Z, 1, none⟩ = some (.int .i64 u.n) ∧ z.cell? ⟨Z, 2, none⟩ = some (.string u.s))) (by kernel_rfl) (HS.out _ (Keep.refl _ _).drew) (fun hHeld => ?_)
                have hczi2 := hczi
                refine AnyL.take (i := 0) (oi := { dst := some 77, op := Op.fieldAddr 24 (Operand.tmp 8) 2, type := 0, pos := "ref.go:175", after := #[], guard := none }) (v := ?_) rfl (by decide) (by kernel_rfl) (by kernel_rfl) (by kernel_rfl) (by kernel_rfl) (fun _ _ _ h => h) (Or.inl ⟨by rfl, ?_⟩) (by assumption) ?_
                rotate_left
                · (intro w hSw; (try dsimp only at hSw); first | (go_simp; done) | (go_simp; with_reducible rfl))
                try simp only [Act.put, List.setIfInBounds_toArray, List.set_cons_zero, List.set_cons_succ]
                refine AnyL.take (i := 1) (oi := { dst := some 78, op := Op.load 22 (Operand.tmp 77), type := 22, pos := "ref.go:175", after := #[{ on := 0, ground := Ground.data }], guard := none }) (v := ?_) rfl (by decide) (by kernel_rfl) (by kernel_rfl) (by kernel_rfl) (by kernel_rfl) (fun _ _ _ h => h) (Or.inl ⟨by rfl, ?_⟩) (by assumption) ?_
                rotate_left
                · (intro w hSw; (try dsimp only at hSw); first | (go_simp; done) | (go_simp; with_reducible rfl))
                try simp only [Act.put, List.setIfInBounds_toArray, List.set_cons_zero, List.set_cons_succ]
                refine AnyL.take (i := 2) (oi := { dst := some 79, op := Op.move (Operand.tmp 10), type := 78, pos := "ref.go:175", after := #[], guard := none }) (v := ?_) rfl (by decide) (by kernel_rfl) (by kernel_rfl) (by kernel_rfl) (by kernel_rfl) (fun _ _ _ h => h) (Or.inl ⟨by rfl, ?_⟩) (by assumption) ?_
                rotate_left
                · (intro w hSw; (try dsimp only at hSw); first | (go_simp; done) | (go_simp; with_reducible rfl))
                try simp only [Act.put, List.setIfInBounds_toArray, List.set_cons_zero, List.set_cons_succ]
                refine AnyL.take (i := 3) (oi := { dst := some 80, op := Op.indexAddr 78 (Operand.tmp 79) (Operand.const (Value.int IntKind.i64 0)), type := 0, pos := "ref.go:175", after := #[{ on := 2, ground := Ground.data }], guard := none }) (v := ?_) rfl (by decide) (by kernel_rfl) (by kernel_rfl) (by kernel_rfl) (by kernel_rfl) (fun _ _ _ h => h) (Or.inl ⟨by rfl, ?_⟩) (by assumption) ?_
                rotate_left
                · (intro w hSw; (try dsimp only at hSw); first | (go_simp; done) | (go_simp; with_reducible rfl))
                try simp only [Act.put, List.setIfInBounds_toArray, List.set_cons_zero, List.set_cons_succ]
                refine AnyL.take (i := 4) (oi := { dst := some 81, op := Op.load 3 (Operand.tmp 80), type := 3, pos := "ref.go:175", after := #[{ on := 3, ground := Ground.data }], guard := none }) (v := ?_) rfl (by decide) (by kernel_rfl) (by kernel_rfl) (by kernel_rfl) (by kernel_rfl) (fun _ _ _ h => h) (Or.inl ⟨by rfl, ?_⟩) (by assumption) ?_
                rotate_left
                · (intro w hSw; (try dsimp only at hSw); first | (go_simp; done) | (go_simp; with_reducible rfl))
                try simp only [Act.put, List.setIfInBounds_toArray, List.set_cons_zero, List.set_cons_succ]
                refine AnyL.take (i := 5) (oi := { dst := some 82, op := Op.move (Operand.tmp 10), type := 78, pos := "ref.go:175", after := #[], guard := none }) (v := ?_) rfl (by decide) (by kernel_rfl) (by kernel_rfl) (by kernel_rfl) (by kernel_rfl) (fun _ _ _ h => h) (Or.inl ⟨by rfl, ?_⟩) (by assumption) ?_
                rotate_left
                · (intro w hSw; (try dsimp only at hSw); first | (go_simp; done) | (go_simp; with_reducible rfl))
                try simp only [Act.put, List.setIfInBounds_toArray, List.set_cons_zero, List.set_cons_succ]
                refine AnyL.take (i := 6) (oi := { dst := some 83, op := Op.indexAddr 78 (Operand.tmp 82) (Operand.const (Value.int IntKind.i64 1)), type := 0, pos := "ref.go:175", after := #[{ on := 5, ground := Ground.data }], guard := none }) (v := ?_) rfl (by decide) (by kernel_rfl) (by kernel_rfl) (by kernel_rfl) (by kernel_rfl) (fun _ _ _ h => h) (Or.inl ⟨by rfl, ?_⟩) (by assumption) ?_
                rotate_left
                · (intro w hSw; (try dsimp only at hSw); first | (go_simp; done) | (go_simp; with_reducible rfl))
                try simp only [Act.put, List.setIfInBounds_toArray, List.set_cons_zero, List.set_cons_succ]
                refine AnyL.take (i := 7) (oi := { dst := some 84, op := Op.load 3 (Operand.tmp 83), type := 3, pos := "ref.go:175", after := #[{ on := 6, ground := Ground.data }], guard := none }) (v := ?_) rfl (by decide) (by kernel_rfl) (by kernel_rfl) (by kernel_rfl) (by kernel_rfl) (fun _ _ _ h => h) (Or.inl ⟨by rfl, ?_⟩) (by assumption) ?_
                rotate_left
                · (intro w hSw; (try dsimp only at hSw); first | (go_simp; done) | (go_simp; with_reducible rfl))
                try simp only [Act.put, List.setIfInBounds_toArray, List.set_cons_zero, List.set_cons_succ]
                refine AnyL.take (i := 8) (oi := { dst := some 85, op := Op.move (Operand.tmp 11), type := 9, pos := "ref.go:175", after := #[], guard := none }) (v := ?_) rfl (by decide) (by kernel_rfl) (by kernel_rfl) (by kernel_rfl) (by kernel_rfl) (fun _ _ _ h => h) (Or.inl ⟨by rfl, ?_⟩) (by assumption) ?_
                rotate_left
                · (intro w hSw; (try dsimp only at hSw); first | (go_simp; done) | (go_simp; with_reducible rfl))
                try simp only [Act.put, List.setIfInBounds_toArray, List.set_cons_zero, List.set_cons_succ]
                refine AnyL.take (i := 9) (oi := { dst := some 86, op := Op.move (Operand.tmp 10), type := 78, pos := "ref.go:175", after := #[], guard := none }) (v := ?_) rfl (by decide) (by kernel_rfl) (by kernel_rfl) (by kernel_rfl) (by kernel_rfl) (fun _ _ _ h => h) (Or.inl ⟨by rfl, ?_⟩) (by assumption) ?_
                rotate_left
                · (intro w hSw; (try dsimp only at hSw); first | (go_simp; done) | (go_simp; with_reducible rfl))
                try simp only [Act.put, List.setIfInBounds_toArray, List.set_cons_zero, List.set_cons_succ]
                refine AnyL.take (i := 10) (oi := { dst := some 87, op := Op.indexAddr 78 (Operand.tmp 86) (Operand.const (Value.int IntKind.i64 2)), type := 0, pos := "ref.go:175", after := #[{ on := 9, ground := Ground.data }], guard := none }) (v := ?_) rfl (by decide) (by kernel_rfl) (by kernel_rfl) (by kernel_rfl) (by kernel_rfl) (fun _ _ _ h => h) (Or.inl ⟨by rfl, ?_⟩) (by assumption) ?_
                rotate_left
                · (intro w hSw; (try dsimp only at hSw); first | (go_simp; done) | (go_simp; with_reducible rfl))
                try simp only [Act.put, List.setIfInBounds_toArray, List.set_cons_zero, List.set_cons_succ]
                refine AnyL.take (i := 11) (oi := { dst := some 88, op := Op.load 3 (Operand.tmp 87), type := 3, pos := "ref.go:175", after := #[{ on := 10, ground := Ground.data }], guard := none }) (v := ?_) rfl (by decide) (by kernel_rfl) (by kernel_rfl) (by kernel_rfl) (by kernel_rfl) (fun _ _ _ h => h) (Or.inl ⟨by rfl, ?_⟩) (by assumption) ?_
                rotate_left
                · (intro w hSw; (try dsimp only at hSw); first | (go_simp; done) | (go_simp; with_reducible rfl))
                try simp only [Act.put, List.setIfInBounds_toArray, List.set_cons_zero, List.set_cons_succ]
                refine AnyL.take (i := 12) (oi := { dst := some 89, op := Op.slice 9 (Operand.tmp 85) none (some (Operand.tmp 88)) none, type := 9, pos := "ref.go:175", after := #[{ on := 8, ground := Ground.data }, { on := 11, ground := Ground.data }], guard := none }) (v := ?_) rfl (by decide) (by kernel_rfl) (by kernel_rfl) (by kernel_rfl) (by kernel_rfl) (fun _ _ _ h => h) (Or.inl ⟨by rfl, ?_⟩) (by assumption) ?_
                rotate_left
                · (intro w hSw; (try dsimp only at hSw); first | (go_simp; done) | (go_simp; with_reducible rfl))
                try simp only [Act.put, List.setIfInBounds_toArray, List.set_cons_zero, List.set_cons_succ]
                refine AnyL.take (i := 13) (oi := { dst := some 90, op := Op.load 29 (Operand.tmp 13), type := 29, pos := "ref.go:175", after := #[], guard := none }) (v := ?_) rfl (by decide) (by kernel_rfl) (by kernel_rfl) (by kernel_rfl) (by kernel_rfl) (fun _ _ _ h => h) (Or.inl ⟨by rfl, ?_⟩) (by assumption) ?_
                rotate_left
                · (intro w hSw; (try dsimp only at hSw); first | (go_simp; done) | (go_simp; with_reducible rfl))
                try simp only [Act.put, List.setIfInBounds_toArray, List.set_cons_zero, List.set_cons_succ]
                refine AnyL.take (i := 14) (oi := { dst := some 91, op := Op.build 31 #[(0, Operand.tmp 81), (1, Operand.tmp 84), (2, Operand.tmp 89), (3, Operand.tmp 90)], type := 31, pos := "ref.go:175", after := #[{ on := 4, ground := Ground.data }, { on := 7, ground := Ground.data }, { on := 12, ground := Ground.data }, { on := 13, ground := Ground.data }], guard := none }) (v := ?_) rfl (by decide) (by kernel_rfl) (by kernel_rfl) (by kernel_rfl) (by kernel_rfl) (fun _ _ _ h => h) (Or.inl ⟨by rfl, ?_⟩) (by assumption) ?_
                rotate_left
                · (intro w hSw; (try dsimp only at hSw); first | (go_simp; done) | (go_simp; with_reducible rfl))
                try simp only [Act.put, List.setIfInBounds_toArray, List.set_cons_zero, List.set_cons_succ]
                clear hHeld
                refine AnyL.ready (rs := [15]) (by kernel_rfl) (by simp) ?_
                refine (AllL.cons (o := { dst := some 92, op := Op.buildSlice 22 1 #[(0, Operand.tmp 91)], type := 22, pos := "ref.go:175", after := #[{ on := 14, ground := Ground.data }], guard := none }) rfl (fun K hK => ?_) AllL.nil)
                go_simp
                refine hK.out _ _ (fun _ => HS.out _ (((Keep.refl _ y).alloc _).drew)) ?_
                clear hK K
                try simp only [Act.put, List.setIfInBounds_toArray, List.set_cons_zero, List.set_cons_succ]
                refine AnyL.ready (rs := [16]) (by kernel_rfl) (by simp) ?_
                refine (AllL.cons (o := { dst := some 93, op := Op.call { callee := Callee.builtin Builtin.append, args := #[Operand.tmp 78, Operand.tmp 92], argTypes := #[22, 22] }, type := 22, pos := "ref.go:175", after := #[{ on := 1, ground := Ground.data }, { on := 15, ground := Ground.data }], guard := none }) rfl (fun K hK => ?_) AllL.nil)
                refine step_append_kQ (x := y) fldOk rfl (.tmp 78) (.tmp 92) rfl rfl HOV7.out y.heap.size rfl _ _ _ [f] rfl rfl (by rw [HFE.out, ← HEX1.out]; rfl) (by have := HACL.out; simp [maxLen]; omega) (by have := HACL.out; simp; omega) HSZ7.out (Or.inr rfl) ?_
                intro v8 w8 ho8 hk8
                replace hk8 : Keep (Value.slice vp acc.length vc).ownBlock.toList y w8 := hk8
                obtain ⟨p8, cap8, hv8⟩ := ownG_len ho8
                rw [show (acc ++ [f]).length = acc.length + 1 by simp] at hv8
                subst hv8
                have HK8 := Lib.hid hk8
                have HO8 := Lib.hid ho8
                have HBX8 := Lib.hid (show w8.heap[A]? = some (.cells #[.int .i64 (a : Int), .int .i64 (b : Int), .slice vp acc.length vc] 24 (0, 0)) from hk8.at HBX7.out (fun hm => by have := (HOBZ.out A (by simpa using hm)).1; omega))
                clear ho8 hk8
                refine hK.out _ _ (fun _ => HS.out _ HK8.out) ?_
                clear hK K
                try simp only [Act.put, List.setIfInBounds_toArray, List.set_cons_zero, List.set_cons_succ]
                have hHeld := HS.out _ HK8.out
                refine AnyL.take (i := 17) (oi := { dst := some 94, op := Op.fieldAddr 24 (Operand.tmp 8) 2, type := 0, pos := "ref.go:175", after := #[{ on := 0, ground := Ground.phase }, { on := 1, ground := Ground.phase }, { on := 2, ground := Ground.phase }, { on := 3, ground := Ground.phase }, { on := 4, ground := Ground.phase }, { on := 5, ground := Ground.phase }, { on := 6, ground := Ground.phase }, { on := 7, ground := Ground.phase }, { on := 8, ground := Ground.phase }, { on := 9, ground := Ground.phase }, { on := 10, ground := Ground.phase }, { on := 11, ground := Ground.phase }, { on := 12, ground := Ground.phase }, { on := 13, ground := Ground.phase }, { on := 14, ground := Ground.phase }, { on := 15, ground := Ground.phase }, { on := 16, ground := Ground.phase }], guard := none }) (v := ?_) rfl (by decide) (by kernel_rfl) (by kernel_rfl) (by kernel_rfl) (by kernel_rfl) (fun _ _ _ h => h) (Or.inl ⟨by rfl, ?_⟩) (by assumption) ?_
                rotate_left
                · (intro w hSw; (try dsimp only at hSw); first | (go_simp; done) | (go_simp; with_reducible rfl))
                try simp only [Act.put, List.setIfInBounds_toArray, List.set_cons_zero, List.set_cons_succ]
                clear hHeld
                refine AnyL.ready (rs := [18]) (by kernel_rfl) (by simp) ?_
                refine (AllL.cons (o := { dst := none, op := Op.store 22 (Operand.tmp 94) (Operand.tmp 93), type := 0, pos := "ref.go:175", after := #[{ on := 17, ground := Ground.data }, { on := 16, ground := Ground.data }, { on := 16, ground := Ground.chain }, { on := 0, ground := Ground.phase }, { on := 1, ground := Ground.phase }, { on := 2, ground := Ground.phase }, { on := 3, ground := Ground.phase }, { on := 4, ground := Ground.phase }, { on := 5, ground := Ground.phase }, { on := 6, ground := Ground.phase }, { on := 7, ground := Ground.phase }, { on := 8, ground := Ground.phase }, { on := 9, ground := Ground.phase }, { on := 10, ground := Ground.phase }, { on := 11, ground := Ground.phase }, { on := 12, ground := Ground.phase }, { on := 13, ground := Ground.phase }, { on := 14, ground := Ground.phase }, { on := 15, ground := Ground.phase }, { on := 16, ground := Ground.phase }], guard := none }) rfl (fun K hK => ?_) AllL.nil)
                obtain ⟨⟨s0, s1⟩, -⟩ := HS.out _ HK8.out
                go_simp
                refine hK.out _ _ (fun h => absurd rfl h) ?_
                clear hK K
                try simp only [Act.put, List.setIfInBounds_toArray, List.set_cons_zero, List.set_cons_succ]
                refine AnyL.done (by kernel_rfl) ?_ _
                clear s0 s1 hczi2 hczi hcli hcz
                have HLN := Lib.hid (show (acc ++ [f]).length = acc.length + 1 by simp)
                have HPR3 := Lib.hid (show rdFs c r0 = preP (acc ++ [f]) (rdFs j q1) by rw [HPR2.out, HFE.out])
                have HOKM := Lib.hid (show allF (acc ++ [f]) from fun g hg => by
                  rcases List.mem_append.1 hg with h | h
                  · exact HOK.out g h
                  · rw [List.mem_singleton] at h; rw [h, HFE.out]; exact HOKN.out)
                have HKP8 := Lib.hid (show Keep [A] w3 w8 from HKP7.out.trans HK8.out (fun k hk => by
                  have h1 := (HOBZ.out k (by simpa using hk)).1
                  have h2 := HZ3.out
                  exact Or.inr (by omega)))
                obtain ⟨M, hM⟩ : ∃ M, M = acc ++ [f] := ⟨_, rfl⟩
                rw [← hM] at HO8 HPR3 HLN HOKM
                clear hM
                have hwr : wrap64 ((acc.length : Int) + 1) = (acc.length : Int) + 1 := by unfold wrap64; have := HACL.out; omega
                go_wp2_with (fail)
                go_roundw
                case rel => exact ⟨M, r1, .slice p8 (acc.length + 1) cap8, by rw [HLN.out]; first | rfl | (rw [hwr]; rfl), by rw [HLN.out]; exact HAC.out, rfl, HR1Z.out, qset HBX8.out 2 _, HO8.out.setCell (p := ⟨A, 2, none⟩) (by show A < A + 1; omega) _, by rw [HPR3.out, HLN.out, HJ2.out, HR1.out], HOKM.out, HKP8.out.setCell (p := ⟨A, 2, none⟩) (Or.inl (by simp)) _⟩
                case measure => exact meas14 hlt hwr
            · have hcli : (rr.size : Int) < (c3 : Int) := by rw [hrz]; omega
              have HR := Lib.hid (HFAIL.out (by rw [HRF.out, if_neg hcl]))
              have HBL := Lib.hid (HBR.out.trans HB5.out)
              clear hrz hcl
              go_wp2_with (fail)
              have hst := qset (qset (qset HNX5.out 0 (.int .i64 0)) 1 (.int .i64 0)) 2 (.slice none 0 0)
              have hks := kt (kt (keep_st w5 X 0 (.int .i64 0)) (keep_st _ X 1 (.int .i64 0))) (keep_st _ X 2 (.slice none 0 0))
              obtain ⟨⟨y0, y1, y2⟩, -⟩ := qbox3 hst
              exact bodyPost_ret (v := .tuple #[.agg #[.int .i64 0, .int .i64 0, .slice none 0 0], .string ⟨#[]⟩, .int .i64 8]) (by simp [results, Tryd.results50, go_sem, y0, y1, y2]) rfl (UnpPost14.no HR.out (keep_belq hks HBL.out (by have := HXE.out; omega)))
        · obtain hee : acc.length = c := by omega
          have hii : ¬ (acc.length : Int) < (c : Int) := by omega
          have HV := Lib.hid (show rdFs c r0 = some (acc, q.data.toList) by rw [HPR.out, show c - acc.length = 0 by omega]; simp [preP, rdFs])
          have HRS := Lib.hid (show readS l = if rightS ⟨a, b, acc⟩ = true then some (⟨a, b, acc⟩, q.data.toList) else none by rw [HRC.out, HV.out])
          obtain ⟨⟨e0, e1, e2⟩, -⟩ := qbox3 HBX.out
          have HLM := Lib.hid (show acc.length ≤ maxLen by have := HC12.out; unfold maxLen; omega)
          clear hee
          go_wp2_with (fail)
          refine (rright14_any (a : Int) (b : Int) vp vc acc _ (ownG_fldsQ HOV.out) HLM.out HOK.out).mono ?_
          rintro e w7 ⟨rfl, hb7⟩
          have HNX7 := Lib.hid (qbel HNX.out hb7)
          have HBX7 := Lib.hid (qbel HBX.out hb7)
          have HOV7 := Lib.hid (HOV.out.bel hb7)
          have HBL := Lib.hid (HBR.out.trans hb7)
          clear hb7 e0 e1 e2 c2
          obtain ⟨⟨e0, e1, e2⟩, -⟩ := qbox3 HBX7.out
          obtain ⟨⟨d0, d1, d2⟩, g0, g1, g2⟩ := qbox3 HNX7.out
          cases hr : rightS ⟨(a : Int), (b : Int), acc⟩ with
          | false =>
            have HR := Lib.hid (show readS l = none by rw [HRS.out, hr]; rfl)
            clear hr
            go_wp2_with (fail)
            have hst := qset (qset (qset HNX7.out 0 (.int .i64 0)) 1 (.int .i64 0)) 2 (.slice none 0 0)
            have hks := kt (kt (keep_st w7 X 0 (.int .i64 0)) (keep_st _ X 1 (.int .i64 0))) (keep_st _ X 2 (.slice none 0 0))
            obtain ⟨⟨y0, y1, y2⟩, -⟩ := qbox3 hst
            exact bodyPost_ret (v := .tuple #[.agg #[.int .i64 0, .int .i64 0, .slice none 0 0], .string ⟨#[]⟩, .int .i64 8]) (by simp [results, Tryd.results50, go_sem, y0, y1, y2]) rfl (UnpPost14.no HR.out (keep_belq hks HBL.out (by have := HXE.out; omega)))
          | true =>
            have HR := Lib.hid (show readS l = some (⟨a, b, acc⟩, q.data.toList) by rw [HRS.out, hr]; rfl)
            clear hr
            go_wp2_with (fail)
            have hst := qset (qset (qset HNX7.out 0 (.int .i64 (a : Int))) 1 (.int .i64 (b : Int))) 2 (.slice vp acc.length vc)
            have hks := kt (kt (keep_st w7 X 0 (.int .i64 (a : Int))) (keep_st _ X 1 (.int .i64 (b : Int)))) (keep_st _ X 2 (.slice vp acc.length vc))
            obtain ⟨⟨y0, y1, y2⟩, -⟩ := qbox3 hst
            have ho := (HOV7.out.keep hks (fun b hb hm => by have h8 := (HOV7.out.lt b hb).1; have h9 := HAX.out; rw [List.mem_singleton] at hm; omega)).low (show w.heap.size ≤ A + 1 by have := HAS.out; omega)
            have hp := UnpPost14.yes HR.out ho (keep_belq hks HBL.out (by have := HXE.out; omega))
            rw [← show q = ⟨q.data.toList.toArray⟩ from qba_of rfl] at hp
            exact bodyPost_ret (v := .tuple #[.agg #[.int .i64 (a : Int), .int .i64 (b : Int), .slice vp acc.length vc], .string q, .int .i64 0]) (by simp [results, Tryd.results50, go_sem, y0, y1, y2, Act.put]) rfl hp
    · have hci : (12 : Int) < (c : Int) := by omega
      have HR := Lib.hid (show readS l = none by rw [HRR.out, if_neg hc12])
      clear hc12
      go_wp2_with (fail)
      have hst := qset (qset (qset HX2.out 0 (.int .i64 0)) 1 (.int .i64 0)) 2 (.slice none 0 0)
      have hks := kt (kt (keep_st w2 X 0 (.int .i64 0)) (keep_st _ X 1 (.int .i64 0))) (keep_st _ X 2 (.slice none 0 0))
      obtain ⟨⟨y0, y1, y2⟩, -⟩ := qbox3 hst
      exact bodyPost_ret (v := .tuple #[.agg #[.int .i64 0, .int .i64 0, .slice none 0 0], .string ⟨#[]⟩, .int .i64 8]) (by simp [results, Tryd.results50, go_sem, y0, y1, y2]) rfl (UnpPost14.no HR.out (keep_belq hks HB2.out (by have := HXE.out; omega)))
end Go.Proofs.YtbalkchphijehaaDoor
/- schema.Pack. -/
set_option maxRecDepth 100000
namespace Go.Proofs.YtbalkchphijehaaDoor
open Go.RowKit Go.Shelf Go.Deep

attribute [local go_sem] Oper.semAt_some

abbrev FVr (next : Int) := {f : FV // fieldB next f = true ∧ f.okay}
def PkI (b : Nat) (hd : List UInt8) (next : Int) (pre : List (FVr next)) (W : World) : Prop :=
  ∃ T : ByteArray, Boxed W b 9 (.string T) ∧ T.data.toList = hd ++ fldsL (pre.map (·.1)) ∧ T.size ≤ 27 + 2054 * pre.length
theorem pkI_own (b : Nat) (hd : List UInt8) (next : Int) : Go.Own (PkI b hd next) := fun s X Y row ⟨T, h1, h2, h3⟩ hg hr =>
  ⟨T, boxed_own b _ (fun (_ : Unit) => Value.string T) () X Y row h1 hg hr, h2, h3⟩
set_option maxHeartbeats 32000000 in
theorem ppack14_any (ver next : Int) (p : Option Addr) (c : Nat) (L : List FV) (w : World) (h : FldsAt w p L) (hL : L.length ≤ maxLen) (hc : L.length ≤ c) (hV : allF L) (hstd : Std w) :
    Calls Tryd.prog 26 #[.agg #[.int .i64 ver, .int .i64 next, .slice p L.length c]] w fun e w' => e = .returned (packV14 ⟨ver, next, L⟩) ∧ Bel w w' := by
  have HLM := Lib.hid hL
  have HLC := Lib.hid hc
  have H := Lib.hid h; clear h
  have HV := Lib.hid hV; clear hV
  have HST := Lib.hid hstd
  obtain ⟨X, hX⟩ : ∃ X, X = w.heap.size := ⟨_, rfl⟩
  have HXE := Lib.hid hX
  obtain ⟨w1, hw1⟩ : ∃ z, z = w.alloc (.cells #[.int .i64 ver, .int .i64 next, .slice p L.length c] 24) := ⟨_, rfl⟩
  have HB1 := Lib.hid (show Bel w w1 by rw [hw1]; exact (Bel.refl w).alloc _)
  have HK1 := Lib.hid (show w1.heap[X]? = some (.cells #[.int .i64 ver, .int .i64 next, .slice p L.length c] 24 (0, 0)) by rw [hw1, hX]; exact heap_alloc_new w _)
  have HZ1 := Lib.hid (show w1.heap.size = X + 1 by rw [hw1, hX]; simp)
  have HRS := Lib.hid (show ∀ z, Bel w1 z → (z.cell? ⟨X, 0, none⟩ = some (.int .i64 ver) ∧ z.cell? ⟨X, 1, none⟩ = some (.int .i64 next) ∧ z.cell? ⟨X, 2, none⟩ = some (.slice p L.length c)) from fun z hz => (qbox3 (qbel HK1.out hz)).1)
  clear hL hc hstd
  refine (callsIn_wide (n := 9)).1 ?_
  refine callsIn_of_wp_marks Tryd.func26 rfl trivial ?_ rfl
  simp only [Tryd.ntmps26, List.size_toArray, List.length_cons, List.length_nil, Nat.reduceAdd, Nat.reduceSub, Array.replicate_succ, Array.replicate_zero, List.push_toArray, List.append_toArray, List.nil_append, List.cons_append]
  obtain ⟨s0, s1, s2⟩ := HRS.out w1 (Bel.refl _)
  rw [hX, hw1] at s0 s1 s2
  gi_wp2
  rw [← hw1, ← hX]
  clear hw1 hX s0 s1 s2
  refine ⟨trivial, ?_⟩
  refine (callsIn_wide.2 (pright14_any ver next p c L _ (H.out.bel HB1.out) HLM.out HLC.out HV.out)).mono ?_
  rintro e w2 ⟨rfl, hb2⟩
  have HB2 := Lib.hid (show Bel w1 w2 from hb2)
  clear hb2
  cases hr : rightS ⟨ver, next, L⟩ with
  | false =>
    have HR := Lib.hid (pack14_no hr)
    clear hr
    gi_wp2
    exact ⟨_, results_tmp2 rfl _ _ _, by rw [HR.out]; rfl, HB1.out.trans HB2.out⟩
  | true =>
    have HRT := Lib.hid hr
    have HP := Lib.hid (rightS_parts hr)
    clear hr
    have HVN := Lib.hid (show 0 ≤ ver ∧ ver < 9223372036854775808 by have := HP.out.2.1; simp only at this; omega)
    have HNN := Lib.hid (show 0 ≤ next ∧ next < 9223372036854775808 by have := HP.out.2.2.1; simp only at this; omega)
    have HLN := Lib.hid (show 0 ≤ (L.length : Int) ∧ (L.length : Int) < 9223372036854775808 by have := HP.out.2.2.2.2; simp only at this; omega)
    have HL12 := Lib.hid (show L.length ≤ 12 by have := HP.out.2.2.2.2; simpa using this)
    have HNX := Lib.hid (show 1 ≤ next ∧ next ≤ 1000 by have := HP.out.2.2.1; simpa using this)
    obtain ⟨S1, hS1⟩ : ∃ S : ByteArray, S = ⟨(putL (ver).toNat).toArray⟩ := ⟨_, rfl⟩
    obtain ⟨S2, hS2⟩ : ∃ S : ByteArray, S = ⟨(putL (next).toNat).toArray⟩ := ⟨_, rfl⟩
    obtain ⟨S3, hS3⟩ : ∃ S : ByteArray, S = ⟨(putL ((L.length : Int)).toNat).toArray⟩ := ⟨_, rfl⟩
    have z1 : S1.size ≤ 9 := by rw [hS1, qba_size, putL_len]; exact szN_le _
    have z2 : S2.size ≤ 9 := by rw [hS2, qba_size, putL_len]; exact szN_le _
    have z3 : S3.size ≤ 9 := by rw [hS3, qba_size, putL_len]; exact szN_le _
    have HT0 := Lib.hid (show (S1 ++ S2 ++ S3).data.toList = putsN [ver.toNat, next.toNat, L.length] by rw [hS1, hS2, hS3]; simp [putsN])
    have HZ0 := Lib.hid (show (S1 ++ S2 ++ S3).size ≤ 27 by simp only [ByteArray.size_append]; omega)
    have HS1 := Lib.hid hS1; have HS2 := Lib.hid hS2; have HS3 := Lib.hid hS3
    clear hS1 hS2 hS3
    have zz1 : ¬ 9223372036854775807 < S1.size + S2.size := by omega
    have z12 : (S1 ++ S2).size ≤ 18 := by rw [ByteArray.size_append]; omega
    have zz2 : ¬ 9223372036854775807 < S1.size + S2.size + S3.size := by omega
    have zz3 : ¬ 9223372036854775807 < (S1 ++ S2).size + S3.size := by omega
    gi_wp2
    refine wpIn_mono (Q := Exit.then (fun a' W' => ∃ b, a' = { tmps := #[.agg #[.int .i64 ver, .int .i64 next, .slice p L.length c], .pointer (some ⟨X, 0, none⟩), .string ⟨#[]⟩, .int .i64 0, .pointer (some ⟨b, 0, none⟩), undef, undef, undef, .agg #[.int .i64 ver, .int .i64 next, .slice p L.length c], .bool true, .bool false, .pointer (some ⟨X, 0, none⟩), .int .i64 ver, .string S1, .pointer (some ⟨X, 1, none⟩), .int .i64 next, .string S2, .string (S1 ++ S2), .pointer (some ⟨X, 2, none⟩), .slice p L.length c, .int .i64 L.length, .string S3, .string (S1 ++ S2 ++ S3), undef, undef, undef, undef, undef, undef, undef, undef, undef, undef, undef, undef, undef, undef, undef, undef, undef, undef, undef, undef, undef, undef, undef, undef, undef, undef, undef, undef, undef], defers := [] } ∧ X < b ∧ Boxed W' b 9 (.string (S1 ++ S2 ++ S3)) ∧ Bel w1 W') (fun _ _ _ => False)) ?r (fun e a' W' h => ?m)
    case r =>
      refine regionW_H (S := fun z => z.cell? ⟨X, 0, none⟩ = some (.int .i64 ver) ∧ z.cell? ⟨X, 1, none⟩ = some (.int .i64 next) ∧ z.cell? ⟨X, 2, none⟩ = some (.slice p L.length c)) (by kernel_rfl) (HRS.out _ HB2.out.drew) (fun hHeld => ?_)
      have HY := Lib.hid (HB2.out.drew)
      refine wpAnyH_take (i := 0) (oi := { dst := some 11, op := Op.fieldAddr 24 (Operand.tmp 1) 0, type := 0, pos := "pack.go:41", after := #[], guard := none }) (v := ?_) rfl (by kernel_rfl) (by kernel_rfl) (by kernel_rfl) (fun _ _ _ h => h) (Or.inl ⟨by rfl, ?_⟩) (by assumption) ?_
      rotate_left
      · (intro w hSw; (try dsimp only at hSw); first | (go_simp; done) | (go_simp; with_reducible rfl))
      try simp only [Act.put, List.setIfInBounds_toArray, List.set_cons_zero, List.set_cons_succ]
      refine wpAnyH_take (i := 1) (oi := { dst := some 12, op := Op.load 3 (Operand.tmp 11), type := 3, pos := "pack.go:41", after := #[{ on := 0, ground := Ground.data }], guard := none }) (v := ?_) rfl (by kernel_rfl) (by kernel_rfl) (by kernel_rfl) (fun _ _ _ h => h) (Or.inl ⟨by rfl, ?_⟩) (by assumption) ?_
      rotate_left
      · (intro w hSw; (try dsimp only at hSw); first | (go_simp; done) | (go_simp; with_reducible rfl))
      try simp only [Act.put, List.setIfInBounds_toArray, List.set_cons_zero, List.set_cons_succ]
      refine wpAnyH_take (i := 3) (oi := { dst := some 14, op := Op.fieldAddr 24 (Operand.tmp 1) 1, type := 0, pos := "pack.go:41", after := #[], guard := none }) (v := ?_) rfl (by kernel_rfl) (by kernel_rfl) (by kernel_rfl) (fun _ _ _ h => h) (Or.inl ⟨by rfl, ?_⟩) (by assumption) ?_
      rotate_left
      · (intro w hSw; (try dsimp only at hSw); first | (go_simp; done) | (go_simp; with_reducible rfl))
      try simp only [Act.put, List.setIfInBounds_toArray, List.set_cons_zero, List.set_cons_succ]
      refine wpAnyH_take (i := 4) (oi := { dst := some 15, op := Op.load 3 (Operand.tmp 14), type := 3, pos := "pack.go:41", after := #[{ on := 3, ground := Ground.data }], guard := none }) (v := ?_) rfl (by kernel_rfl) (by kernel_rfl) (by kernel_rfl) (fun _ _ _ h => h) (Or.inl ⟨by rfl, ?_⟩) (by assumption) ?_
      rotate_left
      · (intro w hSw; (try dsimp only at hSw); first | (go_simp; done) | (go_simp; with_reducible rfl))
      try simp only [Act.put, List.setIfInBounds_toArray, List.set_cons_zero, List.set_cons_succ]
      refine wpAnyH_take (i := 7) (oi := { dst := some 18, op := Op.fieldAddr 24 (Operand.tmp 1) 2, type := 0, pos := "pack.go:41", after := #[], guard := none }) (v := ?_) rfl (by kernel_rfl) (by kernel_rfl) (by kernel_rfl) (fun _ _ _ h => h) (Or.inl ⟨by rfl, ?_⟩) (by assumption) ?_
      rotate_left
      · (intro w hSw; (try dsimp only at hSw); first | (go_simp; done) | (go_simp; with_reducible rfl))
      try simp only [Act.put, List.setIfInBounds_toArray, List.set_cons_zero, List.set_cons_succ]
      refine wpAnyH_take (i := 8) (oi := { dst := some 19, op := Op.load 22 (Operand.tmp 18), type := 22, pos := "pack.go:41", after := #[{ on := 7, ground := Ground.data }], guard := none }) (v := ?_) rfl (by kernel_rfl) (by kernel_rfl) (by kernel_rfl) (fun _ _ _ h => h) (Or.inl ⟨by rfl, ?_⟩) (by assumption) ?_
      rotate_left
      · (intro w hSw; (try dsimp only at hSw); first | (go_simp; done) | (go_simp; with_reducible rfl))
      try simp only [Act.put, List.setIfInBounds_toArray, List.set_cons_zero, List.set_cons_succ]
      refine wpAnyH_take (i := 9) (oi := { dst := some 20, op := Op.call { callee := Callee.builtin Builtin.len, args := #[Operand.tmp 19], argTypes := #[22] }, type := 3, pos := "pack.go:41", after := #[{ on := 8, ground := Ground.data }], guard := none }) (v := ?_) rfl (by kernel_rfl) (by kernel_rfl) (by kernel_rfl) (fun _ _ _ h => h) (Or.inl ⟨by rfl, ?_⟩) (by assumption) ?_
      rotate_left
      · (intro w hSw; (try dsimp only at hSw); first | (go_simp; done) | (go_simp; with_reducible rfl))
      try simp only [Act.put, List.setIfInBounds_toArray, List.set_cons_zero, List.set_cons_succ]
      refine wpAnyH_ready (rs := [2, 12]) (by kernel_rfl) (by simp) ?_
      refine (AllReadyH.cons (o := { dst := some 13, op := Op.call { callee := Callee.value (Operand.func 42), args := #[Operand.tmp 12], argTypes := #[3] }, type := 9, pos := "pack.go:41", after := #[{ on := 1, ground := Ground.data }], guard := none }) rfl (fun K hK => ?_) (AllReadyH.cons (o := { dst := some 4, op := Op.alloc 9, type := 0, pos := "pack.go:41", after := #[], guard := none }) rfl (fun K hK => ?_) AllReadyH.nil))
      · go_simp
        refine (pnumber14_any ver HVN.out.1 HVN.out.2 _).mono ?_
        rintro e y1 ⟨rfl, hbn⟩
        have HY1 := Lib.hid (show Bel w1 y1 from HY.out.trans hbn)
        clear hbn
        rw [← HS1.out]
        dsimp only
        refine hK.out _ _ (HRS.out _ HY1.out) (fun hHeld => ?_)
        clear hK K
        try simp only [Act.put, List.setIfInBounds_toArray, List.set_cons_zero, List.set_cons_succ]
        refine wpAnyH_ready (rs := [5, 12]) (by kernel_rfl) (by simp) ?_
        refine (AllReadyH.cons (o := { dst := some 16, op := Op.call { callee := Callee.value (Operand.func 42), args := #[Operand.tmp 15], argTypes := #[3] }, type := 9, pos := "pack.go:41", after := #[{ on := 4, ground := Ground.data }, { on := 2, ground := Ground.chain }], guard := none }) rfl (fun K hK => ?_) (AllReadyH.cons (o := { dst := some 4, op := Op.alloc 9, type := 0, pos := "pack.go:41", after := #[], guard := none }) rfl (fun K hK => ?_) AllReadyH.nil))
        · go_simp
          refine (pnumber14_any next HNN.out.1 HNN.out.2 _).mono ?_
          rintro e y2 ⟨rfl, hbn⟩
          have HY2 := Lib.hid (show Bel w1 y2 from HY1.out.trans hbn)
          clear hbn
          rw [← HS2.out]
          dsimp only
          refine hK.out _ _ (HRS.out _ HY2.out) (fun hHeld => ?_)
          clear hK K
          try simp only [Act.put, List.setIfInBounds_toArray, List.set_cons_zero, List.set_cons_succ]
          refine wpAnyH_take (i := 6) (oi := { dst := some 17, op := Op.binOp BinOp.add 9 (Operand.tmp 13) (Operand.tmp 16) 9, type := 9, pos := "pack.go:41", after := #[{ on := 2, ground := Ground.data }, { on := 5, ground := Ground.data }], guard := none }) (v := ?_) rfl (by kernel_rfl) (by kernel_rfl) (by kernel_rfl) (fun _ _ _ h => h) (Or.inl ⟨by rfl, ?_⟩) (by assumption) ?_
          rotate_left
          · (intro w hSw; (try dsimp only at hSw); first | (go_simp; done) | (go_simp; with_reducible rfl))
          try simp only [Act.put, List.setIfInBounds_toArray, List.set_cons_zero, List.set_cons_succ]
          refine wpAnyH_ready (rs := [10, 12]) (by kernel_rfl) (by simp) ?_
          refine (AllReadyH.cons (o := { dst := some 21, op := Op.call { callee := Callee.value (Operand.func 42), args := #[Operand.tmp 20], argTypes := #[3] }, type := 9, pos := "pack.go:41", after := #[{ on := 9, ground := Ground.data }, { on := 5, ground := Ground.chain }], guard := none }) rfl (fun K hK => ?_) (AllReadyH.cons (o := { dst := some 4, op := Op.alloc 9, type := 0, pos := "pack.go:41", after := #[], guard := none }) rfl (fun K hK => ?_) AllReadyH.nil))
          · go_simp
            refine (pnumber14_any (L.length : Int) HLN.out.1 HLN.out.2 _).mono ?_
            rintro e y3 ⟨rfl, hbn⟩
            have HY3 := Lib.hid (show Bel w1 y3 from HY2.out.trans hbn)
            clear hbn
            rw [← HS3.out]
            dsimp only
            refine hK.out _ _ (HRS.out _ HY3.out) (fun hHeld => ?_)
            clear hK K
            try simp only [Act.put, List.setIfInBounds_toArray, List.set_cons_zero, List.set_cons_succ]
            refine wpAnyH_take (i := 11) (oi := { dst := some 22, op := Op.binOp BinOp.add 9 (Operand.tmp 17) (Operand.tmp 21) 9, type := 9, pos := "pack.go:41", after := #[{ on := 6, ground := Ground.data }, { on := 10, ground := Ground.data }], guard := none }) (v := ?_) rfl (by kernel_rfl) (by kernel_rfl) (by kernel_rfl) (fun _ _ _ h => h) (Or.inl ⟨by rfl, ?_⟩) (by assumption) ?_
            rotate_left
            · (intro w hSw; (try dsimp only at hSw); first | (go_simp; done) | (go_simp; with_reducible rfl))
            try simp only [Act.put, List.setIfInBounds_toArray, List.set_cons_zero, List.set_cons_succ]
            refine wpAnyH_ready (rs := [12]) (by kernel_rfl) (by simp) ?_
            refine AllReadyH.cons (o := { dst := some 4, op := Op.alloc 9, type := 0, pos := "pack.go:41", after := #[], guard := none }) rfl (fun K hK => ?_) AllReadyH.nil
            go_simp
            obtain ⟨yb, hyb⟩ : ∃ y, y = y3.alloc (.cells #[.string ⟨#[]⟩] 9) := ⟨_, rfl⟩
            obtain ⟨b, hb⟩ : ∃ b, b = y3.heap.size := ⟨_, rfl⟩
            have HYB := Lib.hid (show Bel w1 yb by rw [hyb]; exact HY3.out.alloc _)
            have HBOX := Lib.hid (show Boxed yb b 9 (.string ⟨#[]⟩) by rw [hyb, hb]; exact Boxed.new y3 _ _)
            have HBL := Lib.hid (show w1.heap.size ≤ b by rw [hb]; exact HY3.out.size)
            have HXB := Lib.hid (show X < b by have h1 := HBL.out; have h2 := HZ1.out; omega)
            refine hK.out _ _ (by rw [← hyb]; exact HRS.out _ HYB.out) (fun hHeld => ?_)
            clear hK K
            rw [← hyb] at hHeld
            rw [← hyb, ← hb]
            clear hyb hb
            try simp only [Act.put, List.setIfInBounds_toArray, List.set_cons_zero, List.set_cons_succ]
            refine wpAnyH_ready (rs := [13]) (by kernel_rfl) (by simp) ?_
            refine AllReadyH.cons (o := { dst := none, op := Op.store 9 (Operand.tmp 4) (Operand.tmp 22), type := 0, pos := "pack.go:41", after := #[{ on := 12, ground := Ground.data }, { on := 11, ground := Ground.data }, { on := 10, ground := Ground.chain }, { on := 0, ground := Ground.phase }, { on := 1, ground := Ground.phase }, { on := 2, ground := Ground.phase }, { on := 3, ground := Ground.phase }, { on := 4, ground := Ground.phase }, { on := 5, ground := Ground.phase }, { on := 6, ground := Ground.phase }, { on := 7, ground := Ground.phase }, { on := 8, ground := Ground.phase }, { on := 9, ground := Ground.phase }, { on := 10, ground := Ground.phase }, { on := 11, ground := Ground.phase }, { on := 12, ground := Ground.phase }], guard := none }) rfl (fun K hK => ?_) AllReadyH.nil
            obtain ⟨q0, q1⟩ := (show _ ∧ _ from ⟨HBOX.out.cell, HBOX.out.frozen⟩)
            go_simp
            have HF5 := Lib.hid (show Bel w1 _ from HYB.out.setCell (p := ⟨b, 0, none⟩) HBL.out (.string (S1 ++ S2 ++ S3)))
            refine hK.out _ _ (HRS.out _ HF5.out) (fun hHeld => ?_)
            clear hK K
            try simp only [Act.put, List.setIfInBounds_toArray, List.set_cons_zero, List.set_cons_succ]
            refine wpAnyH_done (by kernel_rfl) ?_ _
            exact ⟨b, rfl, HXB.out, HBOX.out.set _, HF5.out⟩
          · go_simp
            obtain ⟨yb, hyb⟩ : ∃ y, y = y2.alloc (.cells #[.string ⟨#[]⟩] 9) := ⟨_, rfl⟩
            obtain ⟨b, hb⟩ : ∃ b, b = y2.heap.size := ⟨_, rfl⟩
            have HYB := Lib.hid (show Bel w1 yb by rw [hyb]; exact HY2.out.alloc _)
            have HBOX := Lib.hid (show Boxed yb b 9 (.string ⟨#[]⟩) by rw [hyb, hb]; exact Boxed.new y2 _ _)
            have HBL := Lib.hid (show w1.heap.size ≤ b by rw [hb]; exact HY2.out.size)
            have HXB := Lib.hid (show X < b by have h1 := HBL.out; have h2 := HZ1.out; omega)
            refine hK.out _ _ (by rw [← hyb]; exact HRS.out _ HYB.out) (fun hHeld => ?_)
            clear hK K
            rw [← hyb] at hHeld
            rw [← hyb, ← hb]
            clear hyb hb
            try simp only [Act.put, List.setIfInBounds_toArray, List.set_cons_zero, List.set_cons_succ]
            refine wpAnyH_ready (rs := [10]) (by kernel_rfl) (by simp) ?_
            refine AllReadyH.cons (o := { dst := some 21, op := Op.call { callee := Callee.value (Operand.func 42), args := #[Operand.tmp 20], argTypes := #[3] }, type := 9, pos := "pack.go:41", after := #[{ on := 9, ground := Ground.data }, { on := 5, ground := Ground.chain }], guard := none }) rfl (fun K hK => ?_) AllReadyH.nil
            go_simp
            refine (pnumber14_any (L.length : Int) HLN.out.1 HLN.out.2 _).mono ?_
            rintro e y7 ⟨rfl, hbn⟩
            have HY7 := Lib.hid (show Bel w1 y7 from HYB.out.trans hbn)
            have HBOX7 := Lib.hid (show Boxed y7 b 9 (.string ⟨#[]⟩) from qbel HBOX.out hbn)
            clear HBOX
            have HBOX := HBOX7
            clear HBOX7
            clear hbn
            rw [← HS3.out]
            dsimp only
            refine hK.out _ _ (HRS.out _ HY7.out) (fun hHeld => ?_)
            clear hK K
            try simp only [Act.put, List.setIfInBounds_toArray, List.set_cons_zero, List.set_cons_succ]
            refine wpAnyH_take (i := 11) (oi := { dst := some 22, op := Op.binOp BinOp.add 9 (Operand.tmp 17) (Operand.tmp 21) 9, type := 9, pos := "pack.go:41", after := #[{ on := 6, ground := Ground.data }, { on := 10, ground := Ground.data }], guard := none }) (v := ?_) rfl (by kernel_rfl) (by kernel_rfl) (by kernel_rfl) (fun _ _ _ h => h) (Or.inl ⟨by rfl, ?_⟩) (by assumption) ?_
            rotate_left
            · (intro w hSw; (try dsimp only at hSw); first | (go_simp; done) | (go_simp; with_reducible rfl))
            try simp only [Act.put, List.setIfInBounds_toArray, List.set_cons_zero, List.set_cons_succ]
            refine wpAnyH_ready (rs := [13]) (by kernel_rfl) (by simp) ?_
            refine AllReadyH.cons (o := { dst := none, op := Op.store 9 (Operand.tmp 4) (Operand.tmp 22), type := 0, pos := "pack.go:41", after := #[{ on := 12, ground := Ground.data }, { on := 11, ground := Ground.data }, { on := 10, ground := Ground.chain }, { on := 0, ground := Ground.phase }, { on := 1, ground := Ground.phase }, { on := 2, ground := Ground.phase }, { on := 3, ground := Ground.phase }, { on := 4, ground := Ground.phase }, { on := 5, ground := Ground.phase }, { on := 6, ground := Ground.phase }, { on := 7, ground := Ground.phase }, { on := 8, ground := Ground.phase }, { on := 9, ground := Ground.phase }, { on := 10, ground := Ground.phase }, { on := 11, ground := Ground.phase }, { on := 12, ground := Ground.phase }], guard := none }) rfl (fun K hK => ?_) AllReadyH.nil
            obtain ⟨q0, q1⟩ := (show _ ∧ _ from ⟨HBOX.out.cell, HBOX.out.frozen⟩)
            go_simp
            have HF8 := Lib.hid (show Bel w1 _ from HY7.out.setCell (p := ⟨b, 0, none⟩) HBL.out (.string (S1 ++ S2 ++ S3)))
            refine hK.out _ _ (HRS.out _ HF8.out) (fun hHeld => ?_)
            clear hK K
            try simp only [Act.put, List.setIfInBounds_toArray, List.set_cons_zero, List.set_cons_succ]
            refine wpAnyH_done (by kernel_rfl) ?_ _
            exact ⟨b, rfl, HXB.out, HBOX.out.set _, HF8.out⟩
        · go_simp
          obtain ⟨yb, hyb⟩ : ∃ y, y = y1.alloc (.cells #[.string ⟨#[]⟩] 9) := ⟨_, rfl⟩
          obtain ⟨b, hb⟩ : ∃ b, b = y1.heap.size := ⟨_, rfl⟩
          have HYB := Lib.hid (show Bel w1 yb by rw [hyb]; exact HY1.out.alloc _)
          have HBOX := Lib.hid (show Boxed yb b 9 (.string ⟨#[]⟩) by rw [hyb, hb]; exact Boxed.new y1 _ _)
          have HBL := Lib.hid (show w1.heap.size ≤ b by rw [hb]; exact HY1.out.size)
          have HXB := Lib.hid (show X < b by have h1 := HBL.out; have h2 := HZ1.out; omega)
          refine hK.out _ _ (by rw [← hyb]; exact HRS.out _ HYB.out) (fun hHeld => ?_)
          clear hK K
          rw [← hyb] at hHeld
          rw [← hyb, ← hb]
          clear hyb hb
          try simp only [Act.put, List.setIfInBounds_toArray, List.set_cons_zero, List.set_cons_succ]
          refine wpAnyH_ready (rs := [5]) (by kernel_rfl) (by simp) ?_
          refine AllReadyH.cons (o := { dst := some 16, op := Op.call { callee := Callee.value (Operand.func 42), args := #[Operand.tmp 15], argTypes := #[3] }, type := 9, pos := "pack.go:41", after := #[{ on := 4, ground := Ground.data }, { on := 2, ground := Ground.chain }], guard := none }) rfl (fun K hK => ?_) AllReadyH.nil
          go_simp
          refine (pnumber14_any next HNN.out.1 HNN.out.2 _).mono ?_
          rintro e y10 ⟨rfl, hbn⟩
          have HY10 := Lib.hid (show Bel w1 y10 from HYB.out.trans hbn)
          have HBOX10 := Lib.hid (show Boxed y10 b 9 (.string ⟨#[]⟩) from qbel HBOX.out hbn)
          clear HBOX
          have HBOX := HBOX10
          clear HBOX10
          clear hbn
          rw [← HS2.out]
          dsimp only
          refine hK.out _ _ (HRS.out _ HY10.out) (fun hHeld => ?_)
          clear hK K
          try simp only [Act.put, List.setIfInBounds_toArray, List.set_cons_zero, List.set_cons_succ]
          refine wpAnyH_take (i := 6) (oi := { dst := some 17, op := Op.binOp BinOp.add 9 (Operand.tmp 13) (Operand.tmp 16) 9, type := 9, pos := "pack.go:41", after := #[{ on := 2, ground := Ground.data }, { on := 5, ground := Ground.data }], guard := none }) (v := ?_) rfl (by kernel_rfl) (by kernel_rfl) (by kernel_rfl) (fun _ _ _ h => h) (Or.inl ⟨by rfl, ?_⟩) (by assumption) ?_
          rotate_left
          · (intro w hSw; (try dsimp only at hSw); first | (go_simp; done) | (go_simp; with_reducible rfl))
          try simp only [Act.put, List.setIfInBounds_toArray, List.set_cons_zero, List.set_cons_succ]
          refine wpAnyH_ready (rs := [10]) (by kernel_rfl) (by simp) ?_
          refine AllReadyH.cons (o := { dst := some 21, op := Op.call { callee := Callee.value (Operand.func 42), args := #[Operand.tmp 20], argTypes := #[3] }, type := 9, pos := "pack.go:41", after := #[{ on := 9, ground := Ground.data }, { on := 5, ground := Ground.chain }], guard := none }) rfl (fun K hK => ?_) AllReadyH.nil
          go_simp
          refine (pnumber14_any (L.length : Int) HLN.out.1 HLN.out.2 _).mono ?_
          rintro e y11 ⟨rfl, hbn⟩
          have HY11 := Lib.hid (show Bel w1 y11 from HY10.out.trans hbn)
          have HBOX11 := Lib.hid (show Boxed y11 b 9 (.string ⟨#[]⟩) from qbel HBOX.out hbn)
          clear HBOX
          have HBOX := HBOX11
          clear HBOX11
          clear hbn
          rw [← HS3.out]
          dsimp only
          refine hK.out _ _ (HRS.out _ HY11.out) (fun hHeld => ?_)
          clear hK K
          try simp only [Act.put, List.setIfInBounds_toArray, List.set_cons_zero, List.set_cons_succ]
          refine wpAnyH_take (i := 11) (oi := { dst := some 22, op := Op.binOp BinOp.add 9 (Operand.tmp 17) (Operand.tmp 21) 9, type := 9, pos := "pack.go:41", after := #[{ on := 6, ground := Ground.data }, { on := 10, ground := Ground.data }], guard := none }) (v := ?_) rfl (by kernel_rfl) (by kernel_rfl) (by kernel_rfl) (fun _ _ _ h => h) (Or.inl ⟨by rfl, ?_⟩) (by assumption) ?_
          rotate_left
          · (intro w hSw; (try dsimp only at hSw); first | (go_simp; done) | (go_simp; with_reducible rfl))
          try simp only [Act.put, List.setIfInBounds_toArray, List.set_cons_zero, List.set_cons_succ]
          refine wpAnyH_ready (rs := [13]) (by kernel_rfl) (by simp) ?_
          refine AllReadyH.cons (o := { dst := none, op := Op.store 9 (Operand.tmp 4) (Operand.tmp 22), type := 0, pos := "pack.go:41", after := #[{ on := 12, ground := Ground.data }, { on := 11, ground := Ground.data }, { on := 10, ground := Ground.chain }, { on := 0, ground := Ground.phase }, { on := 1, ground := Ground.phase }, { on := 2, ground := Ground.phase }, { on := 3, ground := Ground.phase }, { on := 4, ground := Ground.phase }, { on := 5, ground := Ground.phase }, { on := 6, ground := Ground.phase }, { on := 7, ground := Ground.phase }, { on := 8, ground := Ground.phase }, { on := 9, ground := Ground.phase }, { on := 10, ground := Ground.phase }, { on := 11, ground := Ground.phase }, { on := 12, ground := Ground.phase }], guard := none }) rfl (fun K hK => ?_) AllReadyH.nil
          obtain ⟨q0, q1⟩ := (show _ ∧ _ from ⟨HBOX.out.cell, HBOX.out.frozen⟩)
          go_simp
          have HF12 := Lib.hid (show Bel w1 _ from HY11.out.setCell (p := ⟨b, 0, none⟩) HBL.out (.string (S1 ++ S2 ++ S3)))
          refine hK.out _ _ (HRS.out _ HF12.out) (fun hHeld => ?_)
          clear hK K
          try simp only [Act.put, List.setIfInBounds_toArray, List.set_cons_zero, List.set_cons_succ]
          refine wpAnyH_done (by kernel_rfl) ?_ _
          exact ⟨b, rfl, HXB.out, HBOX.out.set _, HF12.out⟩
      · go_simp
        obtain ⟨yb, hyb⟩ : ∃ y, y = (w2.alloc (.cells #[.string ⟨#[]⟩] 9)).drew := ⟨_, rfl⟩
        obtain ⟨b, hb⟩ : ∃ b, b = w2.heap.size := ⟨_, rfl⟩
        have HYB := Lib.hid (show Bel w1 yb by rw [hyb]; exact (HB2.out.alloc _).drew)
        have HBOX := Lib.hid (show Boxed yb b 9 (.string ⟨#[]⟩) by rw [hyb, hb]; exact Boxed.new w2 _ _)
        have HBL := Lib.hid (show w1.heap.size ≤ b by rw [hb]; exact HB2.out.size)
        have HXB := Lib.hid (show X < b by have h1 := HBL.out; have h2 := HZ1.out; omega)
        refine hK.out _ _ (by rw [← hyb]; exact HRS.out _ HYB.out) (fun hHeld => ?_)
        clear hK K
        rw [← hyb] at hHeld
        rw [← hyb, ← hb]
        clear hyb hb
        try simp only [Act.put, List.setIfInBounds_toArray, List.set_cons_zero, List.set_cons_succ]
        refine wpAnyH_ready (rs := [2]) (by kernel_rfl) (by simp) ?_
        refine AllReadyH.cons (o := { dst := some 13, op := Op.call { callee := Callee.value (Operand.func 42), args := #[Operand.tmp 12], argTypes := #[3] }, type := 9, pos := "pack.go:41", after := #[{ on := 1, ground := Ground.data }], guard := none }) rfl (fun K hK => ?_) AllReadyH.nil
        go_simp
        refine (pnumber14_any ver HVN.out.1 HVN.out.2 _).mono ?_
        rintro e y14 ⟨rfl, hbn⟩
        have HY14 := Lib.hid (show Bel w1 y14 from HYB.out.trans hbn)
        have HBOX14 := Lib.hid (show Boxed y14 b 9 (.string ⟨#[]⟩) from qbel HBOX.out hbn)
        clear HBOX
        have HBOX := HBOX14
        clear HBOX14
        clear hbn
        rw [← HS1.out]
        dsimp only
        refine hK.out _ _ (HRS.out _ HY14.out) (fun hHeld => ?_)
        clear hK K
        try simp only [Act.put, List.setIfInBounds_toArray, List.set_cons_zero, List.set_cons_succ]
        refine wpAnyH_ready (rs := [5]) (by kernel_rfl) (by simp) ?_
        refine AllReadyH.cons (o := { dst := some 16, op := Op.call { callee := Callee.value (Operand.func 42), args := #[Operand.tmp 15], argTypes := #[3] }, type := 9, pos := "pack.go:41", after := #[{ on := 4, ground := Ground.data }, { on := 2, ground := Ground.chain }], guard := none }) rfl (fun K hK => ?_) AllReadyH.nil
        go_simp
        refine (pnumber14_any next HNN.out.1 HNN.out.2 _).mono ?_
        rintro e y15 ⟨rfl, hbn⟩
        have HY15 := Lib.hid (show Bel w1 y15 from HY14.out.trans hbn)
        have HBOX15 := Lib.hid (show Boxed y15 b 9 (.string ⟨#[]⟩) from qbel HBOX.out hbn)
        clear HBOX
        have HBOX := HBOX15
        clear HBOX15
        clear hbn
        rw [← HS2.out]
        dsimp only
        refine hK.out _ _ (HRS.out _ HY15.out) (fun hHeld => ?_)
        clear hK K
        try simp only [Act.put, List.setIfInBounds_toArray, List.set_cons_zero, List.set_cons_succ]
        refine wpAnyH_take (i := 6) (oi := { dst := some 17, op := Op.binOp BinOp.add 9 (Operand.tmp 13) (Operand.tmp 16) 9, type := 9, pos := "pack.go:41", after := #[{ on := 2, ground := Ground.data }, { on := 5, ground := Ground.data }], guard := none }) (v := ?_) rfl (by kernel_rfl) (by kernel_rfl) (by kernel_rfl) (fun _ _ _ h => h) (Or.inl ⟨by rfl, ?_⟩) (by assumption) ?_
        rotate_left
        · (intro w hSw; (try dsimp only at hSw); first | (go_simp; done) | (go_simp; with_reducible rfl))
        try simp only [Act.put, List.setIfInBounds_toArray, List.set_cons_zero, List.set_cons_succ]
        refine wpAnyH_ready (rs := [10]) (by kernel_rfl) (by simp) ?_
        refine AllReadyH.cons (o := { dst := some 21, op := Op.call { callee := Callee.value (Operand.func 42), args := #[Operand.tmp 20], argTypes := #[3] }, type := 9, pos := "pack.go:41", after := #[{ on := 9, ground := Ground.data }, { on := 5, ground := Ground.chain }], guard := none }) rfl (fun K hK => ?_) AllReadyH.nil
        go_simp
        refine (pnumber14_any (L.length : Int) HLN.out.1 HLN.out.2 _).mono ?_
        rintro e y16 ⟨rfl, hbn⟩
        have HY16 := Lib.hid (show Bel w1 y16 from HY15.out.trans hbn)
        have HBOX16 := Lib.hid (show Boxed y16 b 9 (.string ⟨#[]⟩) from qbel HBOX.out hbn)
        clear HBOX
        have HBOX := HBOX16
        clear HBOX16
        clear hbn
        rw [← HS3.out]
        dsimp only
        refine hK.out _ _ (HRS.out _ HY16.out) (fun hHeld => ?_)
        clear hK K
        try simp only [Act.put, List.setIfInBounds_toArray, List.set_cons_zero, List.set_cons_succ]
        refine wpAnyH_take (i := 11) (oi := { dst := some 22, op := Op.binOp BinOp.add 9 (Operand.tmp 17) (Operand.tmp 21) 9, type := 9, pos := "pack.go:41", after := #[{ on := 6, ground := Ground.data }, { on := 10, ground := Ground.data }], guard := none }) (v := ?_) rfl (by kernel_rfl) (by kernel_rfl) (by kernel_rfl) (fun _ _ _ h => h) (Or.inl ⟨by rfl, ?_⟩) (by assumption) ?_
        rotate_left
        · (intro w hSw; (try dsimp only at hSw); first | (go_simp; done) | (go_simp; with_reducible rfl))
        try simp only [Act.put, List.setIfInBounds_toArray, List.set_cons_zero, List.set_cons_succ]
        refine wpAnyH_ready (rs := [13]) (by kernel_rfl) (by simp) ?_
        refine AllReadyH.cons (o := { dst := none, op := Op.store 9 (Operand.tmp 4) (Operand.tmp 22), type := 0, pos := "pack.go:41", after := #[{ on := 12, ground := Ground.data }, { on := 11, ground := Ground.data }, { on := 10, ground := Ground.chain }, { on := 0, ground := Ground.phase }, { on := 1, ground := Ground.phase }, { on := 2, ground := Ground.phase }, { on := 3, ground := Ground.phase }, { on := 4, ground := Ground.phase }, { on := 5, ground := Ground.phase }, { on := 6, ground := Ground.phase }, { on := 7, ground := Ground.phase }, { on := 8, ground := Ground.phase }, { on := 9, ground := Ground.phase }, { on := 10, ground := Ground.phase }, { on := 11, ground := Ground.phase }, { on := 12, ground := Ground.phase }], guard := none }) rfl (fun K hK => ?_) AllReadyH.nil
        obtain ⟨q0, q1⟩ := (show _ ∧ _ from ⟨HBOX.out.cell, HBOX.out.frozen⟩)
        go_simp
        have HF17 := Lib.hid (show Bel w1 _ from HY16.out.setCell (p := ⟨b, 0, none⟩) HBL.out (.string (S1 ++ S2 ++ S3)))
        refine hK.out _ _ (HRS.out _ HF17.out) (fun hHeld => ?_)
        clear hK K
        try simp only [Act.put, List.setIfInBounds_toArray, List.set_cons_zero, List.set_cons_succ]
        refine wpAnyH_done (by kernel_rfl) ?_ _
        exact ⟨b, rfl, HXB.out, HBOX.out.set _, HF17.out⟩
    case m =>
      cases e with
      | normal =>
        obtain ⟨b, rfl, hXb, hbx, hbW⟩ := h
        have HXB := Lib.hid hXb
        have HBX := Lib.hid hbx
        have HBW := Lib.hid hbW
        have HKW := Lib.hid (qbel HK1.out hbW)
        clear hXb hbx hbW
        obtain ⟨⟨s0, s1, s2⟩, -⟩ := qbox3 HKW.out
        gi_wp2
        refine ⟨trivial, ?_⟩
        refine (callsIn_wide.2 (fields14_any ver next p L.length c _)).mono ?_
        rintro e1 w3 ⟨rfl, hw3⟩
        have hb3 : Bel W' w3 := by rw [hw3]; exact ((Bel.refl _).alloc _).alloc _
        have x5 : Boxed w3 (W'.heap.size + 1) 22 (.slice p L.length c) := by
          have e := Boxed.new (W'.alloc (.cells #[.int .i64 ver, .int .i64 next, .slice p L.length c] 24)) 22 (.slice p L.length c)
          rw [World.size_alloc] at e
          rw [hw3]; exact e
        have hsz3 : w3.heap.size = W'.heap.size + 2 := by rw [hw3]; simp
        obtain ⟨b5, hb5⟩ : ∃ b, b = W'.heap.size + 1 := ⟨_, rfl⟩
        rw [← hb5] at x5 ⊢
        have HX5 := Lib.hid x5
        have hxb : Boxed w3 b 9 (.string (S1 ++ S2 ++ S3)) := qbel HBX.out hb3
        have HXB3 := Lib.hid hxb
        have HBW3 := Lib.hid (show Bel w w3 from HB1.out.trans (HBW.out.trans hb3))
        have HN3 := Lib.hid (show w.heap.size ≤ w3.heap.size from HBW3.out.size)
        clear hw3 hsz3 hb5 hb3 x5 hxb s0 s1 s2
        obtain ⟨R, hRm⟩ : ∃ R : List (FVr next), R.map (·.1) = L := ⟨withP (fun f => fieldB next f = true ∧ f.okay) L (fun x hx => ⟨fieldsB_mem HP.out.1 x hx, HV.out x hx⟩), withP_map _⟩
        have HRL := Lib.hid (show R.length = L.length by rw [← hRm, List.length_map])
        have HRM := Lib.hid hRm
        clear hRm
        gi_wp2
        refine wpIn_rangeFunc_ownH rfl (by omega) (gf := 71) (lb := #[.pointer (some ⟨b5, 0, none⟩)]) rfl trivial (enters_of Tryd.func71 (by kernel_rfl) rfl)
          (vals14_stops (9 - 1) (by omega) b5 p c R w w3 (by rw [HRM.out]; exact H.out) (by rw [HRL.out]; exact HLM.out) [] (by rw [HRL.out]; exact HX5.out) HBW3.out) (fun h k => KeepR.trans h k) (keepR_b HN3.out (fun b hb => by cases hb)) (Below.refl _ _) (fun _ => rfl)
          (fun pre W => PkI b (putsN [ver.toNat, next.toNat, L.length]) next pre W ∧ Below w.heap.size w W)
          (fun c pre W => False ∧ Below w.heap.size w W)
          (OwnFrom.and (Own.from (pkI_own _ _ _) _) (ownFrom_below (Nat.le_refl _) HN3.out))
          (fun c => OwnFrom.and (ownFrom_pure _ (fun _ => False)) (ownFrom_below (Nat.le_refl _) HN3.out))
          ⟨⟨_, HXB3.out, by rw [HT0.out]; simp [fldsL], by have := HZ0.out; simp only [List.length_nil]; omega⟩, HBW3.out⟩
          (fun x a' W => ∃ Bx, b < Bx ∧ W.heap[Bx]? = some (Obj.cells #[.int .i64 x.1.id, .int .i64 x.1.kind, .string x.1.name, .int .i64 x.1.d.k, .int .i64 x.1.d.n, .string x.1.d.s] 31 (0, 0)) ∧ a' = { tmps := #[.agg #[.int .i64 ver, .int .i64 next, .slice p L.length c], .pointer (some ⟨X, 0, none⟩), .string ⟨#[]⟩, .int .i64 0, .pointer (some ⟨b, 0, none⟩), .pointer (some ⟨Bx, 0, none⟩), undef, undef, .agg #[.int .i64 ver, .int .i64 next, .slice p L.length c], .bool true, .bool false, .pointer (some ⟨X, 0, none⟩), .int .i64 ver, .string S1, .pointer (some ⟨X, 1, none⟩), .int .i64 next, .string S2, .string (S1 ++ S2), .pointer (some ⟨X, 2, none⟩), .slice p L.length c, .int .i64 L.length, .string S3, .string (S1 ++ S2 ++ S3), .agg #[.int .i64 ver, .int .i64 next, .slice p L.length c], .func (.func 71) #[] #[.pointer (some ⟨b5, 0, none⟩)], .agg #[.int .i64 x.1.id, .int .i64 x.1.kind, .string x.1.name, .int .i64 x.1.d.k, .int .i64 x.1.d.n, .string x.1.d.s], undef, undef, undef, undef, undef, undef, undef, undef, undef, undef, undef, undef, undef, undef, undef, undef, undef, undef, undef, undef, undef, undef, undef, undef, undef, undef], defers := [] })
          (fun x a' _ X Y row hs hg hr => by obtain ⟨Bx, e0, e2, e3⟩ := hs; exact ⟨Bx, e0, blk_own Bx _ _ () X Y row e2 hg (fun r e => (hr r e).2), e3⟩)
          ?assign ?body ?done ?stop
        case assign =>
          rintro l pre x W K ⟨⟨T, h1, h2, h3⟩, hB1⟩ hK
          rw [FV.val]
          gi_wp2
          have hal : Bel W (W.alloc (.cells #[.int .i64 x.1.id, .int .i64 x.1.kind, .string x.1.name, .int .i64 x.1.d.k, .int .i64 x.1.d.n, .string x.1.d.s] 31)) := (Bel.refl W).alloc _
          exact hK _ _ ((KeepsOthers.alloc _ _).from _) (bel_keepR hal hB1.size) ⟨⟨T, h1.alloc _, h2, h3⟩, hB1.trans (Below.mono hal hB1.size)⟩ ⟨W.heap.size, h1.lt, heap_alloc_new W _, rfl⟩
        case body =>
          rintro l pre x a' W hl - ⟨⟨T, h1, h2, h3⟩, hB⟩ ⟨Bx, hBx, hX, rfl⟩ hlt
          have hpl : pre.length ≤ 12 := by have := HRL.out; have := HL12.out; omega
          have H2 := Lib.hid h2; clear h2
          have HX := Lib.hid hX
          have H1 := Lib.hid h1
          have HBl := Lib.hid hB
          have HFP := Lib.hid (field_parts x.2.1)
          have HOK := Lib.hid x.2.2
          have HT3 := Lib.hid h3
          obtain ⟨⟨d0, d1, d2, d3, d4, d5⟩, -⟩ := qbox6 hX
          clear hX h1 hB h3
          gi_wp2
          refine ⟨trivial, ?_⟩
          refine (CallsIn.inRound l (callsIn_wide.2 (put_any x.1.d _ HOK.out.2.2 HOK.out.1.2.2 (HST.out.bel HBl.out)))).mono ?_
          rintro e w5 ⟨rfl, hb5⟩
          rw [show putV x.1.d = .tuple #[.string ⟨(encL x.1.d).toArray⟩, .int .i64 0] by unfold putV; rw [HFP.out.2.2.2.1]; rfl]
          have HB5 := Lib.hid hb5
          have HX5 := Lib.hid (qbel HX.out hb5)
          have HQ5 := Lib.hid (show Boxed w5 b 9 (.string T) from qbel H1.out hb5)
          have HBl5 := Lib.hid (HBl.out.trans (Below.mono hb5 (Below.size HBl.out)))
          have ze : (⟨(encL x.1.d).toArray⟩ : ByteArray).size ≤ 2003 := by rw [qba_size]; exact enc_len _ HFP.out.2.2.2.1
          obtain ⟨E, hE⟩ : ∃ S : ByteArray, S = ⟨(encL x.1.d).toArray⟩ := ⟨_, rfl⟩
          rw [← hE] at ze ⊢
          have HE := Lib.hid hE
          clear hE hb5 d0 d1 d2 d3 d4 d5
          have HFS := Lib.hid (show ∀ z, Bel w5 z → ((z.cell? ⟨Bx, 0, none⟩ = some (.int .i64 x.1.id) ∧ z.cell? ⟨Bx, 1, none⟩ = some (.int .i64 x.1.kind) ∧ z.cell? ⟨Bx, 2, none⟩ = some (.string x.1.name)) ∧ z.cell? ⟨b, 0, none⟩ = some (.string T)) from fun z hz => by
            obtain ⟨⟨f0, f1, f2, -⟩, -⟩ := qbox6 (qbel HX5.out hz)
            exact ⟨⟨f0, f1, f2⟩, (show Boxed z b 9 (.string T) from qbel HQ5.out hz).cell⟩)
          have HKD := Lib.hid ((kind_byte x.1.d HFP.out.2.2.2.1).2)
          have HNM := Lib.hid (nameL_len HFP.out.2.2.1)
          have hnz : x.1.name.size ≤ 24 := by have := HNM.out.2; exact this
          have hTz : T.size ≤ 30000 := by have := HT3.out; omega
          gi_wp2
          refine wpIn_mono (Q := Exit.then ?K (fun _ _ _ => False)) ?r (fun e a w h => ?m)
          case m =>
            cases e with
            | normal => exact h
            | _ => exact h.elim
          case r =>
            refine regionR_L (l := l) 19 (S := fun z => (z.cell? ⟨Bx, 0, none⟩ = some (.int .i64 x.1.id) ∧ z.cell? ⟨Bx, 1, none⟩ = some (.int .i64 x.1.kind) ∧ z.cell? ⟨Bx, 2, none⟩ = some (.string x.1.name)) ∧ z.cell? ⟨b, 0, none⟩ = some (.string T)) (by kernel_rfl) (by kernel_rfl) (HFS.out _ (Bel.refl _).drew) (fun hHeld => ?_)
            have HV0 := Lib.hid ((Bel.refl w5).drew)
            refine AnyL.take (i := 0) (oi := { dst := some 32, op := Op.load 9 (Operand.tmp 4), type := 9, pos := "pack.go:45", after := #[], guard := none }) (v := ?_) rfl (by decide) (by kernel_rfl) (by kernel_rfl) (by kernel_rfl) (by kernel_rfl) (fun _ _ _ h => h) (Or.inl ⟨by rfl, ?_⟩) (by assumption) ?_
            rotate_left
            · (intro w hSw; (try dsimp only at hSw); first | (go_simp; done) | (go_simp; with_reducible rfl))
            try simp only [Act.put, List.setIfInBounds_toArray, List.set_cons_zero, List.set_cons_succ]
            refine AnyL.take (i := 1) (oi := { dst := some 33, op := Op.fieldAddr 31 (Operand.tmp 5) 0, type := 0, pos := "pack.go:45", after := #[], guard := none }) (v := ?_) rfl (by decide) (by kernel_rfl) (by kernel_rfl) (by kernel_rfl) (by kernel_rfl) (fun _ _ _ h => h) (Or.inl ⟨by rfl, ?_⟩) (by assumption) ?_
            rotate_left
            · (intro w hSw; (try dsimp only at hSw); first | (go_simp; done) | (go_simp; with_reducible rfl))
            try simp only [Act.put, List.setIfInBounds_toArray, List.set_cons_zero, List.set_cons_succ]
            refine AnyL.take (i := 2) (oi := { dst := some 34, op := Op.load 3 (Operand.tmp 33), type := 3, pos := "pack.go:45", after := #[{ on := 1, ground := Ground.data }], guard := none }) (v := ?_) rfl (by decide) (by kernel_rfl) (by kernel_rfl) (by kernel_rfl) (by kernel_rfl) (fun _ _ _ h => h) (Or.inl ⟨by rfl, ?_⟩) (by assumption) ?_
            rotate_left
            · (intro w hSw; (try dsimp only at hSw); first | (go_simp; done) | (go_simp; with_reducible rfl))
            try simp only [Act.put, List.setIfInBounds_toArray, List.set_cons_zero, List.set_cons_succ]
            refine AnyL.take (i := 4) (oi := { dst := some 36, op := Op.fieldAddr 31 (Operand.tmp 5) 1, type := 0, pos := "pack.go:45", after := #[], guard := none }) (v := ?_) rfl (by decide) (by kernel_rfl) (by kernel_rfl) (by kernel_rfl) (by kernel_rfl) (fun _ _ _ h => h) (Or.inl ⟨by rfl, ?_⟩) (by assumption) ?_
            rotate_left
            · (intro w hSw; (try dsimp only at hSw); first | (go_simp; done) | (go_simp; with_reducible rfl))
            try simp only [Act.put, List.setIfInBounds_toArray, List.set_cons_zero, List.set_cons_succ]
            refine AnyL.take (i := 5) (oi := { dst := some 37, op := Op.load 3 (Operand.tmp 36), type := 3, pos := "pack.go:45", after := #[{ on := 4, ground := Ground.data }], guard := none }) (v := ?_) rfl (by decide) (by kernel_rfl) (by kernel_rfl) (by kernel_rfl) (by kernel_rfl) (fun _ _ _ h => h) (Or.inl ⟨by rfl, ?_⟩) (by assumption) ?_
            rotate_left
            · (intro w hSw; (try dsimp only at hSw); first | (go_simp; done) | (go_simp; with_reducible rfl))
            try simp only [Act.put, List.setIfInBounds_toArray, List.set_cons_zero, List.set_cons_succ]
            refine AnyL.take (i := 8) (oi := { dst := some 40, op := Op.fieldAddr 31 (Operand.tmp 5) 2, type := 0, pos := "pack.go:45", after := #[], guard := none }) (v := ?_) rfl (by decide) (by kernel_rfl) (by kernel_rfl) (by kernel_rfl) (by kernel_rfl) (fun _ _ _ h => h) (Or.inl ⟨by rfl, ?_⟩) (by assumption) ?_
            rotate_left
            · (intro w hSw; (try dsimp only at hSw); first | (go_simp; done) | (go_simp; with_reducible rfl))
            try simp only [Act.put, List.setIfInBounds_toArray, List.set_cons_zero, List.set_cons_succ]
            refine AnyL.take (i := 9) (oi := { dst := some 41, op := Op.load 9 (Operand.tmp 40), type := 9, pos := "pack.go:45", after := #[{ on := 8, ground := Ground.data }], guard := none }) (v := ?_) rfl (by decide) (by kernel_rfl) (by kernel_rfl) (by kernel_rfl) (by kernel_rfl) (fun _ _ _ h => h) (Or.inl ⟨by rfl, ?_⟩) (by assumption) ?_
            rotate_left
            · (intro w hSw; (try dsimp only at hSw); first | (go_simp; done) | (go_simp; with_reducible rfl))
            try simp only [Act.put, List.setIfInBounds_toArray, List.set_cons_zero, List.set_cons_succ]
            refine AnyL.take (i := 10) (oi := { dst := some 42, op := Op.call { callee := Callee.builtin Builtin.len, args := #[Operand.tmp 41], argTypes := #[9] }, type := 3, pos := "pack.go:45", after := #[{ on := 9, ground := Ground.data }], guard := none }) (v := ?_) rfl (by decide) (by kernel_rfl) (by kernel_rfl) (by kernel_rfl) (by kernel_rfl) (fun _ _ _ h => h) (Or.inl ⟨by rfl, ?_⟩) (by assumption) ?_
            rotate_left
            · (intro w hSw; (try dsimp only at hSw); first | (go_simp; done) | (go_simp; with_reducible rfl))
            try simp only [Act.put, List.setIfInBounds_toArray, List.set_cons_zero, List.set_cons_succ]
            refine AnyL.take (i := 13) (oi := { dst := some 45, op := Op.fieldAddr 31 (Operand.tmp 5) 2, type := 0, pos := "pack.go:45", after := #[], guard := none }) (v := ?_) rfl (by decide) (by kernel_rfl) (by kernel_rfl) (by kernel_rfl) (by kernel_rfl) (fun _ _ _ h => h) (Or.inl ⟨by rfl, ?_⟩) (by assumption) ?_
            rotate_left
            · (intro w hSw; (try dsimp only at hSw); first | (go_simp; done) | (go_simp; with_reducible rfl))
            try simp only [Act.put, List.setIfInBounds_toArray, List.set_cons_zero, List.set_cons_succ]
            refine AnyL.take (i := 14) (oi := { dst := some 46, op := Op.load 9 (Operand.tmp 45), type := 9, pos := "pack.go:45", after := #[{ on := 13, ground := Ground.data }], guard := none }) (v := ?_) rfl (by decide) (by kernel_rfl) (by kernel_rfl) (by kernel_rfl) (by kernel_rfl) (fun _ _ _ h => h) (Or.inl ⟨by rfl, ?_⟩) (by assumption) ?_
            rotate_left
            · (intro w hSw; (try dsimp only at hSw); first | (go_simp; done) | (go_simp; with_reducible rfl))
            try simp only [Act.put, List.setIfInBounds_toArray, List.set_cons_zero, List.set_cons_succ]
            refine AnyL.take (i := 16) (oi := { dst := some 48, op := Op.move (Operand.tmp 6), type := 9, pos := "pack.go:45", after := #[], guard := none }) (v := ?_) rfl (by decide) (by kernel_rfl) (by kernel_rfl) (by kernel_rfl) (by kernel_rfl) (fun _ _ _ h => h) (Or.inl ⟨by rfl, ?_⟩) (by assumption) ?_
            rotate_left
            · (intro w hSw; (try dsimp only at hSw); first | (go_simp; done) | (go_simp; with_reducible rfl))
            try simp only [Act.put, List.setIfInBounds_toArray, List.set_cons_zero, List.set_cons_succ]
            clear hHeld
            refine AnyL.ready (rs := [3]) (by kernel_rfl) (by simp) ?_
            refine (AllL.cons (o := { dst := some 35, op := Op.call { callee := Callee.value (Operand.func 42), args := #[Operand.tmp 34], argTypes := #[3] }, type := 9, pos := "pack.go:45", after := #[{ on := 2, ground := Ground.data }], guard := none }) rfl (fun K hK => ?_) AllL.nil)
            go_simp
            refine (pnumber14_any x.1.id (by have := HFP.out.1; omega) (by have h1 := HFP.out.2.1; have h2 := HNX.out; omega) _).mono ?_
            rintro e v1 ⟨rfl, hbn⟩
            have HV1 := Lib.hid (HV0.out.trans hbn)
            clear hbn
            have z4 : (⟨(putL (x.1.id).toNat).toArray⟩ : ByteArray).size ≤ 9 := by rw [qba_size, putL_len]; exact szN_le _
            obtain ⟨S4, hS4⟩ : ∃ S : ByteArray, S = ⟨(putL (x.1.id).toNat).toArray⟩ := ⟨_, rfl⟩
            rw [← hS4] at z4 ⊢
            have HS4 := Lib.hid hS4; clear hS4
            dsimp only
            refine hK.out _ _ (fun _ => HFS.out _ HV1.out) ?_
            clear hK K
            try simp only [Act.put, List.setIfInBounds_toArray, List.set_cons_zero, List.set_cons_succ]
            have hHeld := HFS.out _ HV1.out
            clear hHeld
            refine AnyL.ready (rs := [6]) (by kernel_rfl) (by simp) ?_
            refine (AllL.cons (o := { dst := some 38, op := Op.call { callee := Callee.value (Operand.func 42), args := #[Operand.tmp 37], argTypes := #[3] }, type := 9, pos := "pack.go:45", after := #[{ on := 5, ground := Ground.data }, { on := 3, ground := Ground.chain }], guard := none }) rfl (fun K hK => ?_) AllL.nil)
            go_simp
            refine (pnumber14_any x.1.kind (by have h1 := HFP.out.2.2.2.2; have h2 := HKD.out; omega) (by have h1 := HFP.out.2.2.2.2; have h2 := HKD.out; omega) _).mono ?_
            rintro e v2 ⟨rfl, hbn⟩
            have HV2 := Lib.hid (HV1.out.trans hbn)
            clear hbn
            have z5 : (⟨(putL (x.1.kind).toNat).toArray⟩ : ByteArray).size ≤ 9 := by rw [qba_size, putL_len]; exact szN_le _
            obtain ⟨S5, hS5⟩ : ∃ S : ByteArray, S = ⟨(putL (x.1.kind).toNat).toArray⟩ := ⟨_, rfl⟩
            rw [← hS5] at z5 ⊢
            have HS5 := Lib.hid hS5; clear hS5
            dsimp only
            refine hK.out _ _ (fun _ => HFS.out _ HV2.out) ?_
            clear hK K
            try simp only [Act.put, List.setIfInBounds_toArray, List.set_cons_zero, List.set_cons_succ]
            have hHeld := HFS.out _ HV2.out
            have y1 : ¬ 9223372036854775807 < S4.size + S5.size := by omega
            refine AnyL.take (i := 7) (oi := { dst := some 39, op := Op.binOp BinOp.add 9 (Operand.tmp 35) (Operand.tmp 38) 9, type := 9, pos := "pack.go:45", after := #[{ on := 3, ground := Ground.data }, { on := 6, ground := Ground.data }], guard := none }) (v := ?_) rfl (by decide) (by kernel_rfl) (by kernel_rfl) (by kernel_rfl) (by kernel_rfl) (fun _ _ _ h => h) (Or.inl ⟨by rfl, ?_⟩) (by assumption) ?_
            rotate_left
            · (intro w hSw; (try dsimp only at hSw); first | (go_simp; done) | (go_simp; with_reducible rfl))
            try simp only [Act.put, List.setIfInBounds_toArray, List.set_cons_zero, List.set_cons_succ]
            clear hHeld
            refine AnyL.ready (rs := [11]) (by kernel_rfl) (by simp) ?_
            refine (AllL.cons (o := { dst := some 43, op := Op.call { callee := Callee.value (Operand.func 42), args := #[Operand.tmp 42], argTypes := #[3] }, type := 9, pos := "pack.go:45", after := #[{ on := 10, ground := Ground.data }, { on := 6, ground := Ground.chain }], guard := none }) rfl (fun K hK => ?_) AllL.nil)
            go_simp
            refine (pnumber14_any (x.1.name.size : Int) (by omega) (by omega) _).mono ?_
            rintro e v3 ⟨rfl, hbn⟩
            have HV3 := Lib.hid (HV2.out.trans hbn)
            clear hbn
            have z6 : (⟨(putL ((x.1.name.size : Int)).toNat).toArray⟩ : ByteArray).size ≤ 9 := by rw [qba_size, putL_len]; exact szN_le _
            obtain ⟨S6, hS6⟩ : ∃ S : ByteArray, S = ⟨(putL ((x.1.name.size : Int)).toNat).toArray⟩ := ⟨_, rfl⟩
            rw [← hS6] at z6 ⊢
            have HS6 := Lib.hid hS6; clear hS6
            dsimp only
            refine hK.out _ _ (fun _ => HFS.out _ HV3.out) ?_
            clear hK K
            try simp only [Act.put, List.setIfInBounds_toArray, List.set_cons_zero, List.set_cons_succ]
            have hHeld := HFS.out _ HV3.out
            have y2 : ¬ 9223372036854775807 < S4.size + S5.size + S6.size := by omega
            have y2' : ¬ 9223372036854775807 < (S4 ++ S5).size + S6.size := by simp only [ByteArray.size_append]; omega
            have y3 : ¬ 9223372036854775807 < S4.size + S5.size + S6.size + x.1.name.size := by omega
            have y3' : ¬ 9223372036854775807 < (S4 ++ S5 ++ S6).size + x.1.name.size := by simp only [ByteArray.size_append]; omega
            have y4 : ¬ 9223372036854775807 < S4.size + S5.size + S6.size + x.1.name.size + E.size := by omega
            have y4' : ¬ 9223372036854775807 < (S4 ++ S5 ++ S6 ++ x.1.name).size + E.size := by simp only [ByteArray.size_append]; omega
            have y5 : ¬ 9223372036854775807 < T.size + (S4.size + S5.size + S6.size + x.1.name.size + E.size) := by omega
            have y5' : ¬ 9223372036854775807 < T.size + (S4 ++ S5 ++ S6 ++ x.1.name ++ E).size := by simp only [ByteArray.size_append]; omega
            refine AnyL.take (i := 12) (oi := { dst := some 44, op := Op.binOp BinOp.add 9 (Operand.tmp 39) (Operand.tmp 43) 9, type := 9, pos := "pack.go:45", after := #[{ on := 7, ground := Ground.data }, { on := 11, ground := Ground.data }], guard := none }) (v := ?_) rfl (by decide) (by kernel_rfl) (by kernel_rfl) (by kernel_rfl) (by kernel_rfl) (fun _ _ _ h => h) (Or.inl ⟨by rfl, ?_⟩) (by assumption) ?_
            rotate_left
            · (intro w hSw; (try dsimp only at hSw); first | (go_simp; done) | (go_simp; with_reducible rfl))
            try simp only [Act.put, List.setIfInBounds_toArray, List.set_cons_zero, List.set_cons_succ]
            refine AnyL.take (i := 15) (oi := { dst := some 47, op := Op.binOp BinOp.add 9 (Operand.tmp 44) (Operand.tmp 46) 9, type := 9, pos := "pack.go:45", after := #[{ on := 12, ground := Ground.data }, { on := 14, ground := Ground.data }], guard := none }) (v := ?_) rfl (by decide) (by kernel_rfl) (by kernel_rfl) (by kernel_rfl) (by kernel_rfl) (fun _ _ _ h => h) (Or.inl ⟨by rfl, ?_⟩) (by assumption) ?_
            rotate_left
            · (intro w hSw; (try dsimp only at hSw); first | (go_simp; done) | (go_simp; with_reducible rfl))
            try simp only [Act.put, List.setIfInBounds_toArray, List.set_cons_zero, List.set_cons_succ]
            refine AnyL.take (i := 17) (oi := { dst := some 49, op := Op.binOp BinOp.add 9 (Operand.tmp 47) (Operand.tmp 48) 9, type := 9, pos := "pack.go:45", after := #[{ on := 15, ground := Ground.data }, { on := 16, ground := Ground.data }], guard := none }) (v := ?_) rfl (by decide) (by kernel_rfl) (by kernel_rfl) (by kernel_rfl) (by kernel_rfl) (fun _ _ _ h => h) (Or.inl ⟨by rfl, ?_⟩) (by assumption) ?_
            rotate_left
            · (intro w hSw; (try dsimp only at hSw); first | (go_simp; done) | (go_simp; with_reducible rfl))
            try simp only [Act.put, List.setIfInBounds_toArray, List.set_cons_zero, List.set_cons_succ]
            refine AnyL.take (i := 18) (oi := { dst := some 50, op := Op.binOp BinOp.add 9 (Operand.tmp 32) (Operand.tmp 49) 9, type := 9, pos := "pack.go:45", after := #[{ on := 0, ground := Ground.data }, { on := 17, ground := Ground.data }], guard := none }) (v := ?_) rfl (by decide) (by kernel_rfl) (by kernel_rfl) (by kernel_rfl) (by kernel_rfl) (fun _ _ _ h => h) (Or.inl ⟨by rfl, ?_⟩) (by assumption) ?_
            rotate_left
            · (intro w hSw; (try dsimp only at hSw); first | (go_simp; done) | (go_simp; with_reducible rfl))
            try simp only [Act.put, List.setIfInBounds_toArray, List.set_cons_zero, List.set_cons_succ]
            clear hHeld
            refine AnyL.ready (rs := [19]) (by kernel_rfl) (by simp) ?_
            refine (AllL.cons (o := { dst := none, op := Op.store 9 (Operand.tmp 4) (Operand.tmp 50), type := 0, pos := "pack.go:45", after := #[{ on := 18, ground := Ground.data }, { on := 11, ground := Ground.chain }, { on := 0, ground := Ground.phase }, { on := 1, ground := Ground.phase }, { on := 2, ground := Ground.phase }, { on := 3, ground := Ground.phase }, { on := 4, ground := Ground.phase }, { on := 5, ground := Ground.phase }, { on := 6, ground := Ground.phase }, { on := 7, ground := Ground.phase }, { on := 8, ground := Ground.phase }, { on := 9, ground := Ground.phase }, { on := 10, ground := Ground.phase }, { on := 11, ground := Ground.phase }, { on := 12, ground := Ground.phase }, { on := 13, ground := Ground.phase }, { on := 14, ground := Ground.phase }, { on := 15, ground := Ground.phase }, { on := 16, ground := Ground.phase }, { on := 17, ground := Ground.phase }, { on := 18, ground := Ground.phase }], guard := none }) rfl (fun K hK => ?_) AllL.nil)
            have hq : Boxed v3 b 9 (.string T) := qbel HQ5.out HV3.out
            have HQ := Lib.hid hq
            have q0 := hq.cell
            have q1 := hq.frozen
            clear hq
            go_simp
            refine hK.out _ _ (fun h => absurd rfl h) ?_
            clear hK K
            try simp only [Act.put, List.setIfInBounds_toArray, List.set_cons_zero, List.set_cons_succ]
            refine AnyL.done (by kernel_rfl) ?_ _
            clear q0 q1
            have HTN := Lib.hid (show (T ++ (S4 ++ S5 ++ S6 ++ x.1.name ++ E)).data.toList = putsN [ver.toNat, next.toNat, L.length] ++ fldsL ((pre ++ [x]).map (·.1)) by
              rw [List.map_append, List.map_cons, List.map_nil, fldsL_snoc, ← List.append_assoc, ← H2.out]
              have e2 : (x.1.name.size : Int).toNat = x.1.t.length := by rw [Int.toNat_natCast]; rfl
              simp only [HS4.out, HS5.out, HS6.out, HE.out, encF, putsN, List.flatMap_cons, List.flatMap_nil, List.append_nil, e2, ByteArray.data_append, Array.toList_append, FV.t, List.append_assoc])
            have HZN := Lib.hid (show (T ++ (S4 ++ S5 ++ S6 ++ x.1.name ++ E)).size ≤ 27 + 2054 * (pre ++ [x]).length by
              rw [List.length_append, List.length_singleton]
              have := HT3.out
              simp only [ByteArray.size_append]
              omega)
            obtain ⟨TN, hTN⟩ : ∃ TN, TN = T ++ (S4 ++ S5 ++ S6 ++ x.1.name ++ E) := ⟨_, rfl⟩
            rw [← hTN] at HTN HZN ⊢
            clear hTN y1 y2 y2' y3 y3' y4 y4' y5 y5'
            gi_wp2
            have hbv : Bel W v3 := HB5.out.trans HV3.out
            have hk7 := keep_st v3 b 0 (.string TN)
            have hBv : Below w.heap.size w v3 := HBl.out.trans (Below.mono hbv (Below.size HBl.out))
            have hkW : Keep [b] W (v3.setCell ⟨b, 0, none⟩ (.string TN)) := (Keep.of_bel hbv [b]).trans hk7 (fun j hj => Or.inl hj)
            exact ⟨(keepO_keep hkW H1.out).from _, KeepR.of_keep hkW (Below.size HBl.out) (fun j hj => by rw [List.mem_singleton] at hj; subst hj; exact ⟨by have h1 := HXB.out; have h2 := HXE.out; omega, by simp⟩), ⟨TN, HQ.out.set _, HTN.out, HZN.out⟩, keep_belowq hk7 hBv (Nat.le_refl _) (by have h1 := HXB.out; have h2 := HXE.out; omega)⟩
        case done =>
          rintro D ys W hD rfl ⟨⟨T, h1, h2, h3⟩, hB⟩ hK
          have HR := Lib.hid (show packV14 ⟨ver, next, L⟩ = .tuple #[.string T, .int .i64 0] by
            rw [pack14_yes HRT.out]
            rw [HRM.out] at h2
            rw [show (⟨(encS ⟨ver, next, L⟩).toArray⟩ : ByteArray) = T from (qba_of (by rw [h2]; rfl)).symm])
          have c1 := h1.cell
          clear h2 h3
          gi_wp2
          refine ⟨by simp, .inl ⟨_, _, rfl, run_takeDeferred hK, ?_⟩⟩
          exact ⟨_, results_tmp2 rfl _ _ _, by rw [HR.out]; rfl, hB.trans (belowK_b (w := w) (Nat.le_refl _) _ D _ _ (by have := HN3.out; omega) hK rfl rfl)⟩
        case stop =>
          rintro D cd pre W hD hp ⟨hf, -⟩ hK
          exact hf.elim
      | _ => exact h.elim
end Go.Proofs.YtbalkchphijehaaDoor
/- moultlaw14: unpacks, shown. -/
set_option maxRecDepth 20000
namespace Go.Proofs.YtbalkchphijehaaDoor
open Go.RowKit Go.Deep

/-- What is unpacked, in parts. -/
def unpQ (o : Option (SV × List UInt8)) : SV × ByteArray × Int := match o with
  | some x => (x.1, ⟨x.2.toArray⟩, 0)
  | none => (⟨0, 0, []⟩, ⟨#[]⟩, 8)
theorem unp_form {o : Option (SV × List UInt8)} {w w' : World} {e : Ending} (h : UnpPost14 o w e w') : ∃ p c, e = .returned (.tuple #[.agg #[.int .i64 (unpQ o).1.ver, .int .i64 (unpQ o).1.next, .slice p (unpQ o).1.fs.length c], .string (unpQ o).2.1, .int .i64 (unpQ o).2.2]) ∧ FldsAt w' p (unpQ o).1.fs ∧ Bel w w' := by
  cases o with
  | none =>
    obtain ⟨rfl, hb⟩ := h
    exact ⟨none, 0, rfl, fun i hi => by simp [unpQ] at hi, hb⟩
  | some x =>
    obtain ⟨v, rfl, hv, hb⟩ := h
    obtain ⟨p, c, rfl⟩ := ownG_len hv
    exact ⟨p, c, rfl, ownG_fldsQ hv, hb⟩
theorem unpQ_len (s : List UInt8) : (unpQ (readS s)).1.fs.length ≤ 12 := by
  cases h : readS s with
  | none => simp [unpQ]
  | some x => obtain ⟨S, r⟩ := x; exact (rightS_parts (readS_back h).1).2.2.2.2
set_option maxHeartbeats 4000000 in
theorem unpacks14_any (s : ByteArray) (w : World) (hs : s.size ≤ 1000000) (hstd : Std w) :
    Calls Tryd.prog 28 #[.string s] w fun e w' => e = .returned (.bool true) ∧ Bel w w' := by
  obtain ⟨o, ho⟩ : ∃ o, o = readS s.data.toList := ⟨_, rfl⟩
  have HO := Lib.hid ho
  have hl := unpQ_len s.data.toList
  rw [← ho] at hl
  have HSZ := Lib.hid hs
  have HST := Lib.hid hstd
  clear ho hs hstd
  obtain ⟨⟨⟨a, b, F⟩, r, er⟩, hq⟩ : ∃ q, unpQ o = q := ⟨_, rfl⟩
  rw [hq] at hl
  have HQ := Lib.hid hq
  simp only at hl
  have HL := Lib.hid hl
  clear hq hl
  go_enter Tryd.func28, Tryd.ntmps28
  go_wp2_with (fail)
  refine (punpack14_any s _ HSZ.out HST.out).mono ?_
  intro e w1 h1
  rw [← HO.out] at h1
  obtain ⟨p, c, rfl, hf, hb1⟩ := unp_form h1
  rw [HQ.out] at hf ⊢
  simp only at hf ⊢
  have hal : Bel w1 (w1.alloc (.cells #[.int .i64 a, .int .i64 b, .slice p F.length c] 24)) := (Bel.refl _).alloc _
  have HB2 := Lib.hid (hb1.trans hal)
  have HF2 := Lib.hid (hf.bel hal)
  have HX2 := Lib.hid (heap_alloc_new w1 (.cells #[.int .i64 a, .int .i64 b, .slice p F.length c] 24))
  clear h1 hf hb1 hal
  go_wp2_with (fail)
  refine (run14_any s _ HSZ.out).mono ?_
  intro e w3 h3
  rw [← HO.out] at h3
  obtain ⟨p', c', rfl, hf, hb3⟩ := unp_form h3
  rw [HQ.out] at hf ⊢
  simp only at hf ⊢
  have hal : Bel w3 (w3.alloc (.cells #[.int .i64 a, .int .i64 b, .slice p' F.length c'] 24)) := (Bel.refl _).alloc _
  have HB4 := Lib.hid ((HB2.out.trans hb3).trans hal)
  have HF4 := Lib.hid (HF2.out.bel (hb3.trans hal))
  have HG4 := Lib.hid (hf.bel hal)
  obtain ⟨⟨c0, c1, c2⟩, -⟩ := qbox3 (qbel HX2.out (hb3.trans hal))
  obtain ⟨⟨d0, d1, d2⟩, -⟩ := qbox3 (heap_alloc_new w3 (.cells #[.int .i64 a, .int .i64 b, .slice p' F.length c'] 24))
  clear h3 hf hb3 hal
  go_wp2_with (fail)
  refine (same14_any a b p p' c c' F _ HF4.out HG4.out (by have := HL.out; omega)).mono ?_
  rintro e w5 ⟨rfl, hb5⟩
  have HB5 := Lib.hid (HB4.out.trans hb5)
  clear hb5 c0 c1 c2 d0 d1 d2
  go_wp2_with (fail)
  go_ret
  exact ⟨rfl, HB5.out⟩
def shF14 : List FV := [⟨1, 2, ⟨#[97]⟩, ⟨2, 5, ⟨#[]⟩⟩⟩, ⟨2, 5, ⟨#[98]⟩, ⟨5, 0, ⟨#[]⟩⟩⟩]
def oneV14 : KV := ⟨2, 1, ⟨#[]⟩⟩
def xV14 : KV := ⟨5, 0, ⟨#[120]⟩⟩
def wideV14 : KV := ⟨3, 1, ⟨#[]⟩⟩
def boolV14 : KV := ⟨1, 1, ⟨#[]⟩⟩
theorem sh_fit1 : fitsE shF14 [oneV14, xV14] = 0 := by decide
theorem sh_fit2 : fitsE shF14 [wideV14, xV14] = 12 := by decide
theorem sh_fit3 : fitsE shF14 [oneV14] = 13 := by decide
theorem sh_right : rightS ⟨1, 3, shF14⟩ = true := by decide
theorem sh_put : prowV 7 1 [boolV14] = .tuple #[.string ⟨#[7, 1, 1, 1, 1]⟩, .int .i64 0] := by kernel_rfl
theorem sh_take : readRow [7, 1, 1, 1, 1] = some (7, 1, [boolV14]) := by
  have h := row_enc (t := 7) (ver := 1) (L := [boolV14]) (by decide) (fun v hv => by rw [List.mem_singleton] at hv; subst hv; exact ⟨by decide, by decide⟩)
  exact h
theorem sh_none : readRow [] = none := rfl
theorem sh_okF : allF shF14 := by
  intro f hf
  simp only [shF14, List.mem_cons, List.not_mem_nil, or_false] at hf
  rcases hf with rfl | rfl <;> exact ⟨⟨⟨by decide, by decide⟩, ⟨by decide, by decide⟩, by decide, by decide⟩, by decide, by decide⟩
theorem sh_okV {L : List KV} (h : ∀ v ∈ L, v = oneV14 ∨ v = xV14 ∨ v = wideV14 ∨ v = boolV14) : allV L := by
  intro v hv
  rcases h v hv with rfl | rfl | rfl | rfl <;> exact ⟨⟨by decide, by decide⟩, by decide⟩
theorem vals_newQ (w : World) (arr : Array Value) (L : List KV) (h : arr.toList = valEl.all L) (hl : L.length ≤ maxLen) : ValsAt (w.alloc (.cells arr 29)) (some ⟨w.heap.size, 0, none⟩) L := by
  obtain ⟨p, c, hv, hva⟩ := ownG_vals (ownG_new valOk 0 w arr L h (Nat.zero_le _) hl)
  simp only [Value.slice.injEq] at hv
  rw [← hv.1] at hva
  exact hva
theorem flds_newQ (w : World) (arr : Array Value) (L : List FV) (h : arr.toList = fldEl.all L) (hl : L.length ≤ maxLen) : FldsAt (w.alloc (.cells arr 31)) (some ⟨w.heap.size, 0, none⟩) L :=
  ownG_fldsQ (ownG_new fldOk 0 w arr L h (Nat.zero_le _) hl)
set_option maxHeartbeats 16000000 in
theorem shown14_any (w : World) (hstd : Std w) : Calls Tryd.prog 9 #[] w fun e w' => e = .returned (.bool true) ∧ Bel w w' := by
  have HST := Lib.hid hstd
  clear hstd
  obtain ⟨X, hX⟩ : ∃ X, X = w.heap.size := ⟨_, rfl⟩
  obtain ⟨w1, hw1⟩ : ∃ z, z = (((w.alloc (.cells #[.int .i64 1, .int .i64 2, .string ⟨#[97]⟩, .int .i64 2, .int .i64 5, .string ⟨#[]⟩, .int .i64 2, .int .i64 5, .string ⟨#[98]⟩, .int .i64 5, .int .i64 0, .string ⟨#[]⟩] 31)).alloc (.cells #[.int .i64 1, .int .i64 3, .slice (some ⟨w.heap.size, 0, none⟩) 2 2] 24)).alloc (.cells #[.int .i64 2, .int .i64 1, .string ⟨#[]⟩] 29)).alloc (.cells #[.int .i64 5, .int .i64 0, .string ⟨#[120]⟩] 29) := ⟨_, rfl⟩
  have hb1 : Bel w w1 := by rw [hw1]; exact ((((Bel.refl w).alloc _).alloc _).alloc _).alloc _
  have HB1 := Lib.hid hb1
  have HF1 := Lib.hid (show FldsAt w1 (some ⟨X, 0, none⟩) shF14 by
    rw [hw1, hX]
    exact (flds_newQ w _ shF14 rfl (by decide)).bel ((((Bel.refl _).alloc _).alloc _).alloc _))
  have HS1 := Lib.hid (show w1.heap[X + 1]? = some (.cells #[.int .i64 1, .int .i64 3, .slice (some ⟨X, 0, none⟩) 2 2] 24 (0, 0)) by
    have e := heap_alloc_new (w.alloc (.cells #[.int .i64 1, .int .i64 2, .string ⟨#[97]⟩, .int .i64 2, .int .i64 5, .string ⟨#[]⟩, .int .i64 2, .int .i64 5, .string ⟨#[98]⟩, .int .i64 5, .int .i64 0, .string ⟨#[]⟩] 31)) (.cells #[.int .i64 1, .int .i64 3, .slice (some ⟨w.heap.size, 0, none⟩) 2 2] 24)
    simp only [World.size_alloc] at e
    rw [hw1, hX]; exact qbel e (((Bel.refl _).alloc _).alloc _))
  have HO1 := Lib.hid (show w1.heap[X + 1 + 1]? = some (.cells #[.int .i64 2, .int .i64 1, .string ⟨#[]⟩] 29 (0, 0)) by
    have e := heap_alloc_new ((w.alloc (.cells #[.int .i64 1, .int .i64 2, .string ⟨#[97]⟩, .int .i64 2, .int .i64 5, .string ⟨#[]⟩, .int .i64 2, .int .i64 5, .string ⟨#[98]⟩, .int .i64 5, .int .i64 0, .string ⟨#[]⟩] 31)).alloc (.cells #[.int .i64 1, .int .i64 3, .slice (some ⟨w.heap.size, 0, none⟩) 2 2] 24)) (.cells #[.int .i64 2, .int .i64 1, .string ⟨#[]⟩] 29)
    simp only [World.size_alloc] at e
    rw [hw1, hX]; exact qbel e ((Bel.refl _).alloc _))
  have HX1 := Lib.hid (show w1.heap[X + 1 + 1 + 1]? = some (.cells #[.int .i64 5, .int .i64 0, .string ⟨#[120]⟩] 29 (0, 0)) by
    have e := heap_alloc_new (((w.alloc (.cells #[.int .i64 1, .int .i64 2, .string ⟨#[97]⟩, .int .i64 2, .int .i64 5, .string ⟨#[]⟩, .int .i64 2, .int .i64 5, .string ⟨#[98]⟩, .int .i64 5, .int .i64 0, .string ⟨#[]⟩] 31)).alloc (.cells #[.int .i64 1, .int .i64 3, .slice (some ⟨w.heap.size, 0, none⟩) 2 2] 24)).alloc (.cells #[.int .i64 2, .int .i64 1, .string ⟨#[]⟩] 29)) (.cells #[.int .i64 5, .int .i64 0, .string ⟨#[120]⟩] 29)
    simp only [World.size_alloc] at e
    rw [hw1, hX]; exact e)
  have hz1 := Lib.hid (show w1.heap.size = X + 1 + 1 + 1 + 1 by rw [hw1, hX]; simp)
  clear hb1
  go_enter Tryd.func9, Tryd.ntmps9
  go_wp2_with (fail)
  rw [← hw1, ← hX]
  clear hw1 hX
  have HZ1 := hz1
  clear hz1
  have hva1 := vals_newQ w1 #[.int .i64 2, .int .i64 1, .string ⟨#[]⟩, .int .i64 5, .int .i64 0, .string ⟨#[120]⟩] [oneV14, xV14] rfl (by decide)
  have hal1 : Bel w1 (w1.alloc (.cells #[.int .i64 2, .int .i64 1, .string ⟨#[]⟩, .int .i64 5, .int .i64 0, .string ⟨#[120]⟩] 29)) := (Bel.refl _).alloc _
  have hfi1 := HF1.out.bel hal1
  rw [HZ1.out] at hva1
  refine (pfits14_any 1 3 (some ⟨X, 0, none⟩) 2 shF14 _ _ [oneV14, xV14] _ hfi1 (by decide) hva1 (by decide) (sh_okV (fun v hv => by simp only [List.mem_cons, List.not_mem_nil, or_false] at hv; (try rcases hv with rfl | rfl) <;> (try subst hv) <;> simp))).mono ?_
  rintro e w2 ⟨rfl, hb⟩
  rw [sh_fit1]
  have hbb := hal1.trans hb
  have HB2 := Lib.hid (HB1.out.trans hbb)
  have HF2 := Lib.hid (HF1.out.bel hbb)
  have HS2 := Lib.hid (qbel HS1.out hbb)
  have HO2 := Lib.hid (qbel HO1.out hbb)
  have HX2 := Lib.hid (qbel HX1.out hbb)
  clear hb hbb hal1 hfi1 hva1
  obtain ⟨⟨s0, s1, s2⟩, -⟩ := qbox3 HS2.out
  obtain ⟨⟨o0, o1, o2⟩, -⟩ := qbox3 HO2.out
  obtain ⟨⟨x0, x1, x2⟩, -⟩ := qbox3 HX2.out
  go_wp2_with (fail)
  clear s0 s1 s2 o0 o1 o2 x0 x1 x2
  have hva2 := vals_newQ w2 #[.int .i64 3, .int .i64 1, .string ⟨#[]⟩, .int .i64 5, .int .i64 0, .string ⟨#[120]⟩] [wideV14, xV14] rfl (by decide)
  have hal2 : Bel w2 (w2.alloc (.cells #[.int .i64 3, .int .i64 1, .string ⟨#[]⟩, .int .i64 5, .int .i64 0, .string ⟨#[120]⟩] 29)) := (Bel.refl _).alloc _
  have hfi2 := HF2.out.bel hal2
  refine (pfits14_any 1 3 (some ⟨X, 0, none⟩) 2 shF14 _ _ [wideV14, xV14] _ hfi2 (by decide) hva2 (by decide) (sh_okV (fun v hv => by simp only [List.mem_cons, List.not_mem_nil, or_false] at hv; (try rcases hv with rfl | rfl) <;> (try subst hv) <;> simp))).mono ?_
  rintro e w3 ⟨rfl, hb⟩
  rw [sh_fit2]
  have hbb := hal2.trans hb
  have HB3 := Lib.hid (HB2.out.trans hbb)
  have HF3 := Lib.hid (HF2.out.bel hbb)
  have HS3 := Lib.hid (qbel HS2.out hbb)
  have HO3 := Lib.hid (qbel HO2.out hbb)
  have HX3 := Lib.hid (qbel HX2.out hbb)
  clear hb hbb hal2 hfi2 hva2
  obtain ⟨⟨s0, s1, s2⟩, -⟩ := qbox3 HS3.out
  obtain ⟨⟨o0, o1, o2⟩, -⟩ := qbox3 HO3.out
  obtain ⟨⟨x0, x1, x2⟩, -⟩ := qbox3 HX3.out
  go_wp2_with (fail)
  clear s0 s1 s2 o0 o1 o2 x0 x1 x2
  have hva3 := vals_newQ w3 #[.int .i64 2, .int .i64 1, .string ⟨#[]⟩] [oneV14] rfl (by decide)
  have hal3 : Bel w3 (w3.alloc (.cells #[.int .i64 2, .int .i64 1, .string ⟨#[]⟩] 29)) := (Bel.refl _).alloc _
  have hfi3 := HF3.out.bel hal3
  refine (pfits14_any 1 3 (some ⟨X, 0, none⟩) 2 shF14 _ _ [oneV14] _ hfi3 (by decide) hva3 (by decide) (sh_okV (fun v hv => by simp only [List.mem_cons, List.not_mem_nil, or_false] at hv; (try rcases hv with rfl | rfl) <;> (try subst hv) <;> simp))).mono ?_
  rintro e w4 ⟨rfl, hb⟩
  rw [sh_fit3]
  have hbb := hal3.trans hb
  have HB4 := Lib.hid (HB3.out.trans hbb)
  have HF4 := Lib.hid (HF3.out.bel hbb)
  have HS4 := Lib.hid (qbel HS3.out hbb)
  have HO4 := Lib.hid (qbel HO3.out hbb)
  have HX4 := Lib.hid (qbel HX3.out hbb)
  clear hb hbb hal3 hfi3 hva3
  go_wp2_with (fail)
  have hva := vals_newQ w4 #[.int .i64 1, .int .i64 1, .string ⟨#[]⟩] [boolV14] rfl (by decide)
  have hal : Bel (w4.alloc (.cells #[.int .i64 1, .int .i64 1, .string ⟨#[]⟩] 29)) ((w4.alloc (.cells #[.int .i64 1, .int .i64 1, .string ⟨#[]⟩] 29)).alloc (.cells #[.int .i64 1, .slice (some ⟨w4.heap.size, 0, none⟩) 1 1] 41)) := (Bel.refl _).alloc _
  have hal2 : Bel w4 ((w4.alloc (.cells #[.int .i64 1, .int .i64 1, .string ⟨#[]⟩] 29)).alloc (.cells #[.int .i64 1, .slice (some ⟨w4.heap.size, 0, none⟩) 1 1] 41)) := ((Bel.refl _).alloc _).alloc _
  have HVA := Lib.hid (hva.bel hal)
  have HR5 := Lib.hid (show ((w4.alloc (.cells #[.int .i64 1, .int .i64 1, .string ⟨#[]⟩] 29)).alloc (.cells #[.int .i64 1, .slice (some ⟨w4.heap.size, 0, none⟩) 1 1] 41)).heap[w4.heap.size + 1]? = some (.cells #[.int .i64 1, .slice (some ⟨w4.heap.size, 0, none⟩) 1 1] 41 (0, 0)) by
    have e := heap_alloc_new (w4.alloc (.cells #[.int .i64 1, .int .i64 1, .string ⟨#[]⟩] 29)) (.cells #[.int .i64 1, .slice (some ⟨w4.heap.size, 0, none⟩) 1 1] 41)
    simp only [World.size_alloc] at e
    exact e)
  have HB5 := Lib.hid (HB4.out.trans hal2)
  have HF5 := Lib.hid (HF4.out.bel hal2)
  have HS5 := Lib.hid (qbel HS4.out hal2)
  clear hva hal hal2
  obtain ⟨w5, hw5⟩ : ∃ z, z = (w4.alloc (.cells #[.int .i64 1, .int .i64 1, .string ⟨#[]⟩] 29)).alloc (.cells #[.int .i64 1, .slice (some ⟨w4.heap.size, 0, none⟩) 1 1] 41) := ⟨_, rfl⟩
  rw [← hw5] at HVA HR5 HB5 HF5 HS5 ⊢
  clear hw5
  obtain ⟨Y, hY⟩ : ∃ Y, Y = w4.heap.size := ⟨_, rfl⟩
  rw [← hY] at HVA HR5 ⊢
  clear hY
  refine (pput14_any 7 1 (some ⟨Y, 0, none⟩) 1 [boolV14] _ HVA.out (by decide) (sh_okV (fun v hv => by rw [List.mem_singleton] at hv; subst hv; simp)) (HST.out.bel HB5.out)).mono ?_
  rintro e w6 ⟨rfl, hb⟩
  rw [sh_put]
  have HB6 := Lib.hid (HB5.out.trans hb)
  have HVA6 := Lib.hid (HVA.out.bel hb)
  have HR6 := Lib.hid (qbel HR5.out hb)
  have HF6 := Lib.hid (HF5.out.bel hb)
  have HS6 := Lib.hid (qbel HS5.out hb)
  clear hb
  go_wp2_with (fail)
  refine (ptake14_any ⟨#[7, 1, 1, 1, 1]⟩ _ (by decide) (HST.out.bel HB6.out)).mono ?_
  intro e w7 htk
  rw [show (⟨#[7, 1, 1, 1, 1]⟩ : ByteArray).data.toList = [7, 1, 1, 1, 1] from rfl, sh_take] at htk
  obtain ⟨v, rfl, hov, hb⟩ := htk
  obtain ⟨vp, vc, rfl⟩ := ownG_len hov
  obtain ⟨vp', vc', hvv, hvals⟩ := ownG_vals hov
  simp only [Value.slice.injEq] at hvv
  rw [← hvv.1] at hvals
  have hal : Bel w7 (w7.alloc (.cells #[.int .i64 1, .slice vp 1 vc] 41)) := (Bel.refl _).alloc _
  have hbb := hb.trans hal
  have HB8 := Lib.hid (HB6.out.trans hbb)
  have HVA8 := Lib.hid (HVA6.out.bel hbb)
  have HQ8 := Lib.hid (hvals.bel hal)
  have HR8 := Lib.hid (qbel HR6.out hbb)
  have HF8 := Lib.hid (HF6.out.bel hbb)
  have HS8 := Lib.hid (qbel HS6.out hbb)
  have HT8 := Lib.hid (heap_alloc_new w7 (.cells #[.int .i64 1, .slice vp 1 vc] 41))
  clear hov hvv hvals hal hb hbb
  go_wp2_with (fail)
  refine (ptake14_any ⟨#[]⟩ _ (by decide) (HST.out.bel HB8.out)).mono ?_
  intro e w9 htk
  rw [show (⟨#[]⟩ : ByteArray).data.toList = [] from rfl, sh_none] at htk
  obtain ⟨rfl, hb⟩ := htk
  have hal : Bel w9 (w9.alloc (.cells #[.int .i64 0, .slice none 0 0] 41)) := (Bel.refl _).alloc _
  have hbb := hb.trans hal
  have HB10 := Lib.hid (HB8.out.trans hbb)
  have HVA10 := Lib.hid (HVA8.out.bel hbb)
  have HQ10 := Lib.hid (HQ8.out.bel hbb)
  have HR10 := Lib.hid (qbel HR8.out hbb)
  have HF10 := Lib.hid (HF8.out.bel hbb)
  have HT10 := Lib.hid (qbel HT8.out hbb)
  obtain ⟨⟨s0, s1, s2⟩, -⟩ := qbox3 (qbel HS8.out hbb)
  clear hal hb hbb
  go_wp2_with (fail)
  clear s0 s1 s2
  refine (pright14_any 1 3 (some ⟨X, 0, none⟩) 2 shF14 _ HF10.out (by decide) (by decide) sh_okF).mono ?_
  rintro e w11 ⟨rfl, hb⟩
  rw [sh_right]
  have HB11 := Lib.hid (HB10.out.trans hb)
  have HVA11 := Lib.hid (HVA10.out.bel hb)
  have HQ11 := Lib.hid (HQ10.out.bel hb)
  obtain ⟨⟨r0, r1⟩, -⟩ := qbox2 (qbel HR10.out hb)
  obtain ⟨⟨t0, t1⟩, -⟩ := qbox2 (qbel HT10.out hb)
  clear hb
  go_wp2_with (fail)
  refine (sameV14_any vp (some ⟨Y, 0, none⟩) vc 1 [boolV14] _ HQ11.out HVA11.out (by decide)).mono ?_
  rintro e w12 ⟨rfl, hd⟩
  have HB12 := Lib.hid (HB11.out.trans hd.bel)
  clear hd
  go_wp2_with (fail)
  go_ret
  exact ⟨rfl, HB12.out⟩
end Go.Proofs.YtbalkchphijehaaDoor
