/- QPPut, QPTake, QRTk, QRUn, QPPack, QShown, QLaw2, laid together. -/
import Derived.Test.YtbalkchphijehaaDoorQ10
import Derived.Test.YtbalkchphijehaaDoorQ9
import Derived.Test.YtbalkchphijehaaDoorQ11
import Derived.Test.YtbalkchphijehaaDoorQ6
import Derived.Test.YtbalkchphijehaaDoorQ13
import Derived.Test.YtbalkchphijehaaDoorQ14
set_option linter.unusedSimpArgs false
set_option linter.unusedVariables false
/- schema.Put. -/
set_option maxRecDepth 20000
namespace Go.Proofs.YtbalkchphijehaaDoor
open Go.RowKit Go.Deep

theorem row_wit (t ver : Int) (L : List KV) : rowB t ver L = (witB t 0 1000000 && (witB ver 0 1000000 && (decide (L.length ≤ 12) && L.all KV.right))) := by
  unfold rowB witB
  cases decide (0 ≤ t) <;> cases decide (t ≤ 1000000) <;> cases decide (0 ≤ ver) <;> cases decide (ver ≤ 1000000) <;> rfl
theorem tup_all {L : List KV} (h : L.length ≤ 12) : tupV L = if L.all KV.right = true then .tuple #[.string ⟨(valsL L).toArray⟩, .int .i64 0] else .tuple #[.string ⟨#[]⟩, .int .i64 1] := by
  unfold tupV tupB
  rw [decide_eq_true (show L.length ≤ 20 by omega), Bool.true_and]
  rfl
set_option maxHeartbeats 16000000 in
theorem pput14_any (t ver : Int) (p : Option Addr) (c : Nat) (L : List KV) (w : World) (h : ValsAt w p L) (hL : L.length ≤ maxLen) (hV : allV L) (hstd : Std w) :
    Calls Tryd.prog 21 #[.int .i64 t, .agg #[.int .i64 ver, .slice p L.length c]] w fun e w' => e = .returned (prowV t ver L) ∧ Bel w w' := by
  have HLM := Lib.hid hL
  unfold maxLen at hL
  have H := Lib.hid h; clear h
  have HV := Lib.hid hV; clear hV
  have HRW := Lib.hid (row_wit t ver L)
  obtain ⟨X, hX⟩ : ∃ X, X = w.heap.size := ⟨_, rfl⟩
  obtain ⟨w1, hw1⟩ : ∃ z, z = w.alloc (.cells #[.int .i64 ver, .slice p L.length c] 41) := ⟨_, rfl⟩
  have HB1 := Lib.hid (show Bel w w1 by rw [hw1]; exact (Bel.refl w).alloc _)
  have HST := Lib.hid (hstd.bel HB1.out)
  have HK1 := Lib.hid (show w1.heap[X]? = some (.cells #[.int .i64 ver, .slice p L.length c] 41 (0, 0)) by rw [hw1, hX]; exact heap_alloc_new w _)
  have HRS := Lib.hid (show ∀ z, Bel w1 z → (z.cell? ⟨X, 0, none⟩ = some (.int .i64 ver) ∧ z.cell? ⟨X, 1, none⟩ = some (.slice p L.length c)) from fun z hz => (qbox2 (qbel HK1.out hz)).1)
  go_enter Tryd.func21, Tryd.ntmps21
  obtain ⟨s0, s1⟩ := HRS.out w1 (Bel.refl _)
  rw [hX, hw1] at s0 s1
  clear hstd
  go_wp2_with (fail)
  rw [← hw1, ← hX]
  rw [← hw1, ← hX] at s0 s1
  clear hw1 hX
  refine (within14_any t 0 1000000 _).mono ?_
  rintro e x ⟨rfl, rfl⟩
  cases ha : witB t 0 1000000 with
  | false =>
    have HR := Lib.hid (prow_no (show rowB t ver L = false by rw [HRW.out, ha]; rfl))
    clear ha
    go_wp2_with (fail)
    go_ret2
    exact ⟨by rw [HR.out]; rfl, HB1.out⟩
  | true =>
    have HA := Lib.hid ha
    clear ha
    go_wp2_with (fail)
    refine (within14_any ver 0 1000000 _).mono ?_
    rintro e x ⟨rfl, rfl⟩
    cases hb : witB ver 0 1000000 with
    | false =>
      have HR := Lib.hid (prow_no (show rowB t ver L = false by rw [HRW.out, HA.out, hb]; rfl))
      clear hb
      go_wp2_with (fail)
      go_ret2
      exact ⟨by rw [HR.out]; rfl, HB1.out⟩
    | true =>
      have HB := Lib.hid hb
      clear hb
      by_cases hl : L.length ≤ 12
      · have hli : ¬ (12 : Int) < (L.length : Int) := by omega
        have HL12 := Lib.hid hl
        have HTV := Lib.hid (tup_all hl)
        have HLD := Lib.hid (decide_eq_true hl)
        clear hl
        go_wp2_with (fail)
        refine (tuple_any p c L _ (H.out.bel HB1.out) HLM.out HV.out HST.out).mono ?_
        rintro e w2 ⟨rfl, hb2⟩
        have HB2 := Lib.hid (show Bel _ w2 from hb2)
        rw [HTV.out]
        clear hb2 s0 s1
        cases hr : L.all KV.right with
        | false =>
          have HR := Lib.hid (prow_no (show rowB t ver L = false by rw [HRW.out, HA.out, HB.out, HLD.out, hr]; rfl))
          rw [if_neg (by simp)]
          clear hr
          go_wp2_with (fail)
          go_ret2
          exact ⟨by rw [HR.out]; rfl, HB1.out.trans HB2.out⟩
        | true =>
          have HROW := Lib.hid (show rowB t ver L = true by rw [HRW.out, HA.out, HB.out, HLD.out, hr]; rfl)
          have HR := Lib.hid (prow_yes HROW.out)
          have HP := Lib.hid (rowB_parts HROW.out)
          rw [if_pos rfl]
          clear hr
          have z0 : (⟨(valsL L).toArray⟩ : ByteArray).size ≤ 24036 := by
            rw [qba_size]
            have := vals_len L HP.out.2.2.2
            have := HL12.out
            omega
          obtain ⟨S0, hS0⟩ : ∃ S : ByteArray, S = ⟨(valsL L).toArray⟩ := ⟨_, rfl⟩
          rw [← hS0] at z0 ⊢
          have HS0 := Lib.hid hS0; clear hS0
          go_wp2_with (fail)
          refine wp_region_held_drew (S := fun z => z.cell? ⟨X, 0, none⟩ = some (.int .i64 ver) ∧ z.cell? ⟨X, 1, none⟩ = some (.slice p L.length c)) (by kernel_rfl) (HRS.out _ HB2.out.drew) (fun hHeld => ?_)
          refine wpAnyH_take (i := 0) (oi := { dst := some 31, op := Op.move (Operand.tmp 0), type := 3, pos := "pack.go:21", after := #[], guard := none }) (v := ?_) rfl (by kernel_rfl) (by kernel_rfl) (by kernel_rfl) (fun _ _ _ h => h) (Or.inl ⟨by rfl, ?_⟩) (by assumption) ?_
          rotate_left
          · (intro w hSw; (try dsimp only at hSw); first | (go_simp; done) | (go_simp; with_reducible rfl))
          try simp only [Act.put, List.setIfInBounds_toArray, List.set_cons_zero, List.set_cons_succ]
          refine wpAnyH_take (i := 2) (oi := { dst := some 33, op := Op.fieldAddr 41 (Operand.tmp 3) 0, type := 0, pos := "pack.go:21", after := #[], guard := none }) (v := ?_) rfl (by kernel_rfl) (by kernel_rfl) (by kernel_rfl) (fun _ _ _ h => h) (Or.inl ⟨by rfl, ?_⟩) (by assumption) ?_
          rotate_left
          · (intro w hSw; (try dsimp only at hSw); first | (go_simp; done) | (go_simp; with_reducible rfl))
          try simp only [Act.put, List.setIfInBounds_toArray, List.set_cons_zero, List.set_cons_succ]
          refine wpAnyH_take (i := 3) (oi := { dst := some 34, op := Op.load 3 (Operand.tmp 33), type := 3, pos := "pack.go:21", after := #[{ on := 2, ground := Ground.data }], guard := none }) (v := ?_) rfl (by kernel_rfl) (by kernel_rfl) (by kernel_rfl) (fun _ _ _ h => h) (Or.inl ⟨by rfl, ?_⟩) (by assumption) ?_
          rotate_left
          · (intro w hSw; (try dsimp only at hSw); first | (go_simp; done) | (go_simp; with_reducible rfl))
          try simp only [Act.put, List.setIfInBounds_toArray, List.set_cons_zero, List.set_cons_succ]
          refine wpAnyH_take (i := 6) (oi := { dst := some 37, op := Op.fieldAddr 41 (Operand.tmp 3) 1, type := 0, pos := "pack.go:21", after := #[], guard := none }) (v := ?_) rfl (by kernel_rfl) (by kernel_rfl) (by kernel_rfl) (fun _ _ _ h => h) (Or.inl ⟨by rfl, ?_⟩) (by assumption) ?_
          rotate_left
          · (intro w hSw; (try dsimp only at hSw); first | (go_simp; done) | (go_simp; with_reducible rfl))
          try simp only [Act.put, List.setIfInBounds_toArray, List.set_cons_zero, List.set_cons_succ]
          refine wpAnyH_take (i := 7) (oi := { dst := some 38, op := Op.load 25 (Operand.tmp 37), type := 25, pos := "pack.go:21", after := #[{ on := 6, ground := Ground.data }], guard := none }) (v := ?_) rfl (by kernel_rfl) (by kernel_rfl) (by kernel_rfl) (fun _ _ _ h => h) (Or.inl ⟨by rfl, ?_⟩) (by assumption) ?_
          rotate_left
          · (intro w hSw; (try dsimp only at hSw); first | (go_simp; done) | (go_simp; with_reducible rfl))
          try simp only [Act.put, List.setIfInBounds_toArray, List.set_cons_zero, List.set_cons_succ]
          refine wpAnyH_take (i := 8) (oi := { dst := some 39, op := Op.call { callee := Callee.builtin Builtin.len, args := #[Operand.tmp 38], argTypes := #[25] }, type := 3, pos := "pack.go:21", after := #[{ on := 7, ground := Ground.data }], guard := none }) (v := ?_) rfl (by kernel_rfl) (by kernel_rfl) (by kernel_rfl) (fun _ _ _ h => h) (Or.inl ⟨by rfl, ?_⟩) (by assumption) ?_
          rotate_left
          · (intro w hSw; (try dsimp only at hSw); first | (go_simp; done) | (go_simp; with_reducible rfl))
          try simp only [Act.put, List.setIfInBounds_toArray, List.set_cons_zero, List.set_cons_succ]
          refine wpAnyH_take (i := 11) (oi := { dst := some 42, op := Op.move (Operand.tmp 6), type := 9, pos := "pack.go:21", after := #[], guard := none }) (v := ?_) rfl (by kernel_rfl) (by kernel_rfl) (by kernel_rfl) (fun _ _ _ h => h) (Or.inl ⟨by rfl, ?_⟩) (by assumption) ?_
          rotate_left
          · (intro w hSw; (try dsimp only at hSw); first | (go_simp; done) | (go_simp; with_reducible rfl))
          try simp only [Act.put, List.setIfInBounds_toArray, List.set_cons_zero, List.set_cons_succ]
          refine wpAnyH_ready (rs := [1]) (by kernel_rfl) (by simp) ?_
          refine AllReadyH.cons (o := { dst := some 32, op := Op.call { callee := Callee.value (Operand.func 42), args := #[Operand.tmp 31], argTypes := #[3] }, type := 9, pos := "pack.go:21", after := #[{ on := 0, ground := Ground.data }], guard := none }) rfl (fun K hK => ?_) AllReadyH.nil
          go_simp
          refine (pnumber14_any t (by have := HP.out.1; omega) (by have := HP.out.1; omega) _).mono ?_
          rintro e y1 ⟨rfl, hbn⟩
          have HY1 := Lib.hid (HB2.out.drew.trans hbn)
          clear hbn
          have z1 : (⟨(putL (t).toNat).toArray⟩ : ByteArray).size ≤ 9 := by show (putL (t).toNat).toArray.size ≤ 9; rw [List.size_toArray, putL_len]; exact szN_le _
          obtain ⟨S1, hS1⟩ : ∃ S : ByteArray, S = ⟨(putL (t).toNat).toArray⟩ := ⟨_, rfl⟩
          rw [← hS1] at z1 ⊢
          have HS1 := Lib.hid hS1; clear hS1
          dsimp only
          refine hK.out _ _ (HRS.out _ HY1.out) (fun hHeld => ?_)
          clear hK K
          try simp only [Act.put, List.setIfInBounds_toArray, List.set_cons_zero, List.set_cons_succ]
          refine wpAnyH_ready (rs := [4]) (by kernel_rfl) (by simp) ?_
          refine AllReadyH.cons (o := { dst := some 35, op := Op.call { callee := Callee.value (Operand.func 42), args := #[Operand.tmp 34], argTypes := #[3] }, type := 9, pos := "pack.go:21", after := #[{ on := 3, ground := Ground.data }, { on := 1, ground := Ground.chain }], guard := none }) rfl (fun K hK => ?_) AllReadyH.nil
          go_simp
          refine (pnumber14_any ver (by have := HP.out.2.1; omega) (by have := HP.out.2.1; omega) _).mono ?_
          rintro e y2 ⟨rfl, hbn⟩
          have HY2 := Lib.hid (HY1.out.trans hbn)
          clear hbn
          have z2 : (⟨(putL (ver).toNat).toArray⟩ : ByteArray).size ≤ 9 := by show (putL (ver).toNat).toArray.size ≤ 9; rw [List.size_toArray, putL_len]; exact szN_le _
          obtain ⟨S2, hS2⟩ : ∃ S : ByteArray, S = ⟨(putL (ver).toNat).toArray⟩ := ⟨_, rfl⟩
          rw [← hS2] at z2 ⊢
          have HS2 := Lib.hid hS2; clear hS2
          dsimp only
          refine hK.out _ _ (HRS.out _ HY2.out) (fun hHeld => ?_)
          clear hK K
          try simp only [Act.put, List.setIfInBounds_toArray, List.set_cons_zero, List.set_cons_succ]
          have zz1 : ¬ 9223372036854775807 < S1.size + S2.size := by omega
          refine wpAnyH_take (i := 5) (oi := { dst := some 36, op := Op.binOp BinOp.add 9 (Operand.tmp 32) (Operand.tmp 35) 9, type := 9, pos := "pack.go:21", after := #[{ on := 1, ground := Ground.data }, { on := 4, ground := Ground.data }], guard := none }) (v := ?_) rfl (by kernel_rfl) (by kernel_rfl) (by kernel_rfl) (fun _ _ _ h => h) (Or.inl ⟨by rfl, ?_⟩) (by assumption) ?_
          rotate_left
          · (intro w hSw; (try dsimp only at hSw); first | (go_simp; done) | (go_simp; with_reducible rfl))
          try simp only [Act.put, List.setIfInBounds_toArray, List.set_cons_zero, List.set_cons_succ]
          refine wpAnyH_ready (rs := [9]) (by kernel_rfl) (by simp) ?_
          refine AllReadyH.cons (o := { dst := some 40, op := Op.call { callee := Callee.value (Operand.func 42), args := #[Operand.tmp 39], argTypes := #[3] }, type := 9, pos := "pack.go:21", after := #[{ on := 8, ground := Ground.data }, { on := 4, ground := Ground.chain }], guard := none }) rfl (fun K hK => ?_) AllReadyH.nil
          go_simp
          refine (pnumber14_any (L.length : Int) (by omega) (by have := HL12.out; omega) _).mono ?_
          rintro e y3 ⟨rfl, hbn⟩
          have HY3 := Lib.hid (HY2.out.trans hbn)
          clear hbn
          have z3 : (⟨(putL ((L.length : Int)).toNat).toArray⟩ : ByteArray).size ≤ 9 := by show (putL ((L.length : Int)).toNat).toArray.size ≤ 9; rw [List.size_toArray, putL_len]; exact szN_le _
          obtain ⟨S3, hS3⟩ : ∃ S : ByteArray, S = ⟨(putL ((L.length : Int)).toNat).toArray⟩ := ⟨_, rfl⟩
          rw [← hS3] at z3 ⊢
          have HS3 := Lib.hid hS3; clear hS3
          dsimp only
          refine hK.out _ _ (HRS.out _ HY3.out) (fun hHeld => ?_)
          clear hK K
          try simp only [Act.put, List.setIfInBounds_toArray, List.set_cons_zero, List.set_cons_succ]
          have z12 : (S1 ++ S2).size ≤ 18 := by rw [ByteArray.size_append]; omega
          have zz2 : ¬ 9223372036854775807 < S1.size + S2.size + S3.size := by omega
          have zz3 : ¬ 9223372036854775807 < (S1 ++ S2).size + S3.size := by omega
          have zz4 : ¬ 9223372036854775807 < S1.size + S2.size + S3.size + S0.size := by omega
          have zz5 : ¬ 9223372036854775807 < (S1 ++ S2 ++ S3).size + S0.size := by rw [ByteArray.size_append]; omega
          refine wpAnyH_take (i := 10) (oi := { dst := some 41, op := Op.binOp BinOp.add 9 (Operand.tmp 36) (Operand.tmp 40) 9, type := 9, pos := "pack.go:21", after := #[{ on := 5, ground := Ground.data }, { on := 9, ground := Ground.data }], guard := none }) (v := ?_) rfl (by kernel_rfl) (by kernel_rfl) (by kernel_rfl) (fun _ _ _ h => h) (Or.inl ⟨by rfl, ?_⟩) (by assumption) ?_
          rotate_left
          · (intro w hSw; (try dsimp only at hSw); first | (go_simp; done) | (go_simp; with_reducible rfl))
          try simp only [Act.put, List.setIfInBounds_toArray, List.set_cons_zero, List.set_cons_succ]
          refine wpAnyH_take (i := 12) (oi := { dst := some 43, op := Op.binOp BinOp.add 9 (Operand.tmp 41) (Operand.tmp 42) 9, type := 9, pos := "pack.go:21", after := #[{ on := 10, ground := Ground.data }, { on := 11, ground := Ground.data }], guard := none }) (v := ?_) rfl (by kernel_rfl) (by kernel_rfl) (by kernel_rfl) (fun _ _ _ h => h) (Or.inl ⟨by rfl, ?_⟩) (by assumption) ?_
          rotate_left
          · (intro w hSw; (try dsimp only at hSw); first | (go_simp; done) | (go_simp; with_reducible rfl))
          try simp only [Act.put, List.setIfInBounds_toArray, List.set_cons_zero, List.set_cons_succ]
          refine wpAnyH_take (i := 13) (oi := { dst := some 4, op := Op.assign (Operand.tmp 43), type := 9, pos := "pack.go:21", after := #[{ on := 12, ground := Ground.data }, { on := 9, ground := Ground.chain }, { on := 0, ground := Ground.phase }, { on := 1, ground := Ground.phase }, { on := 2, ground := Ground.phase }, { on := 3, ground := Ground.phase }, { on := 4, ground := Ground.phase }, { on := 5, ground := Ground.phase }, { on := 6, ground := Ground.phase }, { on := 7, ground := Ground.phase }, { on := 8, ground := Ground.phase }, { on := 9, ground := Ground.phase }, { on := 10, ground := Ground.phase }, { on := 11, ground := Ground.phase }, { on := 12, ground := Ground.phase }], guard := none }) (v := ?_) rfl (by kernel_rfl) (by kernel_rfl) (by kernel_rfl) (fun _ _ _ h => h) (Or.inl ⟨by rfl, ?_⟩) (by assumption) ?_
          rotate_left
          · (intro w hSw; (try dsimp only at hSw); first | (go_simp; done) | (go_simp; with_reducible rfl))
          try simp only [Act.put, List.setIfInBounds_toArray, List.set_cons_zero, List.set_cons_succ]
          refine wpAnyH_take (i := 14) (oi := { dst := some 5, op := Op.assign (Operand.const (Value.int IntKind.i64 0)), type := 37, pos := "pack.go:21", after := #[{ on := 13, ground := Ground.chain }, { on := 0, ground := Ground.phase }, { on := 1, ground := Ground.phase }, { on := 2, ground := Ground.phase }, { on := 3, ground := Ground.phase }, { on := 4, ground := Ground.phase }, { on := 5, ground := Ground.phase }, { on := 6, ground := Ground.phase }, { on := 7, ground := Ground.phase }, { on := 8, ground := Ground.phase }, { on := 9, ground := Ground.phase }, { on := 10, ground := Ground.phase }, { on := 11, ground := Ground.phase }, { on := 12, ground := Ground.phase }, { on := 13, ground := Ground.phase }], guard := none }) (v := ?_) rfl (by kernel_rfl) (by kernel_rfl) (by kernel_rfl) (fun _ _ _ h => h) (Or.inl ⟨by rfl, ?_⟩) (by assumption) ?_
          rotate_left
          · (intro w hSw; (try dsimp only at hSw); first | (go_simp; done) | (go_simp; with_reducible rfl))
          try simp only [Act.put, List.setIfInBounds_toArray, List.set_cons_zero, List.set_cons_succ]
          refine wpAnyH_done (by kernel_rfl) ?_ _
          clear hHeld
          have HT0 := Lib.hid (show S1 ++ S2 ++ S3 ++ S0 = ⟨(encRow t.toNat ver.toNat L).toArray⟩ by
            apply qba_of
            rw [HS1.out, HS2.out, HS3.out, HS0.out]
            simp [encRow, putsN])
          go_wp2_with (fail)
          go_ret2
          exact ⟨by rw [HR.out, ← HT0.out]; rfl, HB1.out.trans HY3.out⟩
      · have hli : (12 : Int) < (L.length : Int) := by omega
        have HR := Lib.hid (prow_no (show rowB t ver L = false by rw [HRW.out, decide_eq_false hl]; simp))
        clear hl
        go_wp2_with (fail)
        go_ret2
        exact ⟨by rw [HR.out]; rfl, HB1.out⟩
end Go.Proofs.YtbalkchphijehaaDoor
/- schema.Take. -/
set_option maxRecDepth 20000
namespace Go.Proofs.YtbalkchphijehaaDoor
open Go.RowKit Go.Deep

/-- What Take answers. -/
def TakPost14 (o : Option (Nat × Nat × List KV)) (w : World) (e : Ending) (w' : World) : Prop := match o with
  | some x => ∃ v, e = .returned (.tuple #[.int .i64 (x.1 : Int), .agg #[.int .i64 (x.2.1 : Int), v], .int .i64 0]) ∧ OwnG valEl w.heap.size w' v x.2.2 ∧ Bel w w'
  | none => e = .returned (.tuple #[.int .i64 0, .agg #[.int .i64 0, .slice none 0 0], .int .i64 8]) ∧ Bel w w'
theorem TakPost14.no {o : Option (Nat × Nat × List KV)} (ho : o = none) {w w' : World} (hb : Bel w w') : TakPost14 o w (.returned (.tuple #[.int .i64 0, .agg #[.int .i64 0, .slice none 0 0], .int .i64 8])) w' := by subst ho; exact ⟨rfl, hb⟩
theorem TakPost14.yes {o : Option (Nat × Nat × List KV)} {a b : Nat} {L : List KV} (ho : o = some (a, b, L)) {w w' : World} {v : Value} (hv : OwnG valEl w.heap.size w' v L) (hb : Bel w w') : TakPost14 o w (.returned (.tuple #[.int .i64 (a : Int), .agg #[.int .i64 (b : Int), v], .int .i64 0])) w' := by
  subst ho; exact ⟨v, rfl, hv, hb⟩
theorem unt_rdV : ∀ (j : Nat) (s : List UInt8) (L : List KV), untL j s = some L → rdV L.length s = some (L, [])
  | 0, s, L, h => by
    rw [untL] at h
    split at h
    · rename_i hs; cases h; subst hs; rfl
    · cases h
  | j + 1, s, L, h => by
    by_cases hs : s = []
    · subst hs
      rw [unt_nil] at h; cases h; rfl
    · cases hr : readL s with
      | none => rw [unt_none _ _ hs hr] at h; cases h
      | some x =>
        obtain ⟨v, r⟩ := x
        rw [unt_step j s r v hs hr] at h
        cases hu : untL j r with
        | none => rw [hu] at h; cases h
        | some M =>
          rw [hu] at h
          cases h
          show rdV (M.length + 1) s = _
          rw [rdV, hr]
          simp only
          rw [unt_rdV j r M hu]; rfl
theorem rdV_unt {j c : Nat} {s : List UInt8} {L : List KV} (h : rdV c s = some (L, [])) (hc : c ≤ j) : untL j s = some L := by
  obtain ⟨h1, h2, h3⟩ := rdV_back c s L [] h
  rw [← h2, List.append_nil]
  exact unt_cat L j (by omega) (fun v hv => (h3 v hv).1) (fun v hv => (h3 v hv).2)
theorem tk_bad {s : List UInt8} (h : (tkC s).2.2 = true) : readRow s = none := by
  cases hS : readRow s with
  | none => rfl
  | some x =>
    exfalso
    obtain ⟨a, b, L⟩ := x
    obtain ⟨hr, hi, he⟩ := row_back hS
    obtain ⟨p1, p2, p3, p4⟩ := rowB_parts hr
    unfold readRow at hS
    cases hN : rdN 3 s with
    | none => rw [hN] at hS; cases hS
    | some y =>
      obtain ⟨l, q⟩ := y
      obtain ⟨a', b', c, rfl⟩ := three_of (rdN_back 3 s l q hN).1
      have hle := (rdN_back 3 s _ q hN).2.2
      obtain ⟨a1, a2, b1, b2, c1, c2, rq⟩ := rdN3_of hN
      rw [hN] at hS
      simp only at hS
      split at hS
      · rename_i hc
        have la := hle a' (by simp)
        have lb := hle b' (by simp)
        have ea : unpA s = (a', ((takeL s).2.1, false)) := by unfold unpA; rw [numS_yes (st := (s, false)) a1 (by simp only [a2]; omega)]; simp only [a2]
        have eb : tkB s = (b', ((takeL (takeL s).2.1).2.1, false)) := by unfold tkB; rw [ea]; show numS 1000000 ((takeL s).2.1, false) = _; rw [numS_yes (st := ((takeL s).2.1, false)) b1 (by simp only [b2]; omega)]; simp only [b2]
        have ec : tkC s = (c, (q, false)) := by unfold tkC; rw [eb]; show numS 12 ((takeL (takeL s).2.1).2.1, false) = _; rw [numS_yes (st := ((takeL (takeL s).2.1).2.1, false)) c1 (by simp only [c2]; omega)]; simp only [c2, rq]
        rw [ec] at h; cases h
      · cases hS
theorem tk_good {s : List UInt8} (h : (tkC s).2.2 = false) : readRow s = match rdV (tkC s).1 (tkC s).2.1 with
    | some (L, []) => some ((unpA s).1, (tkB s).1, L)
    | _ => none := by
  have gb : (tkB s).2.2 = false := by
    cases q : (tkB s).2.2 with
    | false => rfl
    | true => have := numS_bad (most := 12) (st := (tkB s).2) q; unfold tkC at h; rw [h] at this; cases this
  have ga : (unpA s).2.2 = false := by
    cases q : (unpA s).2.2 with
    | false => rfl
    | true => have := numS_bad (most := 1000000) (st := (unpA s).2) q; unfold tkB at gb; rw [gb] at this; cases this
  obtain ⟨a1, a2, a3⟩ := numS_good (s := s) (most := 1000000) ga
  have ea : unpA s = ((takeL s).1, ((takeL s).2.1, false)) := a3
  have hb0 : tkB s = numS 1000000 ((takeL s).2.1, false) := by unfold tkB; rw [ea]
  rw [hb0] at gb
  obtain ⟨b1, b2, b3⟩ := numS_good gb
  have eb : tkB s = ((takeL (takeL s).2.1).1, ((takeL (takeL s).2.1).2.1, false)) := hb0.trans b3
  have hc0 : tkC s = numS 12 ((takeL (takeL s).2.1).2.1, false) := by unfold tkC; rw [eb]
  rw [hc0] at h
  obtain ⟨c1, c2, c3⟩ := numS_good h
  have ec : tkC s = ((takeL (takeL (takeL s).2.1).2.1).1, ((takeL (takeL (takeL s).2.1).2.1).2.1, false)) := hc0.trans c3
  unfold readRow
  rw [rdN3 a1 (by omega) b1 (by omega) c1 (by omega)]
  simp only
  rw [if_pos c2, ec, ea, eb]
  simp only
  generalize rdV (takeL (takeL (takeL s).2.1).2.1).1 (takeL (takeL (takeL s).2.1).2.1).2.1 = o
  cases o with
  | none => rfl
  | some x =>
    obtain ⟨L, z⟩ := x
    cases z <;> rfl
set_option maxHeartbeats 16000000 in
theorem ptake14_any (s : ByteArray) (w : World) (hs : s.size ≤ 1000000) (hstd : Std w) :
    Calls Tryd.prog 23 #[.string s] w (TakPost14 (readRow s.data.toList) w) := by
  obtain ⟨l, hl⟩ : ∃ l, l = s.data.toList := ⟨_, rfl⟩
  rw [← hl]
  have HSE := Lib.hid (show s = ⟨l.toArray⟩ by rw [hl])
  have HLS := Lib.hid (show l.length ≤ 1000000 by have e : s.data.toList.length = s.size := rfl; rw [← hl] at e; omega)
  obtain ⟨⟨na, sa⟩, hna⟩ : ∃ a, unpA l = a := ⟨_, rfl⟩
  obtain ⟨⟨nb, sb⟩, hnb⟩ : ∃ a, tkB l = a := ⟨_, rfl⟩
  obtain ⟨⟨nc, sc⟩, hnc⟩ : ∃ a, tkC l = a := ⟨_, rfl⟩
  have HA := Lib.hid (show numS 1000000 (l, false) = (na, sa) from hna)
  have HB := Lib.hid (show numS 1000000 sa = (nb, sb) by have := hnb; unfold tkB at this; rw [hna] at this; exact this)
  have HC := Lib.hid (show numS 12 sb = (nc, sc) by have := hnc; unfold tkC at this; rw [hnb] at this; exact this)
  have HBAD := Lib.hid (show sc.2 = true → readRow l = none from fun h => tk_bad (by rw [hnc]; exact h))
  have HGOOD := Lib.hid (show sc.2 = false → readRow l = (match rdV nc sc.1 with | some (L, []) => some (na, nb, L) | _ => none) from fun h => by have := tk_good (s := l) (by rw [hnc]; exact h); rw [hna, hnb, hnc] at this; exact this)
  have la := numS_len 1000000 (l, false)
  rw [HA.out] at la
  have lb := numS_len 1000000 sa
  rw [HB.out] at lb
  have lc := numS_len 12 sb
  rw [HC.out] at lc
  have hc12 := numS_le 12 sb
  rw [HC.out] at hc12
  simp only at la lb lc hc12
  have hls := HLS.out
  have HLA := Lib.hid (show sa.1.length ≤ 1000000 by omega)
  have HLB := Lib.hid (show sb.1.length ≤ 1000000 by omega)
  have HLC := Lib.hid (show sc.1.length ≤ 1000000 by omega)
  have HNC := Lib.hid (show nc ≤ 12 from hc12)
  clear la lb lc hls hna hnb hnc hl hs hc12
  obtain ⟨X, hX⟩ : ∃ X, X = w.heap.size := ⟨_, rfl⟩
  have HXE := Lib.hid hX
  obtain ⟨w1, hw1⟩ : ∃ z, z = (w.alloc (.cells #[.int .i64 0, .slice none 0 0] 41)).alloc (.cells #[.string s, .bool false] 74) := ⟨_, rfl⟩
  have hb1 : Bel w w1 := by rw [hw1]; exact ((Bel.refl w).alloc _).alloc _
  have HX1 := Lib.hid (show w1.heap[X]? = some (.cells #[.int .i64 0, .slice none 0 0] 41 (0, 0)) by rw [hw1, hX]; exact qbel (heap_alloc_new w _) ((Bel.refl _).alloc _))
  have HI1 := Lib.hid (show InAt w1 (X + 1) (l, false) by
    have e := heap_alloc_new (w.alloc (.cells #[.int .i64 0, .slice none 0 0] 41)) (.cells #[.string s, .bool false] 74)
    simp only [World.size_alloc] at e
    rw [hw1, hX]
    unfold InAt
    simp only
    rw [← HSE.out]
    exact e)
  have HB1 := Lib.hid hb1
  have HZ1 := Lib.hid (show w1.heap.size = X + 2 by rw [hw1, hX]; simp)
  have HST := Lib.hid (hstd.bel hb1)
  have HSG := Lib.hid hstd.1
  clear hb1 hstd
  go_enter Tryd.func23, Tryd.ntmps23
  go_wp2_with (fail)
  rw [← hw1, ← hX]
  clear hw1 hX
  refine (inum14_any (X + 1) 1000000 (l, false) _ HI1.out HLS.out (by omega)).mono ?_
  rintro e w2 ⟨rfl, hi, hk⟩
  rw [HA.out] at hi ⊢
  simp only at hi ⊢
  have HK2 := Lib.hid hk
  have HI2 := Lib.hid hi
  clear hi hk
  go_wp2_with (fail)
  refine (inum14_any (X + 1) 1000000 sa _ HI2.out HLA.out (by omega)).mono ?_
  rintro e w3 ⟨rfl, hi, hk⟩
  rw [HB.out] at hi ⊢
  simp only at hi ⊢
  have HK3 := Lib.hid (kt HK2.out hk)
  have HI3 := Lib.hid hi
  clear hi hk
  go_wp2_with (fail)
  refine (inum14_any (X + 1) 12 sb _ HI3.out HLB.out (by omega)).mono ?_
  rintro e w4 ⟨rfl, hi, hk⟩
  rw [HC.out] at hi ⊢
  simp only at hi ⊢
  have HK4 := Lib.hid (kt HK3.out hk)
  have HI4 := Lib.hid hi
  have HX4 := Lib.hid (HK4.out.at HX1.out (by simp))
  have HS4 := Lib.hid (show Std w4 from ⟨Nat.lt_of_lt_of_le HST.out.1 HK4.out.size, fun i hi => HK4.out.cell (HST.out.2 i hi) (by
    intro hm
    rw [List.mem_singleton] at hm
    have h1 := HSG.out
    have h2 := HXE.out
    simp only at hm
    omega)⟩)
  have HB4 := Lib.hid (show Bel w w4 from keep_belq HK4.out HB1.out (by have := HXE.out; omega))
  clear hi hk
  obtain ⟨⟨c0, c1⟩, -⟩ := qbox2 HI4.out
  obtain ⟨r, hr⟩ : ∃ r : ByteArray, r = ⟨sc.1.toArray⟩ := ⟨_, rfl⟩
  have HRL := Lib.hid (show r.data.toList = sc.1 by rw [hr])
  have HRZ := Lib.hid (show r.size ≤ 1000000 by rw [hr, qba_size]; exact HLC.out)
  rw [← hr] at c0
  clear hr
  go_wp2_with (fail)
  refine (untuple_any r _ HRZ.out HS4.out).mono ?_
  rintro e w5 ⟨v, rfl, hov, hb5⟩
  rw [HRL.out] at hov ⊢
  have HOV := Lib.hid hov
  have HB5 := Lib.hid hb5
  have HI5 := Lib.hid (HI4.out.bel hb5)
  have HX5 := Lib.hid (qbel HX4.out hb5)
  obtain ⟨vp, vc, rfl⟩ := ownG_len hov
  obtain ⟨U, hU⟩ : ∃ U, U = untL 20 sc.1 := ⟨_, rfl⟩
  have HU := Lib.hid hU
  rw [← hU] at HOV ⊢
  clear hov hb5 c0 c1 hU
  obtain ⟨scl, scb⟩ := sc
  obtain ⟨⟨c0, c1⟩, -⟩ := qbox2 HI5.out
  obtain ⟨⟨d0, d1⟩, g0, g1⟩ := qbox2 HX5.out
  simp only at c0 c1
  cases scb with
  | true =>
    have HR := Lib.hid (HBAD.out (by trivial))
    have hun : unErr U = 0 ∨ unErr U = 8 := by unfold unErr; split; exact Or.inl rfl; exact Or.inr rfl
    obtain ⟨eu, heu⟩ : ∃ eu, eu = unErr U := ⟨_, rfl⟩
    rw [← heu] at hun ⊢
    clear heu
    go_wp2_with (fail)
    have hst := qset (qset HX5.out 0 (.int .i64 0)) 1 (.slice none 0 0)
    have hks := kt (keep_st w5 X 0 (.int .i64 0)) (keep_st _ X 1 (.slice none 0 0))
    obtain ⟨⟨y0, y1⟩, -⟩ := qbox2 hst
    exact bodyPost_ret (v := .tuple #[.int .i64 0, .agg #[.int .i64 0, .slice none 0 0], .int .i64 8]) (by simp [results, Tryd.results23, go_sem, y0, y1]) rfl (TakPost14.no HR.out (keep_belq hks (HB4.out.trans HB5.out) (by have := HXE.out; omega)))
  | false =>
    cases U with
    | none =>
      have HR := Lib.hid (show readRow l = none by
        rw [HGOOD.out (by trivial)]
        cases hv : rdV nc scl with
        | none => rfl
        | some x =>
          obtain ⟨L, z⟩ := x
          cases z with
          | cons a z => rfl
          | nil => have h1 := HU.out; rw [rdV_unt hv (by have := HNC.out; omega)] at h1; cases h1)
      rw [show unErr (none : Option (List KV)) = 8 from rfl]
      go_wp2_with (fail)
      have hst := qset (qset HX5.out 0 (.int .i64 0)) 1 (.slice none 0 0)
      have hks := kt (keep_st w5 X 0 (.int .i64 0)) (keep_st _ X 1 (.slice none 0 0))
      obtain ⟨⟨y0, y1⟩, -⟩ := qbox2 hst
      exact bodyPost_ret (v := .tuple #[.int .i64 0, .agg #[.int .i64 0, .slice none 0 0], .int .i64 8]) (by simp [results, Tryd.results23, go_sem, y0, y1]) rfl (TakPost14.no HR.out (keep_belq hks (HB4.out.trans HB5.out) (by have := HXE.out; omega)))
    | some L =>
      rw [show unErr (some L) = 0 from rfl]
      simp only [Option.getD_some] at HOV ⊢
      have HVR := Lib.hid (unt_rdV 20 scl L HU.out.symm)
      by_cases hlc : L.length = nc
      · have hne : ((L.length : Int) != (nc : Int)) = false := by simp [hlc]
        have HR := Lib.hid (show readRow l = some (na, nb, L) by rw [HGOOD.out (by trivial), ← hlc, HVR.out])
        clear hlc
        go_wp2_with (fail)
        have hst := qset (qset HX5.out 0 (.int .i64 (nb : Int))) 1 (.slice vp L.length vc)
        have hks := kt (keep_st w5 X 0 (.int .i64 (nb : Int))) (keep_st _ X 1 (.slice vp L.length vc))
        obtain ⟨⟨y0, y1⟩, -⟩ := qbox2 hst
        have ho := (HOV.out.keep hks (fun b hb hm => by have h8 := (HOV.out.lt b hb).1; have h9 := qlt HX4.out; rw [List.mem_singleton] at hm; omega)).low (show w.heap.size ≤ w4.heap.size from HB4.out.size)
        exact bodyPost_ret (v := .tuple #[.int .i64 (na : Int), .agg #[.int .i64 (nb : Int), .slice vp L.length vc], .int .i64 0]) (by simp [results, Tryd.results23, go_sem, y0, y1]) rfl (TakPost14.yes HR.out ho (keep_belq hks (HB4.out.trans HB5.out) (by have := HXE.out; omega)))
      · have hne : ((L.length : Int) != (nc : Int)) = true := by rw [bne_iff_ne]; omega
        have HR := Lib.hid (show readRow l = none by
          rw [HGOOD.out (by trivial)]
          cases hv : rdV nc scl with
          | none => rfl
          | some x =>
            obtain ⟨M, z⟩ := x
            cases z with
            | cons a z => rfl
            | nil =>
              have h1 := HU.out
              rw [rdV_unt hv (by have := HNC.out; omega)] at h1
              cases h1
              exact absurd (rdV_back nc scl _ [] hv).1 hlc)
        clear hlc
        go_wp2_with (fail)
        have hst := qset (qset HX5.out 0 (.int .i64 0)) 1 (.slice none 0 0)
        have hks := kt (keep_st w5 X 0 (.int .i64 0)) (keep_st _ X 1 (.slice none 0 0))
        obtain ⟨⟨y0, y1⟩, -⟩ := qbox2 hst
        exact bodyPost_ret (v := .tuple #[.int .i64 0, .agg #[.int .i64 0, .slice none 0 0], .int .i64 8]) (by simp [results, Tryd.results23, go_sem, y0, y1]) rfl (TakPost14.no HR.out (keep_belq hks (HB4.out.trans HB5.out) (by have := HXE.out; omega)))
end Go.Proofs.YtbalkchphijehaaDoor
/- moultref14.Take. -/
set_option maxRecDepth 20000
namespace Go.Proofs.YtbalkchphijehaaDoor
open Go.RowKit Go.Deep

end Go.Proofs.YtbalkchphijehaaDoor
/- moultref14.Unpack. -/
set_option maxRecDepth 20000
namespace Go.Proofs.YtbalkchphijehaaDoor
open Go.RowKit Go.Deep

end Go.Proofs.YtbalkchphijehaaDoor
/- schema.Pack. -/
set_option maxRecDepth 100000
namespace Go.Proofs.YtbalkchphijehaaDoor
open Go.RowKit Go.Shelf Go.Deep

attribute [local go_sem] Oper.semAt_some

end Go.Proofs.YtbalkchphijehaaDoor
/- moultlaw14: unpacks, shown. -/
set_option maxRecDepth 20000
namespace Go.Proofs.YtbalkchphijehaaDoor
open Go.RowKit Go.Deep

def shF14 : List FV := [⟨1, 2, ⟨#[97]⟩, ⟨2, 5, ⟨#[]⟩⟩⟩, ⟨2, 5, ⟨#[98]⟩, ⟨5, 0, ⟨#[]⟩⟩⟩]
def oneV14 : KV := ⟨2, 1, ⟨#[]⟩⟩
def xV14 : KV := ⟨5, 0, ⟨#[120]⟩⟩
def wideV14 : KV := ⟨3, 1, ⟨#[]⟩⟩
def boolV14 : KV := ⟨1, 1, ⟨#[]⟩⟩
theorem sh_fit1 : fitsE shF14 [oneV14, xV14] = 0 := by decide
theorem sh_fit2 : fitsE shF14 [wideV14, xV14] = 12 := by decide
theorem sh_fit3 : fitsE shF14 [oneV14] = 13 := by decide
theorem sh_right : rightS ⟨1, 3, shF14⟩ = true := by decide
theorem sh_put : prowV 7 1 [boolV14] = .tuple #[.string ⟨#[7, 1, 1, 1, 1]⟩, .int .i64 0] := by kernel_rfl
theorem sh_take : readRow [7, 1, 1, 1, 1] = some (7, 1, [boolV14]) := by
  have h := row_enc (t := 7) (ver := 1) (L := [boolV14]) (by decide) (fun v hv => by rw [List.mem_singleton] at hv; subst hv; exact ⟨by decide, by decide⟩)
  exact h
theorem sh_none : readRow [] = none := rfl
theorem sh_okF : allF shF14 := by
  intro f hf
  simp only [shF14, List.mem_cons, List.not_mem_nil, or_false] at hf
  rcases hf with rfl | rfl <;> exact ⟨⟨⟨by decide, by decide⟩, ⟨by decide, by decide⟩, by decide, by decide⟩, by decide, by decide⟩
theorem sh_okV {L : List KV} (h : ∀ v ∈ L, v = oneV14 ∨ v = xV14 ∨ v = wideV14 ∨ v = boolV14) : allV L := by
  intro v hv
  rcases h v hv with rfl | rfl | rfl | rfl <;> exact ⟨⟨by decide, by decide⟩, by decide⟩
theorem vals_newQ (w : World) (arr : Array Value) (L : List KV) (h : arr.toList = valEl.all L) (hl : L.length ≤ maxLen) : ValsAt (w.alloc (.cells arr 29)) (some ⟨w.heap.size, 0, none⟩) L := by
  obtain ⟨p, c, hv, hva⟩ := ownG_vals (ownG_new valOk 0 w arr L h (Nat.zero_le _) hl)
  simp only [Value.slice.injEq] at hv
  rw [← hv.1] at hva
  exact hva
theorem flds_newQ (w : World) (arr : Array Value) (L : List FV) (h : arr.toList = fldEl.all L) (hl : L.length ≤ maxLen) : FldsAt (w.alloc (.cells arr 31)) (some ⟨w.heap.size, 0, none⟩) L :=
  ownG_fldsQ (ownG_new fldOk 0 w arr L h (Nat.zero_le _) hl)
set_option maxHeartbeats 16000000 in
theorem shown14_any (w : World) (hstd : Std w) : Calls Tryd.prog 9 #[] w fun e w' => e = .returned (.bool true) ∧ Bel w w' := by
  have HST := Lib.hid hstd
  clear hstd
  obtain ⟨X, hX⟩ : ∃ X, X = w.heap.size := ⟨_, rfl⟩
  obtain ⟨w1, hw1⟩ : ∃ z, z = (((w.alloc (.cells #[.int .i64 1, .int .i64 2, .string ⟨#[97]⟩, .int .i64 2, .int .i64 5, .string ⟨#[]⟩, .int .i64 2, .int .i64 5, .string ⟨#[98]⟩, .int .i64 5, .int .i64 0, .string ⟨#[]⟩] 31)).alloc (.cells #[.int .i64 1, .int .i64 3, .slice (some ⟨w.heap.size, 0, none⟩) 2 2] 24)).alloc (.cells #[.int .i64 2, .int .i64 1, .string ⟨#[]⟩] 29)).alloc (.cells #[.int .i64 5, .int .i64 0, .string ⟨#[120]⟩] 29) := ⟨_, rfl⟩
  have hb1 : Bel w w1 := by rw [hw1]; exact ((((Bel.refl w).alloc _).alloc _).alloc _).alloc _
  have HB1 := Lib.hid hb1
  have HF1 := Lib.hid (show FldsAt w1 (some ⟨X, 0, none⟩) shF14 by
    rw [hw1, hX]
    exact (flds_newQ w _ shF14 rfl (by decide)).bel ((((Bel.refl _).alloc _).alloc _).alloc _))
  have HS1 := Lib.hid (show w1.heap[X + 1]? = some (.cells #[.int .i64 1, .int .i64 3, .slice (some ⟨X, 0, none⟩) 2 2] 24 (0, 0)) by
    have e := heap_alloc_new (w.alloc (.cells #[.int .i64 1, .int .i64 2, .string ⟨#[97]⟩, .int .i64 2, .int .i64 5, .string ⟨#[]⟩, .int .i64 2, .int .i64 5, .string ⟨#[98]⟩, .int .i64 5, .int .i64 0, .string ⟨#[]⟩] 31)) (.cells #[.int .i64 1, .int .i64 3, .slice (some ⟨w.heap.size, 0, none⟩) 2 2] 24)
    simp only [World.size_alloc] at e
    rw [hw1, hX]; exact qbel e (((Bel.refl _).alloc _).alloc _))
  have HO1 := Lib.hid (show w1.heap[X + 1 + 1]? = some (.cells #[.int .i64 2, .int .i64 1, .string ⟨#[]⟩] 29 (0, 0)) by
    have e := heap_alloc_new ((w.alloc (.cells #[.int .i64 1, .int .i64 2, .string ⟨#[97]⟩, .int .i64 2, .int .i64 5, .string ⟨#[]⟩, .int .i64 2, .int .i64 5, .string ⟨#[98]⟩, .int .i64 5, .int .i64 0, .string ⟨#[]⟩] 31)).alloc (.cells #[.int .i64 1, .int .i64 3, .slice (some ⟨w.heap.size, 0, none⟩) 2 2] 24)) (.cells #[.int .i64 2, .int .i64 1, .string ⟨#[]⟩] 29)
    simp only [World.size_alloc] at e
    rw [hw1, hX]; exact qbel e ((Bel.refl _).alloc _))
  have HX1 := Lib.hid (show w1.heap[X + 1 + 1 + 1]? = some (.cells #[.int .i64 5, .int .i64 0, .string ⟨#[120]⟩] 29 (0, 0)) by
    have e := heap_alloc_new (((w.alloc (.cells #[.int .i64 1, .int .i64 2, .string ⟨#[97]⟩, .int .i64 2, .int .i64 5, .string ⟨#[]⟩, .int .i64 2, .int .i64 5, .string ⟨#[98]⟩, .int .i64 5, .int .i64 0, .string ⟨#[]⟩] 31)).alloc (.cells #[.int .i64 1, .int .i64 3, .slice (some ⟨w.heap.size, 0, none⟩) 2 2] 24)).alloc (.cells #[.int .i64 2, .int .i64 1, .string ⟨#[]⟩] 29)) (.cells #[.int .i64 5, .int .i64 0, .string ⟨#[120]⟩] 29)
    simp only [World.size_alloc] at e
    rw [hw1, hX]; exact e)
  have hz1 := Lib.hid (show w1.heap.size = X + 1 + 1 + 1 + 1 by rw [hw1, hX]; simp)
  clear hb1
  go_enter Tryd.func9, Tryd.ntmps9
  go_wp2_with (fail)
  rw [← hw1, ← hX]
  clear hw1 hX
  have HZ1 := hz1
  clear hz1
  have hva1 := vals_newQ w1 #[.int .i64 2, .int .i64 1, .string ⟨#[]⟩, .int .i64 5, .int .i64 0, .string ⟨#[120]⟩] [oneV14, xV14] rfl (by decide)
  have hal1 : Bel w1 (w1.alloc (.cells #[.int .i64 2, .int .i64 1, .string ⟨#[]⟩, .int .i64 5, .int .i64 0, .string ⟨#[120]⟩] 29)) := (Bel.refl _).alloc _
  have hfi1 := HF1.out.bel hal1
  rw [HZ1.out] at hva1
  refine (pfits14_any 1 3 (some ⟨X, 0, none⟩) 2 shF14 _ _ [oneV14, xV14] _ hfi1 (by decide) hva1 (by decide) (sh_okV (fun v hv => by simp only [List.mem_cons, List.not_mem_nil, or_false] at hv; (try rcases hv with rfl | rfl) <;> (try subst hv) <;> simp))).mono ?_
  rintro e w2 ⟨rfl, hb⟩
  rw [sh_fit1]
  have hbb := hal1.trans hb
  have HB2 := Lib.hid (HB1.out.trans hbb)
  have HF2 := Lib.hid (HF1.out.bel hbb)
  have HS2 := Lib.hid (qbel HS1.out hbb)
  have HO2 := Lib.hid (qbel HO1.out hbb)
  have HX2 := Lib.hid (qbel HX1.out hbb)
  clear hb hbb hal1 hfi1 hva1
  obtain ⟨⟨s0, s1, s2⟩, -⟩ := qbox3 HS2.out
  obtain ⟨⟨o0, o1, o2⟩, -⟩ := qbox3 HO2.out
  obtain ⟨⟨x0, x1, x2⟩, -⟩ := qbox3 HX2.out
  go_wp2_with (fail)
  clear s0 s1 s2 o0 o1 o2 x0 x1 x2
  have hva2 := vals_newQ w2 #[.int .i64 3, .int .i64 1, .string ⟨#[]⟩, .int .i64 5, .int .i64 0, .string ⟨#[120]⟩] [wideV14, xV14] rfl (by decide)
  have hal2 : Bel w2 (w2.alloc (.cells #[.int .i64 3, .int .i64 1, .string ⟨#[]⟩, .int .i64 5, .int .i64 0, .string ⟨#[120]⟩] 29)) := (Bel.refl _).alloc _
  have hfi2 := HF2.out.bel hal2
  refine (pfits14_any 1 3 (some ⟨X, 0, none⟩) 2 shF14 _ _ [wideV14, xV14] _ hfi2 (by decide) hva2 (by decide) (sh_okV (fun v hv => by simp only [List.mem_cons, List.not_mem_nil, or_false] at hv; (try rcases hv with rfl | rfl) <;> (try subst hv) <;> simp))).mono ?_
  rintro e w3 ⟨rfl, hb⟩
  rw [sh_fit2]
  have hbb := hal2.trans hb
  have HB3 := Lib.hid (HB2.out.trans hbb)
  have HF3 := Lib.hid (HF2.out.bel hbb)
  have HS3 := Lib.hid (qbel HS2.out hbb)
  have HO3 := Lib.hid (qbel HO2.out hbb)
  have HX3 := Lib.hid (qbel HX2.out hbb)
  clear hb hbb hal2 hfi2 hva2
  obtain ⟨⟨s0, s1, s2⟩, -⟩ := qbox3 HS3.out
  obtain ⟨⟨o0, o1, o2⟩, -⟩ := qbox3 HO3.out
  obtain ⟨⟨x0, x1, x2⟩, -⟩ := qbox3 HX3.out
  go_wp2_with (fail)
  clear s0 s1 s2 o0 o1 o2 x0 x1 x2
  have hva3 := vals_newQ w3 #[.int .i64 2, .int .i64 1, .string ⟨#[]⟩] [oneV14] rfl (by decide)
  have hal3 : Bel w3 (w3.alloc (.cells #[.int .i64 2, .int .i64 1, .string ⟨#[]⟩] 29)) := (Bel.refl _).alloc _
  have hfi3 := HF3.out.bel hal3
  refine (pfits14_any 1 3 (some ⟨X, 0, none⟩) 2 shF14 _ _ [oneV14] _ hfi3 (by decide) hva3 (by decide) (sh_okV (fun v hv => by simp only [List.mem_cons, List.not_mem_nil, or_false] at hv; (try rcases hv with rfl | rfl) <;> (try subst hv) <;> simp))).mono ?_
  rintro e w4 ⟨rfl, hb⟩
  rw [sh_fit3]
  have hbb := hal3.trans hb
  have HB4 := Lib.hid (HB3.out.trans hbb)
  have HF4 := Lib.hid (HF3.out.bel hbb)
  have HS4 := Lib.hid (qbel HS3.out hbb)
  have HO4 := Lib.hid (qbel HO3.out hbb)
  have HX4 := Lib.hid (qbel HX3.out hbb)
  clear hb hbb hal3 hfi3 hva3
  go_wp2_with (fail)
  have hva := vals_newQ w4 #[.int .i64 1, .int .i64 1, .string ⟨#[]⟩] [boolV14] rfl (by decide)
  have hal : Bel (w4.alloc (.cells #[.int .i64 1, .int .i64 1, .string ⟨#[]⟩] 29)) ((w4.alloc (.cells #[.int .i64 1, .int .i64 1, .string ⟨#[]⟩] 29)).alloc (.cells #[.int .i64 1, .slice (some ⟨w4.heap.size, 0, none⟩) 1 1] 41)) := (Bel.refl _).alloc _
  have hal2 : Bel w4 ((w4.alloc (.cells #[.int .i64 1, .int .i64 1, .string ⟨#[]⟩] 29)).alloc (.cells #[.int .i64 1, .slice (some ⟨w4.heap.size, 0, none⟩) 1 1] 41)) := ((Bel.refl _).alloc _).alloc _
  have HVA := Lib.hid (hva.bel hal)
  have HR5 := Lib.hid (show ((w4.alloc (.cells #[.int .i64 1, .int .i64 1, .string ⟨#[]⟩] 29)).alloc (.cells #[.int .i64 1, .slice (some ⟨w4.heap.size, 0, none⟩) 1 1] 41)).heap[w4.heap.size + 1]? = some (.cells #[.int .i64 1, .slice (some ⟨w4.heap.size, 0, none⟩) 1 1] 41 (0, 0)) by
    have e := heap_alloc_new (w4.alloc (.cells #[.int .i64 1, .int .i64 1, .string ⟨#[]⟩] 29)) (.cells #[.int .i64 1, .slice (some ⟨w4.heap.size, 0, none⟩) 1 1] 41)
    simp only [World.size_alloc] at e
    exact e)
  have HB5 := Lib.hid (HB4.out.trans hal2)
  have HF5 := Lib.hid (HF4.out.bel hal2)
  have HS5 := Lib.hid (qbel HS4.out hal2)
  clear hva hal hal2
  obtain ⟨w5, hw5⟩ : ∃ z, z = (w4.alloc (.cells #[.int .i64 1, .int .i64 1, .string ⟨#[]⟩] 29)).alloc (.cells #[.int .i64 1, .slice (some ⟨w4.heap.size, 0, none⟩) 1 1] 41) := ⟨_, rfl⟩
  rw [← hw5] at HVA HR5 HB5 HF5 HS5 ⊢
  clear hw5
  obtain ⟨Y, hY⟩ : ∃ Y, Y = w4.heap.size := ⟨_, rfl⟩
  rw [← hY] at HVA HR5 ⊢
  clear hY
  refine (pput14_any 7 1 (some ⟨Y, 0, none⟩) 1 [boolV14] _ HVA.out (by decide) (sh_okV (fun v hv => by rw [List.mem_singleton] at hv; subst hv; simp)) (HST.out.bel HB5.out)).mono ?_
  rintro e w6 ⟨rfl, hb⟩
  rw [sh_put]
  have HB6 := Lib.hid (HB5.out.trans hb)
  have HVA6 := Lib.hid (HVA.out.bel hb)
  have HR6 := Lib.hid (qbel HR5.out hb)
  have HF6 := Lib.hid (HF5.out.bel hb)
  have HS6 := Lib.hid (qbel HS5.out hb)
  clear hb
  go_wp2_with (fail)
  refine (ptake14_any ⟨#[7, 1, 1, 1, 1]⟩ _ (by decide) (HST.out.bel HB6.out)).mono ?_
  intro e w7 htk
  rw [show (⟨#[7, 1, 1, 1, 1]⟩ : ByteArray).data.toList = [7, 1, 1, 1, 1] from rfl, sh_take] at htk
  obtain ⟨v, rfl, hov, hb⟩ := htk
  obtain ⟨vp, vc, rfl⟩ := ownG_len hov
  obtain ⟨vp', vc', hvv, hvals⟩ := ownG_vals hov
  simp only [Value.slice.injEq] at hvv
  rw [← hvv.1] at hvals
  have hal : Bel w7 (w7.alloc (.cells #[.int .i64 1, .slice vp 1 vc] 41)) := (Bel.refl _).alloc _
  have hbb := hb.trans hal
  have HB8 := Lib.hid (HB6.out.trans hbb)
  have HVA8 := Lib.hid (HVA6.out.bel hbb)
  have HQ8 := Lib.hid (hvals.bel hal)
  have HR8 := Lib.hid (qbel HR6.out hbb)
  have HF8 := Lib.hid (HF6.out.bel hbb)
  have HS8 := Lib.hid (qbel HS6.out hbb)
  have HT8 := Lib.hid (heap_alloc_new w7 (.cells #[.int .i64 1, .slice vp 1 vc] 41))
  clear hov hvv hvals hal hb hbb
  go_wp2_with (fail)
  refine (ptake14_any ⟨#[]⟩ _ (by decide) (HST.out.bel HB8.out)).mono ?_
  intro e w9 htk
  rw [show (⟨#[]⟩ : ByteArray).data.toList = [] from rfl, sh_none] at htk
  obtain ⟨rfl, hb⟩ := htk
  have hal : Bel w9 (w9.alloc (.cells #[.int .i64 0, .slice none 0 0] 41)) := (Bel.refl _).alloc _
  have hbb := hb.trans hal
  have HB10 := Lib.hid (HB8.out.trans hbb)
  have HVA10 := Lib.hid (HVA8.out.bel hbb)
  have HQ10 := Lib.hid (HQ8.out.bel hbb)
  have HR10 := Lib.hid (qbel HR8.out hbb)
  have HF10 := Lib.hid (HF8.out.bel hbb)
  have HT10 := Lib.hid (qbel HT8.out hbb)
  obtain ⟨⟨s0, s1, s2⟩, -⟩ := qbox3 (qbel HS8.out hbb)
  clear hal hb hbb
  go_wp2_with (fail)
  clear s0 s1 s2
  refine (pright14_any 1 3 (some ⟨X, 0, none⟩) 2 shF14 _ HF10.out (by decide) (by decide) sh_okF).mono ?_
  rintro e w11 ⟨rfl, hb⟩
  rw [sh_right]
  have HB11 := Lib.hid (HB10.out.trans hb)
  have HVA11 := Lib.hid (HVA10.out.bel hb)
  have HQ11 := Lib.hid (HQ10.out.bel hb)
  obtain ⟨⟨r0, r1⟩, -⟩ := qbox2 (qbel HR10.out hb)
  obtain ⟨⟨t0, t1⟩, -⟩ := qbox2 (qbel HT10.out hb)
  clear hb
  go_wp2_with (fail)
  refine (sameV14_any vp (some ⟨Y, 0, none⟩) vc 1 [boolV14] _ HQ11.out HVA11.out (by decide)).mono ?_
  rintro e w12 ⟨rfl, hd⟩
  have HB12 := Lib.hid (HB11.out.trans hd.bel)
  clear hd
  go_wp2_with (fail)
  go_ret
  exact ⟨rfl, HB12.out⟩
end Go.Proofs.YtbalkchphijehaaDoor
/- SchemaRows: true for every argument. -/
set_option maxRecDepth 20000
namespace Go.Proofs.YtbalkchphijehaaDoor
open Go.RowKit Go.Deep


theorem prow_form (t ver : Int) (L : List KV) : ∃ (x : ByteArray) (e : Int), prowV t ver L = .tuple #[.string x, .int .i64 e] := by
  unfold prowV
  split
  · exact ⟨_, _, rfl⟩
  · exact ⟨_, _, rfl⟩
end Go.Proofs.YtbalkchphijehaaDoor
