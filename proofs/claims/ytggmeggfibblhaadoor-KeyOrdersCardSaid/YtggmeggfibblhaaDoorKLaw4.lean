/- The walk of KeyOrders. -/
import Derived.Test.YtggmeggfibblhaaDoorKLaw3
import Derived.Test.YtggmeggfibblhaaDoorKOrd
import Derived.Test.YtggmeggfibblhaaDoorKCmpAt
import Derived.Deep.RegionHeld3
set_option linter.unusedSimpArgs false
set_option linter.unusedVariables false
namespace Go.Proofs.YtggmeggfibblhaaDoor
open Go.RowKit Go.Deep

theorem heldO_next {w x y : World} {k n k' n' : Int} {s s' : ByteArray} (hb : Bel x y)
    (h : x.cell? ⟨w.heap.size, 0, none⟩ = some (.int .i64 k) ∧ x.cell? ⟨w.heap.size, 1, none⟩ = some (.int .i64 n) ∧ x.cell? ⟨w.heap.size, 2, none⟩ = some (.string s) ∧ x.cell? ⟨w.heap.size + 1, 0, none⟩ = some (.int .i64 k') ∧ x.cell? ⟨w.heap.size + 1, 1, none⟩ = some (.int .i64 n') ∧ x.cell? ⟨w.heap.size + 1, 2, none⟩ = some (.string s') ∧ w.heap.size + 1 < x.heap.size ∧ Bel w x) :
    y.cell? ⟨w.heap.size, 0, none⟩ = some (.int .i64 k) ∧ y.cell? ⟨w.heap.size, 1, none⟩ = some (.int .i64 n) ∧ y.cell? ⟨w.heap.size, 2, none⟩ = some (.string s) ∧ y.cell? ⟨w.heap.size + 1, 0, none⟩ = some (.int .i64 k') ∧ y.cell? ⟨w.heap.size + 1, 1, none⟩ = some (.int .i64 n') ∧ y.cell? ⟨w.heap.size + 1, 2, none⟩ = some (.string s') ∧ w.heap.size + 1 < y.heap.size ∧ Bel w y := by
  obtain ⟨h0, h1, h2, h3, h4, h5, h6, h7⟩ := h
  exact ⟨cell_later hb h0, cell_later hb h1, cell_later hb h2, cell_later hb h3, cell_later hb h4, cell_later hb h5, Nat.lt_of_lt_of_le h6 hb.size, h7.trans hb⟩
theorem heldO_bel {w x : World} {k n k' n' : Int} {s s' : ByteArray} (h : x.cell? ⟨w.heap.size, 0, none⟩ = some (.int .i64 k) ∧ x.cell? ⟨w.heap.size, 1, none⟩ = some (.int .i64 n) ∧ x.cell? ⟨w.heap.size, 2, none⟩ = some (.string s) ∧ x.cell? ⟨w.heap.size + 1, 0, none⟩ = some (.int .i64 k') ∧ x.cell? ⟨w.heap.size + 1, 1, none⟩ = some (.int .i64 n') ∧ x.cell? ⟨w.heap.size + 1, 2, none⟩ = some (.string s') ∧ w.heap.size + 1 < x.heap.size ∧ Bel w x) : Bel w x := h.2.2.2.2.2.2.2


theorem ne_front (E F : List UInt8) (m : Nat) (h : ¬ E.take m = F.take m) : (((⟨E.toArray⟩ : ByteArray).extract 0 m).toList != ((⟨F.toArray⟩ : ByteArray).extract 0 m).toList) = true ∧ (((⟨E.toArray⟩ : ByteArray).extract 0 m).toList == ((⟨F.toArray⟩ : ByteArray).extract 0 m).toList) = false := by
  rw [ByteArray.toList_eq, ByteArray.toList_eq, ext_data, ext_data, List.drop_zero, List.drop_zero]
  exact ⟨by simpa using h, beq_eq_false_iff_ne.2 h⟩

theorem least_front (E F : List UInt8) (h : ∀ m, min E.length F.length = m → ¬ E.take m = F.take m) : ∃ m : Nat, (0 : Int) ≤ (m : Int) ∧ (m : Int) ≤ (E.length : Int) ∧ (m : Int) ≤ (F.length : Int) ∧ min ((E.length : Nat) : Int) (F.length : Int) = m ∧ (((⟨E.toArray⟩ : ByteArray).extract 0 m).toList != ((⟨F.toArray⟩ : ByteArray).extract 0 m).toList) = true ∧ (((⟨E.toArray⟩ : ByteArray).extract 0 m).toList == ((⟨F.toArray⟩ : ByteArray).extract 0 m).toList) = false :=
  ⟨min E.length F.length, by omega, by omega, by omega, by omega, (ne_front E F _ (h _ rfl)).1, (ne_front E F _ (h _ rfl)).2⟩

set_option maxHeartbeats 8000000 in
theorem orders_law (k n : Int) (s : ByteArray) (k' n' : Int) (s' : ByteArray) (w : World) (hs : s.size ≤ maxLen) (hs' : s'.size ≤ maxLen) (hn : -9223372036854775808 ≤ n ∧ n ≤ 9223372036854775807) (hn' : -9223372036854775808 ≤ n' ∧ n' ≤ 9223372036854775807) (hstd : Std w) :
    Calls Tryd.prog 6 #[.agg #[.int .i64 k, .int .i64 n, .string s], .agg #[.int .i64 k', .int .i64 n', .string s']] w fun e w' => e = .returned (.bool true) ∧ Bel w w' := by
  have HS := Lib.hid hstd; clear hstd
  go_enter Tryd.func6, Tryd.ntmps6
  go_wp2_with (fail)
  refine (shown_any _ (HS.out.bel (((Bel.refl w).alloc _).alloc _))).mono ?_
  rintro e w1 ⟨rfl, hb1⟩
  have c0 : w1.cell? ⟨w.heap.size, 0, none⟩ = some (.int .i64 k) := cell_later hb1 (by go_simp)
  have c1 : w1.cell? ⟨w.heap.size, 1, none⟩ = some (.int .i64 n) := cell_later hb1 (by go_simp)
  have c2 : w1.cell? ⟨w.heap.size, 2, none⟩ = some (.string s) := cell_later hb1 (by go_simp)
  have d0 : w1.cell? ⟨w.heap.size + 1, 0, none⟩ = some (.int .i64 k') := cell_later hb1 (by go_simp)
  have d1 : w1.cell? ⟨w.heap.size + 1, 1, none⟩ = some (.int .i64 n') := cell_later hb1 (by go_simp)
  have d2 : w1.cell? ⟨w.heap.size + 1, 2, none⟩ = some (.string s') := cell_later hb1 (by go_simp)
  have HB := Lib.hid ((((Bel.refl w).alloc _).alloc _).trans hb1)
  have hz := hb1.size
  simp at hz
  clear hb1
  by_cases hl1 : s.size ≤ 2000
  · have hl1' : ((s.size : Nat) : Int) ≤ 2000 := by omega
    by_cases hl2 : s'.size ≤ 2000
    · have hl2' : ((s'.size : Nat) : Int) ≤ 2000 := by omega
      go_wp2_with (fail)
      refine (put_any ⟨k, n, s⟩ _ hs hn (HS.out.bel HB.out)).mono ?_
      rintro e w2 ⟨rfl, hb⟩
      replace c0 := cell_later hb c0
      replace c1 := cell_later hb c1
      replace c2 := cell_later hb c2
      replace d0 := cell_later hb d0
      replace d1 := cell_later hb d1
      replace d2 := cell_later hb d2
      have hz2 : w.heap.size + 1 + 1 ≤ w2.heap.size := Nat.le_trans hz hb.size
      replace HB := Lib.hid (HB.out.trans hb); clear hb hz
      obtain ⟨x1, e1, hf1⟩ := putV_form ⟨k, n, s⟩
      have HF1 := Lib.hid hf1; clear hf1
      rw [HF1.out]
      go_wp2_with (fail)
      refine (put_any ⟨k', n', s'⟩ _ hs' hn' (HS.out.bel HB.out)).mono ?_
      rintro e w3 ⟨rfl, hb⟩
      replace c0 := cell_later hb c0
      replace c1 := cell_later hb c1
      replace c2 := cell_later hb c2
      replace d0 := cell_later hb d0
      replace d1 := cell_later hb d1
      replace d2 := cell_later hb d2
      have hz3 : w.heap.size + 1 < w3.heap.size := by have := hb.size; omega
      replace HB := Lib.hid (HB.out.trans hb); clear hb hz2
      cases hr1 : KV.right ⟨k, n, s⟩ with
      | false =>
        have h1 : putV ⟨k, n, s⟩ = .tuple #[.string ⟨#[]⟩, .int .i64 1] := by unfold putV; rw [hr1]; rfl
        have h2 := HF1.out.symm.trans h1
        obtain ⟨rfl, rfl⟩ : x1 = ⟨#[]⟩ ∧ e1 = 1 := by simpa using h2
        clear h1 h2
        obtain ⟨x2, e2, hf2⟩ := putV_form ⟨k', n', s'⟩
        rw [hf2]
        clear hf2 HF1
        go_wp2_with (fail)
        go_ret
        exact ⟨rfl, HB.out⟩
      | true =>
        have h1 : putV ⟨k, n, s⟩ = .tuple #[.string ⟨(encL ⟨k, n, s⟩).toArray⟩, .int .i64 0] := by unfold putV; rw [if_pos hr1]
        have h2 := HF1.out.symm.trans h1
        obtain ⟨rfl, rfl⟩ : x1 = ⟨(encL ⟨k, n, s⟩).toArray⟩ ∧ e1 = 0 := by simpa using h2
        clear h1 h2 HF1
        cases hr2 : KV.right ⟨k', n', s'⟩ with
        | false =>
          have h1 : putV ⟨k', n', s'⟩ = .tuple #[.string ⟨#[]⟩, .int .i64 1] := by unfold putV; rw [hr2]; rfl
          rw [h1]
          clear h1
          go_wp2_with (fail)
          go_ret
          exact ⟨rfl, HB.out⟩
        | true =>
          have h1 : putV ⟨k', n', s'⟩ = .tuple #[.string ⟨(encL ⟨k', n', s'⟩).toArray⟩, .int .i64 0] := by unfold putV; rw [if_pos hr2]
          rw [h1]
          clear h1
          have hcmp := enc_cmp ⟨k, n, s⟩ ⟨k', n', s'⟩ hr1 hr2 hn hn'
          have hpre := enc_prefix ⟨k, n, s⟩ ⟨k', n', s'⟩ hr1 hr2 hn hn'
          have hla := enc_len ⟨k, n, s⟩ hr1
          have hlb := enc_len ⟨k', n', s'⟩ hr2
          obtain ⟨z, hzz⟩ : ∃ z, cmpK ⟨k, n, s⟩ ⟨k', n', s'⟩ = z := ⟨_, rfl⟩
          rw [hzz] at hcmp
          have HCMP := Lib.hid fun w => compare_at k n s k' n' s' z w hs hs' hzz
          have hzero := cmpK_zero ⟨k, n, s⟩ ⟨k', n', s'⟩
          clear hr1 hr2
          by_cases heq : (KV.mk k n s) = ⟨k', n', s'⟩
          · cases heq
            generalize encL ⟨k, n, s⟩ = E at *
            have HBY := Lib.hid fun w => bytes_at ⟨E.toArray⟩ ⟨E.toArray⟩ z w (by show E.toArray.size ≤ _; rw [List.size_toArray]; omega) (by show E.toArray.size ≤ _; rw [List.size_toArray]; omega) hcmp
            clear hcmp hpre hzero hzz
            go_wp2_with (fail)
            have hkd := (Bel.refl w).trans HB.out |>.drew
            first | go_region_held3 (fun x => x.cell? ⟨w.heap.size, 0, none⟩ = some (.int .i64 k) ∧ x.cell? ⟨w.heap.size, 1, none⟩ = some (.int .i64 n) ∧ x.cell? ⟨w.heap.size, 2, none⟩ = some (.string s) ∧ x.cell? ⟨w.heap.size + 1, 0, none⟩ = some (.int .i64 k) ∧ x.cell? ⟨w.heap.size + 1, 1, none⟩ = some (.int .i64 n) ∧ x.cell? ⟨w.heap.size + 1, 2, none⟩ = some (.string s) ∧ w.heap.size + 1 < x.heap.size ∧ Bel w x)
              (first | assumption | exact ⟨c0, c1, c2, d0, d1, d2, hz3, hkd⟩ | exact heldO_next hb (by assumption))
              (first
                | (go_at_call 20; refine (HBY.out _).mono ?_; rintro e w' ⟨rfl, hb⟩)
                | (go_at_call 21; refine (HCMP.out _).mono ?_; rintro e w' ⟨rfl, hb⟩))
                  | fail
            all_goals have hk := heldO_bel (by assumption)
            all_goals go_wp2_with (fail)
            all_goals go_ret
            all_goals exact ⟨rfl, hk⟩
          · generalize encL ⟨k, n, s⟩ = E at *
            generalize encL ⟨k', n', s'⟩ = F at *
            have HBY := Lib.hid fun w => bytes_at ⟨E.toArray⟩ ⟨F.toArray⟩ z w (by show E.toArray.size ≤ _; rw [List.size_toArray]; omega) (by show F.toArray.size ≤ _; rw [List.size_toArray]; omega) hcmp
            obtain ⟨m, hm0, hm1, hm2, hmin', hne, hne2⟩ := least_front E F (fun m hm h => heq (hpre (by rw [hm]; exact h)))
            clear hcmp hpre hzero hzz heq
            go_wp2_with (fail)
            have hkd := (Bel.refl w).trans HB.out |>.drew
            refine wp_region_held_drew (S := (fun x => x.cell? ⟨w.heap.size, 0, none⟩ = some (.int .i64 k) ∧ x.cell? ⟨w.heap.size, 1, none⟩ = some (.int .i64 n) ∧ x.cell? ⟨w.heap.size, 2, none⟩ = some (.string s) ∧ x.cell? ⟨w.heap.size + 1, 0, none⟩ = some (.int .i64 k') ∧ x.cell? ⟨w.heap.size + 1, 1, none⟩ = some (.int .i64 n') ∧ x.cell? ⟨w.heap.size + 1, 2, none⟩ = some (.string s') ∧ w.heap.size + 1 < x.heap.size ∧ Bel w x)) (by kernel_rfl) ⟨c0, c1, c2, d0, d1, d2, hz3, hkd⟩ (fun hHeld => ?_)
            refine wpAnyH_take (i := 0) (oi := { dst := some 48, op := Op.move (Operand.tmp 6), type := 9, pos := "law.go:120", after := #[], guard := none }) (v := ?_) rfl (by kernel_rfl) (by kernel_rfl) (by kernel_rfl) (fun _ _ _ h => h) (Or.inl ⟨by rfl, ?_⟩) (by assumption) ?_
            rotate_left
            · (intro w hSw; (try dsimp only at hSw); first | (go_simp; done) | (go_simp; with_reducible rfl))
            try simp only [Act.put, List.setIfInBounds_toArray, List.set_cons_zero, List.set_cons_succ]
            refine wpAnyH_take (i := 1) (oi := { dst := some 49, op := Op.move (Operand.tmp 8), type := 9, pos := "law.go:120", after := #[], guard := none }) (v := ?_) rfl (by kernel_rfl) (by kernel_rfl) (by kernel_rfl) (fun _ _ _ h => h) (Or.inl ⟨by rfl, ?_⟩) (by assumption) ?_
            rotate_left
            · (intro w hSw; (try dsimp only at hSw); first | (go_simp; done) | (go_simp; with_reducible rfl))
            try simp only [Act.put, List.setIfInBounds_toArray, List.set_cons_zero, List.set_cons_succ]
            refine wpAnyH_take (i := 3) (oi := { dst := some 51, op := Op.load 23 (Operand.tmp 2), type := 23, pos := "law.go:120", after := #[], guard := none }) (v := ?_) rfl (by kernel_rfl) (by kernel_rfl) (by kernel_rfl) (fun _ _ _ h => h) (Or.inl ⟨by rfl, ?_⟩) (by assumption) ?_
            rotate_left
            · (intro w hSw; (try dsimp only at hSw); first | (go_simp; done) | (go_simp; with_reducible rfl))
            try simp only [Act.put, List.setIfInBounds_toArray, List.set_cons_zero, List.set_cons_succ]
            refine wpAnyH_take (i := 4) (oi := { dst := some 52, op := Op.load 23 (Operand.tmp 3), type := 23, pos := "law.go:120", after := #[], guard := none }) (v := ?_) rfl (by kernel_rfl) (by kernel_rfl) (by kernel_rfl) (fun _ _ _ h => h) (Or.inl ⟨by rfl, ?_⟩) (by assumption) ?_
            rotate_left
            · (intro w hSw; (try dsimp only at hSw); first | (go_simp; done) | (go_simp; with_reducible rfl))
            try simp only [Act.put, List.setIfInBounds_toArray, List.set_cons_zero, List.set_cons_succ]
            refine wpAnyH_ready (rs := [2]) (by kernel_rfl) (by simp) ?_
            refine AllReadyH.cons (o := { dst := some 50, op := Op.call { callee := Callee.value (Operand.func 20), args := #[Operand.tmp 48, Operand.tmp 49], argTypes := #[9, 9] }, type := 3, pos := "law.go:120", after := #[{ on := 0, ground := Ground.data }, { on := 1, ground := Ground.data }], guard := none }) rfl (fun K hK => ?_) AllReadyH.nil
            go_simp
            go_at_call 20
            refine (HBY.out _).mono ?_
            rintro e w' ⟨rfl, hb⟩
            refine hK.out _ _ (heldO_next hb (by assumption)) (fun hHeld => ?_)
            clear hK K
            try simp only [Act.put, List.setIfInBounds_toArray, List.set_cons_zero, List.set_cons_succ]
            refine wpAnyH_ready (rs := [5]) (by kernel_rfl) (by simp) ?_
            refine AllReadyH.cons (o := { dst := some 53, op := Op.call { callee := Callee.value (Operand.func 21), args := #[Operand.tmp 51, Operand.tmp 52], argTypes := #[23, 23] }, type := 3, pos := "law.go:120", after := #[{ on := 3, ground := Ground.data }, { on := 4, ground := Ground.data }, { on := 2, ground := Ground.chain }], guard := none }) rfl (fun K hK => ?_) AllReadyH.nil
            go_simp
            go_at_call 21
            refine (HCMP.out _).mono ?_
            rintro e w' ⟨rfl, hb⟩
            refine hK.out _ _ (heldO_next hb (by assumption)) (fun hHeld => ?_)
            clear hK K
            try simp only [Act.put, List.setIfInBounds_toArray, List.set_cons_zero, List.set_cons_succ]
            refine wpAnyH_take (i := 6) (oi := { dst := some 54, op := Op.binOp BinOp.eql 3 (Operand.tmp 50) (Operand.tmp 53) 3, type := 4, pos := "law.go:120", after := #[{ on := 2, ground := Ground.data }, { on := 5, ground := Ground.data }], guard := none }) (v := ?_) rfl (by kernel_rfl) (by kernel_rfl) (by kernel_rfl) (fun _ _ _ h => h) (Or.inl ⟨by rfl, ?_⟩) (by assumption) ?_
            rotate_left
            · (intro w hSw; (try dsimp only at hSw); first | (go_simp; done) | (go_simp; with_reducible rfl))
            try simp only [Act.put, List.setIfInBounds_toArray, List.set_cons_zero, List.set_cons_succ]
            refine wpAnyH_take (i := 7) (oi := { dst := some 55, op := Op.move (Operand.tmp 54), type := 4, pos := "law.go:120", after := #[{ on := 6, ground := Ground.data }, { on := 5, ground := Ground.chain }], guard := none }) (v := ?_) rfl (by kernel_rfl) (by kernel_rfl) (by kernel_rfl) (fun _ _ _ h => h) (Or.inl ⟨by rfl, ?_⟩) (by assumption) ?_
            rotate_left
            · (intro w hSw; (try dsimp only at hSw); first | (go_simp; done) | (go_simp; with_reducible rfl))
            try simp only [Act.put, List.setIfInBounds_toArray, List.set_cons_zero, List.set_cons_succ]
            refine wpAnyH_take (i := 8) (oi := { dst := some 56, op := Op.move (Operand.tmp 6), type := 9, pos := "law.go:120", after := #[{ on := 7, ground := Ground.guard }], guard := some (7, true) }) (v := ?_) rfl (by kernel_rfl) (by kernel_rfl) (by kernel_rfl) (fun _ _ _ h => h) (Or.inl ⟨by rfl, ?_⟩) (by assumption) ?_
            rotate_left
            · (intro w hSw; (try dsimp only at hSw); first | (go_simp; done) | (go_simp; with_reducible rfl))
            try simp only [Act.put, List.setIfInBounds_toArray, List.set_cons_zero, List.set_cons_succ]
            refine wpAnyH_take (i := 9) (oi := { dst := some 57, op := Op.move (Operand.tmp 10), type := 3, pos := "law.go:120", after := #[{ on := 7, ground := Ground.guard }], guard := some (7, true) }) (v := ?_) rfl (by kernel_rfl) (by kernel_rfl) (by kernel_rfl) (fun _ _ _ h => h) (Or.inl ⟨by rfl, ?_⟩) (by assumption) ?_
            rotate_left
            · (intro w hSw; (try dsimp only at hSw); first | (go_simp; done) | (go_simp; with_reducible rfl))
            try simp only [Act.put, List.setIfInBounds_toArray, List.set_cons_zero, List.set_cons_succ]
            refine wpAnyH_take (i := 10) (oi := { dst := some 58, op := Op.slice 9 (Operand.tmp 56) none (some (Operand.tmp 57)) none, type := 9, pos := "law.go:120", after := #[{ on := 8, ground := Ground.data }, { on := 9, ground := Ground.data }, { on := 7, ground := Ground.guard }], guard := some (7, true) }) (v := ?_) rfl (by kernel_rfl) (by kernel_rfl) (by kernel_rfl) (fun _ _ _ h => h) (Or.inl ⟨by rfl, ?_⟩) (by assumption) ?_
            rotate_left
            · (intro w hSw; (try dsimp only at hSw); first | (go_simp; done) | (go_simp; with_reducible rfl))
            try simp only [Act.put, List.setIfInBounds_toArray, List.set_cons_zero, List.set_cons_succ]
            refine wpAnyH_take (i := 11) (oi := { dst := some 59, op := Op.move (Operand.tmp 8), type := 9, pos := "law.go:120", after := #[{ on := 7, ground := Ground.guard }], guard := some (7, true) }) (v := ?_) rfl (by kernel_rfl) (by kernel_rfl) (by kernel_rfl) (fun _ _ _ h => h) (Or.inl ⟨by rfl, ?_⟩) (by assumption) ?_
            rotate_left
            · (intro w hSw; (try dsimp only at hSw); first | (go_simp; done) | (go_simp; with_reducible rfl))
            try simp only [Act.put, List.setIfInBounds_toArray, List.set_cons_zero, List.set_cons_succ]
            refine wpAnyH_take (i := 12) (oi := { dst := some 60, op := Op.move (Operand.tmp 10), type := 3, pos := "law.go:120", after := #[{ on := 7, ground := Ground.guard }], guard := some (7, true) }) (v := ?_) rfl (by kernel_rfl) (by kernel_rfl) (by kernel_rfl) (fun _ _ _ h => h) (Or.inl ⟨by rfl, ?_⟩) (by assumption) ?_
            rotate_left
            · (intro w hSw; (try dsimp only at hSw); first | (go_simp; done) | (go_simp; with_reducible rfl))
            try simp only [Act.put, List.setIfInBounds_toArray, List.set_cons_zero, List.set_cons_succ]
            refine wpAnyH_take (i := 13) (oi := { dst := some 61, op := Op.slice 9 (Operand.tmp 59) none (some (Operand.tmp 60)) none, type := 9, pos := "law.go:120", after := #[{ on := 11, ground := Ground.data }, { on := 12, ground := Ground.data }, { on := 7, ground := Ground.guard }], guard := some (7, true) }) (v := ?_) rfl (by kernel_rfl) (by kernel_rfl) (by kernel_rfl) (fun _ _ _ h => h) (Or.inl ⟨by rfl, ?_⟩) (by assumption) ?_
            rotate_left
            · (intro w hSw; (try dsimp only at hSw); first | (go_simp; done) | (go_simp; with_reducible rfl))
            try simp only [Act.put, List.setIfInBounds_toArray, List.set_cons_zero, List.set_cons_succ]
            refine wpAnyH_take (i := 14) (oi := { dst := some 62, op := Op.binOp BinOp.neq 9 (Operand.tmp 58) (Operand.tmp 61) 9, type := 4, pos := "law.go:120", after := #[{ on := 10, ground := Ground.data }, { on := 13, ground := Ground.data }, { on := 7, ground := Ground.guard }], guard := some (7, true) }) (v := ?_) rfl (by kernel_rfl) (by kernel_rfl) (by kernel_rfl) (fun _ _ _ h => h) (Or.inl ⟨by rfl, ?_⟩) (by assumption) ?_
            rotate_left
            · (intro w hSw; (try dsimp only at hSw); first | (go_simp; done) | (go_simp; with_reducible rfl))
            try simp only [Act.put, List.setIfInBounds_toArray, List.set_cons_zero, List.set_cons_succ]
            refine wpAnyH_take (i := 15) (oi := { dst := some 63, op := Op.move (Operand.tmp 62), type := 4, pos := "law.go:120", after := #[{ on := 14, ground := Ground.data }, { on := 7, ground := Ground.chain }, { on := 7, ground := Ground.guard }], guard := some (7, true) }) (v := ?_) rfl (by kernel_rfl) (by kernel_rfl) (by kernel_rfl) (fun _ _ _ h => h) (Or.inl ⟨by rfl, ?_⟩) (by assumption) ?_
            rotate_left
            · (intro w hSw; (try dsimp only at hSw); first | (go_simp; done) | (go_simp; with_reducible rfl))
            try simp only [Act.put, List.setIfInBounds_toArray, List.set_cons_zero, List.set_cons_succ]
            refine wpAnyH_take (i := 16) (oi := { dst := some 64, op := Op.load 23 (Operand.tmp 2), type := 23, pos := "law.go:120", after := #[{ on := 15, ground := Ground.guard }], guard := some (15, false) }) (v := undef) rfl (by kernel_rfl) (by kernel_rfl) (by kernel_rfl) (fun _ _ _ h => h) (Or.inr ⟨by rfl, rfl⟩) (by assumption) ?_
            try simp only [Act.put, List.setIfInBounds_toArray, List.set_cons_zero, List.set_cons_succ]
            refine wpAnyH_take (i := 17) (oi := { dst := some 65, op := Op.load 23 (Operand.tmp 3), type := 23, pos := "law.go:120", after := #[{ on := 15, ground := Ground.guard }], guard := some (15, false) }) (v := undef) rfl (by kernel_rfl) (by kernel_rfl) (by kernel_rfl) (fun _ _ _ h => h) (Or.inr ⟨by rfl, rfl⟩) (by assumption) ?_
            try simp only [Act.put, List.setIfInBounds_toArray, List.set_cons_zero, List.set_cons_succ]
            refine wpAnyH_take (i := 18) (oi := { dst := some 66, op := Op.binOp BinOp.eql 23 (Operand.tmp 64) (Operand.tmp 65) 23, type := 4, pos := "law.go:120", after := #[{ on := 16, ground := Ground.data }, { on := 17, ground := Ground.data }, { on := 15, ground := Ground.guard }], guard := some (15, false) }) (v := undef) rfl (by kernel_rfl) (by kernel_rfl) (by kernel_rfl) (fun _ _ _ h => h) (Or.inr ⟨by rfl, rfl⟩) (by assumption) ?_
            try simp only [Act.put, List.setIfInBounds_toArray, List.set_cons_zero, List.set_cons_succ]
            refine wpAnyH_take (i := 19) (oi := { dst := some 67, op := Op.pick (Operand.tmp 63) (Operand.const (Value.bool true)) (Operand.tmp 66), type := 4, pos := "law.go:120", after := #[{ on := 15, ground := Ground.data }, { on := 18, ground := Ground.data }, { on := 7, ground := Ground.guard }], guard := some (7, true) }) (v := ?_) rfl (by kernel_rfl) (by kernel_rfl) (by kernel_rfl) (fun _ _ _ h => h) (Or.inl ⟨by rfl, ?_⟩) (by assumption) ?_
            rotate_left
            · (intro w hSw; (try dsimp only at hSw); first | (go_simp; done) | (go_simp; with_reducible rfl))
            try simp only [Act.put, List.setIfInBounds_toArray, List.set_cons_zero, List.set_cons_succ]
            refine wpAnyH_take (i := 20) (oi := { dst := some 68, op := Op.pick (Operand.tmp 55) (Operand.tmp 67) (Operand.const (Value.bool false)), type := 4, pos := "law.go:120", after := #[{ on := 7, ground := Ground.data }, { on := 19, ground := Ground.data }], guard := none }) (v := ?_) rfl (by kernel_rfl) (by kernel_rfl) (by kernel_rfl) (fun _ _ _ h => h) (Or.inl ⟨by rfl, ?_⟩) (by assumption) ?_
            rotate_left
            · (intro w hSw; (try dsimp only at hSw); first | (go_simp; done) | (go_simp; with_reducible rfl))
            try simp only [Act.put, List.setIfInBounds_toArray, List.set_cons_zero, List.set_cons_succ]
            refine wpAnyH_take (i := 21) (oi := { dst := some 4, op := Op.assign (Operand.tmp 68), type := 4, pos := "law.go:120", after := #[{ on := 20, ground := Ground.data }, { on := 15, ground := Ground.chain }, { on := 0, ground := Ground.phase }, { on := 1, ground := Ground.phase }, { on := 2, ground := Ground.phase }, { on := 3, ground := Ground.phase }, { on := 4, ground := Ground.phase }, { on := 5, ground := Ground.phase }, { on := 6, ground := Ground.phase }, { on := 7, ground := Ground.phase }, { on := 8, ground := Ground.phase }, { on := 9, ground := Ground.phase }, { on := 10, ground := Ground.phase }, { on := 11, ground := Ground.phase }, { on := 12, ground := Ground.phase }, { on := 13, ground := Ground.phase }, { on := 14, ground := Ground.phase }, { on := 15, ground := Ground.phase }, { on := 16, ground := Ground.phase }, { on := 17, ground := Ground.phase }, { on := 18, ground := Ground.phase }, { on := 19, ground := Ground.phase }, { on := 20, ground := Ground.phase }], guard := none }) (v := ?_) rfl (by kernel_rfl) (by kernel_rfl) (by kernel_rfl) (fun _ _ _ h => h) (Or.inl ⟨by rfl, ?_⟩) (by assumption) ?_
            rotate_left
            · (intro w hSw; (try dsimp only at hSw); first | (go_simp; done) | (go_simp; with_reducible rfl))
            try simp only [Act.put, List.setIfInBounds_toArray, List.set_cons_zero, List.set_cons_succ]
            refine wpAnyH_done (by kernel_rfl) ?_ _
            have hk := heldO_bel (by assumption)
            go_wp2_with (fail)
            go_ret
            exact ⟨rfl, hk⟩
    · have hl2' : ¬ ((s'.size : Nat) : Int) ≤ 2000 := by omega
      go_wp2_with (fail)
      go_ret
      exact ⟨rfl, HB.out⟩
  · have hl1' : ¬ ((s.size : Nat) : Int) ≤ 2000 := by omega
    go_wp2_with (fail)
    go_ret
    exact ⟨rfl, HB.out⟩
end Go.Proofs.YtggmeggfibblhaaDoor
