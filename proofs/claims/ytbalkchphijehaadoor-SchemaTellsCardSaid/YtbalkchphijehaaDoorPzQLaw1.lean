/- SchemaTells: true for every argument. -/
import Derived.Test.YtbalkchphijehaaDoorP12
import Derived.Test.YtbalkchphijehaaDoorP10
set_option linter.unusedSimpArgs false
set_option linter.unusedVariables false
set_option maxRecDepth 20000
namespace Go.Proofs.YtbalkchphijehaaDoor
open Go.RowKit Go.Deep


theorem find_form (o : Option FV) : ∃ (i k : Int) (n : ByteArray) (d e : Int) (t : ByteArray) (b : Bool), findV14 o = .tuple #[.agg #[.int .i64 i, .int .i64 k, .string n, .int .i64 d, .int .i64 e, .string t], .bool b] := by
  cases o with
  | none => exact ⟨_, _, _, _, _, _, _, rfl⟩
  | some f => exact ⟨_, _, _, _, _, _, _, rfl⟩
theorem byid_form (o : Option FV) : ∃ (i k : Int) (n : ByteArray) (d e : Int) (t : ByteArray) (b : Bool), byidV14 o = .tuple #[.agg #[.int .i64 i, .int .i64 k, .string n, .int .i64 d, .int .i64 e, .string t], .bool b] := by
  cases o with
  | none => exact ⟨_, _, _, _, _, _, _, rfl⟩
  | some f => exact ⟨_, _, _, _, _, _, _, rfl⟩
set_option maxHeartbeats 32000000 in
theorem tells14_law (ver next : Int) (p : Option Addr) (c : Nat) (F : List FV) (q : Option Addr) (d : Nat) (L : List KV) (name : ByteArray) (id : Int) (w : World) (h : FldsAt w p F) (hF : F.length ≤ maxLen) (hc : F.length ≤ c) (hV : allF F) (h' : ValsAt w q L) (hL : L.length ≤ maxLen) (hW : allV L) (hstd : Std w) (hn : name.size ≤ maxLen) :
    Calls Tryd.prog 3 #[.agg #[.int .i64 ver, .int .i64 next, .slice p F.length c], .string name, .int .i64 id, .slice q L.length d] w fun e w' => e = .returned (.bool true) ∧ Bel w w' := by
  unfold maxLen at *
  have H := Lib.hid h; have H' := Lib.hid h'
  have HV := Lib.hid hV; have HW := Lib.hid hW
  have HST := Lib.hid hstd
  have HFM := Lib.hid hF; have HLM := Lib.hid hL; have HFC := Lib.hid hc
  clear h h' hV hW hstd
  obtain ⟨X, hX⟩ : ∃ X, X = w.heap.size := ⟨_, rfl⟩
  obtain ⟨w1, hw1⟩ : ∃ z, z = w.alloc (.cells #[.int .i64 ver, .int .i64 next, .slice p F.length c] 24) := ⟨_, rfl⟩
  have HB1 := Lib.hid (show Bel w w1 by rw [hw1]; exact (Bel.refl w).alloc _)
  have HK1 := Lib.hid (show w1.heap[X]? = some (.cells #[.int .i64 ver, .int .i64 next, .slice p F.length c] 24 (0, 0)) by rw [hw1, hX]; exact heap_alloc_new w _)
  have HRS := Lib.hid (show ∀ z, Bel w1 z → (z.cell? ⟨X, 0, none⟩ = some (.int .i64 ver) ∧ z.cell? ⟨X, 1, none⟩ = some (.int .i64 next) ∧ z.cell? ⟨X, 2, none⟩ = some (.slice p F.length c)) from fun z hz => (qbox3 (qbel HK1.out hz)).1)
  go_enter Tryd.func3, Tryd.ntmps3
  go_wp2_with (fail)
  rw [← hw1, ← hX]
  clear hw1 hX
  refine (shown14_any _ (HST.out.bel HB1.out)).mono ?_
  rintro e w2 ⟨rfl, hb⟩
  have HB2 := Lib.hid (show Bel w1 w2 from hb)
  clear hb
  obtain ⟨s0, s1, s2⟩ := HRS.out _ HB2.out
  go_wp2_with (fail)
  clear s0 s1 s2
  refine (small14_any ver next p c F q d L _ (H.out.bel (HB1.out.trans HB2.out)) (by unfold maxLen; exact HFM.out) (H'.out.bel (HB1.out.trans HB2.out)) (by unfold maxLen; exact HLM.out)).mono ?_
  intro e w3 hsm
  obtain ⟨b, rfl, hbs, hb⟩ := hsm
  have HB3 := Lib.hid (HB2.out.trans hb)
  have HSM := Lib.hid hbs
  clear hb hbs
  cases b with
  | false =>
    go_wp2_with (fail)
    go_ret
    exact ⟨rfl, HB1.out.trans HB3.out⟩
  | true =>
    by_cases hl : name.size ≤ 100
    · have hl' : ¬ (100 : Int) < (name.size : Int) := by omega
      have HNM := Lib.hid (show name.size ≤ maxLen by unfold maxLen; omega)
      clear hl
      obtain ⟨i1, k1, n1, d1, e1, t1, b1, hf1⟩ := find_form (findN F name.data.toList)
      obtain ⟨i2, k2, n2, d2, e2, t2, b2, hf2⟩ := byid_form (findI F id)
      have HF1 := Lib.hid hf1; have HF2 := Lib.hid hf2
      clear hf1 hf2
      obtain ⟨s0, s1, s2⟩ := HRS.out _ HB3.out
      go_wp2_with (fail)
      clear s0 s1 s2
      refine (pfind14_any ver next p c F name _ (H.out.bel (HB1.out.trans HB3.out)) (by unfold maxLen; exact HFM.out)).mono ?_
      rintro e w4 ⟨rfl, hb⟩
      rw [HF1.out]
      have HB4 := Lib.hid (show Bel w1 (w4.alloc (.cells #[.int .i64 i1, .int .i64 k1, .string n1, .int .i64 d1, .int .i64 e1, .string t1] 31)) from (HB3.out.trans hb).alloc _)
      have HK4 := Lib.hid (heap_alloc_new w4 (.cells #[.int .i64 i1, .int .i64 k1, .string n1, .int .i64 d1, .int .i64 e1, .string t1] 31))
      clear hb
      obtain ⟨s0, s1, s2⟩ := HRS.out _ HB4.out
      go_wp2_with (fail)
      clear s0 s1 s2
      refine (rfind14_any ver next p c F name _ (H.out.bel (HB1.out.trans HB4.out)) (by unfold maxLen; exact HFM.out)).mono ?_
      rintro e w6 ⟨rfl, hb⟩
      rw [HF1.out]
      have HB6 := Lib.hid (show Bel w1 (w6.alloc (.cells #[.int .i64 i1, .int .i64 k1, .string n1, .int .i64 d1, .int .i64 e1, .string t1] 31)) from (HB4.out.trans hb).alloc _)
      have HK6 := Lib.hid (heap_alloc_new w6 (.cells #[.int .i64 i1, .int .i64 k1, .string n1, .int .i64 d1, .int .i64 e1, .string t1] 31))
      have HK4' := Lib.hid (qbel HK4.out (hb.alloc (.cells #[.int .i64 i1, .int .i64 k1, .string n1, .int .i64 d1, .int .i64 e1, .string t1] 31)))
      clear HK4
      have HK4 := HK4'
      clear HK4'
      clear hb
      obtain ⟨s0, s1, s2⟩ := HRS.out _ HB6.out
      go_wp2_with (fail)
      clear s0 s1 s2
      refine (pbyid14_any ver next p c F id _ (H.out.bel (HB1.out.trans HB6.out)) (by unfold maxLen; exact HFM.out)).mono ?_
      rintro e w8 ⟨rfl, hb⟩
      rw [HF2.out]
      have HB8 := Lib.hid (show Bel w1 (w8.alloc (.cells #[.int .i64 i2, .int .i64 k2, .string n2, .int .i64 d2, .int .i64 e2, .string t2] 31)) from (HB6.out.trans hb).alloc _)
      have HK8 := Lib.hid (heap_alloc_new w8 (.cells #[.int .i64 i2, .int .i64 k2, .string n2, .int .i64 d2, .int .i64 e2, .string t2] 31))
      have HK4' := Lib.hid (qbel HK4.out (hb.alloc (.cells #[.int .i64 i2, .int .i64 k2, .string n2, .int .i64 d2, .int .i64 e2, .string t2] 31)))
      clear HK4
      have HK4 := HK4'
      clear HK4'
      have HK6' := Lib.hid (qbel HK6.out (hb.alloc (.cells #[.int .i64 i2, .int .i64 k2, .string n2, .int .i64 d2, .int .i64 e2, .string t2] 31)))
      clear HK6
      have HK6 := HK6'
      clear HK6'
      clear hb
      obtain ⟨s0, s1, s2⟩ := HRS.out _ HB8.out
      go_wp2_with (fail)
      clear s0 s1 s2
      refine (rbyid14_any ver next p c F id _ (H.out.bel (HB1.out.trans HB8.out)) (by unfold maxLen; exact HFM.out)).mono ?_
      rintro e w10 ⟨rfl, hb⟩
      rw [HF2.out]
      have HB10 := Lib.hid (show Bel w1 (w10.alloc (.cells #[.int .i64 i2, .int .i64 k2, .string n2, .int .i64 d2, .int .i64 e2, .string t2] 31)) from (HB8.out.trans hb).alloc _)
      have HK10 := Lib.hid (heap_alloc_new w10 (.cells #[.int .i64 i2, .int .i64 k2, .string n2, .int .i64 d2, .int .i64 e2, .string t2] 31))
      have HK4' := Lib.hid (qbel HK4.out (hb.alloc (.cells #[.int .i64 i2, .int .i64 k2, .string n2, .int .i64 d2, .int .i64 e2, .string t2] 31)))
      clear HK4
      have HK4 := HK4'
      clear HK4'
      have HK6' := Lib.hid (qbel HK6.out (hb.alloc (.cells #[.int .i64 i2, .int .i64 k2, .string n2, .int .i64 d2, .int .i64 e2, .string t2] 31)))
      clear HK6
      have HK6 := HK6'
      clear HK6'
      have HK8' := Lib.hid (qbel HK8.out (hb.alloc (.cells #[.int .i64 i2, .int .i64 k2, .string n2, .int .i64 d2, .int .i64 e2, .string t2] 31)))
      clear HK8
      have HK8 := HK8'
      clear HK8'
      clear hb
      go_wp2_with (fail)
      obtain ⟨y, hy⟩ : ∃ y, y = w10.alloc (.cells #[.int .i64 i2, .int .i64 k2, .string n2, .int .i64 d2, .int .i64 e2, .string t2] 31) := ⟨_, rfl⟩
      obtain ⟨Y10, hY10⟩ : ∃ Y, Y = w10.heap.size := ⟨_, rfl⟩
      obtain ⟨Y8, hY8⟩ : ∃ Y, Y = w8.heap.size := ⟨_, rfl⟩
      obtain ⟨Y6, hY6⟩ : ∃ Y, Y = w6.heap.size := ⟨_, rfl⟩
      obtain ⟨Y4, hY4⟩ : ∃ Y, Y = w4.heap.size := ⟨_, rfl⟩
      rw [← hy] at HK4 HK6 HK8 HK10 HB10 ⊢
      rw [← hY10] at HK10 ⊢
      rw [← hY8] at HK8 ⊢
      rw [← hY6] at HK6 ⊢
      rw [← hY4] at HK4 ⊢
      clear hy hY10 hY8 hY6 hY4
      have HS := Lib.hid (show ∀ z, Bel y z → ((z.cell? ⟨X, 0, none⟩ = some (.int .i64 ver) ∧ z.cell? ⟨X, 1, none⟩ = some (.int .i64 next) ∧ z.cell? ⟨X, 2, none⟩ = some (.slice p F.length c)) ∧ (z.cell? ⟨Y4, 0, none⟩ = some (.int .i64 i1) ∧ z.cell? ⟨Y4, 1, none⟩ = some (.int .i64 k1) ∧ z.cell? ⟨Y4, 2, none⟩ = some (.string n1) ∧ z.cell? ⟨Y4, 3, none⟩ = some (.int .i64 d1) ∧ z.cell? ⟨Y4, 4, none⟩ = some (.int .i64 e1) ∧ z.cell? ⟨Y4, 5, none⟩ = some (.string t1)) ∧ (z.cell? ⟨Y6, 0, none⟩ = some (.int .i64 i1) ∧ z.cell? ⟨Y6, 1, none⟩ = some (.int .i64 k1) ∧ z.cell? ⟨Y6, 2, none⟩ = some (.string n1) ∧ z.cell? ⟨Y6, 3, none⟩ = some (.int .i64 d1) ∧ z.cell? ⟨Y6, 4, none⟩ = some (.int .i64 e1) ∧ z.cell? ⟨Y6, 5, none⟩ = some (.string t1)) ∧ (z.cell? ⟨Y8, 0, none⟩ = some (.int .i64 i2) ∧ z.cell? ⟨Y8, 1, none⟩ = some (.int .i64 k2) ∧ z.cell? ⟨Y8, 2, none⟩ = some (.string n2) ∧ z.cell? ⟨Y8, 3, none⟩ = some (.int .i64 d2) ∧ z.cell? ⟨Y8, 4, none⟩ = some (.int .i64 e2) ∧ z.cell? ⟨Y8, 5, none⟩ = some (.string t2)) ∧ (z.cell? ⟨Y10, 0, none⟩ = some (.int .i64 i2) ∧ z.cell? ⟨Y10, 1, none⟩ = some (.int .i64 k2) ∧ z.cell? ⟨Y10, 2, none⟩ = some (.string n2) ∧ z.cell? ⟨Y10, 3, none⟩ = some (.int .i64 d2) ∧ z.cell? ⟨Y10, 4, none⟩ = some (.int .i64 e2) ∧ z.cell? ⟨Y10, 5, none⟩ = some (.string t2))) from fun z hz => ⟨HRS.out _ (HB10.out.trans hz), (qbox6 (qbel HK4.out hz)).1, (qbox6 (qbel HK6.out hz)).1, (qbox6 (qbel HK8.out hz)).1, (qbox6 (qbel HK10.out hz)).1⟩)
      obtain ⟨nm, hnm⟩ : ∃ b, b = nameL name.data.toList := ⟨_, rfl⟩
      have HNL := Lib.hid hnm
      clear hnm
      have HBY := Lib.hid (HB1.out.trans HB10.out)
      refine wp_region_held_drew (S := fun z => ((z.cell? ⟨X, 0, none⟩ = some (.int .i64 ver) ∧ z.cell? ⟨X, 1, none⟩ = some (.int .i64 next) ∧ z.cell? ⟨X, 2, none⟩ = some (.slice p F.length c)) ∧ (z.cell? ⟨Y4, 0, none⟩ = some (.int .i64 i1) ∧ z.cell? ⟨Y4, 1, none⟩ = some (.int .i64 k1) ∧ z.cell? ⟨Y4, 2, none⟩ = some (.string n1) ∧ z.cell? ⟨Y4, 3, none⟩ = some (.int .i64 d1) ∧ z.cell? ⟨Y4, 4, none⟩ = some (.int .i64 e1) ∧ z.cell? ⟨Y4, 5, none⟩ = some (.string t1)) ∧ (z.cell? ⟨Y6, 0, none⟩ = some (.int .i64 i1) ∧ z.cell? ⟨Y6, 1, none⟩ = some (.int .i64 k1) ∧ z.cell? ⟨Y6, 2, none⟩ = some (.string n1) ∧ z.cell? ⟨Y6, 3, none⟩ = some (.int .i64 d1) ∧ z.cell? ⟨Y6, 4, none⟩ = some (.int .i64 e1) ∧ z.cell? ⟨Y6, 5, none⟩ = some (.string t1)) ∧ (z.cell? ⟨Y8, 0, none⟩ = some (.int .i64 i2) ∧ z.cell? ⟨Y8, 1, none⟩ = some (.int .i64 k2) ∧ z.cell? ⟨Y8, 2, none⟩ = some (.string n2) ∧ z.cell? ⟨Y8, 3, none⟩ = some (.int .i64 d2) ∧ z.cell? ⟨Y8, 4, none⟩ = some (.int .i64 e2) ∧ z.cell? ⟨Y8, 5, none⟩ = some (.string t2)) ∧ (z.cell? ⟨Y10, 0, none⟩ = some (.int .i64 i2) ∧ z.cell? ⟨Y10, 1, none⟩ = some (.int .i64 k2) ∧ z.cell? ⟨Y10, 2, none⟩ = some (.string n2) ∧ z.cell? ⟨Y10, 3, none⟩ = some (.int .i64 d2) ∧ z.cell? ⟨Y10, 4, none⟩ = some (.int .i64 e2) ∧ z.cell? ⟨Y10, 5, none⟩ = some (.string t2)))) (by kernel_rfl) (HS.out _ (Bel.refl _).drew) (fun hHeld => ?_)
      have HD := Lib.hid ((Bel.refl y).drew)
      refine wpAnyH_take (i := 0) (oi := { dst := some 59, op := Op.move (Operand.tmp 1), type := 9, pos := "law.go:85", after := #[], guard := none }) (v := ?_) rfl (by kernel_rfl) (by kernel_rfl) (by kernel_rfl) (fun _ _ _ h => h) (Or.inl ⟨by rfl, ?_⟩) (by assumption) ?_
      rotate_left
      · (intro w hSw; (try dsimp only at hSw); first | (go_simp; done) | (go_simp; with_reducible rfl))
      try simp only [Act.put, List.setIfInBounds_toArray, List.set_cons_zero, List.set_cons_succ]
      refine wpAnyH_take (i := 2) (oi := { dst := some 61, op := Op.move (Operand.tmp 1), type := 9, pos := "law.go:85", after := #[], guard := none }) (v := ?_) rfl (by kernel_rfl) (by kernel_rfl) (by kernel_rfl) (fun _ _ _ h => h) (Or.inl ⟨by rfl, ?_⟩) (by assumption) ?_
      rotate_left
      · (intro w hSw; (try dsimp only at hSw); first | (go_simp; done) | (go_simp; with_reducible rfl))
      try simp only [Act.put, List.setIfInBounds_toArray, List.set_cons_zero, List.set_cons_succ]
      refine wpAnyH_ready (rs := [1]) (by kernel_rfl) (by simp) ?_
      refine AllReadyH.cons (o := { dst := some 60, op := Op.call { callee := Callee.value (Operand.func 15), args := #[Operand.tmp 59], argTypes := #[9] }, type := 4, pos := "law.go:85", after := #[{ on := 0, ground := Ground.data }], guard := none }) rfl (fun K hK => ?_) AllReadyH.nil
      go_simp
      refine (pname14_any name _ HNM.out).mono ?_
      rintro e z1 ⟨rfl, hb⟩
      rw [← HNL.out]
      have HZ1 := Lib.hid (show Bel y z1 from HD.out.trans hb.bel)
      clear hb
      dsimp only
      refine hK.out _ _ (HS.out _ HZ1.out) (fun hHeld => ?_)
      clear hK K
      try simp only [Act.put, List.setIfInBounds_toArray, List.set_cons_zero, List.set_cons_succ]
      refine wpAnyH_ready (rs := [3]) (by kernel_rfl) (by simp) ?_
      refine AllReadyH.cons (o := { dst := some 62, op := Op.call { callee := Callee.value (Operand.func 16), args := #[Operand.tmp 61], argTypes := #[9] }, type := 4, pos := "law.go:85", after := #[{ on := 2, ground := Ground.data }, { on := 1, ground := Ground.chain }], guard := none }) rfl (fun K hK => ?_) AllReadyH.nil
      go_simp
      refine (refname_any name _ HNM.out).mono ?_
      rintro e z2 ⟨rfl, hb⟩
      rw [← HNL.out]
      have HZ2 := Lib.hid (show Bel y z2 from HZ1.out.trans hb.bel)
      clear hb
      dsimp only
      refine hK.out _ _ (HS.out _ HZ2.out) (fun hHeld => ?_)
      clear hK K
      try simp only [Act.put, List.setIfInBounds_toArray, List.set_cons_zero, List.set_cons_succ]
      refine wpAnyH_take (i := 4) (oi := { dst := some 63, op := Op.binOp BinOp.eql 4 (Operand.tmp 60) (Operand.tmp 62) 4, type := 4, pos := "law.go:85", after := #[{ on := 1, ground := Ground.data }, { on := 3, ground := Ground.data }], guard := none }) (v := ?_) rfl (by kernel_rfl) (by kernel_rfl) (by kernel_rfl) (fun _ _ _ h => h) (Or.inl ⟨by rfl, ?_⟩) (by assumption) ?_
      rotate_left
      · (intro w hSw; (try dsimp only at hSw); first | (go_simp; done) | (go_simp; with_reducible rfl))
      try simp only [Act.put, List.setIfInBounds_toArray, List.set_cons_zero, List.set_cons_succ]
      refine wpAnyH_take (i := 5) (oi := { dst := some 64, op := Op.move (Operand.tmp 63), type := 4, pos := "law.go:85", after := #[{ on := 4, ground := Ground.data }, { on := 3, ground := Ground.chain }], guard := none }) (v := ?_) rfl (by kernel_rfl) (by kernel_rfl) (by kernel_rfl) (fun _ _ _ h => h) (Or.inl ⟨by rfl, ?_⟩) (by assumption) ?_
      rotate_left
      · (intro w hSw; (try dsimp only at hSw); first | (go_simp; done) | (go_simp; with_reducible rfl))
      try simp only [Act.put, List.setIfInBounds_toArray, List.set_cons_zero, List.set_cons_succ]
      refine wpAnyH_take (i := 6) (oi := { dst := some 65, op := Op.load 24 (Operand.tmp 4), type := 24, pos := "law.go:85", after := #[{ on := 5, ground := Ground.guard }], guard := some (5, true) }) (v := ?_) rfl (by kernel_rfl) (by kernel_rfl) (by kernel_rfl) (fun _ _ _ h => h) (Or.inl ⟨by rfl, ?_⟩) (by assumption) ?_
      rotate_left
      · (intro w hSw; (try dsimp only at hSw); first | (go_simp; done) | (go_simp; with_reducible rfl))
      try simp only [Act.put, List.setIfInBounds_toArray, List.set_cons_zero, List.set_cons_succ]
      refine wpAnyH_take (i := 8) (oi := { dst := some 67, op := Op.load 24 (Operand.tmp 4), type := 24, pos := "law.go:85", after := #[{ on := 5, ground := Ground.guard }], guard := some (5, true) }) (v := ?_) rfl (by kernel_rfl) (by kernel_rfl) (by kernel_rfl) (fun _ _ _ h => h) (Or.inl ⟨by rfl, ?_⟩) (by assumption) ?_
      rotate_left
      · (intro w hSw; (try dsimp only at hSw); first | (go_simp; done) | (go_simp; with_reducible rfl))
      try simp only [Act.put, List.setIfInBounds_toArray, List.set_cons_zero, List.set_cons_succ]
      refine wpAnyH_ready (rs := [7]) (by kernel_rfl) (by simp) ?_
      refine AllReadyH.cons (o := { dst := some 66, op := Op.call { callee := Callee.value (Operand.func 17), args := #[Operand.tmp 65], argTypes := #[24] }, type := 4, pos := "law.go:85", after := #[{ on := 6, ground := Ground.data }, { on := 5, ground := Ground.chain }, { on := 5, ground := Ground.guard }], guard := some (5, true) }) rfl (fun K hK => ?_) AllReadyH.nil
      go_simp
      refine (pright14_any ver next p c F _ (H.out.bel (HBY.out.trans HZ2.out)) (by unfold maxLen; exact HFM.out) HFC.out HV.out).mono ?_
      rintro e z3 ⟨rfl, hb⟩
      have HZ3 := Lib.hid (show Bel y z3 from HZ2.out.trans hb)
      clear hb
      dsimp only
      refine hK.out _ _ (HS.out _ HZ3.out) (fun hHeld => ?_)
      clear hK K
      try simp only [Act.put, List.setIfInBounds_toArray, List.set_cons_zero, List.set_cons_succ]
      refine wpAnyH_ready (rs := [9]) (by kernel_rfl) (by simp) ?_
      refine AllReadyH.cons (o := { dst := some 68, op := Op.call { callee := Callee.value (Operand.func 18), args := #[Operand.tmp 67], argTypes := #[24] }, type := 4, pos := "law.go:85", after := #[{ on := 8, ground := Ground.data }, { on := 7, ground := Ground.chain }, { on := 5, ground := Ground.guard }], guard := some (5, true) }) rfl (fun K hK => ?_) AllReadyH.nil
      go_simp
      refine (rright14_any ver next p c F _ (H.out.bel (HBY.out.trans HZ3.out)) (by unfold maxLen; exact HFM.out) HV.out).mono ?_
      rintro e z4 ⟨rfl, hb⟩
      have HZ4 := Lib.hid (show Bel y z4 from HZ3.out.trans hb)
      clear hb
      dsimp only
      refine hK.out _ _ (HS.out _ HZ4.out) (fun hHeld => ?_)
      clear hK K
      try simp only [Act.put, List.setIfInBounds_toArray, List.set_cons_zero, List.set_cons_succ]
      refine wpAnyH_take (i := 10) (oi := { dst := some 69, op := Op.binOp BinOp.eql 4 (Operand.tmp 66) (Operand.tmp 68) 4, type := 4, pos := "law.go:85", after := #[{ on := 7, ground := Ground.data }, { on := 9, ground := Ground.data }, { on := 5, ground := Ground.guard }], guard := some (5, true) }) (v := ?_) rfl (by kernel_rfl) (by kernel_rfl) (by kernel_rfl) (fun _ _ _ h => h) (Or.inl ⟨by rfl, ?_⟩) (by assumption) ?_
      rotate_left
      · (intro w hSw; (try dsimp only at hSw); first | (go_simp; done) | (go_simp; with_reducible rfl))
      try simp only [Act.put, List.setIfInBounds_toArray, List.set_cons_zero, List.set_cons_succ]
      refine wpAnyH_take (i := 11) (oi := { dst := some 70, op := Op.pick (Operand.tmp 64) (Operand.tmp 69) (Operand.const (Value.bool false)), type := 4, pos := "law.go:85", after := #[{ on := 5, ground := Ground.data }, { on := 10, ground := Ground.data }], guard := none }) (v := ?_) rfl (by kernel_rfl) (by kernel_rfl) (by kernel_rfl) (fun _ _ _ h => h) (Or.inl ⟨by rfl, ?_⟩) (by assumption) ?_
      rotate_left
      · (intro w hSw; (try dsimp only at hSw); first | (go_simp; done) | (go_simp; with_reducible rfl))
      try simp only [Act.put, List.setIfInBounds_toArray, List.set_cons_zero, List.set_cons_succ]
      refine wpAnyH_take (i := 12) (oi := { dst := some 71, op := Op.move (Operand.tmp 70), type := 4, pos := "law.go:85", after := #[{ on := 11, ground := Ground.data }, { on := 9, ground := Ground.chain }], guard := none }) (v := ?_) rfl (by kernel_rfl) (by kernel_rfl) (by kernel_rfl) (fun _ _ _ h => h) (Or.inl ⟨by rfl, ?_⟩) (by assumption) ?_
      rotate_left
      · (intro w hSw; (try dsimp only at hSw); first | (go_simp; done) | (go_simp; with_reducible rfl))
      try simp only [Act.put, List.setIfInBounds_toArray, List.set_cons_zero, List.set_cons_succ]
      refine wpAnyH_take (i := 13) (oi := { dst := some 72, op := Op.load 31 (Operand.tmp 11), type := 31, pos := "law.go:85", after := #[{ on := 12, ground := Ground.guard }], guard := some (12, true) }) (v := ?_) rfl (by kernel_rfl) (by kernel_rfl) (by kernel_rfl) (fun _ _ _ h => h) (Or.inl ⟨by rfl, ?_⟩) (by assumption) ?_
      rotate_left
      · (intro w hSw; (try dsimp only at hSw); first | (go_simp; done) | (go_simp; with_reducible rfl))
      try simp only [Act.put, List.setIfInBounds_toArray, List.set_cons_zero, List.set_cons_succ]
      refine wpAnyH_take (i := 14) (oi := { dst := some 73, op := Op.load 31 (Operand.tmp 13), type := 31, pos := "law.go:85", after := #[{ on := 12, ground := Ground.guard }], guard := some (12, true) }) (v := ?_) rfl (by kernel_rfl) (by kernel_rfl) (by kernel_rfl) (fun _ _ _ h => h) (Or.inl ⟨by rfl, ?_⟩) (by assumption) ?_
      rotate_left
      · (intro w hSw; (try dsimp only at hSw); first | (go_simp; done) | (go_simp; with_reducible rfl))
      try simp only [Act.put, List.setIfInBounds_toArray, List.set_cons_zero, List.set_cons_succ]
      refine wpAnyH_take (i := 15) (oi := { dst := some 74, op := Op.binOp BinOp.eql 31 (Operand.tmp 72) (Operand.tmp 73) 31, type := 4, pos := "law.go:85", after := #[{ on := 13, ground := Ground.data }, { on := 14, ground := Ground.data }, { on := 12, ground := Ground.guard }], guard := some (12, true) }) (v := ?_) rfl (by kernel_rfl) (by kernel_rfl) (by kernel_rfl) (fun _ _ _ h => h) (Or.inl ⟨by rfl, ?_⟩) (by assumption) ?_
      rotate_left
      · (intro w hSw; (try dsimp only at hSw); first | (go_simp; done) | (go_simp; with_reducible rfl))
      try simp only [Act.put, List.setIfInBounds_toArray, List.set_cons_zero, List.set_cons_succ]
      refine wpAnyH_take (i := 16) (oi := { dst := some 75, op := Op.pick (Operand.tmp 71) (Operand.tmp 74) (Operand.const (Value.bool false)), type := 4, pos := "law.go:85", after := #[{ on := 12, ground := Ground.data }, { on := 15, ground := Ground.data }], guard := none }) (v := ?_) rfl (by kernel_rfl) (by kernel_rfl) (by kernel_rfl) (fun _ _ _ h => h) (Or.inl ⟨by rfl, ?_⟩) (by assumption) ?_
      rotate_left
      · (intro w hSw; (try dsimp only at hSw); first | (go_simp; done) | (go_simp; with_reducible rfl))
      try simp only [Act.put, List.setIfInBounds_toArray, List.set_cons_zero, List.set_cons_succ]
      refine wpAnyH_take (i := 17) (oi := { dst := some 76, op := Op.move (Operand.tmp 75), type := 4, pos := "law.go:85", after := #[{ on := 16, ground := Ground.data }, { on := 12, ground := Ground.chain }], guard := none }) (v := ?_) rfl (by kernel_rfl) (by kernel_rfl) (by kernel_rfl) (fun _ _ _ h => h) (Or.inl ⟨by rfl, ?_⟩) (by assumption) ?_
      rotate_left
      · (intro w hSw; (try dsimp only at hSw); first | (go_simp; done) | (go_simp; with_reducible rfl))
      try simp only [Act.put, List.setIfInBounds_toArray, List.set_cons_zero, List.set_cons_succ]
      refine wpAnyH_take (i := 18) (oi := { dst := some 77, op := Op.move (Operand.tmp 12), type := 4, pos := "law.go:85", after := #[{ on := 17, ground := Ground.guard }], guard := some (17, true) }) (v := ?_) rfl (by kernel_rfl) (by kernel_rfl) (by kernel_rfl) (fun _ _ _ h => h) (Or.inl ⟨by rfl, ?_⟩) (by assumption) ?_
      rotate_left
      · (intro w hSw; (try dsimp only at hSw); first | (go_simp; done) | (go_simp; with_reducible rfl))
      try simp only [Act.put, List.setIfInBounds_toArray, List.set_cons_zero, List.set_cons_succ]
      refine wpAnyH_take (i := 19) (oi := { dst := some 78, op := Op.move (Operand.tmp 14), type := 4, pos := "law.go:85", after := #[{ on := 17, ground := Ground.guard }], guard := some (17, true) }) (v := ?_) rfl (by kernel_rfl) (by kernel_rfl) (by kernel_rfl) (fun _ _ _ h => h) (Or.inl ⟨by rfl, ?_⟩) (by assumption) ?_
      rotate_left
      · (intro w hSw; (try dsimp only at hSw); first | (go_simp; done) | (go_simp; with_reducible rfl))
      try simp only [Act.put, List.setIfInBounds_toArray, List.set_cons_zero, List.set_cons_succ]
      refine wpAnyH_take (i := 20) (oi := { dst := some 79, op := Op.binOp BinOp.eql 4 (Operand.tmp 77) (Operand.tmp 78) 4, type := 4, pos := "law.go:85", after := #[{ on := 18, ground := Ground.data }, { on := 19, ground := Ground.data }, { on := 17, ground := Ground.guard }], guard := some (17, true) }) (v := ?_) rfl (by kernel_rfl) (by kernel_rfl) (by kernel_rfl) (fun _ _ _ h => h) (Or.inl ⟨by rfl, ?_⟩) (by assumption) ?_
      rotate_left
      · (intro w hSw; (try dsimp only at hSw); first | (go_simp; done) | (go_simp; with_reducible rfl))
      try simp only [Act.put, List.setIfInBounds_toArray, List.set_cons_zero, List.set_cons_succ]
      refine wpAnyH_take (i := 21) (oi := { dst := some 80, op := Op.pick (Operand.tmp 76) (Operand.tmp 79) (Operand.const (Value.bool false)), type := 4, pos := "law.go:85", after := #[{ on := 17, ground := Ground.data }, { on := 20, ground := Ground.data }], guard := none }) (v := ?_) rfl (by kernel_rfl) (by kernel_rfl) (by kernel_rfl) (fun _ _ _ h => h) (Or.inl ⟨by rfl, ?_⟩) (by assumption) ?_
      rotate_left
      · (intro w hSw; (try dsimp only at hSw); first | (go_simp; done) | (go_simp; with_reducible rfl))
      try simp only [Act.put, List.setIfInBounds_toArray, List.set_cons_zero, List.set_cons_succ]
      refine wpAnyH_take (i := 22) (oi := { dst := some 81, op := Op.move (Operand.tmp 80), type := 4, pos := "law.go:85", after := #[{ on := 21, ground := Ground.data }, { on := 17, ground := Ground.chain }], guard := none }) (v := ?_) rfl (by kernel_rfl) (by kernel_rfl) (by kernel_rfl) (fun _ _ _ h => h) (Or.inl ⟨by rfl, ?_⟩) (by assumption) ?_
      rotate_left
      · (intro w hSw; (try dsimp only at hSw); first | (go_simp; done) | (go_simp; with_reducible rfl))
      try simp only [Act.put, List.setIfInBounds_toArray, List.set_cons_zero, List.set_cons_succ]
      refine wpAnyH_take (i := 23) (oi := { dst := some 82, op := Op.load 31 (Operand.tmp 15), type := 31, pos := "law.go:85", after := #[{ on := 22, ground := Ground.guard }], guard := some (22, true) }) (v := ?_) rfl (by kernel_rfl) (by kernel_rfl) (by kernel_rfl) (fun _ _ _ h => h) (Or.inl ⟨by rfl, ?_⟩) (by assumption) ?_
      rotate_left
      · (intro w hSw; (try dsimp only at hSw); first | (go_simp; done) | (go_simp; with_reducible rfl))
      try simp only [Act.put, List.setIfInBounds_toArray, List.set_cons_zero, List.set_cons_succ]
      refine wpAnyH_take (i := 24) (oi := { dst := some 83, op := Op.load 31 (Operand.tmp 17), type := 31, pos := "law.go:85", after := #[{ on := 22, ground := Ground.guard }], guard := some (22, true) }) (v := ?_) rfl (by kernel_rfl) (by kernel_rfl) (by kernel_rfl) (fun _ _ _ h => h) (Or.inl ⟨by rfl, ?_⟩) (by assumption) ?_
      rotate_left
      · (intro w hSw; (try dsimp only at hSw); first | (go_simp; done) | (go_simp; with_reducible rfl))
      try simp only [Act.put, List.setIfInBounds_toArray, List.set_cons_zero, List.set_cons_succ]
      refine wpAnyH_take (i := 25) (oi := { dst := some 84, op := Op.binOp BinOp.eql 31 (Operand.tmp 82) (Operand.tmp 83) 31, type := 4, pos := "law.go:85", after := #[{ on := 23, ground := Ground.data }, { on := 24, ground := Ground.data }, { on := 22, ground := Ground.guard }], guard := some (22, true) }) (v := ?_) rfl (by kernel_rfl) (by kernel_rfl) (by kernel_rfl) (fun _ _ _ h => h) (Or.inl ⟨by rfl, ?_⟩) (by assumption) ?_
      rotate_left
      · (intro w hSw; (try dsimp only at hSw); first | (go_simp; done) | (go_simp; with_reducible rfl))
      try simp only [Act.put, List.setIfInBounds_toArray, List.set_cons_zero, List.set_cons_succ]
      refine wpAnyH_take (i := 26) (oi := { dst := some 85, op := Op.pick (Operand.tmp 81) (Operand.tmp 84) (Operand.const (Value.bool false)), type := 4, pos := "law.go:85", after := #[{ on := 22, ground := Ground.data }, { on := 25, ground := Ground.data }], guard := none }) (v := ?_) rfl (by kernel_rfl) (by kernel_rfl) (by kernel_rfl) (fun _ _ _ h => h) (Or.inl ⟨by rfl, ?_⟩) (by assumption) ?_
      rotate_left
      · (intro w hSw; (try dsimp only at hSw); first | (go_simp; done) | (go_simp; with_reducible rfl))
      try simp only [Act.put, List.setIfInBounds_toArray, List.set_cons_zero, List.set_cons_succ]
      refine wpAnyH_take (i := 27) (oi := { dst := some 86, op := Op.move (Operand.tmp 85), type := 4, pos := "law.go:85", after := #[{ on := 26, ground := Ground.data }, { on := 22, ground := Ground.chain }], guard := none }) (v := ?_) rfl (by kernel_rfl) (by kernel_rfl) (by kernel_rfl) (fun _ _ _ h => h) (Or.inl ⟨by rfl, ?_⟩) (by assumption) ?_
      rotate_left
      · (intro w hSw; (try dsimp only at hSw); first | (go_simp; done) | (go_simp; with_reducible rfl))
      try simp only [Act.put, List.setIfInBounds_toArray, List.set_cons_zero, List.set_cons_succ]
      refine wpAnyH_take (i := 28) (oi := { dst := some 87, op := Op.move (Operand.tmp 16), type := 4, pos := "law.go:85", after := #[{ on := 27, ground := Ground.guard }], guard := some (27, true) }) (v := ?_) rfl (by kernel_rfl) (by kernel_rfl) (by kernel_rfl) (fun _ _ _ h => h) (Or.inl ⟨by rfl, ?_⟩) (by assumption) ?_
      rotate_left
      · (intro w hSw; (try dsimp only at hSw); first | (go_simp; done) | (go_simp; with_reducible rfl))
      try simp only [Act.put, List.setIfInBounds_toArray, List.set_cons_zero, List.set_cons_succ]
      refine wpAnyH_take (i := 29) (oi := { dst := some 88, op := Op.move (Operand.tmp 18), type := 4, pos := "law.go:85", after := #[{ on := 27, ground := Ground.guard }], guard := some (27, true) }) (v := ?_) rfl (by kernel_rfl) (by kernel_rfl) (by kernel_rfl) (fun _ _ _ h => h) (Or.inl ⟨by rfl, ?_⟩) (by assumption) ?_
      rotate_left
      · (intro w hSw; (try dsimp only at hSw); first | (go_simp; done) | (go_simp; with_reducible rfl))
      try simp only [Act.put, List.setIfInBounds_toArray, List.set_cons_zero, List.set_cons_succ]
      refine wpAnyH_take (i := 30) (oi := { dst := some 89, op := Op.binOp BinOp.eql 4 (Operand.tmp 87) (Operand.tmp 88) 4, type := 4, pos := "law.go:85", after := #[{ on := 28, ground := Ground.data }, { on := 29, ground := Ground.data }, { on := 27, ground := Ground.guard }], guard := some (27, true) }) (v := ?_) rfl (by kernel_rfl) (by kernel_rfl) (by kernel_rfl) (fun _ _ _ h => h) (Or.inl ⟨by rfl, ?_⟩) (by assumption) ?_
      rotate_left
      · (intro w hSw; (try dsimp only at hSw); first | (go_simp; done) | (go_simp; with_reducible rfl))
      try simp only [Act.put, List.setIfInBounds_toArray, List.set_cons_zero, List.set_cons_succ]
      refine wpAnyH_take (i := 31) (oi := { dst := some 90, op := Op.pick (Operand.tmp 86) (Operand.tmp 89) (Operand.const (Value.bool false)), type := 4, pos := "law.go:85", after := #[{ on := 27, ground := Ground.data }, { on := 30, ground := Ground.data }], guard := none }) (v := ?_) rfl (by kernel_rfl) (by kernel_rfl) (by kernel_rfl) (fun _ _ _ h => h) (Or.inl ⟨by rfl, ?_⟩) (by assumption) ?_
      rotate_left
      · (intro w hSw; (try dsimp only at hSw); first | (go_simp; done) | (go_simp; with_reducible rfl))
      try simp only [Act.put, List.setIfInBounds_toArray, List.set_cons_zero, List.set_cons_succ]
      refine wpAnyH_take (i := 32) (oi := { dst := some 91, op := Op.move (Operand.tmp 90), type := 4, pos := "law.go:85", after := #[{ on := 31, ground := Ground.data }, { on := 27, ground := Ground.chain }], guard := none }) (v := ?_) rfl (by kernel_rfl) (by kernel_rfl) (by kernel_rfl) (fun _ _ _ h => h) (Or.inl ⟨by rfl, ?_⟩) (by assumption) ?_
      rotate_left
      · (intro w hSw; (try dsimp only at hSw); first | (go_simp; done) | (go_simp; with_reducible rfl))
      try simp only [Act.put, List.setIfInBounds_toArray, List.set_cons_zero, List.set_cons_succ]
      refine wpAnyH_take (i := 33) (oi := { dst := some 92, op := Op.load 24 (Operand.tmp 4), type := 24, pos := "law.go:85", after := #[{ on := 32, ground := Ground.guard }], guard := some (32, true) }) (v := ?_) rfl (by kernel_rfl) (by kernel_rfl) (by kernel_rfl) (fun _ _ _ h => h) (Or.inl ⟨by rfl, ?_⟩) (by assumption) ?_
      rotate_left
      · (intro w hSw; (try dsimp only at hSw); first | (go_simp; done) | (go_simp; with_reducible rfl))
      try simp only [Act.put, List.setIfInBounds_toArray, List.set_cons_zero, List.set_cons_succ]
      refine wpAnyH_take (i := 34) (oi := { dst := some 93, op := Op.move (Operand.tmp 3), type := 25, pos := "law.go:85", after := #[{ on := 32, ground := Ground.guard }], guard := some (32, true) }) (v := ?_) rfl (by kernel_rfl) (by kernel_rfl) (by kernel_rfl) (fun _ _ _ h => h) (Or.inl ⟨by rfl, ?_⟩) (by assumption) ?_
      rotate_left
      · (intro w hSw; (try dsimp only at hSw); first | (go_simp; done) | (go_simp; with_reducible rfl))
      try simp only [Act.put, List.setIfInBounds_toArray, List.set_cons_zero, List.set_cons_succ]
      refine wpAnyH_take (i := 36) (oi := { dst := some 95, op := Op.load 24 (Operand.tmp 4), type := 24, pos := "law.go:85", after := #[{ on := 32, ground := Ground.guard }], guard := some (32, true) }) (v := ?_) rfl (by kernel_rfl) (by kernel_rfl) (by kernel_rfl) (fun _ _ _ h => h) (Or.inl ⟨by rfl, ?_⟩) (by assumption) ?_
      rotate_left
      · (intro w hSw; (try dsimp only at hSw); first | (go_simp; done) | (go_simp; with_reducible rfl))
      try simp only [Act.put, List.setIfInBounds_toArray, List.set_cons_zero, List.set_cons_succ]
      refine wpAnyH_take (i := 37) (oi := { dst := some 96, op := Op.move (Operand.tmp 3), type := 25, pos := "law.go:85", after := #[{ on := 32, ground := Ground.guard }], guard := some (32, true) }) (v := ?_) rfl (by kernel_rfl) (by kernel_rfl) (by kernel_rfl) (fun _ _ _ h => h) (Or.inl ⟨by rfl, ?_⟩) (by assumption) ?_
      rotate_left
      · (intro w hSw; (try dsimp only at hSw); first | (go_simp; done) | (go_simp; with_reducible rfl))
      try simp only [Act.put, List.setIfInBounds_toArray, List.set_cons_zero, List.set_cons_succ]
      refine wpAnyH_ready (rs := [35]) (by kernel_rfl) (by simp) ?_
      refine AllReadyH.cons (o := { dst := some 94, op := Op.call { callee := Callee.value (Operand.func 19), args := #[Operand.tmp 92, Operand.tmp 93], argTypes := #[24, 25] }, type := 37, pos := "law.go:85", after := #[{ on := 33, ground := Ground.data }, { on := 34, ground := Ground.data }, { on := 32, ground := Ground.chain }, { on := 32, ground := Ground.guard }], guard := some (32, true) }) rfl (fun K hK => ?_) AllReadyH.nil
      go_simp
      refine (pfits14_any ver next p c F q d L _ (H.out.bel (HBY.out.trans HZ4.out)) (by unfold maxLen; exact HFM.out) (H'.out.bel (HBY.out.trans HZ4.out)) (by unfold maxLen; exact HLM.out) HW.out).mono ?_
      rintro e z5 ⟨rfl, hb⟩
      have HZ5 := Lib.hid (show Bel y z5 from HZ4.out.trans hb)
      clear hb
      dsimp only
      refine hK.out _ _ (HS.out _ HZ5.out) (fun hHeld => ?_)
      clear hK K
      try simp only [Act.put, List.setIfInBounds_toArray, List.set_cons_zero, List.set_cons_succ]
      refine wpAnyH_ready (rs := [38]) (by kernel_rfl) (by simp) ?_
      refine AllReadyH.cons (o := { dst := some 97, op := Op.call { callee := Callee.value (Operand.func 20), args := #[Operand.tmp 95, Operand.tmp 96], argTypes := #[24, 25] }, type := 37, pos := "law.go:85", after := #[{ on := 36, ground := Ground.data }, { on := 37, ground := Ground.data }, { on := 35, ground := Ground.chain }, { on := 32, ground := Ground.guard }], guard := some (32, true) }) rfl (fun K hK => ?_) AllReadyH.nil
      go_simp
      refine (rfits14_any ver next p c F q d L _ (H.out.bel (HBY.out.trans HZ5.out)) (by unfold maxLen; exact HFM.out) (H'.out.bel (HBY.out.trans HZ5.out)) (by unfold maxLen; exact HLM.out) HW.out).mono ?_
      rintro e z6 ⟨rfl, hb⟩
      have HZ6 := Lib.hid (show Bel y z6 from HZ5.out.trans hb)
      clear hb
      dsimp only
      refine hK.out _ _ (HS.out _ HZ6.out) (fun hHeld => ?_)
      clear hK K
      try simp only [Act.put, List.setIfInBounds_toArray, List.set_cons_zero, List.set_cons_succ]
      refine wpAnyH_take (i := 39) (oi := { dst := some 98, op := Op.binOp BinOp.eql 37 (Operand.tmp 94) (Operand.tmp 97) 37, type := 4, pos := "law.go:85", after := #[{ on := 35, ground := Ground.data }, { on := 38, ground := Ground.data }, { on := 32, ground := Ground.guard }], guard := some (32, true) }) (v := ?_) rfl (by kernel_rfl) (by kernel_rfl) (by kernel_rfl) (fun _ _ _ h => h) (Or.inl ⟨by rfl, ?_⟩) (by assumption) ?_
      rotate_left
      · (intro w hSw; (try dsimp only at hSw); first | (go_simp; done) | (go_simp; with_reducible rfl))
      try simp only [Act.put, List.setIfInBounds_toArray, List.set_cons_zero, List.set_cons_succ]
      refine wpAnyH_take (i := 40) (oi := { dst := some 99, op := Op.pick (Operand.tmp 91) (Operand.tmp 98) (Operand.const (Value.bool false)), type := 4, pos := "law.go:85", after := #[{ on := 32, ground := Ground.data }, { on := 39, ground := Ground.data }], guard := none }) (v := ?_) rfl (by kernel_rfl) (by kernel_rfl) (by kernel_rfl) (fun _ _ _ h => h) (Or.inl ⟨by rfl, ?_⟩) (by assumption) ?_
      rotate_left
      · (intro w hSw; (try dsimp only at hSw); first | (go_simp; done) | (go_simp; with_reducible rfl))
      try simp only [Act.put, List.setIfInBounds_toArray, List.set_cons_zero, List.set_cons_succ]
      refine wpAnyH_take (i := 41) (oi := { dst := some 8, op := Op.assign (Operand.tmp 99), type := 4, pos := "law.go:85", after := #[{ on := 40, ground := Ground.data }, { on := 38, ground := Ground.chain }, { on := 0, ground := Ground.phase }, { on := 1, ground := Ground.phase }, { on := 2, ground := Ground.phase }, { on := 3, ground := Ground.phase }, { on := 4, ground := Ground.phase }, { on := 5, ground := Ground.phase }, { on := 6, ground := Ground.phase }, { on := 7, ground := Ground.phase }, { on := 8, ground := Ground.phase }, { on := 9, ground := Ground.phase }, { on := 10, ground := Ground.phase }, { on := 11, ground := Ground.phase }, { on := 12, ground := Ground.phase }, { on := 13, ground := Ground.phase }, { on := 14, ground := Ground.phase }, { on := 15, ground := Ground.phase }, { on := 16, ground := Ground.phase }, { on := 17, ground := Ground.phase }, { on := 18, ground := Ground.phase }, { on := 19, ground := Ground.phase }, { on := 20, ground := Ground.phase }, { on := 21, ground := Ground.phase }, { on := 22, ground := Ground.phase }, { on := 23, ground := Ground.phase }, { on := 24, ground := Ground.phase }, { on := 25, ground := Ground.phase }, { on := 26, ground := Ground.phase }, { on := 27, ground := Ground.phase }, { on := 28, ground := Ground.phase }, { on := 29, ground := Ground.phase }, { on := 30, ground := Ground.phase }, { on := 31, ground := Ground.phase }, { on := 32, ground := Ground.phase }, { on := 33, ground := Ground.phase }, { on := 34, ground := Ground.phase }, { on := 35, ground := Ground.phase }, { on := 36, ground := Ground.phase }, { on := 37, ground := Ground.phase }, { on := 38, ground := Ground.phase }, { on := 39, ground := Ground.phase }, { on := 40, ground := Ground.phase }], guard := none }) (v := ?_) rfl (by kernel_rfl) (by kernel_rfl) (by kernel_rfl) (fun _ _ _ h => h) (Or.inl ⟨by rfl, ?_⟩) (by assumption) ?_
      rotate_left
      · (intro w hSw; (try dsimp only at hSw); first | (go_simp; done) | (go_simp; with_reducible rfl))
      try simp only [Act.put, List.setIfInBounds_toArray, List.set_cons_zero, List.set_cons_succ]
      refine wpAnyH_done (by kernel_rfl) ?_ _
      clear hHeld
      go_wp2_with (fail)
      go_ret
      exact ⟨rfl, HBY.out.trans HZ6.out⟩
    · have hl' : (100 : Int) < (name.size : Int) := by omega
      clear hl
      go_wp2_with (fail)
      go_ret
      exact ⟨rfl, HB1.out.trans HB3.out⟩
end Go.Proofs.YtbalkchphijehaaDoor
