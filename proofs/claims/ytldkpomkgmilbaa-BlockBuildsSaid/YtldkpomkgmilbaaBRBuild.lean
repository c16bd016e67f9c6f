/- moultref8.Build: the document's encoding of pairs, or an error. -/
import Derived.Test.YtldkpomkgmilbaaBBuild
set_option linter.unusedSimpArgs false
set_option linter.unusedVariables false
namespace Go.Proofs.Ytldkpomkgmilbaa
open Go.RowKit Go.Deep

theorem cell_lat {w x : World} {p : Addr} {v : Value} (hb : Bel w x) (h : w.cell? p = some v) : x.cell? p = some v := (Below.cell hb (block_of_cell h)).trans h
theorem ba_size (s : ByteArray) : s.size = s.data.toList.length := rfl
theorem enc_bound (L : List PB) (hs : smallP 100000 L) : ∀ k, k ≤ L.length → (encL [] ((prs L).take k)).length ≤ k * 200027
  | 0, _ => by simp [encL]
  | k + 1, h => by
    have ih := enc_bound L hs k (by omega)
    have h1 := one_le (lastK [] ((prs L).take k)) L[k].pr
    obtain ⟨s1, s2⟩ := hs k (by omega)
    have e1 : L[k].pr.k.length = L[k].k.size := rfl
    have e2 : L[k].pr.v.length = L[k].v.size := rfl
    rw [enc_take_succ L k (by omega), List.length_append]; omega
def RBuildRel (L : List PB) (w : World) (bv pv i : Value) (x : World) : Prop :=
  ∃ (k : Nat) (q : ByteArray), k ≤ L.length ∧ i = .int .i64 k ∧ pv = .string q ∧ q.data.toList = lastK [] ((prs L).take k) ∧ q.size ≤ 1000000 ∧ Own w.heap.size x bv (encL [] ((prs L).take k)) ∧ Bel w x

set_option maxHeartbeats 4000000 in
set_option maxRecDepth 20000 in
theorem rbuild_any (p : Option Addr) (cap : Nat) (L : List PB) (w : World) (h : PairsAt w p L) (hL : L.length ≤ 1000) (hs : smallP 100000 L) :
    Calls Try.prog 12 #[.slice p L.length cap] w (BuildPost L w) := by
  have H := Lib.hid h
  have HSM := Lib.hid hs
  have HBD := Lib.hid (enc_bound L hs)
  go_enter Try.func12, Try.ntmps12
  go_wp2_with (fail)
  refine (rises_any p cap L w h (by omega) (fun i hi => by have := hs i hi; omega)).mono ?_
  rintro e w1 ⟨rfl, hw1⟩
  have HB1 := Lib.hid hw1.bel; clear hw1 h hs
  cases hinc : incB (prs L) with
  | false =>
    have HR := Lib.hid (show buildL (prs L) = ([], 1) by unfold buildL; rw [if_pos hinc])
    clear hinc
    go_wp2_with (fail)
    go_ret2
    exact ⟨by rw [HR.out]; rfl, HB1.out⟩
  | true =>
    have HI := Lib.hid hinc; clear hinc
    have hbb := HB1.out.size
    go_wp2_with (fail)
    go_loopw [5, 6, 7] (fun bv pv i x => RBuildRel L w bv pv i x) (fun _ _ i _ => L.length - (intOf i).toNat)
    case atStart => exact ⟨0, ⟨#[]⟩, Nat.zero_le _, rfl, rfl, rfl, by decide, by simpa [encL] using Own.nil w.heap.size w1, HB1.out⟩
    case round =>
      obtain ⟨k, q, hk, rfl, rfl, hq, hqs, hown, hb⟩ := hrel
      obtain ⟨bp0, bcap, rfl, -⟩ := own_len hown
      have HQ := Lib.hid hq; clear hq
      have HBK := Lib.hid (HBD.out k hk)
      by_cases hlt : k < L.length
      · obtain ⟨a, B, O, sp, rfl, ha, c0, c1⟩ := (H.out.bel hb) k hlt
        obtain ⟨a9, B9, O9, sp9, hp9, ha9, c90, -⟩ := H.out k hlt
        cases hp9
        rw [ha] at ha9
        cases ha9
        have hBlt : B < w.heap.size := block_of_cell c90
        clear c90
        obtain ⟨s1, s2⟩ := HSM.out k hlt
        have HB := Lib.hid hb
        have HE := Lib.hid (enc_take_succ L k hlt)
        obtain ⟨E, hE⟩ : ∃ E, encL [] ((prs L).take k) = E := ⟨_, rfl⟩
        obtain ⟨c, hc⟩ : ∃ c, comL q.data.toList L[k].k.data.toList = c := ⟨_, rfl⟩
        have hcl := com_right q.data.toList L[k].k.data.toList
        have hEb := HBK.out
        rw [hE] at hown HE hEb
        rw [hc] at hcl
        rw [hE]
        have HC := Lib.hid hc
        have hkl : L[k].k.data.toList.length = L[k].k.size := rfl
        have hvl : L[k].v.data.toList.length = L[k].v.size := rfl
        rw [hkl] at hcl
        have hcc : comL L[k].pr.k q.data.toList = c := by rw [com_comm]; exact hc
        have HEX := Lib.hid (ext_drop L[k].k c)
        have hez : (L[k].k.extract c L[k].k.size).size = L[k].k.size - c := by simp [ByteArray.size_extract]
        have HE2 := Lib.hid (show encL [] ((prs L).take (k + 1)) = E ++ (putL c ++ putL (L[k].k.size - c) ++ putL L[k].v.size) ++ (L[k].k.extract c L[k].k.size).data.toList ++ L[k].v.data.toList by
          rw [HE.out, ← HQ.out, oneL, headL, restL, hcc, HEX.out]; simp only [List.append_assoc]; rfl)
        have HD := Lib.hid (show PR.k L[k].pr = L[k].k.data.toList from rfl)
        have HEB := Lib.hid hEb
        have z1 := put_le9 c
        have z2 := put_le9 (L[k].k.size - c)
        have z3 := put_le9 L[k].v.size
        have HO := Lib.hid hown
        have hEl : E.length ≤ 200027000 := by omega
        have hwz := hb.size
        clear hb hE hc HE hown hEb hcc
        generalize L[k].k = kk at *
        generalize L[k].v = vv at *
        have v9 : IntKind.i64.wrap ((kk.size : Int) - (c : Int)) = (kk.size : Int) - (c : Int) := IntWalk.i64_in _ (by omega)
        go_wp2_with (fail)
        refine (rcommon_any q kk _ (by unfold maxLen; omega) (by unfold maxLen; omega)).mono ?_
        rintro e w2 ⟨rfl, n2, rfl⟩
        rw [HC.out]
        replace c0 : (wr.drewN n2).cell? ⟨B, O, sp⟩ = some (.string kk) := c0
        replace c1 : (wr.drewN n2).cell? ⟨B, O + 1, none⟩ = some (.string vv) := c1
        replace HB := Lib.hid (HB.out.drewN n2)
        replace HO := Lib.hid (HO.out.drewN n2)
        replace hwz : w.heap.size ≤ (wr.drewN n2).heap.size := hwz
        generalize wr.drewN n2 = w2 at *
        go_wp2_with (fail)
        refine wp_region_held_drew (S := fun z => z.cell? ⟨B, O, sp⟩ = some (.string kk) ∧ z.cell? ⟨B, O + 1, none⟩ = some (.string vv)) (by kernel_rfl) ⟨c0, c1⟩ (fun hHeld => ?_)
        refine wpAnyH_take (i := 0) (oi := { dst := some 26, op := Op.move (Operand.tmp 5), type := 57, pos := "ref.go:49", after := #[], guard := none }) (v := ?_) rfl (by kernel_rfl) (by kernel_rfl) (by kernel_rfl) (fun _ _ _ h => h) (Or.inl ⟨by rfl, ?_⟩) (by assumption) ?_
        rotate_left
        · (intro w hSw; (try dsimp only at hSw); first | (go_simp; done) | (go_simp; with_reducible rfl))
        try simp only [Act.put, List.setIfInBounds_toArray, List.set_cons_zero, List.set_cons_succ]
        refine wpAnyH_take (i := 1) (oi := { dst := some 27, op := Op.move (Operand.tmp 8), type := 3, pos := "ref.go:49", after := #[], guard := none }) (v := ?_) rfl (by kernel_rfl) (by kernel_rfl) (by kernel_rfl) (fun _ _ _ h => h) (Or.inl ⟨by rfl, ?_⟩) (by assumption) ?_
        rotate_left
        · (intro w hSw; (try dsimp only at hSw); first | (go_simp; done) | (go_simp; with_reducible rfl))
        try simp only [Act.put, List.setIfInBounds_toArray, List.set_cons_zero, List.set_cons_succ]
        refine wpAnyH_take (i := 3) (oi := { dst := some 29, op := Op.move (Operand.tmp 0), type := 24, pos := "ref.go:49", after := #[], guard := none }) (v := ?_) rfl (by kernel_rfl) (by kernel_rfl) (by kernel_rfl) (fun _ _ _ h => h) (Or.inl ⟨by rfl, ?_⟩) (by assumption) ?_
        rotate_left
        · (intro w hSw; (try dsimp only at hSw); first | (go_simp; done) | (go_simp; with_reducible rfl))
        try simp only [Act.put, List.setIfInBounds_toArray, List.set_cons_zero, List.set_cons_succ]
        refine wpAnyH_take (i := 4) (oi := { dst := some 30, op := Op.move (Operand.tmp 7), type := 3, pos := "ref.go:49", after := #[], guard := none }) (v := ?_) rfl (by kernel_rfl) (by kernel_rfl) (by kernel_rfl) (fun _ _ _ h => h) (Or.inl ⟨by rfl, ?_⟩) (by assumption) ?_
        rotate_left
        · (intro w hSw; (try dsimp only at hSw); first | (go_simp; done) | (go_simp; with_reducible rfl))
        try simp only [Act.put, List.setIfInBounds_toArray, List.set_cons_zero, List.set_cons_succ]
        refine wpAnyH_take (i := 5) (oi := { dst := some 31, op := Op.indexAddr 24 (Operand.tmp 29) (Operand.tmp 30), type := 0, pos := "ref.go:49", after := #[{ on := 3, ground := Ground.data }, { on := 4, ground := Ground.data }], guard := none }) (v := ?_) rfl (by kernel_rfl) (by kernel_rfl) (by kernel_rfl) (fun _ _ _ h => h) (Or.inl ⟨by rfl, ?_⟩) (by assumption) ?_
        rotate_left
        · (intro w hSw; (try dsimp only at hSw); first | (go_simp; done) | (go_simp; with_reducible rfl))
        try simp only [Act.put, List.setIfInBounds_toArray, List.set_cons_zero, List.set_cons_succ]
        refine wpAnyH_take (i := 6) (oi := { dst := some 32, op := Op.fieldAddr 54 (Operand.tmp 31) 0, type := 0, pos := "ref.go:49", after := #[{ on := 5, ground := Ground.data }], guard := none }) (v := ?_) rfl (by kernel_rfl) (by kernel_rfl) (by kernel_rfl) (fun _ _ _ h => h) (Or.inl ⟨by rfl, ?_⟩) (by assumption) ?_
        rotate_left
        · (intro w hSw; (try dsimp only at hSw); first | (go_simp; done) | (go_simp; with_reducible rfl))
        try simp only [Act.put, List.setIfInBounds_toArray, List.set_cons_zero, List.set_cons_succ]
        refine wpAnyH_take (i := 7) (oi := { dst := some 33, op := Op.load 9 (Operand.tmp 32), type := 9, pos := "ref.go:49", after := #[{ on := 6, ground := Ground.data }], guard := none }) (v := ?_) rfl (by kernel_rfl) (by kernel_rfl) (by kernel_rfl) (fun _ _ _ h => h) (Or.inl ⟨by rfl, ?_⟩) (by assumption) ?_
        rotate_left
        · (intro w hSw; (try dsimp only at hSw); first | (go_simp; done) | (go_simp; with_reducible rfl))
        try simp only [Act.put, List.setIfInBounds_toArray, List.set_cons_zero, List.set_cons_succ]
        refine wpAnyH_take (i := 8) (oi := { dst := some 34, op := Op.call { callee := Callee.builtin Builtin.len, args := #[Operand.tmp 33], argTypes := #[9] }, type := 3, pos := "ref.go:49", after := #[{ on := 7, ground := Ground.data }], guard := none }) (v := ?_) rfl (by kernel_rfl) (by kernel_rfl) (by kernel_rfl) (fun _ _ _ h => h) (Or.inl ⟨by rfl, ?_⟩) (by assumption) ?_
        rotate_left
        · (intro w hSw; (try dsimp only at hSw); first | (go_simp; done) | (go_simp; with_reducible rfl))
        try simp only [Act.put, List.setIfInBounds_toArray, List.set_cons_zero, List.set_cons_succ]
        refine wpAnyH_take (i := 9) (oi := { dst := some 35, op := Op.move (Operand.tmp 8), type := 3, pos := "ref.go:49", after := #[], guard := none }) (v := ?_) rfl (by kernel_rfl) (by kernel_rfl) (by kernel_rfl) (fun _ _ _ h => h) (Or.inl ⟨by rfl, ?_⟩) (by assumption) ?_
        rotate_left
        · (intro w hSw; (try dsimp only at hSw); first | (go_simp; done) | (go_simp; with_reducible rfl))
        try simp only [Act.put, List.setIfInBounds_toArray, List.set_cons_zero, List.set_cons_succ]
        refine wpAnyH_take (i := 10) (oi := { dst := some 36, op := Op.binOp BinOp.sub 3 (Operand.tmp 34) (Operand.tmp 35) 3, type := 3, pos := "ref.go:49", after := #[{ on := 8, ground := Ground.data }, { on := 9, ground := Ground.data }], guard := none }) (v := ?_) rfl (by kernel_rfl) (by kernel_rfl) (by kernel_rfl) (fun _ _ _ h => h) (Or.inl ⟨by rfl, ?_⟩) (by assumption) ?_
        rotate_left
        · (intro w hSw; (try dsimp only at hSw); first | (go_simp; done) | (go_simp; with_reducible rfl))
        try simp only [Act.put, List.setIfInBounds_toArray, List.set_cons_zero, List.set_cons_succ]
        refine wpAnyH_take (i := 13) (oi := { dst := some 39, op := Op.move (Operand.tmp 0), type := 24, pos := "ref.go:49", after := #[], guard := none }) (v := ?_) rfl (by kernel_rfl) (by kernel_rfl) (by kernel_rfl) (fun _ _ _ h => h) (Or.inl ⟨by rfl, ?_⟩) (by assumption) ?_
        rotate_left
        · (intro w hSw; (try dsimp only at hSw); first | (go_simp; done) | (go_simp; with_reducible rfl))
        try simp only [Act.put, List.setIfInBounds_toArray, List.set_cons_zero, List.set_cons_succ]
        refine wpAnyH_take (i := 14) (oi := { dst := some 40, op := Op.move (Operand.tmp 7), type := 3, pos := "ref.go:49", after := #[], guard := none }) (v := ?_) rfl (by kernel_rfl) (by kernel_rfl) (by kernel_rfl) (fun _ _ _ h => h) (Or.inl ⟨by rfl, ?_⟩) (by assumption) ?_
        rotate_left
        · (intro w hSw; (try dsimp only at hSw); first | (go_simp; done) | (go_simp; with_reducible rfl))
        try simp only [Act.put, List.setIfInBounds_toArray, List.set_cons_zero, List.set_cons_succ]
        refine wpAnyH_take (i := 15) (oi := { dst := some 41, op := Op.indexAddr 24 (Operand.tmp 39) (Operand.tmp 40), type := 0, pos := "ref.go:49", after := #[{ on := 13, ground := Ground.data }, { on := 14, ground := Ground.data }], guard := none }) (v := ?_) rfl (by kernel_rfl) (by kernel_rfl) (by kernel_rfl) (fun _ _ _ h => h) (Or.inl ⟨by rfl, ?_⟩) (by assumption) ?_
        rotate_left
        · (intro w hSw; (try dsimp only at hSw); first | (go_simp; done) | (go_simp; with_reducible rfl))
        try simp only [Act.put, List.setIfInBounds_toArray, List.set_cons_zero, List.set_cons_succ]
        refine wpAnyH_take (i := 16) (oi := { dst := some 42, op := Op.fieldAddr 54 (Operand.tmp 41) 1, type := 0, pos := "ref.go:49", after := #[{ on := 15, ground := Ground.data }], guard := none }) (v := ?_) rfl (by kernel_rfl) (by kernel_rfl) (by kernel_rfl) (fun _ _ _ h => h) (Or.inl ⟨by rfl, ?_⟩) (by assumption) ?_
        rotate_left
        · (intro w hSw; (try dsimp only at hSw); first | (go_simp; done) | (go_simp; with_reducible rfl))
        try simp only [Act.put, List.setIfInBounds_toArray, List.set_cons_zero, List.set_cons_succ]
        refine wpAnyH_take (i := 17) (oi := { dst := some 43, op := Op.load 9 (Operand.tmp 42), type := 9, pos := "ref.go:49", after := #[{ on := 16, ground := Ground.data }], guard := none }) (v := ?_) rfl (by kernel_rfl) (by kernel_rfl) (by kernel_rfl) (fun _ _ _ h => h) (Or.inl ⟨by rfl, ?_⟩) (by assumption) ?_
        rotate_left
        · (intro w hSw; (try dsimp only at hSw); first | (go_simp; done) | (go_simp; with_reducible rfl))
        try simp only [Act.put, List.setIfInBounds_toArray, List.set_cons_zero, List.set_cons_succ]
        refine wpAnyH_take (i := 18) (oi := { dst := some 44, op := Op.call { callee := Callee.builtin Builtin.len, args := #[Operand.tmp 43], argTypes := #[9] }, type := 3, pos := "ref.go:49", after := #[{ on := 17, ground := Ground.data }], guard := none }) (v := ?_) rfl (by kernel_rfl) (by kernel_rfl) (by kernel_rfl) (fun _ _ _ h => h) (Or.inl ⟨by rfl, ?_⟩) (by assumption) ?_
        rotate_left
        · (intro w hSw; (try dsimp only at hSw); first | (go_simp; done) | (go_simp; with_reducible rfl))
        try simp only [Act.put, List.setIfInBounds_toArray, List.set_cons_zero, List.set_cons_succ]
        refine wpAnyH_ready (rs := [2]) (by kernel_rfl) (by simp) ?_
        refine AllReadyH.cons (o := { dst := some 28, op := Op.call { callee := Callee.value (Operand.func 33), args := #[Operand.tmp 27], argTypes := #[3] }, type := 9, pos := "ref.go:49", after := #[{ on := 1, ground := Ground.data }], guard := none }) rfl (fun K hK => ?_) AllReadyH.nil
        go_simp
        refine (size8_any _ c w2.drew rfl (by unfold maxLen; omega)).mono ?_
        rintro e w3 ⟨rfl, hb3⟩
        have d0 := cell_lat hb3 (show w2.drew.cell? ⟨B, O, sp⟩ = _ from c0)
        have d1 := cell_lat hb3 (show w2.drew.cell? ⟨B, O + 1, none⟩ = _ from c1)
        have HB3 := Lib.hid (HB.out.drew.trans hb3)
        have HO3 := Lib.hid (HO.out.drew.bel hb3)
        have hz3 := hb3.size
        replace hz3 : w2.heap.size ≤ w3.heap.size := hz3
        clear hb3
        dsimp only
        refine hK.out _ _ ⟨d0, d1⟩ (fun hHeld => ?_)
        clear hK K
        try simp only [Act.put, List.setIfInBounds_toArray, List.set_cons_zero, List.set_cons_succ]
        refine wpAnyH_ready (rs := [11]) (by kernel_rfl) (by simp) ?_
        refine AllReadyH.cons (o := { dst := some 37, op := Op.call { callee := Callee.value (Operand.func 33), args := #[Operand.tmp 36], argTypes := #[3] }, type := 9, pos := "ref.go:49", after := #[{ on := 10, ground := Ground.data }, { on := 2, ground := Ground.chain }], guard := none }) rfl (fun K hK => ?_) AllReadyH.nil
        go_simp
        refine (size8_any _ (kk.size - c) w3 (by omega) (by unfold maxLen; omega)).mono ?_
        rintro e w4 ⟨rfl, hb4⟩
        have e0 := cell_lat hb4 d0
        have e1 := cell_lat hb4 d1
        have HB4 := Lib.hid (HB3.out.trans hb4)
        have HO4 := Lib.hid (HO3.out.bel hb4)
        have hz4 := hb4.size
        clear hb4
        dsimp only
        refine hK.out _ _ ⟨e0, e1⟩ (fun hHeld => ?_)
        clear hK K
        try simp only [Act.put, List.setIfInBounds_toArray, List.set_cons_zero, List.set_cons_succ]
        refine wpAnyH_take (i := 12) (oi := { dst := some 38, op := Op.binOp BinOp.add 9 (Operand.tmp 28) (Operand.tmp 37) 9, type := 9, pos := "ref.go:49", after := #[{ on := 2, ground := Ground.data }, { on := 11, ground := Ground.data }], guard := none }) (v := ?_) rfl (by kernel_rfl) (by kernel_rfl) (by kernel_rfl) (fun _ _ _ h => h) (Or.inl ⟨by rfl, ?_⟩) (by assumption) ?_
        rotate_left
        · (intro w hSw; (try dsimp only at hSw); first | (go_simp; rw [if_neg (by omega)]; done))
        try simp only [Act.put, List.setIfInBounds_toArray, List.set_cons_zero, List.set_cons_succ]
        refine wpAnyH_ready (rs := [19]) (by kernel_rfl) (by simp) ?_
        refine AllReadyH.cons (o := { dst := some 45, op := Op.call { callee := Callee.value (Operand.func 33), args := #[Operand.tmp 44], argTypes := #[3] }, type := 9, pos := "ref.go:49", after := #[{ on := 18, ground := Ground.data }, { on := 11, ground := Ground.chain }], guard := none }) rfl (fun K hK => ?_) AllReadyH.nil
        go_simp
        refine (size8_any _ vv.size w4 rfl (by unfold maxLen; omega)).mono ?_
        rintro e w5 ⟨rfl, hb5⟩
        have f0 := cell_lat hb5 e0
        have f1 := cell_lat hb5 e1
        have HB5 := Lib.hid (HB4.out.trans hb5)
        have HO5 := Lib.hid (HO4.out.bel hb5)
        have hz5 := hb5.size
        clear hb5
        dsimp only
        refine hK.out _ _ ⟨f0, f1⟩ (fun hHeld => ?_)
        clear hK K
        try simp only [Act.put, List.setIfInBounds_toArray, List.set_cons_zero, List.set_cons_succ]
        refine wpAnyH_take (i := 20) (oi := { dst := some 46, op := Op.binOp BinOp.add 9 (Operand.tmp 38) (Operand.tmp 45) 9, type := 9, pos := "ref.go:49", after := #[{ on := 12, ground := Ground.data }, { on := 19, ground := Ground.data }], guard := none }) (v := ?_) rfl (by kernel_rfl) (by kernel_rfl) (by kernel_rfl) (fun _ _ _ h => h) (Or.inl ⟨by rfl, ?_⟩) (by assumption) ?_
        rotate_left
        · (intro w hSw; (try dsimp only at hSw); first | (go_simp; rw [if_neg (by omega)]; done))
        try simp only [Act.put, List.setIfInBounds_toArray, List.set_cons_zero, List.set_cons_succ]
        have hT : ((⟨(putL c).toArray⟩ ++ ⟨(putL (kk.size - c)).toArray⟩ ++ ⟨(putL vv.size).toArray⟩ : ByteArray)).data.toList = putL c ++ putL (kk.size - c) ++ putL vv.size := by simp
        have hTz : ((⟨(putL c).toArray⟩ ++ ⟨(putL (kk.size - c)).toArray⟩ ++ ⟨(putL vv.size).toArray⟩ : ByteArray)).size ≤ 27 := by
          rw [ba_size, hT]; simp only [List.length_append]; omega
        have HT := Lib.hid hT
        clear hT
        refine wpAnyH_ready (rs := [21]) (by kernel_rfl) (by simp) ?_
        refine AllReadyH.cons (o := { dst := some 47, op := Op.call { callee := Callee.builtin Builtin.append, args := #[Operand.tmp 26, Operand.tmp 46], argTypes := #[57, 9] }, type := 57, pos := "ref.go:49", after := #[{ on := 0, ground := Ground.data }, { on := 20, ground := Ground.data }, { on := 19, ground := Ground.chain }], guard := none }) rfl (fun K hK => ?_) AllReadyH.nil
        refine step_append_str (B := w.heap.size) (v := .slice bp0 E.length bcap) (l := E) rfl (.tmp 26) (.tmp 46) rfl rfl rfl HO5.out (by omega) (by omega) ?_
        obtain ⟨A, hA⟩ : ∃ A, E ++ (putL c ++ putL (kk.size - c) ++ putL vv.size) = A := ⟨_, rfl⟩
        have hAl : A.length ≤ E.length + 27 := by rw [← hA]; simp only [List.length_append]; omega
        rw [hA] at HE2
        intro v6 w6 hO6 hk6 hv6
        rw [HT.out, hA] at hO6
        have hB6 : B ∉ (Value.slice bp0 E.length bcap).ownBlock.toList := by
          intro hm
          rw [Option.mem_toList] at hm
          have := (HO5.out.lt B hm).1
          omega
        have g0 := hk6.cell (p := ⟨B, O, sp⟩) f0 hB6
        have g1 := hk6.cell (p := ⟨B, O + 1, none⟩) f1 hB6
        have HB6 := Lib.hid (show Bel w w6 from HB5.out.trans_below (hk6.below (by omega) (fun k hk => by rw [Option.mem_toList] at hk; exact (HO5.out.lt k hk).1)))
        have HO6 := Lib.hid hO6
        have hz6 := hk6.size
        obtain ⟨bp6, bcap6, rfl, -⟩ := own_len hO6
        clear hO6 hk6 hv6
        refine hK.out _ _ ⟨g0, g1⟩ (fun hHeld => ?_)
        clear hK K
        try simp only [Act.put, List.setIfInBounds_toArray, List.set_cons_zero, List.set_cons_succ]
        refine wpAnyH_take (i := 22) (oi := { dst := some 5, op := Op.assign (Operand.tmp 47), type := 57, pos := "ref.go:49", after := #[{ on := 21, ground := Ground.data }, { on := 21, ground := Ground.chain }, { on := 0, ground := Ground.phase }, { on := 1, ground := Ground.phase }, { on := 2, ground := Ground.phase }, { on := 3, ground := Ground.phase }, { on := 4, ground := Ground.phase }, { on := 5, ground := Ground.phase }, { on := 6, ground := Ground.phase }, { on := 7, ground := Ground.phase }, { on := 8, ground := Ground.phase }, { on := 9, ground := Ground.phase }, { on := 10, ground := Ground.phase }, { on := 11, ground := Ground.phase }, { on := 12, ground := Ground.phase }, { on := 13, ground := Ground.phase }, { on := 14, ground := Ground.phase }, { on := 15, ground := Ground.phase }, { on := 16, ground := Ground.phase }, { on := 17, ground := Ground.phase }, { on := 18, ground := Ground.phase }, { on := 19, ground := Ground.phase }, { on := 20, ground := Ground.phase }, { on := 21, ground := Ground.phase }], guard := none }) (v := ?_) rfl (by kernel_rfl) (by kernel_rfl) (by kernel_rfl) (fun _ _ _ h => h) (Or.inl ⟨by rfl, ?_⟩) (by assumption) ?_
        rotate_left
        · (intro w hSw; (try dsimp only at hSw); first | (go_simp; done) | (go_simp; with_reducible rfl))
        try simp only [Act.put, List.setIfInBounds_toArray, List.set_cons_zero, List.set_cons_succ]
        refine wpAnyH_done (by kernel_rfl) ?_ _
        go_wp2_with (at_builtin; refine stop_here ?_)
        refine go_on ?_
        refine append_str (B := w.heap.size) rfl _ _ rfl rfl rfl HO6.out (by rw [hez]; omega) (by omega) ?_
        intro v7 w7 hO7 hk7 hv7
        have hB7 : B ∉ (Value.slice bp6 A.length bcap6).ownBlock.toList := by
          intro hm
          rw [Option.mem_toList] at hm
          have := (HO6.out.lt B hm).1
          omega
        have h0 := hk7.cell (p := ⟨B, O, sp⟩) g0 hB7
        have h1 := hk7.cell (p := ⟨B, O + 1, none⟩) g1 hB7
        have HB7 := Lib.hid (show Bel w w7 from HB6.out.trans_below (hk7.below (by omega) (fun k hk => by rw [Option.mem_toList] at hk; exact (HO6.out.lt k hk).1)))
        have HO7 := Lib.hid hO7
        have hz7 := hk7.size
        obtain ⟨bp7, bcap7, rfl, -⟩ := own_len hO7
        clear hO7 hk7 hv7
        have hAl2 : (A ++ (kk.extract c kk.size).data.toList).length ≤ A.length + 100000 := by
          rw [List.length_append]
          have : (kk.extract c kk.size).data.toList.length = kk.size - c := hez
          omega
        obtain ⟨A2, hA2⟩ : ∃ A2, A ++ (kk.extract c kk.size).data.toList = A2 := ⟨_, rfl⟩
        rw [hA2] at HE2 HO7 hAl2 ⊢
        go_wp2_with (at_builtin; refine stop_here ?_)
        refine go_on ?_
        refine append_str (B := w.heap.size) rfl _ _ rfl rfl rfl HO7.out (by omega) (by omega) ?_
        intro v8 w8 hO8 hk8 hv8
        have hB8 : B ∉ (Value.slice bp7 A2.length bcap7).ownBlock.toList := by
          intro hm
          rw [Option.mem_toList] at hm
          have := (HO7.out.lt B hm).1
          omega
        have i0 := hk8.cell (p := ⟨B, O, sp⟩) h0 hB8
        have HB8 := Lib.hid (show Bel w w8 from HB7.out.trans_below (hk8.below (by omega) (fun k hk => by rw [Option.mem_toList] at hk; exact (HO7.out.lt k hk).1)))
        have HO8 := Lib.hid hO8
        obtain ⟨bp8, bcap8, rfl, -⟩ := own_len hO8
        clear hO8 hk8 hv8
        go_wp2_with (fail)
        go_roundw
        case rel =>
          refine ⟨k + 1, kk, hlt, by go_num, rfl, ?_, by omega, ?_, HB8.out⟩
          · rw [prs_take_succ L k hlt, lastK_snoc, HD.out]
          · rw [HE2.out]
            have h9 := HO8.out
            rw [List.length_append, hvl] at h9
            exact h9
        case measure => simp [intOf]; omega
      · have hkl : k = L.length := by omega
        have HT := Lib.hid (show (prs L).take k = prs L from List.take_of_length_le (by rw [prs_len]; omega))
        rw [HT.out] at hown ⊢
        have hEb := HBK.out
        rw [HT.out] at hEb
        have HO := Lib.hid hown
        have HB := Lib.hid hb
        have hcv := Lib.hid (own_string hown)
        clear hown hb HBK
        obtain ⟨E, hE⟩ : ∃ E, encL [] (prs L) = E := ⟨_, rfl⟩
        have hi := HI.out
        by_cases hlong : 40000 < E.length
        · have HR := Lib.hid (show buildL (prs L) = ([], 10) by unfold buildL; rw [if_neg (by rw [hi]; simp), hE, if_pos hlong])
          rw [hE] at HO hcv hEb ⊢
          have hl' : (40000 : Int) < (E.length : Int) := by omega
          go_wp2_with (fail)
          go_ret2
          exact ⟨by rw [HR.out]; rfl, HB.out⟩
        · have HR := Lib.hid (show buildL (prs L) = (E, 0) by rw [← hE]; exact build_of hi (by rw [hE]; omega))
          rw [hE] at HO hcv hEb ⊢
          have hl' : ¬ (40000 : Int) < (E.length : Int) := by omega
          have hcw := hcv.out
          go_wp2_with (fail)
          go_ret2
          exact ⟨by rw [HR.out]; rfl, HB.out⟩
end Go.Proofs.Ytldkpomkgmilbaa
