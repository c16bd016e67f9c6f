/- MemoryPlays. -/
import Derived.Test.YteimllgoelleeaaP12
import Derived.Test.YteimllgoelleeaaP11
import Derived.Test.YteimllgoelleeaaP8
import Derived.Test.YteimllgoelleeaaP2
set_option linter.unusedSimpArgs false
set_option linter.unusedVariables false
namespace Go.Proofs.Yteimllgoelleeaa
open Go.RowKit Go.Deep

set_option maxHeartbeats 8000000 in
set_option maxRecDepth 20000 in
theorem law_mplays_any {KM : MK} (W : World) (hok : KM.Ok W) (a0 : Option Addr) (cap0 : Nat) (L0 : List EB) (s1 s2 : ByteArray) (i3 : Int) (hi0 : EntsAt W a0 L0) (hl0 : L0.length ≤ maxLen) (hs0 : fitsL L0) (hs1 : s1.size ≤ maxLen) (hs2 : s2.size ≤ maxLen) :
    Calls Try.prog 3 #[.slice a0 L0.length cap0, .string s1, .string s2, .int .i64 i3] W fun e w' => e = .returned (.bool true) ∧ Bel W w' := by
  have HM := Lib.hid hok; have HI := Lib.hid hi0; have HF := Lib.hid hs0
  clear hok hi0 hs0
  unfold maxLen at hl0
  go_enter Try.func3, Try.ntmps3
  go_wp2_with (fail)
  refine (shown11_any W HM.out).mono ?_
  rintro e w1 ⟨rfl, hb⟩
  have HB1 := Lib.hid hb; clear hb
  go_wp2_with (fail)
  refine (small11_any a0 cap0 L0 w1 (HI.out.bel HB1.out) (by omega) HF.out).mono ?_
  rintro e w2 ⟨hd, hres⟩
  have HB2 := Lib.hid (HB1.out.trans hd.bel); clear hd
  rcases hres with ⟨hsm, rfl⟩ | rfl
  rotate_left
  · go_wp2_with (fail)
    go_ret
    exact ⟨rfl, HB2.out⟩
  have hl100 := hsm.1
  have HSM := Lib.hid hsm
  clear hsm
  by_cases hz1 : s1.size ≤ 1500
  rotate_left
  · have hz' : (1500 : Int) < s1.size := by omega
    go_wp2_with (fail)
    go_ret
    exact ⟨rfl, HB2.out⟩
  have hz1' : ¬ (1500 : Int) < s1.size := by omega
  by_cases hz2 : s2.size ≤ 1500
  rotate_left
  · have hz' : (1500 : Int) < s2.size := by omega
    go_wp2_with (fail)
    go_ret
    exact ⟨rfl, HB2.out⟩
  have hz2' : ¬ (1500 : Int) < s2.size := by omega
  go_wp2_with (fail)
  refine (KM.new w2 (KM.okBel HM.out HB2.out)).mono ?_
  rintro e w3 ⟨b, F, rfl, hat, hn, hb⟩
  have HV := Lib.hid (TInv.start (L := L0) hat hn HB2.out hb)
  clear hat hn hb hz1' hz2'
  go_wp2_with (fail)
  obtain ⟨rb, hrb⟩ : ∃ rb, rb = w3.heap.size := ⟨_, rfl⟩
  obtain ⟨w4, hw4⟩ : ∃ w4, w4 = w3.alloc (.cells #[.slice none 0 0] 29) := ⟨_, rfl⟩
  rw [← hrb, ← hw4] at HV
  rw [← hrb, ← hw4]
  clear hrb hw4
  go_loopw [13] (fun iv x => ∃ k : Nat, k ≤ L0.length ∧ iv = .int .i64 k ∧ TInv KM W L0 b rb k k x) (fun iv _ => L0.length - (intOf iv).toNat)
  case atStart => exact ⟨0, Nat.zero_le _, rfl, HV.out⟩
  case round =>
    obtain ⟨k, hk, rfl, hv⟩ := hrel
    have HT := Lib.hid hv
    clear hv
    by_cases hkl : k < L0.length
    · obtain ⟨a, e0, rfl, he0, B, O, sp, ha, c0, c1, c2, c3⟩ := HI.out.get hkl
      have HCW := Lib.hid (And.intro c0 (And.intro c1 (And.intro c2 c3)))
      have HFE := Lib.hid (show e0.fits by rw [he0]; exact fits_at HF.out hkl)
      have HE0 := Lib.hid he0
      have hkw : IntKind.i64.wrap (k : Int) = k := by rw [IntKind.wrap_i64]; omega
      clear he0 c0 c1 c2 c3
      go_wp2_with (fail)
      refine wp_region_held_drew (S := fun z => z.cell? ⟨B, O, sp⟩ = some (.string e0.k) ∧ z.cell? ⟨B, O + 1, none⟩ = some (.int .i64 e0.q) ∧ z.cell? ⟨B, O + 2, none⟩ = some (.bool e0.d) ∧ z.cell? ⟨B, O + 3, none⟩ = some (.string e0.v)) (by kernel_rfl) (cells4 HT.out.old.drew HCW.out) (fun hHeld => ?_)
      refine tk (oi := { dst := some 47, op := Op.move (Operand.tmp 11), type := 25, pos := "law.go:73", after := #[], guard := none }) (v := ?_) 0 rfl ?_ ?_
      rotate_left
      · (intro w hSw; (try dsimp only at hSw); first | (go_simp; done) | (go_simp; with_reducible rfl))
      try simp only [Act.put, List.setIfInBounds_toArray, List.set_cons_zero, List.set_cons_succ]
      refine tk (oi := { dst := some 48, op := Op.move (Operand.tmp 0), type := 22, pos := "law.go:73", after := #[], guard := none }) (v := ?_) 1 rfl ?_ ?_
      rotate_left
      · (intro w hSw; (try dsimp only at hSw); first | (go_simp; done) | (go_simp; with_reducible rfl))
      try simp only [Act.put, List.setIfInBounds_toArray, List.set_cons_zero, List.set_cons_succ]
      refine tk (oi := { dst := some 49, op := Op.move (Operand.tmp 13), type := 3, pos := "law.go:73", after := #[], guard := none }) (v := ?_) 2 rfl ?_ ?_
      rotate_left
      · (intro w hSw; (try dsimp only at hSw); first | (go_simp; done) | (go_simp; with_reducible rfl))
      try simp only [Act.put, List.setIfInBounds_toArray, List.set_cons_zero, List.set_cons_succ]
      refine tk (oi := { dst := some 50, op := Op.indexAddr 22 (Operand.tmp 48) (Operand.tmp 49), type := 0, pos := "law.go:73", after := #[{ on := 1, ground := Ground.data }, { on := 2, ground := Ground.data }], guard := none }) (v := ?_) 3 rfl ?_ ?_
      rotate_left
      · (intro w hSw; (try dsimp only at hSw); first | (go_simp; done) | (go_simp; with_reducible rfl))
      try simp only [Act.put, List.setIfInBounds_toArray, List.set_cons_zero, List.set_cons_succ]
      refine tk (oi := { dst := some 51, op := Op.load 33 (Operand.tmp 50), type := 33, pos := "law.go:73", after := #[{ on := 3, ground := Ground.data }], guard := none }) (v := ?_) 4 rfl ?_ ?_
      rotate_left
      · (intro w hSw; (try dsimp only at hSw); first | (go_simp; done) | (go_simp; with_reducible rfl))
      try simp only [Act.put, List.setIfInBounds_toArray, List.set_cons_zero, List.set_cons_succ]
      refine tk (oi := { dst := some 53, op := Op.move (Operand.tmp 12), type := 27, pos := "law.go:73", after := #[], guard := none }) (v := ?_) 6 rfl ?_ ?_
      rotate_left
      · (intro w hSw; (try dsimp only at hSw); first | (go_simp; done) | (go_simp; with_reducible rfl))
      try simp only [Act.put, List.setIfInBounds_toArray, List.set_cons_zero, List.set_cons_succ]
      refine tk (oi := { dst := some 54, op := Op.move (Operand.tmp 0), type := 22, pos := "law.go:73", after := #[], guard := none }) (v := ?_) 7 rfl ?_ ?_
      rotate_left
      · (intro w hSw; (try dsimp only at hSw); first | (go_simp; done) | (go_simp; with_reducible rfl))
      try simp only [Act.put, List.setIfInBounds_toArray, List.set_cons_zero, List.set_cons_succ]
      refine tk (oi := { dst := some 55, op := Op.move (Operand.tmp 13), type := 3, pos := "law.go:73", after := #[], guard := none }) (v := ?_) 8 rfl ?_ ?_
      rotate_left
      · (intro w hSw; (try dsimp only at hSw); first | (go_simp; done) | (go_simp; with_reducible rfl))
      try simp only [Act.put, List.setIfInBounds_toArray, List.set_cons_zero, List.set_cons_succ]
      refine tk (oi := { dst := some 56, op := Op.indexAddr 22 (Operand.tmp 54) (Operand.tmp 55), type := 0, pos := "law.go:73", after := #[{ on := 7, ground := Ground.data }, { on := 8, ground := Ground.data }], guard := none }) (v := ?_) 9 rfl ?_ ?_
      rotate_left
      · (intro w hSw; (try dsimp only at hSw); first | (go_simp; done) | (go_simp; with_reducible rfl))
      try simp only [Act.put, List.setIfInBounds_toArray, List.set_cons_zero, List.set_cons_succ]
      refine tk (oi := { dst := some 57, op := Op.load 33 (Operand.tmp 56), type := 33, pos := "law.go:73", after := #[{ on := 9, ground := Ground.data }], guard := none }) (v := ?_) 10 rfl ?_ ?_
      rotate_left
      · (intro w hSw; (try dsimp only at hSw); first | (go_simp; done) | (go_simp; with_reducible rfl))
      try simp only [Act.put, List.setIfInBounds_toArray, List.set_cons_zero, List.set_cons_succ]
      refine wpAnyH_ready (rs := [5]) (by kernel_rfl) (by simp) ?_
      refine AllReadyH.cons (o := { dst := some 52, op := Op.call { callee := Callee.value (Operand.func 11), args := #[Operand.tmp 47, Operand.tmp 51], argTypes := #[25, 33] }, type := 30, pos := "law.go:73", after := #[{ on := 0, ground := Ground.data }, { on := 4, ground := Ground.data }], guard := none }) rfl (fun K hK => ?_) AllReadyH.nil
      go_simp
      refine (tinv_madd (HT.out.bel (Bel.refl wr).drew) HSM.out hkl e0 HE0.out HFE.out).mono ?_
      rintro r w5 ⟨rfl, ht⟩
      dsimp only
      have HT5 := Lib.hid ht
      clear ht
      refine hK.out _ _ (cells4 HT5.out.old HCW.out) (fun hHeld => ?_)
      clear hK K
      try simp only [Act.put, List.setIfInBounds_toArray, List.set_cons_zero, List.set_cons_succ]
      refine wpAnyH_ready (rs := [11]) (by kernel_rfl) (by simp) ?_
      refine AllReadyH.cons (o := { dst := some 58, op := Op.call { callee := Callee.value (Operand.func 12), args := #[Operand.tmp 53, Operand.tmp 57], argTypes := #[27, 33] }, type := 30, pos := "law.go:73", after := #[{ on := 6, ground := Ground.data }, { on := 10, ground := Ground.data }, { on := 5, ground := Ground.chain }], guard := none }) rfl (fun K hK => ?_) AllReadyH.nil
      go_simp
      refine (tinv_radd HT5.out HSM.out hkl e0 HE0.out HFE.out).mono ?_
      rintro r w6 ⟨rfl, ht⟩
      dsimp only
      have HT6 := Lib.hid ht
      clear ht
      refine hK.out _ _ (cells4 HT6.out.old HCW.out) (fun hHeld => ?_)
      clear hK K
      try simp only [Act.put, List.setIfInBounds_toArray, List.set_cons_zero, List.set_cons_succ]
      generalize errM (standingB (L0.take k)) e0 = er at *
      refine tk (oi := { dst := some 59, op := Op.binOp BinOp.neq 30 (Operand.tmp 52) (Operand.tmp 58) 30, type := 4, pos := "law.go:73", after := #[{ on := 5, ground := Ground.data }, { on := 11, ground := Ground.data }], guard := none }) (v := ?_) 12 rfl ?_ ?_
      rotate_left
      · (intro w hSw; (try dsimp only at hSw); first | (go_simp; done) | (go_simp; with_reducible rfl))
      try simp only [Act.put, List.setIfInBounds_toArray, List.set_cons_zero, List.set_cons_succ]
      refine tk (oi := { dst := some 60, op := Op.move (Operand.tmp 59), type := 4, pos := "law.go:73", after := #[{ on := 12, ground := Ground.data }, { on := 11, ground := Ground.chain }], guard := none }) (v := ?_) 13 rfl ?_ ?_
      rotate_left
      · (intro w hSw; (try dsimp only at hSw); first | (go_simp; done) | (go_simp; with_reducible rfl))
      try simp only [Act.put, List.setIfInBounds_toArray, List.set_cons_zero, List.set_cons_succ]
      obtain ⟨G6, hr6⟩ := HT6.out.ref
      obtain ⟨p6, c6, l6, -⟩ := hr6.list
      obtain ⟨F6, hm6⟩ := HT6.out.mem
      have HL6 := Lib.hid l6
      have HM6 := Lib.hid hm6; have HR6 := Lib.hid hr6
      have HH6 := Lib.hid (hold_standing hl100 (k + 1))
      have HD6 := Lib.hid (cells4 HT6.out.old HCW.out)
      obtain ⟨C6, hC6⟩ : ∃ C, C = standingB (L0.take (k + 1)) := ⟨_, rfl⟩
      rw [← hC6] at HM6 HR6 HH6 HL6
      clear l6 hm6 hr6 hC6
      refine held_more (S' := fun z => (z.cell? ⟨B, O, sp⟩ = some (.string e0.k) ∧ z.cell? ⟨B, O + 1, none⟩ = some (.int .i64 e0.q) ∧ z.cell? ⟨B, O + 2, none⟩ = some (.bool e0.d) ∧ z.cell? ⟨B, O + 3, none⟩ = some (.string e0.v)) ∧ z.cell? ⟨rb, 0, none⟩ = some (.slice p6 C6.length c6)) (fun z h => h.1) _ _ _ _ ?_
      have hHeld2 : ((w6.cell? ⟨B, O, sp⟩ = some (.string e0.k) ∧ w6.cell? ⟨B, O + 1, none⟩ = some (.int .i64 e0.q) ∧ w6.cell? ⟨B, O + 2, none⟩ = some (.bool e0.d) ∧ w6.cell? ⟨B, O + 3, none⟩ = some (.string e0.v)) ∧ w6.cell? ⟨rb, 0, none⟩ = some (.slice p6 C6.length c6)) := ⟨HD6.out, HL6.out⟩
      refine tk (oi := { dst := some 61, op := Op.move (Operand.tmp 11), type := 25, pos := "law.go:73", after := #[{ on := 13, ground := Ground.guard }], guard := some (13, false) }) (v := ?_) 14 rfl ?_ ?_
      rotate_left
      · (intro w hSw; (try dsimp only at hSw); first | (go_simp; done) | (go_simp; with_reducible rfl))
      try simp only [Act.put, List.setIfInBounds_toArray, List.set_cons_zero, List.set_cons_succ]
      refine tk (oi := { dst := some 63, op := Op.move (Operand.tmp 12), type := 27, pos := "law.go:73", after := #[{ on := 13, ground := Ground.guard }], guard := some (13, false) }) (v := ?_) 16 rfl ?_ ?_
      rotate_left
      · (intro w hSw; (try dsimp only at hSw); first | (go_simp; done) | (go_simp; with_reducible rfl))
      try simp only [Act.put, List.setIfInBounds_toArray, List.set_cons_zero, List.set_cons_succ]
      refine tk (oi := { dst := some 64, op := Op.nilCheck (Operand.tmp 63), type := 0, pos := "law.go:73", after := #[{ on := 16, ground := Ground.data }, { on := 13, ground := Ground.guard }], guard := some (13, false) }) (v := ?_) 17 rfl ?_ ?_
      rotate_left
      · (intro w hSw; (try dsimp only at hSw); first | (go_simp; done) | (go_simp; with_reducible rfl))
      try simp only [Act.put, List.setIfInBounds_toArray, List.set_cons_zero, List.set_cons_succ]
      refine tk (oi := { dst := some 65, op := Op.fieldAddr 29 (Operand.tmp 64) 0, type := 0, pos := "law.go:73", after := #[{ on := 17, ground := Ground.data }, { on := 13, ground := Ground.guard }], guard := some (13, false) }) (v := ?_) 18 rfl ?_ ?_
      rotate_left
      · (intro w hSw; (try dsimp only at hSw); first | (go_simp; done) | (go_simp; with_reducible rfl))
      try simp only [Act.put, List.setIfInBounds_toArray, List.set_cons_zero, List.set_cons_succ]
      refine tk (oi := { dst := some 66, op := Op.load 22 (Operand.tmp 65), type := 22, pos := "law.go:73", after := #[{ on := 18, ground := Ground.data }, { on := 13, ground := Ground.guard }], guard := some (13, false) }) (v := ?_) 19 rfl ?_ ?_
      rotate_left
      · (intro w hSw; (try dsimp only at hSw); first | (go_simp; done) | (go_simp; with_reducible rfl))
      try simp only [Act.put, List.setIfInBounds_toArray, List.set_cons_zero, List.set_cons_succ]
      refine tk (oi := { dst := some 67, op := Op.call { callee := Callee.builtin Builtin.len, args := #[Operand.tmp 66], argTypes := #[22] }, type := 3, pos := "law.go:73", after := #[{ on := 19, ground := Ground.data }, { on := 13, ground := Ground.guard }], guard := some (13, false) }) (v := ?_) 20 rfl ?_ ?_
      rotate_left
      · (intro w hSw; (try dsimp only at hSw); first | (go_simp; done) | (go_simp; with_reducible rfl))
      try simp only [Act.put, List.setIfInBounds_toArray, List.set_cons_zero, List.set_cons_succ]
      refine wpAnyH_ready (rs := [15]) (by kernel_rfl) (by simp) ?_
      refine AllReadyH.cons (o := { dst := some 62, op := Op.call { callee := Callee.value (Operand.func 13), args := #[Operand.tmp 61], argTypes := #[25] }, type := 3, pos := "law.go:73", after := #[{ on := 14, ground := Ground.data }, { on := 13, ground := Ground.chain }, { on := 13, ground := Ground.guard }], guard := some (13, false) }) rfl (fun K hK => ?_) AllReadyH.nil
      go_simp
      refine (KM.len b F6 C6 _ HM6.out HH6.out).mono ?_
      rintro r w7 ⟨rfl, hb⟩
      dsimp only
      have HB7 := Lib.hid hb
      refine hK.out _ _ ⟨cells4 hb HD6.out, cl11 hb HL6.out⟩ (fun hHeld => ?_)
      clear hK K
      try simp only [Act.put, List.setIfInBounds_toArray, List.set_cons_zero, List.set_cons_succ]
      clear hb
      refine tk (oi := { dst := some 68, op := Op.binOp BinOp.neq 3 (Operand.tmp 62) (Operand.tmp 67) 3, type := 4, pos := "law.go:73", after := #[{ on := 15, ground := Ground.data }, { on := 20, ground := Ground.data }, { on := 13, ground := Ground.guard }], guard := some (13, false) }) (v := ?_) 21 rfl ?_ ?_
      rotate_left
      · (intro w hSw; (try dsimp only at hSw); first | (go_simp; done) | (go_simp; with_reducible rfl))
      try simp only [Act.put, List.setIfInBounds_toArray, List.set_cons_zero, List.set_cons_succ]
      refine tk (oi := { dst := some 69, op := Op.pick (Operand.tmp 60) (Operand.const (Value.bool true)) (Operand.tmp 68), type := 4, pos := "law.go:73", after := #[{ on := 13, ground := Ground.data }, { on := 21, ground := Ground.data }], guard := none }) (v := ?_) 22 rfl ?_ ?_
      rotate_left
      · (intro w hSw; (try dsimp only at hSw); first | (go_simp; done) | (go_simp; with_reducible rfl))
      try simp only [Act.put, List.setIfInBounds_toArray, List.set_cons_zero, List.set_cons_succ]
      refine tk (oi := { dst := some 70, op := Op.move (Operand.tmp 69), type := 4, pos := "law.go:73", after := #[{ on := 22, ground := Ground.data }, { on := 15, ground := Ground.chain }], guard := none }) (v := ?_) 23 rfl ?_ ?_
      rotate_left
      · (intro w hSw; (try dsimp only at hSw); first | (go_simp; done) | (go_simp; with_reducible rfl))
      try simp only [Act.put, List.setIfInBounds_toArray, List.set_cons_zero, List.set_cons_succ]
      refine tk (oi := { dst := some 71, op := Op.move (Operand.tmp 11), type := 25, pos := "law.go:73", after := #[{ on := 23, ground := Ground.guard }], guard := some (23, false) }) (v := ?_) 24 rfl ?_ ?_
      rotate_left
      · (intro w hSw; (try dsimp only at hSw); first | (go_simp; done) | (go_simp; with_reducible rfl))
      try simp only [Act.put, List.setIfInBounds_toArray, List.set_cons_zero, List.set_cons_succ]
      refine tk (oi := { dst := some 73, op := Op.move (Operand.tmp 12), type := 27, pos := "law.go:73", after := #[{ on := 23, ground := Ground.guard }], guard := some (23, false) }) (v := ?_) 26 rfl ?_ ?_
      rotate_left
      · (intro w hSw; (try dsimp only at hSw); first | (go_simp; done) | (go_simp; with_reducible rfl))
      try simp only [Act.put, List.setIfInBounds_toArray, List.set_cons_zero, List.set_cons_succ]
      refine wpAnyH_ready (rs := [25]) (by kernel_rfl) (by simp) ?_
      refine AllReadyH.cons (o := { dst := some 72, op := Op.call { callee := Callee.value (Operand.func 14), args := #[Operand.tmp 71], argTypes := #[25] }, type := 3, pos := "law.go:73", after := #[{ on := 24, ground := Ground.data }, { on := 23, ground := Ground.chain }, { on := 23, ground := Ground.guard }], guard := some (23, false) }) rfl (fun K hK => ?_) AllReadyH.nil
      go_simp
      refine (KM.size b F6 C6 _ (KM.bel HM6.out HB7.out) HH6.out).mono ?_
      rintro r w8 ⟨rfl, hb⟩
      dsimp only
      have HB8 := Lib.hid (HB7.out.trans hb)
      clear hb
      refine hK.out _ _ ⟨cells4 HB8.out HD6.out, cl11 HB8.out HL6.out⟩ (fun hHeld => ?_)
      clear hK K
      try simp only [Act.put, List.setIfInBounds_toArray, List.set_cons_zero, List.set_cons_succ]
      refine wpAnyH_ready (rs := [27]) (by kernel_rfl) (by simp) ?_
      refine AllReadyH.cons (o := { dst := some 74, op := Op.call { callee := Callee.value (Operand.func 15), args := #[Operand.tmp 73], argTypes := #[27] }, type := 3, pos := "law.go:73", after := #[{ on := 26, ground := Ground.data }, { on := 25, ground := Ground.chain }, { on := 23, ground := Ground.guard }], guard := some (23, false) }) rfl (fun K hK => ?_) AllReadyH.nil
      go_simp
      refine (rsize_any rb G6 C6 _ (HR6.out.bel HB8.out) HH6.out).mono ?_
      rintro r w9 ⟨rfl, hd⟩
      dsimp only
      have HB9 := Lib.hid (HB8.out.trans hd.bel)
      clear hd
      refine hK.out _ _ ⟨cells4 HB9.out HD6.out, cl11 HB9.out HL6.out⟩ (fun hHeld => ?_)
      clear hK K
      try simp only [Act.put, List.setIfInBounds_toArray, List.set_cons_zero, List.set_cons_succ]
      refine tk (oi := { dst := some 75, op := Op.binOp BinOp.neq 3 (Operand.tmp 72) (Operand.tmp 74) 3, type := 4, pos := "law.go:73", after := #[{ on := 25, ground := Ground.data }, { on := 27, ground := Ground.data }, { on := 23, ground := Ground.guard }], guard := some (23, false) }) (v := ?_) 28 rfl ?_ ?_
      rotate_left
      · (intro w hSw; (try dsimp only at hSw); first | (go_simp; done) | (go_simp; with_reducible rfl))
      try simp only [Act.put, List.setIfInBounds_toArray, List.set_cons_zero, List.set_cons_succ]
      refine tk (oi := { dst := some 76, op := Op.pick (Operand.tmp 70) (Operand.const (Value.bool true)) (Operand.tmp 75), type := 4, pos := "law.go:73", after := #[{ on := 23, ground := Ground.data }, { on := 28, ground := Ground.data }], guard := none }) (v := ?_) 29 rfl ?_ ?_
      rotate_left
      · (intro w hSw; (try dsimp only at hSw); first | (go_simp; done) | (go_simp; with_reducible rfl))
      try simp only [Act.put, List.setIfInBounds_toArray, List.set_cons_zero, List.set_cons_succ]
      refine wpAnyH_done (by kernel_rfl) ?_ _
      clear hHeld hHeld2
      go_wp2_with (fail)
      go_roundw
      case rel => exact ⟨k + 1, hkl, by go_num, HT6.out.bel HB9.out⟩
      case measure => simp [intOf]; omega
    · obtain rfl : k = L0.length := by omega
      obtain ⟨F, G, hat, hr, hfg, hn, hn2, hb⟩ := HT.out
      rw [List.take_length] at hat hr
      obtain ⟨p, cap, hl, hel⟩ := hr.list
      have hH := hold_all hl100
      have HAT := Lib.hid hat; have HL := Lib.hid hl; have HEL0 := Lib.hid hel; have HB4 := Lib.hid hb; have HH := Lib.hid hH
      have hcl := standing_len L0
      have HCF := Lib.hid (holds_fits hH)
      have HCV := Lib.hid (show ∀ e ∈ standingB L0, e.v.size ≤ 1000000 from fun e he => by have := holds_data hH e he; omega)
      obtain ⟨C, hC⟩ : ∃ C, C = standingB L0 := ⟨_, rfl⟩
      rw [← hC] at HAT HL HEL0 HH HCF HCV hcl
      clear hat hr hfg hn hn2 hb hl hel hH HT hC
      have hC1 : C.length ≤ 100000 := by omega
      have hBT : (betE s1.data.toList s2.data.toList C).length ≤ 1000000 := by
        have : (betE s1.data.toList s2.data.toList C).length ≤ C.length := List.length_filter_le _ _
        omega
      have hCT : (citesB C).length ≤ 1000000 := by have := cites_len C; omega
      obtain ⟨BT, hbt⟩ : ∃ BT, BT = betE s1.data.toList s2.data.toList C := ⟨_, rfl⟩
      obtain ⟨CTS, hcts⟩ : ∃ CTS, CTS = citesB C := ⟨_, rfl⟩
      rw [← hbt] at hBT
      rw [← hcts] at hCT
      have HBT := Lib.hid hbt; have HCTS := Lib.hid hcts
      clear hbt hcts
      obtain ⟨o, ho⟩ : ∃ o, o = getE s1.data.toList i3 C := ⟨_, rfl⟩
      have HO := Lib.hid ho.symm
      clear ho
      go_wp2_with (fail)
      refine (MK.get_is (KM := KM) b F C s1 i3 o wr HO.out HAT.out HH.out).mono ?_
      rintro e w5 ⟨rfl, hb⟩
      have HB5 := Lib.hid hb
      clear hb
      have d0 := cl11 (HB5.out.alloc (.cells #[.string (gotB o).k, .int .i64 (gotB o).q, .bool (gotB o).d, .string (gotB o).v] 33)) HL.out
      rw [getM_is]
      obtain ⟨x, hx⟩ : ∃ x, x = gotB o := ⟨_, rfl⟩
      rw [← hx] at d0 ⊢
      have HXO := Lib.hid hx
      clear hx
      obtain ⟨io, hio⟩ : ∃ io, io = o.isSome := ⟨_, rfl⟩
      rw [← hio]
      have HIO := Lib.hid hio
      clear hio
      go_wp2_with (fail)
      obtain ⟨y5, hy5⟩ : ∃ y, y = w5.alloc (.cells #[.string x.k, .int .i64 x.q, .bool x.d, .string x.v] 33) := ⟨_, rfl⟩
      obtain ⟨X, hX⟩ : ∃ X, X = w5.heap.size := ⟨_, rfl⟩
      have HB5y := Lib.hid (show Bel wr y5 by rw [hy5]; exact HB5.out.alloc _)
      have HX := Lib.hid (show y5.cell? ⟨X, 0, none⟩ = some (.string x.k) ∧ y5.cell? ⟨X, 1, none⟩ = some (.int .i64 x.q) ∧ y5.cell? ⟨X, 2, none⟩ = some (.bool x.d) ∧ y5.cell? ⟨X, 3, none⟩ = some (.string x.v) by
        rw [hy5, hX]; exact ⟨(World.cell?_alloc_new ..).trans (by simp), (World.cell?_alloc_new ..).trans (by simp), (World.cell?_alloc_new ..).trans (by simp), (World.cell?_alloc_new ..).trans (by simp)⟩)
      rw [← hy5, ← hX]
      clear hy5 hX d0
      refine (rget_any p cap C s1 i3 y5 (HEL0.out.bel HB5y.out) hC1).mono ?_
      rintro e w6 ⟨rfl, hb⟩
      rw [HO.out, getM_is, ← HXO.out, ← HIO.out]
      have HB6 := Lib.hid hb
      clear hb
      go_wp2_with (fail)
      obtain ⟨y6, hy6⟩ : ∃ y, y = w6.alloc (.cells #[.string x.k, .int .i64 x.q, .bool x.d, .string x.v] 33) := ⟨_, rfl⟩
      obtain ⟨Y, hY⟩ : ∃ Y, Y = w6.heap.size := ⟨_, rfl⟩
      have hb6 : Bel y5 y6 := by rw [hy6]; exact HB6.out.alloc _
      have HY := Lib.hid (show y6.cell? ⟨Y, 0, none⟩ = some (.string x.k) ∧ y6.cell? ⟨Y, 1, none⟩ = some (.int .i64 x.q) ∧ y6.cell? ⟨Y, 2, none⟩ = some (.bool x.d) ∧ y6.cell? ⟨Y, 3, none⟩ = some (.string x.v) by
        rw [hy6, hY]; exact ⟨(World.cell?_alloc_new ..).trans (by simp), (World.cell?_alloc_new ..).trans (by simp), (World.cell?_alloc_new ..).trans (by simp), (World.cell?_alloc_new ..).trans (by simp)⟩)
      have hbr : Bel wr y6 := HB5y.out.trans hb6
      have HAT6 := Lib.hid (KM.bel HAT.out hbr)
      have HEL := Lib.hid (HEL0.out.bel hbr)
      have HY6 := Lib.hid (HB4.out.trans hbr)
      have HX6 := Lib.hid (cells4 hb6 HX.out)
      have HL6 := Lib.hid (cl11 hbr HL.out)
      rw [← hy6, ← hY]
      clear hy6 hY hbr hb6
      have HS := Lib.hid (show ∀ y, Bel y6 y → ((y.cell? ⟨X, 0, none⟩ = some (.string x.k) ∧ y.cell? ⟨X, 1, none⟩ = some (.int .i64 x.q) ∧ y.cell? ⟨X, 2, none⟩ = some (.bool x.d) ∧ y.cell? ⟨X, 3, none⟩ = some (.string x.v)) ∧ (y.cell? ⟨Y, 0, none⟩ = some (.string x.k) ∧ y.cell? ⟨Y, 1, none⟩ = some (.int .i64 x.q) ∧ y.cell? ⟨Y, 2, none⟩ = some (.bool x.d) ∧ y.cell? ⟨Y, 3, none⟩ = some (.string x.v)) ∧ y.cell? ⟨rb, 0, none⟩ = some (.slice p C.length cap)) from fun y hy => ⟨cells4 hy HX6.out, cells4 hy HY.out, cl11 hy HL6.out⟩)
      go_wp2_with (fail)
      refine wp_region_held_drew (S := fun z => (z.cell? ⟨X, 0, none⟩ = some (.string x.k) ∧ z.cell? ⟨X, 1, none⟩ = some (.int .i64 x.q) ∧ z.cell? ⟨X, 2, none⟩ = some (.bool x.d) ∧ z.cell? ⟨X, 3, none⟩ = some (.string x.v)) ∧ (z.cell? ⟨Y, 0, none⟩ = some (.string x.k) ∧ z.cell? ⟨Y, 1, none⟩ = some (.int .i64 x.q) ∧ z.cell? ⟨Y, 2, none⟩ = some (.bool x.d) ∧ z.cell? ⟨Y, 3, none⟩ = some (.string x.v)) ∧ z.cell? ⟨rb, 0, none⟩ = some (.slice p C.length cap)) (by kernel_rfl) (HS.out _ (Bel.refl y6).drew) (fun hHeld => ?_)
      refine tk (oi := { dst := some 94, op := Op.load 33 (Operand.tmp 14), type := 33, pos := "law.go:79", after := #[], guard := none }) (v := ?_) 0 rfl ?_ ?_
      rotate_left
      · (intro w hSw; (try dsimp only at hSw); first | (go_simp; done) | (go_simp; with_reducible rfl))
      try simp only [Act.put, List.setIfInBounds_toArray, List.set_cons_zero, List.set_cons_succ]
      refine tk (oi := { dst := some 95, op := Op.load 33 (Operand.tmp 16), type := 33, pos := "law.go:79", after := #[], guard := none }) (v := ?_) 1 rfl ?_ ?_
      rotate_left
      · (intro w hSw; (try dsimp only at hSw); first | (go_simp; done) | (go_simp; with_reducible rfl))
      try simp only [Act.put, List.setIfInBounds_toArray, List.set_cons_zero, List.set_cons_succ]
      refine tk (oi := { dst := some 96, op := Op.binOp BinOp.eql 33 (Operand.tmp 94) (Operand.tmp 95) 33, type := 4, pos := "law.go:79", after := #[{ on := 0, ground := Ground.data }, { on := 1, ground := Ground.data }], guard := none }) (v := ?_) 2 rfl ?_ ?_
      rotate_left
      · (intro w hSw; (try dsimp only at hSw); first | (go_simp; done) | (go_simp; with_reducible rfl))
      try simp only [Act.put, List.setIfInBounds_toArray, List.set_cons_zero, List.set_cons_succ]
      refine tk (oi := { dst := some 97, op := Op.move (Operand.tmp 96), type := 4, pos := "law.go:79", after := #[{ on := 2, ground := Ground.data }], guard := none }) (v := ?_) 3 rfl ?_ ?_
      rotate_left
      · (intro w hSw; (try dsimp only at hSw); first | (go_simp; done) | (go_simp; with_reducible rfl))
      try simp only [Act.put, List.setIfInBounds_toArray, List.set_cons_zero, List.set_cons_succ]
      refine tk (oi := { dst := some 98, op := Op.move (Operand.tmp 15), type := 4, pos := "law.go:79", after := #[{ on := 3, ground := Ground.guard }], guard := some (3, true) }) (v := ?_) 4 rfl ?_ ?_
      rotate_left
      · (intro w hSw; (try dsimp only at hSw); first | (go_simp; done) | (go_simp; with_reducible rfl))
      try simp only [Act.put, List.setIfInBounds_toArray, List.set_cons_zero, List.set_cons_succ]
      refine tk (oi := { dst := some 99, op := Op.move (Operand.tmp 17), type := 4, pos := "law.go:79", after := #[{ on := 3, ground := Ground.guard }], guard := some (3, true) }) (v := ?_) 5 rfl ?_ ?_
      rotate_left
      · (intro w hSw; (try dsimp only at hSw); first | (go_simp; done) | (go_simp; with_reducible rfl))
      try simp only [Act.put, List.setIfInBounds_toArray, List.set_cons_zero, List.set_cons_succ]
      refine tk (oi := { dst := some 100, op := Op.binOp BinOp.eql 4 (Operand.tmp 98) (Operand.tmp 99) 4, type := 4, pos := "law.go:79", after := #[{ on := 4, ground := Ground.data }, { on := 5, ground := Ground.data }, { on := 3, ground := Ground.guard }], guard := some (3, true) }) (v := ?_) 6 rfl ?_ ?_
      rotate_left
      · (intro w hSw; (try dsimp only at hSw); first | (go_simp; done) | (go_simp; with_reducible rfl))
      try simp only [Act.put, List.setIfInBounds_toArray, List.set_cons_zero, List.set_cons_succ]
      refine tk (oi := { dst := some 101, op := Op.pick (Operand.tmp 97) (Operand.tmp 100) (Operand.const (Value.bool false)), type := 4, pos := "law.go:79", after := #[{ on := 3, ground := Ground.data }, { on := 6, ground := Ground.data }], guard := none }) (v := ?_) 7 rfl ?_ ?_
      rotate_left
      · (intro w hSw; (try dsimp only at hSw); first | (go_simp; done) | (go_simp; with_reducible rfl))
      try simp only [Act.put, List.setIfInBounds_toArray, List.set_cons_zero, List.set_cons_succ]
      refine tk (oi := { dst := some 102, op := Op.move (Operand.tmp 101), type := 4, pos := "law.go:79", after := #[{ on := 7, ground := Ground.data }, { on := 3, ground := Ground.chain }], guard := none }) (v := ?_) 8 rfl ?_ ?_
      rotate_left
      · (intro w hSw; (try dsimp only at hSw); first | (go_simp; done) | (go_simp; with_reducible rfl))
      try simp only [Act.put, List.setIfInBounds_toArray, List.set_cons_zero, List.set_cons_succ]
      refine tk (oi := { dst := some 103, op := Op.move (Operand.tmp 11), type := 25, pos := "law.go:79", after := #[{ on := 8, ground := Ground.guard }], guard := some (8, true) }) (v := ?_) 9 rfl ?_ ?_
      rotate_left
      · (intro w hSw; (try dsimp only at hSw); first | (go_simp; done) | (go_simp; with_reducible rfl))
      try simp only [Act.put, List.setIfInBounds_toArray, List.set_cons_zero, List.set_cons_succ]
      refine tk (oi := { dst := some 104, op := Op.move (Operand.tmp 1), type := 9, pos := "law.go:79", after := #[{ on := 8, ground := Ground.guard }], guard := some (8, true) }) (v := ?_) 10 rfl ?_ ?_
      rotate_left
      · (intro w hSw; (try dsimp only at hSw); first | (go_simp; done) | (go_simp; with_reducible rfl))
      try simp only [Act.put, List.setIfInBounds_toArray, List.set_cons_zero, List.set_cons_succ]
      refine tk (oi := { dst := some 105, op := Op.move (Operand.tmp 2), type := 9, pos := "law.go:79", after := #[{ on := 8, ground := Ground.guard }], guard := some (8, true) }) (v := ?_) 11 rfl ?_ ?_
      rotate_left
      · (intro w hSw; (try dsimp only at hSw); first | (go_simp; done) | (go_simp; with_reducible rfl))
      try simp only [Act.put, List.setIfInBounds_toArray, List.set_cons_zero, List.set_cons_succ]
      refine tk (oi := { dst := some 107, op := Op.move (Operand.tmp 12), type := 27, pos := "law.go:79", after := #[{ on := 8, ground := Ground.guard }], guard := some (8, true) }) (v := ?_) 13 rfl ?_ ?_
      rotate_left
      · (intro w hSw; (try dsimp only at hSw); first | (go_simp; done) | (go_simp; with_reducible rfl))
      try simp only [Act.put, List.setIfInBounds_toArray, List.set_cons_zero, List.set_cons_succ]
      refine tk (oi := { dst := some 108, op := Op.nilCheck (Operand.tmp 107), type := 0, pos := "law.go:79", after := #[{ on := 13, ground := Ground.data }, { on := 8, ground := Ground.guard }], guard := some (8, true) }) (v := ?_) 14 rfl ?_ ?_
      rotate_left
      · (intro w hSw; (try dsimp only at hSw); first | (go_simp; done) | (go_simp; with_reducible rfl))
      try simp only [Act.put, List.setIfInBounds_toArray, List.set_cons_zero, List.set_cons_succ]
      refine tk (oi := { dst := some 109, op := Op.fieldAddr 29 (Operand.tmp 108) 0, type := 0, pos := "law.go:79", after := #[{ on := 14, ground := Ground.data }, { on := 8, ground := Ground.guard }], guard := some (8, true) }) (v := ?_) 15 rfl ?_ ?_
      rotate_left
      · (intro w hSw; (try dsimp only at hSw); first | (go_simp; done) | (go_simp; with_reducible rfl))
      try simp only [Act.put, List.setIfInBounds_toArray, List.set_cons_zero, List.set_cons_succ]
      refine tk (oi := { dst := some 110, op := Op.load 22 (Operand.tmp 109), type := 22, pos := "law.go:79", after := #[{ on := 15, ground := Ground.data }, { on := 8, ground := Ground.guard }], guard := some (8, true) }) (v := ?_) 16 rfl ?_ ?_
      rotate_left
      · (intro w hSw; (try dsimp only at hSw); first | (go_simp; done) | (go_simp; with_reducible rfl))
      try simp only [Act.put, List.setIfInBounds_toArray, List.set_cons_zero, List.set_cons_succ]
      refine tk (oi := { dst := some 111, op := Op.move (Operand.tmp 1), type := 9, pos := "law.go:79", after := #[{ on := 8, ground := Ground.guard }], guard := some (8, true) }) (v := ?_) 17 rfl ?_ ?_
      rotate_left
      · (intro w hSw; (try dsimp only at hSw); first | (go_simp; done) | (go_simp; with_reducible rfl))
      try simp only [Act.put, List.setIfInBounds_toArray, List.set_cons_zero, List.set_cons_succ]
      refine tk (oi := { dst := some 112, op := Op.move (Operand.tmp 2), type := 9, pos := "law.go:79", after := #[{ on := 8, ground := Ground.guard }], guard := some (8, true) }) (v := ?_) 18 rfl ?_ ?_
      rotate_left
      · (intro w hSw; (try dsimp only at hSw); first | (go_simp; done) | (go_simp; with_reducible rfl))
      try simp only [Act.put, List.setIfInBounds_toArray, List.set_cons_zero, List.set_cons_succ]
      refine wpAnyH_ready (rs := [12]) (by kernel_rfl) (by simp) ?_
      refine AllReadyH.cons (o := { dst := some 106, op := Op.call { callee := Callee.value (Operand.func 19), args := #[Operand.tmp 103, Operand.tmp 104, Operand.tmp 105], argTypes := #[25, 9, 9] }, type := 22, pos := "law.go:79", after := #[{ on := 9, ground := Ground.data }, { on := 10, ground := Ground.data }, { on := 11, ground := Ground.data }, { on := 8, ground := Ground.chain }, { on := 8, ground := Ground.guard }], guard := some (8, true) }) rfl (fun K hK => ?_) AllReadyH.nil
      go_simp
      refine (KM.between b F C s1 s2 _ (KM.bel HAT6.out (Bel.refl y6).drew) HH.out).mono ?_
      rintro r z1 ⟨v1, rfl, ho, hb⟩
      dsimp only
      have HB1z := Lib.hid ((Bel.refl y6).drew.trans hb)
      rw [← HBT.out] at ho
      obtain ⟨q1, c1, rfl, he1⟩ := ownG_ents ho
      have HE1 := Lib.hid he1
      clear ho hb he1
      refine hK.out _ _ (HS.out _ HB1z.out) (fun hHeld => ?_)
      clear hK K
      try simp only [Act.put, List.setIfInBounds_toArray, List.set_cons_zero, List.set_cons_succ]
      refine wpAnyH_ready (rs := [19]) (by kernel_rfl) (by simp) ?_
      refine AllReadyH.cons (o := { dst := some 113, op := Op.call { callee := Callee.value (Operand.func 20), args := #[Operand.tmp 110, Operand.tmp 111, Operand.tmp 112], argTypes := #[22, 9, 9] }, type := 22, pos := "law.go:79", after := #[{ on := 16, ground := Ground.data }, { on := 17, ground := Ground.data }, { on := 18, ground := Ground.data }, { on := 12, ground := Ground.chain }, { on := 8, ground := Ground.guard }], guard := some (8, true) }) rfl (fun K hK => ?_) AllReadyH.nil
      go_simp
      refine (rbet_any p cap C s1 s2 _ (HEL.out.bel HB1z.out) hC1 HCF.out hs1 hs2).mono ?_
      rintro r z2 ⟨v2, rfl, ho, hb⟩
      dsimp only
      have HB2z := Lib.hid (HB1z.out.trans hb)
      rw [← HBT.out] at ho
      obtain ⟨q2, c2, rfl, he2⟩ := ownG_ents ho
      have HE2 := Lib.hid he2
      have HE12 := Lib.hid (HE1.out.bel hb)
      clear ho hb he2
      refine hK.out _ _ (HS.out _ HB2z.out) (fun hHeld => ?_)
      clear hK K
      try simp only [Act.put, List.setIfInBounds_toArray, List.set_cons_zero, List.set_cons_succ]
      refine wpAnyH_ready (rs := [20]) (by kernel_rfl) (by simp) ?_
      refine AllReadyH.cons (o := { dst := some 114, op := Op.call { callee := Callee.value (Operand.func 18), args := #[Operand.tmp 106, Operand.tmp 113], argTypes := #[22, 22] }, type := 4, pos := "law.go:79", after := #[{ on := 12, ground := Ground.data }, { on := 19, ground := Ground.data }, { on := 19, ground := Ground.chain }, { on := 8, ground := Ground.guard }], guard := some (8, true) }) rfl (fun K hK => ?_) AllReadyH.nil
      go_simp
      refine (same11_at q1 q2 _ _ c1 c2 BT z2 HE12.out HE2.out hBT rfl rfl).mono ?_
      rintro r z3 ⟨rfl, hd⟩
      dsimp only
      have HB3z := Lib.hid (HB2z.out.trans hd.bel)
      clear hd
      refine hK.out _ _ (HS.out _ HB3z.out) (fun hHeld => ?_)
      clear hK K
      try simp only [Act.put, List.setIfInBounds_toArray, List.set_cons_zero, List.set_cons_succ]
      refine tk (oi := { dst := some 115, op := Op.pick (Operand.tmp 102) (Operand.tmp 114) (Operand.const (Value.bool false)), type := 4, pos := "law.go:79", after := #[{ on := 8, ground := Ground.data }, { on := 20, ground := Ground.data }], guard := none }) (v := ?_) 21 rfl ?_ ?_
      rotate_left
      · (intro w hSw; (try dsimp only at hSw); first | (go_simp; done) | (go_simp; with_reducible rfl))
      try simp only [Act.put, List.setIfInBounds_toArray, List.set_cons_zero, List.set_cons_succ]
      refine tk (oi := { dst := some 116, op := Op.move (Operand.tmp 115), type := 4, pos := "law.go:79", after := #[{ on := 21, ground := Ground.data }, { on := 20, ground := Ground.chain }], guard := none }) (v := ?_) 22 rfl ?_ ?_
      rotate_left
      · (intro w hSw; (try dsimp only at hSw); first | (go_simp; done) | (go_simp; with_reducible rfl))
      try simp only [Act.put, List.setIfInBounds_toArray, List.set_cons_zero, List.set_cons_succ]
      refine tk (oi := { dst := some 117, op := Op.move (Operand.tmp 11), type := 25, pos := "law.go:79", after := #[{ on := 22, ground := Ground.guard }], guard := some (22, true) }) (v := ?_) 23 rfl ?_ ?_
      rotate_left
      · (intro w hSw; (try dsimp only at hSw); first | (go_simp; done) | (go_simp; with_reducible rfl))
      try simp only [Act.put, List.setIfInBounds_toArray, List.set_cons_zero, List.set_cons_succ]
      refine tk (oi := { dst := some 119, op := Op.move (Operand.tmp 12), type := 27, pos := "law.go:79", after := #[{ on := 22, ground := Ground.guard }], guard := some (22, true) }) (v := ?_) 25 rfl ?_ ?_
      rotate_left
      · (intro w hSw; (try dsimp only at hSw); first | (go_simp; done) | (go_simp; with_reducible rfl))
      try simp only [Act.put, List.setIfInBounds_toArray, List.set_cons_zero, List.set_cons_succ]
      refine tk (oi := { dst := some 120, op := Op.nilCheck (Operand.tmp 119), type := 0, pos := "law.go:79", after := #[{ on := 25, ground := Ground.data }, { on := 22, ground := Ground.guard }], guard := some (22, true) }) (v := ?_) 26 rfl ?_ ?_
      rotate_left
      · (intro w hSw; (try dsimp only at hSw); first | (go_simp; done) | (go_simp; with_reducible rfl))
      try simp only [Act.put, List.setIfInBounds_toArray, List.set_cons_zero, List.set_cons_succ]
      refine tk (oi := { dst := some 121, op := Op.fieldAddr 29 (Operand.tmp 120) 0, type := 0, pos := "law.go:79", after := #[{ on := 26, ground := Ground.data }, { on := 22, ground := Ground.guard }], guard := some (22, true) }) (v := ?_) 27 rfl ?_ ?_
      rotate_left
      · (intro w hSw; (try dsimp only at hSw); first | (go_simp; done) | (go_simp; with_reducible rfl))
      try simp only [Act.put, List.setIfInBounds_toArray, List.set_cons_zero, List.set_cons_succ]
      refine tk (oi := { dst := some 122, op := Op.load 22 (Operand.tmp 121), type := 22, pos := "law.go:79", after := #[{ on := 27, ground := Ground.data }, { on := 22, ground := Ground.guard }], guard := some (22, true) }) (v := ?_) 28 rfl ?_ ?_
      rotate_left
      · (intro w hSw; (try dsimp only at hSw); first | (go_simp; done) | (go_simp; with_reducible rfl))
      try simp only [Act.put, List.setIfInBounds_toArray, List.set_cons_zero, List.set_cons_succ]
      refine wpAnyH_ready (rs := [24]) (by kernel_rfl) (by simp) ?_
      refine AllReadyH.cons (o := { dst := some 118, op := Op.call { callee := Callee.value (Operand.func 19), args := #[Operand.tmp 117, Operand.const (Value.string { data := #[] }), Operand.const (Value.string { data := #[] })], argTypes := #[25, 9, 9] }, type := 22, pos := "law.go:79", after := #[{ on := 23, ground := Ground.data }, { on := 22, ground := Ground.chain }, { on := 22, ground := Ground.guard }], guard := some (22, true) }) rfl (fun K hK => ?_) AllReadyH.nil
      go_simp
      refine (MK.all (KM := KM) b F C _ (KM.bel HAT6.out HB3z.out) HH.out).mono ?_
      rintro r z4 ⟨q4, c4, rfl, he4, hb⟩
      dsimp only
      have HB4z := Lib.hid (HB3z.out.trans hb)
      have HE4 := Lib.hid he4
      clear hb he4
      refine hK.out _ _ (HS.out _ HB4z.out) (fun hHeld => ?_)
      clear hK K
      try simp only [Act.put, List.setIfInBounds_toArray, List.set_cons_zero, List.set_cons_succ]
      refine wpAnyH_ready (rs := [29]) (by kernel_rfl) (by simp) ?_
      refine AllReadyH.cons (o := { dst := some 123, op := Op.call { callee := Callee.value (Operand.func 18), args := #[Operand.tmp 118, Operand.tmp 122], argTypes := #[22, 22] }, type := 4, pos := "law.go:79", after := #[{ on := 24, ground := Ground.data }, { on := 28, ground := Ground.data }, { on := 24, ground := Ground.chain }, { on := 22, ground := Ground.guard }], guard := some (22, true) }) rfl (fun K hK => ?_) AllReadyH.nil
      go_simp
      refine (same11_at q4 p _ _ c4 cap C z4 HE4.out (HEL.out.bel HB4z.out) (by omega) rfl rfl).mono ?_
      rintro r z5 ⟨rfl, hd⟩
      dsimp only
      have HB5z := Lib.hid (HB4z.out.trans hd.bel)
      clear hd
      refine hK.out _ _ (HS.out _ HB5z.out) (fun hHeld => ?_)
      clear hK K
      try simp only [Act.put, List.setIfInBounds_toArray, List.set_cons_zero, List.set_cons_succ]
      refine tk (oi := { dst := some 124, op := Op.pick (Operand.tmp 116) (Operand.tmp 123) (Operand.const (Value.bool false)), type := 4, pos := "law.go:79", after := #[{ on := 22, ground := Ground.data }, { on := 29, ground := Ground.data }], guard := none }) (v := ?_) 30 rfl ?_ ?_
      rotate_left
      · (intro w hSw; (try dsimp only at hSw); first | (go_simp; done) | (go_simp; with_reducible rfl))
      try simp only [Act.put, List.setIfInBounds_toArray, List.set_cons_zero, List.set_cons_succ]
      refine tk (oi := { dst := some 125, op := Op.move (Operand.tmp 124), type := 4, pos := "law.go:79", after := #[{ on := 30, ground := Ground.data }, { on := 29, ground := Ground.chain }], guard := none }) (v := ?_) 31 rfl ?_ ?_
      rotate_left
      · (intro w hSw; (try dsimp only at hSw); first | (go_simp; done) | (go_simp; with_reducible rfl))
      try simp only [Act.put, List.setIfInBounds_toArray, List.set_cons_zero, List.set_cons_succ]
      refine tk (oi := { dst := some 126, op := Op.move (Operand.tmp 11), type := 25, pos := "law.go:79", after := #[{ on := 31, ground := Ground.guard }], guard := some (31, true) }) (v := ?_) 32 rfl ?_ ?_
      rotate_left
      · (intro w hSw; (try dsimp only at hSw); first | (go_simp; done) | (go_simp; with_reducible rfl))
      try simp only [Act.put, List.setIfInBounds_toArray, List.set_cons_zero, List.set_cons_succ]
      refine tk (oi := { dst := some 128, op := Op.move (Operand.tmp 12), type := 27, pos := "law.go:79", after := #[{ on := 31, ground := Ground.guard }], guard := some (31, true) }) (v := ?_) 34 rfl ?_ ?_
      rotate_left
      · (intro w hSw; (try dsimp only at hSw); first | (go_simp; done) | (go_simp; with_reducible rfl))
      try simp only [Act.put, List.setIfInBounds_toArray, List.set_cons_zero, List.set_cons_succ]
      refine tk (oi := { dst := some 129, op := Op.nilCheck (Operand.tmp 128), type := 0, pos := "law.go:79", after := #[{ on := 34, ground := Ground.data }, { on := 31, ground := Ground.guard }], guard := some (31, true) }) (v := ?_) 35 rfl ?_ ?_
      rotate_left
      · (intro w hSw; (try dsimp only at hSw); first | (go_simp; done) | (go_simp; with_reducible rfl))
      try simp only [Act.put, List.setIfInBounds_toArray, List.set_cons_zero, List.set_cons_succ]
      refine tk (oi := { dst := some 130, op := Op.fieldAddr 29 (Operand.tmp 129) 0, type := 0, pos := "law.go:79", after := #[{ on := 35, ground := Ground.data }, { on := 31, ground := Ground.guard }], guard := some (31, true) }) (v := ?_) 36 rfl ?_ ?_
      rotate_left
      · (intro w hSw; (try dsimp only at hSw); first | (go_simp; done) | (go_simp; with_reducible rfl))
      try simp only [Act.put, List.setIfInBounds_toArray, List.set_cons_zero, List.set_cons_succ]
      refine tk (oi := { dst := some 131, op := Op.load 22 (Operand.tmp 130), type := 22, pos := "law.go:79", after := #[{ on := 36, ground := Ground.data }, { on := 31, ground := Ground.guard }], guard := some (31, true) }) (v := ?_) 37 rfl ?_ ?_
      rotate_left
      · (intro w hSw; (try dsimp only at hSw); first | (go_simp; done) | (go_simp; with_reducible rfl))
      try simp only [Act.put, List.setIfInBounds_toArray, List.set_cons_zero, List.set_cons_succ]
      refine wpAnyH_ready (rs := [33]) (by kernel_rfl) (by simp) ?_
      refine AllReadyH.cons (o := { dst := some 127, op := Op.call { callee := Callee.value (Operand.func 22), args := #[Operand.tmp 126], argTypes := #[25] }, type := 42, pos := "law.go:79", after := #[{ on := 32, ground := Ground.data }, { on := 31, ground := Ground.chain }, { on := 31, ground := Ground.guard }], guard := some (31, true) }) rfl (fun K hK => ?_) AllReadyH.nil
      go_simp
      refine (KM.cites b F C _ (KM.bel HAT6.out HB5z.out) HH.out).mono ?_
      rintro r z6 ⟨v6, rfl, ho, hb⟩
      dsimp only
      have HB6z := Lib.hid (HB5z.out.trans hb)
      rw [← HCTS.out] at ho
      obtain ⟨q6, c6, rfl, he6⟩ := ownG_cts ho
      have HE6 := Lib.hid he6
      clear ho hb he6
      refine hK.out _ _ (HS.out _ HB6z.out) (fun hHeld => ?_)
      clear hK K
      try simp only [Act.put, List.setIfInBounds_toArray, List.set_cons_zero, List.set_cons_succ]
      refine wpAnyH_ready (rs := [38]) (by kernel_rfl) (by simp) ?_
      refine AllReadyH.cons (o := { dst := some 132, op := Op.call { callee := Callee.value (Operand.func 23), args := #[Operand.tmp 131], argTypes := #[22] }, type := 42, pos := "law.go:79", after := #[{ on := 37, ground := Ground.data }, { on := 33, ground := Ground.chain }, { on := 31, ground := Ground.guard }], guard := some (31, true) }) rfl (fun K hK => ?_) AllReadyH.nil
      go_simp
      refine (rcites_any p cap C _ (HEL.out.bel HB6z.out) hC1 HCV.out).mono ?_
      rintro r z7 ⟨v7, rfl, ho, hb⟩
      dsimp only
      have HB7z := Lib.hid (HB6z.out.trans hb)
      rw [← HCTS.out] at ho
      obtain ⟨q7, c7, rfl, he7⟩ := ownG_cts ho
      have HE7 := Lib.hid he7
      have HE67 := Lib.hid (HE6.out.bel hb)
      clear ho hb he7
      refine hK.out _ _ (HS.out _ HB7z.out) (fun hHeld => ?_)
      clear hK K
      try simp only [Act.put, List.setIfInBounds_toArray, List.set_cons_zero, List.set_cons_succ]
      refine wpAnyH_ready (rs := [39]) (by kernel_rfl) (by simp) ?_
      refine AllReadyH.cons (o := { dst := some 133, op := Op.call { callee := Callee.value (Operand.func 21), args := #[Operand.tmp 127, Operand.tmp 132], argTypes := #[42, 42] }, type := 4, pos := "law.go:79", after := #[{ on := 33, ground := Ground.data }, { on := 38, ground := Ground.data }, { on := 38, ground := Ground.chain }, { on := 31, ground := Ground.guard }], guard := some (31, true) }) rfl (fun K hK => ?_) AllReadyH.nil
      go_simp
      refine (samecites11_at q6 q7 _ _ c6 c7 CTS z7 HE67.out HE7.out hCT rfl rfl).mono ?_
      rintro r z8 ⟨rfl, hd⟩
      dsimp only
      have HB8z := Lib.hid (HB7z.out.trans hd.bel)
      clear hd
      refine hK.out _ _ (HS.out _ HB8z.out) (fun hHeld => ?_)
      clear hK K
      try simp only [Act.put, List.setIfInBounds_toArray, List.set_cons_zero, List.set_cons_succ]
      refine tk (oi := { dst := some 134, op := Op.pick (Operand.tmp 125) (Operand.tmp 133) (Operand.const (Value.bool false)), type := 4, pos := "law.go:79", after := #[{ on := 31, ground := Ground.data }, { on := 39, ground := Ground.data }], guard := none }) (v := ?_) 40 rfl ?_ ?_
      rotate_left
      · (intro w hSw; (try dsimp only at hSw); first | (go_simp; done) | (go_simp; with_reducible rfl))
      try simp only [Act.put, List.setIfInBounds_toArray, List.set_cons_zero, List.set_cons_succ]
      refine tk (oi := { dst := some 8, op := Op.assign (Operand.tmp 134), type := 4, pos := "law.go:79", after := #[{ on := 40, ground := Ground.data }, { on := 39, ground := Ground.chain }, { on := 0, ground := Ground.phase }, { on := 1, ground := Ground.phase }, { on := 2, ground := Ground.phase }, { on := 3, ground := Ground.phase }, { on := 4, ground := Ground.phase }, { on := 5, ground := Ground.phase }, { on := 6, ground := Ground.phase }, { on := 7, ground := Ground.phase }, { on := 8, ground := Ground.phase }, { on := 9, ground := Ground.phase }, { on := 10, ground := Ground.phase }, { on := 11, ground := Ground.phase }, { on := 12, ground := Ground.phase }, { on := 13, ground := Ground.phase }, { on := 14, ground := Ground.phase }, { on := 15, ground := Ground.phase }, { on := 16, ground := Ground.phase }, { on := 17, ground := Ground.phase }, { on := 18, ground := Ground.phase }, { on := 19, ground := Ground.phase }, { on := 20, ground := Ground.phase }, { on := 21, ground := Ground.phase }, { on := 22, ground := Ground.phase }, { on := 23, ground := Ground.phase }, { on := 24, ground := Ground.phase }, { on := 25, ground := Ground.phase }, { on := 26, ground := Ground.phase }, { on := 27, ground := Ground.phase }, { on := 28, ground := Ground.phase }, { on := 29, ground := Ground.phase }, { on := 30, ground := Ground.phase }, { on := 31, ground := Ground.phase }, { on := 32, ground := Ground.phase }, { on := 33, ground := Ground.phase }, { on := 34, ground := Ground.phase }, { on := 35, ground := Ground.phase }, { on := 36, ground := Ground.phase }, { on := 37, ground := Ground.phase }, { on := 38, ground := Ground.phase }, { on := 39, ground := Ground.phase }, { on := 40, ground := Ground.phase }], guard := none }) (v := ?_) 41 rfl ?_ ?_
      rotate_left
      · (intro w hSw; (try dsimp only at hSw); first | (go_simp; done) | (go_simp; with_reducible rfl))
      try simp only [Act.put, List.setIfInBounds_toArray, List.set_cons_zero, List.set_cons_succ]
      refine wpAnyH_done (by kernel_rfl) ?_ _
      clear hHeld
      go_wp2_with (fail)
      go_ret
      exact ⟨rfl, HY6.out.trans HB8z.out⟩
end Go.Proofs.Yteimllgoelleeaa
