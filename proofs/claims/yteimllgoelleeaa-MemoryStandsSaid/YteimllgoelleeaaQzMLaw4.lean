/- MemoryStands. -/
import Derived.Test.YteimllgoelleeaaQ11
import Derived.Test.YteimllgoelleeaaQ8
import Derived.Test.YteimllgoelleeaaQ2
set_option linter.unusedSimpArgs false
set_option linter.unusedVariables false
namespace Go.Proofs.Yteimllgoelleeaa
open Go.RowKit Go.Deep

theorem set4 {w : World} {g : Nat} {e : EB} {a0 a1 a2 a3 : Value} (h0 : w.cell? ⟨g, 0, none⟩ = some a0) (h1 : w.cell? ⟨g, 1, none⟩ = some a1) (h2 : w.cell? ⟨g, 2, none⟩ = some a2) (h3 : w.cell? ⟨g, 3, none⟩ = some a3) :
    ((((w.setCell ⟨g, 0, none⟩ (.string e.k)).setCell ⟨g, 1, none⟩ (.int .i64 e.q)).setCell ⟨g, 2, none⟩ (.bool e.d)).setCell ⟨g, 3, none⟩ (.string e.v)).cell? ⟨g, 0, none⟩ = some (.string e.k) ∧
    ((((w.setCell ⟨g, 0, none⟩ (.string e.k)).setCell ⟨g, 1, none⟩ (.int .i64 e.q)).setCell ⟨g, 2, none⟩ (.bool e.d)).setCell ⟨g, 3, none⟩ (.string e.v)).cell? ⟨g, 1, none⟩ = some (.int .i64 e.q) ∧
    ((((w.setCell ⟨g, 0, none⟩ (.string e.k)).setCell ⟨g, 1, none⟩ (.int .i64 e.q)).setCell ⟨g, 2, none⟩ (.bool e.d)).setCell ⟨g, 3, none⟩ (.string e.v)).cell? ⟨g, 2, none⟩ = some (.bool e.d) ∧
    ((((w.setCell ⟨g, 0, none⟩ (.string e.k)).setCell ⟨g, 1, none⟩ (.int .i64 e.q)).setCell ⟨g, 2, none⟩ (.bool e.d)).setCell ⟨g, 3, none⟩ (.string e.v)).cell? ⟨g, 3, none⟩ = some (.string e.v) := by
  have n01 : (⟨g, 1, none⟩ : Addr) ≠ ⟨g, 0, none⟩ := by simp
  have n02 : (⟨g, 2, none⟩ : Addr) ≠ ⟨g, 0, none⟩ := by simp
  have n03 : (⟨g, 3, none⟩ : Addr) ≠ ⟨g, 0, none⟩ := by simp
  have n12 : (⟨g, 2, none⟩ : Addr) ≠ ⟨g, 1, none⟩ := by simp
  have n13 : (⟨g, 3, none⟩ : Addr) ≠ ⟨g, 1, none⟩ := by simp
  have n23 : (⟨g, 3, none⟩ : Addr) ≠ ⟨g, 2, none⟩ := by simp
  refine ⟨?_, ?_, ?_, ?_⟩
  · rw [World.cell?_setCell_other _ _ _ _ n03, World.cell?_setCell_other _ _ _ _ n02, World.cell?_setCell_other _ _ _ _ n01]
    exact World.cell?_setCell_same _ _ _ h0
  · rw [World.cell?_setCell_other _ _ _ _ n13, World.cell?_setCell_other _ _ _ _ n12]
    exact World.cell?_setCell_same _ _ _ (u := a1) ((World.cell?_setCell_other _ _ _ _ (fun h => n01 h.symm)).trans h1)
  · rw [World.cell?_setCell_other _ _ _ _ n23]
    exact World.cell?_setCell_same _ _ _ (u := a2) ((World.cell?_setCell_other _ _ _ _ (fun h => n12 h.symm)).trans ((World.cell?_setCell_other _ _ _ _ (fun h => n02 h.symm)).trans h2))
  · exact World.cell?_setCell_same _ _ _ (u := a3) ((World.cell?_setCell_other _ _ _ _ (fun h => n23 h.symm)).trans ((World.cell?_setCell_other _ _ _ _ (fun h => n13 h.symm)).trans ((World.cell?_setCell_other _ _ _ _ (fun h => n03 h.symm)).trans h3)))
theorem add_cases (C : List EB) (hp : C.Pairwise (fun a b => lessB a b = true)) (e : EB) :
    (errM C e = 0 ∧ (stepS C e).length = C.length + 1 ∧ sizeM (stepS C e) = sizeM C + e.k.size + e.v.size ∧ e ∈ stepS C e) ∨ ((errM C e = 1 ∨ errM C e = 5) ∧ stepS C e = C) := by
  cases hr : rightB e with
  | false => obtain ⟨h1, h2⟩ := err_arg (C := C) hr; exact Or.inr ⟨Or.inl h1, h2⟩
  | true =>
    by_cases hh : ∃ c ∈ C, sameB c e
    · obtain ⟨h1, h2⟩ := err_there hp hr hh; exact Or.inr ⟨Or.inr h1, h2⟩
    · obtain ⟨h1, h2⟩ := err_ok hr hh
      have hn : ∀ c ∈ C, ¬ sameB c e := fun c hc hs => hh ⟨c, hc, hs⟩
      obtain ⟨i1, i2⟩ := ins_new hn
      exact Or.inl ⟨h1, by rw [h2, i1], by rw [h2, size_ins hn], by rw [h2]; exact (i2 e).2 (Or.inl rfl)⟩
theorem size_small {L : List EB} (h : Small11 L) (k : Nat) : sizeM (standingB (L.take k)) ≤ 350000 := by
  have h1 := size_le (m := 3500) (l := standingB (L.take k)) fun e he => by
    obtain ⟨j, hj, rfl⟩ := List.mem_iff_getElem.1 (List.mem_of_mem_take (standing_mem he))
    have := h.2 j hj
    omega
  have h2 := standing_len (L.take k)
  rw [List.length_take] at h2
  have h3 := h.1
  generalize (standingB (L.take k)).length = n at *
  omega
set_option maxHeartbeats 8000000 in
set_option maxRecDepth 20000 in
theorem law_stands_any {KM : MK} (W : World) (hok : KM.Ok W) (a0 : Option Addr) (cap0 : Nat) (L0 : List EB) (hi0 : EntsAt W a0 L0) (hl0 : L0.length ≤ maxLen) (hs0 : fitsL L0) :
    Calls Try.prog 5 #[.slice a0 L0.length cap0] W fun e w' => e = .returned (.bool true) ∧ Bel W w' := by
  have HM := Lib.hid hok; have HI := Lib.hid hi0; have HF := Lib.hid hs0
  clear hok hi0 hs0
  unfold maxLen at hl0
  go_enter Try.func5, Try.ntmps5
  go_wp2_with (fail)
  refine (shown11_any W HM.out).mono ?_
  rintro e w1 ⟨rfl, hb⟩
  have HB1 := Lib.hid hb; clear hb
  go_wp2_with (fail)
  refine (small11_any a0 cap0 L0 w1 (HI.out.bel HB1.out) (by omega) HF.out).mono ?_
  rintro e w2 ⟨hd, hres⟩
  have HB2 := Lib.hid (HB1.out.trans hd.bel); clear hd
  rcases hres with ⟨hsm, rfl⟩ | rfl
  · have hl100 := hsm.1
    have HSM := Lib.hid hsm
    clear hsm
    go_wp2_with (fail)
    refine (KM.new w2 (KM.okBel HM.out HB2.out)).mono ?_
    rintro e w3 ⟨b, F, rfl, hat, hn, hb⟩
    have HV := Lib.hid (MInv.start (L := L0) hat hn HB2.out hb)
    clear hat hn hb
    go_wp2_with (fail)
    go_loopw [6, 7, 8] (fun av zv iv x => ∃ k : Nat, k ≤ L0.length ∧ iv = .int .i64 k ∧ av = .int .i64 ((standingB (L0.take k)).length : Nat) ∧ zv = .int .i64 (sizeM (standingB (L0.take k)) : Nat) ∧ MInv KM W L0 b k x) (fun _ _ iv _ => L0.length - (intOf iv).toNat)
    case atStart => exact ⟨0, Nat.zero_le _, rfl, rfl, rfl, HV.out⟩
    case round =>
      obtain ⟨k, hk, rfl, rfl, rfl, hv⟩ := hrel
      have HVK := Lib.hid hv
      clear hv
      by_cases hkl : k < L0.length
      · obtain ⟨a, e0, rfl, he0, B, O, sp, ha, c0, c1, c2, c3⟩ := (HI.out.bel HVK.out.old).get hkl
        have HADD := Lib.hid (minv_add HVK.out HSM.out hkl e0 he0 (by rw [he0]; exact fits_at HF.out hkl))
        have HFE := Lib.hid (show e0.fits by rw [he0]; exact fits_at HF.out hkl)
        have HN := Lib.hid (standing_take hkl e0 he0)
        have HCS := Lib.hid (add_cases (standingB (L0.take k)) (standing_pair _) e0)
        have HHN := Lib.hid (hold_standing hl100 (k + 1))
        have HPN := Lib.hid (standing_pair (L0.take (k + 1)))
        have hcl := (hold_standing hl100 k).2
        have hcz := size_small HSM.out k
        have hcz2 := size_small HSM.out (k + 1)
        have hks := HSM.out.2 k hkl
        rw [← he0] at hks
        obtain ⟨hks1, hks2⟩ := hks
        rw [HN.out] at HHN HPN hcz2
        obtain ⟨ix, hix⟩ : ∃ ix, ix = L0.take k := ⟨_, rfl⟩
        obtain ⟨C, hC⟩ : ∃ C, C = standingB (L0.take k) := ⟨_, rfl⟩
        rw [← hC] at HADD HN HCS HHN HPN hcl hcz hcz2 ⊢
        have HE0 := Lib.hid he0
        clear he0 hC hix ix
        obtain ⟨n, hn⟩ : ∃ n, n = C.length := ⟨_, rfl⟩
        obtain ⟨m, hm⟩ : ∃ m, m = sizeM C := ⟨_, rfl⟩
        rw [← hn] at hcl HCS ⊢
        rw [← hm] at hcz HCS ⊢
        have HNN := Lib.hid hn; have HMM := Lib.hid hm
        clear hn hm
        have hw0 : IntKind.i64.wrap ((n : Int) + 1) = ((n + 1 : Nat) : Int) := by rw [IntKind.wrap_i64]; omega
        have hw1 : IntKind.i64.wrap ((m : Int) + (e0.k.size : Int)) = ((m + e0.k.size : Nat) : Int) := by rw [IntKind.wrap_i64]; omega
        have hw2 : IntKind.i64.wrap (((m + e0.k.size : Nat) : Int) + (e0.v.size : Int)) = ((m + e0.k.size + e0.v.size : Nat) : Int) := by rw [IntKind.wrap_i64]; omega
        have hkw : IntKind.i64.wrap (k : Int) = k := by rw [IntKind.wrap_i64]; omega
        go_wp2_with (fail)
        refine HADD.out.mono ?_
        rintro e w4 ⟨rfl, hv⟩
        have HV4 := Lib.hid hv
        have hold := HI.out.bel HV4.out.old
        clear hv HADD c0 c1 c2 c3
        rcases HCS.out with ⟨he, h1, h2, h3⟩ | ⟨he, h1⟩
        · rw [he]
          obtain ⟨a', e0', haa, he0', B', O', sp', ha', c0, c1, c2, c3⟩ := hold.get hkl
          obtain rfl : e0 = e0' := HE0.out.trans he0'.symm
          cases haa
          rw [ha] at ha'
          cases ha'
          have HG := Lib.hid (get_own HPN.out h3)
          have HLEN := Lib.hid h1; have HSZ := Lib.hid h2
          clear he he0' hold HCS h1 h2 h3
          go_wp2_with (fail)
          go_quiet (fail)
          obtain ⟨w5, hw5⟩ : ∃ x, x = w4.drewN nq := ⟨_, rfl⟩
          have hbd : Bel w4 w5 := by rw [hw5]; exact (Bel.refl w4).drewN nq
          have HC5 := Lib.hid (cells4 hbd ⟨c0, c1, c2, c3⟩)
          have HV5 := Lib.hid (HV4.out.bel hbd)
          obtain ⟨FF, hat5, -, -⟩ := HV5.out
          rw [HN.out] at hat5
          have HAT5 := Lib.hid hat5
          rw [← hw5]
          clear hw5 hbd hat5 c0 c1 c2 c3
          go_wp2_with (fail)
          refine wp_region_held_drew (S := fun z => z.cell? ⟨B, O, sp⟩ = some (.string e0.k) ∧ z.cell? ⟨B, O + 1, none⟩ = some (.int .i64 e0.q) ∧ z.cell? ⟨B, O + 2, none⟩ = some (.bool e0.d) ∧ z.cell? ⟨B, O + 3, none⟩ = some (.string e0.v)) (by kernel_rfl) HC5.out (fun hHeld => ?_)
          refine tk (oi := { dst := some 55, op := Op.move (Operand.tmp 5), type := 25, pos := "law.go:150", after := #[], guard := none }) (v := ?_) 0 rfl ?_ ?_
          rotate_left
          · (intro w hSw; (try dsimp only at hSw); first | (go_simp; done) | (go_simp; with_reducible rfl))
          try simp only [Act.put, List.setIfInBounds_toArray, List.set_cons_zero, List.set_cons_succ]
          refine tk (oi := { dst := some 56, op := Op.move (Operand.tmp 0), type := 22, pos := "law.go:150", after := #[], guard := none }) (v := ?_) 1 rfl ?_ ?_
          rotate_left
          · (intro w hSw; (try dsimp only at hSw); first | (go_simp; done) | (go_simp; with_reducible rfl))
          try simp only [Act.put, List.setIfInBounds_toArray, List.set_cons_zero, List.set_cons_succ]
          refine tk (oi := { dst := some 57, op := Op.move (Operand.tmp 8), type := 3, pos := "law.go:150", after := #[], guard := none }) (v := ?_) 2 rfl ?_ ?_
          rotate_left
          · (intro w hSw; (try dsimp only at hSw); first | (go_simp; done) | (go_simp; with_reducible rfl))
          try simp only [Act.put, List.setIfInBounds_toArray, List.set_cons_zero, List.set_cons_succ]
          refine tk (oi := { dst := some 58, op := Op.indexAddr 22 (Operand.tmp 56) (Operand.tmp 57), type := 0, pos := "law.go:150", after := #[{ on := 1, ground := Ground.data }, { on := 2, ground := Ground.data }], guard := none }) (v := ?_) 3 rfl ?_ ?_
          rotate_left
          · (intro w hSw; (try dsimp only at hSw); first | (go_simp; done) | (go_simp; with_reducible rfl))
          try simp only [Act.put, List.setIfInBounds_toArray, List.set_cons_zero, List.set_cons_succ]
          refine tk (oi := { dst := some 59, op := Op.fieldAddr 33 (Operand.tmp 58) 0, type := 0, pos := "law.go:150", after := #[{ on := 3, ground := Ground.data }], guard := none }) (v := ?_) 4 rfl ?_ ?_
          rotate_left
          · (intro w hSw; (try dsimp only at hSw); first | (go_simp; done) | (go_simp; with_reducible rfl))
          try simp only [Act.put, List.setIfInBounds_toArray, List.set_cons_zero, List.set_cons_succ]
          refine tk (oi := { dst := some 60, op := Op.load 9 (Operand.tmp 59), type := 9, pos := "law.go:150", after := #[{ on := 4, ground := Ground.data }], guard := none }) (v := ?_) 5 rfl ?_ ?_
          rotate_left
          · (intro w hSw; (try dsimp only at hSw); first | (go_simp; done) | (go_simp; with_reducible rfl))
          try simp only [Act.put, List.setIfInBounds_toArray, List.set_cons_zero, List.set_cons_succ]
          refine tk (oi := { dst := some 61, op := Op.move (Operand.tmp 0), type := 22, pos := "law.go:150", after := #[], guard := none }) (v := ?_) 6 rfl ?_ ?_
          rotate_left
          · (intro w hSw; (try dsimp only at hSw); first | (go_simp; done) | (go_simp; with_reducible rfl))
          try simp only [Act.put, List.setIfInBounds_toArray, List.set_cons_zero, List.set_cons_succ]
          refine tk (oi := { dst := some 62, op := Op.move (Operand.tmp 8), type := 3, pos := "law.go:150", after := #[], guard := none }) (v := ?_) 7 rfl ?_ ?_
          rotate_left
          · (intro w hSw; (try dsimp only at hSw); first | (go_simp; done) | (go_simp; with_reducible rfl))
          try simp only [Act.put, List.setIfInBounds_toArray, List.set_cons_zero, List.set_cons_succ]
          refine tk (oi := { dst := some 63, op := Op.indexAddr 22 (Operand.tmp 61) (Operand.tmp 62), type := 0, pos := "law.go:150", after := #[{ on := 6, ground := Ground.data }, { on := 7, ground := Ground.data }], guard := none }) (v := ?_) 8 rfl ?_ ?_
          rotate_left
          · (intro w hSw; (try dsimp only at hSw); first | (go_simp; done) | (go_simp; with_reducible rfl))
          try simp only [Act.put, List.setIfInBounds_toArray, List.set_cons_zero, List.set_cons_succ]
          refine tk (oi := { dst := some 64, op := Op.fieldAddr 33 (Operand.tmp 63) 1, type := 0, pos := "law.go:150", after := #[{ on := 8, ground := Ground.data }], guard := none }) (v := ?_) 9 rfl ?_ ?_
          rotate_left
          · (intro w hSw; (try dsimp only at hSw); first | (go_simp; done) | (go_simp; with_reducible rfl))
          try simp only [Act.put, List.setIfInBounds_toArray, List.set_cons_zero, List.set_cons_succ]
          refine tk (oi := { dst := some 65, op := Op.load 3 (Operand.tmp 64), type := 3, pos := "law.go:150", after := #[{ on := 9, ground := Ground.data }], guard := none }) (v := ?_) 10 rfl ?_ ?_
          rotate_left
          · (intro w hSw; (try dsimp only at hSw); first | (go_simp; done) | (go_simp; with_reducible rfl))
          try simp only [Act.put, List.setIfInBounds_toArray, List.set_cons_zero, List.set_cons_succ]
          refine wpAnyH_ready (rs := [11, 15]) (by kernel_rfl) (by simp) ?_
          refine (AllReadyH.cons (o := { dst := some 66, op := Op.call { callee := Callee.value (Operand.func 16), args := #[Operand.tmp 55, Operand.tmp 60, Operand.tmp 65], argTypes := #[25, 9, 3] }, type := 35, pos := "law.go:150", after := #[{ on := 0, ground := Ground.data }, { on := 5, ground := Ground.data }, { on := 10, ground := Ground.data }], guard := none }) rfl (fun K hK => ?_) (AllReadyH.cons (o := { dst := some 9, op := Op.alloc 33, type := 0, pos := "law.go:150", after := #[], guard := none }) rfl (fun K hK => ?_) AllReadyH.nil))
          · go_simp
            refine (MK.get_is (KM := KM) b FF _ e0.k e0.q (some e0) _ HG.out (KM.bel HAT5.out (Bel.refl w5).drew) HHN.out).mono ?_
            rintro r z ⟨rfl, hb⟩
            unfold getM
            dsimp only
            refine hK.out _ _ (cells4 hb hHeld) (fun hHeld => ?_)
            clear hK K
            try simp only [Act.put, List.setIfInBounds_toArray, List.set_cons_zero, List.set_cons_succ]
            have hbZ := (Bel.refl w5).drew.trans hb
            clear hb
            refine tk (oi := { dst := some 54, op := Op.move (Operand.tmp 66), type := 35, pos := "law.go:150", after := #[{ on := 11, ground := Ground.data }], guard := none }) (v := ?_) 12 rfl ?_ ?_
            rotate_left
            · (intro w hSw; (try dsimp only at hSw); first | (go_simp; done) | (go_simp; with_reducible rfl))
            try simp only [Act.put, List.setIfInBounds_toArray, List.set_cons_zero, List.set_cons_succ]
            refine tk (oi := { dst := some 67, op := Op.extract (Operand.tmp 54) 0, type := 33, pos := "law.go:150", after := #[{ on := 12, ground := Ground.data }], guard := none }) (v := ?_) 13 rfl ?_ ?_
            rotate_left
            · (intro w hSw; (try dsimp only at hSw); first | (go_simp; done) | (go_simp; with_reducible rfl))
            try simp only [Act.put, List.setIfInBounds_toArray, List.set_cons_zero, List.set_cons_succ]
            refine tk (oi := { dst := some 68, op := Op.extract (Operand.tmp 54) 1, type := 4, pos := "law.go:150", after := #[{ on := 12, ground := Ground.data }, { on := 16, ground := Ground.gcOnly Departure.lateStores }], guard := none }) (v := ?_) 14 rfl ?_ ?_
            rotate_left
            · (intro w hSw; (try dsimp only at hSw); first | (go_simp; done) | (go_simp; with_reducible rfl))
            try simp only [Act.put, List.setIfInBounds_toArray, List.set_cons_zero, List.set_cons_succ]
            refine wpAnyH_ready (rs := [15]) (by kernel_rfl) (by simp) ?_
            refine AllReadyH.cons (o := { dst := some 9, op := Op.alloc 33, type := 0, pos := "law.go:150", after := #[], guard := none }) rfl (fun K hK => ?_) AllReadyH.nil
            go_simp
            refine hK.out _ _ (cells4 ((Bel.refl z).alloc _) hHeld) (fun hHeld => ?_)
            clear hK K
            try simp only [Act.put, List.setIfInBounds_toArray, List.set_cons_zero, List.set_cons_succ]
            refine wpAnyH_ready (rs := [16]) (by kernel_rfl) (by simp) ?_
            refine AllReadyH.cons (o := { dst := none, op := Op.store 33 (Operand.tmp 9) (Operand.tmp 67), type := 0, pos := "law.go:150", after := #[{ on := 15, ground := Ground.data }, { on := 13, ground := Ground.data }, { on := 11, ground := Ground.chain }, { on := 0, ground := Ground.phase }, { on := 1, ground := Ground.phase }, { on := 2, ground := Ground.phase }, { on := 3, ground := Ground.phase }, { on := 4, ground := Ground.phase }, { on := 5, ground := Ground.phase }, { on := 6, ground := Ground.phase }, { on := 7, ground := Ground.phase }, { on := 8, ground := Ground.phase }, { on := 9, ground := Ground.phase }, { on := 10, ground := Ground.phase }, { on := 11, ground := Ground.phase }, { on := 12, ground := Ground.phase }, { on := 13, ground := Ground.phase }, { on := 14, ground := Ground.textOnly Departure.lateStores }, { on := 15, ground := Ground.phase }], guard := none }) rfl (fun K hK => ?_) AllReadyH.nil
            go_simp
            have hbA : Bel z (z.alloc (.cells #[.string e0.k, .int .i64 e0.q, .bool e0.d, .string e0.v] 33)) := (Bel.refl z).alloc _
            refine hK.out _ _ (cells4 hbA (cells4 hbZ HC5.out)) (fun hHeld => ?_)
            clear hK K
            try simp only [Act.put, List.setIfInBounds_toArray, List.set_cons_zero, List.set_cons_succ]
            refine tk (oi := { dst := some 10, op := Op.assign (Operand.tmp 68), type := 4, pos := "law.go:150", after := #[{ on := 14, ground := Ground.data }, { on := 16, ground := Ground.chain }, { on := 0, ground := Ground.phase }, { on := 1, ground := Ground.phase }, { on := 2, ground := Ground.phase }, { on := 3, ground := Ground.phase }, { on := 4, ground := Ground.phase }, { on := 5, ground := Ground.phase }, { on := 6, ground := Ground.phase }, { on := 7, ground := Ground.phase }, { on := 8, ground := Ground.phase }, { on := 9, ground := Ground.phase }, { on := 10, ground := Ground.phase }, { on := 11, ground := Ground.phase }, { on := 12, ground := Ground.phase }, { on := 13, ground := Ground.phase }, { on := 14, ground := Ground.phase }, { on := 15, ground := Ground.phase }, { on := 16, ground := Ground.phase }], guard := none }) (v := ?_) 17 rfl ?_ ?_
            rotate_left
            · (intro w hSw; (try dsimp only at hSw); first | (go_simp; done) | (go_simp; with_reducible rfl))
            try simp only [Act.put, List.setIfInBounds_toArray, List.set_cons_zero, List.set_cons_succ]
            refine wpAnyH_done (by kernel_rfl) ?_ _
            obtain ⟨x6, hx6⟩ : ∃ x, x = z.alloc (.cells #[.string e0.k, .int .i64 e0.q, .bool e0.d, .string e0.v] 33) := ⟨_, rfl⟩
            have hbk : x6.heap[z.heap.size]? = some (.cells #[.string e0.k, .int .i64 e0.q, .bool e0.d, .string e0.v] 33 (0, 0)) := by rw [hx6]; exact heap_alloc_new z _
            have HX := Lib.hid (show x6.cell? ⟨z.heap.size, 0, none⟩ = some (.string e0.k) ∧ x6.cell? ⟨z.heap.size, 1, none⟩ = some (.int .i64 e0.q) ∧ x6.cell? ⟨z.heap.size, 2, none⟩ = some (.bool e0.d) ∧ x6.cell? ⟨z.heap.size, 3, none⟩ = some (.string e0.v) by refine ⟨?_, ?_, ?_, ?_⟩ <;> simp [World.cell?, hbk])
            have HBX := Lib.hid (show Bel w5 x6 by rw [hx6]; exact hbZ.alloc _)
            rw [← hx6]
            clear hx6 hbk hbA hbZ hHeld
            generalize z.heap.size = X6 at *
            have d0 := cl11 HBX.out HC5.out.1
            have d1 := cl11 HBX.out HC5.out.2.1
            have d2 := cl11 HBX.out HC5.out.2.2.1
            have d3 := cl11 HBX.out HC5.out.2.2.2
            obtain ⟨q0, q1, q2, q3⟩ := HX.out
            go_wp2_with (fail)
            go_quiet (fail)
            go_wp2_with (fail)
            go_roundw
            case rel => exact ⟨k + 1, hkl, by go_num, (by rw [HN.out, HLEN.out]; exact congrArg (Value.int IntKind.i64) (by omega)), (by rw [HN.out, HSZ.out]; exact congrArg (Value.int IntKind.i64) (by omega)), HV5.out.bel (HBX.out.drewN _)⟩
            case measure => simp [intOf]; omega
          · go_simp
            have hb1 : Bel w5 (w5.alloc (.cells #[.string ⟨#[]⟩, .int .i64 0, .bool false, .string ⟨#[]⟩] 33)).drew := ((Bel.refl w5).alloc _).drew
            obtain ⟨z1, hz1⟩ : ∃ x, x = (w5.alloc (.cells #[.string ⟨#[]⟩, .int .i64 0, .bool false, .string ⟨#[]⟩] 33)).drew := ⟨_, rfl⟩
            refine hK.out _ _ (cells4 hb1 HC5.out) (fun hHeld => ?_)
            clear hK K
            try simp only [Act.put, List.setIfInBounds_toArray, List.set_cons_zero, List.set_cons_succ]
            rw [← hz1] at hb1 hHeld ⊢
            have hbk : z1.heap[w5.heap.size]? = some (.cells #[.string ⟨#[]⟩, .int .i64 0, .bool false, .string ⟨#[]⟩] 33 (0, 0)) := by rw [hz1]; exact heap_alloc_new w5 _
            have hlt1 : w5.heap.size < z1.heap.size := (Array.getElem?_eq_some_iff.1 hbk).1
            have hfz : ∀ j, z1.frozen? ⟨w5.heap.size, j, none⟩ = false := fun j => by simp [World.frozen?, hbk]
            have hcz : z1.cell? ⟨w5.heap.size, 0, none⟩ = some (.string ⟨#[]⟩) ∧ z1.cell? ⟨w5.heap.size, 1, none⟩ = some (.int .i64 0) ∧ z1.cell? ⟨w5.heap.size, 2, none⟩ = some (.bool false) ∧ z1.cell? ⟨w5.heap.size, 3, none⟩ = some (.string ⟨#[]⟩) := by refine ⟨?_, ?_, ?_, ?_⟩ <;> simp [World.cell?, hbk]
            have HB1z := Lib.hid hb1
            have HLT1 := Lib.hid hlt1; have HFZ := Lib.hid hfz; have HCZ := Lib.hid hcz
            clear hz1 hbk hlt1 hfz hcz hb1
            refine wpAnyH_ready (rs := [11]) (by kernel_rfl) (by simp) ?_
            refine AllReadyH.cons (o := { dst := some 66, op := Op.call { callee := Callee.value (Operand.func 16), args := #[Operand.tmp 55, Operand.tmp 60, Operand.tmp 65], argTypes := #[25, 9, 3] }, type := 35, pos := "law.go:150", after := #[{ on := 0, ground := Ground.data }, { on := 5, ground := Ground.data }, { on := 10, ground := Ground.data }], guard := none }) rfl (fun K hK => ?_) AllReadyH.nil
            go_simp
            refine (MK.get_is (KM := KM) b FF _ e0.k e0.q (some e0) _ HG.out (KM.bel HAT5.out HB1z.out) HHN.out).mono ?_
            rintro r z ⟨rfl, hb⟩
            unfold getM
            have HBZ := Lib.hid (HB1z.out.trans hb)
            dsimp only
            refine hK.out _ _ (cells4 hb hHeld) (fun hHeld => ?_)
            clear hK K
            try simp only [Act.put, List.setIfInBounds_toArray, List.set_cons_zero, List.set_cons_succ]
            obtain ⟨u0, u1, u2, u3⟩ := HCZ.out
            replace u0 := cl11 hb u0; replace u1 := cl11 hb u1; replace u2 := cl11 hb u2; replace u3 := cl11 hb u3
            have f0 := (hb.frozen w5.heap.size 0 HLT1.out).trans (HFZ.out 0)
            have f1 := (hb.frozen w5.heap.size 1 HLT1.out).trans (HFZ.out 1)
            have f2 := (hb.frozen w5.heap.size 2 HLT1.out).trans (HFZ.out 2)
            have f3 := (hb.frozen w5.heap.size 3 HLT1.out).trans (HFZ.out 3)
            clear hb HB1z HFZ HCZ HLT1
            have HU := Lib.hid (And.intro u0 (And.intro u1 (And.intro u2 (And.intro u3 (And.intro f0 (And.intro f1 (And.intro f2 f3)))))))
            clear u0 u1 u2 u3 f0 f1 f2 f3
            refine tk (oi := { dst := some 54, op := Op.move (Operand.tmp 66), type := 35, pos := "law.go:150", after := #[{ on := 11, ground := Ground.data }], guard := none }) (v := ?_) 12 rfl ?_ ?_
            rotate_left
            · (intro w hSw; (try dsimp only at hSw); first | (go_simp; done) | (go_simp; with_reducible rfl))
            try simp only [Act.put, List.setIfInBounds_toArray, List.set_cons_zero, List.set_cons_succ]
            refine tk (oi := { dst := some 67, op := Op.extract (Operand.tmp 54) 0, type := 33, pos := "law.go:150", after := #[{ on := 12, ground := Ground.data }], guard := none }) (v := ?_) 13 rfl ?_ ?_
            rotate_left
            · (intro w hSw; (try dsimp only at hSw); first | (go_simp; done) | (go_simp; with_reducible rfl))
            try simp only [Act.put, List.setIfInBounds_toArray, List.set_cons_zero, List.set_cons_succ]
            refine tk (oi := { dst := some 68, op := Op.extract (Operand.tmp 54) 1, type := 4, pos := "law.go:150", after := #[{ on := 12, ground := Ground.data }, { on := 16, ground := Ground.gcOnly Departure.lateStores }], guard := none }) (v := ?_) 14 rfl ?_ ?_
            rotate_left
            · (intro w hSw; (try dsimp only at hSw); first | (go_simp; done) | (go_simp; with_reducible rfl))
            try simp only [Act.put, List.setIfInBounds_toArray, List.set_cons_zero, List.set_cons_succ]
            obtain ⟨u0, u1, u2, u3, f0, f1, f2, f3⟩ := HU.out
            refine wpAnyH_ready (rs := [16]) (by kernel_rfl) (by simp) ?_
            refine AllReadyH.cons (o := { dst := none, op := Op.store 33 (Operand.tmp 9) (Operand.tmp 67), type := 0, pos := "law.go:150", after := #[{ on := 15, ground := Ground.data }, { on := 13, ground := Ground.data }, { on := 11, ground := Ground.chain }, { on := 0, ground := Ground.phase }, { on := 1, ground := Ground.phase }, { on := 2, ground := Ground.phase }, { on := 3, ground := Ground.phase }, { on := 4, ground := Ground.phase }, { on := 5, ground := Ground.phase }, { on := 6, ground := Ground.phase }, { on := 7, ground := Ground.phase }, { on := 8, ground := Ground.phase }, { on := 9, ground := Ground.phase }, { on := 10, ground := Ground.phase }, { on := 11, ground := Ground.phase }, { on := 12, ground := Ground.phase }, { on := 13, ground := Ground.phase }, { on := 14, ground := Ground.textOnly Departure.lateStores }, { on := 15, ground := Ground.phase }], guard := none }) rfl (fun K hK => ?_) AllReadyH.nil
            go_simp
            obtain ⟨x6, hx6⟩ : ∃ x, x = (((z.setCell ⟨w5.heap.size, 0, none⟩ (.string e0.k)).setCell ⟨w5.heap.size, 1, none⟩ (.int .i64 e0.q)).setCell ⟨w5.heap.size, 2, none⟩ (.bool e0.d)).setCell ⟨w5.heap.size, 3, none⟩ (.string e0.v) := ⟨_, rfl⟩
            have hb4 : Bel w5 x6 := by rw [hx6]; exact ((((HBZ.out).setCell (Nat.le_refl _) _).setCell (Nat.le_refl _) _).setCell (Nat.le_refl _) _).setCell (Nat.le_refl _) _
            have HX := Lib.hid (show x6.cell? ⟨w5.heap.size, 0, none⟩ = some (.string e0.k) ∧ x6.cell? ⟨w5.heap.size, 1, none⟩ = some (.int .i64 e0.q) ∧ x6.cell? ⟨w5.heap.size, 2, none⟩ = some (.bool e0.d) ∧ x6.cell? ⟨w5.heap.size, 3, none⟩ = some (.string e0.v) by rw [hx6]; exact set4 u0 u1 u2 u3)
            rw [← hx6]
            clear hx6 u0 u1 u2 u3 f0 f1 f2 f3 HU
            refine hK.out _ _ (cells4 hb4 HC5.out) (fun hHeld => ?_)
            clear hK K
            try simp only [Act.put, List.setIfInBounds_toArray, List.set_cons_zero, List.set_cons_succ]
            refine tk (oi := { dst := some 10, op := Op.assign (Operand.tmp 68), type := 4, pos := "law.go:150", after := #[{ on := 14, ground := Ground.data }, { on := 16, ground := Ground.chain }, { on := 0, ground := Ground.phase }, { on := 1, ground := Ground.phase }, { on := 2, ground := Ground.phase }, { on := 3, ground := Ground.phase }, { on := 4, ground := Ground.phase }, { on := 5, ground := Ground.phase }, { on := 6, ground := Ground.phase }, { on := 7, ground := Ground.phase }, { on := 8, ground := Ground.phase }, { on := 9, ground := Ground.phase }, { on := 10, ground := Ground.phase }, { on := 11, ground := Ground.phase }, { on := 12, ground := Ground.phase }, { on := 13, ground := Ground.phase }, { on := 14, ground := Ground.phase }, { on := 15, ground := Ground.phase }, { on := 16, ground := Ground.phase }], guard := none }) (v := ?_) 17 rfl ?_ ?_
            rotate_left
            · (intro w hSw; (try dsimp only at hSw); first | (go_simp; done) | (go_simp; with_reducible rfl))
            try simp only [Act.put, List.setIfInBounds_toArray, List.set_cons_zero, List.set_cons_succ]
            refine wpAnyH_done (by kernel_rfl) ?_ _
            have HBX := Lib.hid hb4
            clear hb4 HBZ hHeld
            generalize w5.heap.size = X6 at *
            have d0 := cl11 HBX.out HC5.out.1
            have d1 := cl11 HBX.out HC5.out.2.1
            have d2 := cl11 HBX.out HC5.out.2.2.1
            have d3 := cl11 HBX.out HC5.out.2.2.2
            obtain ⟨q0, q1, q2, q3⟩ := HX.out
            go_wp2_with (fail)
            go_quiet (fail)
            go_wp2_with (fail)
            go_roundw
            case rel => exact ⟨k + 1, hkl, by go_num, (by rw [HN.out, HLEN.out]; exact congrArg (Value.int IntKind.i64) (by omega)), (by rw [HN.out, HSZ.out]; exact congrArg (Value.int IntKind.i64) (by omega)), HV5.out.bel (HBX.out.drewN _)⟩
            case measure => simp [intOf]; omega
        · rcases he with he | he
          · rw [he]
            go_wp2_with (fail)
            go_roundw
            case rel => exact ⟨k + 1, hkl, by go_num, by rw [HN.out, h1, ← HNN.out], by rw [HN.out, h1, ← HMM.out], HV4.out⟩
            case measure => simp [intOf]; omega
          · rw [he]
            go_wp2_with (fail)
            go_roundw
            case rel => exact ⟨k + 1, hkl, by go_num, by rw [HN.out, h1, ← HNN.out], by rw [HN.out, h1, ← HMM.out], HV4.out⟩
            case measure => simp [intOf]; omega
      · obtain rfl : k = L0.length := by omega
        obtain ⟨F, hat, hn, hb⟩ := HVK.out.full
        rw [List.take_length]
        have HAT := Lib.hid hat; have HB4 := Lib.hid hb
        have hH := hold_all hl100
        have HH := Lib.hid hH
        have HP := Lib.hid (standing_pair L0)
        have HR := Lib.hid (show ∀ e ∈ standingB L0, rightB e = true ∧ e.fits ∧ e.v.size ≤ 1000000 from fun e he => ⟨stand_right hH.1 e he, holds_fits hH e he, by have := holds_data hH e he; omega⟩)
        have hCl := standing_len L0
        obtain ⟨C, hC⟩ : ∃ C, C = standingB L0 := ⟨_, rfl⟩
        rw [← hC] at HAT HH HP HR hCl ⊢
        clear hat hn hb hH HVK hC
        obtain ⟨m, hm⟩ : ∃ m, m = sizeM C := ⟨_, rfl⟩
        have HMM := Lib.hid hm
        rw [← hm]
        clear hm
        go_wp2_with (fail)
        refine (MK.all (KM := KM) b F C wr HAT.out HH.out).mono ?_
        rintro e w5 ⟨q, qc, rfl, he, hb⟩
        have HB5 := Lib.hid (HB4.out.trans hb)
        have HAT5 := Lib.hid (KM.bel HAT.out hb)
        have HE := Lib.hid he
        clear hb he
        go_wp2_with (fail)
        go_loopw [12] (fun iv x => (∃ j : Nat, j ≤ C.length ∧ iv = .int .i64 j) ∧ Bel w5 x) (fun iv _ => C.length - (intOf iv).toNat)
        case atStart => exact ⟨⟨0, Nat.zero_le _, rfl⟩, Bel.refl w5⟩
        case round =>
          obtain ⟨⟨j, hj, rfl⟩, hb⟩ := hrel
          have HW := Lib.hid hb
          clear hb
          by_cases hjl : j < C.length
          · obtain ⟨a, e0, rfl, he0, B, O, sp, ha, c0, c1, c2, c3⟩ := (HE.out.bel HW.out).get hjl
            obtain ⟨hr0, hf0, hv0⟩ := HR.out e0 (by rw [he0]; exact List.getElem_mem hjl)
            have HF0 := Lib.hid hf0; have HR0 := Lib.hid hr0; have HV0 := Lib.hid hv0
            have HE0 := Lib.hid he0
            have HJL := Lib.hid hjl
            have hjw : IntKind.i64.wrap (j : Int) = j := by rw [IntKind.wrap_i64]; omega
            clear hr0 hf0 hv0 he0
            by_cases hj0 : j = 0
            · subst hj0
              go_wp2_with (fail)
              refine wp_region_held_drew (S := fun z => z.cell? ⟨B, O, sp⟩ = some (.string e0.k) ∧ z.cell? ⟨B, O + 1, none⟩ = some (.int .i64 e0.q) ∧ z.cell? ⟨B, O + 2, none⟩ = some (.bool e0.d) ∧ z.cell? ⟨B, O + 3, none⟩ = some (.string e0.v)) (by kernel_rfl) ⟨c0, c1, c2, c3⟩ (fun hHeld => ?_)
              refine tk (oi := { dst := some 87, op := Op.move (Operand.tmp 12), type := 3, pos := "law.go:157", after := #[], guard := none }) (v := ?_) 0 rfl ?_ ?_
              rotate_left
              · (intro w hSw; (try dsimp only at hSw); first | (go_simp; done) | (go_simp; with_reducible rfl))
              try simp only [Act.put, List.setIfInBounds_toArray, List.set_cons_zero, List.set_cons_succ]
              refine tk (oi := { dst := some 88, op := Op.binOp BinOp.gtr 3 (Operand.tmp 87) (Operand.const (Value.int IntKind.i64 0)) 3, type := 4, pos := "law.go:157", after := #[{ on := 0, ground := Ground.data }], guard := none }) (v := ?_) 1 rfl ?_ ?_
              rotate_left
              · (intro w hSw; (try dsimp only at hSw); first | (go_simp; done) | (go_simp; with_reducible rfl))
              try simp only [Act.put, List.setIfInBounds_toArray, List.set_cons_zero, List.set_cons_succ]
              refine tk (oi := { dst := some 89, op := Op.move (Operand.tmp 88), type := 4, pos := "law.go:157", after := #[{ on := 1, ground := Ground.data }], guard := none }) (v := ?_) 2 rfl ?_ ?_
              rotate_left
              · (intro w hSw; (try dsimp only at hSw); first | (go_simp; done) | (go_simp; with_reducible rfl))
              try simp only [Act.put, List.setIfInBounds_toArray, List.set_cons_zero, List.set_cons_succ]
              refine wpAnyH_take (i := 3) (oi := { dst := some 90, op := Op.move (Operand.tmp 11), type := 22, pos := "law.go:157", after := #[{ on := 2, ground := Ground.guard }], guard := some (2, true) }) (v := undef) rfl (by kernel_rfl) (by kernel_rfl) (by kernel_rfl) (fun _ _ _ h => h) (Or.inr ⟨by rfl, rfl⟩) (by assumption) ?_
              try simp only [Act.put, List.setIfInBounds_toArray, List.set_cons_zero, List.set_cons_succ]
              refine wpAnyH_take (i := 4) (oi := { dst := some 91, op := Op.move (Operand.tmp 12), type := 3, pos := "law.go:157", after := #[{ on := 2, ground := Ground.guard }], guard := some (2, true) }) (v := undef) rfl (by kernel_rfl) (by kernel_rfl) (by kernel_rfl) (fun _ _ _ h => h) (Or.inr ⟨by rfl, rfl⟩) (by assumption) ?_
              try simp only [Act.put, List.setIfInBounds_toArray, List.set_cons_zero, List.set_cons_succ]
              refine wpAnyH_take (i := 5) (oi := { dst := some 92, op := Op.binOp BinOp.sub 3 (Operand.tmp 91) (Operand.const (Value.int IntKind.i64 1)) 3, type := 3, pos := "law.go:157", after := #[{ on := 4, ground := Ground.data }, { on := 2, ground := Ground.guard }], guard := some (2, true) }) (v := undef) rfl (by kernel_rfl) (by kernel_rfl) (by kernel_rfl) (fun _ _ _ h => h) (Or.inr ⟨by rfl, rfl⟩) (by assumption) ?_
              try simp only [Act.put, List.setIfInBounds_toArray, List.set_cons_zero, List.set_cons_succ]
              refine wpAnyH_take (i := 6) (oi := { dst := some 93, op := Op.indexAddr 22 (Operand.tmp 90) (Operand.tmp 92), type := 0, pos := "law.go:157", after := #[{ on := 3, ground := Ground.data }, { on := 5, ground := Ground.data }, { on := 2, ground := Ground.guard }], guard := some (2, true) }) (v := undef) rfl (by kernel_rfl) (by kernel_rfl) (by kernel_rfl) (fun _ _ _ h => h) (Or.inr ⟨by rfl, rfl⟩) (by assumption) ?_
              try simp only [Act.put, List.setIfInBounds_toArray, List.set_cons_zero, List.set_cons_succ]
              refine wpAnyH_take (i := 7) (oi := { dst := some 94, op := Op.load 33 (Operand.tmp 93), type := 33, pos := "law.go:157", after := #[{ on := 6, ground := Ground.data }, { on := 2, ground := Ground.guard }], guard := some (2, true) }) (v := undef) rfl (by kernel_rfl) (by kernel_rfl) (by kernel_rfl) (fun _ _ _ h => h) (Or.inr ⟨by rfl, rfl⟩) (by assumption) ?_
              try simp only [Act.put, List.setIfInBounds_toArray, List.set_cons_zero, List.set_cons_succ]
              refine wpAnyH_take (i := 8) (oi := { dst := some 95, op := Op.move (Operand.tmp 11), type := 22, pos := "law.go:157", after := #[{ on := 2, ground := Ground.guard }], guard := some (2, true) }) (v := undef) rfl (by kernel_rfl) (by kernel_rfl) (by kernel_rfl) (fun _ _ _ h => h) (Or.inr ⟨by rfl, rfl⟩) (by assumption) ?_
              try simp only [Act.put, List.setIfInBounds_toArray, List.set_cons_zero, List.set_cons_succ]
              refine wpAnyH_take (i := 9) (oi := { dst := some 96, op := Op.move (Operand.tmp 12), type := 3, pos := "law.go:157", after := #[{ on := 2, ground := Ground.guard }], guard := some (2, true) }) (v := undef) rfl (by kernel_rfl) (by kernel_rfl) (by kernel_rfl) (fun _ _ _ h => h) (Or.inr ⟨by rfl, rfl⟩) (by assumption) ?_
              try simp only [Act.put, List.setIfInBounds_toArray, List.set_cons_zero, List.set_cons_succ]
              refine wpAnyH_take (i := 10) (oi := { dst := some 97, op := Op.indexAddr 22 (Operand.tmp 95) (Operand.tmp 96), type := 0, pos := "law.go:157", after := #[{ on := 8, ground := Ground.data }, { on := 9, ground := Ground.data }, { on := 2, ground := Ground.guard }], guard := some (2, true) }) (v := undef) rfl (by kernel_rfl) (by kernel_rfl) (by kernel_rfl) (fun _ _ _ h => h) (Or.inr ⟨by rfl, rfl⟩) (by assumption) ?_
              try simp only [Act.put, List.setIfInBounds_toArray, List.set_cons_zero, List.set_cons_succ]
              refine wpAnyH_take (i := 11) (oi := { dst := some 98, op := Op.load 33 (Operand.tmp 97), type := 33, pos := "law.go:157", after := #[{ on := 10, ground := Ground.data }, { on := 2, ground := Ground.guard }], guard := some (2, true) }) (v := undef) rfl (by kernel_rfl) (by kernel_rfl) (by kernel_rfl) (fun _ _ _ h => h) (Or.inr ⟨by rfl, rfl⟩) (by assumption) ?_
              try simp only [Act.put, List.setIfInBounds_toArray, List.set_cons_zero, List.set_cons_succ]
              refine wpAnyH_take (i := 12) (oi := { dst := some 99, op := Op.call { callee := Callee.value (Operand.func 24), args := #[Operand.tmp 94, Operand.tmp 98], argTypes := #[33, 33] }, type := 4, pos := "law.go:157", after := #[{ on := 7, ground := Ground.data }, { on := 11, ground := Ground.data }, { on := 2, ground := Ground.chain }, { on := 2, ground := Ground.guard }], guard := some (2, true) }) (v := undef) rfl (by kernel_rfl) (by kernel_rfl) (by kernel_rfl) (fun _ _ _ h => h) (Or.inr ⟨by rfl, rfl⟩) (by assumption) ?_
              try simp only [Act.put, List.setIfInBounds_toArray, List.set_cons_zero, List.set_cons_succ]
              refine wpAnyH_take (i := 13) (oi := { dst := some 100, op := Op.unOp UnOp.not 4 (Operand.tmp 99), type := 4, pos := "law.go:157", after := #[{ on := 12, ground := Ground.data }, { on := 2, ground := Ground.guard }], guard := some (2, true) }) (v := undef) rfl (by kernel_rfl) (by kernel_rfl) (by kernel_rfl) (fun _ _ _ h => h) (Or.inr ⟨by rfl, rfl⟩) (by assumption) ?_
              try simp only [Act.put, List.setIfInBounds_toArray, List.set_cons_zero, List.set_cons_succ]
              refine tk (oi := { dst := some 101, op := Op.pick (Operand.tmp 89) (Operand.tmp 100) (Operand.const (Value.bool false)), type := 4, pos := "law.go:157", after := #[{ on := 2, ground := Ground.data }, { on := 13, ground := Ground.data }], guard := none }) (v := ?_) 14 rfl ?_ ?_
              rotate_left
              · (intro w hSw; (try dsimp only at hSw); first | (go_simp; done) | (go_simp; with_reducible rfl))
              try simp only [Act.put, List.setIfInBounds_toArray, List.set_cons_zero, List.set_cons_succ]
              refine tk (oi := { dst := some 102, op := Op.move (Operand.tmp 101), type := 4, pos := "law.go:157", after := #[{ on := 14, ground := Ground.data }, { on := 12, ground := Ground.chain }], guard := none }) (v := ?_) 15 rfl ?_ ?_
              rotate_left
              · (intro w hSw; (try dsimp only at hSw); first | (go_simp; done) | (go_simp; with_reducible rfl))
              try simp only [Act.put, List.setIfInBounds_toArray, List.set_cons_zero, List.set_cons_succ]
              refine tk (oi := { dst := some 103, op := Op.move (Operand.tmp 11), type := 22, pos := "law.go:157", after := #[{ on := 15, ground := Ground.guard }], guard := some (15, false) }) (v := ?_) 16 rfl ?_ ?_
              rotate_left
              · (intro w hSw; (try dsimp only at hSw); first | (go_simp; done) | (go_simp; with_reducible rfl))
              try simp only [Act.put, List.setIfInBounds_toArray, List.set_cons_zero, List.set_cons_succ]
              refine tk (oi := { dst := some 104, op := Op.move (Operand.tmp 12), type := 3, pos := "law.go:157", after := #[{ on := 15, ground := Ground.guard }], guard := some (15, false) }) (v := ?_) 17 rfl ?_ ?_
              rotate_left
              · (intro w hSw; (try dsimp only at hSw); first | (go_simp; done) | (go_simp; with_reducible rfl))
              try simp only [Act.put, List.setIfInBounds_toArray, List.set_cons_zero, List.set_cons_succ]
              refine tk (oi := { dst := some 105, op := Op.indexAddr 22 (Operand.tmp 103) (Operand.tmp 104), type := 0, pos := "law.go:157", after := #[{ on := 16, ground := Ground.data }, { on := 17, ground := Ground.data }, { on := 15, ground := Ground.guard }], guard := some (15, false) }) (v := ?_) 18 rfl ?_ ?_
              rotate_left
              · (intro w hSw; (try dsimp only at hSw); first | (go_simp; done) | (go_simp; with_reducible rfl))
              try simp only [Act.put, List.setIfInBounds_toArray, List.set_cons_zero, List.set_cons_succ]
              refine tk (oi := { dst := some 106, op := Op.load 33 (Operand.tmp 105), type := 33, pos := "law.go:157", after := #[{ on := 18, ground := Ground.data }, { on := 15, ground := Ground.guard }], guard := some (15, false) }) (v := ?_) 19 rfl ?_ ?_
              rotate_left
              · (intro w hSw; (try dsimp only at hSw); first | (go_simp; done) | (go_simp; with_reducible rfl))
              try simp only [Act.put, List.setIfInBounds_toArray, List.set_cons_zero, List.set_cons_succ]
              refine wpAnyH_ready (rs := [20]) (by kernel_rfl) (by simp) ?_
              refine AllReadyH.cons (o := { dst := some 107, op := Op.call { callee := Callee.value (Operand.func 25), args := #[Operand.tmp 106], argTypes := #[33] }, type := 4, pos := "law.go:157", after := #[{ on := 19, ground := Ground.data }, { on := 15, ground := Ground.chain }, { on := 15, ground := Ground.guard }], guard := some (15, false) }) rfl (fun K hK => ?_) AllReadyH.nil
              go_simp
              refine (pright_any e0 _ HF0.out HV0.out).mono ?_
              rw [HR0.out]
              rintro r w6 ⟨rfl, hb6⟩
              have HW6 := Lib.hid (HW.out.drew.trans hb6)
              dsimp only
              refine hK.out _ _ (cells4 hb6 hHeld) (fun hHeld => ?_)
              clear hK K
              try simp only [Act.put, List.setIfInBounds_toArray, List.set_cons_zero, List.set_cons_succ]
              refine tk (oi := { dst := some 108, op := Op.unOp UnOp.not 4 (Operand.tmp 107), type := 4, pos := "law.go:157", after := #[{ on := 20, ground := Ground.data }, { on := 15, ground := Ground.guard }], guard := some (15, false) }) (v := ?_) 21 rfl ?_ ?_
              rotate_left
              · (intro w hSw; (try dsimp only at hSw); first | (go_simp; done) | (go_simp; with_reducible rfl))
              try simp only [Act.put, List.setIfInBounds_toArray, List.set_cons_zero, List.set_cons_succ]
              refine tk (oi := { dst := some 109, op := Op.pick (Operand.tmp 102) (Operand.const (Value.bool true)) (Operand.tmp 108), type := 4, pos := "law.go:157", after := #[{ on := 15, ground := Ground.data }, { on := 21, ground := Ground.data }], guard := none }) (v := ?_) 22 rfl ?_ ?_
              rotate_left
              · (intro w hSw; (try dsimp only at hSw); first | (go_simp; done) | (go_simp; with_reducible rfl))
              try simp only [Act.put, List.setIfInBounds_toArray, List.set_cons_zero, List.set_cons_succ]
              refine wpAnyH_done (by kernel_rfl) ?_ _
              clear hHeld hb6 c0 c1 c2 c3
              go_wp2_with (fail)
              go_roundw
              case rel => exact ⟨⟨0 + 1, HJL.out, by go_num⟩, HW6.out⟩
              case measure => have := HJL.out; simp [intOf]; omega
            · obtain ⟨i, rfl⟩ : ∃ i, j = i + 1 := ⟨j - 1, by omega⟩
              have hil : i < C.length := by omega
              obtain ⟨_, e1, ha', he1, B', O', sp', ha2, b0, b1, b2, b3⟩ := (HE.out.bel HW.out).get hil
              cases ha'
              obtain ⟨hr1, hf1, hv1⟩ := HR.out e1 (by rw [he1]; exact List.getElem_mem hil)
              have HF1 := Lib.hid hf1
              have HLE := Lib.hid (show lessB e1 e0 = true by rw [he1, HE0.out]; exact List.pairwise_iff_getElem.1 HP.out i (i + 1) hil hjl (by omega))
              have hii : (i : Int) < (C.length : Int) := by omega
              have hii2 : (i : Int) + 1 < (C.length : Int) := by omega
              have hiw : IntKind.i64.wrap (i : Int) = i := by rw [IntKind.wrap_i64]; omega
              have hi0 : (0 : Int) ≤ (i : Int) + 1 := by omega
              have hi1 : (0 : Int) < (i : Int) + 1 := by omega
              have hiw2 : IntKind.i64.wrap ((i : Int) + 1) = (i : Int) + 1 := by rw [IntKind.wrap_i64]; omega
              clear hr1 hf1 hv1 he1
              go_wp2_with (fail)
              refine wp_region_held_drew (S := fun z => (z.cell? ⟨B, O, sp⟩ = some (.string e0.k) ∧ z.cell? ⟨B, O + 1, none⟩ = some (.int .i64 e0.q) ∧ z.cell? ⟨B, O + 2, none⟩ = some (.bool e0.d) ∧ z.cell? ⟨B, O + 3, none⟩ = some (.string e0.v)) ∧ z.cell? ⟨B', O', sp'⟩ = some (.string e1.k) ∧ z.cell? ⟨B', O' + 1, none⟩ = some (.int .i64 e1.q) ∧ z.cell? ⟨B', O' + 2, none⟩ = some (.bool e1.d) ∧ z.cell? ⟨B', O' + 3, none⟩ = some (.string e1.v)) (by kernel_rfl) ⟨⟨c0, c1, c2, c3⟩, b0, b1, b2, b3⟩ (fun hHeld => ?_)
              refine tk (oi := { dst := some 87, op := Op.move (Operand.tmp 12), type := 3, pos := "law.go:157", after := #[], guard := none }) (v := ?_) 0 rfl ?_ ?_
              rotate_left
              · (intro w hSw; (try dsimp only at hSw); first | (go_simp; done) | (go_simp; with_reducible rfl))
              try simp only [Act.put, List.setIfInBounds_toArray, List.set_cons_zero, List.set_cons_succ]
              refine tk (oi := { dst := some 88, op := Op.binOp BinOp.gtr 3 (Operand.tmp 87) (Operand.const (Value.int IntKind.i64 0)) 3, type := 4, pos := "law.go:157", after := #[{ on := 0, ground := Ground.data }], guard := none }) (v := ?_) 1 rfl ?_ ?_
              rotate_left
              · (intro w hSw; (try dsimp only at hSw); first | (go_simp; done) | (go_simp; with_reducible rfl))
              try simp only [Act.put, List.setIfInBounds_toArray, List.set_cons_zero, List.set_cons_succ]
              refine tk (oi := { dst := some 89, op := Op.move (Operand.tmp 88), type := 4, pos := "law.go:157", after := #[{ on := 1, ground := Ground.data }], guard := none }) (v := ?_) 2 rfl ?_ ?_
              rotate_left
              · (intro w hSw; (try dsimp only at hSw); first | (go_simp; done) | (go_simp; with_reducible rfl))
              try simp only [Act.put, List.setIfInBounds_toArray, List.set_cons_zero, List.set_cons_succ]
              refine tk (oi := { dst := some 90, op := Op.move (Operand.tmp 11), type := 22, pos := "law.go:157", after := #[{ on := 2, ground := Ground.guard }], guard := some (2, true) }) (v := ?_) 3 rfl ?_ ?_
              rotate_left
              · (intro w hSw; (try dsimp only at hSw); first | (go_simp; done) | (go_simp; with_reducible rfl))
              try simp only [Act.put, List.setIfInBounds_toArray, List.set_cons_zero, List.set_cons_succ]
              refine tk (oi := { dst := some 91, op := Op.move (Operand.tmp 12), type := 3, pos := "law.go:157", after := #[{ on := 2, ground := Ground.guard }], guard := some (2, true) }) (v := ?_) 4 rfl ?_ ?_
              rotate_left
              · (intro w hSw; (try dsimp only at hSw); first | (go_simp; done) | (go_simp; with_reducible rfl))
              try simp only [Act.put, List.setIfInBounds_toArray, List.set_cons_zero, List.set_cons_succ]
              refine tk (oi := { dst := some 92, op := Op.binOp BinOp.sub 3 (Operand.tmp 91) (Operand.const (Value.int IntKind.i64 1)) 3, type := 3, pos := "law.go:157", after := #[{ on := 4, ground := Ground.data }, { on := 2, ground := Ground.guard }], guard := some (2, true) }) (v := ?_) 5 rfl ?_ ?_
              rotate_left
              · (intro w hSw; (try dsimp only at hSw); first | (go_simp; done) | (go_simp; with_reducible rfl))
              try simp only [Act.put, List.setIfInBounds_toArray, List.set_cons_zero, List.set_cons_succ]
              refine tk (oi := { dst := some 93, op := Op.indexAddr 22 (Operand.tmp 90) (Operand.tmp 92), type := 0, pos := "law.go:157", after := #[{ on := 3, ground := Ground.data }, { on := 5, ground := Ground.data }, { on := 2, ground := Ground.guard }], guard := some (2, true) }) (v := ?_) 6 rfl ?_ ?_
              rotate_left
              · (intro w hSw; (try dsimp only at hSw); first | (go_simp; done) | (go_simp; with_reducible rfl))
              try simp only [Act.put, List.setIfInBounds_toArray, List.set_cons_zero, List.set_cons_succ]
              refine tk (oi := { dst := some 94, op := Op.load 33 (Operand.tmp 93), type := 33, pos := "law.go:157", after := #[{ on := 6, ground := Ground.data }, { on := 2, ground := Ground.guard }], guard := some (2, true) }) (v := ?_) 7 rfl ?_ ?_
              rotate_left
              · (intro w hSw; (try dsimp only at hSw); first | (go_simp; done) | (go_simp; with_reducible rfl))
              try simp only [Act.put, List.setIfInBounds_toArray, List.set_cons_zero, List.set_cons_succ]
              refine tk (oi := { dst := some 95, op := Op.move (Operand.tmp 11), type := 22, pos := "law.go:157", after := #[{ on := 2, ground := Ground.guard }], guard := some (2, true) }) (v := ?_) 8 rfl ?_ ?_
              rotate_left
              · (intro w hSw; (try dsimp only at hSw); first | (go_simp; done) | (go_simp; with_reducible rfl))
              try simp only [Act.put, List.setIfInBounds_toArray, List.set_cons_zero, List.set_cons_succ]
              refine tk (oi := { dst := some 96, op := Op.move (Operand.tmp 12), type := 3, pos := "law.go:157", after := #[{ on := 2, ground := Ground.guard }], guard := some (2, true) }) (v := ?_) 9 rfl ?_ ?_
              rotate_left
              · (intro w hSw; (try dsimp only at hSw); first | (go_simp; done) | (go_simp; with_reducible rfl))
              try simp only [Act.put, List.setIfInBounds_toArray, List.set_cons_zero, List.set_cons_succ]
              refine tk (oi := { dst := some 97, op := Op.indexAddr 22 (Operand.tmp 95) (Operand.tmp 96), type := 0, pos := "law.go:157", after := #[{ on := 8, ground := Ground.data }, { on := 9, ground := Ground.data }, { on := 2, ground := Ground.guard }], guard := some (2, true) }) (v := ?_) 10 rfl ?_ ?_
              rotate_left
              · (intro w hSw; (try dsimp only at hSw); first | (go_simp; done) | (go_simp; with_reducible rfl))
              try simp only [Act.put, List.setIfInBounds_toArray, List.set_cons_zero, List.set_cons_succ]
              refine tk (oi := { dst := some 98, op := Op.load 33 (Operand.tmp 97), type := 33, pos := "law.go:157", after := #[{ on := 10, ground := Ground.data }, { on := 2, ground := Ground.guard }], guard := some (2, true) }) (v := ?_) 11 rfl ?_ ?_
              rotate_left
              · (intro w hSw; (try dsimp only at hSw); first | (go_simp; done) | (go_simp; with_reducible rfl))
              try simp only [Act.put, List.setIfInBounds_toArray, List.set_cons_zero, List.set_cons_succ]
              refine wpAnyH_ready (rs := [12]) (by kernel_rfl) (by simp) ?_
              refine AllReadyH.cons (o := { dst := some 99, op := Op.call { callee := Callee.value (Operand.func 24), args := #[Operand.tmp 94, Operand.tmp 98], argTypes := #[33, 33] }, type := 4, pos := "law.go:157", after := #[{ on := 7, ground := Ground.data }, { on := 11, ground := Ground.data }, { on := 2, ground := Ground.chain }, { on := 2, ground := Ground.guard }], guard := some (2, true) }) rfl (fun K hK => ?_) AllReadyH.nil
              go_simp
              refine (pless_any e1 e0 _).mono ?_
              rw [HLE.out]
              rintro r w6 ⟨rfl, hb6⟩
              have HW6 := Lib.hid (HW.out.drew.trans hb6)
              dsimp only
              refine hK.out _ _ ⟨cells4 hb6 hHeld.1, cells4 hb6 hHeld.2⟩ (fun hHeld => ?_)
              clear hK K
              try simp only [Act.put, List.setIfInBounds_toArray, List.set_cons_zero, List.set_cons_succ]
              refine tk (oi := { dst := some 100, op := Op.unOp UnOp.not 4 (Operand.tmp 99), type := 4, pos := "law.go:157", after := #[{ on := 12, ground := Ground.data }, { on := 2, ground := Ground.guard }], guard := some (2, true) }) (v := ?_) 13 rfl ?_ ?_
              rotate_left
              · (intro w hSw; (try dsimp only at hSw); first | (go_simp; done) | (go_simp; with_reducible rfl))
              try simp only [Act.put, List.setIfInBounds_toArray, List.set_cons_zero, List.set_cons_succ]
              refine tk (oi := { dst := some 101, op := Op.pick (Operand.tmp 89) (Operand.tmp 100) (Operand.const (Value.bool false)), type := 4, pos := "law.go:157", after := #[{ on := 2, ground := Ground.data }, { on := 13, ground := Ground.data }], guard := none }) (v := ?_) 14 rfl ?_ ?_
              rotate_left
              · (intro w hSw; (try dsimp only at hSw); first | (go_simp; done) | (go_simp; with_reducible rfl))
              try simp only [Act.put, List.setIfInBounds_toArray, List.set_cons_zero, List.set_cons_succ]
              refine tk (oi := { dst := some 102, op := Op.move (Operand.tmp 101), type := 4, pos := "law.go:157", after := #[{ on := 14, ground := Ground.data }, { on := 12, ground := Ground.chain }], guard := none }) (v := ?_) 15 rfl ?_ ?_
              rotate_left
              · (intro w hSw; (try dsimp only at hSw); first | (go_simp; done) | (go_simp; with_reducible rfl))
              try simp only [Act.put, List.setIfInBounds_toArray, List.set_cons_zero, List.set_cons_succ]
              refine tk (oi := { dst := some 103, op := Op.move (Operand.tmp 11), type := 22, pos := "law.go:157", after := #[{ on := 15, ground := Ground.guard }], guard := some (15, false) }) (v := ?_) 16 rfl ?_ ?_
              rotate_left
              · (intro w hSw; (try dsimp only at hSw); first | (go_simp; done) | (go_simp; with_reducible rfl))
              try simp only [Act.put, List.setIfInBounds_toArray, List.set_cons_zero, List.set_cons_succ]
              refine tk (oi := { dst := some 104, op := Op.move (Operand.tmp 12), type := 3, pos := "law.go:157", after := #[{ on := 15, ground := Ground.guard }], guard := some (15, false) }) (v := ?_) 17 rfl ?_ ?_
              rotate_left
              · (intro w hSw; (try dsimp only at hSw); first | (go_simp; done) | (go_simp; with_reducible rfl))
              try simp only [Act.put, List.setIfInBounds_toArray, List.set_cons_zero, List.set_cons_succ]
              refine tk (oi := { dst := some 105, op := Op.indexAddr 22 (Operand.tmp 103) (Operand.tmp 104), type := 0, pos := "law.go:157", after := #[{ on := 16, ground := Ground.data }, { on := 17, ground := Ground.data }, { on := 15, ground := Ground.guard }], guard := some (15, false) }) (v := ?_) 18 rfl ?_ ?_
              rotate_left
              · (intro w hSw; (try dsimp only at hSw); first | (go_simp; done) | (go_simp; with_reducible rfl))
              try simp only [Act.put, List.setIfInBounds_toArray, List.set_cons_zero, List.set_cons_succ]
              refine tk (oi := { dst := some 106, op := Op.load 33 (Operand.tmp 105), type := 33, pos := "law.go:157", after := #[{ on := 18, ground := Ground.data }, { on := 15, ground := Ground.guard }], guard := some (15, false) }) (v := ?_) 19 rfl ?_ ?_
              rotate_left
              · (intro w hSw; (try dsimp only at hSw); first | (go_simp; done) | (go_simp; with_reducible rfl))
              try simp only [Act.put, List.setIfInBounds_toArray, List.set_cons_zero, List.set_cons_succ]
              refine wpAnyH_ready (rs := [20]) (by kernel_rfl) (by simp) ?_
              refine AllReadyH.cons (o := { dst := some 107, op := Op.call { callee := Callee.value (Operand.func 25), args := #[Operand.tmp 106], argTypes := #[33] }, type := 4, pos := "law.go:157", after := #[{ on := 19, ground := Ground.data }, { on := 15, ground := Ground.chain }, { on := 15, ground := Ground.guard }], guard := some (15, false) }) rfl (fun K hK => ?_) AllReadyH.nil
              go_simp
              refine (pright_any e0 _ HF0.out HV0.out).mono ?_
              rw [HR0.out]
              rintro r w7 ⟨rfl, hb7⟩
              have HW7 := Lib.hid (HW6.out.trans hb7)
              dsimp only
              refine hK.out _ _ ⟨cells4 hb7 hHeld.1, cells4 hb7 hHeld.2⟩ (fun hHeld => ?_)
              clear hK K
              try simp only [Act.put, List.setIfInBounds_toArray, List.set_cons_zero, List.set_cons_succ]
              refine tk (oi := { dst := some 108, op := Op.unOp UnOp.not 4 (Operand.tmp 107), type := 4, pos := "law.go:157", after := #[{ on := 20, ground := Ground.data }, { on := 15, ground := Ground.guard }], guard := some (15, false) }) (v := ?_) 21 rfl ?_ ?_
              rotate_left
              · (intro w hSw; (try dsimp only at hSw); first | (go_simp; done) | (go_simp; with_reducible rfl))
              try simp only [Act.put, List.setIfInBounds_toArray, List.set_cons_zero, List.set_cons_succ]
              refine tk (oi := { dst := some 109, op := Op.pick (Operand.tmp 102) (Operand.const (Value.bool true)) (Operand.tmp 108), type := 4, pos := "law.go:157", after := #[{ on := 15, ground := Ground.data }, { on := 21, ground := Ground.data }], guard := none }) (v := ?_) 22 rfl ?_ ?_
              rotate_left
              · (intro w hSw; (try dsimp only at hSw); first | (go_simp; done) | (go_simp; with_reducible rfl))
              try simp only [Act.put, List.setIfInBounds_toArray, List.set_cons_zero, List.set_cons_succ]
              refine wpAnyH_done (by kernel_rfl) ?_ _
              clear hHeld hb6 hb7 c0 c1 c2 c3 b0 b1 b2 b3
              go_wp2_with (fail)
              go_roundw
              case rel => exact ⟨⟨i + 1 + 1, HJL.out, by go_num⟩, HW7.out⟩
              case measure => have := HJL.out; simp [intOf]; omega
          · obtain rfl : j = C.length := by omega
            have HATW := Lib.hid (KM.bel HAT5.out HW.out)
            go_wp2_with (fail)
            refine (KM.len b F C _ HATW.out HH.out).mono ?_
            rintro e w6 ⟨rfl, hb⟩
            have HB6 := Lib.hid (HB5.out.trans (HW.out.trans hb))
            have HAT6 := Lib.hid (KM.bel HATW.out hb)
            clear hb
            go_wp2_with (fail)
            refine (KM.size b F C _ HAT6.out HH.out).mono ?_
            rintro e w7 ⟨rfl, hb⟩
            have HB7 := Lib.hid (HB6.out.trans hb)
            clear hb
            rw [← HMM.out]
            go_wp2_with (fail)
            go_ret
            exact ⟨rfl, HB7.out⟩
  · go_wp2_with (fail)
    go_ret
    exact ⟨rfl, HB2.out⟩
end Go.Proofs.Yteimllgoelleeaa
