/- TableBack. -/
import Derived.Test.YtllcdhbchcpdoaaGreatDoorV26
import Derived.Test.YtllcdhbchcpdoaaGreatDoorV2
set_option linter.unusedSimpArgs false
set_option linter.unusedVariables false
namespace Go.Proofs.YtllcdhbchcpdoaaGreatDoor
open Go.RowKit Go.Deep

def liveN (l : List EB) : Nat := (l.filter fun e => !e.d).length
theorem live_take {L : List EB} {k : Nat} (h : k < L.length) (e : EB) (he : e = L[k]) : liveN (L.take (k + 1)) = liveN (L.take k) + (if e.d then 0 else 1) := by
  rw [List.take_add_one, List.getElem?_eq_getElem h]
  unfold liveN
  rw [List.filter_append, List.length_append, he]
  cases h9 : L[k].d <;> simp [h9]
theorem live_le (L : List EB) (k : Nat) : liveN (L.take k) ≤ L.length := by
  unfold liveN
  have h1 := List.length_filter_le (fun e : EB => !e.d) (L.take k)
  have h2 : (L.take k).length ≤ L.length := by rw [List.length_take]; omega
  omega
theorem rowsC_take {C : List CT} {k : Nat} (h : k < C.length) : rowsC (C.take (k + 1)) = rowsC (C.take k) + C[k].n := by
  rw [List.take_add_one, List.getElem?_eq_getElem h]
  unfold rowsC
  rw [Option.toList_some, List.map_append, List.sum_append]
  show _ + (C[k].n + 0) = _
  omega
theorem rowsC_le : ∀ (C : List CT) (k : Nat), rowsC (C.take k) ≤ rowsC C
  | [], k => by simp
  | c :: C, 0 => by simp [rowsC]
  | c :: C, k + 1 => by
    have := rowsC_le C k
    unfold rowsC at this ⊢
    simp only [List.take_succ_cons, List.map_cons, List.sum_cons]
    omega
theorem get_y {L : List EB} {e0 : EB} (h1 : 1 ≤ e0.q) (k : List UInt8) : ∃ (y : EB) (z : Bool), getV (getE k (e0.q - 1) L) = .tuple #[.agg #[.string y.k, .int .i64 y.q, .bool y.d, .string y.v], .bool z] ∧ ¬ y.q = e0.q := by
  cases h : getE k (e0.q - 1) L with
  | none => exact ⟨⟨⟨#[]⟩, 0, false, ⟨#[]⟩⟩, false, rfl, by show ¬ (0 : Int) = e0.q; omega⟩
  | some y =>
    obtain ⟨-, h2, -⟩ := get_next h
    exact ⟨y, true, rfl, by omega⟩
theorem ents4 {w x : World} {B O : Nat} {sp : Option Nat} {e : EB} (hb : Bel w x) (h : w.cell? ⟨B, O, sp⟩ = some (.string e.k) ∧ w.cell? ⟨B, O + 1, none⟩ = some (.int .i64 e.q) ∧ w.cell? ⟨B, O + 2, none⟩ = some (.bool e.d) ∧ w.cell? ⟨B, O + 3, none⟩ = some (.string e.v)) :
    x.cell? ⟨B, O, sp⟩ = some (.string e.k) ∧ x.cell? ⟨B, O + 1, none⟩ = some (.int .i64 e.q) ∧ x.cell? ⟨B, O + 2, none⟩ = some (.bool e.d) ∧ x.cell? ⟨B, O + 3, none⟩ = some (.string e.v) :=
  ⟨cl10 hb h.1, cl10 hb h.2.1, cl10 hb h.2.2.1, cl10 hb h.2.2.2⟩
def zeroE : EB := ⟨⟨#[]⟩, 0, false, ⟨#[]⟩⟩
theorem ents4z {w x : World} {g : Nat} {e : EB} (hb : Bel w x) (h : w.cell? ⟨g, 0, none⟩ = some (.string e.k) ∧ w.cell? ⟨g, 1, none⟩ = some (.int .i64 e.q) ∧ w.cell? ⟨g, 2, none⟩ = some (.bool e.d) ∧ w.cell? ⟨g, 3, none⟩ = some (.string e.v)) :
    x.cell? ⟨g, 0, none⟩ = some (.string e.k) ∧ x.cell? ⟨g, 1, none⟩ = some (.int .i64 e.q) ∧ x.cell? ⟨g, 2, none⟩ = some (.bool e.d) ∧ x.cell? ⟨g, 3, none⟩ = some (.string e.v) :=
  ⟨cl10 hb h.1, cl10 hb h.2.1, cl10 hb h.2.2.1, cl10 hb h.2.2.2⟩
theorem set4 {w : World} {g : Nat} {e : EB} {a0 a1 a2 a3 : Value} (h0 : w.cell? ⟨g, 0, none⟩ = some a0) (h1 : w.cell? ⟨g, 1, none⟩ = some a1) (h2 : w.cell? ⟨g, 2, none⟩ = some a2) (h3 : w.cell? ⟨g, 3, none⟩ = some a3) :
    ((((w.setCell ⟨g, 0, none⟩ (.string e.k)).setCell ⟨g, 1, none⟩ (.int .i64 e.q)).setCell ⟨g, 2, none⟩ (.bool e.d)).setCell ⟨g, 3, none⟩ (.string e.v)).cell? ⟨g, 0, none⟩ = some (.string e.k) ∧
    ((((w.setCell ⟨g, 0, none⟩ (.string e.k)).setCell ⟨g, 1, none⟩ (.int .i64 e.q)).setCell ⟨g, 2, none⟩ (.bool e.d)).setCell ⟨g, 3, none⟩ (.string e.v)).cell? ⟨g, 1, none⟩ = some (.int .i64 e.q) ∧
    ((((w.setCell ⟨g, 0, none⟩ (.string e.k)).setCell ⟨g, 1, none⟩ (.int .i64 e.q)).setCell ⟨g, 2, none⟩ (.bool e.d)).setCell ⟨g, 3, none⟩ (.string e.v)).cell? ⟨g, 2, none⟩ = some (.bool e.d) ∧
    ((((w.setCell ⟨g, 0, none⟩ (.string e.k)).setCell ⟨g, 1, none⟩ (.int .i64 e.q)).setCell ⟨g, 2, none⟩ (.bool e.d)).setCell ⟨g, 3, none⟩ (.string e.v)).cell? ⟨g, 3, none⟩ = some (.string e.v) := by
  have n01 : (⟨g, 1, none⟩ : Addr) ≠ ⟨g, 0, none⟩ := by simp
  have n02 : (⟨g, 2, none⟩ : Addr) ≠ ⟨g, 0, none⟩ := by simp
  have n03 : (⟨g, 3, none⟩ : Addr) ≠ ⟨g, 0, none⟩ := by simp
  have n12 : (⟨g, 2, none⟩ : Addr) ≠ ⟨g, 1, none⟩ := by simp
  have n13 : (⟨g, 3, none⟩ : Addr) ≠ ⟨g, 1, none⟩ := by simp
  have n23 : (⟨g, 3, none⟩ : Addr) ≠ ⟨g, 2, none⟩ := by simp
  refine ⟨?_, ?_, ?_, ?_⟩
  · rw [World.cell?_setCell_other _ _ _ _ n03, World.cell?_setCell_other _ _ _ _ n02, World.cell?_setCell_other _ _ _ _ n01]
    exact World.cell?_setCell_same _ _ _ h0
  · rw [World.cell?_setCell_other _ _ _ _ n13, World.cell?_setCell_other _ _ _ _ n12]
    exact World.cell?_setCell_same _ _ _ (u := a1) ((World.cell?_setCell_other _ _ _ _ (fun h => n01 h.symm)).trans h1)
  · rw [World.cell?_setCell_other _ _ _ _ n23]
    exact World.cell?_setCell_same _ _ _ (u := a2) ((World.cell?_setCell_other _ _ _ _ (fun h => n12 h.symm)).trans ((World.cell?_setCell_other _ _ _ _ (fun h => n02 h.symm)).trans h2))
  · exact World.cell?_setCell_same _ _ _ (u := a3) ((World.cell?_setCell_other _ _ _ _ (fun h => n23 h.symm)).trans ((World.cell?_setCell_other _ _ _ _ (fun h => n13 h.symm)).trans ((World.cell?_setCell_other _ _ _ _ (fun h => n03 h.symm)).trans h3)))
set_option maxHeartbeats 16000000 in
set_option maxRecDepth 20000 in
theorem law_tback_any (W : World) (hstd : MaxOk W) (a0 : Option Addr) (cap0 : Nat) (L0 : List EB) (hi0 : EntsAt W a0 L0) (hl0 : L0.length ≤ maxLen) (hs0 : fitsL L0) :
    Calls Tryz.prog 5 #[.slice a0 L0.length cap0] W fun e w' => e = .returned (.bool true) ∧ Bel W w' := by
  have HM := Lib.hid hstd; have HI := Lib.hid hi0; have HF := Lib.hid hs0
  clear hstd hi0 hs0
  unfold maxLen at hl0
  go_enter Tryz.func5, Tryz.ntmps5
  go_wp2_with (fail)
  refine (shown10_any W HM.out).mono ?_
  rintro e w1 ⟨rfl, hb⟩
  have HB1 := Lib.hid hb; clear hb
  go_wp2_with (fail)
  refine (small10_any a0 cap0 L0 w1 (HI.out.bel HB1.out) (by omega) HF.out).mono ?_
  rintro e w2 ⟨hd, hres⟩
  have HB2 := Lib.hid (HB1.out.trans hd.bel); clear hd
  rcases hres with ⟨hsm, rfl⟩ | rfl
  · have hl60 := hsm.1
    obtain ⟨t1, t2, t3, t4, t5, t6⟩ := stand_small0 hsm
    have HSF := Lib.hid t2; have HSZ := Lib.hid t3; have HST := Lib.hid t4; have HSV := Lib.hid t5; have HLV := Lib.hid t6
    clear hsm t2 t3 t4 t5 t6
    go_wp2_with (fail)
    refine (standing_any a0 cap0 L0 w2 (HI.out.bel HB2.out) (by omega) HF.out HLV.out).mono ?_
    rintro e w3 ⟨v, rfl, ho, hb⟩
    obtain ⟨q, qc, rfl, hat⟩ := ownG_ents ho
    have HB3 := Lib.hid (HB2.out.trans hb)
    have HAT := Lib.hid hat
    clear ho hat hb
    obtain ⟨M, hM⟩ : ∃ M, M = standingB L0 := ⟨_, rfl⟩
    rw [← hM] at HAT HSF HSZ HST HSV t1 ⊢
    clear hM
    go_wp2_with (fail)
    refine (pbuildT_any q qc M w3 HAT.out (by omega) HSF.out HSZ.out).mono ?_
    unfold buildV
    rcases built_any HST.out t1 with ⟨h0, hb0⟩ | ⟨h0, hb0⟩ | ⟨h0, he0, hb0⟩
    · rw [hb0]
      rintro e w4 ⟨rfl, hb⟩
      have HB4 := Lib.hid (HB3.out.trans hb); clear hb hb0
      have hml : M.length = 0 := by rw [h0]; rfl
      rw [hml]
      clear h0 hml
      go_wp2_with (fail)
      go_ret
      exact ⟨rfl, HB4.out⟩
    · rw [hb0]
      rintro e w4 ⟨rfl, hb⟩
      have HB4 := Lib.hid (HB3.out.trans hb); clear hb hb0
      have hml : ¬ M.length = 0 := fun h => h0 (List.length_eq_zero_iff.1 h)
      clear h0
      obtain ⟨m, hm⟩ : ∃ m, m = M.length := ⟨_, rfl⟩
      rw [← hm] at hml ⊢
      clear hm
      go_wp2_with (fail)
      go_ret
      exact ⟨rfl, HB4.out⟩
    · rw [hb0]
      obtain ⟨S, hS⟩ : ∃ S : ByteArray, S = ⟨(fileL M).toArray⟩ := ⟨_, rfl⟩
      have HSD := Lib.hid (show S.data.toList = fileL M by rw [hS])
      rw [← hS]
      rintro e w4 ⟨rfl, hb⟩
      have HB4 := Lib.hid (HB3.out.trans hb)
      have HAT4 := Lib.hid (HAT.out.bel hb)
      have H0 := Lib.hid h0; have HE0 := Lib.hid he0
      clear hb hb0 h0 hS he0
      go_wp2_with (fail)
      refine (open_ok M S w4 HSD.out (HM.out.bel HB4.out) HST.out H0.out t1 HSV.out HE0.out).mono ?_
      rintro e w5 ⟨b, rfl, ht, hb⟩
      have HB5 := Lib.hid (HB4.out.trans hb)
      have HT5 := Lib.hid ht
      have HAT5 := Lib.hid (HAT4.out.bel hb)
      clear hb ht
      have HP := Lib.hid (stand_pair HST.out)
      have HR := Lib.hid (stand_right HST.out)
      go_wp2_with (fail)
      refine (between_any10 b ⟨#[]⟩ ⟨#[]⟩ M w5 HT5.out (by omega) HP.out).mono ?_
      rintro e w6 ⟨v6, rfl, ho, hb⟩
      replace ho := (show OwnG entEl w5.heap.size w6 v6 (betE [] [] M) from ho)
      rw [bet_all] at ho
      obtain ⟨q6, c6, rfl, hat6⟩ := ownG_ents ho
      have HB6 := Lib.hid (HB5.out.trans hb)
      have HT6 := Lib.hid (HT5.out.bel hb)
      have HAT6 := Lib.hid (HAT5.out.bel hb)
      have HA6 := Lib.hid hat6
      clear ho hb hat6
      go_wp2_with (fail)
      refine (same10_at q6 q _ _ c6 qc M w6 HA6.out HAT6.out (by omega) rfl rfl).mono ?_
      rintro e w7 ⟨rfl, hd⟩
      have HB7 := Lib.hid (HB6.out.trans hd.bel)
      have HT7 := Lib.hid (HT6.out.bel hd.bel)
      have HAT7 := Lib.hid (HAT6.out.bel hd.bel)
      clear hd
      go_wp2_with (fail)
      go_loopw [10, 11] (fun rv iv x => (∃ k : Nat, k ≤ M.length ∧ iv = .int .i64 (k : Nat) ∧ rv = .int .i64 (liveN (M.take k) : Nat)) ∧ Bel w7 x) (fun _ iv _ => M.length - (intOf iv).toNat)
      case atStart => exact ⟨⟨0, Nat.zero_le _, rfl, rfl⟩, Bel.refl w7⟩
      case round =>
        obtain ⟨⟨k, hk, rfl, rfl⟩, hw⟩ := hrel
        have HW := Lib.hid hw
        clear hw
        by_cases hlt : k < M.length
        · obtain ⟨a, e0, rfl, he0, B, O, sp, ha, hcs⟩ := (HAT7.out.bel HW.out).get hlt
          have HC := Lib.hid hcs
          have HLV1 := Lib.hid (live_take hlt e0 he0)
          have hll := live_le M k
          have hmem : e0 ∈ M := by rw [he0]; exact List.getElem_mem hlt
          have hq1 := right_top (HR.out e0 hmem)
          have HG1 := Lib.hid (get_own HP.out hmem)
          obtain ⟨y, yz, hgy, hyq⟩ := get_y (L := M) hq1.1 e0.k.data.toList
          have HGY := Lib.hid hgy
          have HYQ := Lib.hid hyq
          have HQ1 := Lib.hid hq1
          have hqw : IntKind.i64.wrap (e0.q - 1) = e0.q - 1 := by rw [IntKind.wrap_i64]; omega
          have hki : (k : Int) < (M.length : Int) := by omega
          obtain ⟨r0, hr0⟩ : ∃ r0, r0 = liveN (M.take k) := ⟨_, rfl⟩
          rw [← hr0] at HLV1 hll ⊢
          clear hr0 he0 hmem hq1 hgy hyq hcs
          go_wp2_with (fail)
          refine wp_region_held_drew (S := fun z => z.cell? ⟨B, O, sp⟩ = some (.string e0.k) ∧ z.cell? ⟨B, O + 1, none⟩ = some (.int .i64 e0.q) ∧ z.cell? ⟨B, O + 2, none⟩ = some (.bool e0.d) ∧ z.cell? ⟨B, O + 3, none⟩ = some (.string e0.v)) (by kernel_rfl) HC.out (fun hHeld => ?_)
          refine tk (oi := { dst := some 69, op := Op.move (Operand.tmp 8), type := 40, pos := "law.go:173", after := #[], guard := none }) (v := ?_) 0 rfl ?_ ?_
          rotate_left
          · (intro w hSw; (try dsimp only at hSw); first | (go_simp; done) | (go_simp; with_reducible rfl))
          try simp only [Act.put, List.setIfInBounds_toArray, List.set_cons_zero, List.set_cons_succ]
          refine tk (oi := { dst := some 70, op := Op.move (Operand.tmp 5), type := 26, pos := "law.go:173", after := #[], guard := none }) (v := ?_) 1 rfl ?_ ?_
          rotate_left
          · (intro w hSw; (try dsimp only at hSw); first | (go_simp; done) | (go_simp; with_reducible rfl))
          try simp only [Act.put, List.setIfInBounds_toArray, List.set_cons_zero, List.set_cons_succ]
          refine tk (oi := { dst := some 71, op := Op.move (Operand.tmp 11), type := 3, pos := "law.go:173", after := #[], guard := none }) (v := ?_) 2 rfl ?_ ?_
          rotate_left
          · (intro w hSw; (try dsimp only at hSw); first | (go_simp; done) | (go_simp; with_reducible rfl))
          try simp only [Act.put, List.setIfInBounds_toArray, List.set_cons_zero, List.set_cons_succ]
          refine tk (oi := { dst := some 72, op := Op.indexAddr 26 (Operand.tmp 70) (Operand.tmp 71), type := 0, pos := "law.go:173", after := #[{ on := 1, ground := Ground.data }, { on := 2, ground := Ground.data }], guard := none }) (v := ?_) 3 rfl ?_ ?_
          rotate_left
          · (intro w hSw; (try dsimp only at hSw); first | (go_simp; done) | (go_simp; with_reducible rfl))
          try simp only [Act.put, List.setIfInBounds_toArray, List.set_cons_zero, List.set_cons_succ]
          refine tk (oi := { dst := some 73, op := Op.fieldAddr 23 (Operand.tmp 72) 0, type := 0, pos := "law.go:173", after := #[{ on := 3, ground := Ground.data }], guard := none }) (v := ?_) 4 rfl ?_ ?_
          rotate_left
          · (intro w hSw; (try dsimp only at hSw); first | (go_simp; done) | (go_simp; with_reducible rfl))
          try simp only [Act.put, List.setIfInBounds_toArray, List.set_cons_zero, List.set_cons_succ]
          refine tk (oi := { dst := some 74, op := Op.load 9 (Operand.tmp 73), type := 9, pos := "law.go:173", after := #[{ on := 4, ground := Ground.data }], guard := none }) (v := ?_) 5 rfl ?_ ?_
          rotate_left
          · (intro w hSw; (try dsimp only at hSw); first | (go_simp; done) | (go_simp; with_reducible rfl))
          try simp only [Act.put, List.setIfInBounds_toArray, List.set_cons_zero, List.set_cons_succ]
          refine tk (oi := { dst := some 75, op := Op.move (Operand.tmp 5), type := 26, pos := "law.go:173", after := #[], guard := none }) (v := ?_) 6 rfl ?_ ?_
          rotate_left
          · (intro w hSw; (try dsimp only at hSw); first | (go_simp; done) | (go_simp; with_reducible rfl))
          try simp only [Act.put, List.setIfInBounds_toArray, List.set_cons_zero, List.set_cons_succ]
          refine tk (oi := { dst := some 76, op := Op.move (Operand.tmp 11), type := 3, pos := "law.go:173", after := #[], guard := none }) (v := ?_) 7 rfl ?_ ?_
          rotate_left
          · (intro w hSw; (try dsimp only at hSw); first | (go_simp; done) | (go_simp; with_reducible rfl))
          try simp only [Act.put, List.setIfInBounds_toArray, List.set_cons_zero, List.set_cons_succ]
          refine tk (oi := { dst := some 77, op := Op.indexAddr 26 (Operand.tmp 75) (Operand.tmp 76), type := 0, pos := "law.go:173", after := #[{ on := 6, ground := Ground.data }, { on := 7, ground := Ground.data }], guard := none }) (v := ?_) 8 rfl ?_ ?_
          rotate_left
          · (intro w hSw; (try dsimp only at hSw); first | (go_simp; done) | (go_simp; with_reducible rfl))
          try simp only [Act.put, List.setIfInBounds_toArray, List.set_cons_zero, List.set_cons_succ]
          refine tk (oi := { dst := some 78, op := Op.fieldAddr 23 (Operand.tmp 77) 1, type := 0, pos := "law.go:173", after := #[{ on := 8, ground := Ground.data }], guard := none }) (v := ?_) 9 rfl ?_ ?_
          rotate_left
          · (intro w hSw; (try dsimp only at hSw); first | (go_simp; done) | (go_simp; with_reducible rfl))
          try simp only [Act.put, List.setIfInBounds_toArray, List.set_cons_zero, List.set_cons_succ]
          refine tk (oi := { dst := some 79, op := Op.load 3 (Operand.tmp 78), type := 3, pos := "law.go:173", after := #[{ on := 9, ground := Ground.data }], guard := none }) (v := ?_) 10 rfl ?_ ?_
          rotate_left
          · (intro w hSw; (try dsimp only at hSw); first | (go_simp; done) | (go_simp; with_reducible rfl))
          try simp only [Act.put, List.setIfInBounds_toArray, List.set_cons_zero, List.set_cons_succ]
          refine wpAnyH_ready (rs := [11, 15]) (by kernel_rfl) (by simp) ?_
          refine (AllReadyH.cons (o := { dst := some 80, op := Op.call { callee := Callee.value (Operand.func 28), args := #[Operand.tmp 69, Operand.tmp 74, Operand.tmp 79], argTypes := #[40, 9, 3] }, type := 45, pos := "law.go:173", after := #[{ on := 0, ground := Ground.data }, { on := 5, ground := Ground.data }, { on := 10, ground := Ground.data }], guard := none }) rfl (fun K hK => ?_) (AllReadyH.cons (o := { dst := some 12, op := Op.alloc 23, type := 0, pos := "law.go:173", after := #[], guard := none }) rfl (fun K hK => ?_) AllReadyH.nil))
          · go_simp
            refine (get_is b e0.k e0.q M (some e0) _ HG1.out (HT7.out.bel HW.out.drew) (by omega) HP.out).mono ?_
            rintro r z ⟨rfl, hb⟩
            unfold getV
            have HZ := Lib.hid (HW.out.drew.trans hb)
            dsimp only
            refine hK.out _ _ (ents4 hb hHeld) (fun hHeld => ?_)
            clear hK K
            try simp only [Act.put, List.setIfInBounds_toArray, List.set_cons_zero, List.set_cons_succ]
            have hbZ := hb
            clear hb
            refine tk (oi := { dst := some 68, op := Op.move (Operand.tmp 80), type := 45, pos := "law.go:173", after := #[{ on := 11, ground := Ground.data }], guard := none }) (v := ?_) 12 rfl ?_ ?_
            rotate_left
            · (intro w hSw; (try dsimp only at hSw); first | (go_simp; done) | (go_simp; with_reducible rfl))
            try simp only [Act.put, List.setIfInBounds_toArray, List.set_cons_zero, List.set_cons_succ]
            refine tk (oi := { dst := some 81, op := Op.extract (Operand.tmp 68) 0, type := 23, pos := "law.go:173", after := #[{ on := 12, ground := Ground.data }], guard := none }) (v := ?_) 13 rfl ?_ ?_
            rotate_left
            · (intro w hSw; (try dsimp only at hSw); first | (go_simp; done) | (go_simp; with_reducible rfl))
            try simp only [Act.put, List.setIfInBounds_toArray, List.set_cons_zero, List.set_cons_succ]
            refine tk (oi := { dst := some 82, op := Op.extract (Operand.tmp 68) 1, type := 4, pos := "law.go:173", after := #[{ on := 12, ground := Ground.data }, { on := 16, ground := Ground.gcOnly Departure.lateStores }], guard := none }) (v := ?_) 14 rfl ?_ ?_
            rotate_left
            · (intro w hSw; (try dsimp only at hSw); first | (go_simp; done) | (go_simp; with_reducible rfl))
            try simp only [Act.put, List.setIfInBounds_toArray, List.set_cons_zero, List.set_cons_succ]
            refine wpAnyH_ready (rs := [15]) (by kernel_rfl) (by simp) ?_
            refine AllReadyH.cons (o := { dst := some 12, op := Op.alloc 23, type := 0, pos := "law.go:173", after := #[], guard := none }) rfl (fun K hK => ?_) AllReadyH.nil
            go_simp
            refine hK.out _ _ (ents4 ((Bel.refl z).alloc _) hHeld) (fun hHeld => ?_)
            clear hK K
            try simp only [Act.put, List.setIfInBounds_toArray, List.set_cons_zero, List.set_cons_succ]
            refine wpAnyH_ready (rs := [16]) (by kernel_rfl) (by simp) ?_
            refine AllReadyH.cons (o := { dst := none, op := Op.store 23 (Operand.tmp 12) (Operand.tmp 81), type := 0, pos := "law.go:173", after := #[{ on := 15, ground := Ground.data }, { on := 13, ground := Ground.data }, { on := 11, ground := Ground.chain }, { on := 0, ground := Ground.phase }, { on := 1, ground := Ground.phase }, { on := 2, ground := Ground.phase }, { on := 3, ground := Ground.phase }, { on := 4, ground := Ground.phase }, { on := 5, ground := Ground.phase }, { on := 6, ground := Ground.phase }, { on := 7, ground := Ground.phase }, { on := 8, ground := Ground.phase }, { on := 9, ground := Ground.phase }, { on := 10, ground := Ground.phase }, { on := 11, ground := Ground.phase }, { on := 12, ground := Ground.phase }, { on := 13, ground := Ground.phase }, { on := 14, ground := Ground.textOnly Departure.lateStores }, { on := 15, ground := Ground.phase }], guard := none }) rfl (fun K hK => ?_) AllReadyH.nil
            go_simp
            have hbA : Bel z (z.alloc (.cells #[.string e0.k, .int .i64 e0.q, .bool e0.d, .string e0.v] 23)) := (Bel.refl z).alloc _
            refine hK.out _ _ (ents4 hbA (ents4 hbZ (ents4 (Bel.refl wr).drew HC.out))) (fun hHeld => ?_)
            clear hK K
            try simp only [Act.put, List.setIfInBounds_toArray, List.set_cons_zero, List.set_cons_succ]
            refine tk (oi := { dst := some 13, op := Op.assign (Operand.tmp 82), type := 4, pos := "law.go:173", after := #[{ on := 14, ground := Ground.data }, { on := 16, ground := Ground.chain }, { on := 0, ground := Ground.phase }, { on := 1, ground := Ground.phase }, { on := 2, ground := Ground.phase }, { on := 3, ground := Ground.phase }, { on := 4, ground := Ground.phase }, { on := 5, ground := Ground.phase }, { on := 6, ground := Ground.phase }, { on := 7, ground := Ground.phase }, { on := 8, ground := Ground.phase }, { on := 9, ground := Ground.phase }, { on := 10, ground := Ground.phase }, { on := 11, ground := Ground.phase }, { on := 12, ground := Ground.phase }, { on := 13, ground := Ground.phase }, { on := 14, ground := Ground.phase }, { on := 15, ground := Ground.phase }, { on := 16, ground := Ground.phase }], guard := none }) (v := ?_) 17 rfl ?_ ?_
            rotate_left
            · (intro w hSw; (try dsimp only at hSw); first | (go_simp; done) | (go_simp; with_reducible rfl))
            try simp only [Act.put, List.setIfInBounds_toArray, List.set_cons_zero, List.set_cons_succ]
            refine wpAnyH_done (by kernel_rfl) ?_ _
            obtain ⟨x1, hx1⟩ : ∃ x, x = z.alloc (.cells #[.string e0.k, .int .i64 e0.q, .bool e0.d, .string e0.v] 23) := ⟨_, rfl⟩
            have hbk : x1.heap[z.heap.size]? = some (.cells #[.string e0.k, .int .i64 e0.q, .bool e0.d, .string e0.v] 23 (0, 0)) := by rw [hx1]; exact heap_alloc_new z _
            have HX1 := Lib.hid (show x1.cell? ⟨z.heap.size, 0, none⟩ = some (.string e0.k) ∧ x1.cell? ⟨z.heap.size, 1, none⟩ = some (.int .i64 e0.q) ∧ x1.cell? ⟨z.heap.size, 2, none⟩ = some (.bool e0.d) ∧ x1.cell? ⟨z.heap.size, 3, none⟩ = some (.string e0.v) by refine ⟨?_, ?_, ?_, ?_⟩ <;> simp [World.cell?, hbk])
            have hbx : Bel wr x1 := by rw [hx1]; exact (((Bel.refl wr).drew).trans hbZ).alloc _
            have HBX1 := Lib.hid hbx
            have HW1 := Lib.hid (HW.out.trans hbx)
            have HC1 := Lib.hid (ents4 hbx HC.out)
            rw [← hx1]
            clear hx1 hbk hbx hbA hbZ HZ hHeld
            generalize z.heap.size = X1 at *
            have ht1 := Lib.hid (rfl : (0:Nat) = 0)
            clear ht1
            obtain ⟨d0, d1, d2, d3⟩ := HC1.out
            clear d0 d1 d2 d3
            go_wp2_with (fail)
            refine wp_region_held_drew (S := fun z => z.cell? ⟨B, O, sp⟩ = some (.string e0.k) ∧ z.cell? ⟨B, O + 1, none⟩ = some (.int .i64 e0.q) ∧ z.cell? ⟨B, O + 2, none⟩ = some (.bool e0.d) ∧ z.cell? ⟨B, O + 3, none⟩ = some (.string e0.v)) (by kernel_rfl) HC1.out (fun hHeld => ?_)
            refine tk (oi := { dst := some 84, op := Op.move (Operand.tmp 8), type := 40, pos := "law.go:174", after := #[], guard := none }) (v := ?_) 0 rfl ?_ ?_
            rotate_left
            · (intro w hSw; (try dsimp only at hSw); first | (go_simp; done) | (go_simp; with_reducible rfl))
            try simp only [Act.put, List.setIfInBounds_toArray, List.set_cons_zero, List.set_cons_succ]
            refine tk (oi := { dst := some 85, op := Op.move (Operand.tmp 5), type := 26, pos := "law.go:174", after := #[], guard := none }) (v := ?_) 1 rfl ?_ ?_
            rotate_left
            · (intro w hSw; (try dsimp only at hSw); first | (go_simp; done) | (go_simp; with_reducible rfl))
            try simp only [Act.put, List.setIfInBounds_toArray, List.set_cons_zero, List.set_cons_succ]
            refine tk (oi := { dst := some 86, op := Op.move (Operand.tmp 11), type := 3, pos := "law.go:174", after := #[], guard := none }) (v := ?_) 2 rfl ?_ ?_
            rotate_left
            · (intro w hSw; (try dsimp only at hSw); first | (go_simp; done) | (go_simp; with_reducible rfl))
            try simp only [Act.put, List.setIfInBounds_toArray, List.set_cons_zero, List.set_cons_succ]
            refine tk (oi := { dst := some 87, op := Op.indexAddr 26 (Operand.tmp 85) (Operand.tmp 86), type := 0, pos := "law.go:174", after := #[{ on := 1, ground := Ground.data }, { on := 2, ground := Ground.data }], guard := none }) (v := ?_) 3 rfl ?_ ?_
            rotate_left
            · (intro w hSw; (try dsimp only at hSw); first | (go_simp; done) | (go_simp; with_reducible rfl))
            try simp only [Act.put, List.setIfInBounds_toArray, List.set_cons_zero, List.set_cons_succ]
            refine tk (oi := { dst := some 88, op := Op.fieldAddr 23 (Operand.tmp 87) 0, type := 0, pos := "law.go:174", after := #[{ on := 3, ground := Ground.data }], guard := none }) (v := ?_) 4 rfl ?_ ?_
            rotate_left
            · (intro w hSw; (try dsimp only at hSw); first | (go_simp; done) | (go_simp; with_reducible rfl))
            try simp only [Act.put, List.setIfInBounds_toArray, List.set_cons_zero, List.set_cons_succ]
            refine tk (oi := { dst := some 89, op := Op.load 9 (Operand.tmp 88), type := 9, pos := "law.go:174", after := #[{ on := 4, ground := Ground.data }], guard := none }) (v := ?_) 5 rfl ?_ ?_
            rotate_left
            · (intro w hSw; (try dsimp only at hSw); first | (go_simp; done) | (go_simp; with_reducible rfl))
            try simp only [Act.put, List.setIfInBounds_toArray, List.set_cons_zero, List.set_cons_succ]
            refine tk (oi := { dst := some 90, op := Op.move (Operand.tmp 5), type := 26, pos := "law.go:174", after := #[], guard := none }) (v := ?_) 6 rfl ?_ ?_
            rotate_left
            · (intro w hSw; (try dsimp only at hSw); first | (go_simp; done) | (go_simp; with_reducible rfl))
            try simp only [Act.put, List.setIfInBounds_toArray, List.set_cons_zero, List.set_cons_succ]
            refine tk (oi := { dst := some 91, op := Op.move (Operand.tmp 11), type := 3, pos := "law.go:174", after := #[], guard := none }) (v := ?_) 7 rfl ?_ ?_
            rotate_left
            · (intro w hSw; (try dsimp only at hSw); first | (go_simp; done) | (go_simp; with_reducible rfl))
            try simp only [Act.put, List.setIfInBounds_toArray, List.set_cons_zero, List.set_cons_succ]
            refine tk (oi := { dst := some 92, op := Op.indexAddr 26 (Operand.tmp 90) (Operand.tmp 91), type := 0, pos := "law.go:174", after := #[{ on := 6, ground := Ground.data }, { on := 7, ground := Ground.data }], guard := none }) (v := ?_) 8 rfl ?_ ?_
            rotate_left
            · (intro w hSw; (try dsimp only at hSw); first | (go_simp; done) | (go_simp; with_reducible rfl))
            try simp only [Act.put, List.setIfInBounds_toArray, List.set_cons_zero, List.set_cons_succ]
            refine tk (oi := { dst := some 93, op := Op.fieldAddr 23 (Operand.tmp 92) 1, type := 0, pos := "law.go:174", after := #[{ on := 8, ground := Ground.data }], guard := none }) (v := ?_) 9 rfl ?_ ?_
            rotate_left
            · (intro w hSw; (try dsimp only at hSw); first | (go_simp; done) | (go_simp; with_reducible rfl))
            try simp only [Act.put, List.setIfInBounds_toArray, List.set_cons_zero, List.set_cons_succ]
            refine tk (oi := { dst := some 94, op := Op.load 3 (Operand.tmp 93), type := 3, pos := "law.go:174", after := #[{ on := 9, ground := Ground.data }], guard := none }) (v := ?_) 10 rfl ?_ ?_
            rotate_left
            · (intro w hSw; (try dsimp only at hSw); first | (go_simp; done) | (go_simp; with_reducible rfl))
            try simp only [Act.put, List.setIfInBounds_toArray, List.set_cons_zero, List.set_cons_succ]
            refine tk (oi := { dst := some 95, op := Op.binOp BinOp.sub 3 (Operand.tmp 94) (Operand.const (Value.int IntKind.i64 1)) 3, type := 3, pos := "law.go:174", after := #[{ on := 10, ground := Ground.data }], guard := none }) (v := ?_) 11 rfl ?_ ?_
            rotate_left
            · (intro w hSw; (try dsimp only at hSw); first | (go_simp; done) | (go_simp; with_reducible rfl))
            try simp only [Act.put, List.setIfInBounds_toArray, List.set_cons_zero, List.set_cons_succ]
            refine wpAnyH_ready (rs := [12, 16]) (by kernel_rfl) (by simp) ?_
            refine (AllReadyH.cons (o := { dst := some 96, op := Op.call { callee := Callee.value (Operand.func 28), args := #[Operand.tmp 84, Operand.tmp 89, Operand.tmp 95], argTypes := #[40, 9, 3] }, type := 45, pos := "law.go:174", after := #[{ on := 0, ground := Ground.data }, { on := 5, ground := Ground.data }, { on := 11, ground := Ground.data }], guard := none }) rfl (fun K hK => ?_) (AllReadyH.cons (o := { dst := some 14, op := Op.alloc 23, type := 0, pos := "law.go:174", after := #[], guard := none }) rfl (fun K hK => ?_) AllReadyH.nil))
            · go_simp
              refine (get_any b e0.k (e0.q - 1) M _ (HT7.out.bel HW1.out.drew) (by omega) HP.out).mono ?_
              rw [HGY.out]
              rintro r z ⟨rfl, hb⟩
              have HZ := Lib.hid (HW1.out.drew.trans hb)
              dsimp only
              refine hK.out _ _ (ents4 hb hHeld) (fun hHeld => ?_)
              clear hK K
              try simp only [Act.put, List.setIfInBounds_toArray, List.set_cons_zero, List.set_cons_succ]
              have hbZ := hb
              clear hb
              refine tk (oi := { dst := some 83, op := Op.move (Operand.tmp 96), type := 45, pos := "law.go:174", after := #[{ on := 12, ground := Ground.data }], guard := none }) (v := ?_) 13 rfl ?_ ?_
              rotate_left
              · (intro w hSw; (try dsimp only at hSw); first | (go_simp; done) | (go_simp; with_reducible rfl))
              try simp only [Act.put, List.setIfInBounds_toArray, List.set_cons_zero, List.set_cons_succ]
              refine tk (oi := { dst := some 97, op := Op.extract (Operand.tmp 83) 0, type := 23, pos := "law.go:174", after := #[{ on := 13, ground := Ground.data }], guard := none }) (v := ?_) 14 rfl ?_ ?_
              rotate_left
              · (intro w hSw; (try dsimp only at hSw); first | (go_simp; done) | (go_simp; with_reducible rfl))
              try simp only [Act.put, List.setIfInBounds_toArray, List.set_cons_zero, List.set_cons_succ]
              refine tk (oi := { dst := some 98, op := Op.extract (Operand.tmp 83) 1, type := 4, pos := "law.go:174", after := #[{ on := 13, ground := Ground.data }, { on := 17, ground := Ground.gcOnly Departure.lateStores }], guard := none }) (v := ?_) 15 rfl ?_ ?_
              rotate_left
              · (intro w hSw; (try dsimp only at hSw); first | (go_simp; done) | (go_simp; with_reducible rfl))
              try simp only [Act.put, List.setIfInBounds_toArray, List.set_cons_zero, List.set_cons_succ]
              refine wpAnyH_ready (rs := [16]) (by kernel_rfl) (by simp) ?_
              refine AllReadyH.cons (o := { dst := some 14, op := Op.alloc 23, type := 0, pos := "law.go:174", after := #[], guard := none }) rfl (fun K hK => ?_) AllReadyH.nil
              go_simp
              refine hK.out _ _ (ents4 ((Bel.refl z).alloc _) hHeld) (fun hHeld => ?_)
              clear hK K
              try simp only [Act.put, List.setIfInBounds_toArray, List.set_cons_zero, List.set_cons_succ]
              refine wpAnyH_ready (rs := [17]) (by kernel_rfl) (by simp) ?_
              refine AllReadyH.cons (o := { dst := none, op := Op.store 23 (Operand.tmp 14) (Operand.tmp 97), type := 0, pos := "law.go:174", after := #[{ on := 16, ground := Ground.data }, { on := 14, ground := Ground.data }, { on := 12, ground := Ground.chain }, { on := 0, ground := Ground.phase }, { on := 1, ground := Ground.phase }, { on := 2, ground := Ground.phase }, { on := 3, ground := Ground.phase }, { on := 4, ground := Ground.phase }, { on := 5, ground := Ground.phase }, { on := 6, ground := Ground.phase }, { on := 7, ground := Ground.phase }, { on := 8, ground := Ground.phase }, { on := 9, ground := Ground.phase }, { on := 10, ground := Ground.phase }, { on := 11, ground := Ground.phase }, { on := 12, ground := Ground.phase }, { on := 13, ground := Ground.phase }, { on := 14, ground := Ground.phase }, { on := 15, ground := Ground.textOnly Departure.lateStores }, { on := 16, ground := Ground.phase }], guard := none }) rfl (fun K hK => ?_) AllReadyH.nil
              go_simp
              have hbA : Bel z (z.alloc (.cells #[.string y.k, .int .i64 y.q, .bool y.d, .string y.v] 23)) := (Bel.refl z).alloc _
              refine hK.out _ _ (ents4 hbA (ents4 hbZ (ents4 (Bel.refl x1).drew HC1.out))) (fun hHeld => ?_)
              clear hK K
              try simp only [Act.put, List.setIfInBounds_toArray, List.set_cons_zero, List.set_cons_succ]
              refine tk (oi := { dst := some 15, op := Op.assign (Operand.tmp 98), type := 4, pos := "law.go:174", after := #[{ on := 15, ground := Ground.data }, { on := 17, ground := Ground.chain }, { on := 0, ground := Ground.phase }, { on := 1, ground := Ground.phase }, { on := 2, ground := Ground.phase }, { on := 3, ground := Ground.phase }, { on := 4, ground := Ground.phase }, { on := 5, ground := Ground.phase }, { on := 6, ground := Ground.phase }, { on := 7, ground := Ground.phase }, { on := 8, ground := Ground.phase }, { on := 9, ground := Ground.phase }, { on := 10, ground := Ground.phase }, { on := 11, ground := Ground.phase }, { on := 12, ground := Ground.phase }, { on := 13, ground := Ground.phase }, { on := 14, ground := Ground.phase }, { on := 15, ground := Ground.phase }, { on := 16, ground := Ground.phase }, { on := 17, ground := Ground.phase }], guard := none }) (v := ?_) 18 rfl ?_ ?_
              rotate_left
              · (intro w hSw; (try dsimp only at hSw); first | (go_simp; done) | (go_simp; with_reducible rfl))
              try simp only [Act.put, List.setIfInBounds_toArray, List.set_cons_zero, List.set_cons_succ]
              refine wpAnyH_done (by kernel_rfl) ?_ _
              obtain ⟨x2, hx2⟩ : ∃ x, x = z.alloc (.cells #[.string y.k, .int .i64 y.q, .bool y.d, .string y.v] 23) := ⟨_, rfl⟩
              have hbk : x2.heap[z.heap.size]? = some (.cells #[.string y.k, .int .i64 y.q, .bool y.d, .string y.v] 23 (0, 0)) := by rw [hx2]; exact heap_alloc_new z _
              have HX2 := Lib.hid (show x2.cell? ⟨z.heap.size, 0, none⟩ = some (.string y.k) ∧ x2.cell? ⟨z.heap.size, 1, none⟩ = some (.int .i64 y.q) ∧ x2.cell? ⟨z.heap.size, 2, none⟩ = some (.bool y.d) ∧ x2.cell? ⟨z.heap.size, 3, none⟩ = some (.string y.v) by refine ⟨?_, ?_, ?_, ?_⟩ <;> simp [World.cell?, hbk])
              have hbx : Bel x1 x2 := by rw [hx2]; exact (((Bel.refl x1).drew).trans hbZ).alloc _
              have HBX2 := Lib.hid hbx
              have HW2 := Lib.hid (HW1.out.trans hbx)
              have HC2 := Lib.hid (ents4 hbx HC1.out)
              rw [← hx2]
              clear hx2 hbk hbx hbA hbZ HZ hHeld
              generalize z.heap.size = X2 at *
              have HX1 := Lib.hid (show x2.cell? ⟨X1, 0, none⟩ = some (.string e0.k) ∧ x2.cell? ⟨X1, 1, none⟩ = some (.int .i64 e0.q) ∧ x2.cell? ⟨X1, 2, none⟩ = some (.bool e0.d) ∧ x2.cell? ⟨X1, 3, none⟩ = some (.string e0.v) from ents4z HBX2.out HX1.out)
              have hyq := HYQ.out
              go_wp2_with (fail)
              refine wp_region_held_drew (S := fun z => (z.cell? ⟨B, O, sp⟩ = some (.string e0.k) ∧ z.cell? ⟨B, O + 1, none⟩ = some (.int .i64 e0.q) ∧ z.cell? ⟨B, O + 2, none⟩ = some (.bool e0.d) ∧ z.cell? ⟨B, O + 3, none⟩ = some (.string e0.v)) ∧ (z.cell? ⟨X1, 0, none⟩ = some (.string e0.k) ∧ z.cell? ⟨X1, 1, none⟩ = some (.int .i64 e0.q) ∧ z.cell? ⟨X1, 2, none⟩ = some (.bool e0.d) ∧ z.cell? ⟨X1, 3, none⟩ = some (.string e0.v)) ∧ z.cell? ⟨X2, 0, none⟩ = some (.string y.k) ∧ z.cell? ⟨X2, 1, none⟩ = some (.int .i64 y.q) ∧ z.cell? ⟨X2, 2, none⟩ = some (.bool y.d) ∧ z.cell? ⟨X2, 3, none⟩ = some (.string y.v)) (by kernel_rfl) ⟨HC2.out, HX1.out, HX2.out⟩ (fun hHeld => ?_)
              refine tk (oi := { dst := some 99, op := Op.move (Operand.tmp 13), type := 4, pos := "law.go:175", after := #[], guard := none }) (v := ?_) 0 rfl ?_ ?_
              rotate_left
              · (intro w hSw; (try dsimp only at hSw); first | (go_simp; done) | (go_simp; with_reducible rfl))
              try simp only [Act.put, List.setIfInBounds_toArray, List.set_cons_zero, List.set_cons_succ]
              refine tk (oi := { dst := some 100, op := Op.unOp UnOp.not 4 (Operand.tmp 99), type := 4, pos := "law.go:175", after := #[{ on := 0, ground := Ground.data }], guard := none }) (v := ?_) 1 rfl ?_ ?_
              rotate_left
              · (intro w hSw; (try dsimp only at hSw); first | (go_simp; done) | (go_simp; with_reducible rfl))
              try simp only [Act.put, List.setIfInBounds_toArray, List.set_cons_zero, List.set_cons_succ]
              refine tk (oi := { dst := some 101, op := Op.move (Operand.tmp 100), type := 4, pos := "law.go:175", after := #[{ on := 1, ground := Ground.data }], guard := none }) (v := ?_) 2 rfl ?_ ?_
              rotate_left
              · (intro w hSw; (try dsimp only at hSw); first | (go_simp; done) | (go_simp; with_reducible rfl))
              try simp only [Act.put, List.setIfInBounds_toArray, List.set_cons_zero, List.set_cons_succ]
              refine tk (oi := { dst := some 102, op := Op.load 23 (Operand.tmp 12), type := 23, pos := "law.go:175", after := #[{ on := 2, ground := Ground.guard }], guard := some (2, false) }) (v := ?_) 3 rfl ?_ ?_
              rotate_left
              · (intro w hSw; (try dsimp only at hSw); first | (go_simp; done) | (go_simp; with_reducible rfl))
              try simp only [Act.put, List.setIfInBounds_toArray, List.set_cons_zero, List.set_cons_succ]
              refine tk (oi := { dst := some 103, op := Op.move (Operand.tmp 5), type := 26, pos := "law.go:175", after := #[{ on := 2, ground := Ground.guard }], guard := some (2, false) }) (v := ?_) 4 rfl ?_ ?_
              rotate_left
              · (intro w hSw; (try dsimp only at hSw); first | (go_simp; done) | (go_simp; with_reducible rfl))
              try simp only [Act.put, List.setIfInBounds_toArray, List.set_cons_zero, List.set_cons_succ]
              refine tk (oi := { dst := some 104, op := Op.move (Operand.tmp 11), type := 3, pos := "law.go:175", after := #[{ on := 2, ground := Ground.guard }], guard := some (2, false) }) (v := ?_) 5 rfl ?_ ?_
              rotate_left
              · (intro w hSw; (try dsimp only at hSw); first | (go_simp; done) | (go_simp; with_reducible rfl))
              try simp only [Act.put, List.setIfInBounds_toArray, List.set_cons_zero, List.set_cons_succ]
              refine tk (oi := { dst := some 105, op := Op.indexAddr 26 (Operand.tmp 103) (Operand.tmp 104), type := 0, pos := "law.go:175", after := #[{ on := 4, ground := Ground.data }, { on := 5, ground := Ground.data }, { on := 2, ground := Ground.guard }], guard := some (2, false) }) (v := ?_) 6 rfl ?_ ?_
              rotate_left
              · (intro w hSw; (try dsimp only at hSw); first | (go_simp; done) | (go_simp; with_reducible rfl))
              try simp only [Act.put, List.setIfInBounds_toArray, List.set_cons_zero, List.set_cons_succ]
              refine tk (oi := { dst := some 106, op := Op.load 23 (Operand.tmp 105), type := 23, pos := "law.go:175", after := #[{ on := 6, ground := Ground.data }, { on := 2, ground := Ground.guard }], guard := some (2, false) }) (v := ?_) 7 rfl ?_ ?_
              rotate_left
              · (intro w hSw; (try dsimp only at hSw); first | (go_simp; done) | (go_simp; with_reducible rfl))
              try simp only [Act.put, List.setIfInBounds_toArray, List.set_cons_zero, List.set_cons_succ]
              refine tk (oi := { dst := some 107, op := Op.binOp BinOp.neq 23 (Operand.tmp 102) (Operand.tmp 106) 23, type := 4, pos := "law.go:175", after := #[{ on := 3, ground := Ground.data }, { on := 7, ground := Ground.data }, { on := 2, ground := Ground.guard }], guard := some (2, false) }) (v := ?_) 8 rfl ?_ ?_
              rotate_left
              · (intro w hSw; (try dsimp only at hSw); first | (go_simp; done) | (go_simp; with_reducible rfl))
              try simp only [Act.put, List.setIfInBounds_toArray, List.set_cons_zero, List.set_cons_succ]
              refine tk (oi := { dst := some 108, op := Op.pick (Operand.tmp 101) (Operand.const (Value.bool true)) (Operand.tmp 107), type := 4, pos := "law.go:175", after := #[{ on := 2, ground := Ground.data }, { on := 8, ground := Ground.data }], guard := none }) (v := ?_) 9 rfl ?_ ?_
              rotate_left
              · (intro w hSw; (try dsimp only at hSw); first | (go_simp; done) | (go_simp; with_reducible rfl))
              try simp only [Act.put, List.setIfInBounds_toArray, List.set_cons_zero, List.set_cons_succ]
              refine tk (oi := { dst := some 109, op := Op.move (Operand.tmp 108), type := 4, pos := "law.go:175", after := #[{ on := 9, ground := Ground.data }, { on := 2, ground := Ground.chain }], guard := none }) (v := ?_) 10 rfl ?_ ?_
              rotate_left
              · (intro w hSw; (try dsimp only at hSw); first | (go_simp; done) | (go_simp; with_reducible rfl))
              try simp only [Act.put, List.setIfInBounds_toArray, List.set_cons_zero, List.set_cons_succ]
              refine tk (oi := { dst := some 110, op := Op.load 23 (Operand.tmp 14), type := 23, pos := "law.go:175", after := #[{ on := 10, ground := Ground.guard }], guard := some (10, false) }) (v := ?_) 11 rfl ?_ ?_
              rotate_left
              · (intro w hSw; (try dsimp only at hSw); first | (go_simp; done) | (go_simp; with_reducible rfl))
              try simp only [Act.put, List.setIfInBounds_toArray, List.set_cons_zero, List.set_cons_succ]
              refine tk (oi := { dst := some 111, op := Op.move (Operand.tmp 5), type := 26, pos := "law.go:175", after := #[{ on := 10, ground := Ground.guard }], guard := some (10, false) }) (v := ?_) 12 rfl ?_ ?_
              rotate_left
              · (intro w hSw; (try dsimp only at hSw); first | (go_simp; done) | (go_simp; with_reducible rfl))
              try simp only [Act.put, List.setIfInBounds_toArray, List.set_cons_zero, List.set_cons_succ]
              refine tk (oi := { dst := some 112, op := Op.move (Operand.tmp 11), type := 3, pos := "law.go:175", after := #[{ on := 10, ground := Ground.guard }], guard := some (10, false) }) (v := ?_) 13 rfl ?_ ?_
              rotate_left
              · (intro w hSw; (try dsimp only at hSw); first | (go_simp; done) | (go_simp; with_reducible rfl))
              try simp only [Act.put, List.setIfInBounds_toArray, List.set_cons_zero, List.set_cons_succ]
              refine tk (oi := { dst := some 113, op := Op.indexAddr 26 (Operand.tmp 111) (Operand.tmp 112), type := 0, pos := "law.go:175", after := #[{ on := 12, ground := Ground.data }, { on := 13, ground := Ground.data }, { on := 10, ground := Ground.guard }], guard := some (10, false) }) (v := ?_) 14 rfl ?_ ?_
              rotate_left
              · (intro w hSw; (try dsimp only at hSw); first | (go_simp; done) | (go_simp; with_reducible rfl))
              try simp only [Act.put, List.setIfInBounds_toArray, List.set_cons_zero, List.set_cons_succ]
              refine tk (oi := { dst := some 114, op := Op.load 23 (Operand.tmp 113), type := 23, pos := "law.go:175", after := #[{ on := 14, ground := Ground.data }, { on := 10, ground := Ground.guard }], guard := some (10, false) }) (v := ?_) 15 rfl ?_ ?_
              rotate_left
              · (intro w hSw; (try dsimp only at hSw); first | (go_simp; done) | (go_simp; with_reducible rfl))
              try simp only [Act.put, List.setIfInBounds_toArray, List.set_cons_zero, List.set_cons_succ]
              refine tk (oi := { dst := some 115, op := Op.binOp BinOp.eql 23 (Operand.tmp 110) (Operand.tmp 114) 23, type := 4, pos := "law.go:175", after := #[{ on := 11, ground := Ground.data }, { on := 15, ground := Ground.data }, { on := 10, ground := Ground.guard }], guard := some (10, false) }) (v := ?_) 16 rfl ?_ ?_
              rotate_left
              · (intro w hSw; (try dsimp only at hSw); first | (go_simp; done) | (go_simp; with_reducible rfl))
              try simp only [Act.put, List.setIfInBounds_toArray, List.set_cons_zero, List.set_cons_succ]
              refine tk (oi := { dst := some 116, op := Op.pick (Operand.tmp 109) (Operand.const (Value.bool true)) (Operand.tmp 115), type := 4, pos := "law.go:175", after := #[{ on := 10, ground := Ground.data }, { on := 16, ground := Ground.data }], guard := none }) (v := ?_) 17 rfl ?_ ?_
              rotate_left
              · (intro w hSw; (try dsimp only at hSw); first | (go_simp; done) | (go_simp; with_reducible rfl))
              try simp only [Act.put, List.setIfInBounds_toArray, List.set_cons_zero, List.set_cons_succ]
              refine wpAnyH_done (by kernel_rfl) ?_ _
              obtain ⟨d0, d1, d2, d3⟩ := HC2.out
              clear hHeld
              cases hdd : e0.d with
              | true =>
                rw [hdd] at d2 HLV1
                have HDD := Lib.hid hdd
                clear hdd
                go_wp2_with (fail)
                go_roundw
                case rel => exact ⟨⟨k + 1, hlt, by go_num, by rw [HLV1.out]; first | rfl | go_num⟩, HW2.out.drew⟩
                case measure => simp [intOf]; omega
              | false =>
                rw [hdd] at d2 HLV1
                have HDD := Lib.hid hdd
                clear hdd
                go_wp2_with (fail)
                go_roundw
                case rel => exact ⟨⟨k + 1, hlt, by go_num, by rw [HLV1.out]; first | rfl | go_num⟩, HW2.out.drew⟩
                case measure => simp [intOf]; omega
            · go_simp
              have hb1 : Bel x1 (x1.alloc (.cells #[.string ⟨#[]⟩, .int .i64 0, .bool false, .string ⟨#[]⟩] 23)).drew := ((Bel.refl x1).alloc _).drew
              obtain ⟨z12, hz1⟩ : ∃ x, x = (x1.alloc (.cells #[.string ⟨#[]⟩, .int .i64 0, .bool false, .string ⟨#[]⟩] 23)).drew := ⟨_, rfl⟩
              refine hK.out _ _ (ents4 hb1 HC1.out) (fun hHeld => ?_)
              clear hK K
              try simp only [Act.put, List.setIfInBounds_toArray, List.set_cons_zero, List.set_cons_succ]
              rw [← hz1] at hb1 hHeld ⊢
              have hbk : z12.heap[x1.heap.size]? = some (.cells #[.string ⟨#[]⟩, .int .i64 0, .bool false, .string ⟨#[]⟩] 23 (0, 0)) := by rw [hz1]; exact heap_alloc_new x1 _
              have hlt1 : x1.heap.size < z12.heap.size := (Array.getElem?_eq_some_iff.1 hbk).1
              have hfz : ∀ j, z12.frozen? ⟨x1.heap.size, j, none⟩ = false := fun j => by simp [World.frozen?, hbk]
              have hcz : z12.cell? ⟨x1.heap.size, 0, none⟩ = some (.string zeroE.k) ∧ z12.cell? ⟨x1.heap.size, 1, none⟩ = some (.int .i64 zeroE.q) ∧ z12.cell? ⟨x1.heap.size, 2, none⟩ = some (.bool zeroE.d) ∧ z12.cell? ⟨x1.heap.size, 3, none⟩ = some (.string zeroE.v) := by refine ⟨?_, ?_, ?_, ?_⟩ <;> simp [World.cell?, hbk, zeroE]
              have HB1z := Lib.hid hb1
              have HLT1 := Lib.hid hlt1; have HFZ := Lib.hid hfz; have HCZ := Lib.hid hcz
              clear hz1 hbk hlt1 hfz hcz hb1
              refine wpAnyH_ready (rs := [12]) (by kernel_rfl) (by simp) ?_
              refine AllReadyH.cons (o := { dst := some 96, op := Op.call { callee := Callee.value (Operand.func 28), args := #[Operand.tmp 84, Operand.tmp 89, Operand.tmp 95], argTypes := #[40, 9, 3] }, type := 45, pos := "law.go:174", after := #[{ on := 0, ground := Ground.data }, { on := 5, ground := Ground.data }, { on := 11, ground := Ground.data }], guard := none }) rfl (fun K hK => ?_) AllReadyH.nil
              go_simp
              refine (get_any b e0.k (e0.q - 1) M _ (HT7.out.bel (HW1.out.trans HB1z.out)) (by omega) HP.out).mono ?_
              rw [HGY.out]
              rintro r z ⟨rfl, hb⟩
              have HZ := Lib.hid (HW1.out.trans (HB1z.out.trans hb))
              have HBZ := Lib.hid (HB1z.out.trans hb)
              dsimp only
              refine hK.out _ _ (ents4 hb hHeld) (fun hHeld => ?_)
              clear hK K
              try simp only [Act.put, List.setIfInBounds_toArray, List.set_cons_zero, List.set_cons_succ]
              obtain ⟨u0, u1, u2, u3⟩ := HCZ.out
              replace u0 := cl10 hb u0; replace u1 := cl10 hb u1; replace u2 := cl10 hb u2; replace u3 := cl10 hb u3
              have f0 := (hb.frozen x1.heap.size 0 HLT1.out).trans (HFZ.out 0)
              have f1 := (hb.frozen x1.heap.size 1 HLT1.out).trans (HFZ.out 1)
              have f2 := (hb.frozen x1.heap.size 2 HLT1.out).trans (HFZ.out 2)
              have f3 := (hb.frozen x1.heap.size 3 HLT1.out).trans (HFZ.out 3)
              have HWX := Lib.hid (rfl : x1.heap.size = x1.heap.size)
              clear hb HB1z HFZ HCZ HLT1
              have HU := Lib.hid (And.intro u0 (And.intro u1 (And.intro u2 (And.intro u3 (And.intro f0 (And.intro f1 (And.intro f2 f3)))))))
              clear u0 u1 u2 u3 f0 f1 f2 f3
              refine tk (oi := { dst := some 83, op := Op.move (Operand.tmp 96), type := 45, pos := "law.go:174", after := #[{ on := 12, ground := Ground.data }], guard := none }) (v := ?_) 13 rfl ?_ ?_
              rotate_left
              · (intro w hSw; (try dsimp only at hSw); first | (go_simp; done) | (go_simp; with_reducible rfl))
              try simp only [Act.put, List.setIfInBounds_toArray, List.set_cons_zero, List.set_cons_succ]
              refine tk (oi := { dst := some 97, op := Op.extract (Operand.tmp 83) 0, type := 23, pos := "law.go:174", after := #[{ on := 13, ground := Ground.data }], guard := none }) (v := ?_) 14 rfl ?_ ?_
              rotate_left
              · (intro w hSw; (try dsimp only at hSw); first | (go_simp; done) | (go_simp; with_reducible rfl))
              try simp only [Act.put, List.setIfInBounds_toArray, List.set_cons_zero, List.set_cons_succ]
              refine tk (oi := { dst := some 98, op := Op.extract (Operand.tmp 83) 1, type := 4, pos := "law.go:174", after := #[{ on := 13, ground := Ground.data }, { on := 17, ground := Ground.gcOnly Departure.lateStores }], guard := none }) (v := ?_) 15 rfl ?_ ?_
              rotate_left
              · (intro w hSw; (try dsimp only at hSw); first | (go_simp; done) | (go_simp; with_reducible rfl))
              try simp only [Act.put, List.setIfInBounds_toArray, List.set_cons_zero, List.set_cons_succ]
              obtain ⟨u0, u1, u2, u3, f0, f1, f2, f3⟩ := HU.out
              refine wpAnyH_ready (rs := [17]) (by kernel_rfl) (by simp) ?_
              refine AllReadyH.cons (o := { dst := none, op := Op.store 23 (Operand.tmp 14) (Operand.tmp 97), type := 0, pos := "law.go:174", after := #[{ on := 16, ground := Ground.data }, { on := 14, ground := Ground.data }, { on := 12, ground := Ground.chain }, { on := 0, ground := Ground.phase }, { on := 1, ground := Ground.phase }, { on := 2, ground := Ground.phase }, { on := 3, ground := Ground.phase }, { on := 4, ground := Ground.phase }, { on := 5, ground := Ground.phase }, { on := 6, ground := Ground.phase }, { on := 7, ground := Ground.phase }, { on := 8, ground := Ground.phase }, { on := 9, ground := Ground.phase }, { on := 10, ground := Ground.phase }, { on := 11, ground := Ground.phase }, { on := 12, ground := Ground.phase }, { on := 13, ground := Ground.phase }, { on := 14, ground := Ground.phase }, { on := 15, ground := Ground.textOnly Departure.lateStores }, { on := 16, ground := Ground.phase }], guard := none }) rfl (fun K hK => ?_) AllReadyH.nil
              go_simp
              obtain ⟨z42, hz4⟩ : ∃ x, x = (((z.setCell ⟨x1.heap.size, 0, none⟩ (.string y.k)).setCell ⟨x1.heap.size, 1, none⟩ (.int .i64 y.q)).setCell ⟨x1.heap.size, 2, none⟩ (.bool y.d)).setCell ⟨x1.heap.size, 3, none⟩ (.string y.v) := ⟨_, rfl⟩
              have hb4 : Bel x1 z42 := by rw [hz4]; exact ((((HBZ.out).setCell (Nat.le_refl _) _).setCell (Nat.le_refl _) _).setCell (Nat.le_refl _) _).setCell (Nat.le_refl _) _
              have HX2 := Lib.hid (show z42.cell? ⟨x1.heap.size, 0, none⟩ = some (.string y.k) ∧ z42.cell? ⟨x1.heap.size, 1, none⟩ = some (.int .i64 y.q) ∧ z42.cell? ⟨x1.heap.size, 2, none⟩ = some (.bool y.d) ∧ z42.cell? ⟨x1.heap.size, 3, none⟩ = some (.string y.v) by rw [hz4]; exact set4 u0 u1 u2 u3)
              rw [← hz4]
              clear hz4 u0 u1 u2 u3 f0 f1 f2 f3 HU
              refine hK.out _ _ (ents4 hb4 HC1.out) (fun hHeld => ?_)
              clear hK K
              try simp only [Act.put, List.setIfInBounds_toArray, List.set_cons_zero, List.set_cons_succ]
              refine tk (oi := { dst := some 15, op := Op.assign (Operand.tmp 98), type := 4, pos := "law.go:174", after := #[{ on := 15, ground := Ground.data }, { on := 17, ground := Ground.chain }, { on := 0, ground := Ground.phase }, { on := 1, ground := Ground.phase }, { on := 2, ground := Ground.phase }, { on := 3, ground := Ground.phase }, { on := 4, ground := Ground.phase }, { on := 5, ground := Ground.phase }, { on := 6, ground := Ground.phase }, { on := 7, ground := Ground.phase }, { on := 8, ground := Ground.phase }, { on := 9, ground := Ground.phase }, { on := 10, ground := Ground.phase }, { on := 11, ground := Ground.phase }, { on := 12, ground := Ground.phase }, { on := 13, ground := Ground.phase }, { on := 14, ground := Ground.phase }, { on := 15, ground := Ground.phase }, { on := 16, ground := Ground.phase }, { on := 17, ground := Ground.phase }], guard := none }) (v := ?_) 18 rfl ?_ ?_
              rotate_left
              · (intro w hSw; (try dsimp only at hSw); first | (go_simp; done) | (go_simp; with_reducible rfl))
              try simp only [Act.put, List.setIfInBounds_toArray, List.set_cons_zero, List.set_cons_succ]
              refine wpAnyH_done (by kernel_rfl) ?_ _
              have HBX2 := Lib.hid hb4
              have HW2 := Lib.hid (HW1.out.trans hb4)
              have HC2 := Lib.hid (ents4 hb4 HC1.out)
              clear hb4 HZ HBZ HWX hHeld
              have HX1 := Lib.hid (show z42.cell? ⟨X1, 0, none⟩ = some (.string e0.k) ∧ z42.cell? ⟨X1, 1, none⟩ = some (.int .i64 e0.q) ∧ z42.cell? ⟨X1, 2, none⟩ = some (.bool e0.d) ∧ z42.cell? ⟨X1, 3, none⟩ = some (.string e0.v) from ents4z HBX2.out HX1.out)
              have hyq := HYQ.out
              go_wp2_with (fail)
              refine wp_region_held_drew (S := fun z => (z.cell? ⟨B, O, sp⟩ = some (.string e0.k) ∧ z.cell? ⟨B, O + 1, none⟩ = some (.int .i64 e0.q) ∧ z.cell? ⟨B, O + 2, none⟩ = some (.bool e0.d) ∧ z.cell? ⟨B, O + 3, none⟩ = some (.string e0.v)) ∧ (z.cell? ⟨X1, 0, none⟩ = some (.string e0.k) ∧ z.cell? ⟨X1, 1, none⟩ = some (.int .i64 e0.q) ∧ z.cell? ⟨X1, 2, none⟩ = some (.bool e0.d) ∧ z.cell? ⟨X1, 3, none⟩ = some (.string e0.v)) ∧ z.cell? ⟨x1.heap.size, 0, none⟩ = some (.string y.k) ∧ z.cell? ⟨x1.heap.size, 1, none⟩ = some (.int .i64 y.q) ∧ z.cell? ⟨x1.heap.size, 2, none⟩ = some (.bool y.d) ∧ z.cell? ⟨x1.heap.size, 3, none⟩ = some (.string y.v)) (by kernel_rfl) ⟨HC2.out, HX1.out, HX2.out⟩ (fun hHeld => ?_)
              refine tk (oi := { dst := some 99, op := Op.move (Operand.tmp 13), type := 4, pos := "law.go:175", after := #[], guard := none }) (v := ?_) 0 rfl ?_ ?_
              rotate_left
              · (intro w hSw; (try dsimp only at hSw); first | (go_simp; done) | (go_simp; with_reducible rfl))
              try simp only [Act.put, List.setIfInBounds_toArray, List.set_cons_zero, List.set_cons_succ]
              refine tk (oi := { dst := some 100, op := Op.unOp UnOp.not 4 (Operand.tmp 99), type := 4, pos := "law.go:175", after := #[{ on := 0, ground := Ground.data }], guard := none }) (v := ?_) 1 rfl ?_ ?_
              rotate_left
              · (intro w hSw; (try dsimp only at hSw); first | (go_simp; done) | (go_simp; with_reducible rfl))
              try simp only [Act.put, List.setIfInBounds_toArray, List.set_cons_zero, List.set_cons_succ]
              refine tk (oi := { dst := some 101, op := Op.move (Operand.tmp 100), type := 4, pos := "law.go:175", after := #[{ on := 1, ground := Ground.data }], guard := none }) (v := ?_) 2 rfl ?_ ?_
              rotate_left
              · (intro w hSw; (try dsimp only at hSw); first | (go_simp; done) | (go_simp; with_reducible rfl))
              try simp only [Act.put, List.setIfInBounds_toArray, List.set_cons_zero, List.set_cons_succ]
              refine tk (oi := { dst := some 102, op := Op.load 23 (Operand.tmp 12), type := 23, pos := "law.go:175", after := #[{ on := 2, ground := Ground.guard }], guard := some (2, false) }) (v := ?_) 3 rfl ?_ ?_
              rotate_left
              · (intro w hSw; (try dsimp only at hSw); first | (go_simp; done) | (go_simp; with_reducible rfl))
              try simp only [Act.put, List.setIfInBounds_toArray, List.set_cons_zero, List.set_cons_succ]
              refine tk (oi := { dst := some 103, op := Op.move (Operand.tmp 5), type := 26, pos := "law.go:175", after := #[{ on := 2, ground := Ground.guard }], guard := some (2, false) }) (v := ?_) 4 rfl ?_ ?_
              rotate_left
              · (intro w hSw; (try dsimp only at hSw); first | (go_simp; done) | (go_simp; with_reducible rfl))
              try simp only [Act.put, List.setIfInBounds_toArray, List.set_cons_zero, List.set_cons_succ]
              refine tk (oi := { dst := some 104, op := Op.move (Operand.tmp 11), type := 3, pos := "law.go:175", after := #[{ on := 2, ground := Ground.guard }], guard := some (2, false) }) (v := ?_) 5 rfl ?_ ?_
              rotate_left
              · (intro w hSw; (try dsimp only at hSw); first | (go_simp; done) | (go_simp; with_reducible rfl))
              try simp only [Act.put, List.setIfInBounds_toArray, List.set_cons_zero, List.set_cons_succ]
              refine tk (oi := { dst := some 105, op := Op.indexAddr 26 (Operand.tmp 103) (Operand.tmp 104), type := 0, pos := "law.go:175", after := #[{ on := 4, ground := Ground.data }, { on := 5, ground := Ground.data }, { on := 2, ground := Ground.guard }], guard := some (2, false) }) (v := ?_) 6 rfl ?_ ?_
              rotate_left
              · (intro w hSw; (try dsimp only at hSw); first | (go_simp; done) | (go_simp; with_reducible rfl))
              try simp only [Act.put, List.setIfInBounds_toArray, List.set_cons_zero, List.set_cons_succ]
              refine tk (oi := { dst := some 106, op := Op.load 23 (Operand.tmp 105), type := 23, pos := "law.go:175", after := #[{ on := 6, ground := Ground.data }, { on := 2, ground := Ground.guard }], guard := some (2, false) }) (v := ?_) 7 rfl ?_ ?_
              rotate_left
              · (intro w hSw; (try dsimp only at hSw); first | (go_simp; done) | (go_simp; with_reducible rfl))
              try simp only [Act.put, List.setIfInBounds_toArray, List.set_cons_zero, List.set_cons_succ]
              refine tk (oi := { dst := some 107, op := Op.binOp BinOp.neq 23 (Operand.tmp 102) (Operand.tmp 106) 23, type := 4, pos := "law.go:175", after := #[{ on := 3, ground := Ground.data }, { on := 7, ground := Ground.data }, { on := 2, ground := Ground.guard }], guard := some (2, false) }) (v := ?_) 8 rfl ?_ ?_
              rotate_left
              · (intro w hSw; (try dsimp only at hSw); first | (go_simp; done) | (go_simp; with_reducible rfl))
              try simp only [Act.put, List.setIfInBounds_toArray, List.set_cons_zero, List.set_cons_succ]
              refine tk (oi := { dst := some 108, op := Op.pick (Operand.tmp 101) (Operand.const (Value.bool true)) (Operand.tmp 107), type := 4, pos := "law.go:175", after := #[{ on := 2, ground := Ground.data }, { on := 8, ground := Ground.data }], guard := none }) (v := ?_) 9 rfl ?_ ?_
              rotate_left
              · (intro w hSw; (try dsimp only at hSw); first | (go_simp; done) | (go_simp; with_reducible rfl))
              try simp only [Act.put, List.setIfInBounds_toArray, List.set_cons_zero, List.set_cons_succ]
              refine tk (oi := { dst := some 109, op := Op.move (Operand.tmp 108), type := 4, pos := "law.go:175", after := #[{ on := 9, ground := Ground.data }, { on := 2, ground := Ground.chain }], guard := none }) (v := ?_) 10 rfl ?_ ?_
              rotate_left
              · (intro w hSw; (try dsimp only at hSw); first | (go_simp; done) | (go_simp; with_reducible rfl))
              try simp only [Act.put, List.setIfInBounds_toArray, List.set_cons_zero, List.set_cons_succ]
              refine tk (oi := { dst := some 110, op := Op.load 23 (Operand.tmp 14), type := 23, pos := "law.go:175", after := #[{ on := 10, ground := Ground.guard }], guard := some (10, false) }) (v := ?_) 11 rfl ?_ ?_
              rotate_left
              · (intro w hSw; (try dsimp only at hSw); first | (go_simp; done) | (go_simp; with_reducible rfl))
              try simp only [Act.put, List.setIfInBounds_toArray, List.set_cons_zero, List.set_cons_succ]
              refine tk (oi := { dst := some 111, op := Op.move (Operand.tmp 5), type := 26, pos := "law.go:175", after := #[{ on := 10, ground := Ground.guard }], guard := some (10, false) }) (v := ?_) 12 rfl ?_ ?_
              rotate_left
              · (intro w hSw; (try dsimp only at hSw); first | (go_simp; done) | (go_simp; with_reducible rfl))
              try simp only [Act.put, List.setIfInBounds_toArray, List.set_cons_zero, List.set_cons_succ]
              refine tk (oi := { dst := some 112, op := Op.move (Operand.tmp 11), type := 3, pos := "law.go:175", after := #[{ on := 10, ground := Ground.guard }], guard := some (10, false) }) (v := ?_) 13 rfl ?_ ?_
              rotate_left
              · (intro w hSw; (try dsimp only at hSw); first | (go_simp; done) | (go_simp; with_reducible rfl))
              try simp only [Act.put, List.setIfInBounds_toArray, List.set_cons_zero, List.set_cons_succ]
              refine tk (oi := { dst := some 113, op := Op.indexAddr 26 (Operand.tmp 111) (Operand.tmp 112), type := 0, pos := "law.go:175", after := #[{ on := 12, ground := Ground.data }, { on := 13, ground := Ground.data }, { on := 10, ground := Ground.guard }], guard := some (10, false) }) (v := ?_) 14 rfl ?_ ?_
              rotate_left
              · (intro w hSw; (try dsimp only at hSw); first | (go_simp; done) | (go_simp; with_reducible rfl))
              try simp only [Act.put, List.setIfInBounds_toArray, List.set_cons_zero, List.set_cons_succ]
              refine tk (oi := { dst := some 114, op := Op.load 23 (Operand.tmp 113), type := 23, pos := "law.go:175", after := #[{ on := 14, ground := Ground.data }, { on := 10, ground := Ground.guard }], guard := some (10, false) }) (v := ?_) 15 rfl ?_ ?_
              rotate_left
              · (intro w hSw; (try dsimp only at hSw); first | (go_simp; done) | (go_simp; with_reducible rfl))
              try simp only [Act.put, List.setIfInBounds_toArray, List.set_cons_zero, List.set_cons_succ]
              refine tk (oi := { dst := some 115, op := Op.binOp BinOp.eql 23 (Operand.tmp 110) (Operand.tmp 114) 23, type := 4, pos := "law.go:175", after := #[{ on := 11, ground := Ground.data }, { on := 15, ground := Ground.data }, { on := 10, ground := Ground.guard }], guard := some (10, false) }) (v := ?_) 16 rfl ?_ ?_
              rotate_left
              · (intro w hSw; (try dsimp only at hSw); first | (go_simp; done) | (go_simp; with_reducible rfl))
              try simp only [Act.put, List.setIfInBounds_toArray, List.set_cons_zero, List.set_cons_succ]
              refine tk (oi := { dst := some 116, op := Op.pick (Operand.tmp 109) (Operand.const (Value.bool true)) (Operand.tmp 115), type := 4, pos := "law.go:175", after := #[{ on := 10, ground := Ground.data }, { on := 16, ground := Ground.data }], guard := none }) (v := ?_) 17 rfl ?_ ?_
              rotate_left
              · (intro w hSw; (try dsimp only at hSw); first | (go_simp; done) | (go_simp; with_reducible rfl))
              try simp only [Act.put, List.setIfInBounds_toArray, List.set_cons_zero, List.set_cons_succ]
              refine wpAnyH_done (by kernel_rfl) ?_ _
              obtain ⟨d0, d1, d2, d3⟩ := HC2.out
              clear hHeld
              cases hdd : e0.d with
              | true =>
                rw [hdd] at d2 HLV1
                have HDD := Lib.hid hdd
                clear hdd
                go_wp2_with (fail)
                go_roundw
                case rel => exact ⟨⟨k + 1, hlt, by go_num, by rw [HLV1.out]; first | rfl | go_num⟩, HW2.out.drew⟩
                case measure => simp [intOf]; omega
              | false =>
                rw [hdd] at d2 HLV1
                have HDD := Lib.hid hdd
                clear hdd
                go_wp2_with (fail)
                go_roundw
                case rel => exact ⟨⟨k + 1, hlt, by go_num, by rw [HLV1.out]; first | rfl | go_num⟩, HW2.out.drew⟩
                case measure => simp [intOf]; omega
          · go_simp
            have hb1 : Bel wr (wr.alloc (.cells #[.string ⟨#[]⟩, .int .i64 0, .bool false, .string ⟨#[]⟩] 23)).drew := ((Bel.refl wr).alloc _).drew
            obtain ⟨z11, hz1⟩ : ∃ x, x = (wr.alloc (.cells #[.string ⟨#[]⟩, .int .i64 0, .bool false, .string ⟨#[]⟩] 23)).drew := ⟨_, rfl⟩
            refine hK.out _ _ (ents4 hb1 HC.out) (fun hHeld => ?_)
            clear hK K
            try simp only [Act.put, List.setIfInBounds_toArray, List.set_cons_zero, List.set_cons_succ]
            rw [← hz1] at hb1 hHeld ⊢
            have hbk : z11.heap[wr.heap.size]? = some (.cells #[.string ⟨#[]⟩, .int .i64 0, .bool false, .string ⟨#[]⟩] 23 (0, 0)) := by rw [hz1]; exact heap_alloc_new wr _
            have hlt1 : wr.heap.size < z11.heap.size := (Array.getElem?_eq_some_iff.1 hbk).1
            have hfz : ∀ j, z11.frozen? ⟨wr.heap.size, j, none⟩ = false := fun j => by simp [World.frozen?, hbk]
            have hcz : z11.cell? ⟨wr.heap.size, 0, none⟩ = some (.string zeroE.k) ∧ z11.cell? ⟨wr.heap.size, 1, none⟩ = some (.int .i64 zeroE.q) ∧ z11.cell? ⟨wr.heap.size, 2, none⟩ = some (.bool zeroE.d) ∧ z11.cell? ⟨wr.heap.size, 3, none⟩ = some (.string zeroE.v) := by refine ⟨?_, ?_, ?_, ?_⟩ <;> simp [World.cell?, hbk, zeroE]
            have HB1z := Lib.hid hb1
            have HLT1 := Lib.hid hlt1; have HFZ := Lib.hid hfz; have HCZ := Lib.hid hcz
            clear hz1 hbk hlt1 hfz hcz hb1
            refine wpAnyH_ready (rs := [11]) (by kernel_rfl) (by simp) ?_
            refine AllReadyH.cons (o := { dst := some 80, op := Op.call { callee := Callee.value (Operand.func 28), args := #[Operand.tmp 69, Operand.tmp 74, Operand.tmp 79], argTypes := #[40, 9, 3] }, type := 45, pos := "law.go:173", after := #[{ on := 0, ground := Ground.data }, { on := 5, ground := Ground.data }, { on := 10, ground := Ground.data }], guard := none }) rfl (fun K hK => ?_) AllReadyH.nil
            go_simp
            refine (get_is b e0.k e0.q M (some e0) _ HG1.out (HT7.out.bel (HW.out.trans HB1z.out)) (by omega) HP.out).mono ?_
            rintro r z ⟨rfl, hb⟩
            unfold getV
            have HZ := Lib.hid (HW.out.trans (HB1z.out.trans hb))
            have HBZ := Lib.hid (HB1z.out.trans hb)
            dsimp only
            refine hK.out _ _ (ents4 hb hHeld) (fun hHeld => ?_)
            clear hK K
            try simp only [Act.put, List.setIfInBounds_toArray, List.set_cons_zero, List.set_cons_succ]
            obtain ⟨u0, u1, u2, u3⟩ := HCZ.out
            replace u0 := cl10 hb u0; replace u1 := cl10 hb u1; replace u2 := cl10 hb u2; replace u3 := cl10 hb u3
            have f0 := (hb.frozen wr.heap.size 0 HLT1.out).trans (HFZ.out 0)
            have f1 := (hb.frozen wr.heap.size 1 HLT1.out).trans (HFZ.out 1)
            have f2 := (hb.frozen wr.heap.size 2 HLT1.out).trans (HFZ.out 2)
            have f3 := (hb.frozen wr.heap.size 3 HLT1.out).trans (HFZ.out 3)
            have HWX := Lib.hid (rfl : wr.heap.size = wr.heap.size)
            clear hb HB1z HFZ HCZ HLT1
            have HU := Lib.hid (And.intro u0 (And.intro u1 (And.intro u2 (And.intro u3 (And.intro f0 (And.intro f1 (And.intro f2 f3)))))))
            clear u0 u1 u2 u3 f0 f1 f2 f3
            refine tk (oi := { dst := some 68, op := Op.move (Operand.tmp 80), type := 45, pos := "law.go:173", after := #[{ on := 11, ground := Ground.data }], guard := none }) (v := ?_) 12 rfl ?_ ?_
            rotate_left
            · (intro w hSw; (try dsimp only at hSw); first | (go_simp; done) | (go_simp; with_reducible rfl))
            try simp only [Act.put, List.setIfInBounds_toArray, List.set_cons_zero, List.set_cons_succ]
            refine tk (oi := { dst := some 81, op := Op.extract (Operand.tmp 68) 0, type := 23, pos := "law.go:173", after := #[{ on := 12, ground := Ground.data }], guard := none }) (v := ?_) 13 rfl ?_ ?_
            rotate_left
            · (intro w hSw; (try dsimp only at hSw); first | (go_simp; done) | (go_simp; with_reducible rfl))
            try simp only [Act.put, List.setIfInBounds_toArray, List.set_cons_zero, List.set_cons_succ]
            refine tk (oi := { dst := some 82, op := Op.extract (Operand.tmp 68) 1, type := 4, pos := "law.go:173", after := #[{ on := 12, ground := Ground.data }, { on := 16, ground := Ground.gcOnly Departure.lateStores }], guard := none }) (v := ?_) 14 rfl ?_ ?_
            rotate_left
            · (intro w hSw; (try dsimp only at hSw); first | (go_simp; done) | (go_simp; with_reducible rfl))
            try simp only [Act.put, List.setIfInBounds_toArray, List.set_cons_zero, List.set_cons_succ]
            obtain ⟨u0, u1, u2, u3, f0, f1, f2, f3⟩ := HU.out
            refine wpAnyH_ready (rs := [16]) (by kernel_rfl) (by simp) ?_
            refine AllReadyH.cons (o := { dst := none, op := Op.store 23 (Operand.tmp 12) (Operand.tmp 81), type := 0, pos := "law.go:173", after := #[{ on := 15, ground := Ground.data }, { on := 13, ground := Ground.data }, { on := 11, ground := Ground.chain }, { on := 0, ground := Ground.phase }, { on := 1, ground := Ground.phase }, { on := 2, ground := Ground.phase }, { on := 3, ground := Ground.phase }, { on := 4, ground := Ground.phase }, { on := 5, ground := Ground.phase }, { on := 6, ground := Ground.phase }, { on := 7, ground := Ground.phase }, { on := 8, ground := Ground.phase }, { on := 9, ground := Ground.phase }, { on := 10, ground := Ground.phase }, { on := 11, ground := Ground.phase }, { on := 12, ground := Ground.phase }, { on := 13, ground := Ground.phase }, { on := 14, ground := Ground.textOnly Departure.lateStores }, { on := 15, ground := Ground.phase }], guard := none }) rfl (fun K hK => ?_) AllReadyH.nil
            go_simp
            obtain ⟨z41, hz4⟩ : ∃ x, x = (((z.setCell ⟨wr.heap.size, 0, none⟩ (.string e0.k)).setCell ⟨wr.heap.size, 1, none⟩ (.int .i64 e0.q)).setCell ⟨wr.heap.size, 2, none⟩ (.bool e0.d)).setCell ⟨wr.heap.size, 3, none⟩ (.string e0.v) := ⟨_, rfl⟩
            have hb4 : Bel wr z41 := by rw [hz4]; exact ((((HBZ.out).setCell (Nat.le_refl _) _).setCell (Nat.le_refl _) _).setCell (Nat.le_refl _) _).setCell (Nat.le_refl _) _
            have HX1 := Lib.hid (show z41.cell? ⟨wr.heap.size, 0, none⟩ = some (.string e0.k) ∧ z41.cell? ⟨wr.heap.size, 1, none⟩ = some (.int .i64 e0.q) ∧ z41.cell? ⟨wr.heap.size, 2, none⟩ = some (.bool e0.d) ∧ z41.cell? ⟨wr.heap.size, 3, none⟩ = some (.string e0.v) by rw [hz4]; exact set4 u0 u1 u2 u3)
            rw [← hz4]
            clear hz4 u0 u1 u2 u3 f0 f1 f2 f3 HU
            refine hK.out _ _ (ents4 hb4 HC.out) (fun hHeld => ?_)
            clear hK K
            try simp only [Act.put, List.setIfInBounds_toArray, List.set_cons_zero, List.set_cons_succ]
            refine tk (oi := { dst := some 13, op := Op.assign (Operand.tmp 82), type := 4, pos := "law.go:173", after := #[{ on := 14, ground := Ground.data }, { on := 16, ground := Ground.chain }, { on := 0, ground := Ground.phase }, { on := 1, ground := Ground.phase }, { on := 2, ground := Ground.phase }, { on := 3, ground := Ground.phase }, { on := 4, ground := Ground.phase }, { on := 5, ground := Ground.phase }, { on := 6, ground := Ground.phase }, { on := 7, ground := Ground.phase }, { on := 8, ground := Ground.phase }, { on := 9, ground := Ground.phase }, { on := 10, ground := Ground.phase }, { on := 11, ground := Ground.phase }, { on := 12, ground := Ground.phase }, { on := 13, ground := Ground.phase }, { on := 14, ground := Ground.phase }, { on := 15, ground := Ground.phase }, { on := 16, ground := Ground.phase }], guard := none }) (v := ?_) 17 rfl ?_ ?_
            rotate_left
            · (intro w hSw; (try dsimp only at hSw); first | (go_simp; done) | (go_simp; with_reducible rfl))
            try simp only [Act.put, List.setIfInBounds_toArray, List.set_cons_zero, List.set_cons_succ]
            refine wpAnyH_done (by kernel_rfl) ?_ _
            have HBX1 := Lib.hid hb4
            have HW1 := Lib.hid (HW.out.trans hb4)
            have HC1 := Lib.hid (ents4 hb4 HC.out)
            clear hb4 HZ HBZ HWX hHeld
            have ht1 := Lib.hid (rfl : (0:Nat) = 0)
            clear ht1
            obtain ⟨d0, d1, d2, d3⟩ := HC1.out
            clear d0 d1 d2 d3
            go_wp2_with (fail)
            refine wp_region_held_drew (S := fun z => z.cell? ⟨B, O, sp⟩ = some (.string e0.k) ∧ z.cell? ⟨B, O + 1, none⟩ = some (.int .i64 e0.q) ∧ z.cell? ⟨B, O + 2, none⟩ = some (.bool e0.d) ∧ z.cell? ⟨B, O + 3, none⟩ = some (.string e0.v)) (by kernel_rfl) HC1.out (fun hHeld => ?_)
            refine tk (oi := { dst := some 84, op := Op.move (Operand.tmp 8), type := 40, pos := "law.go:174", after := #[], guard := none }) (v := ?_) 0 rfl ?_ ?_
            rotate_left
            · (intro w hSw; (try dsimp only at hSw); first | (go_simp; done) | (go_simp; with_reducible rfl))
            try simp only [Act.put, List.setIfInBounds_toArray, List.set_cons_zero, List.set_cons_succ]
            refine tk (oi := { dst := some 85, op := Op.move (Operand.tmp 5), type := 26, pos := "law.go:174", after := #[], guard := none }) (v := ?_) 1 rfl ?_ ?_
            rotate_left
            · (intro w hSw; (try dsimp only at hSw); first | (go_simp; done) | (go_simp; with_reducible rfl))
            try simp only [Act.put, List.setIfInBounds_toArray, List.set_cons_zero, List.set_cons_succ]
            refine tk (oi := { dst := some 86, op := Op.move (Operand.tmp 11), type := 3, pos := "law.go:174", after := #[], guard := none }) (v := ?_) 2 rfl ?_ ?_
            rotate_left
            · (intro w hSw; (try dsimp only at hSw); first | (go_simp; done) | (go_simp; with_reducible rfl))
            try simp only [Act.put, List.setIfInBounds_toArray, List.set_cons_zero, List.set_cons_succ]
            refine tk (oi := { dst := some 87, op := Op.indexAddr 26 (Operand.tmp 85) (Operand.tmp 86), type := 0, pos := "law.go:174", after := #[{ on := 1, ground := Ground.data }, { on := 2, ground := Ground.data }], guard := none }) (v := ?_) 3 rfl ?_ ?_
            rotate_left
            · (intro w hSw; (try dsimp only at hSw); first | (go_simp; done) | (go_simp; with_reducible rfl))
            try simp only [Act.put, List.setIfInBounds_toArray, List.set_cons_zero, List.set_cons_succ]
            refine tk (oi := { dst := some 88, op := Op.fieldAddr 23 (Operand.tmp 87) 0, type := 0, pos := "law.go:174", after := #[{ on := 3, ground := Ground.data }], guard := none }) (v := ?_) 4 rfl ?_ ?_
            rotate_left
            · (intro w hSw; (try dsimp only at hSw); first | (go_simp; done) | (go_simp; with_reducible rfl))
            try simp only [Act.put, List.setIfInBounds_toArray, List.set_cons_zero, List.set_cons_succ]
            refine tk (oi := { dst := some 89, op := Op.load 9 (Operand.tmp 88), type := 9, pos := "law.go:174", after := #[{ on := 4, ground := Ground.data }], guard := none }) (v := ?_) 5 rfl ?_ ?_
            rotate_left
            · (intro w hSw; (try dsimp only at hSw); first | (go_simp; done) | (go_simp; with_reducible rfl))
            try simp only [Act.put, List.setIfInBounds_toArray, List.set_cons_zero, List.set_cons_succ]
            refine tk (oi := { dst := some 90, op := Op.move (Operand.tmp 5), type := 26, pos := "law.go:174", after := #[], guard := none }) (v := ?_) 6 rfl ?_ ?_
            rotate_left
            · (intro w hSw; (try dsimp only at hSw); first | (go_simp; done) | (go_simp; with_reducible rfl))
            try simp only [Act.put, List.setIfInBounds_toArray, List.set_cons_zero, List.set_cons_succ]
            refine tk (oi := { dst := some 91, op := Op.move (Operand.tmp 11), type := 3, pos := "law.go:174", after := #[], guard := none }) (v := ?_) 7 rfl ?_ ?_
            rotate_left
            · (intro w hSw; (try dsimp only at hSw); first | (go_simp; done) | (go_simp; with_reducible rfl))
            try simp only [Act.put, List.setIfInBounds_toArray, List.set_cons_zero, List.set_cons_succ]
            refine tk (oi := { dst := some 92, op := Op.indexAddr 26 (Operand.tmp 90) (Operand.tmp 91), type := 0, pos := "law.go:174", after := #[{ on := 6, ground := Ground.data }, { on := 7, ground := Ground.data }], guard := none }) (v := ?_) 8 rfl ?_ ?_
            rotate_left
            · (intro w hSw; (try dsimp only at hSw); first | (go_simp; done) | (go_simp; with_reducible rfl))
            try simp only [Act.put, List.setIfInBounds_toArray, List.set_cons_zero, List.set_cons_succ]
            refine tk (oi := { dst := some 93, op := Op.fieldAddr 23 (Operand.tmp 92) 1, type := 0, pos := "law.go:174", after := #[{ on := 8, ground := Ground.data }], guard := none }) (v := ?_) 9 rfl ?_ ?_
            rotate_left
            · (intro w hSw; (try dsimp only at hSw); first | (go_simp; done) | (go_simp; with_reducible rfl))
            try simp only [Act.put, List.setIfInBounds_toArray, List.set_cons_zero, List.set_cons_succ]
            refine tk (oi := { dst := some 94, op := Op.load 3 (Operand.tmp 93), type := 3, pos := "law.go:174", after := #[{ on := 9, ground := Ground.data }], guard := none }) (v := ?_) 10 rfl ?_ ?_
            rotate_left
            · (intro w hSw; (try dsimp only at hSw); first | (go_simp; done) | (go_simp; with_reducible rfl))
            try simp only [Act.put, List.setIfInBounds_toArray, List.set_cons_zero, List.set_cons_succ]
            refine tk (oi := { dst := some 95, op := Op.binOp BinOp.sub 3 (Operand.tmp 94) (Operand.const (Value.int IntKind.i64 1)) 3, type := 3, pos := "law.go:174", after := #[{ on := 10, ground := Ground.data }], guard := none }) (v := ?_) 11 rfl ?_ ?_
            rotate_left
            · (intro w hSw; (try dsimp only at hSw); first | (go_simp; done) | (go_simp; with_reducible rfl))
            try simp only [Act.put, List.setIfInBounds_toArray, List.set_cons_zero, List.set_cons_succ]
            refine wpAnyH_ready (rs := [12, 16]) (by kernel_rfl) (by simp) ?_
            refine (AllReadyH.cons (o := { dst := some 96, op := Op.call { callee := Callee.value (Operand.func 28), args := #[Operand.tmp 84, Operand.tmp 89, Operand.tmp 95], argTypes := #[40, 9, 3] }, type := 45, pos := "law.go:174", after := #[{ on := 0, ground := Ground.data }, { on := 5, ground := Ground.data }, { on := 11, ground := Ground.data }], guard := none }) rfl (fun K hK => ?_) (AllReadyH.cons (o := { dst := some 14, op := Op.alloc 23, type := 0, pos := "law.go:174", after := #[], guard := none }) rfl (fun K hK => ?_) AllReadyH.nil))
            · go_simp
              refine (get_any b e0.k (e0.q - 1) M _ (HT7.out.bel HW1.out.drew) (by omega) HP.out).mono ?_
              rw [HGY.out]
              rintro r z ⟨rfl, hb⟩
              have HZ := Lib.hid (HW1.out.drew.trans hb)
              dsimp only
              refine hK.out _ _ (ents4 hb hHeld) (fun hHeld => ?_)
              clear hK K
              try simp only [Act.put, List.setIfInBounds_toArray, List.set_cons_zero, List.set_cons_succ]
              have hbZ := hb
              clear hb
              refine tk (oi := { dst := some 83, op := Op.move (Operand.tmp 96), type := 45, pos := "law.go:174", after := #[{ on := 12, ground := Ground.data }], guard := none }) (v := ?_) 13 rfl ?_ ?_
              rotate_left
              · (intro w hSw; (try dsimp only at hSw); first | (go_simp; done) | (go_simp; with_reducible rfl))
              try simp only [Act.put, List.setIfInBounds_toArray, List.set_cons_zero, List.set_cons_succ]
              refine tk (oi := { dst := some 97, op := Op.extract (Operand.tmp 83) 0, type := 23, pos := "law.go:174", after := #[{ on := 13, ground := Ground.data }], guard := none }) (v := ?_) 14 rfl ?_ ?_
              rotate_left
              · (intro w hSw; (try dsimp only at hSw); first | (go_simp; done) | (go_simp; with_reducible rfl))
              try simp only [Act.put, List.setIfInBounds_toArray, List.set_cons_zero, List.set_cons_succ]
              refine tk (oi := { dst := some 98, op := Op.extract (Operand.tmp 83) 1, type := 4, pos := "law.go:174", after := #[{ on := 13, ground := Ground.data }, { on := 17, ground := Ground.gcOnly Departure.lateStores }], guard := none }) (v := ?_) 15 rfl ?_ ?_
              rotate_left
              · (intro w hSw; (try dsimp only at hSw); first | (go_simp; done) | (go_simp; with_reducible rfl))
              try simp only [Act.put, List.setIfInBounds_toArray, List.set_cons_zero, List.set_cons_succ]
              refine wpAnyH_ready (rs := [16]) (by kernel_rfl) (by simp) ?_
              refine AllReadyH.cons (o := { dst := some 14, op := Op.alloc 23, type := 0, pos := "law.go:174", after := #[], guard := none }) rfl (fun K hK => ?_) AllReadyH.nil
              go_simp
              refine hK.out _ _ (ents4 ((Bel.refl z).alloc _) hHeld) (fun hHeld => ?_)
              clear hK K
              try simp only [Act.put, List.setIfInBounds_toArray, List.set_cons_zero, List.set_cons_succ]
              refine wpAnyH_ready (rs := [17]) (by kernel_rfl) (by simp) ?_
              refine AllReadyH.cons (o := { dst := none, op := Op.store 23 (Operand.tmp 14) (Operand.tmp 97), type := 0, pos := "law.go:174", after := #[{ on := 16, ground := Ground.data }, { on := 14, ground := Ground.data }, { on := 12, ground := Ground.chain }, { on := 0, ground := Ground.phase }, { on := 1, ground := Ground.phase }, { on := 2, ground := Ground.phase }, { on := 3, ground := Ground.phase }, { on := 4, ground := Ground.phase }, { on := 5, ground := Ground.phase }, { on := 6, ground := Ground.phase }, { on := 7, ground := Ground.phase }, { on := 8, ground := Ground.phase }, { on := 9, ground := Ground.phase }, { on := 10, ground := Ground.phase }, { on := 11, ground := Ground.phase }, { on := 12, ground := Ground.phase }, { on := 13, ground := Ground.phase }, { on := 14, ground := Ground.phase }, { on := 15, ground := Ground.textOnly Departure.lateStores }, { on := 16, ground := Ground.phase }], guard := none }) rfl (fun K hK => ?_) AllReadyH.nil
              go_simp
              have hbA : Bel z (z.alloc (.cells #[.string y.k, .int .i64 y.q, .bool y.d, .string y.v] 23)) := (Bel.refl z).alloc _
              refine hK.out _ _ (ents4 hbA (ents4 hbZ (ents4 (Bel.refl z41).drew HC1.out))) (fun hHeld => ?_)
              clear hK K
              try simp only [Act.put, List.setIfInBounds_toArray, List.set_cons_zero, List.set_cons_succ]
              refine tk (oi := { dst := some 15, op := Op.assign (Operand.tmp 98), type := 4, pos := "law.go:174", after := #[{ on := 15, ground := Ground.data }, { on := 17, ground := Ground.chain }, { on := 0, ground := Ground.phase }, { on := 1, ground := Ground.phase }, { on := 2, ground := Ground.phase }, { on := 3, ground := Ground.phase }, { on := 4, ground := Ground.phase }, { on := 5, ground := Ground.phase }, { on := 6, ground := Ground.phase }, { on := 7, ground := Ground.phase }, { on := 8, ground := Ground.phase }, { on := 9, ground := Ground.phase }, { on := 10, ground := Ground.phase }, { on := 11, ground := Ground.phase }, { on := 12, ground := Ground.phase }, { on := 13, ground := Ground.phase }, { on := 14, ground := Ground.phase }, { on := 15, ground := Ground.phase }, { on := 16, ground := Ground.phase }, { on := 17, ground := Ground.phase }], guard := none }) (v := ?_) 18 rfl ?_ ?_
              rotate_left
              · (intro w hSw; (try dsimp only at hSw); first | (go_simp; done) | (go_simp; with_reducible rfl))
              try simp only [Act.put, List.setIfInBounds_toArray, List.set_cons_zero, List.set_cons_succ]
              refine wpAnyH_done (by kernel_rfl) ?_ _
              obtain ⟨x2, hx2⟩ : ∃ x, x = z.alloc (.cells #[.string y.k, .int .i64 y.q, .bool y.d, .string y.v] 23) := ⟨_, rfl⟩
              have hbk : x2.heap[z.heap.size]? = some (.cells #[.string y.k, .int .i64 y.q, .bool y.d, .string y.v] 23 (0, 0)) := by rw [hx2]; exact heap_alloc_new z _
              have HX2 := Lib.hid (show x2.cell? ⟨z.heap.size, 0, none⟩ = some (.string y.k) ∧ x2.cell? ⟨z.heap.size, 1, none⟩ = some (.int .i64 y.q) ∧ x2.cell? ⟨z.heap.size, 2, none⟩ = some (.bool y.d) ∧ x2.cell? ⟨z.heap.size, 3, none⟩ = some (.string y.v) by refine ⟨?_, ?_, ?_, ?_⟩ <;> simp [World.cell?, hbk])
              have hbx : Bel z41 x2 := by rw [hx2]; exact (((Bel.refl z41).drew).trans hbZ).alloc _
              have HBX2 := Lib.hid hbx
              have HW2 := Lib.hid (HW1.out.trans hbx)
              have HC2 := Lib.hid (ents4 hbx HC1.out)
              rw [← hx2]
              clear hx2 hbk hbx hbA hbZ HZ hHeld
              generalize z.heap.size = X2 at *
              have HX1 := Lib.hid (show x2.cell? ⟨wr.heap.size, 0, none⟩ = some (.string e0.k) ∧ x2.cell? ⟨wr.heap.size, 1, none⟩ = some (.int .i64 e0.q) ∧ x2.cell? ⟨wr.heap.size, 2, none⟩ = some (.bool e0.d) ∧ x2.cell? ⟨wr.heap.size, 3, none⟩ = some (.string e0.v) from ents4z HBX2.out HX1.out)
              have hyq := HYQ.out
              go_wp2_with (fail)
              refine wp_region_held_drew (S := fun z => (z.cell? ⟨B, O, sp⟩ = some (.string e0.k) ∧ z.cell? ⟨B, O + 1, none⟩ = some (.int .i64 e0.q) ∧ z.cell? ⟨B, O + 2, none⟩ = some (.bool e0.d) ∧ z.cell? ⟨B, O + 3, none⟩ = some (.string e0.v)) ∧ (z.cell? ⟨wr.heap.size, 0, none⟩ = some (.string e0.k) ∧ z.cell? ⟨wr.heap.size, 1, none⟩ = some (.int .i64 e0.q) ∧ z.cell? ⟨wr.heap.size, 2, none⟩ = some (.bool e0.d) ∧ z.cell? ⟨wr.heap.size, 3, none⟩ = some (.string e0.v)) ∧ z.cell? ⟨X2, 0, none⟩ = some (.string y.k) ∧ z.cell? ⟨X2, 1, none⟩ = some (.int .i64 y.q) ∧ z.cell? ⟨X2, 2, none⟩ = some (.bool y.d) ∧ z.cell? ⟨X2, 3, none⟩ = some (.string y.v)) (by kernel_rfl) ⟨HC2.out, HX1.out, HX2.out⟩ (fun hHeld => ?_)
              refine tk (oi := { dst := some 99, op := Op.move (Operand.tmp 13), type := 4, pos := "law.go:175", after := #[], guard := none }) (v := ?_) 0 rfl ?_ ?_
              rotate_left
              · (intro w hSw; (try dsimp only at hSw); first | (go_simp; done) | (go_simp; with_reducible rfl))
              try simp only [Act.put, List.setIfInBounds_toArray, List.set_cons_zero, List.set_cons_succ]
              refine tk (oi := { dst := some 100, op := Op.unOp UnOp.not 4 (Operand.tmp 99), type := 4, pos := "law.go:175", after := #[{ on := 0, ground := Ground.data }], guard := none }) (v := ?_) 1 rfl ?_ ?_
              rotate_left
              · (intro w hSw; (try dsimp only at hSw); first | (go_simp; done) | (go_simp; with_reducible rfl))
              try simp only [Act.put, List.setIfInBounds_toArray, List.set_cons_zero, List.set_cons_succ]
              refine tk (oi := { dst := some 101, op := Op.move (Operand.tmp 100), type := 4, pos := "law.go:175", after := #[{ on := 1, ground := Ground.data }], guard := none }) (v := ?_) 2 rfl ?_ ?_
              rotate_left
              · (intro w hSw; (try dsimp only at hSw); first | (go_simp; done) | (go_simp; with_reducible rfl))
              try simp only [Act.put, List.setIfInBounds_toArray, List.set_cons_zero, List.set_cons_succ]
              refine tk (oi := { dst := some 102, op := Op.load 23 (Operand.tmp 12), type := 23, pos := "law.go:175", after := #[{ on := 2, ground := Ground.guard }], guard := some (2, false) }) (v := ?_) 3 rfl ?_ ?_
              rotate_left
              · (intro w hSw; (try dsimp only at hSw); first | (go_simp; done) | (go_simp; with_reducible rfl))
              try simp only [Act.put, List.setIfInBounds_toArray, List.set_cons_zero, List.set_cons_succ]
              refine tk (oi := { dst := some 103, op := Op.move (Operand.tmp 5), type := 26, pos := "law.go:175", after := #[{ on := 2, ground := Ground.guard }], guard := some (2, false) }) (v := ?_) 4 rfl ?_ ?_
              rotate_left
              · (intro w hSw; (try dsimp only at hSw); first | (go_simp; done) | (go_simp; with_reducible rfl))
              try simp only [Act.put, List.setIfInBounds_toArray, List.set_cons_zero, List.set_cons_succ]
              refine tk (oi := { dst := some 104, op := Op.move (Operand.tmp 11), type := 3, pos := "law.go:175", after := #[{ on := 2, ground := Ground.guard }], guard := some (2, false) }) (v := ?_) 5 rfl ?_ ?_
              rotate_left
              · (intro w hSw; (try dsimp only at hSw); first | (go_simp; done) | (go_simp; with_reducible rfl))
              try simp only [Act.put, List.setIfInBounds_toArray, List.set_cons_zero, List.set_cons_succ]
              refine tk (oi := { dst := some 105, op := Op.indexAddr 26 (Operand.tmp 103) (Operand.tmp 104), type := 0, pos := "law.go:175", after := #[{ on := 4, ground := Ground.data }, { on := 5, ground := Ground.data }, { on := 2, ground := Ground.guard }], guard := some (2, false) }) (v := ?_) 6 rfl ?_ ?_
              rotate_left
              · (intro w hSw; (try dsimp only at hSw); first | (go_simp; done) | (go_simp; with_reducible rfl))
              try simp only [Act.put, List.setIfInBounds_toArray, List.set_cons_zero, List.set_cons_succ]
              refine tk (oi := { dst := some 106, op := Op.load 23 (Operand.tmp 105), type := 23, pos := "law.go:175", after := #[{ on := 6, ground := Ground.data }, { on := 2, ground := Ground.guard }], guard := some (2, false) }) (v := ?_) 7 rfl ?_ ?_
              rotate_left
              · (intro w hSw; (try dsimp only at hSw); first | (go_simp; done) | (go_simp; with_reducible rfl))
              try simp only [Act.put, List.setIfInBounds_toArray, List.set_cons_zero, List.set_cons_succ]
              refine tk (oi := { dst := some 107, op := Op.binOp BinOp.neq 23 (Operand.tmp 102) (Operand.tmp 106) 23, type := 4, pos := "law.go:175", after := #[{ on := 3, ground := Ground.data }, { on := 7, ground := Ground.data }, { on := 2, ground := Ground.guard }], guard := some (2, false) }) (v := ?_) 8 rfl ?_ ?_
              rotate_left
              · (intro w hSw; (try dsimp only at hSw); first | (go_simp; done) | (go_simp; with_reducible rfl))
              try simp only [Act.put, List.setIfInBounds_toArray, List.set_cons_zero, List.set_cons_succ]
              refine tk (oi := { dst := some 108, op := Op.pick (Operand.tmp 101) (Operand.const (Value.bool true)) (Operand.tmp 107), type := 4, pos := "law.go:175", after := #[{ on := 2, ground := Ground.data }, { on := 8, ground := Ground.data }], guard := none }) (v := ?_) 9 rfl ?_ ?_
              rotate_left
              · (intro w hSw; (try dsimp only at hSw); first | (go_simp; done) | (go_simp; with_reducible rfl))
              try simp only [Act.put, List.setIfInBounds_toArray, List.set_cons_zero, List.set_cons_succ]
              refine tk (oi := { dst := some 109, op := Op.move (Operand.tmp 108), type := 4, pos := "law.go:175", after := #[{ on := 9, ground := Ground.data }, { on := 2, ground := Ground.chain }], guard := none }) (v := ?_) 10 rfl ?_ ?_
              rotate_left
              · (intro w hSw; (try dsimp only at hSw); first | (go_simp; done) | (go_simp; with_reducible rfl))
              try simp only [Act.put, List.setIfInBounds_toArray, List.set_cons_zero, List.set_cons_succ]
              refine tk (oi := { dst := some 110, op := Op.load 23 (Operand.tmp 14), type := 23, pos := "law.go:175", after := #[{ on := 10, ground := Ground.guard }], guard := some (10, false) }) (v := ?_) 11 rfl ?_ ?_
              rotate_left
              · (intro w hSw; (try dsimp only at hSw); first | (go_simp; done) | (go_simp; with_reducible rfl))
              try simp only [Act.put, List.setIfInBounds_toArray, List.set_cons_zero, List.set_cons_succ]
              refine tk (oi := { dst := some 111, op := Op.move (Operand.tmp 5), type := 26, pos := "law.go:175", after := #[{ on := 10, ground := Ground.guard }], guard := some (10, false) }) (v := ?_) 12 rfl ?_ ?_
              rotate_left
              · (intro w hSw; (try dsimp only at hSw); first | (go_simp; done) | (go_simp; with_reducible rfl))
              try simp only [Act.put, List.setIfInBounds_toArray, List.set_cons_zero, List.set_cons_succ]
              refine tk (oi := { dst := some 112, op := Op.move (Operand.tmp 11), type := 3, pos := "law.go:175", after := #[{ on := 10, ground := Ground.guard }], guard := some (10, false) }) (v := ?_) 13 rfl ?_ ?_
              rotate_left
              · (intro w hSw; (try dsimp only at hSw); first | (go_simp; done) | (go_simp; with_reducible rfl))
              try simp only [Act.put, List.setIfInBounds_toArray, List.set_cons_zero, List.set_cons_succ]
              refine tk (oi := { dst := some 113, op := Op.indexAddr 26 (Operand.tmp 111) (Operand.tmp 112), type := 0, pos := "law.go:175", after := #[{ on := 12, ground := Ground.data }, { on := 13, ground := Ground.data }, { on := 10, ground := Ground.guard }], guard := some (10, false) }) (v := ?_) 14 rfl ?_ ?_
              rotate_left
              · (intro w hSw; (try dsimp only at hSw); first | (go_simp; done) | (go_simp; with_reducible rfl))
              try simp only [Act.put, List.setIfInBounds_toArray, List.set_cons_zero, List.set_cons_succ]
              refine tk (oi := { dst := some 114, op := Op.load 23 (Operand.tmp 113), type := 23, pos := "law.go:175", after := #[{ on := 14, ground := Ground.data }, { on := 10, ground := Ground.guard }], guard := some (10, false) }) (v := ?_) 15 rfl ?_ ?_
              rotate_left
              · (intro w hSw; (try dsimp only at hSw); first | (go_simp; done) | (go_simp; with_reducible rfl))
              try simp only [Act.put, List.setIfInBounds_toArray, List.set_cons_zero, List.set_cons_succ]
              refine tk (oi := { dst := some 115, op := Op.binOp BinOp.eql 23 (Operand.tmp 110) (Operand.tmp 114) 23, type := 4, pos := "law.go:175", after := #[{ on := 11, ground := Ground.data }, { on := 15, ground := Ground.data }, { on := 10, ground := Ground.guard }], guard := some (10, false) }) (v := ?_) 16 rfl ?_ ?_
              rotate_left
              · (intro w hSw; (try dsimp only at hSw); first | (go_simp; done) | (go_simp; with_reducible rfl))
              try simp only [Act.put, List.setIfInBounds_toArray, List.set_cons_zero, List.set_cons_succ]
              refine tk (oi := { dst := some 116, op := Op.pick (Operand.tmp 109) (Operand.const (Value.bool true)) (Operand.tmp 115), type := 4, pos := "law.go:175", after := #[{ on := 10, ground := Ground.data }, { on := 16, ground := Ground.data }], guard := none }) (v := ?_) 17 rfl ?_ ?_
              rotate_left
              · (intro w hSw; (try dsimp only at hSw); first | (go_simp; done) | (go_simp; with_reducible rfl))
              try simp only [Act.put, List.setIfInBounds_toArray, List.set_cons_zero, List.set_cons_succ]
              refine wpAnyH_done (by kernel_rfl) ?_ _
              obtain ⟨d0, d1, d2, d3⟩ := HC2.out
              clear hHeld
              cases hdd : e0.d with
              | true =>
                rw [hdd] at d2 HLV1
                have HDD := Lib.hid hdd
                clear hdd
                go_wp2_with (fail)
                go_roundw
                case rel => exact ⟨⟨k + 1, hlt, by go_num, by rw [HLV1.out]; first | rfl | go_num⟩, HW2.out.drew⟩
                case measure => simp [intOf]; omega
              | false =>
                rw [hdd] at d2 HLV1
                have HDD := Lib.hid hdd
                clear hdd
                go_wp2_with (fail)
                go_roundw
                case rel => exact ⟨⟨k + 1, hlt, by go_num, by rw [HLV1.out]; first | rfl | go_num⟩, HW2.out.drew⟩
                case measure => simp [intOf]; omega
            · go_simp
              have hb1 : Bel z41 (z41.alloc (.cells #[.string ⟨#[]⟩, .int .i64 0, .bool false, .string ⟨#[]⟩] 23)).drew := ((Bel.refl z41).alloc _).drew
              obtain ⟨z12, hz1⟩ : ∃ x, x = (z41.alloc (.cells #[.string ⟨#[]⟩, .int .i64 0, .bool false, .string ⟨#[]⟩] 23)).drew := ⟨_, rfl⟩
              refine hK.out _ _ (ents4 hb1 HC1.out) (fun hHeld => ?_)
              clear hK K
              try simp only [Act.put, List.setIfInBounds_toArray, List.set_cons_zero, List.set_cons_succ]
              rw [← hz1] at hb1 hHeld ⊢
              have hbk : z12.heap[z41.heap.size]? = some (.cells #[.string ⟨#[]⟩, .int .i64 0, .bool false, .string ⟨#[]⟩] 23 (0, 0)) := by rw [hz1]; exact heap_alloc_new z41 _
              have hlt1 : z41.heap.size < z12.heap.size := (Array.getElem?_eq_some_iff.1 hbk).1
              have hfz : ∀ j, z12.frozen? ⟨z41.heap.size, j, none⟩ = false := fun j => by simp [World.frozen?, hbk]
              have hcz : z12.cell? ⟨z41.heap.size, 0, none⟩ = some (.string zeroE.k) ∧ z12.cell? ⟨z41.heap.size, 1, none⟩ = some (.int .i64 zeroE.q) ∧ z12.cell? ⟨z41.heap.size, 2, none⟩ = some (.bool zeroE.d) ∧ z12.cell? ⟨z41.heap.size, 3, none⟩ = some (.string zeroE.v) := by refine ⟨?_, ?_, ?_, ?_⟩ <;> simp [World.cell?, hbk, zeroE]
              have HB1z := Lib.hid hb1
              have HLT1 := Lib.hid hlt1; have HFZ := Lib.hid hfz; have HCZ := Lib.hid hcz
              clear hz1 hbk hlt1 hfz hcz hb1
              refine wpAnyH_ready (rs := [12]) (by kernel_rfl) (by simp) ?_
              refine AllReadyH.cons (o := { dst := some 96, op := Op.call { callee := Callee.value (Operand.func 28), args := #[Operand.tmp 84, Operand.tmp 89, Operand.tmp 95], argTypes := #[40, 9, 3] }, type := 45, pos := "law.go:174", after := #[{ on := 0, ground := Ground.data }, { on := 5, ground := Ground.data }, { on := 11, ground := Ground.data }], guard := none }) rfl (fun K hK => ?_) AllReadyH.nil
              go_simp
              refine (get_any b e0.k (e0.q - 1) M _ (HT7.out.bel (HW1.out.trans HB1z.out)) (by omega) HP.out).mono ?_
              rw [HGY.out]
              rintro r z ⟨rfl, hb⟩
              have HZ := Lib.hid (HW1.out.trans (HB1z.out.trans hb))
              have HBZ := Lib.hid (HB1z.out.trans hb)
              dsimp only
              refine hK.out _ _ (ents4 hb hHeld) (fun hHeld => ?_)
              clear hK K
              try simp only [Act.put, List.setIfInBounds_toArray, List.set_cons_zero, List.set_cons_succ]
              obtain ⟨u0, u1, u2, u3⟩ := HCZ.out
              replace u0 := cl10 hb u0; replace u1 := cl10 hb u1; replace u2 := cl10 hb u2; replace u3 := cl10 hb u3
              have f0 := (hb.frozen z41.heap.size 0 HLT1.out).trans (HFZ.out 0)
              have f1 := (hb.frozen z41.heap.size 1 HLT1.out).trans (HFZ.out 1)
              have f2 := (hb.frozen z41.heap.size 2 HLT1.out).trans (HFZ.out 2)
              have f3 := (hb.frozen z41.heap.size 3 HLT1.out).trans (HFZ.out 3)
              have HWX := Lib.hid (rfl : z41.heap.size = z41.heap.size)
              clear hb HB1z HFZ HCZ HLT1
              have HU := Lib.hid (And.intro u0 (And.intro u1 (And.intro u2 (And.intro u3 (And.intro f0 (And.intro f1 (And.intro f2 f3)))))))
              clear u0 u1 u2 u3 f0 f1 f2 f3
              refine tk (oi := { dst := some 83, op := Op.move (Operand.tmp 96), type := 45, pos := "law.go:174", after := #[{ on := 12, ground := Ground.data }], guard := none }) (v := ?_) 13 rfl ?_ ?_
              rotate_left
              · (intro w hSw; (try dsimp only at hSw); first | (go_simp; done) | (go_simp; with_reducible rfl))
              try simp only [Act.put, List.setIfInBounds_toArray, List.set_cons_zero, List.set_cons_succ]
              refine tk (oi := { dst := some 97, op := Op.extract (Operand.tmp 83) 0, type := 23, pos := "law.go:174", after := #[{ on := 13, ground := Ground.data }], guard := none }) (v := ?_) 14 rfl ?_ ?_
              rotate_left
              · (intro w hSw; (try dsimp only at hSw); first | (go_simp; done) | (go_simp; with_reducible rfl))
              try simp only [Act.put, List.setIfInBounds_toArray, List.set_cons_zero, List.set_cons_succ]
              refine tk (oi := { dst := some 98, op := Op.extract (Operand.tmp 83) 1, type := 4, pos := "law.go:174", after := #[{ on := 13, ground := Ground.data }, { on := 17, ground := Ground.gcOnly Departure.lateStores }], guard := none }) (v := ?_) 15 rfl ?_ ?_
              rotate_left
              · (intro w hSw; (try dsimp only at hSw); first | (go_simp; done) | (go_simp; with_reducible rfl))
              try simp only [Act.put, List.setIfInBounds_toArray, List.set_cons_zero, List.set_cons_succ]
              obtain ⟨u0, u1, u2, u3, f0, f1, f2, f3⟩ := HU.out
              refine wpAnyH_ready (rs := [17]) (by kernel_rfl) (by simp) ?_
              refine AllReadyH.cons (o := { dst := none, op := Op.store 23 (Operand.tmp 14) (Operand.tmp 97), type := 0, pos := "law.go:174", after := #[{ on := 16, ground := Ground.data }, { on := 14, ground := Ground.data }, { on := 12, ground := Ground.chain }, { on := 0, ground := Ground.phase }, { on := 1, ground := Ground.phase }, { on := 2, ground := Ground.phase }, { on := 3, ground := Ground.phase }, { on := 4, ground := Ground.phase }, { on := 5, ground := Ground.phase }, { on := 6, ground := Ground.phase }, { on := 7, ground := Ground.phase }, { on := 8, ground := Ground.phase }, { on := 9, ground := Ground.phase }, { on := 10, ground := Ground.phase }, { on := 11, ground := Ground.phase }, { on := 12, ground := Ground.phase }, { on := 13, ground := Ground.phase }, { on := 14, ground := Ground.phase }, { on := 15, ground := Ground.textOnly Departure.lateStores }, { on := 16, ground := Ground.phase }], guard := none }) rfl (fun K hK => ?_) AllReadyH.nil
              go_simp
              obtain ⟨z42, hz4⟩ : ∃ x, x = (((z.setCell ⟨z41.heap.size, 0, none⟩ (.string y.k)).setCell ⟨z41.heap.size, 1, none⟩ (.int .i64 y.q)).setCell ⟨z41.heap.size, 2, none⟩ (.bool y.d)).setCell ⟨z41.heap.size, 3, none⟩ (.string y.v) := ⟨_, rfl⟩
              have hb4 : Bel z41 z42 := by rw [hz4]; exact ((((HBZ.out).setCell (Nat.le_refl _) _).setCell (Nat.le_refl _) _).setCell (Nat.le_refl _) _).setCell (Nat.le_refl _) _
              have HX2 := Lib.hid (show z42.cell? ⟨z41.heap.size, 0, none⟩ = some (.string y.k) ∧ z42.cell? ⟨z41.heap.size, 1, none⟩ = some (.int .i64 y.q) ∧ z42.cell? ⟨z41.heap.size, 2, none⟩ = some (.bool y.d) ∧ z42.cell? ⟨z41.heap.size, 3, none⟩ = some (.string y.v) by rw [hz4]; exact set4 u0 u1 u2 u3)
              rw [← hz4]
              clear hz4 u0 u1 u2 u3 f0 f1 f2 f3 HU
              refine hK.out _ _ (ents4 hb4 HC1.out) (fun hHeld => ?_)
              clear hK K
              try simp only [Act.put, List.setIfInBounds_toArray, List.set_cons_zero, List.set_cons_succ]
              refine tk (oi := { dst := some 15, op := Op.assign (Operand.tmp 98), type := 4, pos := "law.go:174", after := #[{ on := 15, ground := Ground.data }, { on := 17, ground := Ground.chain }, { on := 0, ground := Ground.phase }, { on := 1, ground := Ground.phase }, { on := 2, ground := Ground.phase }, { on := 3, ground := Ground.phase }, { on := 4, ground := Ground.phase }, { on := 5, ground := Ground.phase }, { on := 6, ground := Ground.phase }, { on := 7, ground := Ground.phase }, { on := 8, ground := Ground.phase }, { on := 9, ground := Ground.phase }, { on := 10, ground := Ground.phase }, { on := 11, ground := Ground.phase }, { on := 12, ground := Ground.phase }, { on := 13, ground := Ground.phase }, { on := 14, ground := Ground.phase }, { on := 15, ground := Ground.phase }, { on := 16, ground := Ground.phase }, { on := 17, ground := Ground.phase }], guard := none }) (v := ?_) 18 rfl ?_ ?_
              rotate_left
              · (intro w hSw; (try dsimp only at hSw); first | (go_simp; done) | (go_simp; with_reducible rfl))
              try simp only [Act.put, List.setIfInBounds_toArray, List.set_cons_zero, List.set_cons_succ]
              refine wpAnyH_done (by kernel_rfl) ?_ _
              have HBX2 := Lib.hid hb4
              have HW2 := Lib.hid (HW1.out.trans hb4)
              have HC2 := Lib.hid (ents4 hb4 HC1.out)
              clear hb4 HZ HBZ HWX hHeld
              have HX1 := Lib.hid (show z42.cell? ⟨wr.heap.size, 0, none⟩ = some (.string e0.k) ∧ z42.cell? ⟨wr.heap.size, 1, none⟩ = some (.int .i64 e0.q) ∧ z42.cell? ⟨wr.heap.size, 2, none⟩ = some (.bool e0.d) ∧ z42.cell? ⟨wr.heap.size, 3, none⟩ = some (.string e0.v) from ents4z HBX2.out HX1.out)
              have hyq := HYQ.out
              go_wp2_with (fail)
              refine wp_region_held_drew (S := fun z => (z.cell? ⟨B, O, sp⟩ = some (.string e0.k) ∧ z.cell? ⟨B, O + 1, none⟩ = some (.int .i64 e0.q) ∧ z.cell? ⟨B, O + 2, none⟩ = some (.bool e0.d) ∧ z.cell? ⟨B, O + 3, none⟩ = some (.string e0.v)) ∧ (z.cell? ⟨wr.heap.size, 0, none⟩ = some (.string e0.k) ∧ z.cell? ⟨wr.heap.size, 1, none⟩ = some (.int .i64 e0.q) ∧ z.cell? ⟨wr.heap.size, 2, none⟩ = some (.bool e0.d) ∧ z.cell? ⟨wr.heap.size, 3, none⟩ = some (.string e0.v)) ∧ z.cell? ⟨z41.heap.size, 0, none⟩ = some (.string y.k) ∧ z.cell? ⟨z41.heap.size, 1, none⟩ = some (.int .i64 y.q) ∧ z.cell? ⟨z41.heap.size, 2, none⟩ = some (.bool y.d) ∧ z.cell? ⟨z41.heap.size, 3, none⟩ = some (.string y.v)) (by kernel_rfl) ⟨HC2.out, HX1.out, HX2.out⟩ (fun hHeld => ?_)
              refine tk (oi := { dst := some 99, op := Op.move (Operand.tmp 13), type := 4, pos := "law.go:175", after := #[], guard := none }) (v := ?_) 0 rfl ?_ ?_
              rotate_left
              · (intro w hSw; (try dsimp only at hSw); first | (go_simp; done) | (go_simp; with_reducible rfl))
              try simp only [Act.put, List.setIfInBounds_toArray, List.set_cons_zero, List.set_cons_succ]
              refine tk (oi := { dst := some 100, op := Op.unOp UnOp.not 4 (Operand.tmp 99), type := 4, pos := "law.go:175", after := #[{ on := 0, ground := Ground.data }], guard := none }) (v := ?_) 1 rfl ?_ ?_
              rotate_left
              · (intro w hSw; (try dsimp only at hSw); first | (go_simp; done) | (go_simp; with_reducible rfl))
              try simp only [Act.put, List.setIfInBounds_toArray, List.set_cons_zero, List.set_cons_succ]
              refine tk (oi := { dst := some 101, op := Op.move (Operand.tmp 100), type := 4, pos := "law.go:175", after := #[{ on := 1, ground := Ground.data }], guard := none }) (v := ?_) 2 rfl ?_ ?_
              rotate_left
              · (intro w hSw; (try dsimp only at hSw); first | (go_simp; done) | (go_simp; with_reducible rfl))
              try simp only [Act.put, List.setIfInBounds_toArray, List.set_cons_zero, List.set_cons_succ]
              refine tk (oi := { dst := some 102, op := Op.load 23 (Operand.tmp 12), type := 23, pos := "law.go:175", after := #[{ on := 2, ground := Ground.guard }], guard := some (2, false) }) (v := ?_) 3 rfl ?_ ?_
              rotate_left
              · (intro w hSw; (try dsimp only at hSw); first | (go_simp; done) | (go_simp; with_reducible rfl))
              try simp only [Act.put, List.setIfInBounds_toArray, List.set_cons_zero, List.set_cons_succ]
              refine tk (oi := { dst := some 103, op := Op.move (Operand.tmp 5), type := 26, pos := "law.go:175", after := #[{ on := 2, ground := Ground.guard }], guard := some (2, false) }) (v := ?_) 4 rfl ?_ ?_
              rotate_left
              · (intro w hSw; (try dsimp only at hSw); first | (go_simp; done) | (go_simp; with_reducible rfl))
              try simp only [Act.put, List.setIfInBounds_toArray, List.set_cons_zero, List.set_cons_succ]
              refine tk (oi := { dst := some 104, op := Op.move (Operand.tmp 11), type := 3, pos := "law.go:175", after := #[{ on := 2, ground := Ground.guard }], guard := some (2, false) }) (v := ?_) 5 rfl ?_ ?_
              rotate_left
              · (intro w hSw; (try dsimp only at hSw); first | (go_simp; done) | (go_simp; with_reducible rfl))
              try simp only [Act.put, List.setIfInBounds_toArray, List.set_cons_zero, List.set_cons_succ]
              refine tk (oi := { dst := some 105, op := Op.indexAddr 26 (Operand.tmp 103) (Operand.tmp 104), type := 0, pos := "law.go:175", after := #[{ on := 4, ground := Ground.data }, { on := 5, ground := Ground.data }, { on := 2, ground := Ground.guard }], guard := some (2, false) }) (v := ?_) 6 rfl ?_ ?_
              rotate_left
              · (intro w hSw; (try dsimp only at hSw); first | (go_simp; done) | (go_simp; with_reducible rfl))
              try simp only [Act.put, List.setIfInBounds_toArray, List.set_cons_zero, List.set_cons_succ]
              refine tk (oi := { dst := some 106, op := Op.load 23 (Operand.tmp 105), type := 23, pos := "law.go:175", after := #[{ on := 6, ground := Ground.data }, { on := 2, ground := Ground.guard }], guard := some (2, false) }) (v := ?_) 7 rfl ?_ ?_
              rotate_left
              · (intro w hSw; (try dsimp only at hSw); first | (go_simp; done) | (go_simp; with_reducible rfl))
              try simp only [Act.put, List.setIfInBounds_toArray, List.set_cons_zero, List.set_cons_succ]
              refine tk (oi := { dst := some 107, op := Op.binOp BinOp.neq 23 (Operand.tmp 102) (Operand.tmp 106) 23, type := 4, pos := "law.go:175", after := #[{ on := 3, ground := Ground.data }, { on := 7, ground := Ground.data }, { on := 2, ground := Ground.guard }], guard := some (2, false) }) (v := ?_) 8 rfl ?_ ?_
              rotate_left
              · (intro w hSw; (try dsimp only at hSw); first | (go_simp; done) | (go_simp; with_reducible rfl))
              try simp only [Act.put, List.setIfInBounds_toArray, List.set_cons_zero, List.set_cons_succ]
              refine tk (oi := { dst := some 108, op := Op.pick (Operand.tmp 101) (Operand.const (Value.bool true)) (Operand.tmp 107), type := 4, pos := "law.go:175", after := #[{ on := 2, ground := Ground.data }, { on := 8, ground := Ground.data }], guard := none }) (v := ?_) 9 rfl ?_ ?_
              rotate_left
              · (intro w hSw; (try dsimp only at hSw); first | (go_simp; done) | (go_simp; with_reducible rfl))
              try simp only [Act.put, List.setIfInBounds_toArray, List.set_cons_zero, List.set_cons_succ]
              refine tk (oi := { dst := some 109, op := Op.move (Operand.tmp 108), type := 4, pos := "law.go:175", after := #[{ on := 9, ground := Ground.data }, { on := 2, ground := Ground.chain }], guard := none }) (v := ?_) 10 rfl ?_ ?_
              rotate_left
              · (intro w hSw; (try dsimp only at hSw); first | (go_simp; done) | (go_simp; with_reducible rfl))
              try simp only [Act.put, List.setIfInBounds_toArray, List.set_cons_zero, List.set_cons_succ]
              refine tk (oi := { dst := some 110, op := Op.load 23 (Operand.tmp 14), type := 23, pos := "law.go:175", after := #[{ on := 10, ground := Ground.guard }], guard := some (10, false) }) (v := ?_) 11 rfl ?_ ?_
              rotate_left
              · (intro w hSw; (try dsimp only at hSw); first | (go_simp; done) | (go_simp; with_reducible rfl))
              try simp only [Act.put, List.setIfInBounds_toArray, List.set_cons_zero, List.set_cons_succ]
              refine tk (oi := { dst := some 111, op := Op.move (Operand.tmp 5), type := 26, pos := "law.go:175", after := #[{ on := 10, ground := Ground.guard }], guard := some (10, false) }) (v := ?_) 12 rfl ?_ ?_
              rotate_left
              · (intro w hSw; (try dsimp only at hSw); first | (go_simp; done) | (go_simp; with_reducible rfl))
              try simp only [Act.put, List.setIfInBounds_toArray, List.set_cons_zero, List.set_cons_succ]
              refine tk (oi := { dst := some 112, op := Op.move (Operand.tmp 11), type := 3, pos := "law.go:175", after := #[{ on := 10, ground := Ground.guard }], guard := some (10, false) }) (v := ?_) 13 rfl ?_ ?_
              rotate_left
              · (intro w hSw; (try dsimp only at hSw); first | (go_simp; done) | (go_simp; with_reducible rfl))
              try simp only [Act.put, List.setIfInBounds_toArray, List.set_cons_zero, List.set_cons_succ]
              refine tk (oi := { dst := some 113, op := Op.indexAddr 26 (Operand.tmp 111) (Operand.tmp 112), type := 0, pos := "law.go:175", after := #[{ on := 12, ground := Ground.data }, { on := 13, ground := Ground.data }, { on := 10, ground := Ground.guard }], guard := some (10, false) }) (v := ?_) 14 rfl ?_ ?_
              rotate_left
              · (intro w hSw; (try dsimp only at hSw); first | (go_simp; done) | (go_simp; with_reducible rfl))
              try simp only [Act.put, List.setIfInBounds_toArray, List.set_cons_zero, List.set_cons_succ]
              refine tk (oi := { dst := some 114, op := Op.load 23 (Operand.tmp 113), type := 23, pos := "law.go:175", after := #[{ on := 14, ground := Ground.data }, { on := 10, ground := Ground.guard }], guard := some (10, false) }) (v := ?_) 15 rfl ?_ ?_
              rotate_left
              · (intro w hSw; (try dsimp only at hSw); first | (go_simp; done) | (go_simp; with_reducible rfl))
              try simp only [Act.put, List.setIfInBounds_toArray, List.set_cons_zero, List.set_cons_succ]
              refine tk (oi := { dst := some 115, op := Op.binOp BinOp.eql 23 (Operand.tmp 110) (Operand.tmp 114) 23, type := 4, pos := "law.go:175", after := #[{ on := 11, ground := Ground.data }, { on := 15, ground := Ground.data }, { on := 10, ground := Ground.guard }], guard := some (10, false) }) (v := ?_) 16 rfl ?_ ?_
              rotate_left
              · (intro w hSw; (try dsimp only at hSw); first | (go_simp; done) | (go_simp; with_reducible rfl))
              try simp only [Act.put, List.setIfInBounds_toArray, List.set_cons_zero, List.set_cons_succ]
              refine tk (oi := { dst := some 116, op := Op.pick (Operand.tmp 109) (Operand.const (Value.bool true)) (Operand.tmp 115), type := 4, pos := "law.go:175", after := #[{ on := 10, ground := Ground.data }, { on := 16, ground := Ground.data }], guard := none }) (v := ?_) 17 rfl ?_ ?_
              rotate_left
              · (intro w hSw; (try dsimp only at hSw); first | (go_simp; done) | (go_simp; with_reducible rfl))
              try simp only [Act.put, List.setIfInBounds_toArray, List.set_cons_zero, List.set_cons_succ]
              refine wpAnyH_done (by kernel_rfl) ?_ _
              obtain ⟨d0, d1, d2, d3⟩ := HC2.out
              clear hHeld
              cases hdd : e0.d with
              | true =>
                rw [hdd] at d2 HLV1
                have HDD := Lib.hid hdd
                clear hdd
                go_wp2_with (fail)
                go_roundw
                case rel => exact ⟨⟨k + 1, hlt, by go_num, by rw [HLV1.out]; first | rfl | go_num⟩, HW2.out.drew⟩
                case measure => simp [intOf]; omega
              | false =>
                rw [hdd] at d2 HLV1
                have HDD := Lib.hid hdd
                clear hdd
                go_wp2_with (fail)
                go_roundw
                case rel => exact ⟨⟨k + 1, hlt, by go_num, by rw [HLV1.out]; first | rfl | go_num⟩, HW2.out.drew⟩
                case measure => simp [intOf]; omega
        · obtain rfl : k = M.length := by omega
          have hll := live_le M M.length
          rw [List.take_length] at hll ⊢
          have hnl : ¬ (M.length : Int) < (M.length : Int) := by omega
          obtain ⟨r0, hr0⟩ : ∃ r0, r0 = liveN M := ⟨_, rfl⟩
          have HRC := Lib.hid (show rowsC (citesB M) = r0 by rw [hr0]; exact cites_live HR.out)
          rw [← hr0] at hll ⊢
          clear hr0
          go_wp2_with (fail)
          refine (tcites_any b M _ (HT7.out.bel HW.out) (by omega) HR.out).mono ?_
          rintro e w8 ⟨v8, rfl, ho, hb⟩
          obtain ⟨C, hC⟩ : ∃ C, C = citesB M := ⟨_, rfl⟩
          rw [← hC] at ho HRC
          have hcl : C.length ≤ 60 := by rw [hC]; have := cites_len M; omega
          clear hC
          obtain ⟨q8, c8, rfl, hat8⟩ := ownG_cts ho
          have HB8 := Lib.hid (HW.out.trans hb)
          have HA8 := Lib.hid hat8
          clear ho hb hat8
          go_wp2_with (fail)
          go_loopw [10, 17] (fun rv iv x => (∃ j : Nat, j ≤ C.length ∧ iv = .int .i64 (j : Nat) ∧ rv = .int .i64 ((r0 : Int) - (rowsC (C.take j) : Nat))) ∧ Bel w8 x) (fun _ iv _ => C.length - (intOf iv).toNat)
          case atStart => exact ⟨⟨0, Nat.zero_le _, rfl, by rw [List.take_zero]; show _ = Value.int .i64 ((r0 : Int) - ((0 : Nat) : Int)); rw [show (r0 : Int) - ((0 : Nat) : Int) = (r0 : Int) by omega]⟩, Bel.refl w8⟩
          case round =>
            obtain ⟨⟨j, hj, rfl, rfl⟩, hw⟩ := hrel
            have HW2 := Lib.hid hw
            clear hw
            by_cases hjl : j < C.length
            · obtain ⟨a8, ct, rfl, hct, B, O, sp, ha, c0, c1, c2⟩ := (HA8.out.bel HW2.out).get hjl
              have hs1 := rowsC_take hjl
              rw [← hct] at hs1
              have hs2 := rowsC_le C (j + 1)
              have hrc := HRC.out
              obtain ⟨s0, hs0⟩ : ∃ s0, s0 = rowsC (C.take j) := ⟨_, rfl⟩
              rw [← hs0] at hs1 ⊢
              have hb1 : s0 + ct.n ≤ 60 := by omega
              have hb2 : r0 ≤ 60 := by omega
              have HS1 := Lib.hid hs1
              have hji : (j : Int) < (C.length : Int) := by omega
              have hww : IntKind.i64.wrap ((r0 : Int) - (s0 : Int) - (ct.n : Int)) = (r0 : Int) - (s0 : Int) - (ct.n : Int) := by rw [IntKind.wrap_i64]; omega
              clear hs1 hs2 hrc hs0 hct
              go_wp2_with (fail)
              go_roundw
              case rel => exact ⟨⟨j + 1, hjl, by go_num, by rw [HS1.out, show (r0 : Int) - ((s0 + ct.n : Nat) : Int) = (r0 : Int) - (s0 : Int) - (ct.n : Int) by omega]⟩, HW2.out⟩
              case measure => simp [intOf]; omega
            · obtain rfl : j = C.length := by omega
              rw [List.take_length, HRC.out]
              have hnl2 : ¬ (C.length : Int) < (C.length : Int) := by omega
              have hz : (r0 : Int) - (r0 : Int) = 0 := by omega
              rw [hz]
              go_wp2_with (fail)
              go_ret
              exact ⟨rfl, HB7.out.trans (HB8.out.trans HW2.out)⟩
  · go_wp2_with (fail)
    go_ret
    exact ⟨rfl, HB2.out⟩
end Go.Proofs.YtllcdhbchcpdoaaGreatDoor
