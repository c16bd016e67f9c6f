/- GLaw5, GLaw6, laid together. -/
import Derived.Test.YtmdkpomgckkllaaP11
import Derived.Deep.RegionHeld
import Derived.Deep.QuietTactic
import Derived.BigQuiet
set_option linter.unusedSimpArgs false
set_option linter.unusedVariables false
/- The law MergeSees over the program's contracts. -/
set_option maxRecDepth 100000
namespace Go.Proofs.Ytmdkpomgckkllaa
open Go.RowKit Go.Deep

set_option maxHeartbeats 8000000 in
theorem law_sees12 {KG : GK} (p : Option Addr) (cap : Nat) (L : List EB) (s : Int) (w : World) (hok : KG.Ok w) (hE : EntsAt w p L) (hcap : L.length ≤ cap) (hLl : L.length ≤ 9223372036854775807) (hLf : fitsL L) :
    Calls Try.prog 7 #[.slice p L.length cap, .int .i64 s] w fun r w' => r = .returned (.bool true) ∧ Bel w w' := by
  have HOK := Lib.hid hok; have HE := Lib.hid hE; have HLF := Lib.hid hLf
  skip
  clear hok hE hLf 
  go_enter Try.func7, Try.ntmps7
  go_wp2_with (fail)
  refine (shown12_any w HOK.out).mono ?_
  rintro r w1 ⟨rfl, hb⟩
  have HB1 := Lib.hid hb
  clear hb
  have HAL := Lib.hid ((Bel.refl w1).alloc (.cells #[.slice p L.length cap] 27))
  have HRW := Lib.hid (lrows_any (some ⟨w1.heap.size, 0, none⟩) 1 [L] (w1.alloc (.cells #[.slice p L.length cap] 27)) (rows_lit1 (tnew12 w1 _) rfl ((HE.out.bel HB1.out).bel HAL.out) hcap) (by simp) (fun M hM => by rw [List.mem_singleton] at hM; subst hM; exact ⟨hLl, HLF.out⟩))
  go_wp2_with (fail)
  refine HRW.out.mono ?_
  rintro r w2 ⟨hb, hcase⟩
  have HB2 := Lib.hid ((HB1.out.trans HAL.out).trans hb)
  clear hb HRW HAL
  rcases hcase with ⟨hrw, q2, c2, rfl, hcc, hrr⟩ | ⟨v, rfl⟩
  · have hgd0 : Good12 (mergeB L) := good_merge (hrw.2 L (by simp)) HLF.out
    obtain ⟨N, hN⟩ : ∃ N, N = mergeB L := ⟨_, rfl⟩
    rw [show [L].map mergeB = [mergeB L] from rfl] at hrr
    rw [← hN] at hgd0 hrr
    rw [show [L].length = 1 from rfl] at hcc ⊢
    have HRR := Lib.hid hrr
    have HGD := Lib.hid hgd0
    have hN60 := hgd0.len
    obtain ⟨a0, p0, c0, rfl, hcell, he0, hc0⟩ := hrr 0 (by simp)
    rw [show a0.add 0 = a0 from rfl] at hcell
    obtain ⟨B0, O0, sp0⟩ := a0
    have HE0 := Lib.hid (show EntsAt w2 p0 N from he0)
    have HC0 := Lib.hid (show N.length ≤ c0 from hc0)
    have hcell' : w2.cell? ⟨B0, O0, sp0⟩ = some (.slice p0 N.length c0) := hcell
    have HCELL := Lib.hid hcell'
    have HQ62 := Lib.hid (show ∀ e ∈ N, e.q ≤ 4611686018427387904 from fun e he => by have := (hgd0.low e he).1; omega)
    have HFN := Lib.hid (show ∀ e ∈ N, e ∈ [N].flatten from fun e he => by simpa using he)
    clear hrw hrr hgd0 he0 hcell hc0 hN
    have hcell2 := HCELL.out
    go_wp2_with (fail)
    refine (KG.visible p0 c0 N s w2 (KG.okBel HOK.out HB2.out) HE0.out HC0.out HGD.out.srt (by omega) HGD.out.fits).mono ?_
    rintro r w3 ⟨pt, ct, rfl, he, hcp, hb⟩
    have HS3 := Lib.hid hb
    have HB3 := Lib.hid (HB2.out.trans hb)
    have HEt := Lib.hid (show ∀ z, Bel w3 z → EntsAt z pt (visL s N) from fun z hz => he.bel hz)
    have HCt := Lib.hid hcp
    clear he hb
    have HVK := Lib.hid (vis_keys (s := s) HGD.out.srt)
    have HV2 := Lib.hid (vis_twice (s := s) (L := N))
    have HVM := Lib.hid (show ∀ e ∈ visL s N, e ∈ N ∧ newB N s e = true ∧ e.d = false from fun e he => by
      obtain ⟨h1, h2⟩ := List.mem_filter.1 he
      rw [Bool.and_eq_true, Bool.not_eq_true'] at h2
      exact ⟨h1, h2.1, h2.2⟩)
    have HVN := Lib.hid (show visL (-1) N = [] from vis_none (fun e he => by have := (HGD.out.low e he).2; omega))
    have hvl : (visL s N).length ≤ 60 := Nat.le_trans (List.length_filter_le _ _) hN60
    have HVS := Lib.hid (vis_srt (s := s) HGD.out.srt)
    obtain ⟨V, hV⟩ : ∃ V, V = visL s N := ⟨_, rfl⟩
    rw [← hV] at HVK HV2 HVM hvl HVS HEt HCt ⊢
    have HVF := Lib.hid (show fitsL V from fun e he => HGD.out.fits e (HVM.out e he).1)
    clear hV hcell2 hcell'
    go_wp2_with (fail)
    go_loopw [9] (fun iv x => ∃ i : Nat, i ≤ V.length ∧ iv = .int .i64 i ∧ Bel w3 x) (fun iv _ => V.length - (intOf iv).toNat)
    case atStart => exact ⟨0, Nat.zero_le _, rfl, Bel.refl _⟩
    case round =>
      obtain ⟨i, hi, rfl, hw⟩ := hrel
      have HW := Lib.hid hw
      have HWI := Lib.hid (HS3.out.trans hw)
      have HBR := Lib.hid (HB3.out.trans hw)
      have HVR := Lib.hid (HEt.out _ hw)
      by_cases hil : i < V.length
      · obtain ⟨a, ha0, -⟩ := HVR.out i hil
        subst ha0
        obtain ⟨B, O, sp, ha, z0, z1, z2, z3⟩ := ent_at12 HVR.out hil
        have HDF := Lib.hid (HVM.out _ (List.getElem_mem hil)).2.2
        have HNB := Lib.hid (HVM.out _ (List.getElem_mem hil)).2.1
        have hqs0 : decide (s < V[i].q) = false := decide_eq_false (by have := (newB_iff.1 HNB.out).1; omega)
        have HH0 := Lib.hid (fun (z : World) (hz : Bel wr z) => lhas_any (some ⟨B0, O0, sp0⟩) c2 [N] V[i] z (HRR.out.bel (HWI.out.trans hz)) (by simp) (fun L hL => by rw [List.mem_singleton] at hL; subst hL; omega) (HFN.out _ (HVM.out _ (List.getElem_mem hil)).1))
        rw [show [N].length = 1 from rfl] at HH0
        have hii : (i : Int) < (V.length : Int) := by omega
        by_cases hi0 : i = 0
        · subst hi0
          generalize hve : V[0] = e0 at *
          rw [HDF.out] at z2
          have HH := Lib.hid (show ∀ z, Bel wr z → Calls Try.prog 21 #[.slice (some ⟨B0, O0, sp0⟩) 1 c2, .agg #[.string e0.k, .int .i64 e0.q, .bool false, .string e0.v]] z fun r w' => r = .returned (.bool true) ∧ Bel z w' from fun z hz => by
            have := HH0.out z hz
            rw [HDF.out] at this
            exact this)
          clear hw HH0 hve
          have HSS := Lib.hid (show ∀ z, Bel wr z → z.cell? ⟨B, O, sp⟩ = some (.string e0.k) ∧ z.cell? ⟨B, O + 1, none⟩ = some (.int .i64 e0.q) ∧ z.cell? ⟨B, O + 2, none⟩ = some (.bool false) ∧ z.cell? ⟨B, O + 3, none⟩ = some (.string e0.v) from fun z hz => ⟨cl12 hz z0, cl12 hz z1, cl12 hz z2, cl12 hz z3⟩)
          go_wp2_with (fail)
          refine wp_region_held_drew (S := fun z => z.cell? ⟨B, O, sp⟩ = some (.string e0.k) ∧ z.cell? ⟨B, O + 1, none⟩ = some (.int .i64 e0.q) ∧ z.cell? ⟨B, O + 2, none⟩ = some (.bool false) ∧ z.cell? ⟨B, O + 3, none⟩ = some (.string e0.v)) (by kernel_rfl) (HSS.out _ (Bel.refl wr).drew) (fun hHeld => ?_)
          obtain ⟨w101, hw⟩ : ∃ z, z = World.drew wr := ⟨_, rfl⟩
          have hb : Bel wr w101 := by rw [hw]; exact (Bel.refl _).drew
          rw [← hw] at hHeld ⊢
          clear hw
          have HS101 := Lib.hid hb
          have HB101 := Lib.hid (HBR.out.trans hb)
          clear hb
          refine wpAnyH_take (i := 0) (oi := { dst := some 37, op := Op.move (Operand.tmp 8), type := 27, pos := "law.go:175", after := #[], guard := none }) (v := ?_) rfl (by kernel_rfl) (by kernel_rfl) (by kernel_rfl) (fun _ _ _ h => h) (Or.inl ⟨by rfl, ?_⟩) (by assumption) ?_
          rotate_left
          · (intro w hSw; (try dsimp only at hSw); first | (go_simp; done) | (go_simp; with_reducible rfl))
          try simp only [Act.put, List.setIfInBounds_toArray, List.set_cons_zero, List.set_cons_succ]
          refine wpAnyH_take (i := 1) (oi := { dst := some 38, op := Op.move (Operand.tmp 9), type := 3, pos := "law.go:175", after := #[], guard := none }) (v := ?_) rfl (by kernel_rfl) (by kernel_rfl) (by kernel_rfl) (fun _ _ _ h => h) (Or.inl ⟨by rfl, ?_⟩) (by assumption) ?_
          rotate_left
          · (intro w hSw; (try dsimp only at hSw); first | (go_simp; done) | (go_simp; with_reducible rfl))
          try simp only [Act.put, List.setIfInBounds_toArray, List.set_cons_zero, List.set_cons_succ]
          refine wpAnyH_take (i := 2) (oi := { dst := some 39, op := Op.indexAddr 27 (Operand.tmp 37) (Operand.tmp 38), type := 0, pos := "law.go:175", after := #[{ on := 0, ground := Ground.data }, { on := 1, ground := Ground.data }], guard := none }) (v := ?_) rfl (by kernel_rfl) (by kernel_rfl) (by kernel_rfl) (fun _ _ _ h => h) (Or.inl ⟨by rfl, ?_⟩) (by assumption) ?_
          rotate_left
          · (intro w hSw; (try dsimp only at hSw); first | (go_simp; done) | (go_simp; with_reducible rfl))
          try simp only [Act.put, List.setIfInBounds_toArray, List.set_cons_zero, List.set_cons_succ]
          refine wpAnyH_take (i := 3) (oi := { dst := some 40, op := Op.fieldAddr 36 (Operand.tmp 39) 2, type := 0, pos := "law.go:175", after := #[{ on := 2, ground := Ground.data }], guard := none }) (v := ?_) rfl (by kernel_rfl) (by kernel_rfl) (by kernel_rfl) (fun _ _ _ h => h) (Or.inl ⟨by rfl, ?_⟩) (by assumption) ?_
          rotate_left
          · (intro w hSw; (try dsimp only at hSw); first | (go_simp; done) | (go_simp; with_reducible rfl))
          try simp only [Act.put, List.setIfInBounds_toArray, List.set_cons_zero, List.set_cons_succ]
          refine wpAnyH_take (i := 4) (oi := { dst := some 41, op := Op.load 4 (Operand.tmp 40), type := 4, pos := "law.go:175", after := #[{ on := 3, ground := Ground.data }], guard := none }) (v := ?_) rfl (by kernel_rfl) (by kernel_rfl) (by kernel_rfl) (fun _ _ _ h => h) (Or.inl ⟨by rfl, ?_⟩) (by assumption) ?_
          rotate_left
          · (intro w hSw; (try dsimp only at hSw); first | (go_simp; done) | (go_simp; with_reducible rfl))
          try simp only [Act.put, List.setIfInBounds_toArray, List.set_cons_zero, List.set_cons_succ]
          refine wpAnyH_take (i := 5) (oi := { dst := some 42, op := Op.move (Operand.tmp 41), type := 4, pos := "law.go:175", after := #[{ on := 4, ground := Ground.data }], guard := none }) (v := ?_) rfl (by kernel_rfl) (by kernel_rfl) (by kernel_rfl) (fun _ _ _ h => h) (Or.inl ⟨by rfl, ?_⟩) (by assumption) ?_
          rotate_left
          · (intro w hSw; (try dsimp only at hSw); first | (go_simp; done) | (go_simp; with_reducible rfl))
          try simp only [Act.put, List.setIfInBounds_toArray, List.set_cons_zero, List.set_cons_succ]
          refine wpAnyH_take (i := 6) (oi := { dst := some 43, op := Op.move (Operand.tmp 8), type := 27, pos := "law.go:175", after := #[{ on := 5, ground := Ground.guard }], guard := some (5, false) }) (v := ?_) rfl (by kernel_rfl) (by kernel_rfl) (by kernel_rfl) (fun _ _ _ h => h) (Or.inl ⟨by rfl, ?_⟩) (by assumption) ?_
          rotate_left
          · (intro w hSw; (try dsimp only at hSw); first | (go_simp; done) | (go_simp; with_reducible rfl))
          try simp only [Act.put, List.setIfInBounds_toArray, List.set_cons_zero, List.set_cons_succ]
          refine wpAnyH_take (i := 7) (oi := { dst := some 44, op := Op.move (Operand.tmp 9), type := 3, pos := "law.go:175", after := #[{ on := 5, ground := Ground.guard }], guard := some (5, false) }) (v := ?_) rfl (by kernel_rfl) (by kernel_rfl) (by kernel_rfl) (fun _ _ _ h => h) (Or.inl ⟨by rfl, ?_⟩) (by assumption) ?_
          rotate_left
          · (intro w hSw; (try dsimp only at hSw); first | (go_simp; done) | (go_simp; with_reducible rfl))
          try simp only [Act.put, List.setIfInBounds_toArray, List.set_cons_zero, List.set_cons_succ]
          refine wpAnyH_take (i := 8) (oi := { dst := some 45, op := Op.indexAddr 27 (Operand.tmp 43) (Operand.tmp 44), type := 0, pos := "law.go:175", after := #[{ on := 6, ground := Ground.data }, { on := 7, ground := Ground.data }, { on := 5, ground := Ground.guard }], guard := some (5, false) }) (v := ?_) rfl (by kernel_rfl) (by kernel_rfl) (by kernel_rfl) (fun _ _ _ h => h) (Or.inl ⟨by rfl, ?_⟩) (by assumption) ?_
          rotate_left
          · (intro w hSw; (try dsimp only at hSw); first | (go_simp; done) | (go_simp; with_reducible rfl))
          try simp only [Act.put, List.setIfInBounds_toArray, List.set_cons_zero, List.set_cons_succ]
          refine wpAnyH_take (i := 9) (oi := { dst := some 46, op := Op.fieldAddr 36 (Operand.tmp 45) 1, type := 0, pos := "law.go:175", after := #[{ on := 8, ground := Ground.data }, { on := 5, ground := Ground.guard }], guard := some (5, false) }) (v := ?_) rfl (by kernel_rfl) (by kernel_rfl) (by kernel_rfl) (fun _ _ _ h => h) (Or.inl ⟨by rfl, ?_⟩) (by assumption) ?_
          rotate_left
          · (intro w hSw; (try dsimp only at hSw); first | (go_simp; done) | (go_simp; with_reducible rfl))
          try simp only [Act.put, List.setIfInBounds_toArray, List.set_cons_zero, List.set_cons_succ]
          refine wpAnyH_take (i := 10) (oi := { dst := some 47, op := Op.load 3 (Operand.tmp 46), type := 3, pos := "law.go:175", after := #[{ on := 9, ground := Ground.data }, { on := 5, ground := Ground.guard }], guard := some (5, false) }) (v := ?_) rfl (by kernel_rfl) (by kernel_rfl) (by kernel_rfl) (fun _ _ _ h => h) (Or.inl ⟨by rfl, ?_⟩) (by assumption) ?_
          rotate_left
          · (intro w hSw; (try dsimp only at hSw); first | (go_simp; done) | (go_simp; with_reducible rfl))
          try simp only [Act.put, List.setIfInBounds_toArray, List.set_cons_zero, List.set_cons_succ]
          refine wpAnyH_take (i := 11) (oi := { dst := some 48, op := Op.move (Operand.tmp 1), type := 3, pos := "law.go:175", after := #[{ on := 5, ground := Ground.guard }], guard := some (5, false) }) (v := ?_) rfl (by kernel_rfl) (by kernel_rfl) (by kernel_rfl) (fun _ _ _ h => h) (Or.inl ⟨by rfl, ?_⟩) (by assumption) ?_
          rotate_left
          · (intro w hSw; (try dsimp only at hSw); first | (go_simp; done) | (go_simp; with_reducible rfl))
          try simp only [Act.put, List.setIfInBounds_toArray, List.set_cons_zero, List.set_cons_succ]
          refine wpAnyH_take (i := 12) (oi := { dst := some 49, op := Op.binOp BinOp.gtr 3 (Operand.tmp 47) (Operand.tmp 48) 3, type := 4, pos := "law.go:175", after := #[{ on := 10, ground := Ground.data }, { on := 11, ground := Ground.data }, { on := 5, ground := Ground.guard }], guard := some (5, false) }) (v := ?_) rfl (by kernel_rfl) (by kernel_rfl) (by kernel_rfl) (fun _ _ _ h => h) (Or.inl ⟨by rfl, ?_⟩) (by assumption) ?_
          rotate_left
          · (intro w hSw; (try dsimp only at hSw); first | (go_simp; done) | (go_simp; with_reducible rfl))
          try simp only [Act.put, List.setIfInBounds_toArray, List.set_cons_zero, List.set_cons_succ]
          refine wpAnyH_take (i := 13) (oi := { dst := some 50, op := Op.pick (Operand.tmp 42) (Operand.const (Value.bool true)) (Operand.tmp 49), type := 4, pos := "law.go:175", after := #[{ on := 5, ground := Ground.data }, { on := 12, ground := Ground.data }], guard := none }) (v := ?_) rfl (by kernel_rfl) (by kernel_rfl) (by kernel_rfl) (fun _ _ _ h => h) (Or.inl ⟨by rfl, ?_⟩) (by assumption) ?_
          rotate_left
          · (intro w hSw; (try dsimp only at hSw); first | (go_simp; done) | (go_simp; with_reducible rfl))
          try simp only [Act.put, List.setIfInBounds_toArray, List.set_cons_zero, List.set_cons_succ]
          refine wpAnyH_take (i := 14) (oi := { dst := some 51, op := Op.move (Operand.tmp 50), type := 4, pos := "law.go:175", after := #[{ on := 13, ground := Ground.data }, { on := 5, ground := Ground.chain }], guard := none }) (v := ?_) rfl (by kernel_rfl) (by kernel_rfl) (by kernel_rfl) (fun _ _ _ h => h) (Or.inl ⟨by rfl, ?_⟩) (by assumption) ?_
          rotate_left
          · (intro w hSw; (try dsimp only at hSw); first | (go_simp; done) | (go_simp; with_reducible rfl))
          try simp only [Act.put, List.setIfInBounds_toArray, List.set_cons_zero, List.set_cons_succ]
          refine wpAnyH_take (i := 15) (oi := { dst := some 52, op := Op.move (Operand.tmp 9), type := 3, pos := "law.go:175", after := #[{ on := 14, ground := Ground.guard }], guard := some (14, false) }) (v := ?_) rfl (by kernel_rfl) (by kernel_rfl) (by kernel_rfl) (fun _ _ _ h => h) (Or.inl ⟨by rfl, ?_⟩) (by assumption) ?_
          rotate_left
          · (intro w hSw; (try dsimp only at hSw); first | (go_simp; done) | (go_simp; with_reducible rfl))
          try simp only [Act.put, List.setIfInBounds_toArray, List.set_cons_zero, List.set_cons_succ]
          refine wpAnyH_take (i := 16) (oi := { dst := some 53, op := Op.binOp BinOp.gtr 3 (Operand.tmp 52) (Operand.const (Value.int IntKind.i64 0)) 3, type := 4, pos := "law.go:175", after := #[{ on := 15, ground := Ground.data }, { on := 14, ground := Ground.guard }], guard := some (14, false) }) (v := ?_) rfl (by kernel_rfl) (by kernel_rfl) (by kernel_rfl) (fun _ _ _ h => h) (Or.inl ⟨by rfl, ?_⟩) (by assumption) ?_
          rotate_left
          · (intro w hSw; (try dsimp only at hSw); first | (go_simp; done) | (go_simp; with_reducible rfl))
          try simp only [Act.put, List.setIfInBounds_toArray, List.set_cons_zero, List.set_cons_succ]
          refine wpAnyH_take (i := 17) (oi := { dst := some 54, op := Op.move (Operand.tmp 53), type := 4, pos := "law.go:175", after := #[{ on := 16, ground := Ground.data }, { on := 14, ground := Ground.chain }, { on := 14, ground := Ground.guard }], guard := some (14, false) }) (v := ?_) rfl (by kernel_rfl) (by kernel_rfl) (by kernel_rfl) (fun _ _ _ h => h) (Or.inl ⟨by rfl, ?_⟩) (by assumption) ?_
          rotate_left
          · (intro w hSw; (try dsimp only at hSw); first | (go_simp; done) | (go_simp; with_reducible rfl))
          try simp only [Act.put, List.setIfInBounds_toArray, List.set_cons_zero, List.set_cons_succ]
          refine wpAnyH_take (i := 18) (oi := { dst := some 55, op := Op.move (Operand.tmp 8), type := 27, pos := "law.go:175", after := #[{ on := 17, ground := Ground.guard }], guard := some (17, true) }) (v := undef) rfl (by kernel_rfl) (by kernel_rfl) (by kernel_rfl) (fun _ _ _ h => h) (Or.inr ⟨by rfl, rfl⟩) (by assumption) ?_
          try simp only [Act.put, List.setIfInBounds_toArray, List.set_cons_zero, List.set_cons_succ]
          refine wpAnyH_take (i := 19) (oi := { dst := some 56, op := Op.move (Operand.tmp 9), type := 3, pos := "law.go:175", after := #[{ on := 17, ground := Ground.guard }], guard := some (17, true) }) (v := undef) rfl (by kernel_rfl) (by kernel_rfl) (by kernel_rfl) (fun _ _ _ h => h) (Or.inr ⟨by rfl, rfl⟩) (by assumption) ?_
          try simp only [Act.put, List.setIfInBounds_toArray, List.set_cons_zero, List.set_cons_succ]
          refine wpAnyH_take (i := 20) (oi := { dst := some 57, op := Op.indexAddr 27 (Operand.tmp 55) (Operand.tmp 56), type := 0, pos := "law.go:175", after := #[{ on := 18, ground := Ground.data }, { on := 19, ground := Ground.data }, { on := 17, ground := Ground.guard }], guard := some (17, true) }) (v := undef) rfl (by kernel_rfl) (by kernel_rfl) (by kernel_rfl) (fun _ _ _ h => h) (Or.inr ⟨by rfl, rfl⟩) (by assumption) ?_
          try simp only [Act.put, List.setIfInBounds_toArray, List.set_cons_zero, List.set_cons_succ]
          refine wpAnyH_take (i := 21) (oi := { dst := some 58, op := Op.fieldAddr 36 (Operand.tmp 57) 0, type := 0, pos := "law.go:175", after := #[{ on := 20, ground := Ground.data }, { on := 17, ground := Ground.guard }], guard := some (17, true) }) (v := undef) rfl (by kernel_rfl) (by kernel_rfl) (by kernel_rfl) (fun _ _ _ h => h) (Or.inr ⟨by rfl, rfl⟩) (by assumption) ?_
          try simp only [Act.put, List.setIfInBounds_toArray, List.set_cons_zero, List.set_cons_succ]
          refine wpAnyH_take (i := 22) (oi := { dst := some 59, op := Op.load 9 (Operand.tmp 58), type := 9, pos := "law.go:175", after := #[{ on := 21, ground := Ground.data }, { on := 17, ground := Ground.guard }], guard := some (17, true) }) (v := undef) rfl (by kernel_rfl) (by kernel_rfl) (by kernel_rfl) (fun _ _ _ h => h) (Or.inr ⟨by rfl, rfl⟩) (by assumption) ?_
          try simp only [Act.put, List.setIfInBounds_toArray, List.set_cons_zero, List.set_cons_succ]
          refine wpAnyH_take (i := 23) (oi := { dst := some 60, op := Op.move (Operand.tmp 8), type := 27, pos := "law.go:175", after := #[{ on := 17, ground := Ground.guard }], guard := some (17, true) }) (v := undef) rfl (by kernel_rfl) (by kernel_rfl) (by kernel_rfl) (fun _ _ _ h => h) (Or.inr ⟨by rfl, rfl⟩) (by assumption) ?_
          try simp only [Act.put, List.setIfInBounds_toArray, List.set_cons_zero, List.set_cons_succ]
          refine wpAnyH_take (i := 24) (oi := { dst := some 61, op := Op.move (Operand.tmp 9), type := 3, pos := "law.go:175", after := #[{ on := 17, ground := Ground.guard }], guard := some (17, true) }) (v := undef) rfl (by kernel_rfl) (by kernel_rfl) (by kernel_rfl) (fun _ _ _ h => h) (Or.inr ⟨by rfl, rfl⟩) (by assumption) ?_
          try simp only [Act.put, List.setIfInBounds_toArray, List.set_cons_zero, List.set_cons_succ]
          refine wpAnyH_take (i := 25) (oi := { dst := some 62, op := Op.binOp BinOp.sub 3 (Operand.tmp 61) (Operand.const (Value.int IntKind.i64 1)) 3, type := 3, pos := "law.go:175", after := #[{ on := 24, ground := Ground.data }, { on := 17, ground := Ground.guard }], guard := some (17, true) }) (v := undef) rfl (by kernel_rfl) (by kernel_rfl) (by kernel_rfl) (fun _ _ _ h => h) (Or.inr ⟨by rfl, rfl⟩) (by assumption) ?_
          try simp only [Act.put, List.setIfInBounds_toArray, List.set_cons_zero, List.set_cons_succ]
          refine wpAnyH_take (i := 26) (oi := { dst := some 63, op := Op.indexAddr 27 (Operand.tmp 60) (Operand.tmp 62), type := 0, pos := "law.go:175", after := #[{ on := 23, ground := Ground.data }, { on := 25, ground := Ground.data }, { on := 17, ground := Ground.guard }], guard := some (17, true) }) (v := undef) rfl (by kernel_rfl) (by kernel_rfl) (by kernel_rfl) (fun _ _ _ h => h) (Or.inr ⟨by rfl, rfl⟩) (by assumption) ?_
          try simp only [Act.put, List.setIfInBounds_toArray, List.set_cons_zero, List.set_cons_succ]
          refine wpAnyH_take (i := 27) (oi := { dst := some 64, op := Op.fieldAddr 36 (Operand.tmp 63) 0, type := 0, pos := "law.go:175", after := #[{ on := 26, ground := Ground.data }, { on := 17, ground := Ground.guard }], guard := some (17, true) }) (v := undef) rfl (by kernel_rfl) (by kernel_rfl) (by kernel_rfl) (fun _ _ _ h => h) (Or.inr ⟨by rfl, rfl⟩) (by assumption) ?_
          try simp only [Act.put, List.setIfInBounds_toArray, List.set_cons_zero, List.set_cons_succ]
          refine wpAnyH_take (i := 28) (oi := { dst := some 65, op := Op.load 9 (Operand.tmp 64), type := 9, pos := "law.go:175", after := #[{ on := 27, ground := Ground.data }, { on := 17, ground := Ground.guard }], guard := some (17, true) }) (v := undef) rfl (by kernel_rfl) (by kernel_rfl) (by kernel_rfl) (fun _ _ _ h => h) (Or.inr ⟨by rfl, rfl⟩) (by assumption) ?_
          try simp only [Act.put, List.setIfInBounds_toArray, List.set_cons_zero, List.set_cons_succ]
          refine wpAnyH_take (i := 29) (oi := { dst := some 66, op := Op.binOp BinOp.leq 9 (Operand.tmp 59) (Operand.tmp 65) 9, type := 4, pos := "law.go:175", after := #[{ on := 22, ground := Ground.data }, { on := 28, ground := Ground.data }, { on := 17, ground := Ground.guard }], guard := some (17, true) }) (v := undef) rfl (by kernel_rfl) (by kernel_rfl) (by kernel_rfl) (fun _ _ _ h => h) (Or.inr ⟨by rfl, rfl⟩) (by assumption) ?_
          try simp only [Act.put, List.setIfInBounds_toArray, List.set_cons_zero, List.set_cons_succ]
          refine wpAnyH_take (i := 30) (oi := { dst := some 67, op := Op.pick (Operand.tmp 54) (Operand.tmp 66) (Operand.const (Value.bool false)), type := 4, pos := "law.go:175", after := #[{ on := 17, ground := Ground.data }, { on := 29, ground := Ground.data }, { on := 14, ground := Ground.guard }], guard := some (14, false) }) (v := ?_) rfl (by kernel_rfl) (by kernel_rfl) (by kernel_rfl) (fun _ _ _ h => h) (Or.inl ⟨by rfl, ?_⟩) (by assumption) ?_
          rotate_left
          · (intro w hSw; (try dsimp only at hSw); first | (go_simp; done) | (go_simp; with_reducible rfl))
          try simp only [Act.put, List.setIfInBounds_toArray, List.set_cons_zero, List.set_cons_succ]
          refine wpAnyH_take (i := 31) (oi := { dst := some 68, op := Op.pick (Operand.tmp 51) (Operand.const (Value.bool true)) (Operand.tmp 67), type := 4, pos := "law.go:175", after := #[{ on := 14, ground := Ground.data }, { on := 30, ground := Ground.data }], guard := none }) (v := ?_) rfl (by kernel_rfl) (by kernel_rfl) (by kernel_rfl) (fun _ _ _ h => h) (Or.inl ⟨by rfl, ?_⟩) (by assumption) ?_
          rotate_left
          · (intro w hSw; (try dsimp only at hSw); first | (go_simp; done) | (go_simp; with_reducible rfl))
          try simp only [Act.put, List.setIfInBounds_toArray, List.set_cons_zero, List.set_cons_succ]
          refine wpAnyH_take (i := 32) (oi := { dst := some 69, op := Op.move (Operand.tmp 68), type := 4, pos := "law.go:175", after := #[{ on := 31, ground := Ground.data }, { on := 17, ground := Ground.chain }], guard := none }) (v := ?_) rfl (by kernel_rfl) (by kernel_rfl) (by kernel_rfl) (fun _ _ _ h => h) (Or.inl ⟨by rfl, ?_⟩) (by assumption) ?_
          rotate_left
          · (intro w hSw; (try dsimp only at hSw); first | (go_simp; done) | (go_simp; with_reducible rfl))
          try simp only [Act.put, List.setIfInBounds_toArray, List.set_cons_zero, List.set_cons_succ]
          refine wpAnyH_take (i := 33) (oi := { dst := some 70, op := Op.move (Operand.tmp 6), type := 22, pos := "law.go:175", after := #[{ on := 32, ground := Ground.guard }], guard := some (32, false) }) (v := ?_) rfl (by kernel_rfl) (by kernel_rfl) (by kernel_rfl) (fun _ _ _ h => h) (Or.inl ⟨by rfl, ?_⟩) (by assumption) ?_
          rotate_left
          · (intro w hSw; (try dsimp only at hSw); first | (go_simp; done) | (go_simp; with_reducible rfl))
          try simp only [Act.put, List.setIfInBounds_toArray, List.set_cons_zero, List.set_cons_succ]
          refine wpAnyH_take (i := 34) (oi := { dst := some 71, op := Op.move (Operand.tmp 8), type := 27, pos := "law.go:175", after := #[{ on := 32, ground := Ground.guard }], guard := some (32, false) }) (v := ?_) rfl (by kernel_rfl) (by kernel_rfl) (by kernel_rfl) (fun _ _ _ h => h) (Or.inl ⟨by rfl, ?_⟩) (by assumption) ?_
          rotate_left
          · (intro w hSw; (try dsimp only at hSw); first | (go_simp; done) | (go_simp; with_reducible rfl))
          try simp only [Act.put, List.setIfInBounds_toArray, List.set_cons_zero, List.set_cons_succ]
          refine wpAnyH_take (i := 35) (oi := { dst := some 72, op := Op.move (Operand.tmp 9), type := 3, pos := "law.go:175", after := #[{ on := 32, ground := Ground.guard }], guard := some (32, false) }) (v := ?_) rfl (by kernel_rfl) (by kernel_rfl) (by kernel_rfl) (fun _ _ _ h => h) (Or.inl ⟨by rfl, ?_⟩) (by assumption) ?_
          rotate_left
          · (intro w hSw; (try dsimp only at hSw); first | (go_simp; done) | (go_simp; with_reducible rfl))
          try simp only [Act.put, List.setIfInBounds_toArray, List.set_cons_zero, List.set_cons_succ]
          refine wpAnyH_take (i := 36) (oi := { dst := some 73, op := Op.indexAddr 27 (Operand.tmp 71) (Operand.tmp 72), type := 0, pos := "law.go:175", after := #[{ on := 34, ground := Ground.data }, { on := 35, ground := Ground.data }, { on := 32, ground := Ground.guard }], guard := some (32, false) }) (v := ?_) rfl (by kernel_rfl) (by kernel_rfl) (by kernel_rfl) (fun _ _ _ h => h) (Or.inl ⟨by rfl, ?_⟩) (by assumption) ?_
          rotate_left
          · (intro w hSw; (try dsimp only at hSw); first | (go_simp; done) | (go_simp; with_reducible rfl))
          try simp only [Act.put, List.setIfInBounds_toArray, List.set_cons_zero, List.set_cons_succ]
          refine wpAnyH_take (i := 37) (oi := { dst := some 74, op := Op.load 36 (Operand.tmp 73), type := 36, pos := "law.go:175", after := #[{ on := 36, ground := Ground.data }, { on := 32, ground := Ground.guard }], guard := some (32, false) }) (v := ?_) rfl (by kernel_rfl) (by kernel_rfl) (by kernel_rfl) (fun _ _ _ h => h) (Or.inl ⟨by rfl, ?_⟩) (by assumption) ?_
          rotate_left
          · (intro w hSw; (try dsimp only at hSw); first | (go_simp; done) | (go_simp; with_reducible rfl))
          try simp only [Act.put, List.setIfInBounds_toArray, List.set_cons_zero, List.set_cons_succ]
          refine wpAnyH_ready (rs := [38]) (by kernel_rfl) (by simp) ?_
          refine AllReadyH.cons (o := { dst := some 75, op := Op.call { callee := Callee.value (Operand.func 21), args := #[Operand.tmp 70, Operand.tmp 74], argTypes := #[22, 36] }, type := 4, pos := "law.go:175", after := #[{ on := 33, ground := Ground.data }, { on := 37, ground := Ground.data }, { on := 32, ground := Ground.chain }, { on := 32, ground := Ground.guard }], guard := some (32, false) }) rfl (fun K hK => ?_) AllReadyH.nil
          go_simp
          refine (HH.out _ HS101.out).mono ?_
          rintro r w102 ⟨rfl, hb⟩
          skip
          have HS102 := Lib.hid hb
          have HB102 := Lib.hid (HB101.out.trans hb)
          clear hb
          dsimp only
          refine hK.out _ _ (HSS.out _ (HS101.out.trans HS102.out)) (fun hHeld => ?_)
          clear hK K
          try simp only [Act.put, List.setIfInBounds_toArray, List.set_cons_zero, List.set_cons_succ]
          refine wpAnyH_take (i := 39) (oi := { dst := some 76, op := Op.unOp UnOp.not 4 (Operand.tmp 75), type := 4, pos := "law.go:175", after := #[{ on := 38, ground := Ground.data }, { on := 32, ground := Ground.guard }], guard := some (32, false) }) (v := ?_) rfl (by kernel_rfl) (by kernel_rfl) (by kernel_rfl) (fun _ _ _ h => h) (Or.inl ⟨by rfl, ?_⟩) (by assumption) ?_
          rotate_left
          · (intro w hSw; (try dsimp only at hSw); first | (go_simp; done) | (go_simp; with_reducible rfl))
          try simp only [Act.put, List.setIfInBounds_toArray, List.set_cons_zero, List.set_cons_succ]
          refine wpAnyH_take (i := 40) (oi := { dst := some 77, op := Op.pick (Operand.tmp 69) (Operand.const (Value.bool true)) (Operand.tmp 76), type := 4, pos := "law.go:175", after := #[{ on := 32, ground := Ground.data }, { on := 39, ground := Ground.data }], guard := none }) (v := ?_) rfl (by kernel_rfl) (by kernel_rfl) (by kernel_rfl) (fun _ _ _ h => h) (Or.inl ⟨by rfl, ?_⟩) (by assumption) ?_
          rotate_left
          · (intro w hSw; (try dsimp only at hSw); first | (go_simp; done) | (go_simp; with_reducible rfl))
          try simp only [Act.put, List.setIfInBounds_toArray, List.set_cons_zero, List.set_cons_succ]
          refine wpAnyH_done (by kernel_rfl) ?_ _
          clear hHeld
          go_wp2_with (fail)
          have HNI := Lib.hid (HE0.out.bel (HWI.out.trans (HS101.out.trans HS102.out)))
          have HVI := Lib.hid (HVR.out.bel (HS101.out.trans HS102.out))
          have HCI := Lib.hid (cl12 (HWI.out.trans (HS101.out.trans HS102.out)) HCELL.out)
          have HEI := Lib.hid (HSS.out _ (HS101.out.trans HS102.out))
          clear HSS
          go_loopw [10] (fun kv x => ∃ k : Nat, k ≤ N.length ∧ kv = .int .i64 k ∧ Bel w102 x) (fun kv _ => N.length - (intOf kv).toNat)
          case atStart => exact ⟨0, Nat.zero_le _, rfl, Bel.refl _⟩
          case round =>
            obtain ⟨k, hk, rfl, hw2⟩ := hrel
            have HW2 := Lib.hid hw2
            have hcr := cl12 hw2 HCI.out
            by_cases hkl : k < N.length
            · obtain ⟨a2, ha2, -⟩ := (HNI.out.bel hw2) k hkl
              subst ha2
              obtain ⟨B2, O2, sp2, ha3, t0, t1, t2, t3⟩ := ent_at12 (HNI.out.bel hw2) hkl
              have u0 := cl12 hw2 HEI.out.1
              have u1 := cl12 hw2 HEI.out.2.1
              have HBN := Lib.hid (fun (hkk : N[k].k.data.toList = e0.k.data.toList) (hqq : N[k].q ≤ s) => (newB_iff.1 HNB.out).2 _ (List.getElem_mem hkl) hkk hqq)
              have hki : (k : Int) < (N.length : Int) := by omega
              generalize N[k] = e1 at *
              clear hw2
              cases hkey : (e1.k.toList == e0.k.toList) with
              | false =>
                clear HBN
                go_wp2_with (fail)
                go_quiet (fail)
                go_wp2_with (fail)
                go_roundw
                case rel => exact ⟨k + 1, hkl, by go_num, HW2.out.drewN nq⟩
                case measure => simp [intOf]; omega
              | true =>
                have hke : e1.k.data.toList = e0.k.data.toList := by rw [beq_iff_eq, ByteArray.toList_eq, ByteArray.toList_eq] at hkey; exact hkey
                by_cases hq1 : e0.q < e1.q
                · have hqd : decide (e0.q < e1.q) = true := decide_eq_true hq1
                  have hqs : decide (e1.q ≤ s) = false := decide_eq_false (fun h => by have := HBN.out hke h; omega)
                  clear HBN hke
                  go_wp2_with (fail)
                  go_quiet (fail)
                  go_wp2_with (fail)
                  go_roundw
                  case rel => exact ⟨k + 1, hkl, by go_num, HW2.out.drewN nq⟩
                  case measure => simp [intOf]; omega
                · have hqd : decide (e0.q < e1.q) = false := decide_eq_false hq1
                  clear HBN hke
                  go_wp2_with (fail)
                  go_quiet (fail)
                  go_wp2_with (fail)
                  go_roundw
                  case rel => exact ⟨k + 1, hkl, by go_num, HW2.out.drewN nq⟩
                  case measure => simp [intOf]; omega
            · obtain rfl : k = N.length := by omega
              have hki : ¬ (N.length : Int) < (N.length : Int) := by omega
              clear hw2
              go_wp2_with (fail)
              go_roundw
              case rel => exact ⟨0 + 1, hil, by go_num, (HW.out.trans (HS101.out.trans HS102.out)).trans HW2.out⟩
              case measure => simp [intOf]; omega
        · obtain ⟨m, rfl⟩ : ∃ m, i = m + 1 := ⟨i - 1, by omega⟩
          have hml : m < V.length := by omega
          obtain ⟨B1, O1, sp1, hb1, y0, -, -, -⟩ := ent_at12 HVR.out hml
          have hless : Op.bytesLess V[m].k.data.toList V[m + 1].k.data.toList = true := List.pairwise_iff_getElem.1 HVK.out m (m + 1) hml hil (by omega)
          have hl1 : Op.bytesLess V[m + 1].k.toList V[m].k.toList = false := by rw [ByteArray.toList_eq, ByteArray.toList_eq]; exact less_asymm hless
          have hl2 : (V[m + 1].k.toList == V[m].k.toList) = false := by
            rw [beq_eq_false_iff_ne, ByteArray.toList_eq, ByteArray.toList_eq]
            intro e
            rw [e, less_irrefl] at hless; cases hless
          have hl3 : Op.bytesLess V[m].k.toList V[m + 1].k.toList = true := by rw [ByteArray.toList_eq, ByteArray.toList_eq]; exact hless
          have hm1 : wrap64 ((m : Int) + 1 - 1) = (m : Int) := by rw [IntWalk.wrap64_in _ ⟨by omega, by omega⟩]; omega
          have hm2 : IntKind.i64.wrap ((m : Int) + 1 - 1) = (m : Int) := by rw [IntKind.wrap_i64]; omega
          have hm3 : IntKind.i64.wrap (m : Int) = (m : Int) := by rw [IntKind.wrap_i64]; omega
          have hmg : (m : Int) < (V.length : Int) := by omega
          have hm0 : (0 : Int) ≤ (m : Int) := by omega
          have hmp : (0 : Int) < (m : Int) + 1 := by omega
          have hmk : (m : Int) + 1 < (V.length : Int) := by omega
          have hm10 : (0 : Int) ≤ (m : Int) + 1 := by omega
          have htn : ((m : Int) + 1).toNat = m + 1 := by omega
          generalize hve : V[m + 1] = e0 at *
          generalize V[m].k = k1 at *
          rw [HDF.out] at z2
          have HH := Lib.hid (show ∀ z, Bel wr z → Calls Try.prog 21 #[.slice (some ⟨B0, O0, sp0⟩) 1 c2, .agg #[.string e0.k, .int .i64 e0.q, .bool false, .string e0.v]] z fun r w' => r = .returned (.bool true) ∧ Bel z w' from fun z hz => by
            have := HH0.out z hz
            rw [HDF.out] at this
            exact this)
          clear hw HH0 hve hless hii
          simp only [Int.natCast_add, Int.natCast_one]
          have HSS := Lib.hid (show ∀ z, Bel wr z → (z.cell? ⟨B, O, sp⟩ = some (.string e0.k) ∧ z.cell? ⟨B, O + 1, none⟩ = some (.int .i64 e0.q) ∧ z.cell? ⟨B, O + 2, none⟩ = some (.bool false) ∧ z.cell? ⟨B, O + 3, none⟩ = some (.string e0.v)) ∧ z.cell? ⟨B1, O1, sp1⟩ = some (.string k1) from fun z hz => ⟨⟨cl12 hz z0, cl12 hz z1, cl12 hz z2, cl12 hz z3⟩, cl12 hz y0⟩)
          go_wp2_with (fail)
          refine wp_region_held_drew (S := fun z => (z.cell? ⟨B, O, sp⟩ = some (.string e0.k) ∧ z.cell? ⟨B, O + 1, none⟩ = some (.int .i64 e0.q) ∧ z.cell? ⟨B, O + 2, none⟩ = some (.bool false) ∧ z.cell? ⟨B, O + 3, none⟩ = some (.string e0.v)) ∧ z.cell? ⟨B1, O1, sp1⟩ = some (.string k1)) (by kernel_rfl) (HSS.out _ (Bel.refl wr).drew) (fun hHeld => ?_)
          obtain ⟨w101, hw⟩ : ∃ z, z = World.drew wr := ⟨_, rfl⟩
          have hb : Bel wr w101 := by rw [hw]; exact (Bel.refl _).drew
          rw [← hw] at hHeld ⊢
          clear hw
          have HS101 := Lib.hid hb
          have HB101 := Lib.hid (HBR.out.trans hb)
          clear hb
          refine wpAnyH_take (i := 0) (oi := { dst := some 37, op := Op.move (Operand.tmp 8), type := 27, pos := "law.go:175", after := #[], guard := none }) (v := ?_) rfl (by kernel_rfl) (by kernel_rfl) (by kernel_rfl) (fun _ _ _ h => h) (Or.inl ⟨by rfl, ?_⟩) (by assumption) ?_
          rotate_left
          · (intro w hSw; (try dsimp only at hSw); first | (go_simp; done) | (go_simp; with_reducible rfl))
          try simp only [Act.put, List.setIfInBounds_toArray, List.set_cons_zero, List.set_cons_succ]
          refine wpAnyH_take (i := 1) (oi := { dst := some 38, op := Op.move (Operand.tmp 9), type := 3, pos := "law.go:175", after := #[], guard := none }) (v := ?_) rfl (by kernel_rfl) (by kernel_rfl) (by kernel_rfl) (fun _ _ _ h => h) (Or.inl ⟨by rfl, ?_⟩) (by assumption) ?_
          rotate_left
          · (intro w hSw; (try dsimp only at hSw); first | (go_simp; done) | (go_simp; with_reducible rfl))
          try simp only [Act.put, List.setIfInBounds_toArray, List.set_cons_zero, List.set_cons_succ]
          refine wpAnyH_take (i := 2) (oi := { dst := some 39, op := Op.indexAddr 27 (Operand.tmp 37) (Operand.tmp 38), type := 0, pos := "law.go:175", after := #[{ on := 0, ground := Ground.data }, { on := 1, ground := Ground.data }], guard := none }) (v := ?_) rfl (by kernel_rfl) (by kernel_rfl) (by kernel_rfl) (fun _ _ _ h => h) (Or.inl ⟨by rfl, ?_⟩) (by assumption) ?_
          rotate_left
          · (intro w hSw; (try dsimp only at hSw); first | (go_simp; done) | (go_simp; with_reducible rfl))
          try simp only [Act.put, List.setIfInBounds_toArray, List.set_cons_zero, List.set_cons_succ]
          refine wpAnyH_take (i := 3) (oi := { dst := some 40, op := Op.fieldAddr 36 (Operand.tmp 39) 2, type := 0, pos := "law.go:175", after := #[{ on := 2, ground := Ground.data }], guard := none }) (v := ?_) rfl (by kernel_rfl) (by kernel_rfl) (by kernel_rfl) (fun _ _ _ h => h) (Or.inl ⟨by rfl, ?_⟩) (by assumption) ?_
          rotate_left
          · (intro w hSw; (try dsimp only at hSw); first | (go_simp; done) | (go_simp; with_reducible rfl))
          try simp only [Act.put, List.setIfInBounds_toArray, List.set_cons_zero, List.set_cons_succ]
          refine wpAnyH_take (i := 4) (oi := { dst := some 41, op := Op.load 4 (Operand.tmp 40), type := 4, pos := "law.go:175", after := #[{ on := 3, ground := Ground.data }], guard := none }) (v := ?_) rfl (by kernel_rfl) (by kernel_rfl) (by kernel_rfl) (fun _ _ _ h => h) (Or.inl ⟨by rfl, ?_⟩) (by assumption) ?_
          rotate_left
          · (intro w hSw; (try dsimp only at hSw); first | (go_simp; done) | (go_simp; with_reducible rfl))
          try simp only [Act.put, List.setIfInBounds_toArray, List.set_cons_zero, List.set_cons_succ]
          refine wpAnyH_take (i := 5) (oi := { dst := some 42, op := Op.move (Operand.tmp 41), type := 4, pos := "law.go:175", after := #[{ on := 4, ground := Ground.data }], guard := none }) (v := ?_) rfl (by kernel_rfl) (by kernel_rfl) (by kernel_rfl) (fun _ _ _ h => h) (Or.inl ⟨by rfl, ?_⟩) (by assumption) ?_
          rotate_left
          · (intro w hSw; (try dsimp only at hSw); first | (go_simp; done) | (go_simp; with_reducible rfl))
          try simp only [Act.put, List.setIfInBounds_toArray, List.set_cons_zero, List.set_cons_succ]
          refine wpAnyH_take (i := 6) (oi := { dst := some 43, op := Op.move (Operand.tmp 8), type := 27, pos := "law.go:175", after := #[{ on := 5, ground := Ground.guard }], guard := some (5, false) }) (v := ?_) rfl (by kernel_rfl) (by kernel_rfl) (by kernel_rfl) (fun _ _ _ h => h) (Or.inl ⟨by rfl, ?_⟩) (by assumption) ?_
          rotate_left
          · (intro w hSw; (try dsimp only at hSw); first | (go_simp; done) | (go_simp; with_reducible rfl))
          try simp only [Act.put, List.setIfInBounds_toArray, List.set_cons_zero, List.set_cons_succ]
          refine wpAnyH_take (i := 7) (oi := { dst := some 44, op := Op.move (Operand.tmp 9), type := 3, pos := "law.go:175", after := #[{ on := 5, ground := Ground.guard }], guard := some (5, false) }) (v := ?_) rfl (by kernel_rfl) (by kernel_rfl) (by kernel_rfl) (fun _ _ _ h => h) (Or.inl ⟨by rfl, ?_⟩) (by assumption) ?_
          rotate_left
          · (intro w hSw; (try dsimp only at hSw); first | (go_simp; done) | (go_simp; with_reducible rfl))
          try simp only [Act.put, List.setIfInBounds_toArray, List.set_cons_zero, List.set_cons_succ]
          refine wpAnyH_take (i := 8) (oi := { dst := some 45, op := Op.indexAddr 27 (Operand.tmp 43) (Operand.tmp 44), type := 0, pos := "law.go:175", after := #[{ on := 6, ground := Ground.data }, { on := 7, ground := Ground.data }, { on := 5, ground := Ground.guard }], guard := some (5, false) }) (v := ?_) rfl (by kernel_rfl) (by kernel_rfl) (by kernel_rfl) (fun _ _ _ h => h) (Or.inl ⟨by rfl, ?_⟩) (by assumption) ?_
          rotate_left
          · (intro w hSw; (try dsimp only at hSw); first | (go_simp; done) | (go_simp; with_reducible rfl))
          try simp only [Act.put, List.setIfInBounds_toArray, List.set_cons_zero, List.set_cons_succ]
          refine wpAnyH_take (i := 9) (oi := { dst := some 46, op := Op.fieldAddr 36 (Operand.tmp 45) 1, type := 0, pos := "law.go:175", after := #[{ on := 8, ground := Ground.data }, { on := 5, ground := Ground.guard }], guard := some (5, false) }) (v := ?_) rfl (by kernel_rfl) (by kernel_rfl) (by kernel_rfl) (fun _ _ _ h => h) (Or.inl ⟨by rfl, ?_⟩) (by assumption) ?_
          rotate_left
          · (intro w hSw; (try dsimp only at hSw); first | (go_simp; done) | (go_simp; with_reducible rfl))
          try simp only [Act.put, List.setIfInBounds_toArray, List.set_cons_zero, List.set_cons_succ]
          refine wpAnyH_take (i := 10) (oi := { dst := some 47, op := Op.load 3 (Operand.tmp 46), type := 3, pos := "law.go:175", after := #[{ on := 9, ground := Ground.data }, { on := 5, ground := Ground.guard }], guard := some (5, false) }) (v := ?_) rfl (by kernel_rfl) (by kernel_rfl) (by kernel_rfl) (fun _ _ _ h => h) (Or.inl ⟨by rfl, ?_⟩) (by assumption) ?_
          rotate_left
          · (intro w hSw; (try dsimp only at hSw); first | (go_simp; done) | (go_simp; with_reducible rfl))
          try simp only [Act.put, List.setIfInBounds_toArray, List.set_cons_zero, List.set_cons_succ]
          refine wpAnyH_take (i := 11) (oi := { dst := some 48, op := Op.move (Operand.tmp 1), type := 3, pos := "law.go:175", after := #[{ on := 5, ground := Ground.guard }], guard := some (5, false) }) (v := ?_) rfl (by kernel_rfl) (by kernel_rfl) (by kernel_rfl) (fun _ _ _ h => h) (Or.inl ⟨by rfl, ?_⟩) (by assumption) ?_
          rotate_left
          · (intro w hSw; (try dsimp only at hSw); first | (go_simp; done) | (go_simp; with_reducible rfl))
          try simp only [Act.put, List.setIfInBounds_toArray, List.set_cons_zero, List.set_cons_succ]
          refine wpAnyH_take (i := 12) (oi := { dst := some 49, op := Op.binOp BinOp.gtr 3 (Operand.tmp 47) (Operand.tmp 48) 3, type := 4, pos := "law.go:175", after := #[{ on := 10, ground := Ground.data }, { on := 11, ground := Ground.data }, { on := 5, ground := Ground.guard }], guard := some (5, false) }) (v := ?_) rfl (by kernel_rfl) (by kernel_rfl) (by kernel_rfl) (fun _ _ _ h => h) (Or.inl ⟨by rfl, ?_⟩) (by assumption) ?_
          rotate_left
          · (intro w hSw; (try dsimp only at hSw); first | (go_simp; done) | (go_simp; with_reducible rfl))
          try simp only [Act.put, List.setIfInBounds_toArray, List.set_cons_zero, List.set_cons_succ]
          refine wpAnyH_take (i := 13) (oi := { dst := some 50, op := Op.pick (Operand.tmp 42) (Operand.const (Value.bool true)) (Operand.tmp 49), type := 4, pos := "law.go:175", after := #[{ on := 5, ground := Ground.data }, { on := 12, ground := Ground.data }], guard := none }) (v := ?_) rfl (by kernel_rfl) (by kernel_rfl) (by kernel_rfl) (fun _ _ _ h => h) (Or.inl ⟨by rfl, ?_⟩) (by assumption) ?_
          rotate_left
          · (intro w hSw; (try dsimp only at hSw); first | (go_simp; done) | (go_simp; with_reducible rfl))
          try simp only [Act.put, List.setIfInBounds_toArray, List.set_cons_zero, List.set_cons_succ]
          refine wpAnyH_take (i := 14) (oi := { dst := some 51, op := Op.move (Operand.tmp 50), type := 4, pos := "law.go:175", after := #[{ on := 13, ground := Ground.data }, { on := 5, ground := Ground.chain }], guard := none }) (v := ?_) rfl (by kernel_rfl) (by kernel_rfl) (by kernel_rfl) (fun _ _ _ h => h) (Or.inl ⟨by rfl, ?_⟩) (by assumption) ?_
          rotate_left
          · (intro w hSw; (try dsimp only at hSw); first | (go_simp; done) | (go_simp; with_reducible rfl))
          try simp only [Act.put, List.setIfInBounds_toArray, List.set_cons_zero, List.set_cons_succ]
          refine wpAnyH_take (i := 15) (oi := { dst := some 52, op := Op.move (Operand.tmp 9), type := 3, pos := "law.go:175", after := #[{ on := 14, ground := Ground.guard }], guard := some (14, false) }) (v := ?_) rfl (by kernel_rfl) (by kernel_rfl) (by kernel_rfl) (fun _ _ _ h => h) (Or.inl ⟨by rfl, ?_⟩) (by assumption) ?_
          rotate_left
          · (intro w hSw; (try dsimp only at hSw); first | (go_simp; done) | (go_simp; with_reducible rfl))
          try simp only [Act.put, List.setIfInBounds_toArray, List.set_cons_zero, List.set_cons_succ]
          refine wpAnyH_take (i := 16) (oi := { dst := some 53, op := Op.binOp BinOp.gtr 3 (Operand.tmp 52) (Operand.const (Value.int IntKind.i64 0)) 3, type := 4, pos := "law.go:175", after := #[{ on := 15, ground := Ground.data }, { on := 14, ground := Ground.guard }], guard := some (14, false) }) (v := ?_) rfl (by kernel_rfl) (by kernel_rfl) (by kernel_rfl) (fun _ _ _ h => h) (Or.inl ⟨by rfl, ?_⟩) (by assumption) ?_
          rotate_left
          · (intro w hSw; (try dsimp only at hSw); first | (go_simp; done) | (go_simp; with_reducible rfl))
          try simp only [Act.put, List.setIfInBounds_toArray, List.set_cons_zero, List.set_cons_succ]
          refine wpAnyH_take (i := 17) (oi := { dst := some 54, op := Op.move (Operand.tmp 53), type := 4, pos := "law.go:175", after := #[{ on := 16, ground := Ground.data }, { on := 14, ground := Ground.chain }, { on := 14, ground := Ground.guard }], guard := some (14, false) }) (v := ?_) rfl (by kernel_rfl) (by kernel_rfl) (by kernel_rfl) (fun _ _ _ h => h) (Or.inl ⟨by rfl, ?_⟩) (by assumption) ?_
          rotate_left
          · (intro w hSw; (try dsimp only at hSw); first | (go_simp; done) | (go_simp; with_reducible rfl))
          try simp only [Act.put, List.setIfInBounds_toArray, List.set_cons_zero, List.set_cons_succ]
          refine wpAnyH_take (i := 18) (oi := { dst := some 55, op := Op.move (Operand.tmp 8), type := 27, pos := "law.go:175", after := #[{ on := 17, ground := Ground.guard }], guard := some (17, true) }) (v := ?_) rfl (by kernel_rfl) (by kernel_rfl) (by kernel_rfl) (fun _ _ _ h => h) (Or.inl ⟨by rfl, ?_⟩) (by assumption) ?_
          rotate_left
          · (intro w hSw; (try dsimp only at hSw); first | (go_simp; done) | (go_simp; with_reducible rfl))
          try simp only [Act.put, List.setIfInBounds_toArray, List.set_cons_zero, List.set_cons_succ]
          refine wpAnyH_take (i := 19) (oi := { dst := some 56, op := Op.move (Operand.tmp 9), type := 3, pos := "law.go:175", after := #[{ on := 17, ground := Ground.guard }], guard := some (17, true) }) (v := ?_) rfl (by kernel_rfl) (by kernel_rfl) (by kernel_rfl) (fun _ _ _ h => h) (Or.inl ⟨by rfl, ?_⟩) (by assumption) ?_
          rotate_left
          · (intro w hSw; (try dsimp only at hSw); first | (go_simp; done) | (go_simp; with_reducible rfl))
          try simp only [Act.put, List.setIfInBounds_toArray, List.set_cons_zero, List.set_cons_succ]
          refine wpAnyH_take (i := 20) (oi := { dst := some 57, op := Op.indexAddr 27 (Operand.tmp 55) (Operand.tmp 56), type := 0, pos := "law.go:175", after := #[{ on := 18, ground := Ground.data }, { on := 19, ground := Ground.data }, { on := 17, ground := Ground.guard }], guard := some (17, true) }) (v := ?_) rfl (by kernel_rfl) (by kernel_rfl) (by kernel_rfl) (fun _ _ _ h => h) (Or.inl ⟨by rfl, ?_⟩) (by assumption) ?_
          rotate_left
          · (intro w hSw; (try dsimp only at hSw); first | (go_simp; done) | (go_simp; with_reducible rfl))
          try simp only [Act.put, List.setIfInBounds_toArray, List.set_cons_zero, List.set_cons_succ]
          refine wpAnyH_take (i := 21) (oi := { dst := some 58, op := Op.fieldAddr 36 (Operand.tmp 57) 0, type := 0, pos := "law.go:175", after := #[{ on := 20, ground := Ground.data }, { on := 17, ground := Ground.guard }], guard := some (17, true) }) (v := ?_) rfl (by kernel_rfl) (by kernel_rfl) (by kernel_rfl) (fun _ _ _ h => h) (Or.inl ⟨by rfl, ?_⟩) (by assumption) ?_
          rotate_left
          · (intro w hSw; (try dsimp only at hSw); first | (go_simp; done) | (go_simp; with_reducible rfl))
          try simp only [Act.put, List.setIfInBounds_toArray, List.set_cons_zero, List.set_cons_succ]
          refine wpAnyH_take (i := 22) (oi := { dst := some 59, op := Op.load 9 (Operand.tmp 58), type := 9, pos := "law.go:175", after := #[{ on := 21, ground := Ground.data }, { on := 17, ground := Ground.guard }], guard := some (17, true) }) (v := ?_) rfl (by kernel_rfl) (by kernel_rfl) (by kernel_rfl) (fun _ _ _ h => h) (Or.inl ⟨by rfl, ?_⟩) (by assumption) ?_
          rotate_left
          · (intro w hSw; (try dsimp only at hSw); first | (go_simp; done) | (go_simp; with_reducible rfl))
          try simp only [Act.put, List.setIfInBounds_toArray, List.set_cons_zero, List.set_cons_succ]
          refine wpAnyH_take (i := 23) (oi := { dst := some 60, op := Op.move (Operand.tmp 8), type := 27, pos := "law.go:175", after := #[{ on := 17, ground := Ground.guard }], guard := some (17, true) }) (v := ?_) rfl (by kernel_rfl) (by kernel_rfl) (by kernel_rfl) (fun _ _ _ h => h) (Or.inl ⟨by rfl, ?_⟩) (by assumption) ?_
          rotate_left
          · (intro w hSw; (try dsimp only at hSw); first | (go_simp; done) | (go_simp; with_reducible rfl))
          try simp only [Act.put, List.setIfInBounds_toArray, List.set_cons_zero, List.set_cons_succ]
          refine wpAnyH_take (i := 24) (oi := { dst := some 61, op := Op.move (Operand.tmp 9), type := 3, pos := "law.go:175", after := #[{ on := 17, ground := Ground.guard }], guard := some (17, true) }) (v := ?_) rfl (by kernel_rfl) (by kernel_rfl) (by kernel_rfl) (fun _ _ _ h => h) (Or.inl ⟨by rfl, ?_⟩) (by assumption) ?_
          rotate_left
          · (intro w hSw; (try dsimp only at hSw); first | (go_simp; done) | (go_simp; with_reducible rfl))
          try simp only [Act.put, List.setIfInBounds_toArray, List.set_cons_zero, List.set_cons_succ]
          refine wpAnyH_take (i := 25) (oi := { dst := some 62, op := Op.binOp BinOp.sub 3 (Operand.tmp 61) (Operand.const (Value.int IntKind.i64 1)) 3, type := 3, pos := "law.go:175", after := #[{ on := 24, ground := Ground.data }, { on := 17, ground := Ground.guard }], guard := some (17, true) }) (v := ?_) rfl (by kernel_rfl) (by kernel_rfl) (by kernel_rfl) (fun _ _ _ h => h) (Or.inl ⟨by rfl, ?_⟩) (by assumption) ?_
          rotate_left
          · (intro w hSw; (try dsimp only at hSw); first | (go_simp; done) | (go_simp; with_reducible rfl))
          try simp only [Act.put, List.setIfInBounds_toArray, List.set_cons_zero, List.set_cons_succ]
          refine wpAnyH_take (i := 26) (oi := { dst := some 63, op := Op.indexAddr 27 (Operand.tmp 60) (Operand.tmp 62), type := 0, pos := "law.go:175", after := #[{ on := 23, ground := Ground.data }, { on := 25, ground := Ground.data }, { on := 17, ground := Ground.guard }], guard := some (17, true) }) (v := ?_) rfl (by kernel_rfl) (by kernel_rfl) (by kernel_rfl) (fun _ _ _ h => h) (Or.inl ⟨by rfl, ?_⟩) (by assumption) ?_
          rotate_left
          · (intro w hSw; (try dsimp only at hSw); first | (go_simp; done) | (go_simp; with_reducible rfl))
          try simp only [Act.put, List.setIfInBounds_toArray, List.set_cons_zero, List.set_cons_succ]
          refine wpAnyH_take (i := 27) (oi := { dst := some 64, op := Op.fieldAddr 36 (Operand.tmp 63) 0, type := 0, pos := "law.go:175", after := #[{ on := 26, ground := Ground.data }, { on := 17, ground := Ground.guard }], guard := some (17, true) }) (v := ?_) rfl (by kernel_rfl) (by kernel_rfl) (by kernel_rfl) (fun _ _ _ h => h) (Or.inl ⟨by rfl, ?_⟩) (by assumption) ?_
          rotate_left
          · (intro w hSw; (try dsimp only at hSw); first | (go_simp; done) | (go_simp; with_reducible rfl))
          try simp only [Act.put, List.setIfInBounds_toArray, List.set_cons_zero, List.set_cons_succ]
          refine wpAnyH_take (i := 28) (oi := { dst := some 65, op := Op.load 9 (Operand.tmp 64), type := 9, pos := "law.go:175", after := #[{ on := 27, ground := Ground.data }, { on := 17, ground := Ground.guard }], guard := some (17, true) }) (v := ?_) rfl (by kernel_rfl) (by kernel_rfl) (by kernel_rfl) (fun _ _ _ h => h) (Or.inl ⟨by rfl, ?_⟩) (by assumption) ?_
          rotate_left
          · (intro w hSw; (try dsimp only at hSw); first | (go_simp; done) | (go_simp; with_reducible rfl))
          try simp only [Act.put, List.setIfInBounds_toArray, List.set_cons_zero, List.set_cons_succ]
          refine wpAnyH_take (i := 29) (oi := { dst := some 66, op := Op.binOp BinOp.leq 9 (Operand.tmp 59) (Operand.tmp 65) 9, type := 4, pos := "law.go:175", after := #[{ on := 22, ground := Ground.data }, { on := 28, ground := Ground.data }, { on := 17, ground := Ground.guard }], guard := some (17, true) }) (v := ?_) rfl (by kernel_rfl) (by kernel_rfl) (by kernel_rfl) (fun _ _ _ h => h) (Or.inl ⟨by rfl, ?_⟩) (by assumption) ?_
          rotate_left
          · (intro w hSw; (try dsimp only at hSw); first | (go_simp; done) | (go_simp; with_reducible rfl))
          try simp only [Act.put, List.setIfInBounds_toArray, List.set_cons_zero, List.set_cons_succ]
          refine wpAnyH_take (i := 30) (oi := { dst := some 67, op := Op.pick (Operand.tmp 54) (Operand.tmp 66) (Operand.const (Value.bool false)), type := 4, pos := "law.go:175", after := #[{ on := 17, ground := Ground.data }, { on := 29, ground := Ground.data }, { on := 14, ground := Ground.guard }], guard := some (14, false) }) (v := ?_) rfl (by kernel_rfl) (by kernel_rfl) (by kernel_rfl) (fun _ _ _ h => h) (Or.inl ⟨by rfl, ?_⟩) (by assumption) ?_
          rotate_left
          · (intro w hSw; (try dsimp only at hSw); first | (go_simp; done) | (go_simp; with_reducible rfl))
          try simp only [Act.put, List.setIfInBounds_toArray, List.set_cons_zero, List.set_cons_succ]
          refine wpAnyH_take (i := 31) (oi := { dst := some 68, op := Op.pick (Operand.tmp 51) (Operand.const (Value.bool true)) (Operand.tmp 67), type := 4, pos := "law.go:175", after := #[{ on := 14, ground := Ground.data }, { on := 30, ground := Ground.data }], guard := none }) (v := ?_) rfl (by kernel_rfl) (by kernel_rfl) (by kernel_rfl) (fun _ _ _ h => h) (Or.inl ⟨by rfl, ?_⟩) (by assumption) ?_
          rotate_left
          · (intro w hSw; (try dsimp only at hSw); first | (go_simp; done) | (go_simp; with_reducible rfl))
          try simp only [Act.put, List.setIfInBounds_toArray, List.set_cons_zero, List.set_cons_succ]
          refine wpAnyH_take (i := 32) (oi := { dst := some 69, op := Op.move (Operand.tmp 68), type := 4, pos := "law.go:175", after := #[{ on := 31, ground := Ground.data }, { on := 17, ground := Ground.chain }], guard := none }) (v := ?_) rfl (by kernel_rfl) (by kernel_rfl) (by kernel_rfl) (fun _ _ _ h => h) (Or.inl ⟨by rfl, ?_⟩) (by assumption) ?_
          rotate_left
          · (intro w hSw; (try dsimp only at hSw); first | (go_simp; done) | (go_simp; with_reducible rfl))
          try simp only [Act.put, List.setIfInBounds_toArray, List.set_cons_zero, List.set_cons_succ]
          refine wpAnyH_take (i := 33) (oi := { dst := some 70, op := Op.move (Operand.tmp 6), type := 22, pos := "law.go:175", after := #[{ on := 32, ground := Ground.guard }], guard := some (32, false) }) (v := ?_) rfl (by kernel_rfl) (by kernel_rfl) (by kernel_rfl) (fun _ _ _ h => h) (Or.inl ⟨by rfl, ?_⟩) (by assumption) ?_
          rotate_left
          · (intro w hSw; (try dsimp only at hSw); first | (go_simp; done) | (go_simp; with_reducible rfl))
          try simp only [Act.put, List.setIfInBounds_toArray, List.set_cons_zero, List.set_cons_succ]
          refine wpAnyH_take (i := 34) (oi := { dst := some 71, op := Op.move (Operand.tmp 8), type := 27, pos := "law.go:175", after := #[{ on := 32, ground := Ground.guard }], guard := some (32, false) }) (v := ?_) rfl (by kernel_rfl) (by kernel_rfl) (by kernel_rfl) (fun _ _ _ h => h) (Or.inl ⟨by rfl, ?_⟩) (by assumption) ?_
          rotate_left
          · (intro w hSw; (try dsimp only at hSw); first | (go_simp; done) | (go_simp; with_reducible rfl))
          try simp only [Act.put, List.setIfInBounds_toArray, List.set_cons_zero, List.set_cons_succ]
          refine wpAnyH_take (i := 35) (oi := { dst := some 72, op := Op.move (Operand.tmp 9), type := 3, pos := "law.go:175", after := #[{ on := 32, ground := Ground.guard }], guard := some (32, false) }) (v := ?_) rfl (by kernel_rfl) (by kernel_rfl) (by kernel_rfl) (fun _ _ _ h => h) (Or.inl ⟨by rfl, ?_⟩) (by assumption) ?_
          rotate_left
          · (intro w hSw; (try dsimp only at hSw); first | (go_simp; done) | (go_simp; with_reducible rfl))
          try simp only [Act.put, List.setIfInBounds_toArray, List.set_cons_zero, List.set_cons_succ]
          refine wpAnyH_take (i := 36) (oi := { dst := some 73, op := Op.indexAddr 27 (Operand.tmp 71) (Operand.tmp 72), type := 0, pos := "law.go:175", after := #[{ on := 34, ground := Ground.data }, { on := 35, ground := Ground.data }, { on := 32, ground := Ground.guard }], guard := some (32, false) }) (v := ?_) rfl (by kernel_rfl) (by kernel_rfl) (by kernel_rfl) (fun _ _ _ h => h) (Or.inl ⟨by rfl, ?_⟩) (by assumption) ?_
          rotate_left
          · (intro w hSw; (try dsimp only at hSw); first | (go_simp; done) | (go_simp; with_reducible rfl))
          try simp only [Act.put, List.setIfInBounds_toArray, List.set_cons_zero, List.set_cons_succ]
          refine wpAnyH_take (i := 37) (oi := { dst := some 74, op := Op.load 36 (Operand.tmp 73), type := 36, pos := "law.go:175", after := #[{ on := 36, ground := Ground.data }, { on := 32, ground := Ground.guard }], guard := some (32, false) }) (v := ?_) rfl (by kernel_rfl) (by kernel_rfl) (by kernel_rfl) (fun _ _ _ h => h) (Or.inl ⟨by rfl, ?_⟩) (by assumption) ?_
          rotate_left
          · (intro w hSw; (try dsimp only at hSw); first | (go_simp; done) | (go_simp; with_reducible rfl))
          try simp only [Act.put, List.setIfInBounds_toArray, List.set_cons_zero, List.set_cons_succ]
          refine wpAnyH_ready (rs := [38]) (by kernel_rfl) (by simp) ?_
          refine AllReadyH.cons (o := { dst := some 75, op := Op.call { callee := Callee.value (Operand.func 21), args := #[Operand.tmp 70, Operand.tmp 74], argTypes := #[22, 36] }, type := 4, pos := "law.go:175", after := #[{ on := 33, ground := Ground.data }, { on := 37, ground := Ground.data }, { on := 32, ground := Ground.chain }, { on := 32, ground := Ground.guard }], guard := some (32, false) }) rfl (fun K hK => ?_) AllReadyH.nil
          go_simp
          refine (HH.out _ HS101.out).mono ?_
          rintro r w102 ⟨rfl, hb⟩
          skip
          have HS102 := Lib.hid hb
          have HB102 := Lib.hid (HB101.out.trans hb)
          clear hb
          dsimp only
          refine hK.out _ _ (HSS.out _ (HS101.out.trans HS102.out)) (fun hHeld => ?_)
          clear hK K
          try simp only [Act.put, List.setIfInBounds_toArray, List.set_cons_zero, List.set_cons_succ]
          refine wpAnyH_take (i := 39) (oi := { dst := some 76, op := Op.unOp UnOp.not 4 (Operand.tmp 75), type := 4, pos := "law.go:175", after := #[{ on := 38, ground := Ground.data }, { on := 32, ground := Ground.guard }], guard := some (32, false) }) (v := ?_) rfl (by kernel_rfl) (by kernel_rfl) (by kernel_rfl) (fun _ _ _ h => h) (Or.inl ⟨by rfl, ?_⟩) (by assumption) ?_
          rotate_left
          · (intro w hSw; (try dsimp only at hSw); first | (go_simp; done) | (go_simp; with_reducible rfl))
          try simp only [Act.put, List.setIfInBounds_toArray, List.set_cons_zero, List.set_cons_succ]
          refine wpAnyH_take (i := 40) (oi := { dst := some 77, op := Op.pick (Operand.tmp 69) (Operand.const (Value.bool true)) (Operand.tmp 76), type := 4, pos := "law.go:175", after := #[{ on := 32, ground := Ground.data }, { on := 39, ground := Ground.data }], guard := none }) (v := ?_) rfl (by kernel_rfl) (by kernel_rfl) (by kernel_rfl) (fun _ _ _ h => h) (Or.inl ⟨by rfl, ?_⟩) (by assumption) ?_
          rotate_left
          · (intro w hSw; (try dsimp only at hSw); first | (go_simp; done) | (go_simp; with_reducible rfl))
          try simp only [Act.put, List.setIfInBounds_toArray, List.set_cons_zero, List.set_cons_succ]
          refine wpAnyH_done (by kernel_rfl) ?_ _
          clear hHeld
          go_wp2_with (fail)
          have HNI := Lib.hid (HE0.out.bel (HWI.out.trans (HS101.out.trans HS102.out)))
          have HVI := Lib.hid (HVR.out.bel (HS101.out.trans HS102.out))
          have HCI := Lib.hid (cl12 (HWI.out.trans (HS101.out.trans HS102.out)) HCELL.out)
          have HEI := Lib.hid (HSS.out _ (HS101.out.trans HS102.out))
          clear HSS
          go_loopw [10] (fun kv x => ∃ k : Nat, k ≤ N.length ∧ kv = .int .i64 k ∧ Bel w102 x) (fun kv _ => N.length - (intOf kv).toNat)
          case atStart => exact ⟨0, Nat.zero_le _, rfl, Bel.refl _⟩
          case round =>
            obtain ⟨k, hk, rfl, hw2⟩ := hrel
            have HW2 := Lib.hid hw2
            have hcr := cl12 hw2 HCI.out
            by_cases hkl : k < N.length
            · obtain ⟨a2, ha2, -⟩ := (HNI.out.bel hw2) k hkl
              subst ha2
              obtain ⟨B2, O2, sp2, ha3, t0, t1, t2, t3⟩ := ent_at12 (HNI.out.bel hw2) hkl
              have u0 := cl12 hw2 HEI.out.1.1
              have u1 := cl12 hw2 HEI.out.1.2.1
              have HBN := Lib.hid (fun (hkk : N[k].k.data.toList = e0.k.data.toList) (hqq : N[k].q ≤ s) => (newB_iff.1 HNB.out).2 _ (List.getElem_mem hkl) hkk hqq)
              have hki : (k : Int) < (N.length : Int) := by omega
              generalize N[k] = e1 at *
              clear hw2
              cases hkey : (e1.k.toList == e0.k.toList) with
              | false =>
                clear HBN
                go_wp2_with (fail)
                go_quiet (fail)
                go_wp2_with (fail)
                go_roundw
                case rel => exact ⟨k + 1, hkl, by go_num, HW2.out.drewN nq⟩
                case measure => simp [intOf]; omega
              | true =>
                have hke : e1.k.data.toList = e0.k.data.toList := by rw [beq_iff_eq, ByteArray.toList_eq, ByteArray.toList_eq] at hkey; exact hkey
                by_cases hq1 : e0.q < e1.q
                · have hqd : decide (e0.q < e1.q) = true := decide_eq_true hq1
                  have hqs : decide (e1.q ≤ s) = false := decide_eq_false (fun h => by have := HBN.out hke h; omega)
                  clear HBN hke
                  go_wp2_with (fail)
                  go_quiet (fail)
                  go_wp2_with (fail)
                  go_roundw
                  case rel => exact ⟨k + 1, hkl, by go_num, HW2.out.drewN nq⟩
                  case measure => simp [intOf]; omega
                · have hqd : decide (e0.q < e1.q) = false := decide_eq_false hq1
                  clear HBN hke
                  go_wp2_with (fail)
                  go_quiet (fail)
                  go_wp2_with (fail)
                  go_roundw
                  case rel => exact ⟨k + 1, hkl, by go_num, HW2.out.drewN nq⟩
                  case measure => simp [intOf]; omega
            · obtain rfl : k = N.length := by omega
              have hki : ¬ (N.length : Int) < (N.length : Int) := by omega
              clear hw2
              go_wp2_with (fail)
              go_roundw
              case rel => exact ⟨m + 1 + 1, hil, by go_num, (HW.out.trans (HS101.out.trans HS102.out)).trans HW2.out⟩
              case measure => simp [intOf]; omega
      · obtain rfl : i = V.length := by omega
        have hii : ¬ (V.length : Int) < (V.length : Int) := by omega
        clear hw
        go_wp2_with (fail)
        refine (KG.vis_is pt ct V V s wr HV2.out (KG.okBel HOK.out HBR.out) HVR.out HCt.out HVS.out (by omega) HVF.out).mono ?_
        rintro r w201 ⟨px, cx, rfl, he, hcp, hb⟩
        have HS201 := Lib.hid hb
        have HB201 := Lib.hid (HBR.out.trans hb)
        have HEx := Lib.hid (show ∀ z, Bel w201 z → EntsAt z px (V) from fun z hz => he.bel hz)
        have HCx := Lib.hid hcp
        clear he hb
        go_wp2_with (fail)
        refine (same12_any px pt cx ct V w201 (HEx.out _ (Bel.refl w201)) (HVR.out.bel HS201.out) (by omega)).mono ?_
        rintro r w202 ⟨rfl, hb⟩
        replace hb := hb.bel
        have HS202 := Lib.hid hb
        have HB202 := Lib.hid (HB201.out.trans hb)
        clear hb
        have hcr := cl12 (HWI.out.trans (HS201.out.trans HS202.out)) HCELL.out
        go_wp2_with (fail)
        refine (KG.vis_is p0 c0 N [] (-1) w202 HVN.out (KG.okBel HOK.out HB202.out) (HE0.out.bel (HWI.out.trans (HS201.out.trans HS202.out))) HC0.out HGD.out.srt (by omega) HGD.out.fits).mono ?_
        rintro r w203 ⟨py, cy, rfl, he, hcp, hb⟩
        have HS203 := Lib.hid hb
        have HB203 := Lib.hid (HB202.out.trans hb)
        have HEy := Lib.hid (show ∀ z, Bel w203 z → EntsAt z py ([]) from fun z hz => he.bel hz)
        have HCy := Lib.hid hcp
        clear he hb
        go_wp2_with (fail)
        go_ret
        exact ⟨rfl, HB203.out⟩
  · go_wp2_with (fail)
    go_ret
    exact ⟨rfl, HB2.out⟩
end Go.Proofs.Ytmdkpomgckkllaa
/- The law MergeNeeds over the program's contracts. -/
set_option maxRecDepth 100000
namespace Go.Proofs.Ytmdkpomgckkllaa
open Go.RowKit Go.Deep

theorem wrap12 (i : Nat) (h : i ≤ 100000) : IntKind.i64.wrap ((i : Int) + 1) = (i : Int) + 1 := by rw [IntKind.wrap_i64]; omega
theorem wrap12' (i : Nat) (h : i ≤ 100000) : wrap64 ((i : Int) + 1) = (i : Int) + 1 := by rw [IntWalk.wrap64_in _ ⟨by omega, by omega⟩]
theorem need_end {N : List EB} {S : List Int} {last : Bool} (hN : Srt N) (hl : last = true) (i : Nat) (hi : i < (thinL S last N).length) (hne : ∀ (h : i + 1 < (thinL S last N).length), (thinL S last N)[i + 1].k.data.toList ≠ (thinL S last N)[i].k.data.toList) : (thinL S last N)[i].d = false := by
  subst hl
  obtain ⟨T, hT⟩ : ∃ T, T = thinL S true N := ⟨_, rfl⟩
  have hTs : Srt T := by rw [hT]; exact thin_srt hN
  have hd : T.drop i = T[i]'(by rw [hT]; exact hi) :: T.drop (i + 1) := List.drop_eq_getElem_cons _
  have hs : thinL S true N = T.take i ++ T[i]'(by rw [hT]; exact hi) :: T.drop (i + 1) := by rw [← hd, List.take_append_drop, hT]
  have key : ∀ c ∈ T.drop (i + 1), c.k.data.toList ≠ (T[i]'(by rw [hT]; exact hi)).k.data.toList := by
    intro c hc hk
    obtain ⟨j, hj, rfl⟩ := List.getElem_of_mem hc
    rw [List.length_drop] at hj
    rw [List.getElem_drop] at hk
    have hi1 : i + 1 < T.length := by omega
    have hne' : T[i + 1].k.data.toList ≠ (T[i]'(by omega)).k.data.toList := by
      have := hne (by rw [← hT]; exact hi1)
      subst hT
      exact this
    have hp := List.pairwise_iff_getElem.1 hTs
    by_cases hj0 : j = 0
    · subst hj0
      exact hne' hk
    · have h1 := hp i (i + 1) (by omega) hi1 (by omega)
      have h2 := hp (i + 1) (i + 1 + j) hi1 (by omega) (by omega)
      unfold lessB at h1 h2
      rw [Bool.or_eq_true, Bool.and_eq_true, beq_iff_eq] at h1 h2
      rcases h1 with h1 | ⟨h1, _⟩
      · rcases h2 with h2 | ⟨h2, _⟩
        · have := less_trans h1 h2
          rw [hk, less_irrefl] at this; cases this
        · rw [h2, hk, less_irrefl] at h1; cases h1
      · exact hne' h1.symm
  have := thin_end hN hs key
  subst hT
  exact this
set_option maxHeartbeats 8000000 in
theorem law_needs12 {KG : GK} (p qs : Option Addr) (cap cs : Nat) (L : List EB) (S : List Int) (last : Bool) (w : World) (hok : KG.Ok w) (hE : EntsAt w p L) (hcap : L.length ≤ cap) (hLl : L.length ≤ 9223372036854775807) (hLf : fitsL L) (hI : IntsAt12 w qs S) (hSl : S.length ≤ 9223372036854775807) :
    Calls Try.prog 8 #[.slice p L.length cap, .slice qs S.length cs, .bool last] w fun r w' => r = .returned (.bool true) ∧ Bel w w' := by
  have HOK := Lib.hid hok; have HE := Lib.hid hE; have HLF := Lib.hid hLf
  have HI := Lib.hid hI
  clear hok hE hLf hI
  go_enter Try.func8, Try.ntmps8
  go_wp2_with (fail)
  refine (shown12_any w HOK.out).mono ?_
  rintro r w1 ⟨rfl, hb⟩
  have HB1 := Lib.hid hb
  clear hb
  have HAL := Lib.hid ((Bel.refl w1).alloc (.cells #[.slice p L.length cap] 27))
  have HRW := Lib.hid (lrows_any (some ⟨w1.heap.size, 0, none⟩) 1 [L] (w1.alloc (.cells #[.slice p L.length cap] 27)) (rows_lit1 (tnew12 w1 _) rfl ((HE.out.bel HB1.out).bel HAL.out) hcap) (by simp) (fun M hM => by rw [List.mem_singleton] at hM; subst hM; exact ⟨hLl, HLF.out⟩))
  go_wp2_with (fail)
  refine HRW.out.mono ?_
  rintro r w2 ⟨hb, hcase⟩
  have HB2 := Lib.hid ((HB1.out.trans HAL.out).trans hb)
  clear hb HRW HAL
  rcases hcase with ⟨hrw, q2, c2, rfl, hcc, hrr⟩ | ⟨v, rfl⟩
  · have hgd0 : Good12 (mergeB L) := good_merge (hrw.2 L (by simp)) HLF.out
    obtain ⟨N, hN⟩ : ∃ N, N = mergeB L := ⟨_, rfl⟩
    rw [show [L].map mergeB = [mergeB L] from rfl] at hrr
    rw [← hN] at hgd0 hrr
    rw [show [L].length = 1 from rfl] at hcc ⊢
    have HRR := Lib.hid hrr
    have HGD := Lib.hid hgd0
    have hN60 := hgd0.len
    obtain ⟨a0, p0, c0, rfl, hcell, he0, hc0⟩ := hrr 0 (by simp)
    rw [show a0.add 0 = a0 from rfl] at hcell
    obtain ⟨B0, O0, sp0⟩ := a0
    have HE0 := Lib.hid (show EntsAt w2 p0 N from he0)
    have HC0 := Lib.hid (show N.length ≤ c0 from hc0)
    have hcell' : w2.cell? ⟨B0, O0, sp0⟩ = some (.slice p0 N.length c0) := hcell
    have HCELL := Lib.hid hcell'
    have HQ62 := Lib.hid (show ∀ e ∈ N, e.q ≤ 4611686018427387904 from fun e he => by have := (hgd0.low e he).1; omega)
    have HFN := Lib.hid (show ∀ e ∈ N, e ∈ [N].flatten from fun e he => by simpa using he)
    clear hrw hrr hgd0 he0 hcell hc0 hN
    by_cases hS20 : S.length ≤ 20
    · have hS20' : (S.length : Int) ≤ 20 := by omega
      have hcell2 := HCELL.out
      go_wp2_with (fail)
      refine (KG.thin p0 qs c0 cs N S last w2 (KG.okBel HOK.out HB2.out) HE0.out HC0.out (HI.out.bel HB2.out) HGD.out.srt (by omega) hS20 HGD.out.fits HQ62.out).mono ?_
      rintro r w3 ⟨pt, ct, rfl, he, hcp, hb⟩
      have HS3 := Lib.hid hb
      have HB3 := Lib.hid (HB2.out.trans hb)
      have HEt := Lib.hid (show ∀ z, Bel w3 z → EntsAt z pt (thinL S last N) from fun z hz => he.bel hz)
      have HCt := Lib.hid hcp
      clear he hb
      have htl : (thinL S last N).length ≤ N.length := (thin_sublist S last N).length_le
      have HTM := Lib.hid (show ∀ e ∈ thinL S last N, (newB N 1125899906842624 e || S.any (fun s => newB N s e)) = true from fun e he => by
        have h := (thin_sub e he).2
        have h62 : newB N 4611686018427387904 e = true → newB N 1125899906842624 e = true := fun hn => by
          rw [newB_iff] at hn ⊢
          exact ⟨by have := (HGD.out.low e (thin_sub e he).1).1; omega, fun c hc hk _ => hn.2 c hc hk (HQ62.out c hc)⟩
        unfold needB at h
        rw [Bool.or_eq_true] at h ⊢
        exact h.imp h62 id)
      have HTE := Lib.hid (show ∀ (i : Nat) (hi : i < (thinL S last N).length), last = true → (∀ (h : i + 1 < (thinL S last N).length), (thinL S last N)[i + 1].k.data.toList ≠ (thinL S last N)[i].k.data.toList) → (thinL S last N)[i].d = false from fun i hi hl hne => need_end HGD.out.srt hl i hi hne)
      obtain ⟨T, hT⟩ : ∃ T, T = thinL S last N := ⟨_, rfl⟩
      rw [← hT] at HTM HTE htl HEt HCt ⊢
      clear hT hcell2 hcell'
      go_wp2_with (fail)
      go_loopw [11] (fun iv x => ∃ i : Nat, i ≤ T.length ∧ iv = .int .i64 i ∧ Bel w3 x) (fun iv _ => T.length - (intOf iv).toNat)
      case atStart => exact ⟨0, Nat.zero_le _, rfl, Bel.refl _⟩
      case round =>
        obtain ⟨i, hi, rfl, hw⟩ := hrel
        have HW := Lib.hid hw
        have HWI := Lib.hid (HS3.out.trans hw)
        have HBR := Lib.hid (HB3.out.trans hw)
        have HTR := Lib.hid (HEt.out _ hw)
        have hcr := cl12 HWI.out HCELL.out
        by_cases hil : i < T.length
        · obtain ⟨a, ha0, -⟩ := HTR.out i hil
          subst ha0
          obtain ⟨B, O, sp, ha, z0, z1, z2, z3⟩ := ent_at12 HTR.out hil
          have HTMi := Lib.hid (HTM.out _ (List.getElem_mem hil))
          have HTEi := Lib.hid (HTE.out i hil)
          have HNXT := Lib.hid (show ∀ (z : World), EntsAt z (some a) T → ∀ (h : i + 1 < T.length), ∃ B3 O3 sp3, a.add ((i + 1) * 4) = ⟨B3, O3, sp3⟩ ∧ z.cell? ⟨B3, O3, sp3⟩ = some (.string T[i + 1].k) from fun z hz h => by
            obtain ⟨B3, O3, sp3, h1, h2, -⟩ := ent_at12 hz h
            exact ⟨B3, O3, sp3, h1, h2⟩)
          have hii : (i : Int) < (T.length : Int) := by omega
          generalize hve : T[i] = e0 at *
          clear hw hve
          go_wp2_with (fail)
          have HSS := Lib.hid (show ∀ z, Bel wr z → (z.cell? ⟨B, O, sp⟩ = some (.string e0.k) ∧ z.cell? ⟨B, O + 1, none⟩ = some (.int .i64 e0.q) ∧ z.cell? ⟨B, O + 2, none⟩ = some (.bool e0.d) ∧ z.cell? ⟨B, O + 3, none⟩ = some (.string e0.v)) ∧ z.cell? ⟨B0, O0, sp0⟩ = some (.slice p0 N.length c0) from fun z hz => ⟨⟨cl12 hz z0, cl12 hz z1, cl12 hz z2, cl12 hz z3⟩, cl12 hz hcr⟩)
          go_wp2_with (fail)
          refine wp_region_held_drew (S := fun z => (z.cell? ⟨B, O, sp⟩ = some (.string e0.k) ∧ z.cell? ⟨B, O + 1, none⟩ = some (.int .i64 e0.q) ∧ z.cell? ⟨B, O + 2, none⟩ = some (.bool e0.d) ∧ z.cell? ⟨B, O + 3, none⟩ = some (.string e0.v)) ∧ z.cell? ⟨B0, O0, sp0⟩ = some (.slice p0 N.length c0)) (by kernel_rfl) (HSS.out _ (Bel.refl wr).drew) (fun hHeld => ?_)
          obtain ⟨w101, hw⟩ : ∃ z, z = World.drew wr := ⟨_, rfl⟩
          have hb : Bel wr w101 := by rw [hw]; exact (Bel.refl _).drew
          rw [← hw] at hHeld ⊢
          clear hw
          have HS101 := Lib.hid hb
          have HB101 := Lib.hid (HBR.out.trans hb)
          clear hb
          refine wpAnyH_take (i := 0) (oi := { dst := some 46, op := Op.move (Operand.tmp 8), type := 22, pos := "more.go:17", after := #[], guard := none }) (v := ?_) rfl (by kernel_rfl) (by kernel_rfl) (by kernel_rfl) (fun _ _ _ h => h) (Or.inl ⟨by rfl, ?_⟩) (by assumption) ?_
          rotate_left
          · (intro w hSw; (try dsimp only at hSw); first | (go_simp; done) | (go_simp; with_reducible rfl))
          try simp only [Act.put, List.setIfInBounds_toArray, List.set_cons_zero, List.set_cons_succ]
          refine wpAnyH_take (i := 1) (oi := { dst := some 47, op := Op.indexAddr 22 (Operand.tmp 46) (Operand.const (Value.int IntKind.i64 0)), type := 0, pos := "more.go:17", after := #[{ on := 0, ground := Ground.data }], guard := none }) (v := ?_) rfl (by kernel_rfl) (by kernel_rfl) (by kernel_rfl) (fun _ _ _ h => h) (Or.inl ⟨by rfl, ?_⟩) (by assumption) ?_
          rotate_left
          · (intro w hSw; (try dsimp only at hSw); first | (go_simp; done) | (go_simp; with_reducible rfl))
          try simp only [Act.put, List.setIfInBounds_toArray, List.set_cons_zero, List.set_cons_succ]
          refine wpAnyH_take (i := 2) (oi := { dst := some 48, op := Op.load 27 (Operand.tmp 47), type := 27, pos := "more.go:17", after := #[{ on := 1, ground := Ground.data }], guard := none }) (v := ?_) rfl (by kernel_rfl) (by kernel_rfl) (by kernel_rfl) (fun _ _ _ h => h) (Or.inl ⟨by rfl, ?_⟩) (by assumption) ?_
          rotate_left
          · (intro w hSw; (try dsimp only at hSw); first | (go_simp; done) | (go_simp; with_reducible rfl))
          try simp only [Act.put, List.setIfInBounds_toArray, List.set_cons_zero, List.set_cons_succ]
          refine wpAnyH_take (i := 3) (oi := { dst := some 49, op := Op.move (Operand.tmp 10), type := 27, pos := "more.go:17", after := #[], guard := none }) (v := ?_) rfl (by kernel_rfl) (by kernel_rfl) (by kernel_rfl) (fun _ _ _ h => h) (Or.inl ⟨by rfl, ?_⟩) (by assumption) ?_
          rotate_left
          · (intro w hSw; (try dsimp only at hSw); first | (go_simp; done) | (go_simp; with_reducible rfl))
          try simp only [Act.put, List.setIfInBounds_toArray, List.set_cons_zero, List.set_cons_succ]
          refine wpAnyH_take (i := 4) (oi := { dst := some 50, op := Op.move (Operand.tmp 11), type := 3, pos := "more.go:17", after := #[], guard := none }) (v := ?_) rfl (by kernel_rfl) (by kernel_rfl) (by kernel_rfl) (fun _ _ _ h => h) (Or.inl ⟨by rfl, ?_⟩) (by assumption) ?_
          rotate_left
          · (intro w hSw; (try dsimp only at hSw); first | (go_simp; done) | (go_simp; with_reducible rfl))
          try simp only [Act.put, List.setIfInBounds_toArray, List.set_cons_zero, List.set_cons_succ]
          refine wpAnyH_take (i := 5) (oi := { dst := some 51, op := Op.indexAddr 27 (Operand.tmp 49) (Operand.tmp 50), type := 0, pos := "more.go:17", after := #[{ on := 3, ground := Ground.data }, { on := 4, ground := Ground.data }], guard := none }) (v := ?_) rfl (by kernel_rfl) (by kernel_rfl) (by kernel_rfl) (fun _ _ _ h => h) (Or.inl ⟨by rfl, ?_⟩) (by assumption) ?_
          rotate_left
          · (intro w hSw; (try dsimp only at hSw); first | (go_simp; done) | (go_simp; with_reducible rfl))
          try simp only [Act.put, List.setIfInBounds_toArray, List.set_cons_zero, List.set_cons_succ]
          refine wpAnyH_take (i := 6) (oi := { dst := some 52, op := Op.load 36 (Operand.tmp 51), type := 36, pos := "more.go:17", after := #[{ on := 5, ground := Ground.data }], guard := none }) (v := ?_) rfl (by kernel_rfl) (by kernel_rfl) (by kernel_rfl) (fun _ _ _ h => h) (Or.inl ⟨by rfl, ?_⟩) (by assumption) ?_
          rotate_left
          · (intro w hSw; (try dsimp only at hSw); first | (go_simp; done) | (go_simp; with_reducible rfl))
          try simp only [Act.put, List.setIfInBounds_toArray, List.set_cons_zero, List.set_cons_succ]
          refine wpAnyH_ready (rs := [7]) (by kernel_rfl) (by simp) ?_
          refine AllReadyH.cons (o := { dst := some 53, op := Op.call { callee := Callee.value (Operand.func 23), args := #[Operand.tmp 48, Operand.tmp 52, Operand.const (Value.int IntKind.i64 1125899906842624)], argTypes := #[27, 36, 3] }, type := 4, pos := "more.go:17", after := #[{ on := 2, ground := Ground.data }, { on := 6, ground := Ground.data }], guard := none }) rfl (fun K hK => ?_) AllReadyH.nil
          go_simp
          refine (lnewest_any p0 c0 N e0 1125899906842624 w101 (HE0.out.bel (HWI.out.trans HS101.out)) (by omega)).mono ?_
          rintro r w102 ⟨rfl, hb⟩
          skip
          have HS102 := Lib.hid hb
          have HB102 := Lib.hid (HB101.out.trans hb)
          clear hb
          dsimp only
          refine hK.out _ _ (HSS.out _ (HS101.out.trans HS102.out)) (fun hHeld => ?_)
          clear hK K
          try simp only [Act.put, List.setIfInBounds_toArray, List.set_cons_zero, List.set_cons_succ]
          refine wpAnyH_take (i := 8) (oi := { dst := some 12, op := Op.assign (Operand.tmp 53), type := 4, pos := "more.go:17", after := #[{ on := 7, ground := Ground.data }, { on := 7, ground := Ground.chain }, { on := 0, ground := Ground.phase }, { on := 1, ground := Ground.phase }, { on := 2, ground := Ground.phase }, { on := 3, ground := Ground.phase }, { on := 4, ground := Ground.phase }, { on := 5, ground := Ground.phase }, { on := 6, ground := Ground.phase }, { on := 7, ground := Ground.phase }], guard := none }) (v := ?_) rfl (by kernel_rfl) (by kernel_rfl) (by kernel_rfl) (fun _ _ _ h => h) (Or.inl ⟨by rfl, ?_⟩) (by assumption) ?_
          rotate_left
          · (intro w hSw; (try dsimp only at hSw); first | (go_simp; done) | (go_simp; with_reducible rfl))
          try simp only [Act.put, List.setIfInBounds_toArray, List.set_cons_zero, List.set_cons_succ]
          refine wpAnyH_done (by kernel_rfl) ?_ _
          clear hHeld
          go_wp2_with (fail)
          have HC9 := Lib.hid (HSS.out _ (HS101.out.trans HS102.out))
          have HT9 := Lib.hid (HTR.out.bel (HS101.out.trans HS102.out))
          have hcr9 := HC9.out.2
          clear HSS z0 z1 z2 z3
          obtain ⟨nd0, hnd0⟩ : ∃ nd0, nd0 = newB N 1125899906842624 e0 := ⟨_, rfl⟩
          rw [← hnd0] at HTMi ⊢
          clear hnd0
          go_loopw [12, 13] (fun nv jv x => ∃ m : Nat, m ≤ S.length ∧ jv = .int .i64 m ∧ nv = .bool (nd0 || (S.take m).any (fun s => newB N s e0)) ∧ Bel w102 x) (fun _ jv _ => S.length - (intOf jv).toNat)
          case atStart => exact ⟨0, Nat.zero_le _, rfl, by simp, Bel.refl _⟩
          case round =>
            obtain ⟨m, hm, rfl, rfl, hw2⟩ := hrel
            have HW2 := Lib.hid hw2
            have HBQ := Lib.hid (HB102.out.trans hw2)
            have q0 := cl12 hw2 HC9.out.1.1
            have q1 := cl12 hw2 HC9.out.1.2.1
            have q2 := cl12 hw2 HC9.out.1.2.2.1
            have q3 := cl12 hw2 HC9.out.1.2.2.2
            have hcr2 := cl12 hw2 HC9.out.2
            by_cases hml : m < S.length
            · obtain ⟨B1, O1, sp1, a1, ha1, hb1, y0⟩ := ints_at12 (HI.out.bel HBQ.out) hml
              have HSN := Lib.hid (show (S.take (m + 1)).any (fun s => newB N s e0) = ((S.take m).any (fun s => newB N s e0) || newB N S[m] e0) by
                rw [List.take_add_one, List.getElem?_eq_getElem hml, Option.toList_some, List.any_append]; simp)
              subst ha1
              have hmi : (m : Int) < (S.length : Int) := by omega
              generalize S[m] = s0 at *
              generalize (S.take m).any (fun s => newB N s e0) = an at *
              clear hw2
              cases hn : (nd0 || an) with
              | true =>
                have HR := Lib.hid (show (nd0 || (an || newB N s0 e0)) = true by rw [← Bool.or_assoc, hn]; rfl)
                go_wp2_with (fail)
                go_quiet (fail)
                go_wp2_with (fail)
                go_roundw
                case rel => exact ⟨m + 1, hml, by go_num, by rw [HSN.out, HR.out], HW2.out.drewN nq⟩
                case measure => simp [intOf]; omega
              | false =>
                have HR := Lib.hid (show (nd0 || (an || newB N s0 e0)) = newB N s0 e0 by rw [← Bool.or_assoc, hn]; rfl)
                go_wp2_with (fail)
                have HSS := Lib.hid (show ∀ z, Bel wr z → (z.cell? ⟨B, O, sp⟩ = some (.string e0.k) ∧ z.cell? ⟨B, O + 1, none⟩ = some (.int .i64 e0.q) ∧ z.cell? ⟨B, O + 2, none⟩ = some (.bool e0.d) ∧ z.cell? ⟨B, O + 3, none⟩ = some (.string e0.v)) ∧ z.cell? ⟨B0, O0, sp0⟩ = some (.slice p0 N.length c0) ∧ z.cell? ⟨B1, O1, sp1⟩ = some (.int .i64 s0) from fun z hz => ⟨⟨cl12 hz q0, cl12 hz q1, cl12 hz q2, cl12 hz q3⟩, cl12 hz hcr2, cl12 hz y0⟩)
                go_wp2_with (fail)
                refine wp_region_held_drew (S := fun z => (z.cell? ⟨B, O, sp⟩ = some (.string e0.k) ∧ z.cell? ⟨B, O + 1, none⟩ = some (.int .i64 e0.q) ∧ z.cell? ⟨B, O + 2, none⟩ = some (.bool e0.d) ∧ z.cell? ⟨B, O + 3, none⟩ = some (.string e0.v)) ∧ z.cell? ⟨B0, O0, sp0⟩ = some (.slice p0 N.length c0) ∧ z.cell? ⟨B1, O1, sp1⟩ = some (.int .i64 s0)) (by kernel_rfl) (HSS.out _ (Bel.refl wr).drew) (fun hHeld => ?_)
                obtain ⟨w301, hw⟩ : ∃ z, z = World.drew wr := ⟨_, rfl⟩
                have hb : Bel wr w301 := by rw [hw]; exact (Bel.refl _).drew
                rw [← hw] at hHeld ⊢
                clear hw
                have HS301 := Lib.hid hb
                have HB301 := Lib.hid (HBQ.out.trans hb)
                clear hb
                refine wpAnyH_take (i := 0) (oi := { dst := some 60, op := Op.move (Operand.tmp 12), type := 4, pos := "more.go:19", after := #[], guard := none }) (v := ?_) rfl (by kernel_rfl) (by kernel_rfl) (by kernel_rfl) (fun _ _ _ h => h) (Or.inl ⟨by rfl, ?_⟩) (by assumption) ?_
                rotate_left
                · (intro w hSw; (try dsimp only at hSw); first | (go_simp; done) | (go_simp; with_reducible rfl))
                try simp only [Act.put, List.setIfInBounds_toArray, List.set_cons_zero, List.set_cons_succ]
                refine wpAnyH_take (i := 1) (oi := { dst := some 61, op := Op.move (Operand.tmp 60), type := 4, pos := "more.go:19", after := #[{ on := 0, ground := Ground.data }], guard := none }) (v := ?_) rfl (by kernel_rfl) (by kernel_rfl) (by kernel_rfl) (fun _ _ _ h => h) (Or.inl ⟨by rfl, ?_⟩) (by assumption) ?_
                rotate_left
                · (intro w hSw; (try dsimp only at hSw); first | (go_simp; done) | (go_simp; with_reducible rfl))
                try simp only [Act.put, List.setIfInBounds_toArray, List.set_cons_zero, List.set_cons_succ]
                refine wpAnyH_take (i := 2) (oi := { dst := some 62, op := Op.move (Operand.tmp 8), type := 22, pos := "more.go:19", after := #[{ on := 1, ground := Ground.guard }], guard := some (1, false) }) (v := ?_) rfl (by kernel_rfl) (by kernel_rfl) (by kernel_rfl) (fun _ _ _ h => h) (Or.inl ⟨by rfl, ?_⟩) (by assumption) ?_
                rotate_left
                · (intro w hSw; (try dsimp only at hSw); first | (go_simp; done) | (go_simp; with_reducible rfl))
                try simp only [Act.put, List.setIfInBounds_toArray, List.set_cons_zero, List.set_cons_succ]
                refine wpAnyH_take (i := 3) (oi := { dst := some 63, op := Op.indexAddr 22 (Operand.tmp 62) (Operand.const (Value.int IntKind.i64 0)), type := 0, pos := "more.go:19", after := #[{ on := 2, ground := Ground.data }, { on := 1, ground := Ground.guard }], guard := some (1, false) }) (v := ?_) rfl (by kernel_rfl) (by kernel_rfl) (by kernel_rfl) (fun _ _ _ h => h) (Or.inl ⟨by rfl, ?_⟩) (by assumption) ?_
                rotate_left
                · (intro w hSw; (try dsimp only at hSw); first | (go_simp; done) | (go_simp; with_reducible rfl))
                try simp only [Act.put, List.setIfInBounds_toArray, List.set_cons_zero, List.set_cons_succ]
                refine wpAnyH_take (i := 4) (oi := { dst := some 64, op := Op.load 27 (Operand.tmp 63), type := 27, pos := "more.go:19", after := #[{ on := 3, ground := Ground.data }, { on := 1, ground := Ground.guard }], guard := some (1, false) }) (v := ?_) rfl (by kernel_rfl) (by kernel_rfl) (by kernel_rfl) (fun _ _ _ h => h) (Or.inl ⟨by rfl, ?_⟩) (by assumption) ?_
                rotate_left
                · (intro w hSw; (try dsimp only at hSw); first | (go_simp; done) | (go_simp; with_reducible rfl))
                try simp only [Act.put, List.setIfInBounds_toArray, List.set_cons_zero, List.set_cons_succ]
                refine wpAnyH_take (i := 5) (oi := { dst := some 65, op := Op.move (Operand.tmp 10), type := 27, pos := "more.go:19", after := #[{ on := 1, ground := Ground.guard }], guard := some (1, false) }) (v := ?_) rfl (by kernel_rfl) (by kernel_rfl) (by kernel_rfl) (fun _ _ _ h => h) (Or.inl ⟨by rfl, ?_⟩) (by assumption) ?_
                rotate_left
                · (intro w hSw; (try dsimp only at hSw); first | (go_simp; done) | (go_simp; with_reducible rfl))
                try simp only [Act.put, List.setIfInBounds_toArray, List.set_cons_zero, List.set_cons_succ]
                refine wpAnyH_take (i := 6) (oi := { dst := some 66, op := Op.move (Operand.tmp 11), type := 3, pos := "more.go:19", after := #[{ on := 1, ground := Ground.guard }], guard := some (1, false) }) (v := ?_) rfl (by kernel_rfl) (by kernel_rfl) (by kernel_rfl) (fun _ _ _ h => h) (Or.inl ⟨by rfl, ?_⟩) (by assumption) ?_
                rotate_left
                · (intro w hSw; (try dsimp only at hSw); first | (go_simp; done) | (go_simp; with_reducible rfl))
                try simp only [Act.put, List.setIfInBounds_toArray, List.set_cons_zero, List.set_cons_succ]
                refine wpAnyH_take (i := 7) (oi := { dst := some 67, op := Op.indexAddr 27 (Operand.tmp 65) (Operand.tmp 66), type := 0, pos := "more.go:19", after := #[{ on := 5, ground := Ground.data }, { on := 6, ground := Ground.data }, { on := 1, ground := Ground.guard }], guard := some (1, false) }) (v := ?_) rfl (by kernel_rfl) (by kernel_rfl) (by kernel_rfl) (fun _ _ _ h => h) (Or.inl ⟨by rfl, ?_⟩) (by assumption) ?_
                rotate_left
                · (intro w hSw; (try dsimp only at hSw); first | (go_simp; done) | (go_simp; with_reducible rfl))
                try simp only [Act.put, List.setIfInBounds_toArray, List.set_cons_zero, List.set_cons_succ]
                refine wpAnyH_take (i := 8) (oi := { dst := some 68, op := Op.load 36 (Operand.tmp 67), type := 36, pos := "more.go:19", after := #[{ on := 7, ground := Ground.data }, { on := 1, ground := Ground.guard }], guard := some (1, false) }) (v := ?_) rfl (by kernel_rfl) (by kernel_rfl) (by kernel_rfl) (fun _ _ _ h => h) (Or.inl ⟨by rfl, ?_⟩) (by assumption) ?_
                rotate_left
                · (intro w hSw; (try dsimp only at hSw); first | (go_simp; done) | (go_simp; with_reducible rfl))
                try simp only [Act.put, List.setIfInBounds_toArray, List.set_cons_zero, List.set_cons_succ]
                refine wpAnyH_take (i := 9) (oi := { dst := some 69, op := Op.move (Operand.tmp 1), type := 23, pos := "more.go:19", after := #[{ on := 1, ground := Ground.guard }], guard := some (1, false) }) (v := ?_) rfl (by kernel_rfl) (by kernel_rfl) (by kernel_rfl) (fun _ _ _ h => h) (Or.inl ⟨by rfl, ?_⟩) (by assumption) ?_
                rotate_left
                · (intro w hSw; (try dsimp only at hSw); first | (go_simp; done) | (go_simp; with_reducible rfl))
                try simp only [Act.put, List.setIfInBounds_toArray, List.set_cons_zero, List.set_cons_succ]
                refine wpAnyH_take (i := 10) (oi := { dst := some 70, op := Op.move (Operand.tmp 13), type := 3, pos := "more.go:19", after := #[{ on := 1, ground := Ground.guard }], guard := some (1, false) }) (v := ?_) rfl (by kernel_rfl) (by kernel_rfl) (by kernel_rfl) (fun _ _ _ h => h) (Or.inl ⟨by rfl, ?_⟩) (by assumption) ?_
                rotate_left
                · (intro w hSw; (try dsimp only at hSw); first | (go_simp; done) | (go_simp; with_reducible rfl))
                try simp only [Act.put, List.setIfInBounds_toArray, List.set_cons_zero, List.set_cons_succ]
                refine wpAnyH_take (i := 11) (oi := { dst := some 71, op := Op.indexAddr 23 (Operand.tmp 69) (Operand.tmp 70), type := 0, pos := "more.go:19", after := #[{ on := 9, ground := Ground.data }, { on := 10, ground := Ground.data }, { on := 1, ground := Ground.guard }], guard := some (1, false) }) (v := ?_) rfl (by kernel_rfl) (by kernel_rfl) (by kernel_rfl) (fun _ _ _ h => h) (Or.inl ⟨by rfl, ?_⟩) (by assumption) ?_
                rotate_left
                · (intro w hSw; (try dsimp only at hSw); first | (go_simp; done) | (go_simp; with_reducible rfl))
                try simp only [Act.put, List.setIfInBounds_toArray, List.set_cons_zero, List.set_cons_succ]
                refine wpAnyH_take (i := 12) (oi := { dst := some 72, op := Op.load 3 (Operand.tmp 71), type := 3, pos := "more.go:19", after := #[{ on := 11, ground := Ground.data }, { on := 1, ground := Ground.guard }], guard := some (1, false) }) (v := ?_) rfl (by kernel_rfl) (by kernel_rfl) (by kernel_rfl) (fun _ _ _ h => h) (Or.inl ⟨by rfl, ?_⟩) (by assumption) ?_
                rotate_left
                · (intro w hSw; (try dsimp only at hSw); first | (go_simp; done) | (go_simp; with_reducible rfl))
                try simp only [Act.put, List.setIfInBounds_toArray, List.set_cons_zero, List.set_cons_succ]
                refine wpAnyH_ready (rs := [13]) (by kernel_rfl) (by simp) ?_
                refine AllReadyH.cons (o := { dst := some 73, op := Op.call { callee := Callee.value (Operand.func 23), args := #[Operand.tmp 64, Operand.tmp 68, Operand.tmp 72], argTypes := #[27, 36, 3] }, type := 4, pos := "more.go:19", after := #[{ on := 4, ground := Ground.data }, { on := 8, ground := Ground.data }, { on := 12, ground := Ground.data }, { on := 1, ground := Ground.chain }, { on := 1, ground := Ground.guard }], guard := some (1, false) }) rfl (fun K hK => ?_) AllReadyH.nil
                go_simp
                refine (lnewest_any p0 c0 N e0 s0 w301 (HE0.out.bel ((HWI.out.trans (HS101.out.trans HS102.out)).trans (HW2.out.trans HS301.out))) (by omega)).mono ?_
                rintro r w302 ⟨rfl, hb⟩
                skip
                have HS302 := Lib.hid hb
                have HB302 := Lib.hid (HB301.out.trans hb)
                clear hb
                dsimp only
                refine hK.out _ _ (HSS.out _ (HS301.out.trans HS302.out)) (fun hHeld => ?_)
                clear hK K
                try simp only [Act.put, List.setIfInBounds_toArray, List.set_cons_zero, List.set_cons_succ]
                refine wpAnyH_take (i := 14) (oi := { dst := some 74, op := Op.pick (Operand.tmp 61) (Operand.const (Value.bool true)) (Operand.tmp 73), type := 4, pos := "more.go:19", after := #[{ on := 1, ground := Ground.data }, { on := 13, ground := Ground.data }], guard := none }) (v := ?_) rfl (by kernel_rfl) (by kernel_rfl) (by kernel_rfl) (fun _ _ _ h => h) (Or.inl ⟨by rfl, ?_⟩) (by assumption) ?_
                rotate_left
                · (intro w hSw; (try dsimp only at hSw); first | (go_simp; done) | (go_simp; with_reducible rfl))
                try simp only [Act.put, List.setIfInBounds_toArray, List.set_cons_zero, List.set_cons_succ]
                refine wpAnyH_take (i := 15) (oi := { dst := some 12, op := Op.assign (Operand.tmp 74), type := 4, pos := "more.go:19", after := #[{ on := 14, ground := Ground.data }, { on := 13, ground := Ground.chain }, { on := 0, ground := Ground.phase }, { on := 1, ground := Ground.phase }, { on := 2, ground := Ground.phase }, { on := 3, ground := Ground.phase }, { on := 4, ground := Ground.phase }, { on := 5, ground := Ground.phase }, { on := 6, ground := Ground.phase }, { on := 7, ground := Ground.phase }, { on := 8, ground := Ground.phase }, { on := 9, ground := Ground.phase }, { on := 10, ground := Ground.phase }, { on := 11, ground := Ground.phase }, { on := 12, ground := Ground.phase }, { on := 13, ground := Ground.phase }, { on := 14, ground := Ground.phase }], guard := none }) (v := ?_) rfl (by kernel_rfl) (by kernel_rfl) (by kernel_rfl) (fun _ _ _ h => h) (Or.inl ⟨by rfl, ?_⟩) (by assumption) ?_
                rotate_left
                · (intro w hSw; (try dsimp only at hSw); first | (go_simp; done) | (go_simp; with_reducible rfl))
                try simp only [Act.put, List.setIfInBounds_toArray, List.set_cons_zero, List.set_cons_succ]
                refine wpAnyH_done (by kernel_rfl) ?_ _
                clear hHeld
                go_wp2_with (fail)
                go_roundw
                case rel => exact ⟨m + 1, hml, by go_num, by rw [HSN.out, HR.out], HW2.out.trans (HS301.out.trans HS302.out)⟩
                case measure => simp [intOf]; omega
            · obtain rfl : m = S.length := by omega
              have hmi : ¬ (S.length : Int) < (S.length : Int) := by omega
              have hnd : (nd0 || (S.take S.length).any (fun s => newB N s e0)) = true := by rw [List.take_length]; exact HTMi.out
              have HND := Lib.hid hnd
              clear hnd
              generalize (nd0 || (S.take S.length).any (fun s => newB N s e0)) = nd at *
              obtain rfl := HND.out
              have HTQ := Lib.hid (HT9.out.bel hw2)
              have hi10 : (0 : Int) ≤ (i : Int) + 1 := by omega
              have htn : ((i : Int) + 1).toNat = i + 1 := by omega
              clear hw2
              have HWR := Lib.hid (And.intro (wrap12 i (by omega)) (wrap12' i (by omega)))
              by_cases hie : i + 1 = T.length
              · have hieq : ((i : Int) + 1 == (T.length : Int)) = true := by rw [beq_iff_eq]; omega
                have HIE := Lib.hid hie
                clear hie
                cases last with
                | false =>
                  obtain ⟨hw1, hw64⟩ := HWR.out
                  go_wp2_with (fail)
                  go_quiet (fail)
                  go_wp2_with (fail)
                  clear hw1 hw64
                  go_roundw
                  case rel => exact ⟨i + 1, hil, by go_num, (HW.out.trans (HS101.out.trans HS102.out)).trans (HW2.out.drewN nq)⟩
                  case measure => simp [intOf]; omega
                | true =>
                  have hed : e0.d = false := HTEi.out rfl (fun h => absurd h (by have := HIE.out; omega))
                  rw [hed] at q2
                  clear hed
                  obtain ⟨hw1, hw64⟩ := HWR.out
                  go_wp2_with (fail)
                  go_quiet (fail)
                  go_wp2_with (fail)
                  clear hw1 hw64
                  go_roundw
                  case rel => exact ⟨i + 1, hil, by go_num, (HW.out.trans (HS101.out.trans HS102.out)).trans (HW2.out.drewN nq)⟩
                  case measure => simp [intOf]; omega
              · have hieq : ((i : Int) + 1 == (T.length : Int)) = false := by rw [beq_eq_false_iff_ne]; omega
                have hil1 : i + 1 < T.length := by omega
                have hii1 : (i : Int) + 1 < (T.length : Int) := by omega
                clear hie
                obtain ⟨B3, O3, sp3, hb3, v0⟩ := HNXT.out _ HTQ.out hil1
                have HTE2 := Lib.hid (show last = true → T[i + 1].k.data.toList ≠ e0.k.data.toList → e0.d = false from fun hl hne => HTEi.out hl (fun _ => hne))
                clear HTEi HNXT
                generalize T[i + 1].k = k1 at *
                cases hkey : (k1.toList == e0.k.toList) with
                | true =>
                  cases last with
                  | false =>
                    obtain ⟨hw1, hw64⟩ := HWR.out
                    go_wp2_with (fail)
                    go_quiet (fail)
                    go_wp2_with (fail)
                    clear hw1 hw64
                    go_roundw
                    case rel => exact ⟨i + 1, hil, by go_num, (HW.out.trans (HS101.out.trans HS102.out)).trans (HW2.out.drewN nq)⟩
                    case measure => simp [intOf]; omega
                  | true =>
                    obtain ⟨hw1, hw64⟩ := HWR.out
                    go_wp2_with (fail)
                    go_quiet (fail)
                    go_wp2_with (fail)
                    clear hw1 hw64
                    go_roundw
                    case rel => exact ⟨i + 1, hil, by go_num, (HW.out.trans (HS101.out.trans HS102.out)).trans (HW2.out.drewN nq)⟩
                    case measure => simp [intOf]; omega
                | false =>
                  have hkne : k1.data.toList ≠ e0.k.data.toList := by
                    rw [beq_eq_false_iff_ne, ByteArray.toList_eq, ByteArray.toList_eq] at hkey
                    exact hkey
                  cases last with
                  | false =>
                    obtain ⟨hw1, hw64⟩ := HWR.out
                    go_wp2_with (fail)
                    go_quiet (fail)
                    go_wp2_with (fail)
                    clear hw1 hw64
                    go_roundw
                    case rel => exact ⟨i + 1, hil, by go_num, (HW.out.trans (HS101.out.trans HS102.out)).trans (HW2.out.drewN nq)⟩
                    case measure => simp [intOf]; omega
                  | true =>
                    have hed : e0.d = false := HTE2.out rfl hkne
                    rw [hed] at q2
                    clear hed hkne
                    obtain ⟨hw1, hw64⟩ := HWR.out
                    go_wp2_with (fail)
                    go_quiet (fail)
                    go_wp2_with (fail)
                    clear hw1 hw64
                    go_roundw
                    case rel => exact ⟨i + 1, hil, by go_num, (HW.out.trans (HS101.out.trans HS102.out)).trans (HW2.out.drewN nq)⟩
                    case measure => simp [intOf]; omega
        · obtain rfl : i = T.length := by omega
          have hii : ¬ (T.length : Int) < (T.length : Int) := by omega
          clear hw
          go_wp2_with (fail)
          go_ret
          exact ⟨rfl, HBR.out⟩
    · have hS20' : ¬ (S.length : Int) ≤ 20 := by omega
      clear hcell'
      go_wp2_with (fail)
      go_ret
      exact ⟨rfl, HB2.out⟩
  · go_wp2_with (fail)
    go_ret
    exact ⟨rfl, HB2.out⟩
end Go.Proofs.Ytmdkpomgckkllaa
