/- QRef3, QRef4, QRef5, QRef6, laid together. -/
import Derived.Test.YtbalkchphijehaaDoorP6
import Derived.Deep.RegionHeld
import Derived.Test.YtbalkchphijehaaDoorP9
set_option linter.unusedSimpArgs false
set_option linter.unusedVariables false
/- moultref14.Right. -/
set_option maxRecDepth 20000
namespace Go.Proofs.YtbalkchphijehaaDoor
open Go.RowKit Go.Deep

def RgtRel (w : World) (next : Int) (L : List FV) (i : Value) (x : World) : Prop := ∃ k : Nat, i = .int .i64 k ∧ k ≤ L.length ∧ fieldsB next [] L = fieldsB next (L.take k) (L.drop k) ∧ Bel w x
def FrsRel (w : World) (L : List FV) (f : FV) (k : Nat) (i : Value) (x : World) : Prop := ∃ j : Nat, i = .int .i64 j ∧ j ≤ k ∧ freshB (L.take k) f = freshB ((L.take k).drop j) f ∧ Bel w x
set_option maxHeartbeats 16000000 in
theorem rright14_any (ver next : Int) (p : Option Addr) (c : Nat) (L : List FV) (w : World) (h : FldsAt w p L) (hL : L.length ≤ maxLen) (hV : allF L) :
    Calls Tryd.prog 18 #[.agg #[.int .i64 ver, .int .i64 next, .slice p L.length c]] w fun e w' => e = .returned (.bool (rightS ⟨ver, next, L⟩)) ∧ Bel w w' := by
  unfold maxLen at hL
  have H := Lib.hid h; clear h
  have HV := Lib.hid hV; clear hV
  obtain ⟨X, hX⟩ : ∃ X, X = w.heap.size := ⟨_, rfl⟩
  obtain ⟨w1, hw1⟩ : ∃ z, z = w.alloc (.cells #[.int .i64 ver, .int .i64 next, .slice p L.length c] 24) := ⟨_, rfl⟩
  have HB1 := Lib.hid (show Bel w w1 by rw [hw1]; exact (Bel.refl w).alloc _)
  have HK1 := Lib.hid (show w1.heap[X]? = some (.cells #[.int .i64 ver, .int .i64 next, .slice p L.length c] 24 (0, 0)) by rw [hw1, hX]; exact heap_alloc_new w _)
  have HNO := Lib.hid (show fieldsB next [] L = false → rightS ⟨ver, next, L⟩ = false from fun h => by unfold rightS; simp only [h, Bool.false_and])
  go_enter Tryd.func18, Tryd.ntmps18
  go_wp2_with (fail)
  rw [← hw1, ← hX]
  clear hw1 hX
  go_loopw [3] (fun i x => RgtRel w1 next L i x) (fun i _ => L.length - (intOf i).toNat)
  case atStart => exact ⟨0, rfl, Nat.zero_le _, rfl, Bel.refl _⟩
  case round =>
    obtain ⟨k, rfl, hk, hfd, hw⟩ := hrel
    have HW := Lib.hid hw
    have HFD := Lib.hid hfd
    obtain ⟨s0, s1, s2⟩ := cells3 (boxB HK1.out hw)
    clear hw hfd
    by_cases hlt : k < L.length
    · have hii : (k : Int) < (L.length : Int) := by omega
      obtain ⟨a, B, O, sp, rfl, ha, c0, c1, c2, c3, c4, c5⟩ := H.out.bel (HB1.out.trans HW.out) k hlt
      have HST := Lib.hid (fields_step (next := next) hlt)
      have HRS := Lib.hid (show ∀ z, Bel w1 z → (z.cell? ⟨X, 0, none⟩ = some (.int .i64 ver) ∧ z.cell? ⟨X, 1, none⟩ = some (.int .i64 next) ∧ z.cell? ⟨X, 2, none⟩ = some (.slice (some a) L.length c)) ∧ (z.cell? ⟨B, O, sp⟩ = some (.int .i64 L[k].id) ∧ z.cell? ⟨B, O + 1, none⟩ = some (.int .i64 L[k].kind) ∧ z.cell? ⟨B, O + 2, none⟩ = some (.string L[k].name) ∧ z.cell? ⟨B, O + 3, none⟩ = some (.int .i64 L[k].d.k) ∧ z.cell? ⟨B, O + 4, none⟩ = some (.int .i64 L[k].d.n) ∧ z.cell? ⟨B, O + 5, none⟩ = some (.string L[k].d.s)) from fun z hz => by
        obtain ⟨a', B', O', sp', ha0, ha', d0, d1, d2, d3, d4, d5⟩ := H.out.bel (HB1.out.trans hz) k hlt
        obtain rfl : a = a' := by simpa using ha0
        rw [ha, Addr.mk.injEq] at ha'
        obtain ⟨rfl, rfl, rfl⟩ := ha'
        exact ⟨cells3 (boxB HK1.out hz), d0, d1, d2, d3, d4, d5⟩)
      clear s0 s1 s2 c0 c1 c2 c3 c4 c5
      obtain ⟨⟨s0, s1, s2⟩, -⟩ := HRS.out _ HW.out
      go_wp2_with (fail)
      clear s0 s1 s2
      refine wp_region_held_drew (S := fun z => (z.cell? ⟨X, 0, none⟩ = some (.int .i64 ver) ∧ z.cell? ⟨X, 1, none⟩ = some (.int .i64 next) ∧ z.cell? ⟨X, 2, none⟩ = some (.slice (some a) L.length c)) ∧ (z.cell? ⟨B, O, sp⟩ = some (.int .i64 L[k].id) ∧ z.cell? ⟨B, O + 1, none⟩ = some (.int .i64 L[k].kind) ∧ z.cell? ⟨B, O + 2, none⟩ = some (.string L[k].name) ∧ z.cell? ⟨B, O + 3, none⟩ = some (.int .i64 L[k].d.k) ∧ z.cell? ⟨B, O + 4, none⟩ = some (.int .i64 L[k].d.n) ∧ z.cell? ⟨B, O + 5, none⟩ = some (.string L[k].d.s))) (by kernel_rfl) (HRS.out _ HW.out.drew) (fun hHeld => ?_)
      refine wpAnyH_take (i := 0) (oi := { dst := some 13, op := Op.fieldAddr 24 (Operand.tmp 1) 2, type := 0, pos := "ref.go:41", after := #[], guard := none }) (v := ?_) rfl (by kernel_rfl) (by kernel_rfl) (by kernel_rfl) (fun _ _ _ h => h) (Or.inl ⟨by rfl, ?_⟩) (by assumption) ?_
      rotate_left
      · (intro w hSw; (try dsimp only at hSw); first | (go_simp; done) | (go_simp; with_reducible rfl))
      try simp only [Act.put, List.setIfInBounds_toArray, List.set_cons_zero, List.set_cons_succ]
      refine wpAnyH_take (i := 1) (oi := { dst := some 14, op := Op.load 22 (Operand.tmp 13), type := 22, pos := "ref.go:41", after := #[{ on := 0, ground := Ground.data }], guard := none }) (v := ?_) rfl (by kernel_rfl) (by kernel_rfl) (by kernel_rfl) (fun _ _ _ h => h) (Or.inl ⟨by rfl, ?_⟩) (by assumption) ?_
      rotate_left
      · (intro w hSw; (try dsimp only at hSw); first | (go_simp; done) | (go_simp; with_reducible rfl))
      try simp only [Act.put, List.setIfInBounds_toArray, List.set_cons_zero, List.set_cons_succ]
      refine wpAnyH_take (i := 2) (oi := { dst := some 15, op := Op.move (Operand.tmp 3), type := 3, pos := "ref.go:41", after := #[], guard := none }) (v := ?_) rfl (by kernel_rfl) (by kernel_rfl) (by kernel_rfl) (fun _ _ _ h => h) (Or.inl ⟨by rfl, ?_⟩) (by assumption) ?_
      rotate_left
      · (intro w hSw; (try dsimp only at hSw); first | (go_simp; done) | (go_simp; with_reducible rfl))
      try simp only [Act.put, List.setIfInBounds_toArray, List.set_cons_zero, List.set_cons_succ]
      refine wpAnyH_take (i := 3) (oi := { dst := some 16, op := Op.indexAddr 22 (Operand.tmp 14) (Operand.tmp 15), type := 0, pos := "ref.go:41", after := #[{ on := 1, ground := Ground.data }, { on := 2, ground := Ground.data }], guard := none }) (v := ?_) rfl (by kernel_rfl) (by kernel_rfl) (by kernel_rfl) (fun _ _ _ h => h) (Or.inl ⟨by rfl, ?_⟩) (by assumption) ?_
      rotate_left
      · (intro w hSw; (try dsimp only at hSw); first | (go_simp; done) | (go_simp; with_reducible rfl))
      try simp only [Act.put, List.setIfInBounds_toArray, List.set_cons_zero, List.set_cons_succ]
      refine wpAnyH_take (i := 4) (oi := { dst := some 17, op := Op.load 31 (Operand.tmp 16), type := 31, pos := "ref.go:41", after := #[{ on := 3, ground := Ground.data }], guard := none }) (v := ?_) rfl (by kernel_rfl) (by kernel_rfl) (by kernel_rfl) (fun _ _ _ h => h) (Or.inl ⟨by rfl, ?_⟩) (by assumption) ?_
      rotate_left
      · (intro w hSw; (try dsimp only at hSw); first | (go_simp; done) | (go_simp; with_reducible rfl))
      try simp only [Act.put, List.setIfInBounds_toArray, List.set_cons_zero, List.set_cons_succ]
      refine wpAnyH_take (i := 5) (oi := { dst := some 18, op := Op.fieldAddr 24 (Operand.tmp 1) 1, type := 0, pos := "ref.go:41", after := #[], guard := none }) (v := ?_) rfl (by kernel_rfl) (by kernel_rfl) (by kernel_rfl) (fun _ _ _ h => h) (Or.inl ⟨by rfl, ?_⟩) (by assumption) ?_
      rotate_left
      · (intro w hSw; (try dsimp only at hSw); first | (go_simp; done) | (go_simp; with_reducible rfl))
      try simp only [Act.put, List.setIfInBounds_toArray, List.set_cons_zero, List.set_cons_succ]
      refine wpAnyH_take (i := 6) (oi := { dst := some 19, op := Op.load 3 (Operand.tmp 18), type := 3, pos := "ref.go:41", after := #[{ on := 5, ground := Ground.data }], guard := none }) (v := ?_) rfl (by kernel_rfl) (by kernel_rfl) (by kernel_rfl) (fun _ _ _ h => h) (Or.inl ⟨by rfl, ?_⟩) (by assumption) ?_
      rotate_left
      · (intro w hSw; (try dsimp only at hSw); first | (go_simp; done) | (go_simp; with_reducible rfl))
      try simp only [Act.put, List.setIfInBounds_toArray, List.set_cons_zero, List.set_cons_succ]
      refine wpAnyH_ready (rs := [7]) (by kernel_rfl) (by simp) ?_
      refine AllReadyH.cons (o := { dst := some 20, op := Op.call { callee := Callee.value (Operand.func 37), args := #[Operand.tmp 17, Operand.tmp 19], argTypes := #[31, 3] }, type := 4, pos := "ref.go:41", after := #[{ on := 4, ground := Ground.data }, { on := 6, ground := Ground.data }], guard := none }) rfl (fun K hK => ?_) AllReadyH.nil
      go_simp
      refine (rfield14_any L[k] next _ (HV.out.at_ hlt)).mono ?_
      rintro e w2 ⟨rfl, hb2⟩
      have HB2 := Lib.hid (show Bel w1 w2 from HW.out.drew.trans hb2)
      clear hb2
      dsimp only
      refine hK.out _ _ (HRS.out _ HB2.out) (fun hHeld => ?_)
      clear hK K
      try simp only [Act.put, List.setIfInBounds_toArray, List.set_cons_zero, List.set_cons_succ]
      refine wpAnyH_take (i := 8) (oi := { dst := some 4, op := Op.assign (Operand.tmp 20), type := 4, pos := "ref.go:41", after := #[{ on := 7, ground := Ground.data }, { on := 7, ground := Ground.chain }, { on := 0, ground := Ground.phase }, { on := 1, ground := Ground.phase }, { on := 2, ground := Ground.phase }, { on := 3, ground := Ground.phase }, { on := 4, ground := Ground.phase }, { on := 5, ground := Ground.phase }, { on := 6, ground := Ground.phase }, { on := 7, ground := Ground.phase }], guard := none }) (v := ?_) rfl (by kernel_rfl) (by kernel_rfl) (by kernel_rfl) (fun _ _ _ h => h) (Or.inl ⟨by rfl, ?_⟩) (by assumption) ?_
      rotate_left
      · (intro w hSw; (try dsimp only at hSw); first | (go_simp; done) | (go_simp; with_reducible rfl))
      try simp only [Act.put, List.setIfInBounds_toArray, List.set_cons_zero, List.set_cons_succ]
      refine wpAnyH_done (by kernel_rfl) ?_ _
      clear hHeld
      cases hf : fieldB next L[k] with
      | false =>
        have HR := Lib.hid (HNO.out (by rw [HFD.out, HST.out, hf]; rfl))
        clear hf
        go_wp2_with (fail)
        go_ret
        exact ⟨ret_bool HR.out.symm, HB1.out.trans HB2.out⟩
      | true =>
        have HFT := Lib.hid hf
        clear hf
        go_wp2_with (fail)
        obtain ⟨wo, hwo⟩ : ∃ z, z = w2 := ⟨_, rfl⟩
        rw [← hwo]
        rw [← hwo] at HB2
        clear hwo
        go_loopw [5] (fun i x => FrsRel w1 L L[k] k i x) (fun i _ => k - (intOf i).toNat)
        case atStart => exact ⟨0, rfl, Nat.zero_le _, rfl, HB2.out⟩
        case round =>
          obtain ⟨j, rfl, hj, hfr, hwj⟩ := hrel
          have HWJ := Lib.hid hwj
          have HFR := Lib.hid hfr
          clear hwj hfr
          by_cases hjk : j < k
          · have hjj : (j : Int) < (k : Int) := by omega
            have hjL : j < L.length := by omega
            have hjl : (j : Int) < (L.length : Int) := by omega
            have HSF := Lib.hid (fresh_step (F := L) (f := L[k]) hjk (by omega))
            obtain ⟨⟨s0, s1, s2⟩, c0, c1, c2, c3, c4, c5⟩ := HRS.out _ HWJ.out
            obtain ⟨a', B', O', sp', ha0, ha', d0, d1, d2, d3, d4, d5⟩ := H.out.bel (HB1.out.trans HWJ.out) j hjL
            obtain rfl : a = a' := by simpa using ha0
            clear ha0
            have HBAD := Lib.hid (show (L[j].id = L[k].id ∨ L[j].t = L[k].t) → rightS ⟨ver, next, L⟩ = false from fun h => HNO.out (by
              have e : freshB (L.take k) L[k] = false := by
                rw [HFR.out, HSF.out]
                rcases h with h | h
                · rw [decide_eq_true h]; rfl
                · rw [decide_eq_true h, Bool.or_true]; rfl
              rw [HFD.out, HST.out, e, Bool.and_false, Bool.false_and]))
            by_cases h1 : L[j].id = L[k].id
            · have HR := Lib.hid (HBAD.out (Or.inl h1))
              have q1 : (L[j].id == L[k].id) = true := by rw [beq_iff_eq]; exact h1
              clear h1
              go_wp2_with (fail)
              go_region
              go_wp2_with (fail)
              go_ret
              exact ⟨ret_bool HR.out.symm, HB1.out.trans (by first | exact HWJ.out.drew | exact HWJ.out.drewN _)⟩
            · have q1 : (L[j].id == L[k].id) = false := by rw [beq_eq_false_iff_ne]; exact h1
              by_cases h2 : L[j].name = L[k].name
              · have HR := Lib.hid (HBAD.out (Or.inr (by unfold FV.t; rw [h2])))
                have q2 : (L[j].name.toList == L[k].name.toList) = true := by rw [beq_iff_eq, h2]
                clear h1 h2
                go_wp2_with (fail)
                go_region
                go_wp2_with (fail)
                go_ret
                exact ⟨ret_bool HR.out.symm, HB1.out.trans (by first | exact HWJ.out.drew | exact HWJ.out.drewN _)⟩
              · have q2 : (L[j].name.toList == L[k].name.toList) = false := by rw [beq_eq_false_iff_ne]; intro h; exact h2 (by rw [ByteArray.toList_eq, ByteArray.toList_eq] at h; apply ByteArray.ext; exact Array.toList_inj.1 h)
                have HR := Lib.hid (show freshB (L.take k) L[k] = freshB ((L.take k).drop (j + 1)) L[k] by
                  rw [HFR.out, HSF.out, decide_eq_false h1, decide_eq_false (fun h => h2 (by apply ByteArray.ext; exact Array.toList_inj.1 h))]; rfl)
                clear h1 h2
                go_wp2_with (fail)
                go_region
                go_wp2_with (fail)
                go_roundw
                case rel => exact ⟨j + 1, by go_num, by omega, HR.out, by first | exact HWJ.out.drew | exact HWJ.out.drewN _⟩
                case measure => simp [intOf]; omega
          · have hjj : ¬ (j : Int) < (k : Int) := by omega
            obtain rfl : j = k := by omega
            have HR := Lib.hid (show fieldsB next [] L = fieldsB next (L.take (j + 1)) (L.drop (j + 1)) by
              rw [HFD.out, HST.out, HFT.out, HFR.out, fresh_end]; rfl)
            go_wp2_with (fail)
            go_roundw
            case rel => exact ⟨j + 1, by go_num, by omega, HR.out, HWJ.out⟩
            case measure => simp [intOf]; omega
    · have hii : ¬ (k : Int) < (L.length : Int) := by omega
      have HALL := Lib.hid (show fieldsB next [] L = true by rw [HFD.out, List.drop_eq_nil_of_le (by omega)]; rfl)
      by_cases q0 : 1 ≤ ver
      · have p0 : (1 : Int) ≤ ver := by omega
        by_cases q1 : ver ≤ 1000000
        · have p1 : ver ≤ (1000000 : Int) := by omega
          by_cases q2 : 1 ≤ next
          · have p2 : (1 : Int) ≤ next := by omega
            by_cases q3 : next ≤ 1000
            · have p3 : next ≤ (1000 : Int) := by omega
              by_cases q4 : 1 ≤ L.length
              · have p4 : (1 : Int) ≤ (L.length : Int) := by omega
                by_cases q5 : L.length ≤ 12
                · have p5 : (L.length : Int) ≤ (12 : Int) := by omega
                  have HR := Lib.hid (show rightS ⟨ver, next, L⟩ = true by unfold rightS; simp only [HALL.out, decide_eq_true q0, decide_eq_true q1, decide_eq_true q2, decide_eq_true q3, decide_eq_true q4, decide_eq_true q5]; rfl)
                  go_wp2_with (fail)
                  go_ret
                  exact ⟨ret_bool HR.out.symm, HB1.out.trans HW.out⟩
                · have p5 : ¬ (L.length : Int) ≤ (12 : Int) := by omega
                  have HR := Lib.hid (show rightS ⟨ver, next, L⟩ = false by unfold rightS; simp only [decide_eq_false q5, Bool.and_false, Bool.false_and])
                  clear q5
                  go_wp2_with (fail)
                  go_ret
                  exact ⟨ret_bool HR.out.symm, HB1.out.trans HW.out⟩
              · have p4 : ¬ (1 : Int) ≤ (L.length : Int) := by omega
                have HR := Lib.hid (show rightS ⟨ver, next, L⟩ = false by unfold rightS; simp only [decide_eq_false q4, Bool.and_false, Bool.false_and])
                clear q4
                go_wp2_with (fail)
                go_ret
                exact ⟨ret_bool HR.out.symm, HB1.out.trans HW.out⟩
            · have p3 : ¬ next ≤ (1000 : Int) := by omega
              have HR := Lib.hid (show rightS ⟨ver, next, L⟩ = false by unfold rightS; simp only [decide_eq_false q3, Bool.and_false, Bool.false_and])
              clear q3
              go_wp2_with (fail)
              go_ret
              exact ⟨ret_bool HR.out.symm, HB1.out.trans HW.out⟩
          · have p2 : ¬ (1 : Int) ≤ next := by omega
            have HR := Lib.hid (show rightS ⟨ver, next, L⟩ = false by unfold rightS; simp only [decide_eq_false q2, Bool.and_false, Bool.false_and])
            clear q2
            go_wp2_with (fail)
            go_ret
            exact ⟨ret_bool HR.out.symm, HB1.out.trans HW.out⟩
        · have p1 : ¬ ver ≤ (1000000 : Int) := by omega
          have HR := Lib.hid (show rightS ⟨ver, next, L⟩ = false by unfold rightS; simp only [decide_eq_false q1, Bool.and_false, Bool.false_and])
          clear q1
          go_wp2_with (fail)
          go_ret
          exact ⟨ret_bool HR.out.symm, HB1.out.trans HW.out⟩
      · have p0 : ¬ (1 : Int) ≤ ver := by omega
        have HR := Lib.hid (show rightS ⟨ver, next, L⟩ = false by unfold rightS; simp only [decide_eq_false q0, Bool.and_false, Bool.false_and])
        clear q0
        go_wp2_with (fail)
        go_ret
        exact ⟨ret_bool HR.out.symm, HB1.out.trans HW.out⟩
end Go.Proofs.YtbalkchphijehaaDoor
/- moultref14.Put. -/
set_option maxRecDepth 20000
namespace Go.Proofs.YtbalkchphijehaaDoor
open Go.RowKit Go.Deep

def prowV (t ver : Int) (L : List KV) : Value := if rowB t ver L = true then .tuple #[.string ⟨(encRow t.toNat ver.toNat L).toArray⟩, .int .i64 0] else .tuple #[.string ⟨#[]⟩, .int .i64 1]
theorem prow_no {t ver : Int} {L : List KV} (h : rowB t ver L = false) : prowV t ver L = .tuple #[.string ⟨#[]⟩, .int .i64 1] := by unfold prowV; rw [h]; rfl
theorem prow_yes {t ver : Int} {L : List KV} (h : rowB t ver L = true) : prowV t ver L = .tuple #[.string ⟨(encRow t.toNat ver.toNat L).toArray⟩, .int .i64 0] := by unfold prowV; rw [h]; rfl
theorem cells2Q {w : World} {b : Nat} {T : TypeId} {a0 a1 : Value} (h : w.heap[b]? = some (.cells #[a0, a1] T (0, 0))) : w.cell? ⟨b, 0, none⟩ = some a0 ∧ w.cell? ⟨b, 1, none⟩ = some a1 := by
  simp [World.cell?, h]
def RowRel (w : World) (t ver : Int) (L : List KV) (sv i : Value) (x : World) : Prop := ∃ (k : Nat) (T : ByteArray), sv = .string T ∧ i = .int .i64 k ∧ k ≤ L.length ∧ T.data.toList = putsN [t.toNat, ver.toNat, L.length] ++ valsL (L.take k) ∧ T.size ≤ 27 + 2003 * k ∧ (∀ j (hj : j < L.length), j < k → L[j].right = true) ∧ Bel w x
set_option maxHeartbeats 16000000 in
theorem rrow14_any (t ver : Int) (p : Option Addr) (c : Nat) (L : List KV) (w : World) (h : ValsAt w p L) (hL : L.length ≤ maxLen) (hV : allV L) :
    Calls Tryd.prog 22 #[.int .i64 t, .agg #[.int .i64 ver, .slice p L.length c]] w fun e w' => e = .returned (prowV t ver L) ∧ Bel w w' := by
  unfold maxLen at hL
  have H := Lib.hid h; clear h
  have HV := Lib.hid hV; clear hV
  obtain ⟨X, hX⟩ : ∃ X, X = w.heap.size := ⟨_, rfl⟩
  obtain ⟨w1, hw1⟩ : ∃ z, z = w.alloc (.cells #[.int .i64 ver, .slice p L.length c] 41) := ⟨_, rfl⟩
  have HB1 := Lib.hid (show Bel w w1 by rw [hw1]; exact (Bel.refl w).alloc _)
  have HK1 := Lib.hid (show w1.heap[X]? = some (.cells #[.int .i64 ver, .slice p L.length c] 41 (0, 0)) by rw [hw1, hX]; exact heap_alloc_new w _)
  by_cases q0 : t < 0
  · have p0 : t < (0 : Int) := by omega
    have HR := Lib.hid (prow_no (show rowB t ver L = false by unfold rowB; simp; omega))
    clear q0
    go_enter Tryd.func22, Tryd.ntmps22
    obtain ⟨s0, s1⟩ := cells2Q HK1.out
    rw [hX, hw1] at s0 s1
    go_wp2_with (fail)
    go_ret2
    exact ⟨by rw [HR.out]; rfl, by rw [← hw1]; exact HB1.out⟩
  · have p0 : ¬ t < (0 : Int) := by omega
    by_cases q1 : 1000000 < t
    · have p1 : (1000000 : Int) < t := by omega
      have HR := Lib.hid (prow_no (show rowB t ver L = false by unfold rowB; simp; omega))
      clear q1
      go_enter Tryd.func22, Tryd.ntmps22
      obtain ⟨s0, s1⟩ := cells2Q HK1.out
      rw [hX, hw1] at s0 s1
      go_wp2_with (fail)
      go_ret2
      exact ⟨by rw [HR.out]; rfl, by rw [← hw1]; exact HB1.out⟩
    · have p1 : ¬ (1000000 : Int) < t := by omega
      by_cases q2 : ver < 0
      · have p2 : ver < (0 : Int) := by omega
        have HR := Lib.hid (prow_no (show rowB t ver L = false by unfold rowB; simp; omega))
        clear q2
        go_enter Tryd.func22, Tryd.ntmps22
        obtain ⟨s0, s1⟩ := cells2Q HK1.out
        rw [hX, hw1] at s0 s1
        go_wp2_with (fail)
        go_ret2
        exact ⟨by rw [HR.out]; rfl, by rw [← hw1]; exact HB1.out⟩
      · have p2 : ¬ ver < (0 : Int) := by omega
        by_cases q3 : 1000000 < ver
        · have p3 : (1000000 : Int) < ver := by omega
          have HR := Lib.hid (prow_no (show rowB t ver L = false by unfold rowB; simp; omega))
          clear q3
          go_enter Tryd.func22, Tryd.ntmps22
          obtain ⟨s0, s1⟩ := cells2Q HK1.out
          rw [hX, hw1] at s0 s1
          go_wp2_with (fail)
          go_ret2
          exact ⟨by rw [HR.out]; rfl, by rw [← hw1]; exact HB1.out⟩
        · have p3 : ¬ (1000000 : Int) < ver := by omega
          by_cases q4 : 12 < L.length
          · have p4 : (12 : Int) < (L.length : Int) := by omega
            have HR := Lib.hid (prow_no (show rowB t ver L = false by unfold rowB; simp; omega))
            clear q4
            go_enter Tryd.func22, Tryd.ntmps22
            obtain ⟨s0, s1⟩ := cells2Q HK1.out
            rw [hX, hw1] at s0 s1
            go_wp2_with (fail)
            go_ret2
            exact ⟨by rw [HR.out]; rfl, by rw [← hw1]; exact HB1.out⟩
          · have p4 : ¬ (12 : Int) < (L.length : Int) := by omega
            have HTV := Lib.hid (show (0 ≤ t ∧ t ≤ 1000000) ∧ (0 ≤ ver ∧ ver ≤ 1000000) ∧ L.length ≤ 12 by omega)
            go_enter Tryd.func22, Tryd.ntmps22
            obtain ⟨s0, s1⟩ := cells2Q HK1.out
            rw [hX, hw1] at s0 s1
            go_wp2_with (fail)
            rw [← hw1, ← hX]
            clear hw1 hX s0 s1 q0 q1 q2 q3 q4
            have HRS := Lib.hid (show ∀ z, Bel w1 z → (z.cell? ⟨X, 0, none⟩ = some (.int .i64 ver) ∧ z.cell? ⟨X, 1, none⟩ = some (.slice p L.length c)) from fun z hz => cells2Q (boxB HK1.out hz))
            refine wp_region_held_drew (S := fun z => z.cell? ⟨X, 0, none⟩ = some (.int .i64 ver) ∧ z.cell? ⟨X, 1, none⟩ = some (.slice p L.length c)) (by kernel_rfl) (HRS.out _ (Bel.refl _).drew) (fun hHeld => ?_)
            refine wpAnyH_take (i := 0) (oi := { dst := some 32, op := Op.move (Operand.tmp 0), type := 3, pos := "ref.go:97", after := #[], guard := none }) (v := ?_) rfl (by kernel_rfl) (by kernel_rfl) (by kernel_rfl) (fun _ _ _ h => h) (Or.inl ⟨by rfl, ?_⟩) (by assumption) ?_
            rotate_left
            · (intro w hSw; (try dsimp only at hSw); first | (go_simp; done) | (go_simp; with_reducible rfl))
            try simp only [Act.put, List.setIfInBounds_toArray, List.set_cons_zero, List.set_cons_succ]
            refine wpAnyH_take (i := 2) (oi := { dst := some 34, op := Op.fieldAddr 41 (Operand.tmp 3) 0, type := 0, pos := "ref.go:97", after := #[], guard := none }) (v := ?_) rfl (by kernel_rfl) (by kernel_rfl) (by kernel_rfl) (fun _ _ _ h => h) (Or.inl ⟨by rfl, ?_⟩) (by assumption) ?_
            rotate_left
            · (intro w hSw; (try dsimp only at hSw); first | (go_simp; done) | (go_simp; with_reducible rfl))
            try simp only [Act.put, List.setIfInBounds_toArray, List.set_cons_zero, List.set_cons_succ]
            refine wpAnyH_take (i := 3) (oi := { dst := some 35, op := Op.load 3 (Operand.tmp 34), type := 3, pos := "ref.go:97", after := #[{ on := 2, ground := Ground.data }], guard := none }) (v := ?_) rfl (by kernel_rfl) (by kernel_rfl) (by kernel_rfl) (fun _ _ _ h => h) (Or.inl ⟨by rfl, ?_⟩) (by assumption) ?_
            rotate_left
            · (intro w hSw; (try dsimp only at hSw); first | (go_simp; done) | (go_simp; with_reducible rfl))
            try simp only [Act.put, List.setIfInBounds_toArray, List.set_cons_zero, List.set_cons_succ]
            refine wpAnyH_take (i := 6) (oi := { dst := some 38, op := Op.fieldAddr 41 (Operand.tmp 3) 1, type := 0, pos := "ref.go:97", after := #[], guard := none }) (v := ?_) rfl (by kernel_rfl) (by kernel_rfl) (by kernel_rfl) (fun _ _ _ h => h) (Or.inl ⟨by rfl, ?_⟩) (by assumption) ?_
            rotate_left
            · (intro w hSw; (try dsimp only at hSw); first | (go_simp; done) | (go_simp; with_reducible rfl))
            try simp only [Act.put, List.setIfInBounds_toArray, List.set_cons_zero, List.set_cons_succ]
            refine wpAnyH_take (i := 7) (oi := { dst := some 39, op := Op.load 25 (Operand.tmp 38), type := 25, pos := "ref.go:97", after := #[{ on := 6, ground := Ground.data }], guard := none }) (v := ?_) rfl (by kernel_rfl) (by kernel_rfl) (by kernel_rfl) (fun _ _ _ h => h) (Or.inl ⟨by rfl, ?_⟩) (by assumption) ?_
            rotate_left
            · (intro w hSw; (try dsimp only at hSw); first | (go_simp; done) | (go_simp; with_reducible rfl))
            try simp only [Act.put, List.setIfInBounds_toArray, List.set_cons_zero, List.set_cons_succ]
            refine wpAnyH_take (i := 8) (oi := { dst := some 40, op := Op.call { callee := Callee.builtin Builtin.len, args := #[Operand.tmp 39], argTypes := #[25] }, type := 3, pos := "ref.go:97", after := #[{ on := 7, ground := Ground.data }], guard := none }) (v := ?_) rfl (by kernel_rfl) (by kernel_rfl) (by kernel_rfl) (fun _ _ _ h => h) (Or.inl ⟨by rfl, ?_⟩) (by assumption) ?_
            rotate_left
            · (intro w hSw; (try dsimp only at hSw); first | (go_simp; done) | (go_simp; with_reducible rfl))
            try simp only [Act.put, List.setIfInBounds_toArray, List.set_cons_zero, List.set_cons_succ]
            refine wpAnyH_ready (rs := [1]) (by kernel_rfl) (by simp) ?_
            refine AllReadyH.cons (o := { dst := some 33, op := Op.call { callee := Callee.value (Operand.func 43), args := #[Operand.tmp 32], argTypes := #[3] }, type := 9, pos := "ref.go:97", after := #[{ on := 0, ground := Ground.data }], guard := none }) rfl (fun K hK => ?_) AllReadyH.nil
            go_simp
            refine (rnum14_any t HTV.out.1.1 (by have := HTV.out.1.2; omega) _).mono ?_
            rintro e w2 ⟨rfl, hb2⟩
            have HB2 := Lib.hid (show Bel w1 w2 from (Bel.refl w1).drew.trans hb2)
            clear hb2
            have z1 : (⟨(putL t.toNat).toArray⟩ : ByteArray).size ≤ 9 := by show (putL t.toNat).toArray.size ≤ 9; rw [List.size_toArray, putL_len]; exact szN_le _
            obtain ⟨S1, hS1⟩ : ∃ S : ByteArray, S = ⟨(putL t.toNat).toArray⟩ := ⟨_, rfl⟩
            rw [← hS1] at z1 ⊢
            have HS1 := Lib.hid hS1; clear hS1
            dsimp only
            refine hK.out _ _ (HRS.out _ HB2.out) (fun hHeld => ?_)
            clear hK K
            try simp only [Act.put, List.setIfInBounds_toArray, List.set_cons_zero, List.set_cons_succ]
            refine wpAnyH_ready (rs := [4]) (by kernel_rfl) (by simp) ?_
            refine AllReadyH.cons (o := { dst := some 36, op := Op.call { callee := Callee.value (Operand.func 43), args := #[Operand.tmp 35], argTypes := #[3] }, type := 9, pos := "ref.go:97", after := #[{ on := 3, ground := Ground.data }, { on := 1, ground := Ground.chain }], guard := none }) rfl (fun K hK => ?_) AllReadyH.nil
            go_simp
            refine (rnum14_any ver HTV.out.2.1.1 (by have := HTV.out.2.1.2; omega) _).mono ?_
            rintro e w3 ⟨rfl, hb3⟩
            have HB3 := Lib.hid (HB2.out.trans hb3)
            clear hb3
            have z2 : (⟨(putL ver.toNat).toArray⟩ : ByteArray).size ≤ 9 := by show (putL ver.toNat).toArray.size ≤ 9; rw [List.size_toArray, putL_len]; exact szN_le _
            obtain ⟨S2, hS2⟩ : ∃ S : ByteArray, S = ⟨(putL ver.toNat).toArray⟩ := ⟨_, rfl⟩
            rw [← hS2] at z2 ⊢
            have HS2 := Lib.hid hS2; clear hS2
            dsimp only
            refine hK.out _ _ (HRS.out _ HB3.out) (fun hHeld => ?_)
            clear hK K
            try simp only [Act.put, List.setIfInBounds_toArray, List.set_cons_zero, List.set_cons_succ]
            have zz1 : ¬ 9223372036854775807 < S1.size + S2.size := by omega
            refine wpAnyH_take (i := 5) (oi := { dst := some 37, op := Op.binOp BinOp.add 9 (Operand.tmp 33) (Operand.tmp 36) 9, type := 9, pos := "ref.go:97", after := #[{ on := 1, ground := Ground.data }, { on := 4, ground := Ground.data }], guard := none }) (v := ?_) rfl (by kernel_rfl) (by kernel_rfl) (by kernel_rfl) (fun _ _ _ h => h) (Or.inl ⟨by rfl, ?_⟩) (by assumption) ?_
            rotate_left
            · (intro w hSw; (try dsimp only at hSw); first | (go_simp; done) | (go_simp; with_reducible rfl))
            try simp only [Act.put, List.setIfInBounds_toArray, List.set_cons_zero, List.set_cons_succ]
            refine wpAnyH_ready (rs := [9]) (by kernel_rfl) (by simp) ?_
            refine AllReadyH.cons (o := { dst := some 41, op := Op.call { callee := Callee.value (Operand.func 43), args := #[Operand.tmp 40], argTypes := #[3] }, type := 9, pos := "ref.go:97", after := #[{ on := 8, ground := Ground.data }, { on := 4, ground := Ground.chain }], guard := none }) rfl (fun K hK => ?_) AllReadyH.nil
            go_simp
            refine (rnum14_any (L.length : Int) (by omega) (by have := HTV.out.2.2; omega) _).mono ?_
            rintro e w4 ⟨rfl, hb4⟩
            have HB4 := Lib.hid (HB3.out.trans hb4)
            clear hb4
            have z3 : (⟨(putL (L.length : Int).toNat).toArray⟩ : ByteArray).size ≤ 9 := by show (putL (L.length : Int).toNat).toArray.size ≤ 9; rw [List.size_toArray, putL_len]; exact szN_le _
            obtain ⟨S3, hS3⟩ : ∃ S : ByteArray, S = ⟨(putL (L.length : Int).toNat).toArray⟩ := ⟨_, rfl⟩
            rw [← hS3] at z3 ⊢
            have HS3 := Lib.hid hS3; clear hS3
            dsimp only
            refine hK.out _ _ (HRS.out _ HB4.out) (fun hHeld => ?_)
            clear hK K
            try simp only [Act.put, List.setIfInBounds_toArray, List.set_cons_zero, List.set_cons_succ]
            have z12 : (S1 ++ S2).size ≤ 18 := by rw [ByteArray.size_append]; omega
            have zz2 : ¬ 9223372036854775807 < S1.size + S2.size + S3.size := by omega
            have zz3 : ¬ 9223372036854775807 < (S1 ++ S2).size + S3.size := by omega
            refine wpAnyH_take (i := 10) (oi := { dst := some 42, op := Op.binOp BinOp.add 9 (Operand.tmp 37) (Operand.tmp 41) 9, type := 9, pos := "ref.go:97", after := #[{ on := 5, ground := Ground.data }, { on := 9, ground := Ground.data }], guard := none }) (v := ?_) rfl (by kernel_rfl) (by kernel_rfl) (by kernel_rfl) (fun _ _ _ h => h) (Or.inl ⟨by rfl, ?_⟩) (by assumption) ?_
            rotate_left
            · (intro w hSw; (try dsimp only at hSw); first | (go_simp; done) | (go_simp; with_reducible rfl))
            try simp only [Act.put, List.setIfInBounds_toArray, List.set_cons_zero, List.set_cons_succ]
            refine wpAnyH_take (i := 11) (oi := { dst := some 6, op := Op.assign (Operand.tmp 42), type := 9, pos := "ref.go:97", after := #[{ on := 10, ground := Ground.data }, { on := 9, ground := Ground.chain }, { on := 0, ground := Ground.phase }, { on := 1, ground := Ground.phase }, { on := 2, ground := Ground.phase }, { on := 3, ground := Ground.phase }, { on := 4, ground := Ground.phase }, { on := 5, ground := Ground.phase }, { on := 6, ground := Ground.phase }, { on := 7, ground := Ground.phase }, { on := 8, ground := Ground.phase }, { on := 9, ground := Ground.phase }, { on := 10, ground := Ground.phase }], guard := none }) (v := ?_) rfl (by kernel_rfl) (by kernel_rfl) (by kernel_rfl) (fun _ _ _ h => h) (Or.inl ⟨by rfl, ?_⟩) (by assumption) ?_
            rotate_left
            · (intro w hSw; (try dsimp only at hSw); first | (go_simp; done) | (go_simp; with_reducible rfl))
            try simp only [Act.put, List.setIfInBounds_toArray, List.set_cons_zero, List.set_cons_succ]
            refine wpAnyH_done (by kernel_rfl) ?_ _
            clear hHeld
            obtain ⟨T0, hT0⟩ : ∃ T : ByteArray, T = S1 ++ S2 ++ S3 := ⟨_, rfl⟩
            have HT0 := Lib.hid (show T0.data.toList = putsN [t.toNat, ver.toNat, L.length] by rw [hT0, HS1.out, HS2.out, HS3.out]; simp [putsN])
            have HZ0 := Lib.hid (show T0.size ≤ 27 by rw [hT0, ByteArray.size_append]; omega)
            go_wp2_with (fail)
            rw [← hT0]
            clear hT0 z1 z2 z3 z12 zz1 zz2 zz3
            go_loopw [6, 7] (fun sv i x => RowRel w1 t ver L sv i x) (fun _ i _ => L.length - (intOf i).toNat)
            case atStart => exact ⟨0, T0, rfl, rfl, Nat.zero_le _, by rw [HT0.out]; simp [valsL], by have := HZ0.out; omega, fun j hj h => by omega, HB4.out⟩
            case round =>
              obtain ⟨k, T, rfl, rfl, hk, hT, hz, hr, hw⟩ := hrel
              have HT := Lib.hid hT
              have HRT := Lib.hid hr
              have HW := Lib.hid hw
              clear hT hr hw
              obtain ⟨s0, s1⟩ := HRS.out _ HW.out
              by_cases hlt : k < L.length
              · have hii : (k : Int) < (L.length : Int) := by omega
                obtain ⟨a, B, O, sp, rfl, ha, c0, c1, c2⟩ := H.out.bel (HB1.out.trans HW.out) k hlt
                go_wp2_with (fail)
                refine (rput_any L[k] _ (HV.out _ (List.getElem_mem hlt)).2 (HV.out _ (List.getElem_mem hlt)).1).mono ?_
                rintro e w5 ⟨rfl, hb5⟩
                have HB5 := Lib.hid (HW.out.trans hb5)
                clear hb5 c0 c1 c2 s0 s1
                cases hrt : L[k].right with
                | false =>
                  have HR := Lib.hid (prow_no (show rowB t ver L = false by
                    cases hb : rowB t ver L with
                    | false => rfl
                    | true =>
                      have := (rowB_parts hb).2.2.2 L[k] (List.getElem_mem hlt)
                      rw [hrt] at this; cases this))
                  rw [show putV L[k] = .tuple #[.string ⟨#[]⟩, .int .i64 1] by unfold putV; rw [hrt]; rfl]
                  clear hrt
                  go_wp2_with (fail)
                  go_ret2
                  exact ⟨by rw [HR.out]; rfl, HB1.out.trans HB5.out⟩
                | true =>
                  rw [show putV L[k] = .tuple #[.string ⟨(encL L[k]).toArray⟩, .int .i64 0] by unfold putV; rw [hrt]; rfl]
                  have ze : (⟨(encL L[k]).toArray⟩ : ByteArray).size ≤ 2003 := by show (encL L[k]).toArray.size ≤ 2003; rw [List.size_toArray]; exact enc_len _ hrt
                  obtain ⟨E, hE⟩ : ∃ S : ByteArray, S = ⟨(encL L[k]).toArray⟩ := ⟨_, rfl⟩
                  rw [← hE] at ze ⊢
                  have HE := Lib.hid hE
                  have HRK := Lib.hid hrt
                  clear hE hrt
                  have HTV3 := HTV.out.2.2
                  go_wp2_with (fail)
                  go_roundw
                  case rel =>
                    refine ⟨k + 1, T ++ E, rfl, by go_num, hlt, ?_, by rw [ByteArray.size_append]; omega, fun j hj h => ?_, HB5.out⟩
                    · rw [vals_take hlt, ← List.append_assoc, ← HT.out, HE.out]; simp
                    · rcases Nat.lt_or_ge j k with h1 | h1
                      · exact HRT.out j hj h1
                      · obtain rfl : j = k := by omega
                        exact HRK.out
                  case measure => simp [intOf]; omega
              · have hii : ¬ (k : Int) < (L.length : Int) := by omega
                obtain rfl : k = L.length := by omega
                have HR := Lib.hid (show prowV t ver L = .tuple #[.string T, .int .i64 0] by
                  rw [prow_yes (rowB_mk HTV.out.1 HTV.out.2.1 HTV.out.2.2 (fun v hv => by
                    obtain ⟨j, hj, rfl⟩ := List.getElem_of_mem hv
                    exact HRT.out j hj hj))]
                  have h1 := HT.out
                  rw [List.take_length] at h1
                  rw [show (⟨(encRow t.toNat ver.toNat L).toArray⟩ : ByteArray) = T from by apply ByteArray.ext; apply Array.ext'; simp [encRow, h1]])
                go_wp2_with (fail)
                go_ret2
                exact ⟨by rw [HR.out]; rfl, HB1.out.trans HW.out⟩
end Go.Proofs.YtbalkchphijehaaDoor
/- moultref14.numbers. -/
set_option maxRecDepth 20000
namespace Go.Proofs.YtbalkchphijehaaDoor
open Go.RowKit Go.Deep

def intQ : El Nat := ⟨3, 78, 1, fun i => [.int .i64 (i : Int)]⟩
theorem intQok : ElOk intQ 8 := ⟨fun _ => rfl, fun a u hu => by simp [intQ] at hu; subst hu; rfl, by kernel_rfl, ⟨.int .i64 0, by kernel_rfl, rfl⟩, by decide⟩
def NumPost (o : Option (List Nat × List UInt8)) (w : World) (e : Ending) (w' : World) : Prop := match o with
  | some x => ∃ v, e = .returned (.tuple #[v, .string ⟨x.2.toArray⟩, .bool true]) ∧ OwnG intQ w.heap.size w' v x.1 ∧ Bel w w'
  | none => e = .returned (.tuple #[.slice none 0 0, .string ⟨#[]⟩, .bool false]) ∧ Bel w w'
theorem NumPost.no {o : Option (List Nat × List UInt8)} (ho : o = none) {w w' : World} (hb : Bel w w') : NumPost o w (.returned (.tuple #[.slice none 0 0, .string ⟨#[]⟩, .bool false])) w' := by subst ho; exact ⟨rfl, hb⟩
theorem NumPost.yes {o : Option (List Nat × List UInt8)} {l : List Nat} {r : ByteArray} (ho : o = some (l, r.data.toList)) {w w' : World} {v : Value} (hv : OwnG intQ w.heap.size w' v l) (hb : Bel w w') : NumPost o w (.returned (.tuple #[v, .string r, .bool true])) w' := by
  subst ho
  exact ⟨v, by simp only [ba_list], hv, hb⟩
def NmsRel (s : List UInt8) (w : World) (lv rv i : Value) (x : World) : Prop := ∃ (acc : List Nat) (r : ByteArray), i = .int .i64 (acc.length : Int) ∧ acc.length ≤ 3 ∧ rv = .string r ∧ r.size ≤ s.length ∧ OwnG intQ w.heap.size x lv acc ∧ rdN 3 s = preP acc (rdN (3 - acc.length) r.data.toList) ∧ Bel w x
set_option maxHeartbeats 8000000 in
theorem rnumbers14_any (s : ByteArray) (w : World) (hs : s.size ≤ 1000000) :
    Calls Tryd.prog 47 #[.string s, .int .i64 1000000] w (NumPost (rdN 3 s.data.toList) w) := by
  have hsl : s.data.toList.length = s.size := rfl
  have HSL := Lib.hid hsl
  go_enter Tryd.func47, Tryd.ntmps47
  go_wp2_with (fail)
  go_loopw [7, 8, 9] (fun lv rv i x => NmsRel s.data.toList w lv rv i x) (fun _ _ i _ => 3 - (intOf i).toNat)
  case atStart => exact ⟨[], s, rfl, by simp, rfl, by rw [hsl]; omega, OwnG.nil _ _ _, (preP_nil _).symm, Bel.refl w⟩
  case round =>
    clear hsl
    obtain ⟨acc, r, rfl, hacc, rfl, hrs, hown, hu, hb⟩ := hrel
    obtain ⟨pp, cap, rfl⟩ := ownG_len hown
    have HU := Lib.hid hu
    have HV := Lib.hid hown
    have HB := Lib.hid hb
    have HZ := Lib.hid (show r.size ≤ 1000000 by rw [HSL.out] at hrs; omega)
    have HRS := Lib.hid hrs
    clear hu hown hb hrs
    obtain ⟨k, hk⟩ : ∃ k, k = acc.length := ⟨_, rfl⟩
    by_cases hlt : acc.length < 3
    · have hii : (acc.length : Int) < 3 := by omega
      obtain ⟨j, hj⟩ : ∃ j, 3 - acc.length = j + 1 := ⟨3 - acc.length - 1, by omega⟩
      obtain ⟨n, rr, b, ht⟩ : ∃ n rr b, takeL r.data.toList = (n, rr, b) := ⟨_, _, _, rfl⟩
      have HT := Lib.hid ht
      have hn64 := take_lt r.data.toList
      have hrl := take_rest r.data.toList
      rw [ht] at hn64 hrl
      have HN64 := Lib.hid (show n < 18446744073709551616 from hn64)
      have HRL := Lib.hid (show rr.length ≤ r.data.toList.length from hrl)
      have HJ := Lib.hid hj
      clear ht hn64 hrl hj hk
      go_wp2_with (fail)
      refine (rtake14_of r n rr b _ HZ.out HT.out).mono ?_
      rintro e w1 ⟨rfl, hb1⟩
      have HB1 := Lib.hid (HB.out.trans hb1)
      have HV1 := Lib.hid (HV.out.bel hb1)
      clear hb1 HV
      cases b with
      | false =>
        have HR := Lib.hid (show rdN 3 s.data.toList = none by rw [HU.out, HJ.out]; exact rdN_no (Or.inl (by rw [HT.out])))
        go_wp2_with (fail)
        go_ret3
        exact NumPost.no HR.out HB1.out
      | true =>
        by_cases hm : n ≤ 1000000
        · have hm1 : ¬ (1000000 : Int) < (n : Int) := by omega
          have hw1 : wrap64 (n : Int) = (n : Int) := by unfold wrap64; omega

          have HR := Lib.hid (show rdN 3 s.data.toList = preP (acc ++ [n]) (rdN (3 - (acc ++ [n]).length) rr) by
            rw [HU.out, HJ.out, rdN_yes (by rw [HT.out]) (by rw [HT.out]; exact hm), HT.out, List.length_append, List.length_singleton]
            rw [show 3 - (acc.length + 1) = j by have := HJ.out; omega])
          go_wp2_with (at_builtin; refine stop_here ?_)
          refine go_on ?_
          obtain ⟨x0, hx0⟩ : ∃ x, x = w1.alloc (.cells #[.int .i64 (n : Int)] 3) := ⟨_, rfl⟩
          have hz0 : w1.heap.size = w1.heap.size := rfl
          have HV0 := Lib.hid HV1.out
          refine append_glit (x := w1) intQok rfl _ _ rfl rfl HV1.out _ _ _ [n] rfl rfl rfl (by simp [maxLen]; omega) (by simp; omega) HB1.out.size (Or.inl rfl) ?_
          intro v3 w3 hown3 hbel3 hZ3
          obtain ⟨pp3, cap3, rfl⟩ := ownG_len hown3
          have HV3 := Lib.hid hown3
          have HB3 := Lib.hid (HB1.out.trans_below hbel3)
          clear hown3 hbel3 HV1 HV0 hx0 hz0
          go_wp2_with (fail)
          go_roundw
          case rel => exact ⟨acc ++ [n], ⟨rr.toArray⟩, by rw [List.length_append]; go_num, by simp; omega, rfl, by show rr.toArray.size ≤ _; rw [List.size_toArray]; have := HRL.out; have h2 := HRS.out; have h3 : r.data.toList.length = r.size := rfl; omega, by simpa using HV3.out, by simpa using HR.out, HB3.out⟩
          case measure => simp [intOf]; omega
        · have hm1 : (1000000 : Int) < (n : Int) := by omega
          have HR := Lib.hid (show rdN 3 s.data.toList = none by rw [HU.out, HJ.out]; exact rdN_no (Or.inr (by rw [HT.out]; exact hm)))
          go_wp2_with (fail)
          go_ret3
          exact NumPost.no HR.out HB1.out
    · have hii : ¬ (acc.length : Int) < 3 := by omega
      have HR := Lib.hid (show rdN 3 s.data.toList = some (acc, r.data.toList) by
        rw [HU.out, show 3 - acc.length = 0 by omega]; simp [preP, rdN])
      clear hk
      go_wp2_with (fail)
      go_ret3
      exact NumPost.yes HR.out HV.out HB.out
end Go.Proofs.YtbalkchphijehaaDoor
/- moultref14.Pack. -/
set_option maxRecDepth 20000
namespace Go.Proofs.YtbalkchphijehaaDoor
open Go.RowKit Go.Deep

def packV14 (s : SV) : Value := if rightS s = true then .tuple #[.string ⟨(encS s).toArray⟩, .int .i64 0] else .tuple #[.string ⟨#[]⟩, .int .i64 1]
theorem pack14_no {s : SV} (h : rightS s = false) : packV14 s = .tuple #[.string ⟨#[]⟩, .int .i64 1] := by unfold packV14; rw [h]; rfl
theorem pack14_yes {s : SV} (h : rightS s = true) : packV14 s = .tuple #[.string ⟨(encS s).toArray⟩, .int .i64 0] := by unfold packV14; rw [h]; rfl
def PakRel (w : World) (ver next : Int) (L : List FV) (sv i : Value) (x : World) : Prop := ∃ (k : Nat) (T : ByteArray), sv = .string T ∧ i = .int .i64 k ∧ k ≤ L.length ∧ T.data.toList = putsN [ver.toNat, next.toNat, L.length] ++ fldsL (L.take k) ∧ T.size ≤ 27 + 2054 * k ∧ Bel w x
set_option maxHeartbeats 16000000 in
theorem rpack14_any (ver next : Int) (p : Option Addr) (c : Nat) (L : List FV) (w : World) (h : FldsAt w p L) (hL : L.length ≤ maxLen) (hV : allF L) :
    Calls Tryd.prog 27 #[.agg #[.int .i64 ver, .int .i64 next, .slice p L.length c]] w fun e w' => e = .returned (packV14 ⟨ver, next, L⟩) ∧ Bel w w' := by
  have HLM := Lib.hid hL
  unfold maxLen at hL
  have H := Lib.hid h; clear h
  have HV := Lib.hid hV; clear hV
  obtain ⟨X, hX⟩ : ∃ X, X = w.heap.size := ⟨_, rfl⟩
  obtain ⟨w1, hw1⟩ : ∃ z, z = w.alloc (.cells #[.int .i64 ver, .int .i64 next, .slice p L.length c] 24) := ⟨_, rfl⟩
  have HB1 := Lib.hid (show Bel w w1 by rw [hw1]; exact (Bel.refl w).alloc _)
  have HK1 := Lib.hid (show w1.heap[X]? = some (.cells #[.int .i64 ver, .int .i64 next, .slice p L.length c] 24 (0, 0)) by rw [hw1, hX]; exact heap_alloc_new w _)
  have HRS := Lib.hid (show ∀ z, Bel w1 z → (z.cell? ⟨X, 0, none⟩ = some (.int .i64 ver) ∧ z.cell? ⟨X, 1, none⟩ = some (.int .i64 next) ∧ z.cell? ⟨X, 2, none⟩ = some (.slice p L.length c)) from fun z hz => cells3 (boxB HK1.out hz))
  go_enter Tryd.func27, Tryd.ntmps27
  obtain ⟨s0, s1, s2⟩ := cells3 HK1.out
  rw [hX, hw1] at s0 s1 s2
  go_wp2_with (fail)
  rw [← hw1, ← hX]
  clear hw1 hX s0 s1 s2
  refine (rright14_any ver next p c L _ (H.out.bel HB1.out) HLM.out HV.out).mono ?_
  rintro e w2 ⟨rfl, hb2⟩
  have HB2 := Lib.hid (show Bel w1 w2 from hb2)
  clear hb2
  cases hr : rightS ⟨ver, next, L⟩ with
  | false =>
    have HR := Lib.hid (pack14_no hr)
    clear hr
    go_wp2_with (fail)
    go_ret2
    exact ⟨by rw [HR.out]; rfl, HB1.out.trans HB2.out⟩
  | true =>
    have HRT := Lib.hid hr
    have HP := Lib.hid (rightS_parts hr)
    clear hr
    go_wp2_with (fail)
    refine wp_region_held_drew (S := fun z => z.cell? ⟨X, 0, none⟩ = some (.int .i64 ver) ∧ z.cell? ⟨X, 1, none⟩ = some (.int .i64 next) ∧ z.cell? ⟨X, 2, none⟩ = some (.slice p L.length c)) (by kernel_rfl) (HRS.out _ HB2.out.drew) (fun hHeld => ?_)
    refine wpAnyH_take (i := 0) (oi := { dst := some 14, op := Op.fieldAddr 24 (Operand.tmp 1) 0, type := 0, pos := "ref.go:150", after := #[], guard := none }) (v := ?_) rfl (by kernel_rfl) (by kernel_rfl) (by kernel_rfl) (fun _ _ _ h => h) (Or.inl ⟨by rfl, ?_⟩) (by assumption) ?_
    rotate_left
    · (intro w hSw; (try dsimp only at hSw); first | (go_simp; done) | (go_simp; with_reducible rfl))
    try simp only [Act.put, List.setIfInBounds_toArray, List.set_cons_zero, List.set_cons_succ]
    refine wpAnyH_take (i := 1) (oi := { dst := some 15, op := Op.load 3 (Operand.tmp 14), type := 3, pos := "ref.go:150", after := #[{ on := 0, ground := Ground.data }], guard := none }) (v := ?_) rfl (by kernel_rfl) (by kernel_rfl) (by kernel_rfl) (fun _ _ _ h => h) (Or.inl ⟨by rfl, ?_⟩) (by assumption) ?_
    rotate_left
    · (intro w hSw; (try dsimp only at hSw); first | (go_simp; done) | (go_simp; with_reducible rfl))
    try simp only [Act.put, List.setIfInBounds_toArray, List.set_cons_zero, List.set_cons_succ]
    refine wpAnyH_take (i := 3) (oi := { dst := some 17, op := Op.fieldAddr 24 (Operand.tmp 1) 1, type := 0, pos := "ref.go:150", after := #[], guard := none }) (v := ?_) rfl (by kernel_rfl) (by kernel_rfl) (by kernel_rfl) (fun _ _ _ h => h) (Or.inl ⟨by rfl, ?_⟩) (by assumption) ?_
    rotate_left
    · (intro w hSw; (try dsimp only at hSw); first | (go_simp; done) | (go_simp; with_reducible rfl))
    try simp only [Act.put, List.setIfInBounds_toArray, List.set_cons_zero, List.set_cons_succ]
    refine wpAnyH_take (i := 4) (oi := { dst := some 18, op := Op.load 3 (Operand.tmp 17), type := 3, pos := "ref.go:150", after := #[{ on := 3, ground := Ground.data }], guard := none }) (v := ?_) rfl (by kernel_rfl) (by kernel_rfl) (by kernel_rfl) (fun _ _ _ h => h) (Or.inl ⟨by rfl, ?_⟩) (by assumption) ?_
    rotate_left
    · (intro w hSw; (try dsimp only at hSw); first | (go_simp; done) | (go_simp; with_reducible rfl))
    try simp only [Act.put, List.setIfInBounds_toArray, List.set_cons_zero, List.set_cons_succ]
    refine wpAnyH_take (i := 7) (oi := { dst := some 21, op := Op.fieldAddr 24 (Operand.tmp 1) 2, type := 0, pos := "ref.go:150", after := #[], guard := none }) (v := ?_) rfl (by kernel_rfl) (by kernel_rfl) (by kernel_rfl) (fun _ _ _ h => h) (Or.inl ⟨by rfl, ?_⟩) (by assumption) ?_
    rotate_left
    · (intro w hSw; (try dsimp only at hSw); first | (go_simp; done) | (go_simp; with_reducible rfl))
    try simp only [Act.put, List.setIfInBounds_toArray, List.set_cons_zero, List.set_cons_succ]
    refine wpAnyH_take (i := 8) (oi := { dst := some 22, op := Op.load 22 (Operand.tmp 21), type := 22, pos := "ref.go:150", after := #[{ on := 7, ground := Ground.data }], guard := none }) (v := ?_) rfl (by kernel_rfl) (by kernel_rfl) (by kernel_rfl) (fun _ _ _ h => h) (Or.inl ⟨by rfl, ?_⟩) (by assumption) ?_
    rotate_left
    · (intro w hSw; (try dsimp only at hSw); first | (go_simp; done) | (go_simp; with_reducible rfl))
    try simp only [Act.put, List.setIfInBounds_toArray, List.set_cons_zero, List.set_cons_succ]
    refine wpAnyH_take (i := 9) (oi := { dst := some 23, op := Op.call { callee := Callee.builtin Builtin.len, args := #[Operand.tmp 22], argTypes := #[22] }, type := 3, pos := "ref.go:150", after := #[{ on := 8, ground := Ground.data }], guard := none }) (v := ?_) rfl (by kernel_rfl) (by kernel_rfl) (by kernel_rfl) (fun _ _ _ h => h) (Or.inl ⟨by rfl, ?_⟩) (by assumption) ?_
    rotate_left
    · (intro w hSw; (try dsimp only at hSw); first | (go_simp; done) | (go_simp; with_reducible rfl))
    try simp only [Act.put, List.setIfInBounds_toArray, List.set_cons_zero, List.set_cons_succ]
    refine wpAnyH_ready (rs := [2]) (by kernel_rfl) (by simp) ?_
    refine AllReadyH.cons (o := { dst := some 16, op := Op.call { callee := Callee.value (Operand.func 43), args := #[Operand.tmp 15], argTypes := #[3] }, type := 9, pos := "ref.go:150", after := #[{ on := 1, ground := Ground.data }], guard := none }) rfl (fun K hK => ?_) AllReadyH.nil
    go_simp
    refine (rnum14_any ver (by have := HP.out.2.1; (try simp only at this); omega) (by have := HP.out.2.1; (try simp only at this); omega) _).mono ?_
    rintro e hb3w ⟨rfl, hbn⟩
    have HB3 := Lib.hid (HB2.out.drew.trans hbn)
    clear hbn
    have z1 : (⟨(putL (ver).toNat).toArray⟩ : ByteArray).size ≤ 9 := by show (putL (ver).toNat).toArray.size ≤ 9; rw [List.size_toArray, putL_len]; exact szN_le _
    obtain ⟨S1, hS1⟩ : ∃ S : ByteArray, S = ⟨(putL (ver).toNat).toArray⟩ := ⟨_, rfl⟩
    rw [← hS1] at z1 ⊢
    have HS1 := Lib.hid hS1; clear hS1
    dsimp only
    refine hK.out _ _ (HRS.out _ HB3.out) (fun hHeld => ?_)
    clear hK K
    try simp only [Act.put, List.setIfInBounds_toArray, List.set_cons_zero, List.set_cons_succ]
    refine wpAnyH_ready (rs := [5]) (by kernel_rfl) (by simp) ?_
    refine AllReadyH.cons (o := { dst := some 19, op := Op.call { callee := Callee.value (Operand.func 43), args := #[Operand.tmp 18], argTypes := #[3] }, type := 9, pos := "ref.go:150", after := #[{ on := 4, ground := Ground.data }, { on := 2, ground := Ground.chain }], guard := none }) rfl (fun K hK => ?_) AllReadyH.nil
    go_simp
    refine (rnum14_any next (by have := HP.out.2.2.1; (try simp only at this); omega) (by have := HP.out.2.2.1; (try simp only at this); omega) _).mono ?_
    rintro e hb4w ⟨rfl, hbn⟩
    have HB4 := Lib.hid (HB3.out.trans hbn)
    clear hbn
    have z2 : (⟨(putL (next).toNat).toArray⟩ : ByteArray).size ≤ 9 := by show (putL (next).toNat).toArray.size ≤ 9; rw [List.size_toArray, putL_len]; exact szN_le _
    obtain ⟨S2, hS2⟩ : ∃ S : ByteArray, S = ⟨(putL (next).toNat).toArray⟩ := ⟨_, rfl⟩
    rw [← hS2] at z2 ⊢
    have HS2 := Lib.hid hS2; clear hS2
    dsimp only
    refine hK.out _ _ (HRS.out _ HB4.out) (fun hHeld => ?_)
    clear hK K
    try simp only [Act.put, List.setIfInBounds_toArray, List.set_cons_zero, List.set_cons_succ]
    have zz1 : ¬ 9223372036854775807 < S1.size + S2.size := by omega
    refine wpAnyH_take (i := 6) (oi := { dst := some 20, op := Op.binOp BinOp.add 9 (Operand.tmp 16) (Operand.tmp 19) 9, type := 9, pos := "ref.go:150", after := #[{ on := 2, ground := Ground.data }, { on := 5, ground := Ground.data }], guard := none }) (v := ?_) rfl (by kernel_rfl) (by kernel_rfl) (by kernel_rfl) (fun _ _ _ h => h) (Or.inl ⟨by rfl, ?_⟩) (by assumption) ?_
    rotate_left
    · (intro w hSw; (try dsimp only at hSw); first | (go_simp; done) | (go_simp; with_reducible rfl))
    try simp only [Act.put, List.setIfInBounds_toArray, List.set_cons_zero, List.set_cons_succ]
    refine wpAnyH_ready (rs := [10]) (by kernel_rfl) (by simp) ?_
    refine AllReadyH.cons (o := { dst := some 24, op := Op.call { callee := Callee.value (Operand.func 43), args := #[Operand.tmp 23], argTypes := #[3] }, type := 9, pos := "ref.go:150", after := #[{ on := 9, ground := Ground.data }, { on := 5, ground := Ground.chain }], guard := none }) rfl (fun K hK => ?_) AllReadyH.nil
    go_simp
    refine (rnum14_any (L.length : Int) (by omega) (by have := HP.out.2.2.2.2; (try simp only at this); omega) _).mono ?_
    rintro e hb5w ⟨rfl, hbn⟩
    have HB5 := Lib.hid (HB4.out.trans hbn)
    clear hbn
    have z3 : (⟨(putL ((L.length : Int)).toNat).toArray⟩ : ByteArray).size ≤ 9 := by show (putL ((L.length : Int)).toNat).toArray.size ≤ 9; rw [List.size_toArray, putL_len]; exact szN_le _
    obtain ⟨S3, hS3⟩ : ∃ S : ByteArray, S = ⟨(putL ((L.length : Int)).toNat).toArray⟩ := ⟨_, rfl⟩
    rw [← hS3] at z3 ⊢
    have HS3 := Lib.hid hS3; clear hS3
    dsimp only
    refine hK.out _ _ (HRS.out _ HB5.out) (fun hHeld => ?_)
    clear hK K
    try simp only [Act.put, List.setIfInBounds_toArray, List.set_cons_zero, List.set_cons_succ]
    have z12 : (S1 ++ S2).size ≤ 18 := by rw [ByteArray.size_append]; omega
    have zz2 : ¬ 9223372036854775807 < S1.size + S2.size + S3.size := by omega
    have zz3 : ¬ 9223372036854775807 < (S1 ++ S2).size + S3.size := by omega
    refine wpAnyH_take (i := 11) (oi := { dst := some 25, op := Op.binOp BinOp.add 9 (Operand.tmp 20) (Operand.tmp 24) 9, type := 9, pos := "ref.go:150", after := #[{ on := 6, ground := Ground.data }, { on := 10, ground := Ground.data }], guard := none }) (v := ?_) rfl (by kernel_rfl) (by kernel_rfl) (by kernel_rfl) (fun _ _ _ h => h) (Or.inl ⟨by rfl, ?_⟩) (by assumption) ?_
    rotate_left
    · (intro w hSw; (try dsimp only at hSw); first | (go_simp; done) | (go_simp; with_reducible rfl))
    try simp only [Act.put, List.setIfInBounds_toArray, List.set_cons_zero, List.set_cons_succ]
    refine wpAnyH_take (i := 12) (oi := { dst := some 5, op := Op.assign (Operand.tmp 25), type := 9, pos := "ref.go:150", after := #[{ on := 11, ground := Ground.data }, { on := 10, ground := Ground.chain }, { on := 0, ground := Ground.phase }, { on := 1, ground := Ground.phase }, { on := 2, ground := Ground.phase }, { on := 3, ground := Ground.phase }, { on := 4, ground := Ground.phase }, { on := 5, ground := Ground.phase }, { on := 6, ground := Ground.phase }, { on := 7, ground := Ground.phase }, { on := 8, ground := Ground.phase }, { on := 9, ground := Ground.phase }, { on := 10, ground := Ground.phase }, { on := 11, ground := Ground.phase }], guard := none }) (v := ?_) rfl (by kernel_rfl) (by kernel_rfl) (by kernel_rfl) (fun _ _ _ h => h) (Or.inl ⟨by rfl, ?_⟩) (by assumption) ?_
    rotate_left
    · (intro w hSw; (try dsimp only at hSw); first | (go_simp; done) | (go_simp; with_reducible rfl))
    try simp only [Act.put, List.setIfInBounds_toArray, List.set_cons_zero, List.set_cons_succ]
    refine wpAnyH_done (by kernel_rfl) ?_ _
    clear hHeld
    obtain ⟨T0, hT0⟩ : ∃ T : ByteArray, T = S1 ++ S2 ++ S3 := ⟨_, rfl⟩
    have HT0 := Lib.hid (show T0.data.toList = putsN [ver.toNat, next.toNat, L.length] by rw [hT0, HS1.out, HS2.out, HS3.out]; simp [putsN])
    have HZ0 := Lib.hid (show T0.size ≤ 27 by rw [hT0, ByteArray.size_append]; omega)
    go_wp2_with (fail)
    rw [← hT0]
    clear hT0 z1 z2 z3 z12 zz1 zz2 zz3 HS1 HS2 HS3
    go_loopw [5, 6] (fun sv i x => PakRel w1 ver next L sv i x) (fun _ i _ => L.length - (intOf i).toNat)
    case atStart => exact ⟨0, T0, rfl, rfl, Nat.zero_le _, by rw [HT0.out]; simp [fldsL], by have := HZ0.out; omega, HB5.out⟩
    case round =>
      clear HT0 HZ0
      obtain ⟨k, T, rfl, rfl, hk, hT, hz, hw⟩ := hrel
      have HT := Lib.hid hT
      have HW := Lib.hid hw
      clear hT hw
      obtain ⟨s0, s1, s2⟩ := HRS.out _ HW.out
      by_cases hlt : k < L.length
      · have hii : (k : Int) < (L.length : Int) := by omega
        obtain ⟨a, B, O, sp, rfl, ha, c0, c1, c2, c3, c4, c5⟩ := H.out.bel (HB1.out.trans HW.out) k hlt
        have HOK := Lib.hid (HV.out.at_ hlt)
        have HFP := Lib.hid (field_parts (fieldsB_mem HP.out.1 _ (List.getElem_mem hlt)))
        have HFT := Lib.hid (flds_take hlt)
        obtain ⟨f, hf⟩ : ∃ f, f = L[k] := ⟨_, rfl⟩
        rw [← hf] at c0 c1 c2 c3 c4 c5 HOK HFP HFT
        clear hf
        have h12 := HP.out.2.2.2.2
        try simp only at h12
        obtain ⟨x0, hx0⟩ : ∃ z, z = wr.alloc (.cells #[.int .i64 f.id, .int .i64 f.kind, .string f.name, .int .i64 f.d.k, .int .i64 f.d.n, .string f.d.s] 31) := ⟨_, rfl⟩
        obtain ⟨Y, hY⟩ : ∃ Y, Y = wr.heap.size := ⟨_, rfl⟩
        have HX0 := Lib.hid (show Bel w1 x0 by rw [hx0]; exact HW.out.alloc _)
        have HKF := Lib.hid (show x0.heap[Y]? = some (.cells #[.int .i64 f.id, .int .i64 f.kind, .string f.name, .int .i64 f.d.k, .int .i64 f.d.n, .string f.d.s] 31 (0, 0)) by rw [hx0, hY]; exact heap_alloc_new wr _)
        obtain ⟨f0, f1, f2, f3, f4, f5⟩ := cells6 HKF.out
        rw [hx0, hY] at f0 f1 f2 f3 f4 f5
        go_wp2_with (fail)
        rw [← hx0, ← hY]
        clear hx0 hY f0 f1 f2 f3 f4 f5 c0 c1 c2 c3 c4 c5 s0 s1 s2
        refine (rput_any f.d _ HOK.out.2.2 HOK.out.1.2.2).mono ?_
        rintro e w5 ⟨rfl, hb5⟩
        rw [show putV f.d = .tuple #[.string ⟨(encL f.d).toArray⟩, .int .i64 0] by unfold putV; rw [HFP.out.2.2.2.1]; rfl]
        have HB6 := Lib.hid (HX0.out.trans hb5)
        have HKF5 := Lib.hid (boxB HKF.out hb5)
        have ze : (⟨(encL f.d).toArray⟩ : ByteArray).size ≤ 2003 := by show (encL f.d).toArray.size ≤ 2003; rw [List.size_toArray]; exact enc_len _ HFP.out.2.2.2.1
        obtain ⟨E, hE⟩ : ∃ S : ByteArray, S = ⟨(encL f.d).toArray⟩ := ⟨_, rfl⟩
        rw [← hE] at ze ⊢
        have HE := Lib.hid hE
        clear hE hb5
        have HFS := Lib.hid (show ∀ z, Bel w5 z → (z.cell? ⟨Y, 0, none⟩ = some (.int .i64 f.id) ∧ z.cell? ⟨Y, 1, none⟩ = some (.int .i64 f.kind) ∧ z.cell? ⟨Y, 2, none⟩ = some (.string f.name)) from fun z hz => by
          obtain ⟨f0, f1, f2, -⟩ := cells6 (boxB HKF5.out hz)
          exact ⟨f0, f1, f2⟩)
        have HKD := Lib.hid ((kind_byte f.d HFP.out.2.2.2.1).2)
        have HNM := Lib.hid (nameL_len HFP.out.2.2.1)
        have hnz : f.name.size ≤ 24 := by have := HNM.out.2; exact this
        go_wp2_with (fail)
        refine wp_region_held_drew (S := fun z => z.cell? ⟨Y, 0, none⟩ = some (.int .i64 f.id) ∧ z.cell? ⟨Y, 1, none⟩ = some (.int .i64 f.kind) ∧ z.cell? ⟨Y, 2, none⟩ = some (.string f.name)) (by kernel_rfl) (HFS.out _ (Bel.refl _).drew) (fun hHeld => ?_)
        refine wpAnyH_take (i := 0) (oi := { dst := some 44, op := Op.move (Operand.tmp 5), type := 9, pos := "ref.go:154", after := #[], guard := none }) (v := ?_) rfl (by kernel_rfl) (by kernel_rfl) (by kernel_rfl) (fun _ _ _ h => h) (Or.inl ⟨by rfl, ?_⟩) (by assumption) ?_
        rotate_left
        · (intro w hSw; (try dsimp only at hSw); first | (go_simp; done) | (go_simp; with_reducible rfl))
        try simp only [Act.put, List.setIfInBounds_toArray, List.set_cons_zero, List.set_cons_succ]
        refine wpAnyH_take (i := 1) (oi := { dst := some 45, op := Op.fieldAddr 31 (Operand.tmp 7) 0, type := 0, pos := "ref.go:154", after := #[], guard := none }) (v := ?_) rfl (by kernel_rfl) (by kernel_rfl) (by kernel_rfl) (fun _ _ _ h => h) (Or.inl ⟨by rfl, ?_⟩) (by assumption) ?_
        rotate_left
        · (intro w hSw; (try dsimp only at hSw); first | (go_simp; done) | (go_simp; with_reducible rfl))
        try simp only [Act.put, List.setIfInBounds_toArray, List.set_cons_zero, List.set_cons_succ]
        refine wpAnyH_take (i := 2) (oi := { dst := some 46, op := Op.load 3 (Operand.tmp 45), type := 3, pos := "ref.go:154", after := #[{ on := 1, ground := Ground.data }], guard := none }) (v := ?_) rfl (by kernel_rfl) (by kernel_rfl) (by kernel_rfl) (fun _ _ _ h => h) (Or.inl ⟨by rfl, ?_⟩) (by assumption) ?_
        rotate_left
        · (intro w hSw; (try dsimp only at hSw); first | (go_simp; done) | (go_simp; with_reducible rfl))
        try simp only [Act.put, List.setIfInBounds_toArray, List.set_cons_zero, List.set_cons_succ]
        refine wpAnyH_take (i := 5) (oi := { dst := some 49, op := Op.fieldAddr 31 (Operand.tmp 7) 1, type := 0, pos := "ref.go:154", after := #[], guard := none }) (v := ?_) rfl (by kernel_rfl) (by kernel_rfl) (by kernel_rfl) (fun _ _ _ h => h) (Or.inl ⟨by rfl, ?_⟩) (by assumption) ?_
        rotate_left
        · (intro w hSw; (try dsimp only at hSw); first | (go_simp; done) | (go_simp; with_reducible rfl))
        try simp only [Act.put, List.setIfInBounds_toArray, List.set_cons_zero, List.set_cons_succ]
        refine wpAnyH_take (i := 6) (oi := { dst := some 50, op := Op.load 3 (Operand.tmp 49), type := 3, pos := "ref.go:154", after := #[{ on := 5, ground := Ground.data }], guard := none }) (v := ?_) rfl (by kernel_rfl) (by kernel_rfl) (by kernel_rfl) (fun _ _ _ h => h) (Or.inl ⟨by rfl, ?_⟩) (by assumption) ?_
        rotate_left
        · (intro w hSw; (try dsimp only at hSw); first | (go_simp; done) | (go_simp; with_reducible rfl))
        try simp only [Act.put, List.setIfInBounds_toArray, List.set_cons_zero, List.set_cons_succ]
        refine wpAnyH_take (i := 9) (oi := { dst := some 53, op := Op.fieldAddr 31 (Operand.tmp 7) 2, type := 0, pos := "ref.go:154", after := #[], guard := none }) (v := ?_) rfl (by kernel_rfl) (by kernel_rfl) (by kernel_rfl) (fun _ _ _ h => h) (Or.inl ⟨by rfl, ?_⟩) (by assumption) ?_
        rotate_left
        · (intro w hSw; (try dsimp only at hSw); first | (go_simp; done) | (go_simp; with_reducible rfl))
        try simp only [Act.put, List.setIfInBounds_toArray, List.set_cons_zero, List.set_cons_succ]
        refine wpAnyH_take (i := 10) (oi := { dst := some 54, op := Op.load 9 (Operand.tmp 53), type := 9, pos := "ref.go:154", after := #[{ on := 9, ground := Ground.data }], guard := none }) (v := ?_) rfl (by kernel_rfl) (by kernel_rfl) (by kernel_rfl) (fun _ _ _ h => h) (Or.inl ⟨by rfl, ?_⟩) (by assumption) ?_
        rotate_left
        · (intro w hSw; (try dsimp only at hSw); first | (go_simp; done) | (go_simp; with_reducible rfl))
        try simp only [Act.put, List.setIfInBounds_toArray, List.set_cons_zero, List.set_cons_succ]
        refine wpAnyH_take (i := 11) (oi := { dst := some 55, op := Op.call { callee := Callee.builtin Builtin.len, args := #[Operand.tmp 54], argTypes := #[9] }, type := 3, pos := "ref.go:154", after := #[{ on := 10, ground := Ground.data }], guard := none }) (v := ?_) rfl (by kernel_rfl) (by kernel_rfl) (by kernel_rfl) (fun _ _ _ h => h) (Or.inl ⟨by rfl, ?_⟩) (by assumption) ?_
        rotate_left
        · (intro w hSw; (try dsimp only at hSw); first | (go_simp; done) | (go_simp; with_reducible rfl))
        try simp only [Act.put, List.setIfInBounds_toArray, List.set_cons_zero, List.set_cons_succ]
        refine wpAnyH_take (i := 14) (oi := { dst := some 58, op := Op.fieldAddr 31 (Operand.tmp 7) 2, type := 0, pos := "ref.go:154", after := #[], guard := none }) (v := ?_) rfl (by kernel_rfl) (by kernel_rfl) (by kernel_rfl) (fun _ _ _ h => h) (Or.inl ⟨by rfl, ?_⟩) (by assumption) ?_
        rotate_left
        · (intro w hSw; (try dsimp only at hSw); first | (go_simp; done) | (go_simp; with_reducible rfl))
        try simp only [Act.put, List.setIfInBounds_toArray, List.set_cons_zero, List.set_cons_succ]
        refine wpAnyH_take (i := 15) (oi := { dst := some 59, op := Op.load 9 (Operand.tmp 58), type := 9, pos := "ref.go:154", after := #[{ on := 14, ground := Ground.data }], guard := none }) (v := ?_) rfl (by kernel_rfl) (by kernel_rfl) (by kernel_rfl) (fun _ _ _ h => h) (Or.inl ⟨by rfl, ?_⟩) (by assumption) ?_
        rotate_left
        · (intro w hSw; (try dsimp only at hSw); first | (go_simp; done) | (go_simp; with_reducible rfl))
        try simp only [Act.put, List.setIfInBounds_toArray, List.set_cons_zero, List.set_cons_succ]
        refine wpAnyH_take (i := 17) (oi := { dst := some 61, op := Op.move (Operand.tmp 8), type := 9, pos := "ref.go:154", after := #[], guard := none }) (v := ?_) rfl (by kernel_rfl) (by kernel_rfl) (by kernel_rfl) (fun _ _ _ h => h) (Or.inl ⟨by rfl, ?_⟩) (by assumption) ?_
        rotate_left
        · (intro w hSw; (try dsimp only at hSw); first | (go_simp; done) | (go_simp; with_reducible rfl))
        try simp only [Act.put, List.setIfInBounds_toArray, List.set_cons_zero, List.set_cons_succ]
        refine wpAnyH_ready (rs := [3]) (by kernel_rfl) (by simp) ?_
        refine AllReadyH.cons (o := { dst := some 47, op := Op.call { callee := Callee.value (Operand.func 43), args := #[Operand.tmp 46], argTypes := #[3] }, type := 9, pos := "ref.go:154", after := #[{ on := 2, ground := Ground.data }], guard := none }) rfl (fun K hK => ?_) AllReadyH.nil
        go_simp
        refine (rnum14_any f.id (by have := HFP.out.1; omega) (by have h1 := HFP.out.2.1; have h2 := HP.out.2.2.1; (try simp only at h2); omega) _).mono ?_
        rintro e hb7w ⟨rfl, hbn⟩
        have HB7 := Lib.hid ((Bel.refl w5).drew.trans hbn)
        clear hbn
        have z4 : (⟨(putL (f.id).toNat).toArray⟩ : ByteArray).size ≤ 9 := by show (putL (f.id).toNat).toArray.size ≤ 9; rw [List.size_toArray, putL_len]; exact szN_le _
        obtain ⟨S4, hS4⟩ : ∃ S : ByteArray, S = ⟨(putL (f.id).toNat).toArray⟩ := ⟨_, rfl⟩
        rw [← hS4] at z4 ⊢
        have HS4 := Lib.hid hS4; clear hS4
        dsimp only
        refine hK.out _ _ (HFS.out _ HB7.out) (fun hHeld => ?_)
        clear hK K
        try simp only [Act.put, List.setIfInBounds_toArray, List.set_cons_zero, List.set_cons_succ]
        have y1 : ¬ 9223372036854775807 < T.size + S4.size := by omega
        refine wpAnyH_take (i := 4) (oi := { dst := some 48, op := Op.binOp BinOp.add 9 (Operand.tmp 44) (Operand.tmp 47) 9, type := 9, pos := "ref.go:154", after := #[{ on := 0, ground := Ground.data }, { on := 3, ground := Ground.data }], guard := none }) (v := ?_) rfl (by kernel_rfl) (by kernel_rfl) (by kernel_rfl) (fun _ _ _ h => h) (Or.inl ⟨by rfl, ?_⟩) (by assumption) ?_
        rotate_left
        · (intro w hSw; (try dsimp only at hSw); first | (go_simp; done) | (go_simp; with_reducible rfl))
        try simp only [Act.put, List.setIfInBounds_toArray, List.set_cons_zero, List.set_cons_succ]
        refine wpAnyH_ready (rs := [7]) (by kernel_rfl) (by simp) ?_
        refine AllReadyH.cons (o := { dst := some 51, op := Op.call { callee := Callee.value (Operand.func 43), args := #[Operand.tmp 50], argTypes := #[3] }, type := 9, pos := "ref.go:154", after := #[{ on := 6, ground := Ground.data }, { on := 3, ground := Ground.chain }], guard := none }) rfl (fun K hK => ?_) AllReadyH.nil
        go_simp
        refine (rnum14_any f.kind (by have h1 := HFP.out.2.2.2.2; have h2 := HKD.out; omega) (by have h1 := HFP.out.2.2.2.2; have h2 := HKD.out; omega) _).mono ?_
        rintro e hb8w ⟨rfl, hbn⟩
        have HB8 := Lib.hid (HB7.out.trans hbn)
        clear hbn
        have z5 : (⟨(putL (f.kind).toNat).toArray⟩ : ByteArray).size ≤ 9 := by show (putL (f.kind).toNat).toArray.size ≤ 9; rw [List.size_toArray, putL_len]; exact szN_le _
        obtain ⟨S5, hS5⟩ : ∃ S : ByteArray, S = ⟨(putL (f.kind).toNat).toArray⟩ := ⟨_, rfl⟩
        rw [← hS5] at z5 ⊢
        have HS5 := Lib.hid hS5; clear hS5
        dsimp only
        refine hK.out _ _ (HFS.out _ HB8.out) (fun hHeld => ?_)
        clear hK K
        try simp only [Act.put, List.setIfInBounds_toArray, List.set_cons_zero, List.set_cons_succ]
        have y2 : ¬ 9223372036854775807 < T.size + S4.size + S5.size := by omega
        have y2' : ¬ 9223372036854775807 < (T ++ S4).size + S5.size := by rw [ByteArray.size_append]; exact y2
        refine wpAnyH_take (i := 8) (oi := { dst := some 52, op := Op.binOp BinOp.add 9 (Operand.tmp 48) (Operand.tmp 51) 9, type := 9, pos := "ref.go:154", after := #[{ on := 4, ground := Ground.data }, { on := 7, ground := Ground.data }], guard := none }) (v := ?_) rfl (by kernel_rfl) (by kernel_rfl) (by kernel_rfl) (fun _ _ _ h => h) (Or.inl ⟨by rfl, ?_⟩) (by assumption) ?_
        rotate_left
        · (intro w hSw; (try dsimp only at hSw); first | (go_simp; done) | (go_simp; with_reducible rfl))
        try simp only [Act.put, List.setIfInBounds_toArray, List.set_cons_zero, List.set_cons_succ]
        refine wpAnyH_ready (rs := [12]) (by kernel_rfl) (by simp) ?_
        refine AllReadyH.cons (o := { dst := some 56, op := Op.call { callee := Callee.value (Operand.func 43), args := #[Operand.tmp 55], argTypes := #[3] }, type := 9, pos := "ref.go:154", after := #[{ on := 11, ground := Ground.data }, { on := 7, ground := Ground.chain }], guard := none }) rfl (fun K hK => ?_) AllReadyH.nil
        go_simp
        refine (rnum14_any (f.name.size : Int) (by omega) (by omega) _).mono ?_
        rintro e hb9w ⟨rfl, hbn⟩
        have HB9 := Lib.hid (HB8.out.trans hbn)
        clear hbn
        have z6 : (⟨(putL ((f.name.size : Int)).toNat).toArray⟩ : ByteArray).size ≤ 9 := by show (putL ((f.name.size : Int)).toNat).toArray.size ≤ 9; rw [List.size_toArray, putL_len]; exact szN_le _
        obtain ⟨S6, hS6⟩ : ∃ S : ByteArray, S = ⟨(putL ((f.name.size : Int)).toNat).toArray⟩ := ⟨_, rfl⟩
        rw [← hS6] at z6 ⊢
        have HS6 := Lib.hid hS6; clear hS6
        dsimp only
        refine hK.out _ _ (HFS.out _ HB9.out) (fun hHeld => ?_)
        clear hK K
        try simp only [Act.put, List.setIfInBounds_toArray, List.set_cons_zero, List.set_cons_succ]
        have y3 : ¬ 9223372036854775807 < T.size + S4.size + S5.size + S6.size := by omega
        have y3' : ¬ 9223372036854775807 < (T ++ S4 ++ S5).size + S6.size := by rw [ByteArray.size_append, ByteArray.size_append]; exact y3
        have y4 : ¬ 9223372036854775807 < T.size + S4.size + S5.size + S6.size + f.name.size := by omega
        have y4' : ¬ 9223372036854775807 < (T ++ S4 ++ S5 ++ S6).size + f.name.size := by rw [ByteArray.size_append, ByteArray.size_append, ByteArray.size_append]; exact y4
        have y5 : ¬ 9223372036854775807 < T.size + S4.size + S5.size + S6.size + f.name.size + E.size := by omega
        have y5' : ¬ 9223372036854775807 < (T ++ S4 ++ S5 ++ S6 ++ f.name).size + E.size := by rw [ByteArray.size_append, ByteArray.size_append, ByteArray.size_append, ByteArray.size_append]; exact y5
        refine wpAnyH_take (i := 13) (oi := { dst := some 57, op := Op.binOp BinOp.add 9 (Operand.tmp 52) (Operand.tmp 56) 9, type := 9, pos := "ref.go:154", after := #[{ on := 8, ground := Ground.data }, { on := 12, ground := Ground.data }], guard := none }) (v := ?_) rfl (by kernel_rfl) (by kernel_rfl) (by kernel_rfl) (fun _ _ _ h => h) (Or.inl ⟨by rfl, ?_⟩) (by assumption) ?_
        rotate_left
        · (intro w hSw; (try dsimp only at hSw); first | (go_simp; done) | (go_simp; with_reducible rfl))
        try simp only [Act.put, List.setIfInBounds_toArray, List.set_cons_zero, List.set_cons_succ]
        refine wpAnyH_take (i := 16) (oi := { dst := some 60, op := Op.binOp BinOp.add 9 (Operand.tmp 57) (Operand.tmp 59) 9, type := 9, pos := "ref.go:154", after := #[{ on := 13, ground := Ground.data }, { on := 15, ground := Ground.data }], guard := none }) (v := ?_) rfl (by kernel_rfl) (by kernel_rfl) (by kernel_rfl) (fun _ _ _ h => h) (Or.inl ⟨by rfl, ?_⟩) (by assumption) ?_
        rotate_left
        · (intro w hSw; (try dsimp only at hSw); first | (go_simp; done) | (go_simp; with_reducible rfl))
        try simp only [Act.put, List.setIfInBounds_toArray, List.set_cons_zero, List.set_cons_succ]
        refine wpAnyH_take (i := 18) (oi := { dst := some 62, op := Op.binOp BinOp.add 9 (Operand.tmp 60) (Operand.tmp 61) 9, type := 9, pos := "ref.go:154", after := #[{ on := 16, ground := Ground.data }, { on := 17, ground := Ground.data }], guard := none }) (v := ?_) rfl (by kernel_rfl) (by kernel_rfl) (by kernel_rfl) (fun _ _ _ h => h) (Or.inl ⟨by rfl, ?_⟩) (by assumption) ?_
        rotate_left
        · (intro w hSw; (try dsimp only at hSw); first | (go_simp; done) | (go_simp; with_reducible rfl))
        try simp only [Act.put, List.setIfInBounds_toArray, List.set_cons_zero, List.set_cons_succ]
        refine wpAnyH_take (i := 19) (oi := { dst := some 5, op := Op.assign (Operand.tmp 62), type := 9, pos := "ref.go:154", after := #[{ on := 18, ground := Ground.data }, { on := 12, ground := Ground.chain }, { on := 0, ground := Ground.phase }, { on := 1, ground := Ground.phase }, { on := 2, ground := Ground.phase }, { on := 3, ground := Ground.phase }, { on := 4, ground := Ground.phase }, { on := 5, ground := Ground.phase }, { on := 6, ground := Ground.phase }, { on := 7, ground := Ground.phase }, { on := 8, ground := Ground.phase }, { on := 9, ground := Ground.phase }, { on := 10, ground := Ground.phase }, { on := 11, ground := Ground.phase }, { on := 12, ground := Ground.phase }, { on := 13, ground := Ground.phase }, { on := 14, ground := Ground.phase }, { on := 15, ground := Ground.phase }, { on := 16, ground := Ground.phase }, { on := 17, ground := Ground.phase }, { on := 18, ground := Ground.phase }], guard := none }) (v := ?_) rfl (by kernel_rfl) (by kernel_rfl) (by kernel_rfl) (fun _ _ _ h => h) (Or.inl ⟨by rfl, ?_⟩) (by assumption) ?_
        rotate_left
        · (intro w hSw; (try dsimp only at hSw); first | (go_simp; done) | (go_simp; with_reducible rfl))
        try simp only [Act.put, List.setIfInBounds_toArray, List.set_cons_zero, List.set_cons_succ]
        refine wpAnyH_done (by kernel_rfl) ?_ _
        clear hHeld
        obtain ⟨T1, hT1⟩ : ∃ S : ByteArray, S = T ++ S4 ++ S5 ++ S6 ++ f.name ++ E := ⟨_, rfl⟩
        have HT1 := Lib.hid (show T1.data.toList = putsN [ver.toNat, next.toNat, L.length] ++ fldsL (L.take (k + 1)) by
          rw [HFT.out, ← List.append_assoc, ← HT.out, hT1, HS4.out, HS5.out, HS6.out, HE.out]
          have e : f.name.size = f.t.length := rfl
          have e2 : (f.name.size : Int).toNat = f.t.length := by rw [Int.toNat_natCast]; rfl
          simp only [encF, putsN, List.flatMap_cons, List.flatMap_nil, List.append_nil, e2, ByteArray.data_append, Array.toList_append, FV.t, List.append_assoc])
        have HZ1 := Lib.hid (show T1.size ≤ 27 + 2054 * (k + 1) by rw [hT1]; simp only [ByteArray.size_append]; omega)
        go_wp2_with (fail)
        rw [← hT1]
        clear y1 y2 y2' y3 y3' y4 y4' y5 y5' hT1
        go_roundw
        case rel => exact ⟨k + 1, T1, rfl, by go_num, hlt, HT1.out, HZ1.out, HB6.out.trans HB9.out⟩
        case measure => simp [intOf]; omega
      · have hii : ¬ (k : Int) < (L.length : Int) := by omega
        obtain rfl : k = L.length := by omega
        have HR := Lib.hid (show packV14 ⟨ver, next, L⟩ = .tuple #[.string T, .int .i64 0] by
          rw [pack14_yes HRT.out]
          have h1 := HT.out
          rw [List.take_length] at h1
          rw [show (⟨(encS ⟨ver, next, L⟩).toArray⟩ : ByteArray) = T from by apply ByteArray.ext; apply Array.ext'; rw [h1]; rfl])
        go_wp2_with (fail)
        go_ret2
        exact ⟨by rw [HR.out]; rfl, HB1.out.trans HW.out⟩
end Go.Proofs.YtbalkchphijehaaDoor
