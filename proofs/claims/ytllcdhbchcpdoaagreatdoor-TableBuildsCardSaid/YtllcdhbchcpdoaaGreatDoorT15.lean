/- TRef4, TRef5, TRef6, TPOrd, laid together. -/
import Derived.Test.YtllcdhbchcpdoaaGreatDoorT11
import Derived.Deep.RegionHeld
import Derived.Test.YtllcdhbchcpdoaaGreatDoorT2
import Derived.Test.YtllcdhbchcpdoaaGreatDoorT12
set_option linter.unusedSimpArgs false
set_option linter.unusedVariables false
/- moultref10.Stand. -/
namespace Go.Proofs.YtllcdhbchcpdoaaGreatDoor
open Go.RowKit Go.Deep

theorem stand_take {L : List EB} {k : Nat} (h : k < L.length) : standB (L.take (k + 1)) = (standB (L.take k) && rightB L[k] && (match (L.take k).getLast? with | none => true | some a => lessB a L[k])) := by
  rw [List.take_add_one, List.getElem?_eq_getElem h, Option.toList_some, stand_snoc]
  rfl
theorem stand_zero {L : List EB} (h : 0 < L.length) : standB (L.take 1) = rightB L[0] := by
  rw [stand_take h]; simp [standB]
theorem stand_next {L : List EB} {j : Nat} (h : j + 1 < L.length) : standB (L.take (j + 2)) = (standB (L.take (j + 1)) && rightB L[j + 1] && lessB L[j] L[j + 1]) := by
  rw [stand_take h]
  have e : (L.take (j + 1)).getLast? = some L[j] := by
    rw [List.take_add_one, List.getElem?_eq_getElem (by omega), Option.toList_some, List.getLast?_concat]
  rw [e]
theorem stand_more {L : List EB} {k : Nat} (h : standB (L.take k) = false) : standB L = false := by
  cases hs : standB L with
  | false => rfl
  | true =>
    have hr := stand_right hs
    have hp := stand_pair hs
    have : standB (L.take k) = true := stand_of _ (fun e he => hr e (List.mem_of_mem_take he)) (List.Pairwise.sublist (List.take_sublist k L) hp)
    rw [h] at this; cases this
set_option maxHeartbeats 4000000 in
set_option maxRecDepth 20000 in
theorem rstand_any (p : Option Addr) (cap : Nat) (L : List EB) (w : World) (h : EntsAt w p L) (hL : L.length ≤ 100000) (hf : fitsL L) :
    Calls Tryz.prog 43 #[.slice p L.length cap] w fun e w' => e = .returned (.bool (standB L)) ∧ Bel w w' := by
  have H := Lib.hid h; clear h
  have HF := Lib.hid hf; clear hf
  go_enter Tryz.func43, Tryz.ntmps43
  go_wp2_with (fail)
  go_loopw [3] (fun iv x => (∃ k : Nat, k ≤ L.length ∧ iv = .int .i64 k ∧ standB (L.take k) = true) ∧ Bel w x) (fun iv _ => L.length - (intOf iv).toNat)
  case atStart => exact ⟨⟨0, Nat.zero_le _, rfl, rfl⟩, Bel.refl w⟩
  case round =>
    obtain ⟨⟨k, hk, rfl, hst⟩, hb⟩ := hrel
    have HST := Lib.hid hst; clear hst
    have HB := Lib.hid hb
    by_cases hlt : k < L.length
    · obtain ⟨a, e0, rfl, he0, B, O, sp, ha, c0, c1, c2, c3⟩ := (H.out.bel hb).get hlt
      have HE := Lib.hid (show e0.fits by rw [he0]; exact fits_at HF.out hlt)
      have HKK := Lib.hid hlt
      have HE0 := Lib.hid he0
      clear hb he0
      go_wp2_with (fail)
      refine (rright_any e0 wr HE.out).mono ?_
      rintro r w1 ⟨rfl, hb⟩
      have HB1 := Lib.hid (HB.out.trans hb)
      have d0 := cell_later hb c0
      have d1 := cell_later hb c1
      have d2 := cell_later hb c2
      have d3 := cell_later hb c3
      clear hb c0 c1 c2 c3
      cases hr : rightB e0 with
      | false =>
        have HR := Lib.hid (show standB L = false from stand_more (k := k + 1) (by rw [stand_take HKK.out, ← HE0.out, hr, Bool.and_false, Bool.false_and]))
        clear hr
        go_wp2_with (fail)
        go_quiet (fail)
        go_wp2_with (fail)
        go_ret
        exact ⟨by rw [HR.out]; rfl, HB1.out.trans ((Bel.refl w1).drewN _)⟩
      | true =>
        by_cases hk0 : k = 0
        · subst hk0
          have HN := Lib.hid (show standB (L.take (0 + 1)) = true by rw [stand_zero HKK.out, ← HE0.out, hr])
          clear hr
          go_wp2_with (fail)
          go_quiet (fail)
          go_wp2_with (fail)
          go_roundw
          case rel => exact ⟨⟨0 + 1, hlt, by go_num, HN.out⟩, HB1.out.trans ((Bel.refl w1).drewN _)⟩
          case measure => simp [intOf]; omega
        · obtain ⟨j, rfl⟩ : ∃ j, k = j + 1 := ⟨k - 1, by omega⟩
          have hjl : j < L.length := by omega
          obtain ⟨_, e1, ha', he1, B', O', sp', ha2, b0, b1, b2, b3⟩ := (H.out.bel HB1.out).get hjl
          cases ha'
          have HE1 := Lib.hid (show e1.fits by rw [he1]; exact fits_at HF.out hjl)
          have HEE1 := Lib.hid he1
          have HN := Lib.hid (show standB (L.take (j + 2)) = lessB e1 e0 by rw [stand_next HKK.out, HST.out, ← HE0.out, ← HEE1.out, hr, Bool.true_and, Bool.true_and])
          have hji : (j : Int) < (L.length : Int) := by omega
          have hji2 : (j : Int) + 1 < (L.length : Int) := by omega
          have hjw : IntKind.i64.wrap (j : Int) = j := by rw [IntKind.wrap_i64]; omega
          have hj0 : (0 : Int) ≤ (j : Int) + 1 := by omega
          have hjw2 : IntKind.i64.wrap ((j : Int) + 1) = (j : Int) + 1 := by rw [IntKind.wrap_i64]; omega
          clear hr he1
          go_wp2_with (fail)
          refine wp_region_held_drew (S := fun z => (z.cell? ⟨B, O, sp⟩ = some (.string e0.k) ∧ z.cell? ⟨B, O + 1, none⟩ = some (.int .i64 e0.q) ∧ z.cell? ⟨B, O + 2, none⟩ = some (.bool e0.d) ∧ z.cell? ⟨B, O + 3, none⟩ = some (.string e0.v)) ∧ z.cell? ⟨B', O', sp'⟩ = some (.string e1.k) ∧ z.cell? ⟨B', O' + 1, none⟩ = some (.int .i64 e1.q) ∧ z.cell? ⟨B', O' + 2, none⟩ = some (.bool e1.d) ∧ z.cell? ⟨B', O' + 3, none⟩ = some (.string e1.v)) (by kernel_rfl) ⟨⟨d0, d1, d2, d3⟩, b0, b1, b2, b3⟩ (fun hHeld => ?_)
          refine tk (oi := { dst := some 16, op := Op.move (Operand.tmp 4), type := 4, pos := "ref.go:93", after := #[], guard := none }) (v := ?_) 0 rfl ?_ ?_
          rotate_left
          · (intro w hSw; (try dsimp only at hSw); first | (go_simp; done) | (go_simp; with_reducible rfl))
          try simp only [Act.put, List.setIfInBounds_toArray, List.set_cons_zero, List.set_cons_succ]
          refine tk (oi := { dst := some 17, op := Op.unOp UnOp.not 4 (Operand.tmp 16), type := 4, pos := "ref.go:93", after := #[{ on := 0, ground := Ground.data }], guard := none }) (v := ?_) 1 rfl ?_ ?_
          rotate_left
          · (intro w hSw; (try dsimp only at hSw); first | (go_simp; done) | (go_simp; with_reducible rfl))
          try simp only [Act.put, List.setIfInBounds_toArray, List.set_cons_zero, List.set_cons_succ]
          refine tk (oi := { dst := some 18, op := Op.move (Operand.tmp 17), type := 4, pos := "ref.go:93", after := #[{ on := 1, ground := Ground.data }], guard := none }) (v := ?_) 2 rfl ?_ ?_
          rotate_left
          · (intro w hSw; (try dsimp only at hSw); first | (go_simp; done) | (go_simp; with_reducible rfl))
          try simp only [Act.put, List.setIfInBounds_toArray, List.set_cons_zero, List.set_cons_succ]
          refine tk (oi := { dst := some 19, op := Op.move (Operand.tmp 3), type := 3, pos := "ref.go:93", after := #[{ on := 2, ground := Ground.guard }], guard := some (2, false) }) (v := ?_) 3 rfl ?_ ?_
          rotate_left
          · (intro w hSw; (try dsimp only at hSw); first | (go_simp; done) | (go_simp; with_reducible rfl))
          try simp only [Act.put, List.setIfInBounds_toArray, List.set_cons_zero, List.set_cons_succ]
          refine tk (oi := { dst := some 20, op := Op.binOp BinOp.gtr 3 (Operand.tmp 19) (Operand.const (Value.int IntKind.i64 0)) 3, type := 4, pos := "ref.go:93", after := #[{ on := 3, ground := Ground.data }, { on := 2, ground := Ground.guard }], guard := some (2, false) }) (v := ?_) 4 rfl ?_ ?_
          rotate_left
          · (intro w hSw; (try dsimp only at hSw); first | (go_simp; done) | (go_simp; with_reducible rfl))
          try simp only [Act.put, List.setIfInBounds_toArray, List.set_cons_zero, List.set_cons_succ]
          refine tk (oi := { dst := some 21, op := Op.move (Operand.tmp 20), type := 4, pos := "ref.go:93", after := #[{ on := 4, ground := Ground.data }, { on := 2, ground := Ground.chain }, { on := 2, ground := Ground.guard }], guard := some (2, false) }) (v := ?_) 5 rfl ?_ ?_
          rotate_left
          · (intro w hSw; (try dsimp only at hSw); first | (go_simp; done) | (go_simp; with_reducible rfl))
          try simp only [Act.put, List.setIfInBounds_toArray, List.set_cons_zero, List.set_cons_succ]
          refine tk (oi := { dst := some 22, op := Op.move (Operand.tmp 0), type := 26, pos := "ref.go:93", after := #[{ on := 5, ground := Ground.guard }], guard := some (5, true) }) (v := ?_) 6 rfl ?_ ?_
          rotate_left
          · (intro w hSw; (try dsimp only at hSw); first | (go_simp; done) | (go_simp; with_reducible rfl))
          try simp only [Act.put, List.setIfInBounds_toArray, List.set_cons_zero, List.set_cons_succ]
          refine tk (oi := { dst := some 23, op := Op.move (Operand.tmp 3), type := 3, pos := "ref.go:93", after := #[{ on := 5, ground := Ground.guard }], guard := some (5, true) }) (v := ?_) 7 rfl ?_ ?_
          rotate_left
          · (intro w hSw; (try dsimp only at hSw); first | (go_simp; done) | (go_simp; with_reducible rfl))
          try simp only [Act.put, List.setIfInBounds_toArray, List.set_cons_zero, List.set_cons_succ]
          refine tk (oi := { dst := some 24, op := Op.binOp BinOp.sub 3 (Operand.tmp 23) (Operand.const (Value.int IntKind.i64 1)) 3, type := 3, pos := "ref.go:93", after := #[{ on := 7, ground := Ground.data }, { on := 5, ground := Ground.guard }], guard := some (5, true) }) (v := ?_) 8 rfl ?_ ?_
          rotate_left
          · (intro w hSw; (try dsimp only at hSw); first | (go_simp; done) | (go_simp; with_reducible rfl))
          try simp only [Act.put, List.setIfInBounds_toArray, List.set_cons_zero, List.set_cons_succ]
          refine tk (oi := { dst := some 25, op := Op.indexAddr 26 (Operand.tmp 22) (Operand.tmp 24), type := 0, pos := "ref.go:93", after := #[{ on := 6, ground := Ground.data }, { on := 8, ground := Ground.data }, { on := 5, ground := Ground.guard }], guard := some (5, true) }) (v := ?_) 9 rfl ?_ ?_
          rotate_left
          · (intro w hSw; (try dsimp only at hSw); first | (go_simp; done) | (go_simp; with_reducible rfl))
          try simp only [Act.put, List.setIfInBounds_toArray, List.set_cons_zero, List.set_cons_succ]
          refine tk (oi := { dst := some 26, op := Op.load 23 (Operand.tmp 25), type := 23, pos := "ref.go:93", after := #[{ on := 9, ground := Ground.data }, { on := 5, ground := Ground.guard }], guard := some (5, true) }) (v := ?_) 10 rfl ?_ ?_
          rotate_left
          · (intro w hSw; (try dsimp only at hSw); first | (go_simp; done) | (go_simp; with_reducible rfl))
          try simp only [Act.put, List.setIfInBounds_toArray, List.set_cons_zero, List.set_cons_succ]
          refine tk (oi := { dst := some 27, op := Op.move (Operand.tmp 0), type := 26, pos := "ref.go:93", after := #[{ on := 5, ground := Ground.guard }], guard := some (5, true) }) (v := ?_) 11 rfl ?_ ?_
          rotate_left
          · (intro w hSw; (try dsimp only at hSw); first | (go_simp; done) | (go_simp; with_reducible rfl))
          try simp only [Act.put, List.setIfInBounds_toArray, List.set_cons_zero, List.set_cons_succ]
          refine tk (oi := { dst := some 28, op := Op.move (Operand.tmp 3), type := 3, pos := "ref.go:93", after := #[{ on := 5, ground := Ground.guard }], guard := some (5, true) }) (v := ?_) 12 rfl ?_ ?_
          rotate_left
          · (intro w hSw; (try dsimp only at hSw); first | (go_simp; done) | (go_simp; with_reducible rfl))
          try simp only [Act.put, List.setIfInBounds_toArray, List.set_cons_zero, List.set_cons_succ]
          refine tk (oi := { dst := some 29, op := Op.indexAddr 26 (Operand.tmp 27) (Operand.tmp 28), type := 0, pos := "ref.go:93", after := #[{ on := 11, ground := Ground.data }, { on := 12, ground := Ground.data }, { on := 5, ground := Ground.guard }], guard := some (5, true) }) (v := ?_) 13 rfl ?_ ?_
          rotate_left
          · (intro w hSw; (try dsimp only at hSw); first | (go_simp; done) | (go_simp; with_reducible rfl))
          try simp only [Act.put, List.setIfInBounds_toArray, List.set_cons_zero, List.set_cons_succ]
          refine tk (oi := { dst := some 30, op := Op.load 23 (Operand.tmp 29), type := 23, pos := "ref.go:93", after := #[{ on := 13, ground := Ground.data }, { on := 5, ground := Ground.guard }], guard := some (5, true) }) (v := ?_) 14 rfl ?_ ?_
          rotate_left
          · (intro w hSw; (try dsimp only at hSw); first | (go_simp; done) | (go_simp; with_reducible rfl))
          try simp only [Act.put, List.setIfInBounds_toArray, List.set_cons_zero, List.set_cons_succ]
          refine wpAnyH_ready (rs := [15]) (by kernel_rfl) (by simp) ?_
          refine AllReadyH.cons (o := { dst := some 31, op := Op.call { callee := Callee.value (Operand.func 19), args := #[Operand.tmp 26, Operand.tmp 30], argTypes := #[23, 23] }, type := 4, pos := "ref.go:93", after := #[{ on := 10, ground := Ground.data }, { on := 14, ground := Ground.data }, { on := 5, ground := Ground.chain }, { on := 5, ground := Ground.guard }], guard := some (5, true) }) rfl (fun K hK => ?_) AllReadyH.nil
          go_simp
          refine (rless_any e1 e0 w1.drew HE1.out HE.out).mono ?_
          rintro r w2 ⟨rfl, hb2⟩
          have HB2 := Lib.hid (HB1.out.drew.trans hb2)
          dsimp only
          refine hK.out _ _ ⟨⟨cell_later hb2 hHeld.1.1, cell_later hb2 hHeld.1.2.1, cell_later hb2 hHeld.1.2.2.1, cell_later hb2 hHeld.1.2.2.2⟩, cell_later hb2 hHeld.2.1, cell_later hb2 hHeld.2.2.1, cell_later hb2 hHeld.2.2.2.1, cell_later hb2 hHeld.2.2.2.2⟩ (fun hHeld => ?_)
          clear hK K
          try simp only [Act.put, List.setIfInBounds_toArray, List.set_cons_zero, List.set_cons_succ]
          refine tk (oi := { dst := some 32, op := Op.unOp UnOp.not 4 (Operand.tmp 31), type := 4, pos := "ref.go:93", after := #[{ on := 15, ground := Ground.data }, { on := 5, ground := Ground.guard }], guard := some (5, true) }) (v := ?_) 16 rfl ?_ ?_
          rotate_left
          · (intro w hSw; (try dsimp only at hSw); first | (go_simp; done) | (go_simp; with_reducible rfl))
          try simp only [Act.put, List.setIfInBounds_toArray, List.set_cons_zero, List.set_cons_succ]
          refine tk (oi := { dst := some 33, op := Op.pick (Operand.tmp 21) (Operand.tmp 32) (Operand.const (Value.bool false)), type := 4, pos := "ref.go:93", after := #[{ on := 5, ground := Ground.data }, { on := 16, ground := Ground.data }, { on := 2, ground := Ground.guard }], guard := some (2, false) }) (v := ?_) 17 rfl ?_ ?_
          rotate_left
          · (intro w hSw; (try dsimp only at hSw); first | (go_simp; done) | (go_simp; with_reducible rfl))
          try simp only [Act.put, List.setIfInBounds_toArray, List.set_cons_zero, List.set_cons_succ]
          refine tk (oi := { dst := some 34, op := Op.pick (Operand.tmp 18) (Operand.const (Value.bool true)) (Operand.tmp 33), type := 4, pos := "ref.go:93", after := #[{ on := 2, ground := Ground.data }, { on := 17, ground := Ground.data }], guard := none }) (v := ?_) 18 rfl ?_ ?_
          rotate_left
          · (intro w hSw; (try dsimp only at hSw); first | (go_simp; done) | (go_simp; with_reducible rfl))
          try simp only [Act.put, List.setIfInBounds_toArray, List.set_cons_zero, List.set_cons_succ]
          refine wpAnyH_done (by kernel_rfl) ?_ _
          clear hHeld hb2 b0 b1 b2 b3 d0 d1 d2 d3
          cases hlb : lessB e1 e0 with
          | false =>
            rw [hlb] at HN
            have HR := Lib.hid (stand_more HN.out)
            clear hlb
            go_wp2_with (fail)
            go_ret
            exact ⟨by rw [HR.out]; rfl, HB2.out⟩
          | true =>
            rw [hlb] at HN
            clear hlb
            go_wp2_with (fail)
            go_roundw
            case rel => exact ⟨⟨j + 1 + 1, hlt, by go_num, HN.out⟩, HB2.out⟩
            case measure => simp [intOf]; omega
    · obtain rfl : k = L.length := by omega
      clear hb
      rw [List.take_length] at HST
      go_wp2_with (fail)
      go_ret
      exact ⟨by rw [HST.out]; rfl, HB.out⟩
end Go.Proofs.YtllcdhbchcpdoaaGreatDoor
/- moultref10.Cites. -/
namespace Go.Proofs.YtllcdhbchcpdoaaGreatDoor
open Go.RowKit Go.Deep

theorem OwnG.put {α : Type} {E : El α} {B : Nat} {w : World} {g n cap : Nat} {L L' : List α} (h : OwnG E B w (.slice (some ⟨g, 0, none⟩) n cap) L) (m : Nat) (u : Value) (hm : m < L.length * E.n) (hL : L'.length = L.length) (hset : E.all L' = (E.all L).set m u) :
    OwnG E B (w.setCell ⟨g, m, none⟩ u) (.slice (some ⟨g, 0, none⟩) n cap) L' := by
  obtain ⟨h1, h2⟩ := h
  rcases h2 with ⟨hv, _⟩ | ⟨g', cap', cur, hv, hg, hh, hc, hcm, hcs, htk⟩
  · cases hv
  · simp only [Value.slice.injEq, Option.some.injEq, Addr.mk.injEq, and_true, true_and] at hv
    obtain ⟨rfl, rfl, rfl⟩ := hv
    refine ⟨by rw [hset, List.length_set, hL]; exact h1, Or.inr ⟨g, cap, cur.setIfInBounds m u, by rw [hL], hg, ?_, by rw [hL]; exact hc, hcm, by simpa using hcs, ?_⟩⟩
    · simp [World.setCell, Array.getElem?_modify, hh]
    · rw [hset, ← htk, hL, Array.toList_setIfInBounds, List.take_set]
theorem cts_set : ∀ (C : List CT) (k : Nat) (n : Nat) (h : k < C.length), ctEl.all (C.set k ⟨C[k].t, C[k].v, n⟩) = (ctEl.all C).set (k * 3 + 2) (.int .i64 (n : Int))
  | [], k, n, h => by simp at h
  | c :: C, 0, n, h => by
    simp [El.all, ctEl]
  | c :: C, k + 1, n, h => by
    have ih := cts_set C k n (by simpa using h)
    have e : (k + 1) * 3 + 2 = k * 3 + 2 + 1 + 1 + 1 := by omega
    rw [e]
    simp only [List.set_cons_succ, List.getElem_cons_succ]
    have e1 : ∀ (x : CT) (l : List CT), ctEl.all (x :: l) = .int .i64 (x.t : Int) :: .int .i64 (x.v : Int) :: .int .i64 (x.n : Int) :: ctEl.all l := fun x l => by simp [El.all, ctEl]
    rw [e1, e1, ih]
    simp only [List.set_cons_succ]
theorem own_cts {B : Nat} {w : World} {v : Value} {C : List CT} (h : OwnG ctEl B w v C) : (v = .slice none 0 0 ∧ C = []) ∨ ∃ g cap, v = .slice (some ⟨g, 0, none⟩) C.length cap ∧ B ≤ g ∧ g < w.heap.size ∧ C.length ≤ cap ∧ cap ≤ maxLen ∧ (∀ j, w.frozen? ⟨g, j, none⟩ = false) ∧
    ∀ i (hi : i < C.length), ∃ c, c = C[i] ∧ w.cell? ⟨g, i * 3, none⟩ = some (.int .i64 (c.t : Int)) ∧ w.cell? ⟨g, i * 3 + 1, none⟩ = some (.int .i64 (c.v : Int)) ∧ w.cell? ⟨g, i * 3 + 2, none⟩ = some (.int .i64 (c.n : Int)) := by
  have h0 := h
  rcases h.2 with ⟨hv, hl⟩ | ⟨g, cap, cur, rfl, hg, hh, hcap, hcm, _⟩
  · exact Or.inl ⟨hv, List.length_eq_zero_iff.1 hl⟩
  · have hlt : g < w.heap.size := (Array.getElem?_eq_some_iff.1 hh).1
    refine Or.inr ⟨g, cap, rfl, hg, hlt, hcap, hcm, fun j => by simp [World.frozen?, hh], fun i hi => ?_⟩
    obtain ⟨g', cap', hv, _, _, _, hc'⟩ := ownG_cells ctOk h0 (fun e => by rw [e] at hi; simp at hi)
    simp only [Value.slice.injEq, Option.some.injEq, Addr.mk.injEq, and_true, true_and] at hv
    obtain ⟨rfl, rfl⟩ := hv
    exact ⟨C[i], rfl, hc' i C[i] (List.getElem?_eq_getElem hi) 0 _ rfl, hc' i C[i] (List.getElem?_eq_getElem hi) 1 _ rfl, hc' i C[i] (List.getElem?_eq_getElem hi) 2 _ rfl⟩
theorem El.all_drop {α : Type} {E : El α} {b : Nat} (hE : ElOk E b) (L : List α) (i : Nat) (hi : i ≤ L.length) : E.all (L.drop i) = (E.all L).drop (i * E.n) := by
  conv => rhs; rw [← List.take_append_drop i L, El.all_append]
  rw [List.drop_left' (by rw [El.all_len hE, List.length_take]; congr 1; omega)]
theorem El.all_take {α : Type} {E : El α} {b : Nat} (hE : ElOk E b) (L : List α) (i : Nat) (hi : i ≤ L.length) : E.all (L.take i) = (E.all L).take (i * E.n) := by
  conv => rhs; rw [← List.take_append_drop i L, El.all_append]
  rw [List.take_left' (by rw [El.all_len hE, List.length_take]; congr 1; omega)]
theorem add_any (g m : Nat) : (⟨g, 0, none⟩ : Addr).add m = ⟨g, m, none⟩ := by cases m <;> simp [Addr.add]
theorem own_piece {α : Type} {E : El α} {b : Nat} (hE : ElOk E b) {B : Nat} {x : World} {g n cap : Nat} {L : List α} (h : OwnG E B x (.slice (some ⟨g, 0, none⟩) n cap) L) (i m c : Nat) (hi : i + m ≤ L.length) :
    SrcAt E x (.slice (some ⟨g, i * E.n, none⟩) m c) ((L.drop i).take m) := by
  have hl : ((L.drop i).take m).length = m := by rw [List.length_take, List.length_drop]; omega
  refine Or.inr ⟨_, c, by rw [hl], fun j u hj => ?_⟩
  rw [El.all_take hE _ _ (by rw [List.length_drop]; omega), El.all_drop hE _ _ (by omega)] at hj
  have hjm : j < m * E.n := by
    rcases Nat.lt_or_ge j (m * E.n) with h | h
    · exact h
    · rw [List.getElem?_eq_none (by rw [List.length_take]; omega)] at hj; cases hj
  rw [List.getElem?_take_of_lt hjm, List.getElem?_drop] at hj
  have := World.ownsRow.cells h rfl _ _ hj
  have e1 : (⟨g, 0, none⟩ : Addr).add (i * E.n + j) = ⟨g, i * E.n + j, none⟩ := add_any g _
  have e2 : (⟨g, i * E.n, none⟩ : Addr).add j = ⟨g, i * E.n + j, none⟩ := by cases j <;> simp [Addr.add]
  rw [e2, ← e1]; exact this
theorem add3 (g k : Nat) : (⟨g, 0, none⟩ : Addr).add (k * 3) = ⟨g, k * 3, none⟩ := by
  by_cases h : k * 3 = 0
  · rw [h]; rfl
  · simp [Addr.add, h]
theorem ct_less (c : CT) (a b : Nat) : ctLess c a b = (decide ((c.t : Int) < a) || (((c.t : Int) == a) && decide ((c.v : Int) < b))) := by
  unfold ctLess
  have e1 : decide (c.t < a) = decide ((c.t : Int) < a) := by congr 1; exact propext (by omega)
  have e2 : decide (c.t = a) = ((c.t : Int) == a) := by
    by_cases h : c.t = a
    · rw [decide_eq_true h, h]; simp
    · rw [decide_eq_false h]; symm; rw [beq_eq_false_iff_ne]; omega
  have e3 : decide (c.v < b) = decide ((c.v : Int) < b) := by congr 1; exact propext (by omega)
  rw [e1, e2, e3]
theorem cites_take {L : List EB} {k : Nat} (h : k < L.length) : citesB (L.take (k + 1)) = stepC (citesB (L.take k)) L[k] := by
  rw [List.take_add_one, List.getElem?_eq_getElem h, Option.toList_some, cites_snoc]
theorem step_none {out : List CT} {e : EB} (h : citeE e = none) : stepC out e = out := by unfold stepC; rw [h]
theorem step_some {out : List CT} {e : EB} {a b : Nat} (h : citeE e = some (a, b)) : stepC out e = addC a b out := by unfold stepC; rw [h]
set_option maxHeartbeats 4000000 in
set_option maxRecDepth 20000 in
theorem rcites_any (p : Option Addr) (cap : Nat) (L : List EB) (w : World) (h : EntsAt w p L) (hL : L.length ≤ 100000) (hs : ∀ e ∈ L, e.v.size ≤ 1000000) :
    Calls Tryz.prog 77 #[.slice p L.length cap] w fun e w' => ∃ v, e = .returned v ∧ OwnG ctEl w.heap.size w' v (citesB L) ∧ Bel w w' := by
  have H := Lib.hid h; clear h
  have HS := Lib.hid hs; clear hs
  go_enter Tryz.func77, Tryz.ntmps77
  go_wp2_with (fail)
  go_loopw [3, 4] (fun cv iv x => ∃ k : Nat, k ≤ L.length ∧ iv = .int .i64 k ∧ OwnG ctEl w.heap.size x cv (citesB (L.take k)) ∧ Bel w x) (fun _ iv _ => L.length - (intOf iv).toNat)
  case atStart => exact ⟨0, Nat.zero_le _, rfl, OwnG.nil _ _ _, Bel.refl w⟩
  case round =>
    obtain ⟨i, hi, rfl, hown, hb⟩ := hrel
    have HB := Lib.hid hb
    by_cases hlt : i < L.length
    · obtain ⟨a0, e0, rfl, he0, B, O, sp, ha, c0, c1, c2, c3⟩ := (H.out.bel hb).get hlt
      have HV := Lib.hid (show e0.v.size ≤ 1000000 by rw [he0]; exact HS.out _ (List.getElem_mem hlt))
      have HN := Lib.hid (cites_take hlt)
      rw [← he0] at HN
      have hcl := cites_len (L.take i)
      have hcs := cites_small (L.take i)
      rw [List.length_take] at hcl hcs
      obtain ⟨C, hC⟩ : ∃ C, citesB (L.take i) = C := ⟨_, rfl⟩
      rw [hC] at hown HN hcl hcs
      have HO := Lib.hid hown
      have HCS := Lib.hid hcs
      obtain ⟨cp, ccap, rfl⟩ := ownG_len hown
      clear hb hC hown hcs he0
      have hci : C.length ≤ i := by omega
      clear hcl
      go_wp2_with (fail)
      refine (rcite_any e0.v wr HV.out).mono ?_
      cases hcite : citeL e0.v.data.toList with
      | none =>
        rw [citeV_none hcite]
        rintro r w1 ⟨rfl, hb⟩
        have HB1 := Lib.hid (HB.out.trans hb)
        have HO1 := Lib.hid (HO.out.bel hb)
        have HST := Lib.hid (step_none (out := C) (show citeE e0 = none by unfold citeE; rw [hcite]; split <;> rfl))
        clear hb hcite
        go_wp2_with (fail)
        go_roundw
        case rel => exact ⟨i + 1, hlt, by go_num, by rw [HN.out, HST.out]; exact HO1.out, HB1.out⟩
        case measure => simp [intOf]; omega
      | some pr =>
        obtain ⟨a, b⟩ := pr
        rw [citeV_some hcite]
        obtain ⟨ha1, hb1⟩ := cite_le hcite
        rintro r w1 ⟨rfl, hb⟩
        have HB1 := Lib.hid (HB.out.trans hb)
        have HO1 := Lib.hid (HO.out.bel hb)
        have d2 := cell_later hb c2
        cases hd : e0.d with
        | true =>
          have HST := Lib.hid (step_none (out := C) (show citeE e0 = none by unfold citeE; rw [hd]; rfl))
          rw [hd] at d2
          clear hb hcite hd c0 c1 c2 c3
          go_wp2_with (fail)
          go_roundw
          case rel => exact ⟨i + 1, hlt, by go_num, by rw [HN.out, HST.out]; exact HO1.out, HB1.out⟩
          case measure => simp [intOf]; omega
        | false =>
          have HST := Lib.hid (step_some (out := C) (show citeE e0 = some (a, b) by unfold citeE; rw [hd]; exact hcite))
          rw [hd] at d2
          clear hb hcite hd c0 c1 c2 c3
          rcases own_cts HO1.out with ⟨hvn, hCn⟩ | ⟨g, cap2, hv, hg, hgl, hcap2, hcm, hfz, hcells⟩
          · subst hCn
            simp only [List.length_nil, Value.slice.injEq] at hvn
            obtain ⟨rfl, -, rfl⟩ := hvn
            go_wp2_with (fail)
            go_loopw [8] (fun kv x => kv = .int .i64 0 ∧ Drw w1 x) (fun kv _ => 0)
            case atStart => exact ⟨rfl, Drw.refl w1⟩
            case round =>
              obtain ⟨rfl, hw⟩ := hrel
              obtain ⟨C, hC⟩ : ∃ C : List CT, C = [] := ⟨_, rfl⟩
              obtain ⟨k, hk⟩ : ∃ k : Nat, k = 0 := ⟨_, rfl⟩
              have HBW := Lib.hid (HB1.out.trans hw.bel)
              have HS1 := Lib.hid (show ∀ x, Bel wr x → SrcAt ctEl x (.slice none 0 0) (C.take k) from fun x _ => Or.inl ⟨rfl, by rw [hC]; simp⟩)
              have HS2 := Lib.hid (show ∀ x, Bel wr x → SrcAt ctEl x (.slice none 0 0) (C.drop k) from fun x _ => Or.inl ⟨rfl, by rw [hC, hk]; rfl⟩)
              have HADD := Lib.hid (show addC a b C = C.take k ++ ⟨a, b, 1⟩ :: C.drop k by rw [hC, hk]; rfl)
              have hCl : C.length ≤ i := by rw [hC]; exact Nat.zero_le _
              rw [show addC a b [] = addC a b C by rw [hC]] at HST
              rw [← hC] at HN HST
              have hkl : k ≤ C.length := by rw [hk]; exact Nat.zero_le _
              clear hw hC hk
              go_wp2_with (fail)
              have HBR := Lib.hid (Bel.refl wr)
              refine wp_region_held_drew (S := fun z => True) (by kernel_rfl) trivial (fun hHeld => ?_)
              refine tk (oi := { dst := some 98, op := Op.move (Operand.tmp 3), type := 47, pos := "ref.go:116", after := #[], guard := none }) (v := ?_) 1 rfl ?_ ?_
              rotate_left
              · (intro w hSw; (try dsimp only at hSw); first | (go_simp; done) | (go_simp; with_reducible rfl))
              try simp only [Act.put, List.setIfInBounds_toArray, List.set_cons_zero, List.set_cons_succ]
              refine tk (oi := { dst := some 99, op := Op.move (Operand.tmp 8), type := 3, pos := "ref.go:116", after := #[], guard := none }) (v := ?_) 2 rfl ?_ ?_
              rotate_left
              · (intro w hSw; (try dsimp only at hSw); first | (go_simp; done) | (go_simp; with_reducible rfl))
              try simp only [Act.put, List.setIfInBounds_toArray, List.set_cons_zero, List.set_cons_succ]
              refine tk (oi := { dst := some 100, op := Op.slice 47 (Operand.tmp 98) none (some (Operand.tmp 99)) none, type := 47, pos := "ref.go:116", after := #[{ on := 1, ground := Ground.data }, { on := 2, ground := Ground.data }], guard := none }) (v := ?_) 3 rfl ?_ ?_
              rotate_left
              · (intro w hSw; (try dsimp only at hSw); first | (go_simp; done) | (go_simp; with_reducible rfl))
              try simp only [Act.put, List.setIfInBounds_toArray, List.set_cons_zero, List.set_cons_succ]
              refine tk (oi := { dst := some 102, op := Op.move (Operand.tmp 5), type := 3, pos := "ref.go:116", after := #[], guard := none }) (v := ?_) 5 rfl ?_ ?_
              rotate_left
              · (intro w hSw; (try dsimp only at hSw); first | (go_simp; done) | (go_simp; with_reducible rfl))
              try simp only [Act.put, List.setIfInBounds_toArray, List.set_cons_zero, List.set_cons_succ]
              refine tk (oi := { dst := some 103, op := Op.move (Operand.tmp 6), type := 3, pos := "ref.go:116", after := #[], guard := none }) (v := ?_) 6 rfl ?_ ?_
              rotate_left
              · (intro w hSw; (try dsimp only at hSw); first | (go_simp; done) | (go_simp; with_reducible rfl))
              try simp only [Act.put, List.setIfInBounds_toArray, List.set_cons_zero, List.set_cons_succ]
              refine tk (oi := { dst := some 104, op := Op.build 50 #[(0, Operand.tmp 102), (1, Operand.tmp 103), (2, Operand.const (Value.int IntKind.i64 1))], type := 50, pos := "ref.go:116", after := #[{ on := 5, ground := Ground.data }, { on := 6, ground := Ground.data }], guard := none }) (v := ?_) 7 rfl ?_ ?_
              rotate_left
              · (intro w hSw; (try dsimp only at hSw); first | (go_simp; done) | (go_simp; with_reducible rfl))
              try simp only [Act.put, List.setIfInBounds_toArray, List.set_cons_zero, List.set_cons_succ]
              refine tk (oi := { dst := some 107, op := Op.move (Operand.tmp 3), type := 47, pos := "ref.go:116", after := #[], guard := none }) (v := ?_) 10 rfl ?_ ?_
              rotate_left
              · (intro w hSw; (try dsimp only at hSw); first | (go_simp; done) | (go_simp; with_reducible rfl))
              try simp only [Act.put, List.setIfInBounds_toArray, List.set_cons_zero, List.set_cons_succ]
              refine tk (oi := { dst := some 108, op := Op.move (Operand.tmp 8), type := 3, pos := "ref.go:116", after := #[], guard := none }) (v := ?_) 11 rfl ?_ ?_
              rotate_left
              · (intro w hSw; (try dsimp only at hSw); first | (go_simp; done) | (go_simp; with_reducible rfl))
              try simp only [Act.put, List.setIfInBounds_toArray, List.set_cons_zero, List.set_cons_succ]
              refine tk (oi := { dst := some 109, op := Op.slice 47 (Operand.tmp 107) (some (Operand.tmp 108)) none none, type := 47, pos := "ref.go:116", after := #[{ on := 10, ground := Ground.data }, { on := 11, ground := Ground.data }], guard := none }) (v := ?_) 12 rfl ?_ ?_
              rotate_left
              · (intro w hSw; (try dsimp only at hSw); first | (go_simp; done) | (go_simp; with_reducible rfl))
              try simp only [Act.put, List.setIfInBounds_toArray, List.set_cons_zero, List.set_cons_succ]
              refine wpAnyH_ready (rs := [0, 8]) (by kernel_rfl) (by simp) ?_
              refine (AllReadyH.cons (o := { dst := some 97, op := Op.buildSlice 47 0 #[], type := 47, pos := "ref.go:116", after := #[], guard := none }) rfl (fun K hK => ?_) (AllReadyH.cons (o := { dst := some 105, op := Op.buildSlice 47 1 #[(0, Operand.tmp 104)], type := 47, pos := "ref.go:116", after := #[{ on := 7, ground := Ground.data }], guard := none }) rfl (fun K hK => ?_) AllReadyH.nil))
              · go_simp
                refine hK.out _ _ trivial (fun hHeld => ?_)
                clear hK K
                try simp only [Act.put, List.setIfInBounds_toArray, List.set_cons_zero, List.set_cons_succ]
                obtain ⟨z1, hz1⟩ : ∃ x, x = (wr.alloc (.cells #[] 50)).drew := ⟨_, rfl⟩
                have HLE := Lib.hid (show z1.heap[wr.heap.size]? = some (.cells #[] 50 (0, 0)) by rw [hz1]; exact heap_alloc_new wr (.cells #[] 50))
                have hltE : wr.heap.size < z1.heap.size := (Array.getElem?_eq_some_iff.1 HLE.out).1
                have hbz1 : Bel wr z1 := by rw [hz1]; exact ((Bel.refl wr).alloc _).drew
                have HBz1 := Lib.hid (HBR.out.trans hbz1)
                rw [← hz1]
                clear hz1
                have HOE := Lib.hid (ownG_empty (E := ctEl) (n := wr.heap.size) HLE.out HBR.out.size)
                refine wpAnyH_ready (rs := [4, 8]) (by kernel_rfl) (by simp) ?_
                refine (AllReadyH.cons (o := { dst := some 101, op := Op.call { callee := Callee.builtin Builtin.append, args := #[Operand.tmp 97, Operand.tmp 100], argTypes := #[47, 47] }, type := 47, pos := "ref.go:116", after := #[{ on := 0, ground := Ground.data }, { on := 3, ground := Ground.data }], guard := none }) rfl (fun K hK => ?_) (AllReadyH.cons (o := { dst := some 105, op := Op.buildSlice 47 1 #[(0, Operand.tmp 104)], type := 47, pos := "ref.go:116", after := #[{ on := 7, ground := Ground.data }], guard := none }) rfl (fun K hK => ?_) AllReadyH.nil))
                · refine step_append_all ctOk rfl (.tmp 97) (.tmp 100) rfl rfl HOE.out (C.take k) rfl (HS1.out z1 HBz1.out) (by simp only [List.length_nil, List.length_take]; unfold maxLen; omega) (by simp only [List.length_nil, List.length_take]; omega) HBz1.out.size ?_
                  intro vz2 z2 hoz2 hkz2 _
                  have HBz2 := Lib.hid (show Bel wr z2 from HBz1.out.trans_below (hkz2.own HBz1.out.size (fun kk hkk => (HOE.out.lt kk hkk).1)))
                  rw [List.nil_append] at hoz2
                  have hkkz2 : Keep (Value.ownBlock (.slice (some ⟨wr.heap.size, 0, none⟩) 0 0)).toList z1 z2 := hkz2
                  have HO2 := Lib.hid hoz2
                  clear hoz2 hkz2 hkkz2
                  refine hK.out _ _ trivial (fun hHeld => ?_)
                  clear hK K
                  try simp only [Act.put, List.setIfInBounds_toArray, List.set_cons_zero, List.set_cons_succ]
                  refine wpAnyH_ready (rs := [8]) (by kernel_rfl) (by simp) ?_
                  refine AllReadyH.cons (o := { dst := some 105, op := Op.buildSlice 47 1 #[(0, Operand.tmp 104)], type := 47, pos := "ref.go:116", after := #[{ on := 7, ground := Ground.data }], guard := none }) rfl (fun K hK => ?_) AllReadyH.nil
                  go_simp
                  refine hK.out _ _ trivial (fun hHeld => ?_)
                  clear hK K
                  try simp only [Act.put, List.setIfInBounds_toArray, List.set_cons_zero, List.set_cons_succ]
                  obtain ⟨z3, hz3⟩ : ∃ x, x = (z2.alloc (.cells #[.int .i64 (a : Int), .int .i64 (b : Int), .int .i64 1] 50)) := ⟨_, rfl⟩
                  have HLL := Lib.hid (show z3.heap[z2.heap.size]? = some (.cells #[.int .i64 (a : Int), .int .i64 (b : Int), .int .i64 1] 50 (0, 0)) by rw [hz3]; exact heap_alloc_new z2 (.cells #[.int .i64 (a : Int), .int .i64 (b : Int), .int .i64 1] 50))
                  have hltL : z2.heap.size < z3.heap.size := (Array.getElem?_eq_some_iff.1 HLL.out).1
                  have hbz3 : Bel z2 z3 := by rw [hz3]; exact ((Bel.refl z2).alloc _)
                  have HBz3 := Lib.hid (HBz2.out.trans hbz3)
                  rw [← hz3]
                  clear hz3
                  have HO2b := Lib.hid (HO2.out.bel hbz3)
                  refine wpAnyH_ready (rs := [9]) (by kernel_rfl) (by simp) ?_
                  refine AllReadyH.cons (o := { dst := some 106, op := Op.call { callee := Callee.builtin Builtin.append, args := #[Operand.tmp 101, Operand.tmp 105], argTypes := #[47, 47] }, type := 47, pos := "ref.go:116", after := #[{ on := 4, ground := Ground.data }, { on := 8, ground := Ground.data }, { on := 4, ground := Ground.chain }], guard := none }) rfl (fun K hK => ?_) AllReadyH.nil
                  refine step_append_all ctOk rfl (.tmp 101) (.tmp 105) rfl rfl HO2b.out [CT.mk a b 1] rfl (src_at [CT.mk a b 1] HLL.out rfl rfl) (by simp only [List.length_take, List.length_singleton]; unfold maxLen; omega) (by simp only [List.length_take, List.length_singleton]; omega) HBz3.out.size ?_
                  intro vz4 z4 hoz4 hkz4 _
                  have HBz4 := Lib.hid (show Bel wr z4 from HBz3.out.trans_below (hkz4.own HBz3.out.size (fun kk hkk => (HO2b.out.lt kk hkk).1)))
                  have HO3 := Lib.hid hoz4
                  clear hoz4 hkz4
                  refine hK.out _ _ trivial (fun hHeld => ?_)
                  clear hK K
                  try simp only [Act.put, List.setIfInBounds_toArray, List.set_cons_zero, List.set_cons_succ]
                  refine wpAnyH_ready (rs := [13]) (by kernel_rfl) (by simp) ?_
                  refine AllReadyH.cons (o := { dst := some 110, op := Op.call { callee := Callee.builtin Builtin.append, args := #[Operand.tmp 106, Operand.tmp 109], argTypes := #[47, 47] }, type := 47, pos := "ref.go:116", after := #[{ on := 9, ground := Ground.data }, { on := 12, ground := Ground.data }, { on := 9, ground := Ground.chain }], guard := none }) rfl (fun K hK => ?_) AllReadyH.nil
                  refine step_append_all ctOk rfl (.tmp 106) (.tmp 109) rfl rfl HO3.out (C.drop k) rfl (HS2.out z4 HBz4.out) (by simp only [List.length_append, List.length_take, List.length_singleton, List.length_drop]; unfold maxLen; omega) (by simp only [List.length_append, List.length_take, List.length_singleton, List.length_drop]; omega) HBz4.out.size ?_
                  intro vz5 z5 hoz5 hkz5 _
                  have HBz5 := Lib.hid (show Bel wr z5 from HBz4.out.trans_below (hkz5.own HBz4.out.size (fun kk hkk => (HO3.out.lt kk hkk).1)))
                  have HO4 := Lib.hid hoz5
                  clear hoz5 hkz5
                  refine hK.out _ _ trivial (fun hHeld => ?_)
                  clear hK K
                  try simp only [Act.put, List.setIfInBounds_toArray, List.set_cons_zero, List.set_cons_succ]
                  refine tk (oi := { dst := some 3, op := Op.assign (Operand.tmp 110), type := 47, pos := "ref.go:116", after := #[{ on := 13, ground := Ground.data }, { on := 13, ground := Ground.chain }, { on := 0, ground := Ground.phase }, { on := 1, ground := Ground.phase }, { on := 2, ground := Ground.phase }, { on := 3, ground := Ground.phase }, { on := 4, ground := Ground.phase }, { on := 5, ground := Ground.phase }, { on := 6, ground := Ground.phase }, { on := 7, ground := Ground.phase }, { on := 8, ground := Ground.phase }, { on := 9, ground := Ground.phase }, { on := 10, ground := Ground.phase }, { on := 11, ground := Ground.phase }, { on := 12, ground := Ground.phase }, { on := 13, ground := Ground.phase }], guard := none }) (v := ?_) 14 rfl ?_ ?_
                  rotate_left
                  · (intro w hSw; (try dsimp only at hSw); first | (go_simp; done) | (go_simp; with_reducible rfl))
                  try simp only [Act.put, List.setIfInBounds_toArray, List.set_cons_zero, List.set_cons_succ]
                  refine wpAnyH_done (by kernel_rfl) ?_ _
                  have HFIN := Lib.hid (show C.take k ++ [CT.mk a b 1] ++ C.drop k = addC a b C by rw [HADD.out]; simp)
                  have HOF := Lib.hid (show OwnG ctEl w.heap.size z5 vz5 (addC a b C) by rw [← HFIN.out]; exact HO4.out.low HBW.out.size)
                  obtain ⟨pf, cf, hvf⟩ := ownG_len HOF.out
                  rw [hvf] at HOF ⊢
                  clear hvf
                  generalize (addC a b C).length = nf at *
                  clear hHeld
                  go_wp2_with (fail)
                  go_roundw
                  case rel => exact ⟨i + 1, hlt, by go_num, by rw [HN.out, HST.out]; exact HOF.out, HBW.out.trans HBz5.out⟩
                  case measure => simp [intOf]; omega
                · go_simp
                  refine hK.out _ _ trivial (fun hHeld => ?_)
                  clear hK K
                  try simp only [Act.put, List.setIfInBounds_toArray, List.set_cons_zero, List.set_cons_succ]
                  obtain ⟨z2, hz2⟩ : ∃ x, x = (z1.alloc (.cells #[.int .i64 (a : Int), .int .i64 (b : Int), .int .i64 1] 50)) := ⟨_, rfl⟩
                  have HLL := Lib.hid (show z2.heap[z1.heap.size]? = some (.cells #[.int .i64 (a : Int), .int .i64 (b : Int), .int .i64 1] 50 (0, 0)) by rw [hz2]; exact heap_alloc_new z1 (.cells #[.int .i64 (a : Int), .int .i64 (b : Int), .int .i64 1] 50))
                  have hltL : z1.heap.size < z2.heap.size := (Array.getElem?_eq_some_iff.1 HLL.out).1
                  have hbz2 : Bel z1 z2 := by rw [hz2]; exact ((Bel.refl z1).alloc _)
                  have HBz2 := Lib.hid (HBz1.out.trans hbz2)
                  rw [← hz2]
                  clear hz2
                  have HOE2 := Lib.hid (HOE.out.bel hbz2)
                  refine wpAnyH_ready (rs := [4]) (by kernel_rfl) (by simp) ?_
                  refine AllReadyH.cons (o := { dst := some 101, op := Op.call { callee := Callee.builtin Builtin.append, args := #[Operand.tmp 97, Operand.tmp 100], argTypes := #[47, 47] }, type := 47, pos := "ref.go:116", after := #[{ on := 0, ground := Ground.data }, { on := 3, ground := Ground.data }], guard := none }) rfl (fun K hK => ?_) AllReadyH.nil
                  refine step_append_all ctOk rfl (.tmp 97) (.tmp 100) rfl rfl HOE2.out (C.take k) rfl (HS1.out z2 HBz2.out) (by simp only [List.length_nil, List.length_take]; unfold maxLen; omega) (by simp only [List.length_nil, List.length_take]; omega) HBz2.out.size ?_
                  intro vz3 z3 hoz3 hkz3 _
                  have HBz3 := Lib.hid (show Bel wr z3 from HBz2.out.trans_below (hkz3.own HBz2.out.size (fun kk hkk => (HOE2.out.lt kk hkk).1)))
                  rw [List.nil_append] at hoz3
                  have hkkz3 : Keep (Value.ownBlock (.slice (some ⟨wr.heap.size, 0, none⟩) 0 0)).toList z2 z3 := hkz3
                  have HLL3 := Lib.hid (hkkz3.at HLL.out (fun hm => by rw [Option.mem_toList] at hm; simp only [Value.ownBlock, Option.some.injEq] at hm; omega))
                  have HO2 := Lib.hid hoz3
                  clear hoz3 hkz3 hkkz3
                  refine hK.out _ _ trivial (fun hHeld => ?_)
                  clear hK K
                  try simp only [Act.put, List.setIfInBounds_toArray, List.set_cons_zero, List.set_cons_succ]
                  refine wpAnyH_ready (rs := [9]) (by kernel_rfl) (by simp) ?_
                  refine AllReadyH.cons (o := { dst := some 106, op := Op.call { callee := Callee.builtin Builtin.append, args := #[Operand.tmp 101, Operand.tmp 105], argTypes := #[47, 47] }, type := 47, pos := "ref.go:116", after := #[{ on := 4, ground := Ground.data }, { on := 8, ground := Ground.data }, { on := 4, ground := Ground.chain }], guard := none }) rfl (fun K hK => ?_) AllReadyH.nil
                  refine step_append_all ctOk rfl (.tmp 101) (.tmp 105) rfl rfl HO2.out [CT.mk a b 1] rfl (src_at [CT.mk a b 1] HLL3.out rfl rfl) (by simp only [List.length_take, List.length_singleton]; unfold maxLen; omega) (by simp only [List.length_take, List.length_singleton]; omega) HBz3.out.size ?_
                  intro vz4 z4 hoz4 hkz4 _
                  have HBz4 := Lib.hid (show Bel wr z4 from HBz3.out.trans_below (hkz4.own HBz3.out.size (fun kk hkk => (HO2.out.lt kk hkk).1)))
                  have HO3 := Lib.hid hoz4
                  clear hoz4 hkz4
                  refine hK.out _ _ trivial (fun hHeld => ?_)
                  clear hK K
                  try simp only [Act.put, List.setIfInBounds_toArray, List.set_cons_zero, List.set_cons_succ]
                  refine wpAnyH_ready (rs := [13]) (by kernel_rfl) (by simp) ?_
                  refine AllReadyH.cons (o := { dst := some 110, op := Op.call { callee := Callee.builtin Builtin.append, args := #[Operand.tmp 106, Operand.tmp 109], argTypes := #[47, 47] }, type := 47, pos := "ref.go:116", after := #[{ on := 9, ground := Ground.data }, { on := 12, ground := Ground.data }, { on := 9, ground := Ground.chain }], guard := none }) rfl (fun K hK => ?_) AllReadyH.nil
                  refine step_append_all ctOk rfl (.tmp 106) (.tmp 109) rfl rfl HO3.out (C.drop k) rfl (HS2.out z4 HBz4.out) (by simp only [List.length_append, List.length_take, List.length_singleton, List.length_drop]; unfold maxLen; omega) (by simp only [List.length_append, List.length_take, List.length_singleton, List.length_drop]; omega) HBz4.out.size ?_
                  intro vz5 z5 hoz5 hkz5 _
                  have HBz5 := Lib.hid (show Bel wr z5 from HBz4.out.trans_below (hkz5.own HBz4.out.size (fun kk hkk => (HO3.out.lt kk hkk).1)))
                  have HO4 := Lib.hid hoz5
                  clear hoz5 hkz5
                  refine hK.out _ _ trivial (fun hHeld => ?_)
                  clear hK K
                  try simp only [Act.put, List.setIfInBounds_toArray, List.set_cons_zero, List.set_cons_succ]
                  refine tk (oi := { dst := some 3, op := Op.assign (Operand.tmp 110), type := 47, pos := "ref.go:116", after := #[{ on := 13, ground := Ground.data }, { on := 13, ground := Ground.chain }, { on := 0, ground := Ground.phase }, { on := 1, ground := Ground.phase }, { on := 2, ground := Ground.phase }, { on := 3, ground := Ground.phase }, { on := 4, ground := Ground.phase }, { on := 5, ground := Ground.phase }, { on := 6, ground := Ground.phase }, { on := 7, ground := Ground.phase }, { on := 8, ground := Ground.phase }, { on := 9, ground := Ground.phase }, { on := 10, ground := Ground.phase }, { on := 11, ground := Ground.phase }, { on := 12, ground := Ground.phase }, { on := 13, ground := Ground.phase }], guard := none }) (v := ?_) 14 rfl ?_ ?_
                  rotate_left
                  · (intro w hSw; (try dsimp only at hSw); first | (go_simp; done) | (go_simp; with_reducible rfl))
                  try simp only [Act.put, List.setIfInBounds_toArray, List.set_cons_zero, List.set_cons_succ]
                  refine wpAnyH_done (by kernel_rfl) ?_ _
                  have HFIN := Lib.hid (show C.take k ++ [CT.mk a b 1] ++ C.drop k = addC a b C by rw [HADD.out]; simp)
                  have HOF := Lib.hid (show OwnG ctEl w.heap.size z5 vz5 (addC a b C) by rw [← HFIN.out]; exact HO4.out.low HBW.out.size)
                  obtain ⟨pf, cf, hvf⟩ := ownG_len HOF.out
                  rw [hvf] at HOF ⊢
                  clear hvf
                  generalize (addC a b C).length = nf at *
                  clear hHeld
                  go_wp2_with (fail)
                  go_roundw
                  case rel => exact ⟨i + 1, hlt, by go_num, by rw [HN.out, HST.out]; exact HOF.out, HBW.out.trans HBz5.out⟩
                  case measure => simp [intOf]; omega
              · go_simp
                refine hK.out _ _ trivial (fun hHeld => ?_)
                clear hK K
                try simp only [Act.put, List.setIfInBounds_toArray, List.set_cons_zero, List.set_cons_succ]
                obtain ⟨z1, hz1⟩ : ∃ x, x = (wr.alloc (.cells #[.int .i64 (a : Int), .int .i64 (b : Int), .int .i64 1] 50)).drew := ⟨_, rfl⟩
                have HLL := Lib.hid (show z1.heap[wr.heap.size]? = some (.cells #[.int .i64 (a : Int), .int .i64 (b : Int), .int .i64 1] 50 (0, 0)) by rw [hz1]; exact heap_alloc_new wr (.cells #[.int .i64 (a : Int), .int .i64 (b : Int), .int .i64 1] 50))
                have hltL : wr.heap.size < z1.heap.size := (Array.getElem?_eq_some_iff.1 HLL.out).1
                have hbz1 : Bel wr z1 := by rw [hz1]; exact ((Bel.refl wr).alloc _).drew
                have HBz1 := Lib.hid (HBR.out.trans hbz1)
                rw [← hz1]
                clear hz1
                refine wpAnyH_ready (rs := [0]) (by kernel_rfl) (by simp) ?_
                refine AllReadyH.cons (o := { dst := some 97, op := Op.buildSlice 47 0 #[], type := 47, pos := "ref.go:116", after := #[], guard := none }) rfl (fun K hK => ?_) AllReadyH.nil
                go_simp
                refine hK.out _ _ trivial (fun hHeld => ?_)
                clear hK K
                try simp only [Act.put, List.setIfInBounds_toArray, List.set_cons_zero, List.set_cons_succ]
                obtain ⟨z2, hz2⟩ : ∃ x, x = (z1.alloc (.cells #[] 50)) := ⟨_, rfl⟩
                have HLE := Lib.hid (show z2.heap[z1.heap.size]? = some (.cells #[] 50 (0, 0)) by rw [hz2]; exact heap_alloc_new z1 (.cells #[] 50))
                have hltE : z1.heap.size < z2.heap.size := (Array.getElem?_eq_some_iff.1 HLE.out).1
                have hbz2 : Bel z1 z2 := by rw [hz2]; exact ((Bel.refl z1).alloc _)
                have HBz2 := Lib.hid (HBz1.out.trans hbz2)
                rw [← hz2]
                clear hz2
                have HOE := Lib.hid (ownG_empty (E := ctEl) (n := wr.heap.size) HLE.out HBz1.out.size)
                have HLL2 := Lib.hid ((Below.block hbz2 wr.heap.size (by omega)).trans HLL.out)
                refine wpAnyH_ready (rs := [4]) (by kernel_rfl) (by simp) ?_
                refine AllReadyH.cons (o := { dst := some 101, op := Op.call { callee := Callee.builtin Builtin.append, args := #[Operand.tmp 97, Operand.tmp 100], argTypes := #[47, 47] }, type := 47, pos := "ref.go:116", after := #[{ on := 0, ground := Ground.data }, { on := 3, ground := Ground.data }], guard := none }) rfl (fun K hK => ?_) AllReadyH.nil
                refine step_append_all ctOk rfl (.tmp 97) (.tmp 100) rfl rfl HOE.out (C.take k) rfl (HS1.out z2 HBz2.out) (by simp only [List.length_nil, List.length_take]; unfold maxLen; omega) (by simp only [List.length_nil, List.length_take]; omega) HBz2.out.size ?_
                intro vz3 z3 hoz3 hkz3 _
                have HBz3 := Lib.hid (show Bel wr z3 from HBz2.out.trans_below (hkz3.own HBz2.out.size (fun kk hkk => (HOE.out.lt kk hkk).1)))
                rw [List.nil_append] at hoz3
                have hkkz3 : Keep (Value.ownBlock (.slice (some ⟨z1.heap.size, 0, none⟩) 0 0)).toList z2 z3 := hkz3
                have HLL3 := Lib.hid (hkkz3.at HLL2.out (fun hm => by rw [Option.mem_toList] at hm; simp only [Value.ownBlock, Option.some.injEq] at hm; omega))
                have HO2 := Lib.hid hoz3
                clear hoz3 hkz3 hkkz3
                refine hK.out _ _ trivial (fun hHeld => ?_)
                clear hK K
                try simp only [Act.put, List.setIfInBounds_toArray, List.set_cons_zero, List.set_cons_succ]
                refine wpAnyH_ready (rs := [9]) (by kernel_rfl) (by simp) ?_
                refine AllReadyH.cons (o := { dst := some 106, op := Op.call { callee := Callee.builtin Builtin.append, args := #[Operand.tmp 101, Operand.tmp 105], argTypes := #[47, 47] }, type := 47, pos := "ref.go:116", after := #[{ on := 4, ground := Ground.data }, { on := 8, ground := Ground.data }, { on := 4, ground := Ground.chain }], guard := none }) rfl (fun K hK => ?_) AllReadyH.nil
                refine step_append_all ctOk rfl (.tmp 101) (.tmp 105) rfl rfl HO2.out [CT.mk a b 1] rfl (src_at [CT.mk a b 1] HLL3.out rfl rfl) (by simp only [List.length_take, List.length_singleton]; unfold maxLen; omega) (by simp only [List.length_take, List.length_singleton]; omega) HBz3.out.size ?_
                intro vz4 z4 hoz4 hkz4 _
                have HBz4 := Lib.hid (show Bel wr z4 from HBz3.out.trans_below (hkz4.own HBz3.out.size (fun kk hkk => (HO2.out.lt kk hkk).1)))
                have HO3 := Lib.hid hoz4
                clear hoz4 hkz4
                refine hK.out _ _ trivial (fun hHeld => ?_)
                clear hK K
                try simp only [Act.put, List.setIfInBounds_toArray, List.set_cons_zero, List.set_cons_succ]
                refine wpAnyH_ready (rs := [13]) (by kernel_rfl) (by simp) ?_
                refine AllReadyH.cons (o := { dst := some 110, op := Op.call { callee := Callee.builtin Builtin.append, args := #[Operand.tmp 106, Operand.tmp 109], argTypes := #[47, 47] }, type := 47, pos := "ref.go:116", after := #[{ on := 9, ground := Ground.data }, { on := 12, ground := Ground.data }, { on := 9, ground := Ground.chain }], guard := none }) rfl (fun K hK => ?_) AllReadyH.nil
                refine step_append_all ctOk rfl (.tmp 106) (.tmp 109) rfl rfl HO3.out (C.drop k) rfl (HS2.out z4 HBz4.out) (by simp only [List.length_append, List.length_take, List.length_singleton, List.length_drop]; unfold maxLen; omega) (by simp only [List.length_append, List.length_take, List.length_singleton, List.length_drop]; omega) HBz4.out.size ?_
                intro vz5 z5 hoz5 hkz5 _
                have HBz5 := Lib.hid (show Bel wr z5 from HBz4.out.trans_below (hkz5.own HBz4.out.size (fun kk hkk => (HO3.out.lt kk hkk).1)))
                have HO4 := Lib.hid hoz5
                clear hoz5 hkz5
                refine hK.out _ _ trivial (fun hHeld => ?_)
                clear hK K
                try simp only [Act.put, List.setIfInBounds_toArray, List.set_cons_zero, List.set_cons_succ]
                refine tk (oi := { dst := some 3, op := Op.assign (Operand.tmp 110), type := 47, pos := "ref.go:116", after := #[{ on := 13, ground := Ground.data }, { on := 13, ground := Ground.chain }, { on := 0, ground := Ground.phase }, { on := 1, ground := Ground.phase }, { on := 2, ground := Ground.phase }, { on := 3, ground := Ground.phase }, { on := 4, ground := Ground.phase }, { on := 5, ground := Ground.phase }, { on := 6, ground := Ground.phase }, { on := 7, ground := Ground.phase }, { on := 8, ground := Ground.phase }, { on := 9, ground := Ground.phase }, { on := 10, ground := Ground.phase }, { on := 11, ground := Ground.phase }, { on := 12, ground := Ground.phase }, { on := 13, ground := Ground.phase }], guard := none }) (v := ?_) 14 rfl ?_ ?_
                rotate_left
                · (intro w hSw; (try dsimp only at hSw); first | (go_simp; done) | (go_simp; with_reducible rfl))
                try simp only [Act.put, List.setIfInBounds_toArray, List.set_cons_zero, List.set_cons_succ]
                refine wpAnyH_done (by kernel_rfl) ?_ _
                have HFIN := Lib.hid (show C.take k ++ [CT.mk a b 1] ++ C.drop k = addC a b C by rw [HADD.out]; simp)
                have HOF := Lib.hid (show OwnG ctEl w.heap.size z5 vz5 (addC a b C) by rw [← HFIN.out]; exact HO4.out.low HBW.out.size)
                obtain ⟨pf, cf, hvf⟩ := ownG_len HOF.out
                rw [hvf] at HOF ⊢
                clear hvf
                generalize (addC a b C).length = nf at *
                clear hHeld
                go_wp2_with (fail)
                go_roundw
                case rel => exact ⟨i + 1, hlt, by go_num, by rw [HN.out, HST.out]; exact HOF.out, HBW.out.trans HBz5.out⟩
                case measure => simp [intOf]; omega
          · simp only [Value.slice.injEq, true_and] at hv
            obtain ⟨rfl, rfl⟩ := hv
            have HCELLS := Lib.hid hcells
            have HG := Lib.hid hg
            have HGL := Lib.hid hgl
            have HFZ := Lib.hid hfz
            clear hcells hg hgl hfz
            go_wp2_with (fail)
            go_loopw [8] (fun kv x => (∃ k : Nat, k ≤ C.length ∧ kv = .int .i64 k ∧ ∀ j (h : j < C.length), j < k → ctLess C[j] a b = true) ∧ Drw w1 x) (fun kv _ => C.length - (intOf kv).toNat)
            case atStart => exact ⟨⟨0, Nat.zero_le _, rfl, fun j _ h => by omega⟩, Drw.refl w1⟩
            case round =>
              obtain ⟨⟨k, hk, rfl, hall⟩, hw⟩ := hrel
              have HALL := Lib.hid hall; clear hall
              have HW := Lib.hid hw
              have hka := add3 g k
              by_cases hkl : k < C.length
              · obtain ⟨ck, hck, x0, x1, x2⟩ := HCELLS.out k hkl
                have y0 := cell_later hw.bel x0
                have y1 := cell_later hw.bel x1
                have y2 := cell_later hw.bel x2
                have HLI := Lib.hid (show ctLess C[k] a b = (decide ((ck.t : Int) < a) || (((ck.t : Int) == a) && decide ((ck.v : Int) < b))) by rw [hck]; exact ct_less _ a b)
                have HAN := Lib.hid (show ctLess C[k] a b = true → ∀ j (h : j < C.length), j < k + 1 → ctLess C[j] a b = true from fun hh j h hj => by
                  by_cases e : j = k
                  · subst e; exact hh
                  · exact HALL.out j h (by omega))
                obtain ⟨ht6, hv6, -⟩ := HCS.out _ (List.getElem_mem hkl)
                rw [← hck] at ht6 hv6
                have HAT := Lib.hid (fun h2 => add_at a b C k hk HALL.out h2)
                have HCK := Lib.hid hck
                have HKL := Lib.hid hkl
                clear hw x0 x1 x2 hck
                by_cases t1 : (ck.t : Int) < (a : Int)
                · have HA2 := Lib.hid (HAN.out (by rw [HLI.out, decide_eq_true t1]; rfl))
                  go_wp2_with (fail)
                  go_roundw
                  case rel => exact ⟨⟨k + 1, hkl, by go_num, HA2.out⟩, HW.out⟩
                  case measure => simp [intOf]; omega
                by_cases t2 : (ck.t : Int) = (a : Int)
                · by_cases t3 : (ck.v : Int) < (b : Int)
                  · have HA2 := Lib.hid (HAN.out (by rw [HLI.out, t2, decide_eq_true t3]; simp))
                    go_wp2_with (fail)
                    go_roundw
                    case rel => exact ⟨⟨k + 1, hkl, by go_num, HA2.out⟩, HW.out⟩
                    case measure => simp [intOf]; omega
                  by_cases t4 : (ck.v : Int) = (b : Int)
                  · have hfw : wr.frozen? ⟨g, k * 3 + 2, none⟩ = false := (HW.out.bel.frozen g _ HGL.out).trans (HFZ.out _)
                    have HADD := Lib.hid (show addC a b C = C.set k ⟨C[k].t, C[k].v, ck.n + 1⟩ by
                      have g1 := congrArg CT.t HCK.out
                      have g2 := congrArg CT.v HCK.out
                      have g3 := congrArg CT.n HCK.out
                      have hA := HAT.out (fun _ => by rw [HLI.out, t2, t4]; simp)
                      rw [dif_pos HKL.out, if_pos ⟨by omega, by omega⟩] at hA
                      have e : CT.mk a b (C[k].n + 1) = CT.mk C[k].t C[k].v (ck.n + 1) := by congr 1 <;> omega
                      exact hA.trans (congrArg (C.set k) e))
                    have hn6 : ck.n ≤ 100000 := by
                      have := (HCS.out _ (List.getElem_mem HKL.out)).2.2
                      have g3 := congrArg CT.n HCK.out
                      omega
                    have HOX := Lib.hid ((HO1.out.bel HW.out.bel).put (k * 3 + 2) (.int .i64 ((ck.n : Int) + 1)) (by show _ < C.length * 3; omega) (L' := C.set k ⟨C[k].t, C[k].v, ck.n + 1⟩) List.length_set (cts_set C k (ck.n + 1) HKL.out))
                    have HBX := Lib.hid (((HB1.out.trans HW.out.bel)).setCell (p := ⟨g, k * 3 + 2, none⟩) HG.out (.int .i64 ((ck.n : Int) + 1)))
                    go_wp2_with (fail)
                    go_roundw
                    case rel => exact ⟨i + 1, hlt, by go_num, by rw [HN.out, HST.out, HADD.out]; exact HOX.out, HBX.out⟩
                    case measure => simp [intOf]; omega
                  · have HADD := Lib.hid (show addC a b C = C.take k ++ ⟨a, b, 1⟩ :: C.drop k by
                      rw [HAT.out (fun _ => by rw [HLI.out, t2, decide_eq_false t3]; simp), dif_pos HKL.out, if_neg (fun hh => t4 (by have g2 := congrArg CT.v HCK.out; omega))])
                    have HBW := Lib.hid (HB1.out.trans HW.out.bel)
                    have HOWR := Lib.hid (HO1.out.bel HW.out.bel)
                    have hCl : C.length ≤ i := hci
                    have HS1 := Lib.hid (show ∀ x, Bel wr x → SrcAt ctEl x (.slice (some ⟨g, 0, none⟩) k ccap) (C.take k) from fun x hx => by
                      have := own_piece ctOk (HOWR.out.bel hx) 0 k ccap (by omega)
                      simpa using this)
                    have HPK : ∃ pk, (if ccap = k then some (⟨g, 0, none⟩ : Addr) else some ⟨g, k * 3, none⟩) = some pk ∧ ∀ x, Bel wr x → SrcAt ctEl x (.slice (some pk) (C.length - k) (ccap - k)) (C.drop k) := by
                      by_cases hck0 : ccap = k
                      · refine ⟨_, if_pos hck0, fun x hx => Or.inr ⟨_, _, by rw [List.length_drop], fun j u hj => ?_⟩⟩
                        rw [List.drop_eq_nil_of_le (by omega)] at hj
                        simp [El.all] at hj
                      · refine ⟨_, if_neg hck0, fun x hx => ?_⟩
                        have := own_piece ctOk (HOWR.out.bel hx) k (C.length - k) (ccap - k) (by omega)
                        rw [List.take_of_length_le (by rw [List.length_drop]; omega)] at this
                        exact this
                    obtain ⟨pk, hpk, hps⟩ := HPK
                    have HS2 := Lib.hid hps
                    have hkc : k ≤ ccap := by omega
                    clear hps
                    go_wp2_with (fail)
                    have HBR := Lib.hid (Bel.refl wr)
                    refine wp_region_held_drew (S := fun z => True) (by kernel_rfl) trivial (fun hHeld => ?_)
                    refine tk (oi := { dst := some 98, op := Op.move (Operand.tmp 3), type := 47, pos := "ref.go:116", after := #[], guard := none }) (v := ?_) 1 rfl ?_ ?_
                    rotate_left
                    · (intro w hSw; (try dsimp only at hSw); first | (go_simp; done) | (go_simp; with_reducible rfl))
                    try simp only [Act.put, List.setIfInBounds_toArray, List.set_cons_zero, List.set_cons_succ]
                    refine tk (oi := { dst := some 99, op := Op.move (Operand.tmp 8), type := 3, pos := "ref.go:116", after := #[], guard := none }) (v := ?_) 2 rfl ?_ ?_
                    rotate_left
                    · (intro w hSw; (try dsimp only at hSw); first | (go_simp; done) | (go_simp; with_reducible rfl))
                    try simp only [Act.put, List.setIfInBounds_toArray, List.set_cons_zero, List.set_cons_succ]
                    refine tk (oi := { dst := some 100, op := Op.slice 47 (Operand.tmp 98) none (some (Operand.tmp 99)) none, type := 47, pos := "ref.go:116", after := #[{ on := 1, ground := Ground.data }, { on := 2, ground := Ground.data }], guard := none }) (v := ?_) 3 rfl ?_ ?_
                    rotate_left
                    · (intro w hSw; (try dsimp only at hSw); first | (go_simp; done) | (go_simp; with_reducible rfl))
                    try simp only [Act.put, List.setIfInBounds_toArray, List.set_cons_zero, List.set_cons_succ]
                    refine tk (oi := { dst := some 102, op := Op.move (Operand.tmp 5), type := 3, pos := "ref.go:116", after := #[], guard := none }) (v := ?_) 5 rfl ?_ ?_
                    rotate_left
                    · (intro w hSw; (try dsimp only at hSw); first | (go_simp; done) | (go_simp; with_reducible rfl))
                    try simp only [Act.put, List.setIfInBounds_toArray, List.set_cons_zero, List.set_cons_succ]
                    refine tk (oi := { dst := some 103, op := Op.move (Operand.tmp 6), type := 3, pos := "ref.go:116", after := #[], guard := none }) (v := ?_) 6 rfl ?_ ?_
                    rotate_left
                    · (intro w hSw; (try dsimp only at hSw); first | (go_simp; done) | (go_simp; with_reducible rfl))
                    try simp only [Act.put, List.setIfInBounds_toArray, List.set_cons_zero, List.set_cons_succ]
                    refine tk (oi := { dst := some 104, op := Op.build 50 #[(0, Operand.tmp 102), (1, Operand.tmp 103), (2, Operand.const (Value.int IntKind.i64 1))], type := 50, pos := "ref.go:116", after := #[{ on := 5, ground := Ground.data }, { on := 6, ground := Ground.data }], guard := none }) (v := ?_) 7 rfl ?_ ?_
                    rotate_left
                    · (intro w hSw; (try dsimp only at hSw); first | (go_simp; done) | (go_simp; with_reducible rfl))
                    try simp only [Act.put, List.setIfInBounds_toArray, List.set_cons_zero, List.set_cons_succ]
                    refine tk (oi := { dst := some 107, op := Op.move (Operand.tmp 3), type := 47, pos := "ref.go:116", after := #[], guard := none }) (v := ?_) 10 rfl ?_ ?_
                    rotate_left
                    · (intro w hSw; (try dsimp only at hSw); first | (go_simp; done) | (go_simp; with_reducible rfl))
                    try simp only [Act.put, List.setIfInBounds_toArray, List.set_cons_zero, List.set_cons_succ]
                    refine tk (oi := { dst := some 108, op := Op.move (Operand.tmp 8), type := 3, pos := "ref.go:116", after := #[], guard := none }) (v := ?_) 11 rfl ?_ ?_
                    rotate_left
                    · (intro w hSw; (try dsimp only at hSw); first | (go_simp; done) | (go_simp; with_reducible rfl))
                    try simp only [Act.put, List.setIfInBounds_toArray, List.set_cons_zero, List.set_cons_succ]
                    refine tk (oi := { dst := some 109, op := Op.slice 47 (Operand.tmp 107) (some (Operand.tmp 108)) none none, type := 47, pos := "ref.go:116", after := #[{ on := 10, ground := Ground.data }, { on := 11, ground := Ground.data }], guard := none }) (v := ?_) 12 rfl ?_ ?_
                    rotate_left
                    · (intro w hSw; (try dsimp only at hSw); first | (go_simp; done) | (go_simp; with_reducible rfl))
                    try simp only [Act.put, List.setIfInBounds_toArray, List.set_cons_zero, List.set_cons_succ]
                    refine wpAnyH_ready (rs := [0, 8]) (by kernel_rfl) (by simp) ?_
                    refine (AllReadyH.cons (o := { dst := some 97, op := Op.buildSlice 47 0 #[], type := 47, pos := "ref.go:116", after := #[], guard := none }) rfl (fun K hK => ?_) (AllReadyH.cons (o := { dst := some 105, op := Op.buildSlice 47 1 #[(0, Operand.tmp 104)], type := 47, pos := "ref.go:116", after := #[{ on := 7, ground := Ground.data }], guard := none }) rfl (fun K hK => ?_) AllReadyH.nil))
                    · go_simp
                      refine hK.out _ _ trivial (fun hHeld => ?_)
                      clear hK K
                      try simp only [Act.put, List.setIfInBounds_toArray, List.set_cons_zero, List.set_cons_succ]
                      obtain ⟨z1, hz1⟩ : ∃ x, x = (wr.alloc (.cells #[] 50)).drew := ⟨_, rfl⟩
                      have HLE := Lib.hid (show z1.heap[wr.heap.size]? = some (.cells #[] 50 (0, 0)) by rw [hz1]; exact heap_alloc_new wr (.cells #[] 50))
                      have hltE : wr.heap.size < z1.heap.size := (Array.getElem?_eq_some_iff.1 HLE.out).1
                      have hbz1 : Bel wr z1 := by rw [hz1]; exact ((Bel.refl wr).alloc _).drew
                      have HBz1 := Lib.hid (HBR.out.trans hbz1)
                      rw [← hz1]
                      clear hz1
                      have HOE := Lib.hid (ownG_empty (E := ctEl) (n := wr.heap.size) HLE.out HBR.out.size)
                      refine wpAnyH_ready (rs := [4, 8]) (by kernel_rfl) (by simp) ?_
                      refine (AllReadyH.cons (o := { dst := some 101, op := Op.call { callee := Callee.builtin Builtin.append, args := #[Operand.tmp 97, Operand.tmp 100], argTypes := #[47, 47] }, type := 47, pos := "ref.go:116", after := #[{ on := 0, ground := Ground.data }, { on := 3, ground := Ground.data }], guard := none }) rfl (fun K hK => ?_) (AllReadyH.cons (o := { dst := some 105, op := Op.buildSlice 47 1 #[(0, Operand.tmp 104)], type := 47, pos := "ref.go:116", after := #[{ on := 7, ground := Ground.data }], guard := none }) rfl (fun K hK => ?_) AllReadyH.nil))
                      · refine step_append_all ctOk rfl (.tmp 97) (.tmp 100) rfl rfl HOE.out (C.take k) rfl (HS1.out z1 HBz1.out) (by simp only [List.length_nil, List.length_take]; unfold maxLen; omega) (by simp only [List.length_nil, List.length_take]; omega) HBz1.out.size ?_
                        intro vz2 z2 hoz2 hkz2 _
                        have HBz2 := Lib.hid (show Bel wr z2 from HBz1.out.trans_below (hkz2.own HBz1.out.size (fun kk hkk => (HOE.out.lt kk hkk).1)))
                        rw [List.nil_append] at hoz2
                        have hkkz2 : Keep (Value.ownBlock (.slice (some ⟨wr.heap.size, 0, none⟩) 0 0)).toList z1 z2 := hkz2
                        have HO2 := Lib.hid hoz2
                        clear hoz2 hkz2 hkkz2
                        refine hK.out _ _ trivial (fun hHeld => ?_)
                        clear hK K
                        try simp only [Act.put, List.setIfInBounds_toArray, List.set_cons_zero, List.set_cons_succ]
                        refine wpAnyH_ready (rs := [8]) (by kernel_rfl) (by simp) ?_
                        refine AllReadyH.cons (o := { dst := some 105, op := Op.buildSlice 47 1 #[(0, Operand.tmp 104)], type := 47, pos := "ref.go:116", after := #[{ on := 7, ground := Ground.data }], guard := none }) rfl (fun K hK => ?_) AllReadyH.nil
                        go_simp
                        refine hK.out _ _ trivial (fun hHeld => ?_)
                        clear hK K
                        try simp only [Act.put, List.setIfInBounds_toArray, List.set_cons_zero, List.set_cons_succ]
                        obtain ⟨z3, hz3⟩ : ∃ x, x = (z2.alloc (.cells #[.int .i64 (a : Int), .int .i64 (b : Int), .int .i64 1] 50)) := ⟨_, rfl⟩
                        have HLL := Lib.hid (show z3.heap[z2.heap.size]? = some (.cells #[.int .i64 (a : Int), .int .i64 (b : Int), .int .i64 1] 50 (0, 0)) by rw [hz3]; exact heap_alloc_new z2 (.cells #[.int .i64 (a : Int), .int .i64 (b : Int), .int .i64 1] 50))
                        have hltL : z2.heap.size < z3.heap.size := (Array.getElem?_eq_some_iff.1 HLL.out).1
                        have hbz3 : Bel z2 z3 := by rw [hz3]; exact ((Bel.refl z2).alloc _)
                        have HBz3 := Lib.hid (HBz2.out.trans hbz3)
                        rw [← hz3]
                        clear hz3
                        have HO2b := Lib.hid (HO2.out.bel hbz3)
                        refine wpAnyH_ready (rs := [9]) (by kernel_rfl) (by simp) ?_
                        refine AllReadyH.cons (o := { dst := some 106, op := Op.call { callee := Callee.builtin Builtin.append, args := #[Operand.tmp 101, Operand.tmp 105], argTypes := #[47, 47] }, type := 47, pos := "ref.go:116", after := #[{ on := 4, ground := Ground.data }, { on := 8, ground := Ground.data }, { on := 4, ground := Ground.chain }], guard := none }) rfl (fun K hK => ?_) AllReadyH.nil
                        refine step_append_all ctOk rfl (.tmp 101) (.tmp 105) rfl rfl HO2b.out [CT.mk a b 1] rfl (src_at [CT.mk a b 1] HLL.out rfl rfl) (by simp only [List.length_take, List.length_singleton]; unfold maxLen; omega) (by simp only [List.length_take, List.length_singleton]; omega) HBz3.out.size ?_
                        intro vz4 z4 hoz4 hkz4 _
                        have HBz4 := Lib.hid (show Bel wr z4 from HBz3.out.trans_below (hkz4.own HBz3.out.size (fun kk hkk => (HO2b.out.lt kk hkk).1)))
                        have HO3 := Lib.hid hoz4
                        clear hoz4 hkz4
                        refine hK.out _ _ trivial (fun hHeld => ?_)
                        clear hK K
                        try simp only [Act.put, List.setIfInBounds_toArray, List.set_cons_zero, List.set_cons_succ]
                        refine wpAnyH_ready (rs := [13]) (by kernel_rfl) (by simp) ?_
                        refine AllReadyH.cons (o := { dst := some 110, op := Op.call { callee := Callee.builtin Builtin.append, args := #[Operand.tmp 106, Operand.tmp 109], argTypes := #[47, 47] }, type := 47, pos := "ref.go:116", after := #[{ on := 9, ground := Ground.data }, { on := 12, ground := Ground.data }, { on := 9, ground := Ground.chain }], guard := none }) rfl (fun K hK => ?_) AllReadyH.nil
                        refine step_append_all ctOk rfl (.tmp 106) (.tmp 109) rfl rfl HO3.out (C.drop k) rfl (HS2.out z4 HBz4.out) (by simp only [List.length_append, List.length_take, List.length_singleton, List.length_drop]; unfold maxLen; omega) (by simp only [List.length_append, List.length_take, List.length_singleton, List.length_drop]; omega) HBz4.out.size ?_
                        intro vz5 z5 hoz5 hkz5 _
                        have HBz5 := Lib.hid (show Bel wr z5 from HBz4.out.trans_below (hkz5.own HBz4.out.size (fun kk hkk => (HO3.out.lt kk hkk).1)))
                        have HO4 := Lib.hid hoz5
                        clear hoz5 hkz5
                        refine hK.out _ _ trivial (fun hHeld => ?_)
                        clear hK K
                        try simp only [Act.put, List.setIfInBounds_toArray, List.set_cons_zero, List.set_cons_succ]
                        refine tk (oi := { dst := some 3, op := Op.assign (Operand.tmp 110), type := 47, pos := "ref.go:116", after := #[{ on := 13, ground := Ground.data }, { on := 13, ground := Ground.chain }, { on := 0, ground := Ground.phase }, { on := 1, ground := Ground.phase }, { on := 2, ground := Ground.phase }, { on := 3, ground := Ground.phase }, { on := 4, ground := Ground.phase }, { on := 5, ground := Ground.phase }, { on := 6, ground := Ground.phase }, { on := 7, ground := Ground.phase }, { on := 8, ground := Ground.phase }, { on := 9, ground := Ground.phase }, { on := 10, ground := Ground.phase }, { on := 11, ground := Ground.phase }, { on := 12, ground := Ground.phase }, { on := 13, ground := Ground.phase }], guard := none }) (v := ?_) 14 rfl ?_ ?_
                        rotate_left
                        · (intro w hSw; (try dsimp only at hSw); first | (go_simp; done) | (go_simp; with_reducible rfl))
                        try simp only [Act.put, List.setIfInBounds_toArray, List.set_cons_zero, List.set_cons_succ]
                        refine wpAnyH_done (by kernel_rfl) ?_ _
                        have HFIN := Lib.hid (show C.take k ++ [CT.mk a b 1] ++ C.drop k = addC a b C by rw [HADD.out]; simp)
                        have HOF := Lib.hid (show OwnG ctEl w.heap.size z5 vz5 (addC a b C) by rw [← HFIN.out]; exact HO4.out.low HBW.out.size)
                        obtain ⟨pf, cf, hvf⟩ := ownG_len HOF.out
                        rw [hvf] at HOF ⊢
                        clear hvf
                        generalize (addC a b C).length = nf at *
                        clear hHeld
                        go_wp2_with (fail)
                        go_roundw
                        case rel => exact ⟨i + 1, hlt, by go_num, by rw [HN.out, HST.out]; exact HOF.out, HBW.out.trans HBz5.out⟩
                        case measure => simp [intOf]; omega
                      · go_simp
                        refine hK.out _ _ trivial (fun hHeld => ?_)
                        clear hK K
                        try simp only [Act.put, List.setIfInBounds_toArray, List.set_cons_zero, List.set_cons_succ]
                        obtain ⟨z2, hz2⟩ : ∃ x, x = (z1.alloc (.cells #[.int .i64 (a : Int), .int .i64 (b : Int), .int .i64 1] 50)) := ⟨_, rfl⟩
                        have HLL := Lib.hid (show z2.heap[z1.heap.size]? = some (.cells #[.int .i64 (a : Int), .int .i64 (b : Int), .int .i64 1] 50 (0, 0)) by rw [hz2]; exact heap_alloc_new z1 (.cells #[.int .i64 (a : Int), .int .i64 (b : Int), .int .i64 1] 50))
                        have hltL : z1.heap.size < z2.heap.size := (Array.getElem?_eq_some_iff.1 HLL.out).1
                        have hbz2 : Bel z1 z2 := by rw [hz2]; exact ((Bel.refl z1).alloc _)
                        have HBz2 := Lib.hid (HBz1.out.trans hbz2)
                        rw [← hz2]
                        clear hz2
                        have HOE2 := Lib.hid (HOE.out.bel hbz2)
                        refine wpAnyH_ready (rs := [4]) (by kernel_rfl) (by simp) ?_
                        refine AllReadyH.cons (o := { dst := some 101, op := Op.call { callee := Callee.builtin Builtin.append, args := #[Operand.tmp 97, Operand.tmp 100], argTypes := #[47, 47] }, type := 47, pos := "ref.go:116", after := #[{ on := 0, ground := Ground.data }, { on := 3, ground := Ground.data }], guard := none }) rfl (fun K hK => ?_) AllReadyH.nil
                        refine step_append_all ctOk rfl (.tmp 97) (.tmp 100) rfl rfl HOE2.out (C.take k) rfl (HS1.out z2 HBz2.out) (by simp only [List.length_nil, List.length_take]; unfold maxLen; omega) (by simp only [List.length_nil, List.length_take]; omega) HBz2.out.size ?_
                        intro vz3 z3 hoz3 hkz3 _
                        have HBz3 := Lib.hid (show Bel wr z3 from HBz2.out.trans_below (hkz3.own HBz2.out.size (fun kk hkk => (HOE2.out.lt kk hkk).1)))
                        rw [List.nil_append] at hoz3
                        have hkkz3 : Keep (Value.ownBlock (.slice (some ⟨wr.heap.size, 0, none⟩) 0 0)).toList z2 z3 := hkz3
                        have HLL3 := Lib.hid (hkkz3.at HLL.out (fun hm => by rw [Option.mem_toList] at hm; simp only [Value.ownBlock, Option.some.injEq] at hm; omega))
                        have HO2 := Lib.hid hoz3
                        clear hoz3 hkz3 hkkz3
                        refine hK.out _ _ trivial (fun hHeld => ?_)
                        clear hK K
                        try simp only [Act.put, List.setIfInBounds_toArray, List.set_cons_zero, List.set_cons_succ]
                        refine wpAnyH_ready (rs := [9]) (by kernel_rfl) (by simp) ?_
                        refine AllReadyH.cons (o := { dst := some 106, op := Op.call { callee := Callee.builtin Builtin.append, args := #[Operand.tmp 101, Operand.tmp 105], argTypes := #[47, 47] }, type := 47, pos := "ref.go:116", after := #[{ on := 4, ground := Ground.data }, { on := 8, ground := Ground.data }, { on := 4, ground := Ground.chain }], guard := none }) rfl (fun K hK => ?_) AllReadyH.nil
                        refine step_append_all ctOk rfl (.tmp 101) (.tmp 105) rfl rfl HO2.out [CT.mk a b 1] rfl (src_at [CT.mk a b 1] HLL3.out rfl rfl) (by simp only [List.length_take, List.length_singleton]; unfold maxLen; omega) (by simp only [List.length_take, List.length_singleton]; omega) HBz3.out.size ?_
                        intro vz4 z4 hoz4 hkz4 _
                        have HBz4 := Lib.hid (show Bel wr z4 from HBz3.out.trans_below (hkz4.own HBz3.out.size (fun kk hkk => (HO2.out.lt kk hkk).1)))
                        have HO3 := Lib.hid hoz4
                        clear hoz4 hkz4
                        refine hK.out _ _ trivial (fun hHeld => ?_)
                        clear hK K
                        try simp only [Act.put, List.setIfInBounds_toArray, List.set_cons_zero, List.set_cons_succ]
                        refine wpAnyH_ready (rs := [13]) (by kernel_rfl) (by simp) ?_
                        refine AllReadyH.cons (o := { dst := some 110, op := Op.call { callee := Callee.builtin Builtin.append, args := #[Operand.tmp 106, Operand.tmp 109], argTypes := #[47, 47] }, type := 47, pos := "ref.go:116", after := #[{ on := 9, ground := Ground.data }, { on := 12, ground := Ground.data }, { on := 9, ground := Ground.chain }], guard := none }) rfl (fun K hK => ?_) AllReadyH.nil
                        refine step_append_all ctOk rfl (.tmp 106) (.tmp 109) rfl rfl HO3.out (C.drop k) rfl (HS2.out z4 HBz4.out) (by simp only [List.length_append, List.length_take, List.length_singleton, List.length_drop]; unfold maxLen; omega) (by simp only [List.length_append, List.length_take, List.length_singleton, List.length_drop]; omega) HBz4.out.size ?_
                        intro vz5 z5 hoz5 hkz5 _
                        have HBz5 := Lib.hid (show Bel wr z5 from HBz4.out.trans_below (hkz5.own HBz4.out.size (fun kk hkk => (HO3.out.lt kk hkk).1)))
                        have HO4 := Lib.hid hoz5
                        clear hoz5 hkz5
                        refine hK.out _ _ trivial (fun hHeld => ?_)
                        clear hK K
                        try simp only [Act.put, List.setIfInBounds_toArray, List.set_cons_zero, List.set_cons_succ]
                        refine tk (oi := { dst := some 3, op := Op.assign (Operand.tmp 110), type := 47, pos := "ref.go:116", after := #[{ on := 13, ground := Ground.data }, { on := 13, ground := Ground.chain }, { on := 0, ground := Ground.phase }, { on := 1, ground := Ground.phase }, { on := 2, ground := Ground.phase }, { on := 3, ground := Ground.phase }, { on := 4, ground := Ground.phase }, { on := 5, ground := Ground.phase }, { on := 6, ground := Ground.phase }, { on := 7, ground := Ground.phase }, { on := 8, ground := Ground.phase }, { on := 9, ground := Ground.phase }, { on := 10, ground := Ground.phase }, { on := 11, ground := Ground.phase }, { on := 12, ground := Ground.phase }, { on := 13, ground := Ground.phase }], guard := none }) (v := ?_) 14 rfl ?_ ?_
                        rotate_left
                        · (intro w hSw; (try dsimp only at hSw); first | (go_simp; done) | (go_simp; with_reducible rfl))
                        try simp only [Act.put, List.setIfInBounds_toArray, List.set_cons_zero, List.set_cons_succ]
                        refine wpAnyH_done (by kernel_rfl) ?_ _
                        have HFIN := Lib.hid (show C.take k ++ [CT.mk a b 1] ++ C.drop k = addC a b C by rw [HADD.out]; simp)
                        have HOF := Lib.hid (show OwnG ctEl w.heap.size z5 vz5 (addC a b C) by rw [← HFIN.out]; exact HO4.out.low HBW.out.size)
                        obtain ⟨pf, cf, hvf⟩ := ownG_len HOF.out
                        rw [hvf] at HOF ⊢
                        clear hvf
                        generalize (addC a b C).length = nf at *
                        clear hHeld
                        go_wp2_with (fail)
                        go_roundw
                        case rel => exact ⟨i + 1, hlt, by go_num, by rw [HN.out, HST.out]; exact HOF.out, HBW.out.trans HBz5.out⟩
                        case measure => simp [intOf]; omega
                    · go_simp
                      refine hK.out _ _ trivial (fun hHeld => ?_)
                      clear hK K
                      try simp only [Act.put, List.setIfInBounds_toArray, List.set_cons_zero, List.set_cons_succ]
                      obtain ⟨z1, hz1⟩ : ∃ x, x = (wr.alloc (.cells #[.int .i64 (a : Int), .int .i64 (b : Int), .int .i64 1] 50)).drew := ⟨_, rfl⟩
                      have HLL := Lib.hid (show z1.heap[wr.heap.size]? = some (.cells #[.int .i64 (a : Int), .int .i64 (b : Int), .int .i64 1] 50 (0, 0)) by rw [hz1]; exact heap_alloc_new wr (.cells #[.int .i64 (a : Int), .int .i64 (b : Int), .int .i64 1] 50))
                      have hltL : wr.heap.size < z1.heap.size := (Array.getElem?_eq_some_iff.1 HLL.out).1
                      have hbz1 : Bel wr z1 := by rw [hz1]; exact ((Bel.refl wr).alloc _).drew
                      have HBz1 := Lib.hid (HBR.out.trans hbz1)
                      rw [← hz1]
                      clear hz1
                      refine wpAnyH_ready (rs := [0]) (by kernel_rfl) (by simp) ?_
                      refine AllReadyH.cons (o := { dst := some 97, op := Op.buildSlice 47 0 #[], type := 47, pos := "ref.go:116", after := #[], guard := none }) rfl (fun K hK => ?_) AllReadyH.nil
                      go_simp
                      refine hK.out _ _ trivial (fun hHeld => ?_)
                      clear hK K
                      try simp only [Act.put, List.setIfInBounds_toArray, List.set_cons_zero, List.set_cons_succ]
                      obtain ⟨z2, hz2⟩ : ∃ x, x = (z1.alloc (.cells #[] 50)) := ⟨_, rfl⟩
                      have HLE := Lib.hid (show z2.heap[z1.heap.size]? = some (.cells #[] 50 (0, 0)) by rw [hz2]; exact heap_alloc_new z1 (.cells #[] 50))
                      have hltE : z1.heap.size < z2.heap.size := (Array.getElem?_eq_some_iff.1 HLE.out).1
                      have hbz2 : Bel z1 z2 := by rw [hz2]; exact ((Bel.refl z1).alloc _)
                      have HBz2 := Lib.hid (HBz1.out.trans hbz2)
                      rw [← hz2]
                      clear hz2
                      have HOE := Lib.hid (ownG_empty (E := ctEl) (n := wr.heap.size) HLE.out HBz1.out.size)
                      have HLL2 := Lib.hid ((Below.block hbz2 wr.heap.size (by omega)).trans HLL.out)
                      refine wpAnyH_ready (rs := [4]) (by kernel_rfl) (by simp) ?_
                      refine AllReadyH.cons (o := { dst := some 101, op := Op.call { callee := Callee.builtin Builtin.append, args := #[Operand.tmp 97, Operand.tmp 100], argTypes := #[47, 47] }, type := 47, pos := "ref.go:116", after := #[{ on := 0, ground := Ground.data }, { on := 3, ground := Ground.data }], guard := none }) rfl (fun K hK => ?_) AllReadyH.nil
                      refine step_append_all ctOk rfl (.tmp 97) (.tmp 100) rfl rfl HOE.out (C.take k) rfl (HS1.out z2 HBz2.out) (by simp only [List.length_nil, List.length_take]; unfold maxLen; omega) (by simp only [List.length_nil, List.length_take]; omega) HBz2.out.size ?_
                      intro vz3 z3 hoz3 hkz3 _
                      have HBz3 := Lib.hid (show Bel wr z3 from HBz2.out.trans_below (hkz3.own HBz2.out.size (fun kk hkk => (HOE.out.lt kk hkk).1)))
                      rw [List.nil_append] at hoz3
                      have hkkz3 : Keep (Value.ownBlock (.slice (some ⟨z1.heap.size, 0, none⟩) 0 0)).toList z2 z3 := hkz3
                      have HLL3 := Lib.hid (hkkz3.at HLL2.out (fun hm => by rw [Option.mem_toList] at hm; simp only [Value.ownBlock, Option.some.injEq] at hm; omega))
                      have HO2 := Lib.hid hoz3
                      clear hoz3 hkz3 hkkz3
                      refine hK.out _ _ trivial (fun hHeld => ?_)
                      clear hK K
                      try simp only [Act.put, List.setIfInBounds_toArray, List.set_cons_zero, List.set_cons_succ]
                      refine wpAnyH_ready (rs := [9]) (by kernel_rfl) (by simp) ?_
                      refine AllReadyH.cons (o := { dst := some 106, op := Op.call { callee := Callee.builtin Builtin.append, args := #[Operand.tmp 101, Operand.tmp 105], argTypes := #[47, 47] }, type := 47, pos := "ref.go:116", after := #[{ on := 4, ground := Ground.data }, { on := 8, ground := Ground.data }, { on := 4, ground := Ground.chain }], guard := none }) rfl (fun K hK => ?_) AllReadyH.nil
                      refine step_append_all ctOk rfl (.tmp 101) (.tmp 105) rfl rfl HO2.out [CT.mk a b 1] rfl (src_at [CT.mk a b 1] HLL3.out rfl rfl) (by simp only [List.length_take, List.length_singleton]; unfold maxLen; omega) (by simp only [List.length_take, List.length_singleton]; omega) HBz3.out.size ?_
                      intro vz4 z4 hoz4 hkz4 _
                      have HBz4 := Lib.hid (show Bel wr z4 from HBz3.out.trans_below (hkz4.own HBz3.out.size (fun kk hkk => (HO2.out.lt kk hkk).1)))
                      have HO3 := Lib.hid hoz4
                      clear hoz4 hkz4
                      refine hK.out _ _ trivial (fun hHeld => ?_)
                      clear hK K
                      try simp only [Act.put, List.setIfInBounds_toArray, List.set_cons_zero, List.set_cons_succ]
                      refine wpAnyH_ready (rs := [13]) (by kernel_rfl) (by simp) ?_
                      refine AllReadyH.cons (o := { dst := some 110, op := Op.call { callee := Callee.builtin Builtin.append, args := #[Operand.tmp 106, Operand.tmp 109], argTypes := #[47, 47] }, type := 47, pos := "ref.go:116", after := #[{ on := 9, ground := Ground.data }, { on := 12, ground := Ground.data }, { on := 9, ground := Ground.chain }], guard := none }) rfl (fun K hK => ?_) AllReadyH.nil
                      refine step_append_all ctOk rfl (.tmp 106) (.tmp 109) rfl rfl HO3.out (C.drop k) rfl (HS2.out z4 HBz4.out) (by simp only [List.length_append, List.length_take, List.length_singleton, List.length_drop]; unfold maxLen; omega) (by simp only [List.length_append, List.length_take, List.length_singleton, List.length_drop]; omega) HBz4.out.size ?_
                      intro vz5 z5 hoz5 hkz5 _
                      have HBz5 := Lib.hid (show Bel wr z5 from HBz4.out.trans_below (hkz5.own HBz4.out.size (fun kk hkk => (HO3.out.lt kk hkk).1)))
                      have HO4 := Lib.hid hoz5
                      clear hoz5 hkz5
                      refine hK.out _ _ trivial (fun hHeld => ?_)
                      clear hK K
                      try simp only [Act.put, List.setIfInBounds_toArray, List.set_cons_zero, List.set_cons_succ]
                      refine tk (oi := { dst := some 3, op := Op.assign (Operand.tmp 110), type := 47, pos := "ref.go:116", after := #[{ on := 13, ground := Ground.data }, { on := 13, ground := Ground.chain }, { on := 0, ground := Ground.phase }, { on := 1, ground := Ground.phase }, { on := 2, ground := Ground.phase }, { on := 3, ground := Ground.phase }, { on := 4, ground := Ground.phase }, { on := 5, ground := Ground.phase }, { on := 6, ground := Ground.phase }, { on := 7, ground := Ground.phase }, { on := 8, ground := Ground.phase }, { on := 9, ground := Ground.phase }, { on := 10, ground := Ground.phase }, { on := 11, ground := Ground.phase }, { on := 12, ground := Ground.phase }, { on := 13, ground := Ground.phase }], guard := none }) (v := ?_) 14 rfl ?_ ?_
                      rotate_left
                      · (intro w hSw; (try dsimp only at hSw); first | (go_simp; done) | (go_simp; with_reducible rfl))
                      try simp only [Act.put, List.setIfInBounds_toArray, List.set_cons_zero, List.set_cons_succ]
                      refine wpAnyH_done (by kernel_rfl) ?_ _
                      have HFIN := Lib.hid (show C.take k ++ [CT.mk a b 1] ++ C.drop k = addC a b C by rw [HADD.out]; simp)
                      have HOF := Lib.hid (show OwnG ctEl w.heap.size z5 vz5 (addC a b C) by rw [← HFIN.out]; exact HO4.out.low HBW.out.size)
                      obtain ⟨pf, cf, hvf⟩ := ownG_len HOF.out
                      rw [hvf] at HOF ⊢
                      clear hvf
                      generalize (addC a b C).length = nf at *
                      clear hHeld
                      go_wp2_with (fail)
                      go_roundw
                      case rel => exact ⟨i + 1, hlt, by go_num, by rw [HN.out, HST.out]; exact HOF.out, HBW.out.trans HBz5.out⟩
                      case measure => simp [intOf]; omega
                · have HADD := Lib.hid (show addC a b C = C.take k ++ ⟨a, b, 1⟩ :: C.drop k by
                    rw [HAT.out (fun _ => by rw [HLI.out, decide_eq_false t1, beq_eq_false_iff_ne.2 t2]; rfl), dif_pos HKL.out, if_neg (fun hh => t2 (by have g1 := congrArg CT.t HCK.out; omega))])
                  have HBW := Lib.hid (HB1.out.trans HW.out.bel)
                  have HOWR := Lib.hid (HO1.out.bel HW.out.bel)
                  have hCl : C.length ≤ i := hci
                  have HS1 := Lib.hid (show ∀ x, Bel wr x → SrcAt ctEl x (.slice (some ⟨g, 0, none⟩) k ccap) (C.take k) from fun x hx => by
                    have := own_piece ctOk (HOWR.out.bel hx) 0 k ccap (by omega)
                    simpa using this)
                  have HPK : ∃ pk, (if ccap = k then some (⟨g, 0, none⟩ : Addr) else some ⟨g, k * 3, none⟩) = some pk ∧ ∀ x, Bel wr x → SrcAt ctEl x (.slice (some pk) (C.length - k) (ccap - k)) (C.drop k) := by
                    by_cases hck0 : ccap = k
                    · refine ⟨_, if_pos hck0, fun x hx => Or.inr ⟨_, _, by rw [List.length_drop], fun j u hj => ?_⟩⟩
                      rw [List.drop_eq_nil_of_le (by omega)] at hj
                      simp [El.all] at hj
                    · refine ⟨_, if_neg hck0, fun x hx => ?_⟩
                      have := own_piece ctOk (HOWR.out.bel hx) k (C.length - k) (ccap - k) (by omega)
                      rw [List.take_of_length_le (by rw [List.length_drop]; omega)] at this
                      exact this
                  obtain ⟨pk, hpk, hps⟩ := HPK
                  have HS2 := Lib.hid hps
                  have hkc : k ≤ ccap := by omega
                  clear hps
                  go_wp2_with (fail)
                  have HBR := Lib.hid (Bel.refl wr)
                  refine wp_region_held_drew (S := fun z => True) (by kernel_rfl) trivial (fun hHeld => ?_)
                  refine tk (oi := { dst := some 98, op := Op.move (Operand.tmp 3), type := 47, pos := "ref.go:116", after := #[], guard := none }) (v := ?_) 1 rfl ?_ ?_
                  rotate_left
                  · (intro w hSw; (try dsimp only at hSw); first | (go_simp; done) | (go_simp; with_reducible rfl))
                  try simp only [Act.put, List.setIfInBounds_toArray, List.set_cons_zero, List.set_cons_succ]
                  refine tk (oi := { dst := some 99, op := Op.move (Operand.tmp 8), type := 3, pos := "ref.go:116", after := #[], guard := none }) (v := ?_) 2 rfl ?_ ?_
                  rotate_left
                  · (intro w hSw; (try dsimp only at hSw); first | (go_simp; done) | (go_simp; with_reducible rfl))
                  try simp only [Act.put, List.setIfInBounds_toArray, List.set_cons_zero, List.set_cons_succ]
                  refine tk (oi := { dst := some 100, op := Op.slice 47 (Operand.tmp 98) none (some (Operand.tmp 99)) none, type := 47, pos := "ref.go:116", after := #[{ on := 1, ground := Ground.data }, { on := 2, ground := Ground.data }], guard := none }) (v := ?_) 3 rfl ?_ ?_
                  rotate_left
                  · (intro w hSw; (try dsimp only at hSw); first | (go_simp; done) | (go_simp; with_reducible rfl))
                  try simp only [Act.put, List.setIfInBounds_toArray, List.set_cons_zero, List.set_cons_succ]
                  refine tk (oi := { dst := some 102, op := Op.move (Operand.tmp 5), type := 3, pos := "ref.go:116", after := #[], guard := none }) (v := ?_) 5 rfl ?_ ?_
                  rotate_left
                  · (intro w hSw; (try dsimp only at hSw); first | (go_simp; done) | (go_simp; with_reducible rfl))
                  try simp only [Act.put, List.setIfInBounds_toArray, List.set_cons_zero, List.set_cons_succ]
                  refine tk (oi := { dst := some 103, op := Op.move (Operand.tmp 6), type := 3, pos := "ref.go:116", after := #[], guard := none }) (v := ?_) 6 rfl ?_ ?_
                  rotate_left
                  · (intro w hSw; (try dsimp only at hSw); first | (go_simp; done) | (go_simp; with_reducible rfl))
                  try simp only [Act.put, List.setIfInBounds_toArray, List.set_cons_zero, List.set_cons_succ]
                  refine tk (oi := { dst := some 104, op := Op.build 50 #[(0, Operand.tmp 102), (1, Operand.tmp 103), (2, Operand.const (Value.int IntKind.i64 1))], type := 50, pos := "ref.go:116", after := #[{ on := 5, ground := Ground.data }, { on := 6, ground := Ground.data }], guard := none }) (v := ?_) 7 rfl ?_ ?_
                  rotate_left
                  · (intro w hSw; (try dsimp only at hSw); first | (go_simp; done) | (go_simp; with_reducible rfl))
                  try simp only [Act.put, List.setIfInBounds_toArray, List.set_cons_zero, List.set_cons_succ]
                  refine tk (oi := { dst := some 107, op := Op.move (Operand.tmp 3), type := 47, pos := "ref.go:116", after := #[], guard := none }) (v := ?_) 10 rfl ?_ ?_
                  rotate_left
                  · (intro w hSw; (try dsimp only at hSw); first | (go_simp; done) | (go_simp; with_reducible rfl))
                  try simp only [Act.put, List.setIfInBounds_toArray, List.set_cons_zero, List.set_cons_succ]
                  refine tk (oi := { dst := some 108, op := Op.move (Operand.tmp 8), type := 3, pos := "ref.go:116", after := #[], guard := none }) (v := ?_) 11 rfl ?_ ?_
                  rotate_left
                  · (intro w hSw; (try dsimp only at hSw); first | (go_simp; done) | (go_simp; with_reducible rfl))
                  try simp only [Act.put, List.setIfInBounds_toArray, List.set_cons_zero, List.set_cons_succ]
                  refine tk (oi := { dst := some 109, op := Op.slice 47 (Operand.tmp 107) (some (Operand.tmp 108)) none none, type := 47, pos := "ref.go:116", after := #[{ on := 10, ground := Ground.data }, { on := 11, ground := Ground.data }], guard := none }) (v := ?_) 12 rfl ?_ ?_
                  rotate_left
                  · (intro w hSw; (try dsimp only at hSw); first | (go_simp; done) | (go_simp; with_reducible rfl))
                  try simp only [Act.put, List.setIfInBounds_toArray, List.set_cons_zero, List.set_cons_succ]
                  refine wpAnyH_ready (rs := [0, 8]) (by kernel_rfl) (by simp) ?_
                  refine (AllReadyH.cons (o := { dst := some 97, op := Op.buildSlice 47 0 #[], type := 47, pos := "ref.go:116", after := #[], guard := none }) rfl (fun K hK => ?_) (AllReadyH.cons (o := { dst := some 105, op := Op.buildSlice 47 1 #[(0, Operand.tmp 104)], type := 47, pos := "ref.go:116", after := #[{ on := 7, ground := Ground.data }], guard := none }) rfl (fun K hK => ?_) AllReadyH.nil))
                  · go_simp
                    refine hK.out _ _ trivial (fun hHeld => ?_)
                    clear hK K
                    try simp only [Act.put, List.setIfInBounds_toArray, List.set_cons_zero, List.set_cons_succ]
                    obtain ⟨z1, hz1⟩ : ∃ x, x = (wr.alloc (.cells #[] 50)).drew := ⟨_, rfl⟩
                    have HLE := Lib.hid (show z1.heap[wr.heap.size]? = some (.cells #[] 50 (0, 0)) by rw [hz1]; exact heap_alloc_new wr (.cells #[] 50))
                    have hltE : wr.heap.size < z1.heap.size := (Array.getElem?_eq_some_iff.1 HLE.out).1
                    have hbz1 : Bel wr z1 := by rw [hz1]; exact ((Bel.refl wr).alloc _).drew
                    have HBz1 := Lib.hid (HBR.out.trans hbz1)
                    rw [← hz1]
                    clear hz1
                    have HOE := Lib.hid (ownG_empty (E := ctEl) (n := wr.heap.size) HLE.out HBR.out.size)
                    refine wpAnyH_ready (rs := [4, 8]) (by kernel_rfl) (by simp) ?_
                    refine (AllReadyH.cons (o := { dst := some 101, op := Op.call { callee := Callee.builtin Builtin.append, args := #[Operand.tmp 97, Operand.tmp 100], argTypes := #[47, 47] }, type := 47, pos := "ref.go:116", after := #[{ on := 0, ground := Ground.data }, { on := 3, ground := Ground.data }], guard := none }) rfl (fun K hK => ?_) (AllReadyH.cons (o := { dst := some 105, op := Op.buildSlice 47 1 #[(0, Operand.tmp 104)], type := 47, pos := "ref.go:116", after := #[{ on := 7, ground := Ground.data }], guard := none }) rfl (fun K hK => ?_) AllReadyH.nil))
                    · refine step_append_all ctOk rfl (.tmp 97) (.tmp 100) rfl rfl HOE.out (C.take k) rfl (HS1.out z1 HBz1.out) (by simp only [List.length_nil, List.length_take]; unfold maxLen; omega) (by simp only [List.length_nil, List.length_take]; omega) HBz1.out.size ?_
                      intro vz2 z2 hoz2 hkz2 _
                      have HBz2 := Lib.hid (show Bel wr z2 from HBz1.out.trans_below (hkz2.own HBz1.out.size (fun kk hkk => (HOE.out.lt kk hkk).1)))
                      rw [List.nil_append] at hoz2
                      have hkkz2 : Keep (Value.ownBlock (.slice (some ⟨wr.heap.size, 0, none⟩) 0 0)).toList z1 z2 := hkz2
                      have HO2 := Lib.hid hoz2
                      clear hoz2 hkz2 hkkz2
                      refine hK.out _ _ trivial (fun hHeld => ?_)
                      clear hK K
                      try simp only [Act.put, List.setIfInBounds_toArray, List.set_cons_zero, List.set_cons_succ]
                      refine wpAnyH_ready (rs := [8]) (by kernel_rfl) (by simp) ?_
                      refine AllReadyH.cons (o := { dst := some 105, op := Op.buildSlice 47 1 #[(0, Operand.tmp 104)], type := 47, pos := "ref.go:116", after := #[{ on := 7, ground := Ground.data }], guard := none }) rfl (fun K hK => ?_) AllReadyH.nil
                      go_simp
                      refine hK.out _ _ trivial (fun hHeld => ?_)
                      clear hK K
                      try simp only [Act.put, List.setIfInBounds_toArray, List.set_cons_zero, List.set_cons_succ]
                      obtain ⟨z3, hz3⟩ : ∃ x, x = (z2.alloc (.cells #[.int .i64 (a : Int), .int .i64 (b : Int), .int .i64 1] 50)) := ⟨_, rfl⟩
                      have HLL := Lib.hid (show z3.heap[z2.heap.size]? = some (.cells #[.int .i64 (a : Int), .int .i64 (b : Int), .int .i64 1] 50 (0, 0)) by rw [hz3]; exact heap_alloc_new z2 (.cells #[.int .i64 (a : Int), .int .i64 (b : Int), .int .i64 1] 50))
                      have hltL : z2.heap.size < z3.heap.size := (Array.getElem?_eq_some_iff.1 HLL.out).1
                      have hbz3 : Bel z2 z3 := by rw [hz3]; exact ((Bel.refl z2).alloc _)
                      have HBz3 := Lib.hid (HBz2.out.trans hbz3)
                      rw [← hz3]
                      clear hz3
                      have HO2b := Lib.hid (HO2.out.bel hbz3)
                      refine wpAnyH_ready (rs := [9]) (by kernel_rfl) (by simp) ?_
                      refine AllReadyH.cons (o := { dst := some 106, op := Op.call { callee := Callee.builtin Builtin.append, args := #[Operand.tmp 101, Operand.tmp 105], argTypes := #[47, 47] }, type := 47, pos := "ref.go:116", after := #[{ on := 4, ground := Ground.data }, { on := 8, ground := Ground.data }, { on := 4, ground := Ground.chain }], guard := none }) rfl (fun K hK => ?_) AllReadyH.nil
                      refine step_append_all ctOk rfl (.tmp 101) (.tmp 105) rfl rfl HO2b.out [CT.mk a b 1] rfl (src_at [CT.mk a b 1] HLL.out rfl rfl) (by simp only [List.length_take, List.length_singleton]; unfold maxLen; omega) (by simp only [List.length_take, List.length_singleton]; omega) HBz3.out.size ?_
                      intro vz4 z4 hoz4 hkz4 _
                      have HBz4 := Lib.hid (show Bel wr z4 from HBz3.out.trans_below (hkz4.own HBz3.out.size (fun kk hkk => (HO2b.out.lt kk hkk).1)))
                      have HO3 := Lib.hid hoz4
                      clear hoz4 hkz4
                      refine hK.out _ _ trivial (fun hHeld => ?_)
                      clear hK K
                      try simp only [Act.put, List.setIfInBounds_toArray, List.set_cons_zero, List.set_cons_succ]
                      refine wpAnyH_ready (rs := [13]) (by kernel_rfl) (by simp) ?_
                      refine AllReadyH.cons (o := { dst := some 110, op := Op.call { callee := Callee.builtin Builtin.append, args := #[Operand.tmp 106, Operand.tmp 109], argTypes := #[47, 47] }, type := 47, pos := "ref.go:116", after := #[{ on := 9, ground := Ground.data }, { on := 12, ground := Ground.data }, { on := 9, ground := Ground.chain }], guard := none }) rfl (fun K hK => ?_) AllReadyH.nil
                      refine step_append_all ctOk rfl (.tmp 106) (.tmp 109) rfl rfl HO3.out (C.drop k) rfl (HS2.out z4 HBz4.out) (by simp only [List.length_append, List.length_take, List.length_singleton, List.length_drop]; unfold maxLen; omega) (by simp only [List.length_append, List.length_take, List.length_singleton, List.length_drop]; omega) HBz4.out.size ?_
                      intro vz5 z5 hoz5 hkz5 _
                      have HBz5 := Lib.hid (show Bel wr z5 from HBz4.out.trans_below (hkz5.own HBz4.out.size (fun kk hkk => (HO3.out.lt kk hkk).1)))
                      have HO4 := Lib.hid hoz5
                      clear hoz5 hkz5
                      refine hK.out _ _ trivial (fun hHeld => ?_)
                      clear hK K
                      try simp only [Act.put, List.setIfInBounds_toArray, List.set_cons_zero, List.set_cons_succ]
                      refine tk (oi := { dst := some 3, op := Op.assign (Operand.tmp 110), type := 47, pos := "ref.go:116", after := #[{ on := 13, ground := Ground.data }, { on := 13, ground := Ground.chain }, { on := 0, ground := Ground.phase }, { on := 1, ground := Ground.phase }, { on := 2, ground := Ground.phase }, { on := 3, ground := Ground.phase }, { on := 4, ground := Ground.phase }, { on := 5, ground := Ground.phase }, { on := 6, ground := Ground.phase }, { on := 7, ground := Ground.phase }, { on := 8, ground := Ground.phase }, { on := 9, ground := Ground.phase }, { on := 10, ground := Ground.phase }, { on := 11, ground := Ground.phase }, { on := 12, ground := Ground.phase }, { on := 13, ground := Ground.phase }], guard := none }) (v := ?_) 14 rfl ?_ ?_
                      rotate_left
                      · (intro w hSw; (try dsimp only at hSw); first | (go_simp; done) | (go_simp; with_reducible rfl))
                      try simp only [Act.put, List.setIfInBounds_toArray, List.set_cons_zero, List.set_cons_succ]
                      refine wpAnyH_done (by kernel_rfl) ?_ _
                      have HFIN := Lib.hid (show C.take k ++ [CT.mk a b 1] ++ C.drop k = addC a b C by rw [HADD.out]; simp)
                      have HOF := Lib.hid (show OwnG ctEl w.heap.size z5 vz5 (addC a b C) by rw [← HFIN.out]; exact HO4.out.low HBW.out.size)
                      obtain ⟨pf, cf, hvf⟩ := ownG_len HOF.out
                      rw [hvf] at HOF ⊢
                      clear hvf
                      generalize (addC a b C).length = nf at *
                      clear hHeld
                      go_wp2_with (fail)
                      go_roundw
                      case rel => exact ⟨i + 1, hlt, by go_num, by rw [HN.out, HST.out]; exact HOF.out, HBW.out.trans HBz5.out⟩
                      case measure => simp [intOf]; omega
                    · go_simp
                      refine hK.out _ _ trivial (fun hHeld => ?_)
                      clear hK K
                      try simp only [Act.put, List.setIfInBounds_toArray, List.set_cons_zero, List.set_cons_succ]
                      obtain ⟨z2, hz2⟩ : ∃ x, x = (z1.alloc (.cells #[.int .i64 (a : Int), .int .i64 (b : Int), .int .i64 1] 50)) := ⟨_, rfl⟩
                      have HLL := Lib.hid (show z2.heap[z1.heap.size]? = some (.cells #[.int .i64 (a : Int), .int .i64 (b : Int), .int .i64 1] 50 (0, 0)) by rw [hz2]; exact heap_alloc_new z1 (.cells #[.int .i64 (a : Int), .int .i64 (b : Int), .int .i64 1] 50))
                      have hltL : z1.heap.size < z2.heap.size := (Array.getElem?_eq_some_iff.1 HLL.out).1
                      have hbz2 : Bel z1 z2 := by rw [hz2]; exact ((Bel.refl z1).alloc _)
                      have HBz2 := Lib.hid (HBz1.out.trans hbz2)
                      rw [← hz2]
                      clear hz2
                      have HOE2 := Lib.hid (HOE.out.bel hbz2)
                      refine wpAnyH_ready (rs := [4]) (by kernel_rfl) (by simp) ?_
                      refine AllReadyH.cons (o := { dst := some 101, op := Op.call { callee := Callee.builtin Builtin.append, args := #[Operand.tmp 97, Operand.tmp 100], argTypes := #[47, 47] }, type := 47, pos := "ref.go:116", after := #[{ on := 0, ground := Ground.data }, { on := 3, ground := Ground.data }], guard := none }) rfl (fun K hK => ?_) AllReadyH.nil
                      refine step_append_all ctOk rfl (.tmp 97) (.tmp 100) rfl rfl HOE2.out (C.take k) rfl (HS1.out z2 HBz2.out) (by simp only [List.length_nil, List.length_take]; unfold maxLen; omega) (by simp only [List.length_nil, List.length_take]; omega) HBz2.out.size ?_
                      intro vz3 z3 hoz3 hkz3 _
                      have HBz3 := Lib.hid (show Bel wr z3 from HBz2.out.trans_below (hkz3.own HBz2.out.size (fun kk hkk => (HOE2.out.lt kk hkk).1)))
                      rw [List.nil_append] at hoz3
                      have hkkz3 : Keep (Value.ownBlock (.slice (some ⟨wr.heap.size, 0, none⟩) 0 0)).toList z2 z3 := hkz3
                      have HLL3 := Lib.hid (hkkz3.at HLL.out (fun hm => by rw [Option.mem_toList] at hm; simp only [Value.ownBlock, Option.some.injEq] at hm; omega))
                      have HO2 := Lib.hid hoz3
                      clear hoz3 hkz3 hkkz3
                      refine hK.out _ _ trivial (fun hHeld => ?_)
                      clear hK K
                      try simp only [Act.put, List.setIfInBounds_toArray, List.set_cons_zero, List.set_cons_succ]
                      refine wpAnyH_ready (rs := [9]) (by kernel_rfl) (by simp) ?_
                      refine AllReadyH.cons (o := { dst := some 106, op := Op.call { callee := Callee.builtin Builtin.append, args := #[Operand.tmp 101, Operand.tmp 105], argTypes := #[47, 47] }, type := 47, pos := "ref.go:116", after := #[{ on := 4, ground := Ground.data }, { on := 8, ground := Ground.data }, { on := 4, ground := Ground.chain }], guard := none }) rfl (fun K hK => ?_) AllReadyH.nil
                      refine step_append_all ctOk rfl (.tmp 101) (.tmp 105) rfl rfl HO2.out [CT.mk a b 1] rfl (src_at [CT.mk a b 1] HLL3.out rfl rfl) (by simp only [List.length_take, List.length_singleton]; unfold maxLen; omega) (by simp only [List.length_take, List.length_singleton]; omega) HBz3.out.size ?_
                      intro vz4 z4 hoz4 hkz4 _
                      have HBz4 := Lib.hid (show Bel wr z4 from HBz3.out.trans_below (hkz4.own HBz3.out.size (fun kk hkk => (HO2.out.lt kk hkk).1)))
                      have HO3 := Lib.hid hoz4
                      clear hoz4 hkz4
                      refine hK.out _ _ trivial (fun hHeld => ?_)
                      clear hK K
                      try simp only [Act.put, List.setIfInBounds_toArray, List.set_cons_zero, List.set_cons_succ]
                      refine wpAnyH_ready (rs := [13]) (by kernel_rfl) (by simp) ?_
                      refine AllReadyH.cons (o := { dst := some 110, op := Op.call { callee := Callee.builtin Builtin.append, args := #[Operand.tmp 106, Operand.tmp 109], argTypes := #[47, 47] }, type := 47, pos := "ref.go:116", after := #[{ on := 9, ground := Ground.data }, { on := 12, ground := Ground.data }, { on := 9, ground := Ground.chain }], guard := none }) rfl (fun K hK => ?_) AllReadyH.nil
                      refine step_append_all ctOk rfl (.tmp 106) (.tmp 109) rfl rfl HO3.out (C.drop k) rfl (HS2.out z4 HBz4.out) (by simp only [List.length_append, List.length_take, List.length_singleton, List.length_drop]; unfold maxLen; omega) (by simp only [List.length_append, List.length_take, List.length_singleton, List.length_drop]; omega) HBz4.out.size ?_
                      intro vz5 z5 hoz5 hkz5 _
                      have HBz5 := Lib.hid (show Bel wr z5 from HBz4.out.trans_below (hkz5.own HBz4.out.size (fun kk hkk => (HO3.out.lt kk hkk).1)))
                      have HO4 := Lib.hid hoz5
                      clear hoz5 hkz5
                      refine hK.out _ _ trivial (fun hHeld => ?_)
                      clear hK K
                      try simp only [Act.put, List.setIfInBounds_toArray, List.set_cons_zero, List.set_cons_succ]
                      refine tk (oi := { dst := some 3, op := Op.assign (Operand.tmp 110), type := 47, pos := "ref.go:116", after := #[{ on := 13, ground := Ground.data }, { on := 13, ground := Ground.chain }, { on := 0, ground := Ground.phase }, { on := 1, ground := Ground.phase }, { on := 2, ground := Ground.phase }, { on := 3, ground := Ground.phase }, { on := 4, ground := Ground.phase }, { on := 5, ground := Ground.phase }, { on := 6, ground := Ground.phase }, { on := 7, ground := Ground.phase }, { on := 8, ground := Ground.phase }, { on := 9, ground := Ground.phase }, { on := 10, ground := Ground.phase }, { on := 11, ground := Ground.phase }, { on := 12, ground := Ground.phase }, { on := 13, ground := Ground.phase }], guard := none }) (v := ?_) 14 rfl ?_ ?_
                      rotate_left
                      · (intro w hSw; (try dsimp only at hSw); first | (go_simp; done) | (go_simp; with_reducible rfl))
                      try simp only [Act.put, List.setIfInBounds_toArray, List.set_cons_zero, List.set_cons_succ]
                      refine wpAnyH_done (by kernel_rfl) ?_ _
                      have HFIN := Lib.hid (show C.take k ++ [CT.mk a b 1] ++ C.drop k = addC a b C by rw [HADD.out]; simp)
                      have HOF := Lib.hid (show OwnG ctEl w.heap.size z5 vz5 (addC a b C) by rw [← HFIN.out]; exact HO4.out.low HBW.out.size)
                      obtain ⟨pf, cf, hvf⟩ := ownG_len HOF.out
                      rw [hvf] at HOF ⊢
                      clear hvf
                      generalize (addC a b C).length = nf at *
                      clear hHeld
                      go_wp2_with (fail)
                      go_roundw
                      case rel => exact ⟨i + 1, hlt, by go_num, by rw [HN.out, HST.out]; exact HOF.out, HBW.out.trans HBz5.out⟩
                      case measure => simp [intOf]; omega
                  · go_simp
                    refine hK.out _ _ trivial (fun hHeld => ?_)
                    clear hK K
                    try simp only [Act.put, List.setIfInBounds_toArray, List.set_cons_zero, List.set_cons_succ]
                    obtain ⟨z1, hz1⟩ : ∃ x, x = (wr.alloc (.cells #[.int .i64 (a : Int), .int .i64 (b : Int), .int .i64 1] 50)).drew := ⟨_, rfl⟩
                    have HLL := Lib.hid (show z1.heap[wr.heap.size]? = some (.cells #[.int .i64 (a : Int), .int .i64 (b : Int), .int .i64 1] 50 (0, 0)) by rw [hz1]; exact heap_alloc_new wr (.cells #[.int .i64 (a : Int), .int .i64 (b : Int), .int .i64 1] 50))
                    have hltL : wr.heap.size < z1.heap.size := (Array.getElem?_eq_some_iff.1 HLL.out).1
                    have hbz1 : Bel wr z1 := by rw [hz1]; exact ((Bel.refl wr).alloc _).drew
                    have HBz1 := Lib.hid (HBR.out.trans hbz1)
                    rw [← hz1]
                    clear hz1
                    refine wpAnyH_ready (rs := [0]) (by kernel_rfl) (by simp) ?_
                    refine AllReadyH.cons (o := { dst := some 97, op := Op.buildSlice 47 0 #[], type := 47, pos := "ref.go:116", after := #[], guard := none }) rfl (fun K hK => ?_) AllReadyH.nil
                    go_simp
                    refine hK.out _ _ trivial (fun hHeld => ?_)
                    clear hK K
                    try simp only [Act.put, List.setIfInBounds_toArray, List.set_cons_zero, List.set_cons_succ]
                    obtain ⟨z2, hz2⟩ : ∃ x, x = (z1.alloc (.cells #[] 50)) := ⟨_, rfl⟩
                    have HLE := Lib.hid (show z2.heap[z1.heap.size]? = some (.cells #[] 50 (0, 0)) by rw [hz2]; exact heap_alloc_new z1 (.cells #[] 50))
                    have hltE : z1.heap.size < z2.heap.size := (Array.getElem?_eq_some_iff.1 HLE.out).1
                    have hbz2 : Bel z1 z2 := by rw [hz2]; exact ((Bel.refl z1).alloc _)
                    have HBz2 := Lib.hid (HBz1.out.trans hbz2)
                    rw [← hz2]
                    clear hz2
                    have HOE := Lib.hid (ownG_empty (E := ctEl) (n := wr.heap.size) HLE.out HBz1.out.size)
                    have HLL2 := Lib.hid ((Below.block hbz2 wr.heap.size (by omega)).trans HLL.out)
                    refine wpAnyH_ready (rs := [4]) (by kernel_rfl) (by simp) ?_
                    refine AllReadyH.cons (o := { dst := some 101, op := Op.call { callee := Callee.builtin Builtin.append, args := #[Operand.tmp 97, Operand.tmp 100], argTypes := #[47, 47] }, type := 47, pos := "ref.go:116", after := #[{ on := 0, ground := Ground.data }, { on := 3, ground := Ground.data }], guard := none }) rfl (fun K hK => ?_) AllReadyH.nil
                    refine step_append_all ctOk rfl (.tmp 97) (.tmp 100) rfl rfl HOE.out (C.take k) rfl (HS1.out z2 HBz2.out) (by simp only [List.length_nil, List.length_take]; unfold maxLen; omega) (by simp only [List.length_nil, List.length_take]; omega) HBz2.out.size ?_
                    intro vz3 z3 hoz3 hkz3 _
                    have HBz3 := Lib.hid (show Bel wr z3 from HBz2.out.trans_below (hkz3.own HBz2.out.size (fun kk hkk => (HOE.out.lt kk hkk).1)))
                    rw [List.nil_append] at hoz3
                    have hkkz3 : Keep (Value.ownBlock (.slice (some ⟨z1.heap.size, 0, none⟩) 0 0)).toList z2 z3 := hkz3
                    have HLL3 := Lib.hid (hkkz3.at HLL2.out (fun hm => by rw [Option.mem_toList] at hm; simp only [Value.ownBlock, Option.some.injEq] at hm; omega))
                    have HO2 := Lib.hid hoz3
                    clear hoz3 hkz3 hkkz3
                    refine hK.out _ _ trivial (fun hHeld => ?_)
                    clear hK K
                    try simp only [Act.put, List.setIfInBounds_toArray, List.set_cons_zero, List.set_cons_succ]
                    refine wpAnyH_ready (rs := [9]) (by kernel_rfl) (by simp) ?_
                    refine AllReadyH.cons (o := { dst := some 106, op := Op.call { callee := Callee.builtin Builtin.append, args := #[Operand.tmp 101, Operand.tmp 105], argTypes := #[47, 47] }, type := 47, pos := "ref.go:116", after := #[{ on := 4, ground := Ground.data }, { on := 8, ground := Ground.data }, { on := 4, ground := Ground.chain }], guard := none }) rfl (fun K hK => ?_) AllReadyH.nil
                    refine step_append_all ctOk rfl (.tmp 101) (.tmp 105) rfl rfl HO2.out [CT.mk a b 1] rfl (src_at [CT.mk a b 1] HLL3.out rfl rfl) (by simp only [List.length_take, List.length_singleton]; unfold maxLen; omega) (by simp only [List.length_take, List.length_singleton]; omega) HBz3.out.size ?_
                    intro vz4 z4 hoz4 hkz4 _
                    have HBz4 := Lib.hid (show Bel wr z4 from HBz3.out.trans_below (hkz4.own HBz3.out.size (fun kk hkk => (HO2.out.lt kk hkk).1)))
                    have HO3 := Lib.hid hoz4
                    clear hoz4 hkz4
                    refine hK.out _ _ trivial (fun hHeld => ?_)
                    clear hK K
                    try simp only [Act.put, List.setIfInBounds_toArray, List.set_cons_zero, List.set_cons_succ]
                    refine wpAnyH_ready (rs := [13]) (by kernel_rfl) (by simp) ?_
                    refine AllReadyH.cons (o := { dst := some 110, op := Op.call { callee := Callee.builtin Builtin.append, args := #[Operand.tmp 106, Operand.tmp 109], argTypes := #[47, 47] }, type := 47, pos := "ref.go:116", after := #[{ on := 9, ground := Ground.data }, { on := 12, ground := Ground.data }, { on := 9, ground := Ground.chain }], guard := none }) rfl (fun K hK => ?_) AllReadyH.nil
                    refine step_append_all ctOk rfl (.tmp 106) (.tmp 109) rfl rfl HO3.out (C.drop k) rfl (HS2.out z4 HBz4.out) (by simp only [List.length_append, List.length_take, List.length_singleton, List.length_drop]; unfold maxLen; omega) (by simp only [List.length_append, List.length_take, List.length_singleton, List.length_drop]; omega) HBz4.out.size ?_
                    intro vz5 z5 hoz5 hkz5 _
                    have HBz5 := Lib.hid (show Bel wr z5 from HBz4.out.trans_below (hkz5.own HBz4.out.size (fun kk hkk => (HO3.out.lt kk hkk).1)))
                    have HO4 := Lib.hid hoz5
                    clear hoz5 hkz5
                    refine hK.out _ _ trivial (fun hHeld => ?_)
                    clear hK K
                    try simp only [Act.put, List.setIfInBounds_toArray, List.set_cons_zero, List.set_cons_succ]
                    refine tk (oi := { dst := some 3, op := Op.assign (Operand.tmp 110), type := 47, pos := "ref.go:116", after := #[{ on := 13, ground := Ground.data }, { on := 13, ground := Ground.chain }, { on := 0, ground := Ground.phase }, { on := 1, ground := Ground.phase }, { on := 2, ground := Ground.phase }, { on := 3, ground := Ground.phase }, { on := 4, ground := Ground.phase }, { on := 5, ground := Ground.phase }, { on := 6, ground := Ground.phase }, { on := 7, ground := Ground.phase }, { on := 8, ground := Ground.phase }, { on := 9, ground := Ground.phase }, { on := 10, ground := Ground.phase }, { on := 11, ground := Ground.phase }, { on := 12, ground := Ground.phase }, { on := 13, ground := Ground.phase }], guard := none }) (v := ?_) 14 rfl ?_ ?_
                    rotate_left
                    · (intro w hSw; (try dsimp only at hSw); first | (go_simp; done) | (go_simp; with_reducible rfl))
                    try simp only [Act.put, List.setIfInBounds_toArray, List.set_cons_zero, List.set_cons_succ]
                    refine wpAnyH_done (by kernel_rfl) ?_ _
                    have HFIN := Lib.hid (show C.take k ++ [CT.mk a b 1] ++ C.drop k = addC a b C by rw [HADD.out]; simp)
                    have HOF := Lib.hid (show OwnG ctEl w.heap.size z5 vz5 (addC a b C) by rw [← HFIN.out]; exact HO4.out.low HBW.out.size)
                    obtain ⟨pf, cf, hvf⟩ := ownG_len HOF.out
                    rw [hvf] at HOF ⊢
                    clear hvf
                    generalize (addC a b C).length = nf at *
                    clear hHeld
                    go_wp2_with (fail)
                    go_roundw
                    case rel => exact ⟨i + 1, hlt, by go_num, by rw [HN.out, HST.out]; exact HOF.out, HBW.out.trans HBz5.out⟩
                    case measure => simp [intOf]; omega
              · have HADD := Lib.hid (show addC a b C = C.take k ++ ⟨a, b, 1⟩ :: C.drop k by
                  rw [add_at a b C k hk HALL.out (fun h => absurd h hkl), dif_neg hkl])
                have HBW := Lib.hid (HB1.out.trans HW.out.bel)
                have HOWR := Lib.hid (HO1.out.bel HW.out.bel)
                have hCl : C.length ≤ i := hci
                have HS1 := Lib.hid (show ∀ x, Bel wr x → SrcAt ctEl x (.slice (some ⟨g, 0, none⟩) k ccap) (C.take k) from fun x hx => by
                  have := own_piece ctOk (HOWR.out.bel hx) 0 k ccap (by omega)
                  simpa using this)
                have HPK : ∃ pk, (if ccap = k then some (⟨g, 0, none⟩ : Addr) else some ⟨g, k * 3, none⟩) = some pk ∧ ∀ x, Bel wr x → SrcAt ctEl x (.slice (some pk) (C.length - k) (ccap - k)) (C.drop k) := by
                  by_cases hck0 : ccap = k
                  · refine ⟨_, if_pos hck0, fun x hx => Or.inr ⟨_, _, by rw [List.length_drop], fun j u hj => ?_⟩⟩
                    rw [List.drop_eq_nil_of_le (by omega)] at hj
                    simp [El.all] at hj
                  · refine ⟨_, if_neg hck0, fun x hx => ?_⟩
                    have := own_piece ctOk (HOWR.out.bel hx) k (C.length - k) (ccap - k) (by omega)
                    rw [List.take_of_length_le (by rw [List.length_drop]; omega)] at this
                    exact this
                obtain ⟨pk, hpk, hps⟩ := HPK
                have HS2 := Lib.hid hps
                have hkc : k ≤ ccap := by omega
                clear hps
                go_wp2_with (fail)
                have HBR := Lib.hid (Bel.refl wr)
                refine wp_region_held_drew (S := fun z => True) (by kernel_rfl) trivial (fun hHeld => ?_)
                refine tk (oi := { dst := some 98, op := Op.move (Operand.tmp 3), type := 47, pos := "ref.go:116", after := #[], guard := none }) (v := ?_) 1 rfl ?_ ?_
                rotate_left
                · (intro w hSw; (try dsimp only at hSw); first | (go_simp; done) | (go_simp; with_reducible rfl))
                try simp only [Act.put, List.setIfInBounds_toArray, List.set_cons_zero, List.set_cons_succ]
                refine tk (oi := { dst := some 99, op := Op.move (Operand.tmp 8), type := 3, pos := "ref.go:116", after := #[], guard := none }) (v := ?_) 2 rfl ?_ ?_
                rotate_left
                · (intro w hSw; (try dsimp only at hSw); first | (go_simp; done) | (go_simp; with_reducible rfl))
                try simp only [Act.put, List.setIfInBounds_toArray, List.set_cons_zero, List.set_cons_succ]
                refine tk (oi := { dst := some 100, op := Op.slice 47 (Operand.tmp 98) none (some (Operand.tmp 99)) none, type := 47, pos := "ref.go:116", after := #[{ on := 1, ground := Ground.data }, { on := 2, ground := Ground.data }], guard := none }) (v := ?_) 3 rfl ?_ ?_
                rotate_left
                · (intro w hSw; (try dsimp only at hSw); first | (go_simp; done) | (go_simp; with_reducible rfl))
                try simp only [Act.put, List.setIfInBounds_toArray, List.set_cons_zero, List.set_cons_succ]
                refine tk (oi := { dst := some 102, op := Op.move (Operand.tmp 5), type := 3, pos := "ref.go:116", after := #[], guard := none }) (v := ?_) 5 rfl ?_ ?_
                rotate_left
                · (intro w hSw; (try dsimp only at hSw); first | (go_simp; done) | (go_simp; with_reducible rfl))
                try simp only [Act.put, List.setIfInBounds_toArray, List.set_cons_zero, List.set_cons_succ]
                refine tk (oi := { dst := some 103, op := Op.move (Operand.tmp 6), type := 3, pos := "ref.go:116", after := #[], guard := none }) (v := ?_) 6 rfl ?_ ?_
                rotate_left
                · (intro w hSw; (try dsimp only at hSw); first | (go_simp; done) | (go_simp; with_reducible rfl))
                try simp only [Act.put, List.setIfInBounds_toArray, List.set_cons_zero, List.set_cons_succ]
                refine tk (oi := { dst := some 104, op := Op.build 50 #[(0, Operand.tmp 102), (1, Operand.tmp 103), (2, Operand.const (Value.int IntKind.i64 1))], type := 50, pos := "ref.go:116", after := #[{ on := 5, ground := Ground.data }, { on := 6, ground := Ground.data }], guard := none }) (v := ?_) 7 rfl ?_ ?_
                rotate_left
                · (intro w hSw; (try dsimp only at hSw); first | (go_simp; done) | (go_simp; with_reducible rfl))
                try simp only [Act.put, List.setIfInBounds_toArray, List.set_cons_zero, List.set_cons_succ]
                refine tk (oi := { dst := some 107, op := Op.move (Operand.tmp 3), type := 47, pos := "ref.go:116", after := #[], guard := none }) (v := ?_) 10 rfl ?_ ?_
                rotate_left
                · (intro w hSw; (try dsimp only at hSw); first | (go_simp; done) | (go_simp; with_reducible rfl))
                try simp only [Act.put, List.setIfInBounds_toArray, List.set_cons_zero, List.set_cons_succ]
                refine tk (oi := { dst := some 108, op := Op.move (Operand.tmp 8), type := 3, pos := "ref.go:116", after := #[], guard := none }) (v := ?_) 11 rfl ?_ ?_
                rotate_left
                · (intro w hSw; (try dsimp only at hSw); first | (go_simp; done) | (go_simp; with_reducible rfl))
                try simp only [Act.put, List.setIfInBounds_toArray, List.set_cons_zero, List.set_cons_succ]
                refine tk (oi := { dst := some 109, op := Op.slice 47 (Operand.tmp 107) (some (Operand.tmp 108)) none none, type := 47, pos := "ref.go:116", after := #[{ on := 10, ground := Ground.data }, { on := 11, ground := Ground.data }], guard := none }) (v := ?_) 12 rfl ?_ ?_
                rotate_left
                · (intro w hSw; (try dsimp only at hSw); first | (go_simp; done) | (go_simp; with_reducible rfl))
                try simp only [Act.put, List.setIfInBounds_toArray, List.set_cons_zero, List.set_cons_succ]
                refine wpAnyH_ready (rs := [0, 8]) (by kernel_rfl) (by simp) ?_
                refine (AllReadyH.cons (o := { dst := some 97, op := Op.buildSlice 47 0 #[], type := 47, pos := "ref.go:116", after := #[], guard := none }) rfl (fun K hK => ?_) (AllReadyH.cons (o := { dst := some 105, op := Op.buildSlice 47 1 #[(0, Operand.tmp 104)], type := 47, pos := "ref.go:116", after := #[{ on := 7, ground := Ground.data }], guard := none }) rfl (fun K hK => ?_) AllReadyH.nil))
                · go_simp
                  refine hK.out _ _ trivial (fun hHeld => ?_)
                  clear hK K
                  try simp only [Act.put, List.setIfInBounds_toArray, List.set_cons_zero, List.set_cons_succ]
                  obtain ⟨z1, hz1⟩ : ∃ x, x = (wr.alloc (.cells #[] 50)).drew := ⟨_, rfl⟩
                  have HLE := Lib.hid (show z1.heap[wr.heap.size]? = some (.cells #[] 50 (0, 0)) by rw [hz1]; exact heap_alloc_new wr (.cells #[] 50))
                  have hltE : wr.heap.size < z1.heap.size := (Array.getElem?_eq_some_iff.1 HLE.out).1
                  have hbz1 : Bel wr z1 := by rw [hz1]; exact ((Bel.refl wr).alloc _).drew
                  have HBz1 := Lib.hid (HBR.out.trans hbz1)
                  rw [← hz1]
                  clear hz1
                  have HOE := Lib.hid (ownG_empty (E := ctEl) (n := wr.heap.size) HLE.out HBR.out.size)
                  refine wpAnyH_ready (rs := [4, 8]) (by kernel_rfl) (by simp) ?_
                  refine (AllReadyH.cons (o := { dst := some 101, op := Op.call { callee := Callee.builtin Builtin.append, args := #[Operand.tmp 97, Operand.tmp 100], argTypes := #[47, 47] }, type := 47, pos := "ref.go:116", after := #[{ on := 0, ground := Ground.data }, { on := 3, ground := Ground.data }], guard := none }) rfl (fun K hK => ?_) (AllReadyH.cons (o := { dst := some 105, op := Op.buildSlice 47 1 #[(0, Operand.tmp 104)], type := 47, pos := "ref.go:116", after := #[{ on := 7, ground := Ground.data }], guard := none }) rfl (fun K hK => ?_) AllReadyH.nil))
                  · refine step_append_all ctOk rfl (.tmp 97) (.tmp 100) rfl rfl HOE.out (C.take k) rfl (HS1.out z1 HBz1.out) (by simp only [List.length_nil, List.length_take]; unfold maxLen; omega) (by simp only [List.length_nil, List.length_take]; omega) HBz1.out.size ?_
                    intro vz2 z2 hoz2 hkz2 _
                    have HBz2 := Lib.hid (show Bel wr z2 from HBz1.out.trans_below (hkz2.own HBz1.out.size (fun kk hkk => (HOE.out.lt kk hkk).1)))
                    rw [List.nil_append] at hoz2
                    have hkkz2 : Keep (Value.ownBlock (.slice (some ⟨wr.heap.size, 0, none⟩) 0 0)).toList z1 z2 := hkz2
                    have HO2 := Lib.hid hoz2
                    clear hoz2 hkz2 hkkz2
                    refine hK.out _ _ trivial (fun hHeld => ?_)
                    clear hK K
                    try simp only [Act.put, List.setIfInBounds_toArray, List.set_cons_zero, List.set_cons_succ]
                    refine wpAnyH_ready (rs := [8]) (by kernel_rfl) (by simp) ?_
                    refine AllReadyH.cons (o := { dst := some 105, op := Op.buildSlice 47 1 #[(0, Operand.tmp 104)], type := 47, pos := "ref.go:116", after := #[{ on := 7, ground := Ground.data }], guard := none }) rfl (fun K hK => ?_) AllReadyH.nil
                    go_simp
                    refine hK.out _ _ trivial (fun hHeld => ?_)
                    clear hK K
                    try simp only [Act.put, List.setIfInBounds_toArray, List.set_cons_zero, List.set_cons_succ]
                    obtain ⟨z3, hz3⟩ : ∃ x, x = (z2.alloc (.cells #[.int .i64 (a : Int), .int .i64 (b : Int), .int .i64 1] 50)) := ⟨_, rfl⟩
                    have HLL := Lib.hid (show z3.heap[z2.heap.size]? = some (.cells #[.int .i64 (a : Int), .int .i64 (b : Int), .int .i64 1] 50 (0, 0)) by rw [hz3]; exact heap_alloc_new z2 (.cells #[.int .i64 (a : Int), .int .i64 (b : Int), .int .i64 1] 50))
                    have hltL : z2.heap.size < z3.heap.size := (Array.getElem?_eq_some_iff.1 HLL.out).1
                    have hbz3 : Bel z2 z3 := by rw [hz3]; exact ((Bel.refl z2).alloc _)
                    have HBz3 := Lib.hid (HBz2.out.trans hbz3)
                    rw [← hz3]
                    clear hz3
                    have HO2b := Lib.hid (HO2.out.bel hbz3)
                    refine wpAnyH_ready (rs := [9]) (by kernel_rfl) (by simp) ?_
                    refine AllReadyH.cons (o := { dst := some 106, op := Op.call { callee := Callee.builtin Builtin.append, args := #[Operand.tmp 101, Operand.tmp 105], argTypes := #[47, 47] }, type := 47, pos := "ref.go:116", after := #[{ on := 4, ground := Ground.data }, { on := 8, ground := Ground.data }, { on := 4, ground := Ground.chain }], guard := none }) rfl (fun K hK => ?_) AllReadyH.nil
                    refine step_append_all ctOk rfl (.tmp 101) (.tmp 105) rfl rfl HO2b.out [CT.mk a b 1] rfl (src_at [CT.mk a b 1] HLL.out rfl rfl) (by simp only [List.length_take, List.length_singleton]; unfold maxLen; omega) (by simp only [List.length_take, List.length_singleton]; omega) HBz3.out.size ?_
                    intro vz4 z4 hoz4 hkz4 _
                    have HBz4 := Lib.hid (show Bel wr z4 from HBz3.out.trans_below (hkz4.own HBz3.out.size (fun kk hkk => (HO2b.out.lt kk hkk).1)))
                    have HO3 := Lib.hid hoz4
                    clear hoz4 hkz4
                    refine hK.out _ _ trivial (fun hHeld => ?_)
                    clear hK K
                    try simp only [Act.put, List.setIfInBounds_toArray, List.set_cons_zero, List.set_cons_succ]
                    refine wpAnyH_ready (rs := [13]) (by kernel_rfl) (by simp) ?_
                    refine AllReadyH.cons (o := { dst := some 110, op := Op.call { callee := Callee.builtin Builtin.append, args := #[Operand.tmp 106, Operand.tmp 109], argTypes := #[47, 47] }, type := 47, pos := "ref.go:116", after := #[{ on := 9, ground := Ground.data }, { on := 12, ground := Ground.data }, { on := 9, ground := Ground.chain }], guard := none }) rfl (fun K hK => ?_) AllReadyH.nil
                    refine step_append_all ctOk rfl (.tmp 106) (.tmp 109) rfl rfl HO3.out (C.drop k) rfl (HS2.out z4 HBz4.out) (by simp only [List.length_append, List.length_take, List.length_singleton, List.length_drop]; unfold maxLen; omega) (by simp only [List.length_append, List.length_take, List.length_singleton, List.length_drop]; omega) HBz4.out.size ?_
                    intro vz5 z5 hoz5 hkz5 _
                    have HBz5 := Lib.hid (show Bel wr z5 from HBz4.out.trans_below (hkz5.own HBz4.out.size (fun kk hkk => (HO3.out.lt kk hkk).1)))
                    have HO4 := Lib.hid hoz5
                    clear hoz5 hkz5
                    refine hK.out _ _ trivial (fun hHeld => ?_)
                    clear hK K
                    try simp only [Act.put, List.setIfInBounds_toArray, List.set_cons_zero, List.set_cons_succ]
                    refine tk (oi := { dst := some 3, op := Op.assign (Operand.tmp 110), type := 47, pos := "ref.go:116", after := #[{ on := 13, ground := Ground.data }, { on := 13, ground := Ground.chain }, { on := 0, ground := Ground.phase }, { on := 1, ground := Ground.phase }, { on := 2, ground := Ground.phase }, { on := 3, ground := Ground.phase }, { on := 4, ground := Ground.phase }, { on := 5, ground := Ground.phase }, { on := 6, ground := Ground.phase }, { on := 7, ground := Ground.phase }, { on := 8, ground := Ground.phase }, { on := 9, ground := Ground.phase }, { on := 10, ground := Ground.phase }, { on := 11, ground := Ground.phase }, { on := 12, ground := Ground.phase }, { on := 13, ground := Ground.phase }], guard := none }) (v := ?_) 14 rfl ?_ ?_
                    rotate_left
                    · (intro w hSw; (try dsimp only at hSw); first | (go_simp; done) | (go_simp; with_reducible rfl))
                    try simp only [Act.put, List.setIfInBounds_toArray, List.set_cons_zero, List.set_cons_succ]
                    refine wpAnyH_done (by kernel_rfl) ?_ _
                    have HFIN := Lib.hid (show C.take k ++ [CT.mk a b 1] ++ C.drop k = addC a b C by rw [HADD.out]; simp)
                    have HOF := Lib.hid (show OwnG ctEl w.heap.size z5 vz5 (addC a b C) by rw [← HFIN.out]; exact HO4.out.low HBW.out.size)
                    obtain ⟨pf, cf, hvf⟩ := ownG_len HOF.out
                    rw [hvf] at HOF ⊢
                    clear hvf
                    generalize (addC a b C).length = nf at *
                    clear hHeld
                    go_wp2_with (fail)
                    go_roundw
                    case rel => exact ⟨i + 1, hlt, by go_num, by rw [HN.out, HST.out]; exact HOF.out, HBW.out.trans HBz5.out⟩
                    case measure => simp [intOf]; omega
                  · go_simp
                    refine hK.out _ _ trivial (fun hHeld => ?_)
                    clear hK K
                    try simp only [Act.put, List.setIfInBounds_toArray, List.set_cons_zero, List.set_cons_succ]
                    obtain ⟨z2, hz2⟩ : ∃ x, x = (z1.alloc (.cells #[.int .i64 (a : Int), .int .i64 (b : Int), .int .i64 1] 50)) := ⟨_, rfl⟩
                    have HLL := Lib.hid (show z2.heap[z1.heap.size]? = some (.cells #[.int .i64 (a : Int), .int .i64 (b : Int), .int .i64 1] 50 (0, 0)) by rw [hz2]; exact heap_alloc_new z1 (.cells #[.int .i64 (a : Int), .int .i64 (b : Int), .int .i64 1] 50))
                    have hltL : z1.heap.size < z2.heap.size := (Array.getElem?_eq_some_iff.1 HLL.out).1
                    have hbz2 : Bel z1 z2 := by rw [hz2]; exact ((Bel.refl z1).alloc _)
                    have HBz2 := Lib.hid (HBz1.out.trans hbz2)
                    rw [← hz2]
                    clear hz2
                    have HOE2 := Lib.hid (HOE.out.bel hbz2)
                    refine wpAnyH_ready (rs := [4]) (by kernel_rfl) (by simp) ?_
                    refine AllReadyH.cons (o := { dst := some 101, op := Op.call { callee := Callee.builtin Builtin.append, args := #[Operand.tmp 97, Operand.tmp 100], argTypes := #[47, 47] }, type := 47, pos := "ref.go:116", after := #[{ on := 0, ground := Ground.data }, { on := 3, ground := Ground.data }], guard := none }) rfl (fun K hK => ?_) AllReadyH.nil
                    refine step_append_all ctOk rfl (.tmp 97) (.tmp 100) rfl rfl HOE2.out (C.take k) rfl (HS1.out z2 HBz2.out) (by simp only [List.length_nil, List.length_take]; unfold maxLen; omega) (by simp only [List.length_nil, List.length_take]; omega) HBz2.out.size ?_
                    intro vz3 z3 hoz3 hkz3 _
                    have HBz3 := Lib.hid (show Bel wr z3 from HBz2.out.trans_below (hkz3.own HBz2.out.size (fun kk hkk => (HOE2.out.lt kk hkk).1)))
                    rw [List.nil_append] at hoz3
                    have hkkz3 : Keep (Value.ownBlock (.slice (some ⟨wr.heap.size, 0, none⟩) 0 0)).toList z2 z3 := hkz3
                    have HLL3 := Lib.hid (hkkz3.at HLL.out (fun hm => by rw [Option.mem_toList] at hm; simp only [Value.ownBlock, Option.some.injEq] at hm; omega))
                    have HO2 := Lib.hid hoz3
                    clear hoz3 hkz3 hkkz3
                    refine hK.out _ _ trivial (fun hHeld => ?_)
                    clear hK K
                    try simp only [Act.put, List.setIfInBounds_toArray, List.set_cons_zero, List.set_cons_succ]
                    refine wpAnyH_ready (rs := [9]) (by kernel_rfl) (by simp) ?_
                    refine AllReadyH.cons (o := { dst := some 106, op := Op.call { callee := Callee.builtin Builtin.append, args := #[Operand.tmp 101, Operand.tmp 105], argTypes := #[47, 47] }, type := 47, pos := "ref.go:116", after := #[{ on := 4, ground := Ground.data }, { on := 8, ground := Ground.data }, { on := 4, ground := Ground.chain }], guard := none }) rfl (fun K hK => ?_) AllReadyH.nil
                    refine step_append_all ctOk rfl (.tmp 101) (.tmp 105) rfl rfl HO2.out [CT.mk a b 1] rfl (src_at [CT.mk a b 1] HLL3.out rfl rfl) (by simp only [List.length_take, List.length_singleton]; unfold maxLen; omega) (by simp only [List.length_take, List.length_singleton]; omega) HBz3.out.size ?_
                    intro vz4 z4 hoz4 hkz4 _
                    have HBz4 := Lib.hid (show Bel wr z4 from HBz3.out.trans_below (hkz4.own HBz3.out.size (fun kk hkk => (HO2.out.lt kk hkk).1)))
                    have HO3 := Lib.hid hoz4
                    clear hoz4 hkz4
                    refine hK.out _ _ trivial (fun hHeld => ?_)
                    clear hK K
                    try simp only [Act.put, List.setIfInBounds_toArray, List.set_cons_zero, List.set_cons_succ]
                    refine wpAnyH_ready (rs := [13]) (by kernel_rfl) (by simp) ?_
                    refine AllReadyH.cons (o := { dst := some 110, op := Op.call { callee := Callee.builtin Builtin.append, args := #[Operand.tmp 106, Operand.tmp 109], argTypes := #[47, 47] }, type := 47, pos := "ref.go:116", after := #[{ on := 9, ground := Ground.data }, { on := 12, ground := Ground.data }, { on := 9, ground := Ground.chain }], guard := none }) rfl (fun K hK => ?_) AllReadyH.nil
                    refine step_append_all ctOk rfl (.tmp 106) (.tmp 109) rfl rfl HO3.out (C.drop k) rfl (HS2.out z4 HBz4.out) (by simp only [List.length_append, List.length_take, List.length_singleton, List.length_drop]; unfold maxLen; omega) (by simp only [List.length_append, List.length_take, List.length_singleton, List.length_drop]; omega) HBz4.out.size ?_
                    intro vz5 z5 hoz5 hkz5 _
                    have HBz5 := Lib.hid (show Bel wr z5 from HBz4.out.trans_below (hkz5.own HBz4.out.size (fun kk hkk => (HO3.out.lt kk hkk).1)))
                    have HO4 := Lib.hid hoz5
                    clear hoz5 hkz5
                    refine hK.out _ _ trivial (fun hHeld => ?_)
                    clear hK K
                    try simp only [Act.put, List.setIfInBounds_toArray, List.set_cons_zero, List.set_cons_succ]
                    refine tk (oi := { dst := some 3, op := Op.assign (Operand.tmp 110), type := 47, pos := "ref.go:116", after := #[{ on := 13, ground := Ground.data }, { on := 13, ground := Ground.chain }, { on := 0, ground := Ground.phase }, { on := 1, ground := Ground.phase }, { on := 2, ground := Ground.phase }, { on := 3, ground := Ground.phase }, { on := 4, ground := Ground.phase }, { on := 5, ground := Ground.phase }, { on := 6, ground := Ground.phase }, { on := 7, ground := Ground.phase }, { on := 8, ground := Ground.phase }, { on := 9, ground := Ground.phase }, { on := 10, ground := Ground.phase }, { on := 11, ground := Ground.phase }, { on := 12, ground := Ground.phase }, { on := 13, ground := Ground.phase }], guard := none }) (v := ?_) 14 rfl ?_ ?_
                    rotate_left
                    · (intro w hSw; (try dsimp only at hSw); first | (go_simp; done) | (go_simp; with_reducible rfl))
                    try simp only [Act.put, List.setIfInBounds_toArray, List.set_cons_zero, List.set_cons_succ]
                    refine wpAnyH_done (by kernel_rfl) ?_ _
                    have HFIN := Lib.hid (show C.take k ++ [CT.mk a b 1] ++ C.drop k = addC a b C by rw [HADD.out]; simp)
                    have HOF := Lib.hid (show OwnG ctEl w.heap.size z5 vz5 (addC a b C) by rw [← HFIN.out]; exact HO4.out.low HBW.out.size)
                    obtain ⟨pf, cf, hvf⟩ := ownG_len HOF.out
                    rw [hvf] at HOF ⊢
                    clear hvf
                    generalize (addC a b C).length = nf at *
                    clear hHeld
                    go_wp2_with (fail)
                    go_roundw
                    case rel => exact ⟨i + 1, hlt, by go_num, by rw [HN.out, HST.out]; exact HOF.out, HBW.out.trans HBz5.out⟩
                    case measure => simp [intOf]; omega
                · go_simp
                  refine hK.out _ _ trivial (fun hHeld => ?_)
                  clear hK K
                  try simp only [Act.put, List.setIfInBounds_toArray, List.set_cons_zero, List.set_cons_succ]
                  obtain ⟨z1, hz1⟩ : ∃ x, x = (wr.alloc (.cells #[.int .i64 (a : Int), .int .i64 (b : Int), .int .i64 1] 50)).drew := ⟨_, rfl⟩
                  have HLL := Lib.hid (show z1.heap[wr.heap.size]? = some (.cells #[.int .i64 (a : Int), .int .i64 (b : Int), .int .i64 1] 50 (0, 0)) by rw [hz1]; exact heap_alloc_new wr (.cells #[.int .i64 (a : Int), .int .i64 (b : Int), .int .i64 1] 50))
                  have hltL : wr.heap.size < z1.heap.size := (Array.getElem?_eq_some_iff.1 HLL.out).1
                  have hbz1 : Bel wr z1 := by rw [hz1]; exact ((Bel.refl wr).alloc _).drew
                  have HBz1 := Lib.hid (HBR.out.trans hbz1)
                  rw [← hz1]
                  clear hz1
                  refine wpAnyH_ready (rs := [0]) (by kernel_rfl) (by simp) ?_
                  refine AllReadyH.cons (o := { dst := some 97, op := Op.buildSlice 47 0 #[], type := 47, pos := "ref.go:116", after := #[], guard := none }) rfl (fun K hK => ?_) AllReadyH.nil
                  go_simp
                  refine hK.out _ _ trivial (fun hHeld => ?_)
                  clear hK K
                  try simp only [Act.put, List.setIfInBounds_toArray, List.set_cons_zero, List.set_cons_succ]
                  obtain ⟨z2, hz2⟩ : ∃ x, x = (z1.alloc (.cells #[] 50)) := ⟨_, rfl⟩
                  have HLE := Lib.hid (show z2.heap[z1.heap.size]? = some (.cells #[] 50 (0, 0)) by rw [hz2]; exact heap_alloc_new z1 (.cells #[] 50))
                  have hltE : z1.heap.size < z2.heap.size := (Array.getElem?_eq_some_iff.1 HLE.out).1
                  have hbz2 : Bel z1 z2 := by rw [hz2]; exact ((Bel.refl z1).alloc _)
                  have HBz2 := Lib.hid (HBz1.out.trans hbz2)
                  rw [← hz2]
                  clear hz2
                  have HOE := Lib.hid (ownG_empty (E := ctEl) (n := wr.heap.size) HLE.out HBz1.out.size)
                  have HLL2 := Lib.hid ((Below.block hbz2 wr.heap.size (by omega)).trans HLL.out)
                  refine wpAnyH_ready (rs := [4]) (by kernel_rfl) (by simp) ?_
                  refine AllReadyH.cons (o := { dst := some 101, op := Op.call { callee := Callee.builtin Builtin.append, args := #[Operand.tmp 97, Operand.tmp 100], argTypes := #[47, 47] }, type := 47, pos := "ref.go:116", after := #[{ on := 0, ground := Ground.data }, { on := 3, ground := Ground.data }], guard := none }) rfl (fun K hK => ?_) AllReadyH.nil
                  refine step_append_all ctOk rfl (.tmp 97) (.tmp 100) rfl rfl HOE.out (C.take k) rfl (HS1.out z2 HBz2.out) (by simp only [List.length_nil, List.length_take]; unfold maxLen; omega) (by simp only [List.length_nil, List.length_take]; omega) HBz2.out.size ?_
                  intro vz3 z3 hoz3 hkz3 _
                  have HBz3 := Lib.hid (show Bel wr z3 from HBz2.out.trans_below (hkz3.own HBz2.out.size (fun kk hkk => (HOE.out.lt kk hkk).1)))
                  rw [List.nil_append] at hoz3
                  have hkkz3 : Keep (Value.ownBlock (.slice (some ⟨z1.heap.size, 0, none⟩) 0 0)).toList z2 z3 := hkz3
                  have HLL3 := Lib.hid (hkkz3.at HLL2.out (fun hm => by rw [Option.mem_toList] at hm; simp only [Value.ownBlock, Option.some.injEq] at hm; omega))
                  have HO2 := Lib.hid hoz3
                  clear hoz3 hkz3 hkkz3
                  refine hK.out _ _ trivial (fun hHeld => ?_)
                  clear hK K
                  try simp only [Act.put, List.setIfInBounds_toArray, List.set_cons_zero, List.set_cons_succ]
                  refine wpAnyH_ready (rs := [9]) (by kernel_rfl) (by simp) ?_
                  refine AllReadyH.cons (o := { dst := some 106, op := Op.call { callee := Callee.builtin Builtin.append, args := #[Operand.tmp 101, Operand.tmp 105], argTypes := #[47, 47] }, type := 47, pos := "ref.go:116", after := #[{ on := 4, ground := Ground.data }, { on := 8, ground := Ground.data }, { on := 4, ground := Ground.chain }], guard := none }) rfl (fun K hK => ?_) AllReadyH.nil
                  refine step_append_all ctOk rfl (.tmp 101) (.tmp 105) rfl rfl HO2.out [CT.mk a b 1] rfl (src_at [CT.mk a b 1] HLL3.out rfl rfl) (by simp only [List.length_take, List.length_singleton]; unfold maxLen; omega) (by simp only [List.length_take, List.length_singleton]; omega) HBz3.out.size ?_
                  intro vz4 z4 hoz4 hkz4 _
                  have HBz4 := Lib.hid (show Bel wr z4 from HBz3.out.trans_below (hkz4.own HBz3.out.size (fun kk hkk => (HO2.out.lt kk hkk).1)))
                  have HO3 := Lib.hid hoz4
                  clear hoz4 hkz4
                  refine hK.out _ _ trivial (fun hHeld => ?_)
                  clear hK K
                  try simp only [Act.put, List.setIfInBounds_toArray, List.set_cons_zero, List.set_cons_succ]
                  refine wpAnyH_ready (rs := [13]) (by kernel_rfl) (by simp) ?_
                  refine AllReadyH.cons (o := { dst := some 110, op := Op.call { callee := Callee.builtin Builtin.append, args := #[Operand.tmp 106, Operand.tmp 109], argTypes := #[47, 47] }, type := 47, pos := "ref.go:116", after := #[{ on := 9, ground := Ground.data }, { on := 12, ground := Ground.data }, { on := 9, ground := Ground.chain }], guard := none }) rfl (fun K hK => ?_) AllReadyH.nil
                  refine step_append_all ctOk rfl (.tmp 106) (.tmp 109) rfl rfl HO3.out (C.drop k) rfl (HS2.out z4 HBz4.out) (by simp only [List.length_append, List.length_take, List.length_singleton, List.length_drop]; unfold maxLen; omega) (by simp only [List.length_append, List.length_take, List.length_singleton, List.length_drop]; omega) HBz4.out.size ?_
                  intro vz5 z5 hoz5 hkz5 _
                  have HBz5 := Lib.hid (show Bel wr z5 from HBz4.out.trans_below (hkz5.own HBz4.out.size (fun kk hkk => (HO3.out.lt kk hkk).1)))
                  have HO4 := Lib.hid hoz5
                  clear hoz5 hkz5
                  refine hK.out _ _ trivial (fun hHeld => ?_)
                  clear hK K
                  try simp only [Act.put, List.setIfInBounds_toArray, List.set_cons_zero, List.set_cons_succ]
                  refine tk (oi := { dst := some 3, op := Op.assign (Operand.tmp 110), type := 47, pos := "ref.go:116", after := #[{ on := 13, ground := Ground.data }, { on := 13, ground := Ground.chain }, { on := 0, ground := Ground.phase }, { on := 1, ground := Ground.phase }, { on := 2, ground := Ground.phase }, { on := 3, ground := Ground.phase }, { on := 4, ground := Ground.phase }, { on := 5, ground := Ground.phase }, { on := 6, ground := Ground.phase }, { on := 7, ground := Ground.phase }, { on := 8, ground := Ground.phase }, { on := 9, ground := Ground.phase }, { on := 10, ground := Ground.phase }, { on := 11, ground := Ground.phase }, { on := 12, ground := Ground.phase }, { on := 13, ground := Ground.phase }], guard := none }) (v := ?_) 14 rfl ?_ ?_
                  rotate_left
                  · (intro w hSw; (try dsimp only at hSw); first | (go_simp; done) | (go_simp; with_reducible rfl))
                  try simp only [Act.put, List.setIfInBounds_toArray, List.set_cons_zero, List.set_cons_succ]
                  refine wpAnyH_done (by kernel_rfl) ?_ _
                  have HFIN := Lib.hid (show C.take k ++ [CT.mk a b 1] ++ C.drop k = addC a b C by rw [HADD.out]; simp)
                  have HOF := Lib.hid (show OwnG ctEl w.heap.size z5 vz5 (addC a b C) by rw [← HFIN.out]; exact HO4.out.low HBW.out.size)
                  obtain ⟨pf, cf, hvf⟩ := ownG_len HOF.out
                  rw [hvf] at HOF ⊢
                  clear hvf
                  generalize (addC a b C).length = nf at *
                  clear hHeld
                  go_wp2_with (fail)
                  go_roundw
                  case rel => exact ⟨i + 1, hlt, by go_num, by rw [HN.out, HST.out]; exact HOF.out, HBW.out.trans HBz5.out⟩
                  case measure => simp [intOf]; omega
    · obtain rfl : i = L.length := by omega
      rw [List.take_length] at hown
      obtain ⟨cp, ccap, rfl⟩ := ownG_len hown
      have HO := Lib.hid hown
      clear hown hb
      go_wp2_with (fail)
      go_ret
      exact ⟨_, rfl, HO.out, HB.out⟩
end Go.Proofs.YtllcdhbchcpdoaaGreatDoor
/- moultref10.foot. -/
namespace Go.Proofs.YtllcdhbchcpdoaaGreatDoor
open Go.RowKit Go.Deep

theorem rput10_any (n : Nat) (x : Int) (w : World) (hn : n < 18446744073709551616) (hx : (n : Int) = x) :
    Calls Tryz.prog 58 #[.int .u64 x] w fun e w' => e = .returned (.string ⟨(putL n).toArray⟩) ∧ Bel w w' := by
  subst hx; exact rput_any n w hn
theorem rput_var (n : Nat) (x : Int) (w : World) (hn : n < 18446744073709551616) (hx : (n : Int) = x) :
    Calls Tryz.prog 58 #[.int .u64 x] w fun e w' => ∃ b : ByteArray, b.data.toList = putL n ∧ b.size ≤ 9 ∧ e = .returned (.string b) ∧ Bel w w' := by
  refine (rput10_any n x w hn hx).mono ?_
  rintro e w' ⟨rfl, hb⟩
  refine ⟨_, by simp, ?_, rfl, hb⟩
  rw [mk_size10]; exact put_le9 n
theorem cat_list (a b : ByteArray) : (a ++ b).data.toList = a.data.toList ++ b.data.toList := by simp
theorem cat_size (a b : ByteArray) : (a ++ b).size = a.size + b.size := by simp
theorem ba_back (a : ByteArray) (l : List UInt8) (h : a.data.toList = l) : a = ⟨l.toArray⟩ := by rw [← h]
theorem flat_take (C : List CT) (k : Nat) (h : k < C.length) (c : CT) (hc : c = C[k]) : (C.take (k + 1)).flatMap citeBytes = (C.take k).flatMap citeBytes ++ (putL c.t ++ putL c.v ++ putL c.n) := by
  rw [List.take_add_one, List.getElem?_eq_getElem h, Option.toList_some, List.flatMap_append, List.flatMap_singleton, hc]
  rfl
set_option maxHeartbeats 4000000 in
set_option maxRecDepth 20000 in
theorem rfoot_any (p : Option Addr) (cap : Nat) (L : List EB) (w : World) (h : EntsAt w p L) (hL : L.length ≤ 100000) (hs : ∀ e ∈ L, e.v.size ≤ 1000000) :
    Calls Tryz.prog 48 #[.slice p L.length cap] w fun e w' => e = .returned (.string ⟨(footL L).toArray⟩) ∧ Bel w w' := by
  have H := Lib.hid h; clear h
  have HS := Lib.hid hs; clear hs
  have HF := Lib.hid (show footL L = putL L.length ++ putL (citesB L).length ++ (citesB L).flatMap citeBytes from rfl)
  have hcl := cites_len L
  have HCS := Lib.hid (cites_small L)
  go_enter Tryz.func48, Tryz.ntmps48
  go_wp2_with (fail)
  refine (rcites_any p cap L w H.out hL HS.out).mono ?_
  generalize citesB L = C at *
  rintro r w1 ⟨v, rfl, ho, hb⟩
  obtain ⟨q, qc, rfl, hat⟩ := ownG_cts ho
  have HAT := Lib.hid hat
  have HB := Lib.hid hb
  clear ho hat hb
  have hLw : IntKind.u64.wrap (L.length : Int) = L.length := by rw [wrap10_u64]; omega
  have hCw : IntKind.u64.wrap (C.length : Int) = C.length := by rw [wrap10_u64]; omega
  go_wp2_with (fail)
  refine (rput_var L.length _ w1 (by omega) rfl).mono ?_
  rintro r w2 ⟨b1, hl1, hz1, rfl, hb⟩
  replace HB := Lib.hid (HB.out.trans hb)
  replace HAT := Lib.hid (HAT.out.bel hb)
  have HL1 := Lib.hid hl1
  clear hb hl1
  go_wp2_with (fail)
  refine (rput_var C.length _ w2 (by omega) rfl).mono ?_
  rintro r w3 ⟨b2, hl2, hz2, rfl, hb⟩
  replace HB := Lib.hid (HB.out.trans hb)
  replace HAT := Lib.hid (HAT.out.bel hb)
  have HP := Lib.hid (show (b1 ++ b2).data.toList = putL L.length ++ putL C.length by rw [cat_list, HL1.out, hl2])
  have hpz : (b1 ++ b2).size ≤ 18 := by rw [cat_size]; omega
  clear hb hl2
  go_wp2_with (fail)
  generalize b1 ++ b2 = P at *
  go_loopw [4, 5] (fun sv iv x => ∃ (k : Nat) (r : ByteArray), k ≤ C.length ∧ iv = .int .i64 k ∧ sv = .string r ∧ r.data.toList = P.data.toList ++ (C.take k).flatMap citeBytes ∧ r.size ≤ 18 + 27 * k ∧ Bel w x ∧ CtsAt x q C) (fun _ iv _ => C.length - (intOf iv).toNat)
  case atStart => exact ⟨0, P, Nat.zero_le _, rfl, rfl, by simp, by omega, HB.out, HAT.out⟩
  case round =>
    obtain ⟨k, r, hk, rfl, rfl, hr, hrz, hbx, hat⟩ := hrel
    have HR := Lib.hid hr
    have HBX := Lib.hid hbx
    have HAX := Lib.hid hat
    clear hr hbx
    by_cases hlt : k < C.length
    · obtain ⟨a, c, rfl, hc, B, O, sp, ha, c0, c1, c2⟩ := hat.get hlt
      have hcs := HCS.out c (by rw [hc]; exact List.getElem_mem hlt)
      have HN := Lib.hid (flat_take C k hlt c hc)
      obtain ⟨hc1, hc2, hc3⟩ := hcs
      have hw1 : IntKind.u64.wrap (c.t : Int) = c.t := by rw [wrap10_u64]; omega
      have hw2 : IntKind.u64.wrap (c.v : Int) = c.v := by rw [wrap10_u64]; omega
      have hw3 : IntKind.u64.wrap (c.n : Int) = c.n := by rw [wrap10_u64]; omega
      have hkw : IntKind.i64.wrap (k : Int) = k := by rw [IntKind.wrap_i64]; omega
      have hki : (k : Int) < (C.length : Int) := by omega
      clear hat hc
      go_wp2_with (fail)
      refine wp_region_held_drew (S := fun z => z.cell? ⟨B, O, sp⟩ = some (.int .i64 (c.t : Int)) ∧ z.cell? ⟨B, O + 1, none⟩ = some (.int .i64 (c.v : Int)) ∧ z.cell? ⟨B, O + 2, none⟩ = some (.int .i64 (c.n : Int))) (by kernel_rfl) ⟨c0, c1, c2⟩ (fun hHeld => ?_)
      refine tk (oi := { dst := some 23, op := Op.move (Operand.tmp 4), type := 9, pos := "ref.go:126", after := #[], guard := none }) (v := ?_) 0 rfl ?_ ?_
      rotate_left
      · (intro w hSw; (try dsimp only at hSw); first | (go_simp; done) | (go_simp; with_reducible rfl))
      try simp only [Act.put, List.setIfInBounds_toArray, List.set_cons_zero, List.set_cons_succ]
      refine tk (oi := { dst := some 24, op := Op.move (Operand.tmp 3), type := 47, pos := "ref.go:126", after := #[], guard := none }) (v := ?_) 1 rfl ?_ ?_
      rotate_left
      · (intro w hSw; (try dsimp only at hSw); first | (go_simp; done) | (go_simp; with_reducible rfl))
      try simp only [Act.put, List.setIfInBounds_toArray, List.set_cons_zero, List.set_cons_succ]
      refine tk (oi := { dst := some 25, op := Op.move (Operand.tmp 5), type := 3, pos := "ref.go:126", after := #[], guard := none }) (v := ?_) 2 rfl ?_ ?_
      rotate_left
      · (intro w hSw; (try dsimp only at hSw); first | (go_simp; done) | (go_simp; with_reducible rfl))
      try simp only [Act.put, List.setIfInBounds_toArray, List.set_cons_zero, List.set_cons_succ]
      refine tk (oi := { dst := some 26, op := Op.indexAddr 47 (Operand.tmp 24) (Operand.tmp 25), type := 0, pos := "ref.go:126", after := #[{ on := 1, ground := Ground.data }, { on := 2, ground := Ground.data }], guard := none }) (v := ?_) 3 rfl ?_ ?_
      rotate_left
      · (intro w hSw; (try dsimp only at hSw); first | (go_simp; done) | (go_simp; with_reducible rfl))
      try simp only [Act.put, List.setIfInBounds_toArray, List.set_cons_zero, List.set_cons_succ]
      refine tk (oi := { dst := some 27, op := Op.fieldAddr 50 (Operand.tmp 26) 0, type := 0, pos := "ref.go:126", after := #[{ on := 3, ground := Ground.data }], guard := none }) (v := ?_) 4 rfl ?_ ?_
      rotate_left
      · (intro w hSw; (try dsimp only at hSw); first | (go_simp; done) | (go_simp; with_reducible rfl))
      try simp only [Act.put, List.setIfInBounds_toArray, List.set_cons_zero, List.set_cons_succ]
      refine tk (oi := { dst := some 28, op := Op.load 3 (Operand.tmp 27), type := 3, pos := "ref.go:126", after := #[{ on := 4, ground := Ground.data }], guard := none }) (v := ?_) 5 rfl ?_ ?_
      rotate_left
      · (intro w hSw; (try dsimp only at hSw); first | (go_simp; done) | (go_simp; with_reducible rfl))
      try simp only [Act.put, List.setIfInBounds_toArray, List.set_cons_zero, List.set_cons_succ]
      refine tk (oi := { dst := some 29, op := Op.convert 3 61 (Operand.tmp 28), type := 61, pos := "ref.go:126", after := #[{ on := 5, ground := Ground.data }], guard := none }) (v := ?_) 6 rfl ?_ ?_
      rotate_left
      · (intro w hSw; (try dsimp only at hSw); first | (go_simp; done) | (go_simp; with_reducible rfl))
      try simp only [Act.put, List.setIfInBounds_toArray, List.set_cons_zero, List.set_cons_succ]
      refine tk (oi := { dst := some 32, op := Op.move (Operand.tmp 3), type := 47, pos := "ref.go:126", after := #[], guard := none }) (v := ?_) 9 rfl ?_ ?_
      rotate_left
      · (intro w hSw; (try dsimp only at hSw); first | (go_simp; done) | (go_simp; with_reducible rfl))
      try simp only [Act.put, List.setIfInBounds_toArray, List.set_cons_zero, List.set_cons_succ]
      refine tk (oi := { dst := some 33, op := Op.move (Operand.tmp 5), type := 3, pos := "ref.go:126", after := #[], guard := none }) (v := ?_) 10 rfl ?_ ?_
      rotate_left
      · (intro w hSw; (try dsimp only at hSw); first | (go_simp; done) | (go_simp; with_reducible rfl))
      try simp only [Act.put, List.setIfInBounds_toArray, List.set_cons_zero, List.set_cons_succ]
      refine tk (oi := { dst := some 34, op := Op.indexAddr 47 (Operand.tmp 32) (Operand.tmp 33), type := 0, pos := "ref.go:126", after := #[{ on := 9, ground := Ground.data }, { on := 10, ground := Ground.data }], guard := none }) (v := ?_) 11 rfl ?_ ?_
      rotate_left
      · (intro w hSw; (try dsimp only at hSw); first | (go_simp; done) | (go_simp; with_reducible rfl))
      try simp only [Act.put, List.setIfInBounds_toArray, List.set_cons_zero, List.set_cons_succ]
      refine tk (oi := { dst := some 35, op := Op.fieldAddr 50 (Operand.tmp 34) 1, type := 0, pos := "ref.go:126", after := #[{ on := 11, ground := Ground.data }], guard := none }) (v := ?_) 12 rfl ?_ ?_
      rotate_left
      · (intro w hSw; (try dsimp only at hSw); first | (go_simp; done) | (go_simp; with_reducible rfl))
      try simp only [Act.put, List.setIfInBounds_toArray, List.set_cons_zero, List.set_cons_succ]
      refine tk (oi := { dst := some 36, op := Op.load 3 (Operand.tmp 35), type := 3, pos := "ref.go:126", after := #[{ on := 12, ground := Ground.data }], guard := none }) (v := ?_) 13 rfl ?_ ?_
      rotate_left
      · (intro w hSw; (try dsimp only at hSw); first | (go_simp; done) | (go_simp; with_reducible rfl))
      try simp only [Act.put, List.setIfInBounds_toArray, List.set_cons_zero, List.set_cons_succ]
      refine tk (oi := { dst := some 37, op := Op.convert 3 61 (Operand.tmp 36), type := 61, pos := "ref.go:126", after := #[{ on := 13, ground := Ground.data }], guard := none }) (v := ?_) 14 rfl ?_ ?_
      rotate_left
      · (intro w hSw; (try dsimp only at hSw); first | (go_simp; done) | (go_simp; with_reducible rfl))
      try simp only [Act.put, List.setIfInBounds_toArray, List.set_cons_zero, List.set_cons_succ]
      refine tk (oi := { dst := some 40, op := Op.move (Operand.tmp 3), type := 47, pos := "ref.go:126", after := #[], guard := none }) (v := ?_) 17 rfl ?_ ?_
      rotate_left
      · (intro w hSw; (try dsimp only at hSw); first | (go_simp; done) | (go_simp; with_reducible rfl))
      try simp only [Act.put, List.setIfInBounds_toArray, List.set_cons_zero, List.set_cons_succ]
      refine tk (oi := { dst := some 41, op := Op.move (Operand.tmp 5), type := 3, pos := "ref.go:126", after := #[], guard := none }) (v := ?_) 18 rfl ?_ ?_
      rotate_left
      · (intro w hSw; (try dsimp only at hSw); first | (go_simp; done) | (go_simp; with_reducible rfl))
      try simp only [Act.put, List.setIfInBounds_toArray, List.set_cons_zero, List.set_cons_succ]
      refine tk (oi := { dst := some 42, op := Op.indexAddr 47 (Operand.tmp 40) (Operand.tmp 41), type := 0, pos := "ref.go:126", after := #[{ on := 17, ground := Ground.data }, { on := 18, ground := Ground.data }], guard := none }) (v := ?_) 19 rfl ?_ ?_
      rotate_left
      · (intro w hSw; (try dsimp only at hSw); first | (go_simp; done) | (go_simp; with_reducible rfl))
      try simp only [Act.put, List.setIfInBounds_toArray, List.set_cons_zero, List.set_cons_succ]
      refine tk (oi := { dst := some 43, op := Op.fieldAddr 50 (Operand.tmp 42) 2, type := 0, pos := "ref.go:126", after := #[{ on := 19, ground := Ground.data }], guard := none }) (v := ?_) 20 rfl ?_ ?_
      rotate_left
      · (intro w hSw; (try dsimp only at hSw); first | (go_simp; done) | (go_simp; with_reducible rfl))
      try simp only [Act.put, List.setIfInBounds_toArray, List.set_cons_zero, List.set_cons_succ]
      refine tk (oi := { dst := some 44, op := Op.load 3 (Operand.tmp 43), type := 3, pos := "ref.go:126", after := #[{ on := 20, ground := Ground.data }], guard := none }) (v := ?_) 21 rfl ?_ ?_
      rotate_left
      · (intro w hSw; (try dsimp only at hSw); first | (go_simp; done) | (go_simp; with_reducible rfl))
      try simp only [Act.put, List.setIfInBounds_toArray, List.set_cons_zero, List.set_cons_succ]
      refine tk (oi := { dst := some 45, op := Op.convert 3 61 (Operand.tmp 44), type := 61, pos := "ref.go:126", after := #[{ on := 21, ground := Ground.data }], guard := none }) (v := ?_) 22 rfl ?_ ?_
      rotate_left
      · (intro w hSw; (try dsimp only at hSw); first | (go_simp; done) | (go_simp; with_reducible rfl))
      try simp only [Act.put, List.setIfInBounds_toArray, List.set_cons_zero, List.set_cons_succ]
      refine wpAnyH_ready (rs := [7]) (by kernel_rfl) (by simp) ?_
      refine AllReadyH.cons (o := { dst := some 30, op := Op.call { callee := Callee.value (Operand.func 58), args := #[Operand.tmp 29], argTypes := #[61] }, type := 9, pos := "ref.go:126", after := #[{ on := 6, ground := Ground.data }], guard := none }) rfl (fun K hK => ?_) AllReadyH.nil
      go_simp
      refine (rput_var c.t _ wr.drew (by omega) rfl).mono ?_
      rintro e w4 ⟨d1, hd1, hz4, rfl, hb⟩
      have HB4 := Lib.hid (HBX.out.drew.trans hb)
      have HA4 := Lib.hid (HAX.out.bel ((Bel.refl wr).drew.trans hb))
      have HD1 := Lib.hid hd1
      dsimp only
      refine hK.out _ _ ⟨cell_later hb hHeld.1, cell_later hb hHeld.2.1, cell_later hb hHeld.2.2⟩ (fun hHeld => ?_)
      clear hK K hb hd1
      try simp only [Act.put, List.setIfInBounds_toArray, List.set_cons_zero, List.set_cons_succ]
      refine tk (oi := { dst := some 31, op := Op.binOp BinOp.add 9 (Operand.tmp 23) (Operand.tmp 30) 9, type := 9, pos := "ref.go:126", after := #[{ on := 0, ground := Ground.data }, { on := 7, ground := Ground.data }], guard := none }) (v := ?_) 8 rfl ?_ ?_
      rotate_left
      · (intro w hSw; (try dsimp only at hSw); first | (go_simp; rw [if_neg (by omega)]; done))
      try simp only [Act.put, List.setIfInBounds_toArray, List.set_cons_zero, List.set_cons_succ]
      refine wpAnyH_ready (rs := [15]) (by kernel_rfl) (by simp) ?_
      refine AllReadyH.cons (o := { dst := some 38, op := Op.call { callee := Callee.value (Operand.func 58), args := #[Operand.tmp 37], argTypes := #[61] }, type := 9, pos := "ref.go:126", after := #[{ on := 14, ground := Ground.data }, { on := 7, ground := Ground.chain }], guard := none }) rfl (fun K hK => ?_) AllReadyH.nil
      go_simp
      refine (rput_var c.v _ w4 (by omega) rfl).mono ?_
      rintro e w5 ⟨d2, hd2, hz5, rfl, hb⟩
      have HB5 := Lib.hid (HB4.out.trans hb)
      have HA5 := Lib.hid (HA4.out.bel hb)
      have HD2 := Lib.hid hd2
      dsimp only
      refine hK.out _ _ ⟨cell_later hb hHeld.1, cell_later hb hHeld.2.1, cell_later hb hHeld.2.2⟩ (fun hHeld => ?_)
      clear hK K hb hd2
      try simp only [Act.put, List.setIfInBounds_toArray, List.set_cons_zero, List.set_cons_succ]
      have hs1 : (r ++ d1).size ≤ 27 + 27 * k := by rw [cat_size]; omega
      refine tk (oi := { dst := some 39, op := Op.binOp BinOp.add 9 (Operand.tmp 31) (Operand.tmp 38) 9, type := 9, pos := "ref.go:126", after := #[{ on := 8, ground := Ground.data }, { on := 15, ground := Ground.data }], guard := none }) (v := ?_) 16 rfl ?_ ?_
      rotate_left
      · (intro w hSw; (try dsimp only at hSw); first | (go_simp; rw [if_neg (by omega)]; done))
      try simp only [Act.put, List.setIfInBounds_toArray, List.set_cons_zero, List.set_cons_succ]
      refine wpAnyH_ready (rs := [23]) (by kernel_rfl) (by simp) ?_
      refine AllReadyH.cons (o := { dst := some 46, op := Op.call { callee := Callee.value (Operand.func 58), args := #[Operand.tmp 45], argTypes := #[61] }, type := 9, pos := "ref.go:126", after := #[{ on := 22, ground := Ground.data }, { on := 15, ground := Ground.chain }], guard := none }) rfl (fun K hK => ?_) AllReadyH.nil
      go_simp
      refine (rput_var c.n _ w5 (by omega) rfl).mono ?_
      rintro e w6 ⟨d3, hd3, hz6, rfl, hb⟩
      have HB6 := Lib.hid (HB5.out.trans hb)
      have HA6 := Lib.hid (HA5.out.bel hb)
      have HD3 := Lib.hid hd3
      dsimp only
      refine hK.out _ _ ⟨cell_later hb hHeld.1, cell_later hb hHeld.2.1, cell_later hb hHeld.2.2⟩ (fun hHeld => ?_)
      clear hK K hb hd3
      try simp only [Act.put, List.setIfInBounds_toArray, List.set_cons_zero, List.set_cons_succ]
      have hs2 : (r ++ d1 ++ d2).size ≤ 36 + 27 * k := by rw [cat_size]; omega
      refine tk (oi := { dst := some 47, op := Op.binOp BinOp.add 9 (Operand.tmp 39) (Operand.tmp 46) 9, type := 9, pos := "ref.go:126", after := #[{ on := 16, ground := Ground.data }, { on := 23, ground := Ground.data }], guard := none }) (v := ?_) 24 rfl ?_ ?_
      rotate_left
      · (intro w hSw; (try dsimp only at hSw); first | (go_simp; rw [if_neg (by omega)]; done))
      try simp only [Act.put, List.setIfInBounds_toArray, List.set_cons_zero, List.set_cons_succ]
      refine tk (oi := { dst := some 4, op := Op.assign (Operand.tmp 47), type := 9, pos := "ref.go:126", after := #[{ on := 24, ground := Ground.data }, { on := 23, ground := Ground.chain }, { on := 0, ground := Ground.phase }, { on := 1, ground := Ground.phase }, { on := 2, ground := Ground.phase }, { on := 3, ground := Ground.phase }, { on := 4, ground := Ground.phase }, { on := 5, ground := Ground.phase }, { on := 6, ground := Ground.phase }, { on := 7, ground := Ground.phase }, { on := 8, ground := Ground.phase }, { on := 9, ground := Ground.phase }, { on := 10, ground := Ground.phase }, { on := 11, ground := Ground.phase }, { on := 12, ground := Ground.phase }, { on := 13, ground := Ground.phase }, { on := 14, ground := Ground.phase }, { on := 15, ground := Ground.phase }, { on := 16, ground := Ground.phase }, { on := 17, ground := Ground.phase }, { on := 18, ground := Ground.phase }, { on := 19, ground := Ground.phase }, { on := 20, ground := Ground.phase }, { on := 21, ground := Ground.phase }, { on := 22, ground := Ground.phase }, { on := 23, ground := Ground.phase }, { on := 24, ground := Ground.phase }], guard := none }) (v := ?_) 25 rfl ?_ ?_
      rotate_left
      · (intro w hSw; (try dsimp only at hSw); first | (go_simp; done) | (go_simp; with_reducible rfl))
      try simp only [Act.put, List.setIfInBounds_toArray, List.set_cons_zero, List.set_cons_succ]
      refine wpAnyH_done (by kernel_rfl) ?_ _
      have HF3 := Lib.hid (show (r ++ d1 ++ d2 ++ d3).data.toList = P.data.toList ++ (C.take (k + 1)).flatMap citeBytes by
        rw [cat_list, cat_list, cat_list, HR.out, HD1.out, HD2.out, HD3.out, HN.out]
        simp only [List.append_assoc])
      have hs3 : (r ++ d1 ++ d2 ++ d3).size ≤ 18 + 27 * (k + 1) := by rw [cat_size]; omega
      clear hHeld
      generalize r ++ d1 ++ d2 ++ d3 = rr at *
      go_wp2_with (fail)
      go_roundw
      case rel => exact ⟨k + 1, rr, hlt, by go_num, rfl, HF3.out, hs3, HB6.out, HA6.out⟩
      case measure => simp [intOf]; omega
    · obtain rfl : k = C.length := by omega
      have HE := Lib.hid (ba_back r (footL L) (by rw [HR.out, List.take_length, HF.out, HP.out]))
      clear hat
      go_wp2_with (fail)
      go_ret
      exact ⟨by rw [← HE.out]; rfl, HBX.out⟩
end Go.Proofs.YtllcdhbchcpdoaaGreatDoor
/- table.areRight, table.areOrdered. -/
namespace Go.Proofs.YtllcdhbchcpdoaaGreatDoor
open Go.RowKit Go.Deep

theorem allr_take {L : List EB} {k : Nat} (h : k < L.length) : (L.take (k + 1)).all rightB = ((L.take k).all rightB && rightB L[k]) := by
  rw [List.take_add_one, List.getElem?_eq_getElem h, Option.toList_some, List.all_append]
  simp
theorem allr_more {L : List EB} {k : Nat} (h : (L.take k).all rightB = false) : L.all rightB = false := by
  cases hs : L.all rightB with
  | false => rfl
  | true =>
    rw [List.all_eq_true] at hs
    have : (L.take k).all rightB = true := List.all_eq_true.2 fun e he => hs e (List.mem_of_mem_take he)
    rw [h] at this; cases this
set_option maxHeartbeats 2000000 in
theorem areright_any (p : Option Addr) (cap : Nat) (L : List EB) (w : World) (h : EntsAt w p L) (hL : L.length ≤ 100000) (hf : fitsL L) (hs : ∀ e ∈ L, e.v.size ≤ 1000000) :
    Calls Tryz.prog 60 #[.slice p L.length cap] w fun e w' => e = .returned (.bool (L.all rightB)) ∧ Bel w w' := by
  have H := Lib.hid h; clear h
  have HF := Lib.hid hf; clear hf
  have HS := Lib.hid hs; clear hs
  go_enter Tryz.func60, Tryz.ntmps60
  go_wp2_with (fail)
  go_loopw [7] (fun iv x => (∃ k : Nat, k ≤ L.length ∧ iv = .int .i64 k ∧ (L.take k).all rightB = true) ∧ Bel w x) (fun iv _ => L.length - (intOf iv).toNat)
  case atStart => exact ⟨⟨0, Nat.zero_le _, rfl, rfl⟩, Bel.refl w⟩
  case round =>
    obtain ⟨⟨k, hk, rfl, hst⟩, hb⟩ := hrel
    have HST := Lib.hid hst; clear hst
    have HB := Lib.hid hb
    by_cases hlt : k < L.length
    · obtain ⟨a, e0, rfl, he0, B, O, sp, ha, c0, c1, c2, c3⟩ := (H.out.bel hb).get hlt
      have HE := Lib.hid (show e0.fits by rw [he0]; exact fits_at HF.out hlt)
      have HV := Lib.hid (show e0.v.size ≤ 1000000 by rw [he0]; exact HS.out _ (List.getElem_mem hlt))
      have HN := Lib.hid (allr_take hlt)
      rw [HST.out, ← he0, Bool.true_and] at HN
      clear hb he0
      go_wp2_with (fail)
      refine (pright_any e0 _ HE.out HV.out).mono ?_
      rintro r w1 ⟨rfl, hb⟩
      have HB1 := Lib.hid (show Bel w w1 from Bel.trans (HB.out.alloc _) hb)
      clear hb
      cases hr : rightB e0 with
      | false =>
        rw [hr] at HN
        have HR := Lib.hid (allr_more HN.out)
        clear hr
        go_wp2_with (fail)
        go_ret
        exact ⟨by rw [HR.out]; rfl, HB1.out⟩
      | true =>
        rw [hr] at HN
        clear hr
        go_wp2_with (fail)
        go_roundw
        case rel => exact ⟨⟨k + 1, hlt, by go_num, HN.out⟩, HB1.out⟩
        case measure => simp [intOf]; omega
    · obtain rfl : k = L.length := by omega
      clear hb
      rw [List.take_length] at HST
      go_wp2_with (fail)
      go_ret
      exact ⟨by rw [HST.out]; rfl, HB.out⟩
set_option maxHeartbeats 4000000 in
set_option maxRecDepth 20000 in
theorem areord_any (p : Option Addr) (cap : Nat) (L : List EB) (w : World) (h : EntsAt w p L) (hL : L.length ≤ 100000) (h0 : L ≠ []) (hr : ∀ e ∈ L, rightB e = true) :
    Calls Tryz.prog 61 #[.slice p L.length cap] w fun e w' => e = .returned (.bool (standB L)) ∧ Bel w w' := by
  have H := Lib.hid h; clear h
  have HR := Lib.hid hr; clear hr
  have h1 : 1 ≤ L.length := List.length_pos_iff.2 h0
  have H1 := Lib.hid (show standB (L.take 1) = true by rw [stand_zero (by omega)]; exact HR.out _ (List.getElem_mem _))
  clear h0
  go_enter Tryz.func61, Tryz.ntmps61
  go_wp2_with (fail)
  go_loopw [3] (fun iv x => (∃ j : Nat, j + 1 ≤ L.length ∧ iv = .int .i64 ((j : Int) + 1) ∧ standB (L.take (j + 1)) = true) ∧ Bel w x) (fun iv _ => L.length - (intOf iv).toNat)
  case atStart => exact ⟨⟨0, h1, rfl, H1.out⟩, Bel.refl w⟩
  case round =>
    obtain ⟨⟨j, hj, rfl, hst⟩, hb⟩ := hrel
    have HST := Lib.hid hst; clear hst
    have HB := Lib.hid hb
    by_cases hlt : j + 1 < L.length
    · obtain ⟨a, e0, rfl, he0, B, O, sp, ha, c0, c1, c2, c3⟩ := (H.out.bel hb).get hlt
      have hjl : j < L.length := by omega
      obtain ⟨_, e1, ha', he1, B', O', sp', ha2, b0, b1, b2, b3⟩ := (H.out.bel hb).get hjl
      cases ha'
      have HN := Lib.hid (stand_next hlt)
      rw [HST.out, ← he0, ← he1, Bool.true_and, show rightB e0 = true by rw [he0]; exact HR.out _ (List.getElem_mem hlt), Bool.true_and] at HN
      have hji : (j : Int) < (L.length : Int) := by omega
      have hji2 : (j : Int) + 1 < (L.length : Int) := by omega
      have hjw : IntKind.i64.wrap (j : Int) = j := by rw [IntKind.wrap_i64]; omega
      have hj0 : (0 : Int) ≤ (j : Int) + 1 := by omega
      have hjw2 : IntKind.i64.wrap ((j : Int) + 1) = (j : Int) + 1 := by rw [IntKind.wrap_i64]; omega
      clear he1 he0 hb
      go_wp2_with (fail)
      refine wp_region_held_drew (S := fun z => (z.cell? ⟨B, O, sp⟩ = some (.string e0.k) ∧ z.cell? ⟨B, O + 1, none⟩ = some (.int .i64 e0.q) ∧ z.cell? ⟨B, O + 2, none⟩ = some (.bool e0.d) ∧ z.cell? ⟨B, O + 3, none⟩ = some (.string e0.v)) ∧ z.cell? ⟨B', O', sp'⟩ = some (.string e1.k) ∧ z.cell? ⟨B', O' + 1, none⟩ = some (.int .i64 e1.q) ∧ z.cell? ⟨B', O' + 2, none⟩ = some (.bool e1.d) ∧ z.cell? ⟨B', O' + 3, none⟩ = some (.string e1.v)) (by kernel_rfl) ⟨⟨c0, c1, c2, c3⟩, b0, b1, b2, b3⟩ (fun hHeld => ?_)
      refine tk (oi := { dst := some 10, op := Op.move (Operand.tmp 0), type := 26, pos := "build.go:72", after := #[], guard := none }) (v := ?_) 0 rfl ?_ ?_
      rotate_left
      · (intro w hSw; (try dsimp only at hSw); first | (go_simp; done) | (go_simp; with_reducible rfl))
      try simp only [Act.put, List.setIfInBounds_toArray, List.set_cons_zero, List.set_cons_succ]
      refine tk (oi := { dst := some 11, op := Op.move (Operand.tmp 3), type := 3, pos := "build.go:72", after := #[], guard := none }) (v := ?_) 1 rfl ?_ ?_
      rotate_left
      · (intro w hSw; (try dsimp only at hSw); first | (go_simp; done) | (go_simp; with_reducible rfl))
      try simp only [Act.put, List.setIfInBounds_toArray, List.set_cons_zero, List.set_cons_succ]
      refine tk (oi := { dst := some 12, op := Op.binOp BinOp.sub 3 (Operand.tmp 11) (Operand.const (Value.int IntKind.i64 1)) 3, type := 3, pos := "build.go:72", after := #[{ on := 1, ground := Ground.data }], guard := none }) (v := ?_) 2 rfl ?_ ?_
      rotate_left
      · (intro w hSw; (try dsimp only at hSw); first | (go_simp; done) | (go_simp; with_reducible rfl))
      try simp only [Act.put, List.setIfInBounds_toArray, List.set_cons_zero, List.set_cons_succ]
      refine tk (oi := { dst := some 13, op := Op.indexAddr 26 (Operand.tmp 10) (Operand.tmp 12), type := 0, pos := "build.go:72", after := #[{ on := 0, ground := Ground.data }, { on := 2, ground := Ground.data }], guard := none }) (v := ?_) 3 rfl ?_ ?_
      rotate_left
      · (intro w hSw; (try dsimp only at hSw); first | (go_simp; done) | (go_simp; with_reducible rfl))
      try simp only [Act.put, List.setIfInBounds_toArray, List.set_cons_zero, List.set_cons_succ]
      refine tk (oi := { dst := some 14, op := Op.load 23 (Operand.tmp 13), type := 23, pos := "build.go:72", after := #[{ on := 3, ground := Ground.data }], guard := none }) (v := ?_) 4 rfl ?_ ?_
      rotate_left
      · (intro w hSw; (try dsimp only at hSw); first | (go_simp; done) | (go_simp; with_reducible rfl))
      try simp only [Act.put, List.setIfInBounds_toArray, List.set_cons_zero, List.set_cons_succ]
      refine tk (oi := { dst := some 15, op := Op.move (Operand.tmp 0), type := 26, pos := "build.go:72", after := #[], guard := none }) (v := ?_) 5 rfl ?_ ?_
      rotate_left
      · (intro w hSw; (try dsimp only at hSw); first | (go_simp; done) | (go_simp; with_reducible rfl))
      try simp only [Act.put, List.setIfInBounds_toArray, List.set_cons_zero, List.set_cons_succ]
      refine tk (oi := { dst := some 16, op := Op.move (Operand.tmp 3), type := 3, pos := "build.go:72", after := #[], guard := none }) (v := ?_) 6 rfl ?_ ?_
      rotate_left
      · (intro w hSw; (try dsimp only at hSw); first | (go_simp; done) | (go_simp; with_reducible rfl))
      try simp only [Act.put, List.setIfInBounds_toArray, List.set_cons_zero, List.set_cons_succ]
      refine tk (oi := { dst := some 17, op := Op.indexAddr 26 (Operand.tmp 15) (Operand.tmp 16), type := 0, pos := "build.go:72", after := #[{ on := 5, ground := Ground.data }, { on := 6, ground := Ground.data }], guard := none }) (v := ?_) 7 rfl ?_ ?_
      rotate_left
      · (intro w hSw; (try dsimp only at hSw); first | (go_simp; done) | (go_simp; with_reducible rfl))
      try simp only [Act.put, List.setIfInBounds_toArray, List.set_cons_zero, List.set_cons_succ]
      refine tk (oi := { dst := some 18, op := Op.load 23 (Operand.tmp 17), type := 23, pos := "build.go:72", after := #[{ on := 7, ground := Ground.data }], guard := none }) (v := ?_) 8 rfl ?_ ?_
      rotate_left
      · (intro w hSw; (try dsimp only at hSw); first | (go_simp; done) | (go_simp; with_reducible rfl))
      try simp only [Act.put, List.setIfInBounds_toArray, List.set_cons_zero, List.set_cons_succ]
      refine wpAnyH_ready (rs := [9]) (by kernel_rfl) (by simp) ?_
      refine AllReadyH.cons (o := { dst := some 19, op := Op.call { callee := Callee.value (Operand.func 18), args := #[Operand.tmp 14, Operand.tmp 18], argTypes := #[23, 23] }, type := 4, pos := "build.go:72", after := #[{ on := 4, ground := Ground.data }, { on := 8, ground := Ground.data }], guard := none }) rfl (fun K hK => ?_) AllReadyH.nil
      go_simp
      refine (pless_any e1 e0 wr.drew).mono ?_
      rintro r w2 ⟨rfl, hb2⟩
      have HB2 := Lib.hid (HB.out.drew.trans hb2)
      dsimp only
      refine hK.out _ _ ⟨⟨cell_later hb2 hHeld.1.1, cell_later hb2 hHeld.1.2.1, cell_later hb2 hHeld.1.2.2.1, cell_later hb2 hHeld.1.2.2.2⟩, cell_later hb2 hHeld.2.1, cell_later hb2 hHeld.2.2.1, cell_later hb2 hHeld.2.2.2.1, cell_later hb2 hHeld.2.2.2.2⟩ (fun hHeld => ?_)
      clear hK K
      try simp only [Act.put, List.setIfInBounds_toArray, List.set_cons_zero, List.set_cons_succ]
      refine tk (oi := { dst := some 20, op := Op.unOp UnOp.not 4 (Operand.tmp 19), type := 4, pos := "build.go:72", after := #[{ on := 9, ground := Ground.data }], guard := none }) (v := ?_) 10 rfl ?_ ?_
      rotate_left
      · (intro w hSw; (try dsimp only at hSw); first | (go_simp; done) | (go_simp; with_reducible rfl))
      try simp only [Act.put, List.setIfInBounds_toArray, List.set_cons_zero, List.set_cons_succ]
      refine wpAnyH_done (by kernel_rfl) ?_ _
      clear hHeld hb2 b0 b1 b2 b3 c0 c1 c2 c3
      cases hlb : lessB e1 e0 with
      | false =>
        rw [hlb] at HN
        have HR := Lib.hid (stand_more HN.out)
        clear hlb
        go_wp2_with (fail)
        go_ret
        exact ⟨by rw [HR.out]; rfl, HB2.out⟩
      | true =>
        rw [hlb] at HN
        clear hlb
        go_wp2_with (fail)
        go_roundw
        case rel => exact ⟨⟨j + 1, hlt, by go_num, HN.out⟩, HB2.out⟩
        case measure => simp [intOf]; omega
    · obtain hjl : j + 1 = L.length := by omega
      have hlt' : ¬ (j : Int) + 1 < (L.length : Int) := by omega
      clear hb
      rw [hjl, List.take_length] at HST
      go_wp2_with (fail)
      go_ret
      exact ⟨by rw [HST.out]; rfl, HB.out⟩
end Go.Proofs.YtllcdhbchcpdoaaGreatDoor
