/- TRef4, TRef5, TRef6, TPOrd, TStand, laid together. -/
import Derived.Test.YtllcdhbchcpdoaaGreatDoorV11
import Derived.Deep.RegionHeld
import Derived.Test.YtllcdhbchcpdoaaGreatDoorV12
import Derived.Test.YtllcdhbchcpdoaaGreatDoorV2
set_option linter.unusedSimpArgs false
set_option linter.unusedVariables false
/- moultref10.Stand. -/
namespace Go.Proofs.YtllcdhbchcpdoaaGreatDoor
open Go.RowKit Go.Deep

theorem stand_take {L : List EB} {k : Nat} (h : k < L.length) : standB (L.take (k + 1)) = (standB (L.take k) && rightB L[k] && (match (L.take k).getLast? with | none => true | some a => lessB a L[k])) := by
  rw [List.take_add_one, List.getElem?_eq_getElem h, Option.toList_some, stand_snoc]
  rfl
theorem stand_zero {L : List EB} (h : 0 < L.length) : standB (L.take 1) = rightB L[0] := by
  rw [stand_take h]; simp [standB]
theorem stand_next {L : List EB} {j : Nat} (h : j + 1 < L.length) : standB (L.take (j + 2)) = (standB (L.take (j + 1)) && rightB L[j + 1] && lessB L[j] L[j + 1]) := by
  rw [stand_take h]
  have e : (L.take (j + 1)).getLast? = some L[j] := by
    rw [List.take_add_one, List.getElem?_eq_getElem (by omega), Option.toList_some, List.getLast?_concat]
  rw [e]
theorem stand_more {L : List EB} {k : Nat} (h : standB (L.take k) = false) : standB L = false := by
  cases hs : standB L with
  | false => rfl
  | true =>
    have hr := stand_right hs
    have hp := stand_pair hs
    have : standB (L.take k) = true := stand_of _ (fun e he => hr e (List.mem_of_mem_take he)) (List.Pairwise.sublist (List.take_sublist k L) hp)
    rw [h] at this; cases this
end Go.Proofs.YtllcdhbchcpdoaaGreatDoor
/- moultref10.Cites. -/
namespace Go.Proofs.YtllcdhbchcpdoaaGreatDoor
open Go.RowKit Go.Deep

theorem OwnG.put {α : Type} {E : El α} {B : Nat} {w : World} {g n cap : Nat} {L L' : List α} (h : OwnG E B w (.slice (some ⟨g, 0, none⟩) n cap) L) (m : Nat) (u : Value) (hm : m < L.length * E.n) (hL : L'.length = L.length) (hset : E.all L' = (E.all L).set m u) :
    OwnG E B (w.setCell ⟨g, m, none⟩ u) (.slice (some ⟨g, 0, none⟩) n cap) L' := by
  obtain ⟨h1, h2⟩ := h
  rcases h2 with ⟨hv, _⟩ | ⟨g', cap', cur, hv, hg, hh, hc, hcm, hcs, htk⟩
  · cases hv
  · simp only [Value.slice.injEq, Option.some.injEq, Addr.mk.injEq, and_true, true_and] at hv
    obtain ⟨rfl, rfl, rfl⟩ := hv
    refine ⟨by rw [hset, List.length_set, hL]; exact h1, Or.inr ⟨g, cap, cur.setIfInBounds m u, by rw [hL], hg, ?_, by rw [hL]; exact hc, hcm, by simpa using hcs, ?_⟩⟩
    · simp [World.setCell, Array.getElem?_modify, hh]
    · rw [hset, ← htk, hL, Array.toList_setIfInBounds, List.take_set]
theorem cts_set : ∀ (C : List CT) (k : Nat) (n : Nat) (h : k < C.length), ctEl.all (C.set k ⟨C[k].t, C[k].v, n⟩) = (ctEl.all C).set (k * 3 + 2) (.int .i64 (n : Int))
  | [], k, n, h => by simp at h
  | c :: C, 0, n, h => by
    simp [El.all, ctEl]
  | c :: C, k + 1, n, h => by
    have ih := cts_set C k n (by simpa using h)
    have e : (k + 1) * 3 + 2 = k * 3 + 2 + 1 + 1 + 1 := by omega
    rw [e]
    simp only [List.set_cons_succ, List.getElem_cons_succ]
    have e1 : ∀ (x : CT) (l : List CT), ctEl.all (x :: l) = .int .i64 (x.t : Int) :: .int .i64 (x.v : Int) :: .int .i64 (x.n : Int) :: ctEl.all l := fun x l => by simp [El.all, ctEl]
    rw [e1, e1, ih]
    simp only [List.set_cons_succ]
theorem own_cts {B : Nat} {w : World} {v : Value} {C : List CT} (h : OwnG ctEl B w v C) : (v = .slice none 0 0 ∧ C = []) ∨ ∃ g cap, v = .slice (some ⟨g, 0, none⟩) C.length cap ∧ B ≤ g ∧ g < w.heap.size ∧ C.length ≤ cap ∧ cap ≤ maxLen ∧ (∀ j, w.frozen? ⟨g, j, none⟩ = false) ∧
    ∀ i (hi : i < C.length), ∃ c, c = C[i] ∧ w.cell? ⟨g, i * 3, none⟩ = some (.int .i64 (c.t : Int)) ∧ w.cell? ⟨g, i * 3 + 1, none⟩ = some (.int .i64 (c.v : Int)) ∧ w.cell? ⟨g, i * 3 + 2, none⟩ = some (.int .i64 (c.n : Int)) := by
  have h0 := h
  rcases h.2 with ⟨hv, hl⟩ | ⟨g, cap, cur, rfl, hg, hh, hcap, hcm, _⟩
  · exact Or.inl ⟨hv, List.length_eq_zero_iff.1 hl⟩
  · have hlt : g < w.heap.size := (Array.getElem?_eq_some_iff.1 hh).1
    refine Or.inr ⟨g, cap, rfl, hg, hlt, hcap, hcm, fun j => by simp [World.frozen?, hh], fun i hi => ?_⟩
    obtain ⟨g', cap', hv, _, _, _, hc'⟩ := ownG_cells ctOk h0 (fun e => by rw [e] at hi; simp at hi)
    simp only [Value.slice.injEq, Option.some.injEq, Addr.mk.injEq, and_true, true_and] at hv
    obtain ⟨rfl, rfl⟩ := hv
    exact ⟨C[i], rfl, hc' i C[i] (List.getElem?_eq_getElem hi) 0 _ rfl, hc' i C[i] (List.getElem?_eq_getElem hi) 1 _ rfl, hc' i C[i] (List.getElem?_eq_getElem hi) 2 _ rfl⟩
theorem El.all_drop {α : Type} {E : El α} {b : Nat} (hE : ElOk E b) (L : List α) (i : Nat) (hi : i ≤ L.length) : E.all (L.drop i) = (E.all L).drop (i * E.n) := by
  conv => rhs; rw [← List.take_append_drop i L, El.all_append]
  rw [List.drop_left' (by rw [El.all_len hE, List.length_take]; congr 1; omega)]
theorem El.all_take {α : Type} {E : El α} {b : Nat} (hE : ElOk E b) (L : List α) (i : Nat) (hi : i ≤ L.length) : E.all (L.take i) = (E.all L).take (i * E.n) := by
  conv => rhs; rw [← List.take_append_drop i L, El.all_append]
  rw [List.take_left' (by rw [El.all_len hE, List.length_take]; congr 1; omega)]
theorem add_any (g m : Nat) : (⟨g, 0, none⟩ : Addr).add m = ⟨g, m, none⟩ := by cases m <;> simp [Addr.add]
theorem own_piece {α : Type} {E : El α} {b : Nat} (hE : ElOk E b) {B : Nat} {x : World} {g n cap : Nat} {L : List α} (h : OwnG E B x (.slice (some ⟨g, 0, none⟩) n cap) L) (i m c : Nat) (hi : i + m ≤ L.length) :
    SrcAt E x (.slice (some ⟨g, i * E.n, none⟩) m c) ((L.drop i).take m) := by
  have hl : ((L.drop i).take m).length = m := by rw [List.length_take, List.length_drop]; omega
  refine Or.inr ⟨_, c, by rw [hl], fun j u hj => ?_⟩
  rw [El.all_take hE _ _ (by rw [List.length_drop]; omega), El.all_drop hE _ _ (by omega)] at hj
  have hjm : j < m * E.n := by
    rcases Nat.lt_or_ge j (m * E.n) with h | h
    · exact h
    · rw [List.getElem?_eq_none (by rw [List.length_take]; omega)] at hj; cases hj
  rw [List.getElem?_take_of_lt hjm, List.getElem?_drop] at hj
  have := World.ownsRow.cells h rfl _ _ hj
  have e1 : (⟨g, 0, none⟩ : Addr).add (i * E.n + j) = ⟨g, i * E.n + j, none⟩ := add_any g _
  have e2 : (⟨g, i * E.n, none⟩ : Addr).add j = ⟨g, i * E.n + j, none⟩ := by cases j <;> simp [Addr.add]
  rw [e2, ← e1]; exact this
theorem add3 (g k : Nat) : (⟨g, 0, none⟩ : Addr).add (k * 3) = ⟨g, k * 3, none⟩ := by
  by_cases h : k * 3 = 0
  · rw [h]; rfl
  · simp [Addr.add, h]
end Go.Proofs.YtllcdhbchcpdoaaGreatDoor
/- moultref10.foot. -/
namespace Go.Proofs.YtllcdhbchcpdoaaGreatDoor
open Go.RowKit Go.Deep

theorem cat_list (a b : ByteArray) : (a ++ b).data.toList = a.data.toList ++ b.data.toList := by simp
theorem cat_size (a b : ByteArray) : (a ++ b).size = a.size + b.size := by simp
theorem ba_back (a : ByteArray) (l : List UInt8) (h : a.data.toList = l) : a = ⟨l.toArray⟩ := by rw [← h]
theorem flat_take (C : List CT) (k : Nat) (h : k < C.length) (c : CT) (hc : c = C[k]) : (C.take (k + 1)).flatMap citeBytes = (C.take k).flatMap citeBytes ++ (putL c.t ++ putL c.v ++ putL c.n) := by
  rw [List.take_add_one, List.getElem?_eq_getElem h, Option.toList_some, List.flatMap_append, List.flatMap_singleton, hc]
  rfl
end Go.Proofs.YtllcdhbchcpdoaaGreatDoor
/- table.areRight, table.areOrdered. -/
namespace Go.Proofs.YtllcdhbchcpdoaaGreatDoor
open Go.RowKit Go.Deep

theorem allr_take {L : List EB} {k : Nat} (h : k < L.length) : (L.take (k + 1)).all rightB = ((L.take k).all rightB && rightB L[k]) := by
  rw [List.take_add_one, List.getElem?_eq_getElem h, Option.toList_some, List.all_append]
  simp
theorem allr_more {L : List EB} {k : Nat} (h : (L.take k).all rightB = false) : L.all rightB = false := by
  cases hs : L.all rightB with
  | false => rfl
  | true =>
    rw [List.all_eq_true] at hs
    have : (L.take k).all rightB = true := List.all_eq_true.2 fun e he => hs e (List.mem_of_mem_take he)
    rw [h] at this; cases this
set_option maxHeartbeats 2000000 in
theorem areright_any (p : Option Addr) (cap : Nat) (L : List EB) (w : World) (h : EntsAt w p L) (hL : L.length ≤ 100000) (hf : fitsL L) (hs : ∀ e ∈ L, e.v.size ≤ 1000000) :
    Calls Tryz.prog 60 #[.slice p L.length cap] w fun e w' => e = .returned (.bool (L.all rightB)) ∧ Bel w w' := by
  have H := Lib.hid h; clear h
  have HF := Lib.hid hf; clear hf
  have HS := Lib.hid hs; clear hs
  go_enter Tryz.func60, Tryz.ntmps60
  go_wp2_with (fail)
  go_loopw [7] (fun iv x => (∃ k : Nat, k ≤ L.length ∧ iv = .int .i64 k ∧ (L.take k).all rightB = true) ∧ Bel w x) (fun iv _ => L.length - (intOf iv).toNat)
  case atStart => exact ⟨⟨0, Nat.zero_le _, rfl, rfl⟩, Bel.refl w⟩
  case round =>
    obtain ⟨⟨k, hk, rfl, hst⟩, hb⟩ := hrel
    have HST := Lib.hid hst; clear hst
    have HB := Lib.hid hb
    by_cases hlt : k < L.length
    · obtain ⟨a, e0, rfl, he0, B, O, sp, ha, c0, c1, c2, c3⟩ := (H.out.bel hb).get hlt
      have HE := Lib.hid (show e0.fits by rw [he0]; exact fits_at HF.out hlt)
      have HV := Lib.hid (show e0.v.size ≤ 1000000 by rw [he0]; exact HS.out _ (List.getElem_mem hlt))
      have HN := Lib.hid (allr_take hlt)
      rw [HST.out, ← he0, Bool.true_and] at HN
      clear hb he0
      go_wp2_with (fail)
      refine (pright_any e0 _ HE.out HV.out).mono ?_
      rintro r w1 ⟨rfl, hb⟩
      have HB1 := Lib.hid (show Bel w w1 from Bel.trans (HB.out.alloc _) hb)
      clear hb
      cases hr : rightB e0 with
      | false =>
        rw [hr] at HN
        have HR := Lib.hid (allr_more HN.out)
        clear hr
        go_wp2_with (fail)
        go_ret
        exact ⟨by rw [HR.out]; rfl, HB1.out⟩
      | true =>
        rw [hr] at HN
        clear hr
        go_wp2_with (fail)
        go_roundw
        case rel => exact ⟨⟨k + 1, hlt, by go_num, HN.out⟩, HB1.out⟩
        case measure => simp [intOf]; omega
    · obtain rfl : k = L.length := by omega
      clear hb
      rw [List.take_length] at HST
      go_wp2_with (fail)
      go_ret
      exact ⟨by rw [HST.out]; rfl, HB.out⟩
set_option maxHeartbeats 4000000 in
set_option maxRecDepth 20000 in
theorem areord_any (p : Option Addr) (cap : Nat) (L : List EB) (w : World) (h : EntsAt w p L) (hL : L.length ≤ 100000) (h0 : L ≠ []) (hr : ∀ e ∈ L, rightB e = true) :
    Calls Tryz.prog 61 #[.slice p L.length cap] w fun e w' => e = .returned (.bool (standB L)) ∧ Bel w w' := by
  have H := Lib.hid h; clear h
  have HR := Lib.hid hr; clear hr
  have h1 : 1 ≤ L.length := List.length_pos_iff.2 h0
  have H1 := Lib.hid (show standB (L.take 1) = true by rw [stand_zero (by omega)]; exact HR.out _ (List.getElem_mem _))
  clear h0
  go_enter Tryz.func61, Tryz.ntmps61
  go_wp2_with (fail)
  go_loopw [3] (fun iv x => (∃ j : Nat, j + 1 ≤ L.length ∧ iv = .int .i64 ((j : Int) + 1) ∧ standB (L.take (j + 1)) = true) ∧ Bel w x) (fun iv _ => L.length - (intOf iv).toNat)
  case atStart => exact ⟨⟨0, h1, rfl, H1.out⟩, Bel.refl w⟩
  case round =>
    obtain ⟨⟨j, hj, rfl, hst⟩, hb⟩ := hrel
    have HST := Lib.hid hst; clear hst
    have HB := Lib.hid hb
    by_cases hlt : j + 1 < L.length
    · obtain ⟨a, e0, rfl, he0, B, O, sp, ha, c0, c1, c2, c3⟩ := (H.out.bel hb).get hlt
      have hjl : j < L.length := by omega
      obtain ⟨_, e1, ha', he1, B', O', sp', ha2, b0, b1, b2, b3⟩ := (H.out.bel hb).get hjl
      cases ha'
      have HN := Lib.hid (stand_next hlt)
      rw [HST.out, ← he0, ← he1, Bool.true_and, show rightB e0 = true by rw [he0]; exact HR.out _ (List.getElem_mem hlt), Bool.true_and] at HN
      have hji : (j : Int) < (L.length : Int) := by omega
      have hji2 : (j : Int) + 1 < (L.length : Int) := by omega
      have hjw : IntKind.i64.wrap (j : Int) = j := by rw [IntKind.wrap_i64]; omega
      have hj0 : (0 : Int) ≤ (j : Int) + 1 := by omega
      have hjw2 : IntKind.i64.wrap ((j : Int) + 1) = (j : Int) + 1 := by rw [IntKind.wrap_i64]; omega
      clear he1 he0 hb
      go_wp2_with (fail)
      refine wp_region_held_drew (S := fun z => (z.cell? ⟨B, O, sp⟩ = some (.string e0.k) ∧ z.cell? ⟨B, O + 1, none⟩ = some (.int .i64 e0.q) ∧ z.cell? ⟨B, O + 2, none⟩ = some (.bool e0.d) ∧ z.cell? ⟨B, O + 3, none⟩ = some (.string e0.v)) ∧ z.cell? ⟨B', O', sp'⟩ = some (.string e1.k) ∧ z.cell? ⟨B', O' + 1, none⟩ = some (.int .i64 e1.q) ∧ z.cell? ⟨B', O' + 2, none⟩ = some (.bool e1.d) ∧ z.cell? ⟨B', O' + 3, none⟩ = some (.string e1.v)) (by kernel_rfl) ⟨⟨c0, c1, c2, c3⟩, b0, b1, b2, b3⟩ (fun hHeld => ?_)
      refine tk (oi := { dst := some 10, op := Op.move (Operand.tmp 0), type := 26, pos := "build.go:72", after := #[], guard := none }) (v := ?_) 0 rfl ?_ ?_
      rotate_left
      · (intro w hSw; (try dsimp only at hSw); first | (go_simp; done) | (go_simp; with_reducible rfl))
      try simp only [Act.put, List.setIfInBounds_toArray, List.set_cons_zero, List.set_cons_succ]
      refine tk (oi := { dst := some 11, op := Op.move (Operand.tmp 3), type := 3, pos := "build.go:72", after := #[], guard := none }) (v := ?_) 1 rfl ?_ ?_
      rotate_left
      · (intro w hSw; (try dsimp only at hSw); first | (go_simp; done) | (go_simp; with_reducible rfl))
      try simp only [Act.put, List.setIfInBounds_toArray, List.set_cons_zero, List.set_cons_succ]
      refine tk (oi := { dst := some 12, op := Op.binOp BinOp.sub 3 (Operand.tmp 11) (Operand.const (Value.int IntKind.i64 1)) 3, type := 3, pos := "build.go:72", after := #[{ on := 1, ground := Ground.data }], guard := none }) (v := ?_) 2 rfl ?_ ?_
      rotate_left
      · (intro w hSw; (try dsimp only at hSw); first | (go_simp; done) | (go_simp; with_reducible rfl))
      try simp only [Act.put, List.setIfInBounds_toArray, List.set_cons_zero, List.set_cons_succ]
      refine tk (oi := { dst := some 13, op := Op.indexAddr 26 (Operand.tmp 10) (Operand.tmp 12), type := 0, pos := "build.go:72", after := #[{ on := 0, ground := Ground.data }, { on := 2, ground := Ground.data }], guard := none }) (v := ?_) 3 rfl ?_ ?_
      rotate_left
      · (intro w hSw; (try dsimp only at hSw); first | (go_simp; done) | (go_simp; with_reducible rfl))
      try simp only [Act.put, List.setIfInBounds_toArray, List.set_cons_zero, List.set_cons_succ]
      refine tk (oi := { dst := some 14, op := Op.load 23 (Operand.tmp 13), type := 23, pos := "build.go:72", after := #[{ on := 3, ground := Ground.data }], guard := none }) (v := ?_) 4 rfl ?_ ?_
      rotate_left
      · (intro w hSw; (try dsimp only at hSw); first | (go_simp; done) | (go_simp; with_reducible rfl))
      try simp only [Act.put, List.setIfInBounds_toArray, List.set_cons_zero, List.set_cons_succ]
      refine tk (oi := { dst := some 15, op := Op.move (Operand.tmp 0), type := 26, pos := "build.go:72", after := #[], guard := none }) (v := ?_) 5 rfl ?_ ?_
      rotate_left
      · (intro w hSw; (try dsimp only at hSw); first | (go_simp; done) | (go_simp; with_reducible rfl))
      try simp only [Act.put, List.setIfInBounds_toArray, List.set_cons_zero, List.set_cons_succ]
      refine tk (oi := { dst := some 16, op := Op.move (Operand.tmp 3), type := 3, pos := "build.go:72", after := #[], guard := none }) (v := ?_) 6 rfl ?_ ?_
      rotate_left
      · (intro w hSw; (try dsimp only at hSw); first | (go_simp; done) | (go_simp; with_reducible rfl))
      try simp only [Act.put, List.setIfInBounds_toArray, List.set_cons_zero, List.set_cons_succ]
      refine tk (oi := { dst := some 17, op := Op.indexAddr 26 (Operand.tmp 15) (Operand.tmp 16), type := 0, pos := "build.go:72", after := #[{ on := 5, ground := Ground.data }, { on := 6, ground := Ground.data }], guard := none }) (v := ?_) 7 rfl ?_ ?_
      rotate_left
      · (intro w hSw; (try dsimp only at hSw); first | (go_simp; done) | (go_simp; with_reducible rfl))
      try simp only [Act.put, List.setIfInBounds_toArray, List.set_cons_zero, List.set_cons_succ]
      refine tk (oi := { dst := some 18, op := Op.load 23 (Operand.tmp 17), type := 23, pos := "build.go:72", after := #[{ on := 7, ground := Ground.data }], guard := none }) (v := ?_) 8 rfl ?_ ?_
      rotate_left
      · (intro w hSw; (try dsimp only at hSw); first | (go_simp; done) | (go_simp; with_reducible rfl))
      try simp only [Act.put, List.setIfInBounds_toArray, List.set_cons_zero, List.set_cons_succ]
      refine wpAnyH_ready (rs := [9]) (by kernel_rfl) (by simp) ?_
      refine AllReadyH.cons (o := { dst := some 19, op := Op.call { callee := Callee.value (Operand.func 18), args := #[Operand.tmp 14, Operand.tmp 18], argTypes := #[23, 23] }, type := 4, pos := "build.go:72", after := #[{ on := 4, ground := Ground.data }, { on := 8, ground := Ground.data }], guard := none }) rfl (fun K hK => ?_) AllReadyH.nil
      go_simp
      refine (pless_any e1 e0 wr.drew).mono ?_
      rintro r w2 ⟨rfl, hb2⟩
      have HB2 := Lib.hid (HB.out.drew.trans hb2)
      dsimp only
      refine hK.out _ _ ⟨⟨cell_later hb2 hHeld.1.1, cell_later hb2 hHeld.1.2.1, cell_later hb2 hHeld.1.2.2.1, cell_later hb2 hHeld.1.2.2.2⟩, cell_later hb2 hHeld.2.1, cell_later hb2 hHeld.2.2.1, cell_later hb2 hHeld.2.2.2.1, cell_later hb2 hHeld.2.2.2.2⟩ (fun hHeld => ?_)
      clear hK K
      try simp only [Act.put, List.setIfInBounds_toArray, List.set_cons_zero, List.set_cons_succ]
      refine tk (oi := { dst := some 20, op := Op.unOp UnOp.not 4 (Operand.tmp 19), type := 4, pos := "build.go:72", after := #[{ on := 9, ground := Ground.data }], guard := none }) (v := ?_) 10 rfl ?_ ?_
      rotate_left
      · (intro w hSw; (try dsimp only at hSw); first | (go_simp; done) | (go_simp; with_reducible rfl))
      try simp only [Act.put, List.setIfInBounds_toArray, List.set_cons_zero, List.set_cons_succ]
      refine wpAnyH_done (by kernel_rfl) ?_ _
      clear hHeld hb2 b0 b1 b2 b3 c0 c1 c2 c3
      cases hlb : lessB e1 e0 with
      | false =>
        rw [hlb] at HN
        have HR := Lib.hid (stand_more HN.out)
        clear hlb
        go_wp2_with (fail)
        go_ret
        exact ⟨by rw [HR.out]; rfl, HB2.out⟩
      | true =>
        rw [hlb] at HN
        clear hlb
        go_wp2_with (fail)
        go_roundw
        case rel => exact ⟨⟨j + 1, hlt, by go_num, HN.out⟩, HB2.out⟩
        case measure => simp [intOf]; omega
    · obtain hjl : j + 1 = L.length := by omega
      have hlt' : ¬ (j : Int) + 1 < (L.length : Int) := by omega
      clear hb
      rw [hjl, List.take_length] at HST
      go_wp2_with (fail)
      go_ret
      exact ⟨by rw [HST.out]; rfl, HB.out⟩
end Go.Proofs.YtllcdhbchcpdoaaGreatDoor
/- moultlaw10.standing. -/
namespace Go.Proofs.YtllcdhbchcpdoaaGreatDoor
open Go.RowKit Go.Deep

theorem cl11 {w x : World} {a : Addr} {v : Value} (hb : Bel w x) (h : w.cell? a = some v) : x.cell? a = some v := (Below.cell hb (blk_of_cell h)).trans h
theorem own_ents {B : Nat} {w : World} {v : Value} {C : List EB} (h : OwnG entEl B w v C) : (v = .slice none 0 0 ∧ C = []) ∨ ∃ g cap, v = .slice (some ⟨g, 0, none⟩) C.length cap ∧ B ≤ g ∧ g < w.heap.size ∧ C.length ≤ cap ∧ cap ≤ maxLen ∧
    ∀ i (hi : i < C.length), ∃ e, e = C[i] ∧ w.cell? ⟨g, i * 4, none⟩ = some (.string e.k) ∧ w.cell? ⟨g, i * 4 + 1, none⟩ = some (.int .i64 e.q) ∧ w.cell? ⟨g, i * 4 + 2, none⟩ = some (.bool e.d) ∧ w.cell? ⟨g, i * 4 + 3, none⟩ = some (.string e.v) := by
  have h0 := h
  rcases h.2 with ⟨hv, hl⟩ | ⟨g, cap, cur, rfl, hg, hh, hcap, hcm, _⟩
  · exact Or.inl ⟨hv, List.length_eq_zero_iff.1 hl⟩
  · have hlt : g < w.heap.size := (Array.getElem?_eq_some_iff.1 hh).1
    refine Or.inr ⟨g, cap, rfl, hg, hlt, hcap, hcm, fun i hi => ?_⟩
    obtain ⟨g', cap', hv, _, _, _, hc'⟩ := ownG_cells entOk h0 (fun e => by rw [e] at hi; simp at hi)
    simp only [Value.slice.injEq, Option.some.injEq, Addr.mk.injEq, and_true, true_and] at hv
    obtain ⟨rfl, rfl⟩ := hv
    exact ⟨C[i], rfl, hc' i C[i] (List.getElem?_eq_getElem hi) 0 _ rfl, hc' i C[i] (List.getElem?_eq_getElem hi) 1 _ rfl, hc' i C[i] (List.getElem?_eq_getElem hi) 2 _ rfl, hc' i C[i] (List.getElem?_eq_getElem hi) 3 _ rfl⟩
theorem standing_take {L : List EB} {k : Nat} (h : k < L.length) (e : EB) (he : e = L[k]) : standingB (L.take (k + 1)) = stepS (standingB (L.take k)) e := by
  rw [List.take_add_one, List.getElem?_eq_getElem h, Option.toList_some, standing_snoc, he]
theorem cells4 {w x : World} {B O : Nat} {sp : Option Nat} {e : EB} (hb : Bel w x) (h : w.cell? ⟨B, O, sp⟩ = some (.string e.k) ∧ w.cell? ⟨B, O + 1, none⟩ = some (.int .i64 e.q) ∧ w.cell? ⟨B, O + 2, none⟩ = some (.bool e.d) ∧ w.cell? ⟨B, O + 3, none⟩ = some (.string e.v)) :
    x.cell? ⟨B, O, sp⟩ = some (.string e.k) ∧ x.cell? ⟨B, O + 1, none⟩ = some (.int .i64 e.q) ∧ x.cell? ⟨B, O + 2, none⟩ = some (.bool e.d) ∧ x.cell? ⟨B, O + 3, none⟩ = some (.string e.v) :=
  ⟨cl11 hb h.1, cl11 hb h.2.1, cl11 hb h.2.2.1, cl11 hb h.2.2.2⟩
theorem add4 (g k : Nat) : (⟨g, 0, none⟩ : Addr).add (k * 4) = ⟨g, k * 4, none⟩ := add_any g _
set_option maxHeartbeats 8000000 in
set_option maxRecDepth 20000 in
theorem standing_any (p : Option Addr) (cap : Nat) (L : List EB) (w : World) (h : EntsAt w p L) (hL : L.length ≤ 100000) (hf : fitsL L) (hs : ∀ e ∈ L, e.v.size ≤ 1000000) :
    Calls Tryz.prog 24 #[.slice p L.length cap] w fun e w' => ∃ v, e = .returned v ∧ OwnG entEl w.heap.size w' v (standingB L) ∧ Bel w w' := by
  have H := Lib.hid h; clear h
  have HF := Lib.hid hf; clear hf
  have HS := Lib.hid hs; clear hs
  go_enter Tryz.func24, Tryz.ntmps24
  go_wp2_with (fail)
  go_loopw [3, 4] (fun sv iv x => ∃ k : Nat, k ≤ L.length ∧ iv = .int .i64 k ∧ OwnG entEl w.heap.size x sv (standingB (L.take k)) ∧ Bel w x) (fun _ iv _ => L.length - (intOf iv).toNat)
  case atStart => exact ⟨0, Nat.zero_le _, rfl, OwnG.nil _ _ _, Bel.refl w⟩
  case round =>
    obtain ⟨i, hi, rfl, hown, hb⟩ := hrel
    have HB := Lib.hid hb
    by_cases hlt : i < L.length
    · obtain ⟨a0, e0, rfl, he0, B, O, sp, ha, c0, c1, c2, c3⟩ := (H.out).get hlt
      have hfe : e0.fits := by rw [he0]; exact fits_at HF.out hlt
      have HFE := Lib.hid hfe
      have HN := Lib.hid (standing_take hlt e0 he0)
      have hcl := standing_len (L.take i)
      have hcm := fun x hx => List.mem_of_mem_take (standing_mem (l := L.take i) (e := x) hx)
      rw [List.length_take] at hcl
      obtain ⟨C, hC⟩ : ∃ C, standingB (L.take i) = C := ⟨_, rfl⟩
      rw [hC] at hown HN hcl hcm
      have HCF := Lib.hid (show fitsL C from fun x hx => HF.out x (hcm x hx))
      have HO := Lib.hid hown
      obtain ⟨cp, ccap, rfl⟩ := ownG_len hown
      have HC0 := Lib.hid (And.intro c0 (And.intro c1 (And.intro c2 c3)))
      replace c0 := cl11 hb c0
      replace c1 := cl11 hb c1
      replace c2 := cl11 hb c2
      replace c3 := cl11 hb c3
      clear hb hC hown he0 hfe hcm
      have hci : C.length ≤ i := by omega
      clear hcl
      have hiw : IntKind.i64.wrap (i : Int) = i := by rw [IntKind.wrap_i64]; omega
      have hii : (i : Int) < (L.length : Int) := by omega
      go_wp2_with (fail)
      refine (rright_any e0 wr HFE.out).mono ?_
      rintro r w1 ⟨rfl, hb⟩
      have HB1 := Lib.hid (HB.out.trans hb)
      have HO1 := Lib.hid (HO.out.bel hb)
      clear hb c0 c1 c2 c3
      cases hr : rightB e0 with
      | false =>
        have HST := Lib.hid (show stepS C e0 = C by unfold stepS; rw [hr]; rfl)
        clear hr
        go_wp2_with (fail)
        go_roundw
        case rel => exact ⟨i + 1, hlt, by go_num, by rw [HN.out, HST.out]; exact HO1.out, HB1.out⟩
        case measure => simp [intOf]; omega
      | true =>
        have HST := Lib.hid (show stepS C e0 = insE e0 C by unfold stepS; rw [hr]; rfl)
        clear hr
        rcases own_ents HO1.out with ⟨hvn, hCn⟩ | ⟨g, cap2, hv, hg, hgl, hcap2, hcm, hcells⟩
        · subst hCn
          simp only [List.length_nil, Value.slice.injEq] at hvn
          obtain ⟨rfl, -, rfl⟩ := hvn
          go_wp2_with (fail)
          go_loopw [6] (fun kv x => kv = .int .i64 0 ∧ Bel w1 x) (fun kv _ => 0)
          case atStart => exact ⟨rfl, Bel.refl w1⟩
          case round =>
            obtain ⟨rfl, hw⟩ := hrel
            have HX3 := Lib.hid hw.drew.drew
            clear hw
            go_wp2_with (fail)
            refine wp_region_held_drew (S := fun z => True) (by kernel_rfl) trivial (fun hHeld => ?_)
            refine tk (oi := { dst := some 20, op := Op.move (Operand.tmp 6), type := 3, pos := "law.go:66", after := #[], guard := none }) (v := ?_) 0 rfl ?_ ?_
            rotate_left
            · (intro w hSw; (try dsimp only at hSw); first | (go_simp; done) | (go_simp; with_reducible rfl))
            try simp only [Act.put, List.setIfInBounds_toArray, List.set_cons_zero, List.set_cons_succ]
            refine tk (oi := { dst := some 21, op := Op.move (Operand.tmp 3), type := 26, pos := "law.go:66", after := #[], guard := none }) (v := ?_) 1 rfl ?_ ?_
            rotate_left
            · (intro w hSw; (try dsimp only at hSw); first | (go_simp; done) | (go_simp; with_reducible rfl))
            try simp only [Act.put, List.setIfInBounds_toArray, List.set_cons_zero, List.set_cons_succ]
            refine tk (oi := { dst := some 22, op := Op.call { callee := Callee.builtin Builtin.len, args := #[Operand.tmp 21], argTypes := #[26] }, type := 3, pos := "law.go:66", after := #[{ on := 1, ground := Ground.data }], guard := none }) (v := ?_) 2 rfl ?_ ?_
            rotate_left
            · (intro w hSw; (try dsimp only at hSw); first | (go_simp; done) | (go_simp; with_reducible rfl))
            try simp only [Act.put, List.setIfInBounds_toArray, List.set_cons_zero, List.set_cons_succ]
            refine tk (oi := { dst := some 23, op := Op.binOp BinOp.lss 3 (Operand.tmp 20) (Operand.tmp 22) 3, type := 4, pos := "law.go:66", after := #[{ on := 0, ground := Ground.data }, { on := 2, ground := Ground.data }], guard := none }) (v := ?_) 3 rfl ?_ ?_
            rotate_left
            · (intro w hSw; (try dsimp only at hSw); first | (go_simp; done) | (go_simp; with_reducible rfl))
            try simp only [Act.put, List.setIfInBounds_toArray, List.set_cons_zero, List.set_cons_succ]
            refine tk (oi := { dst := some 24, op := Op.move (Operand.tmp 23), type := 4, pos := "law.go:66", after := #[{ on := 3, ground := Ground.data }], guard := none }) (v := ?_) 4 rfl ?_ ?_
            rotate_left
            · (intro w hSw; (try dsimp only at hSw); first | (go_simp; done) | (go_simp; with_reducible rfl))
            try simp only [Act.put, List.setIfInBounds_toArray, List.set_cons_zero, List.set_cons_succ]
            refine wpAnyH_take (i := 5) (oi := { dst := some 25, op := Op.move (Operand.tmp 3), type := 26, pos := "law.go:66", after := #[{ on := 4, ground := Ground.guard }], guard := some (4, true) }) (v := undef) rfl (by kernel_rfl) (by kernel_rfl) (by kernel_rfl) (fun _ _ _ h => h) (Or.inr ⟨by rfl, rfl⟩) (by assumption) ?_
            try simp only [Act.put, List.setIfInBounds_toArray, List.set_cons_zero, List.set_cons_succ]
            refine wpAnyH_take (i := 6) (oi := { dst := some 26, op := Op.move (Operand.tmp 6), type := 3, pos := "law.go:66", after := #[{ on := 4, ground := Ground.guard }], guard := some (4, true) }) (v := undef) rfl (by kernel_rfl) (by kernel_rfl) (by kernel_rfl) (fun _ _ _ h => h) (Or.inr ⟨by rfl, rfl⟩) (by assumption) ?_
            try simp only [Act.put, List.setIfInBounds_toArray, List.set_cons_zero, List.set_cons_succ]
            refine wpAnyH_take (i := 7) (oi := { dst := some 27, op := Op.indexAddr 26 (Operand.tmp 25) (Operand.tmp 26), type := 0, pos := "law.go:66", after := #[{ on := 5, ground := Ground.data }, { on := 6, ground := Ground.data }, { on := 4, ground := Ground.guard }], guard := some (4, true) }) (v := undef) rfl (by kernel_rfl) (by kernel_rfl) (by kernel_rfl) (fun _ _ _ h => h) (Or.inr ⟨by rfl, rfl⟩) (by assumption) ?_
            try simp only [Act.put, List.setIfInBounds_toArray, List.set_cons_zero, List.set_cons_succ]
            refine wpAnyH_take (i := 8) (oi := { dst := some 28, op := Op.load 23 (Operand.tmp 27), type := 23, pos := "law.go:66", after := #[{ on := 7, ground := Ground.data }, { on := 4, ground := Ground.guard }], guard := some (4, true) }) (v := undef) rfl (by kernel_rfl) (by kernel_rfl) (by kernel_rfl) (fun _ _ _ h => h) (Or.inr ⟨by rfl, rfl⟩) (by assumption) ?_
            try simp only [Act.put, List.setIfInBounds_toArray, List.set_cons_zero, List.set_cons_succ]
            refine wpAnyH_take (i := 9) (oi := { dst := some 29, op := Op.move (Operand.tmp 0), type := 26, pos := "law.go:66", after := #[{ on := 4, ground := Ground.guard }], guard := some (4, true) }) (v := undef) rfl (by kernel_rfl) (by kernel_rfl) (by kernel_rfl) (fun _ _ _ h => h) (Or.inr ⟨by rfl, rfl⟩) (by assumption) ?_
            try simp only [Act.put, List.setIfInBounds_toArray, List.set_cons_zero, List.set_cons_succ]
            refine wpAnyH_take (i := 10) (oi := { dst := some 30, op := Op.move (Operand.tmp 4), type := 3, pos := "law.go:66", after := #[{ on := 4, ground := Ground.guard }], guard := some (4, true) }) (v := undef) rfl (by kernel_rfl) (by kernel_rfl) (by kernel_rfl) (fun _ _ _ h => h) (Or.inr ⟨by rfl, rfl⟩) (by assumption) ?_
            try simp only [Act.put, List.setIfInBounds_toArray, List.set_cons_zero, List.set_cons_succ]
            refine wpAnyH_take (i := 11) (oi := { dst := some 31, op := Op.indexAddr 26 (Operand.tmp 29) (Operand.tmp 30), type := 0, pos := "law.go:66", after := #[{ on := 9, ground := Ground.data }, { on := 10, ground := Ground.data }, { on := 4, ground := Ground.guard }], guard := some (4, true) }) (v := undef) rfl (by kernel_rfl) (by kernel_rfl) (by kernel_rfl) (fun _ _ _ h => h) (Or.inr ⟨by rfl, rfl⟩) (by assumption) ?_
            try simp only [Act.put, List.setIfInBounds_toArray, List.set_cons_zero, List.set_cons_succ]
            refine wpAnyH_take (i := 12) (oi := { dst := some 32, op := Op.load 23 (Operand.tmp 31), type := 23, pos := "law.go:66", after := #[{ on := 11, ground := Ground.data }, { on := 4, ground := Ground.guard }], guard := some (4, true) }) (v := undef) rfl (by kernel_rfl) (by kernel_rfl) (by kernel_rfl) (fun _ _ _ h => h) (Or.inr ⟨by rfl, rfl⟩) (by assumption) ?_
            try simp only [Act.put, List.setIfInBounds_toArray, List.set_cons_zero, List.set_cons_succ]
            refine wpAnyH_take (i := 13) (oi := { dst := some 33, op := Op.call { callee := Callee.value (Operand.func 19), args := #[Operand.tmp 28, Operand.tmp 32], argTypes := #[23, 23] }, type := 4, pos := "law.go:66", after := #[{ on := 8, ground := Ground.data }, { on := 12, ground := Ground.data }, { on := 4, ground := Ground.chain }, { on := 4, ground := Ground.guard }], guard := some (4, true) }) (v := undef) rfl (by kernel_rfl) (by kernel_rfl) (by kernel_rfl) (fun _ _ _ h => h) (Or.inr ⟨by rfl, rfl⟩) (by assumption) ?_
            try simp only [Act.put, List.setIfInBounds_toArray, List.set_cons_zero, List.set_cons_succ]
            refine tk (oi := { dst := some 34, op := Op.pick (Operand.tmp 24) (Operand.tmp 33) (Operand.const (Value.bool false)), type := 4, pos := "law.go:66", after := #[{ on := 4, ground := Ground.data }, { on := 13, ground := Ground.data }], guard := none }) (v := ?_) 14 rfl ?_ ?_
            rotate_left
            · (intro w hSw; (try dsimp only at hSw); first | (go_simp; done) | (go_simp; with_reducible rfl))
            try simp only [Act.put, List.setIfInBounds_toArray, List.set_cons_zero, List.set_cons_succ]
            refine wpAnyH_done (by kernel_rfl) ?_ _
            go_wp2_with (fail)
            refine wp_region_held_drew (S := fun z => True) (by kernel_rfl) trivial (fun hHeld => ?_)
            refine tk (oi := { dst := some 37, op := Op.move (Operand.tmp 6), type := 3, pos := "law.go:69", after := #[], guard := none }) (v := ?_) 0 rfl ?_ ?_
            rotate_left
            · (intro w hSw; (try dsimp only at hSw); first | (go_simp; done) | (go_simp; with_reducible rfl))
            try simp only [Act.put, List.setIfInBounds_toArray, List.set_cons_zero, List.set_cons_succ]
            refine tk (oi := { dst := some 38, op := Op.move (Operand.tmp 3), type := 26, pos := "law.go:69", after := #[], guard := none }) (v := ?_) 1 rfl ?_ ?_
            rotate_left
            · (intro w hSw; (try dsimp only at hSw); first | (go_simp; done) | (go_simp; with_reducible rfl))
            try simp only [Act.put, List.setIfInBounds_toArray, List.set_cons_zero, List.set_cons_succ]
            refine tk (oi := { dst := some 39, op := Op.call { callee := Callee.builtin Builtin.len, args := #[Operand.tmp 38], argTypes := #[26] }, type := 3, pos := "law.go:69", after := #[{ on := 1, ground := Ground.data }], guard := none }) (v := ?_) 2 rfl ?_ ?_
            rotate_left
            · (intro w hSw; (try dsimp only at hSw); first | (go_simp; done) | (go_simp; with_reducible rfl))
            try simp only [Act.put, List.setIfInBounds_toArray, List.set_cons_zero, List.set_cons_succ]
            refine tk (oi := { dst := some 40, op := Op.binOp BinOp.eql 3 (Operand.tmp 37) (Operand.tmp 39) 3, type := 4, pos := "law.go:69", after := #[{ on := 0, ground := Ground.data }, { on := 2, ground := Ground.data }], guard := none }) (v := ?_) 3 rfl ?_ ?_
            rotate_left
            · (intro w hSw; (try dsimp only at hSw); first | (go_simp; done) | (go_simp; with_reducible rfl))
            try simp only [Act.put, List.setIfInBounds_toArray, List.set_cons_zero, List.set_cons_succ]
            refine tk (oi := { dst := some 41, op := Op.move (Operand.tmp 40), type := 4, pos := "law.go:69", after := #[{ on := 3, ground := Ground.data }], guard := none }) (v := ?_) 4 rfl ?_ ?_
            rotate_left
            · (intro w hSw; (try dsimp only at hSw); first | (go_simp; done) | (go_simp; with_reducible rfl))
            try simp only [Act.put, List.setIfInBounds_toArray, List.set_cons_zero, List.set_cons_succ]
            refine wpAnyH_take (i := 5) (oi := { dst := some 42, op := Op.move (Operand.tmp 0), type := 26, pos := "law.go:69", after := #[{ on := 4, ground := Ground.guard }], guard := some (4, false) }) (v := undef) rfl (by kernel_rfl) (by kernel_rfl) (by kernel_rfl) (fun _ _ _ h => h) (Or.inr ⟨by rfl, rfl⟩) (by assumption) ?_
            try simp only [Act.put, List.setIfInBounds_toArray, List.set_cons_zero, List.set_cons_succ]
            refine wpAnyH_take (i := 6) (oi := { dst := some 43, op := Op.move (Operand.tmp 4), type := 3, pos := "law.go:69", after := #[{ on := 4, ground := Ground.guard }], guard := some (4, false) }) (v := undef) rfl (by kernel_rfl) (by kernel_rfl) (by kernel_rfl) (fun _ _ _ h => h) (Or.inr ⟨by rfl, rfl⟩) (by assumption) ?_
            try simp only [Act.put, List.setIfInBounds_toArray, List.set_cons_zero, List.set_cons_succ]
            refine wpAnyH_take (i := 7) (oi := { dst := some 44, op := Op.indexAddr 26 (Operand.tmp 42) (Operand.tmp 43), type := 0, pos := "law.go:69", after := #[{ on := 5, ground := Ground.data }, { on := 6, ground := Ground.data }, { on := 4, ground := Ground.guard }], guard := some (4, false) }) (v := undef) rfl (by kernel_rfl) (by kernel_rfl) (by kernel_rfl) (fun _ _ _ h => h) (Or.inr ⟨by rfl, rfl⟩) (by assumption) ?_
            try simp only [Act.put, List.setIfInBounds_toArray, List.set_cons_zero, List.set_cons_succ]
            refine wpAnyH_take (i := 8) (oi := { dst := some 45, op := Op.load 23 (Operand.tmp 44), type := 23, pos := "law.go:69", after := #[{ on := 7, ground := Ground.data }, { on := 4, ground := Ground.guard }], guard := some (4, false) }) (v := undef) rfl (by kernel_rfl) (by kernel_rfl) (by kernel_rfl) (fun _ _ _ h => h) (Or.inr ⟨by rfl, rfl⟩) (by assumption) ?_
            try simp only [Act.put, List.setIfInBounds_toArray, List.set_cons_zero, List.set_cons_succ]
            refine wpAnyH_take (i := 9) (oi := { dst := some 46, op := Op.move (Operand.tmp 3), type := 26, pos := "law.go:69", after := #[{ on := 4, ground := Ground.guard }], guard := some (4, false) }) (v := undef) rfl (by kernel_rfl) (by kernel_rfl) (by kernel_rfl) (fun _ _ _ h => h) (Or.inr ⟨by rfl, rfl⟩) (by assumption) ?_
            try simp only [Act.put, List.setIfInBounds_toArray, List.set_cons_zero, List.set_cons_succ]
            refine wpAnyH_take (i := 10) (oi := { dst := some 47, op := Op.move (Operand.tmp 6), type := 3, pos := "law.go:69", after := #[{ on := 4, ground := Ground.guard }], guard := some (4, false) }) (v := undef) rfl (by kernel_rfl) (by kernel_rfl) (by kernel_rfl) (fun _ _ _ h => h) (Or.inr ⟨by rfl, rfl⟩) (by assumption) ?_
            try simp only [Act.put, List.setIfInBounds_toArray, List.set_cons_zero, List.set_cons_succ]
            refine wpAnyH_take (i := 11) (oi := { dst := some 48, op := Op.indexAddr 26 (Operand.tmp 46) (Operand.tmp 47), type := 0, pos := "law.go:69", after := #[{ on := 9, ground := Ground.data }, { on := 10, ground := Ground.data }, { on := 4, ground := Ground.guard }], guard := some (4, false) }) (v := undef) rfl (by kernel_rfl) (by kernel_rfl) (by kernel_rfl) (fun _ _ _ h => h) (Or.inr ⟨by rfl, rfl⟩) (by assumption) ?_
            try simp only [Act.put, List.setIfInBounds_toArray, List.set_cons_zero, List.set_cons_succ]
            refine wpAnyH_take (i := 12) (oi := { dst := some 49, op := Op.load 23 (Operand.tmp 48), type := 23, pos := "law.go:69", after := #[{ on := 11, ground := Ground.data }, { on := 4, ground := Ground.guard }], guard := some (4, false) }) (v := undef) rfl (by kernel_rfl) (by kernel_rfl) (by kernel_rfl) (fun _ _ _ h => h) (Or.inr ⟨by rfl, rfl⟩) (by assumption) ?_
            try simp only [Act.put, List.setIfInBounds_toArray, List.set_cons_zero, List.set_cons_succ]
            refine wpAnyH_take (i := 13) (oi := { dst := some 50, op := Op.call { callee := Callee.value (Operand.func 19), args := #[Operand.tmp 45, Operand.tmp 49], argTypes := #[23, 23] }, type := 4, pos := "law.go:69", after := #[{ on := 8, ground := Ground.data }, { on := 12, ground := Ground.data }, { on := 4, ground := Ground.chain }, { on := 4, ground := Ground.guard }], guard := some (4, false) }) (v := undef) rfl (by kernel_rfl) (by kernel_rfl) (by kernel_rfl) (fun _ _ _ h => h) (Or.inr ⟨by rfl, rfl⟩) (by assumption) ?_
            try simp only [Act.put, List.setIfInBounds_toArray, List.set_cons_zero, List.set_cons_succ]
            refine tk (oi := { dst := some 51, op := Op.pick (Operand.tmp 41) (Operand.const (Value.bool true)) (Operand.tmp 50), type := 4, pos := "law.go:69", after := #[{ on := 4, ground := Ground.data }, { on := 13, ground := Ground.data }], guard := none }) (v := ?_) 14 rfl ?_ ?_
            rotate_left
            · (intro w hSw; (try dsimp only at hSw); first | (go_simp; done) | (go_simp; with_reducible rfl))
            try simp only [Act.put, List.setIfInBounds_toArray, List.set_cons_zero, List.set_cons_succ]
            refine wpAnyH_done (by kernel_rfl) ?_ _
            obtain ⟨zb, hzb⟩ : ∃ x, x = wr.drew.drew := ⟨_, rfl⟩
            rw [← hzb] at HX3 ⊢
            clear hzb
            obtain ⟨C, hC⟩ : ∃ C : List EB, C = [] := ⟨_, rfl⟩
            obtain ⟨k, hk⟩ : ∃ k : Nat, k = 0 := ⟨_, rfl⟩
            have HBW := Lib.hid (HB1.out.trans HX3.out)
            have HEC := Lib.hid (cells4 HBW.out HC0.out)
            have HS1 := Lib.hid (show ∀ x, Bel zb x → SrcAt entEl x (.slice none 0 0) (C.take k) from fun x _ => Or.inl ⟨rfl, by rw [hC]; simp⟩)
            have HS2 := Lib.hid (show ∀ x, Bel zb x → SrcAt entEl x (.slice none 0 0) (C.drop k) from fun x _ => Or.inl ⟨rfl, by rw [hC]; simp⟩)
            have HADD := Lib.hid (show insE e0 C = C.take k ++ e0 :: C.drop k by rw [hC, hk]; rfl)
            have hCl : C.length ≤ i := by rw [hC]; exact Nat.zero_le _
            rw [show insE e0 [] = insE e0 C by rw [hC]] at HST
            rw [← hC] at HN HST
            have hkl : k ≤ C.length := by rw [hk]; exact Nat.zero_le _
            clear hC hk
            go_wp2_with (fail)
            have HBR := Lib.hid (Bel.refl zb)
            refine wp_region_held_drew (S := fun z => z.cell? ⟨B, O, sp⟩ = some (.string e0.k) ∧ z.cell? ⟨B, O + 1, none⟩ = some (.int .i64 e0.q) ∧ z.cell? ⟨B, O + 2, none⟩ = some (.bool e0.d) ∧ z.cell? ⟨B, O + 3, none⟩ = some (.string e0.v)) (by kernel_rfl) HEC.out (fun hHeld => ?_)
            refine tk (oi := { dst := some 53, op := Op.move (Operand.tmp 3), type := 26, pos := "law.go:70", after := #[], guard := none }) (v := ?_) 1 rfl ?_ ?_
            rotate_left
            · (intro w hSw; (try dsimp only at hSw); first | (go_simp; done) | (go_simp; with_reducible rfl))
            try simp only [Act.put, List.setIfInBounds_toArray, List.set_cons_zero, List.set_cons_succ]
            refine tk (oi := { dst := some 54, op := Op.move (Operand.tmp 6), type := 3, pos := "law.go:70", after := #[], guard := none }) (v := ?_) 2 rfl ?_ ?_
            rotate_left
            · (intro w hSw; (try dsimp only at hSw); first | (go_simp; done) | (go_simp; with_reducible rfl))
            try simp only [Act.put, List.setIfInBounds_toArray, List.set_cons_zero, List.set_cons_succ]
            refine tk (oi := { dst := some 55, op := Op.slice 26 (Operand.tmp 53) none (some (Operand.tmp 54)) none, type := 26, pos := "law.go:70", after := #[{ on := 1, ground := Ground.data }, { on := 2, ground := Ground.data }], guard := none }) (v := ?_) 3 rfl ?_ ?_
            rotate_left
            · (intro w hSw; (try dsimp only at hSw); first | (go_simp; done) | (go_simp; with_reducible rfl))
            try simp only [Act.put, List.setIfInBounds_toArray, List.set_cons_zero, List.set_cons_succ]
            refine tk (oi := { dst := some 57, op := Op.move (Operand.tmp 0), type := 26, pos := "law.go:70", after := #[], guard := none }) (v := ?_) 5 rfl ?_ ?_
            rotate_left
            · (intro w hSw; (try dsimp only at hSw); first | (go_simp; done) | (go_simp; with_reducible rfl))
            try simp only [Act.put, List.setIfInBounds_toArray, List.set_cons_zero, List.set_cons_succ]
            refine tk (oi := { dst := some 58, op := Op.move (Operand.tmp 4), type := 3, pos := "law.go:70", after := #[], guard := none }) (v := ?_) 6 rfl ?_ ?_
            rotate_left
            · (intro w hSw; (try dsimp only at hSw); first | (go_simp; done) | (go_simp; with_reducible rfl))
            try simp only [Act.put, List.setIfInBounds_toArray, List.set_cons_zero, List.set_cons_succ]
            refine tk (oi := { dst := some 59, op := Op.indexAddr 26 (Operand.tmp 57) (Operand.tmp 58), type := 0, pos := "law.go:70", after := #[{ on := 5, ground := Ground.data }, { on := 6, ground := Ground.data }], guard := none }) (v := ?_) 7 rfl ?_ ?_
            rotate_left
            · (intro w hSw; (try dsimp only at hSw); first | (go_simp; done) | (go_simp; with_reducible rfl))
            try simp only [Act.put, List.setIfInBounds_toArray, List.set_cons_zero, List.set_cons_succ]
            refine tk (oi := { dst := some 60, op := Op.load 23 (Operand.tmp 59), type := 23, pos := "law.go:70", after := #[{ on := 7, ground := Ground.data }], guard := none }) (v := ?_) 8 rfl ?_ ?_
            rotate_left
            · (intro w hSw; (try dsimp only at hSw); first | (go_simp; done) | (go_simp; with_reducible rfl))
            try simp only [Act.put, List.setIfInBounds_toArray, List.set_cons_zero, List.set_cons_succ]
            refine tk (oi := { dst := some 63, op := Op.move (Operand.tmp 3), type := 26, pos := "law.go:70", after := #[], guard := none }) (v := ?_) 11 rfl ?_ ?_
            rotate_left
            · (intro w hSw; (try dsimp only at hSw); first | (go_simp; done) | (go_simp; with_reducible rfl))
            try simp only [Act.put, List.setIfInBounds_toArray, List.set_cons_zero, List.set_cons_succ]
            refine tk (oi := { dst := some 64, op := Op.move (Operand.tmp 6), type := 3, pos := "law.go:70", after := #[], guard := none }) (v := ?_) 12 rfl ?_ ?_
            rotate_left
            · (intro w hSw; (try dsimp only at hSw); first | (go_simp; done) | (go_simp; with_reducible rfl))
            try simp only [Act.put, List.setIfInBounds_toArray, List.set_cons_zero, List.set_cons_succ]
            refine tk (oi := { dst := some 65, op := Op.slice 26 (Operand.tmp 63) (some (Operand.tmp 64)) none none, type := 26, pos := "law.go:70", after := #[{ on := 11, ground := Ground.data }, { on := 12, ground := Ground.data }], guard := none }) (v := ?_) 13 rfl ?_ ?_
            rotate_left
            · (intro w hSw; (try dsimp only at hSw); first | (go_simp; done) | (go_simp; with_reducible rfl))
            try simp only [Act.put, List.setIfInBounds_toArray, List.set_cons_zero, List.set_cons_succ]
            refine wpAnyH_ready (rs := [0, 9]) (by kernel_rfl) (by simp) ?_
            refine (AllReadyH.cons (o := { dst := some 52, op := Op.buildSlice 26 0 #[], type := 26, pos := "law.go:70", after := #[], guard := none }) rfl (fun K hK => ?_) (AllReadyH.cons (o := { dst := some 61, op := Op.buildSlice 26 1 #[(0, Operand.tmp 60)], type := 26, pos := "law.go:70", after := #[{ on := 8, ground := Ground.data }], guard := none }) rfl (fun K hK => ?_) AllReadyH.nil))
            · go_simp
              have hbq : Bel zb (zb.alloc (.cells #[] 23)).drew := ((Bel.refl zb).alloc _).drew
              refine hK.out _ _ (cells4 (HBR.out.trans hbq) HEC.out) (fun hHeld => ?_)
              clear hbq
              clear hK K
              try simp only [Act.put, List.setIfInBounds_toArray, List.set_cons_zero, List.set_cons_succ]
              obtain ⟨z1, hz1⟩ : ∃ x, x = (zb.alloc (.cells #[] 23)).drew := ⟨_, rfl⟩
              have HLE := Lib.hid (show z1.heap[zb.heap.size]? = some (.cells #[] 23 (0, 0)) by rw [hz1]; exact heap_alloc_new zb (.cells #[] 23))
              have hltE : zb.heap.size < z1.heap.size := (Array.getElem?_eq_some_iff.1 HLE.out).1
              have hbz1 : Bel zb z1 := by rw [hz1]; exact ((Bel.refl zb).alloc _).drew
              have HBz1 := Lib.hid (HBR.out.trans hbz1)
              rw [← hz1]
              clear hz1
              have HOE := Lib.hid (ownG_empty (E := entEl) (n := zb.heap.size) HLE.out HBR.out.size)
              refine wpAnyH_ready (rs := [4, 9]) (by kernel_rfl) (by simp) ?_
              refine (AllReadyH.cons (o := { dst := some 56, op := Op.call { callee := Callee.builtin Builtin.append, args := #[Operand.tmp 52, Operand.tmp 55], argTypes := #[26, 26] }, type := 26, pos := "law.go:70", after := #[{ on := 0, ground := Ground.data }, { on := 3, ground := Ground.data }], guard := none }) rfl (fun K hK => ?_) (AllReadyH.cons (o := { dst := some 61, op := Op.buildSlice 26 1 #[(0, Operand.tmp 60)], type := 26, pos := "law.go:70", after := #[{ on := 8, ground := Ground.data }], guard := none }) rfl (fun K hK => ?_) AllReadyH.nil))
              · refine step_append_all entOk rfl (.tmp 52) (.tmp 55) rfl rfl HOE.out (C.take k) rfl (HS1.out z1 HBz1.out) (by simp only [List.length_nil, List.length_take]; unfold maxLen; omega) (by simp only [List.length_nil, List.length_take]; omega) HBz1.out.size ?_
                intro vz2 z2 hoz2 hkz2 _
                have HBz2 := Lib.hid (show Bel zb z2 from HBz1.out.trans_below (hkz2.own HBz1.out.size (fun kk hkk => (HOE.out.lt kk hkk).1)))
                rw [List.nil_append] at hoz2
                have hkkz2 : Keep (Value.ownBlock (.slice (some ⟨zb.heap.size, 0, none⟩) 0 0)).toList z1 z2 := hkz2
                have HO2 := Lib.hid hoz2
                clear hoz2 hkz2 hkkz2
                refine hK.out _ _ (cells4 HBz2.out HEC.out) (fun hHeld => ?_)
                clear hK K
                try simp only [Act.put, List.setIfInBounds_toArray, List.set_cons_zero, List.set_cons_succ]
                refine wpAnyH_ready (rs := [9]) (by kernel_rfl) (by simp) ?_
                refine AllReadyH.cons (o := { dst := some 61, op := Op.buildSlice 26 1 #[(0, Operand.tmp 60)], type := 26, pos := "law.go:70", after := #[{ on := 8, ground := Ground.data }], guard := none }) rfl (fun K hK => ?_) AllReadyH.nil
                go_simp
                have hbq : Bel z2 (z2.alloc (.cells #[.string e0.k, .int .i64 e0.q, .bool e0.d, .string e0.v] 23)) := ((Bel.refl z2).alloc _)
                refine hK.out _ _ (cells4 (HBz2.out.trans hbq) HEC.out) (fun hHeld => ?_)
                clear hbq
                clear hK K
                try simp only [Act.put, List.setIfInBounds_toArray, List.set_cons_zero, List.set_cons_succ]
                obtain ⟨z3, hz3⟩ : ∃ x, x = (z2.alloc (.cells #[.string e0.k, .int .i64 e0.q, .bool e0.d, .string e0.v] 23)) := ⟨_, rfl⟩
                have HLL := Lib.hid (show z3.heap[z2.heap.size]? = some (.cells #[.string e0.k, .int .i64 e0.q, .bool e0.d, .string e0.v] 23 (0, 0)) by rw [hz3]; exact heap_alloc_new z2 (.cells #[.string e0.k, .int .i64 e0.q, .bool e0.d, .string e0.v] 23))
                have hltL : z2.heap.size < z3.heap.size := (Array.getElem?_eq_some_iff.1 HLL.out).1
                have hbz3 : Bel z2 z3 := by rw [hz3]; exact ((Bel.refl z2).alloc _)
                have HBz3 := Lib.hid (HBz2.out.trans hbz3)
                rw [← hz3]
                clear hz3
                have HO2b := Lib.hid (HO2.out.bel hbz3)
                refine wpAnyH_ready (rs := [10]) (by kernel_rfl) (by simp) ?_
                refine AllReadyH.cons (o := { dst := some 62, op := Op.call { callee := Callee.builtin Builtin.append, args := #[Operand.tmp 56, Operand.tmp 61], argTypes := #[26, 26] }, type := 26, pos := "law.go:70", after := #[{ on := 4, ground := Ground.data }, { on := 9, ground := Ground.data }, { on := 4, ground := Ground.chain }], guard := none }) rfl (fun K hK => ?_) AllReadyH.nil
                refine step_append_all entOk rfl (.tmp 56) (.tmp 61) rfl rfl HO2b.out [e0] rfl (src_at [e0] HLL.out rfl rfl) (by simp only [List.length_take, List.length_singleton]; unfold maxLen; omega) (by simp only [List.length_take, List.length_singleton]; omega) HBz3.out.size ?_
                intro vz4 z4 hoz4 hkz4 _
                have HBz4 := Lib.hid (show Bel zb z4 from HBz3.out.trans_below (hkz4.own HBz3.out.size (fun kk hkk => (HO2b.out.lt kk hkk).1)))
                have HO3 := Lib.hid hoz4
                clear hoz4 hkz4
                refine hK.out _ _ (cells4 HBz4.out HEC.out) (fun hHeld => ?_)
                clear hK K
                try simp only [Act.put, List.setIfInBounds_toArray, List.set_cons_zero, List.set_cons_succ]
                refine wpAnyH_ready (rs := [14]) (by kernel_rfl) (by simp) ?_
                refine AllReadyH.cons (o := { dst := some 66, op := Op.call { callee := Callee.builtin Builtin.append, args := #[Operand.tmp 62, Operand.tmp 65], argTypes := #[26, 26] }, type := 26, pos := "law.go:70", after := #[{ on := 10, ground := Ground.data }, { on := 13, ground := Ground.data }, { on := 10, ground := Ground.chain }], guard := none }) rfl (fun K hK => ?_) AllReadyH.nil
                refine step_append_all entOk rfl (.tmp 62) (.tmp 65) rfl rfl HO3.out (C.drop k) rfl (HS2.out z4 HBz4.out) (by simp only [List.length_append, List.length_take, List.length_singleton, List.length_drop]; unfold maxLen; omega) (by simp only [List.length_append, List.length_take, List.length_singleton, List.length_drop]; omega) HBz4.out.size ?_
                intro vz5 z5 hoz5 hkz5 _
                have HBz5 := Lib.hid (show Bel zb z5 from HBz4.out.trans_below (hkz5.own HBz4.out.size (fun kk hkk => (HO3.out.lt kk hkk).1)))
                have HO4 := Lib.hid hoz5
                clear hoz5 hkz5
                refine hK.out _ _ (cells4 HBz5.out HEC.out) (fun hHeld => ?_)
                clear hK K
                try simp only [Act.put, List.setIfInBounds_toArray, List.set_cons_zero, List.set_cons_succ]
                refine tk (oi := { dst := some 3, op := Op.assign (Operand.tmp 66), type := 26, pos := "law.go:70", after := #[{ on := 14, ground := Ground.data }, { on := 14, ground := Ground.chain }, { on := 0, ground := Ground.phase }, { on := 1, ground := Ground.phase }, { on := 2, ground := Ground.phase }, { on := 3, ground := Ground.phase }, { on := 4, ground := Ground.phase }, { on := 5, ground := Ground.phase }, { on := 6, ground := Ground.phase }, { on := 7, ground := Ground.phase }, { on := 8, ground := Ground.phase }, { on := 9, ground := Ground.phase }, { on := 10, ground := Ground.phase }, { on := 11, ground := Ground.phase }, { on := 12, ground := Ground.phase }, { on := 13, ground := Ground.phase }, { on := 14, ground := Ground.phase }], guard := none }) (v := ?_) 15 rfl ?_ ?_
                rotate_left
                · (intro w hSw; (try dsimp only at hSw); first | (go_simp; done) | (go_simp; with_reducible rfl))
                try simp only [Act.put, List.setIfInBounds_toArray, List.set_cons_zero, List.set_cons_succ]
                refine wpAnyH_done (by kernel_rfl) ?_ _
                have HFIN := Lib.hid (show C.take k ++ [e0] ++ C.drop k = insE e0 C by rw [HADD.out]; simp)
                have HOF := Lib.hid (show OwnG entEl w.heap.size z5 vz5 (insE e0 C) by rw [← HFIN.out]; exact HO4.out.low HBW.out.size)
                obtain ⟨pf, cf, hvf⟩ := ownG_len HOF.out
                rw [hvf] at HOF ⊢
                clear hvf
                generalize (insE e0 C).length = nf at *
                clear hHeld
                go_wp2_with (fail)
                go_roundw
                case rel => exact ⟨i + 1, hlt, by go_num, by rw [HN.out, HST.out]; exact HOF.out, HBW.out.trans HBz5.out⟩
                case measure => simp [intOf]; omega
              · go_simp
                have hbq : Bel z1 (z1.alloc (.cells #[.string e0.k, .int .i64 e0.q, .bool e0.d, .string e0.v] 23)) := ((Bel.refl z1).alloc _)
                refine hK.out _ _ (cells4 (HBz1.out.trans hbq) HEC.out) (fun hHeld => ?_)
                clear hbq
                clear hK K
                try simp only [Act.put, List.setIfInBounds_toArray, List.set_cons_zero, List.set_cons_succ]
                obtain ⟨z2, hz2⟩ : ∃ x, x = (z1.alloc (.cells #[.string e0.k, .int .i64 e0.q, .bool e0.d, .string e0.v] 23)) := ⟨_, rfl⟩
                have HLL := Lib.hid (show z2.heap[z1.heap.size]? = some (.cells #[.string e0.k, .int .i64 e0.q, .bool e0.d, .string e0.v] 23 (0, 0)) by rw [hz2]; exact heap_alloc_new z1 (.cells #[.string e0.k, .int .i64 e0.q, .bool e0.d, .string e0.v] 23))
                have hltL : z1.heap.size < z2.heap.size := (Array.getElem?_eq_some_iff.1 HLL.out).1
                have hbz2 : Bel z1 z2 := by rw [hz2]; exact ((Bel.refl z1).alloc _)
                have HBz2 := Lib.hid (HBz1.out.trans hbz2)
                rw [← hz2]
                clear hz2
                have HOE2 := Lib.hid (HOE.out.bel hbz2)
                refine wpAnyH_ready (rs := [4]) (by kernel_rfl) (by simp) ?_
                refine AllReadyH.cons (o := { dst := some 56, op := Op.call { callee := Callee.builtin Builtin.append, args := #[Operand.tmp 52, Operand.tmp 55], argTypes := #[26, 26] }, type := 26, pos := "law.go:70", after := #[{ on := 0, ground := Ground.data }, { on := 3, ground := Ground.data }], guard := none }) rfl (fun K hK => ?_) AllReadyH.nil
                refine step_append_all entOk rfl (.tmp 52) (.tmp 55) rfl rfl HOE2.out (C.take k) rfl (HS1.out z2 HBz2.out) (by simp only [List.length_nil, List.length_take]; unfold maxLen; omega) (by simp only [List.length_nil, List.length_take]; omega) HBz2.out.size ?_
                intro vz3 z3 hoz3 hkz3 _
                have HBz3 := Lib.hid (show Bel zb z3 from HBz2.out.trans_below (hkz3.own HBz2.out.size (fun kk hkk => (HOE2.out.lt kk hkk).1)))
                rw [List.nil_append] at hoz3
                have hkkz3 : Keep (Value.ownBlock (.slice (some ⟨zb.heap.size, 0, none⟩) 0 0)).toList z2 z3 := hkz3
                have HLL3 := Lib.hid (hkkz3.at HLL.out (fun hm => by rw [Option.mem_toList] at hm; simp only [Value.ownBlock, Option.some.injEq] at hm; omega))
                have HO2 := Lib.hid hoz3
                clear hoz3 hkz3 hkkz3
                refine hK.out _ _ (cells4 HBz3.out HEC.out) (fun hHeld => ?_)
                clear hK K
                try simp only [Act.put, List.setIfInBounds_toArray, List.set_cons_zero, List.set_cons_succ]
                refine wpAnyH_ready (rs := [10]) (by kernel_rfl) (by simp) ?_
                refine AllReadyH.cons (o := { dst := some 62, op := Op.call { callee := Callee.builtin Builtin.append, args := #[Operand.tmp 56, Operand.tmp 61], argTypes := #[26, 26] }, type := 26, pos := "law.go:70", after := #[{ on := 4, ground := Ground.data }, { on := 9, ground := Ground.data }, { on := 4, ground := Ground.chain }], guard := none }) rfl (fun K hK => ?_) AllReadyH.nil
                refine step_append_all entOk rfl (.tmp 56) (.tmp 61) rfl rfl HO2.out [e0] rfl (src_at [e0] HLL3.out rfl rfl) (by simp only [List.length_take, List.length_singleton]; unfold maxLen; omega) (by simp only [List.length_take, List.length_singleton]; omega) HBz3.out.size ?_
                intro vz4 z4 hoz4 hkz4 _
                have HBz4 := Lib.hid (show Bel zb z4 from HBz3.out.trans_below (hkz4.own HBz3.out.size (fun kk hkk => (HO2.out.lt kk hkk).1)))
                have HO3 := Lib.hid hoz4
                clear hoz4 hkz4
                refine hK.out _ _ (cells4 HBz4.out HEC.out) (fun hHeld => ?_)
                clear hK K
                try simp only [Act.put, List.setIfInBounds_toArray, List.set_cons_zero, List.set_cons_succ]
                refine wpAnyH_ready (rs := [14]) (by kernel_rfl) (by simp) ?_
                refine AllReadyH.cons (o := { dst := some 66, op := Op.call { callee := Callee.builtin Builtin.append, args := #[Operand.tmp 62, Operand.tmp 65], argTypes := #[26, 26] }, type := 26, pos := "law.go:70", after := #[{ on := 10, ground := Ground.data }, { on := 13, ground := Ground.data }, { on := 10, ground := Ground.chain }], guard := none }) rfl (fun K hK => ?_) AllReadyH.nil
                refine step_append_all entOk rfl (.tmp 62) (.tmp 65) rfl rfl HO3.out (C.drop k) rfl (HS2.out z4 HBz4.out) (by simp only [List.length_append, List.length_take, List.length_singleton, List.length_drop]; unfold maxLen; omega) (by simp only [List.length_append, List.length_take, List.length_singleton, List.length_drop]; omega) HBz4.out.size ?_
                intro vz5 z5 hoz5 hkz5 _
                have HBz5 := Lib.hid (show Bel zb z5 from HBz4.out.trans_below (hkz5.own HBz4.out.size (fun kk hkk => (HO3.out.lt kk hkk).1)))
                have HO4 := Lib.hid hoz5
                clear hoz5 hkz5
                refine hK.out _ _ (cells4 HBz5.out HEC.out) (fun hHeld => ?_)
                clear hK K
                try simp only [Act.put, List.setIfInBounds_toArray, List.set_cons_zero, List.set_cons_succ]
                refine tk (oi := { dst := some 3, op := Op.assign (Operand.tmp 66), type := 26, pos := "law.go:70", after := #[{ on := 14, ground := Ground.data }, { on := 14, ground := Ground.chain }, { on := 0, ground := Ground.phase }, { on := 1, ground := Ground.phase }, { on := 2, ground := Ground.phase }, { on := 3, ground := Ground.phase }, { on := 4, ground := Ground.phase }, { on := 5, ground := Ground.phase }, { on := 6, ground := Ground.phase }, { on := 7, ground := Ground.phase }, { on := 8, ground := Ground.phase }, { on := 9, ground := Ground.phase }, { on := 10, ground := Ground.phase }, { on := 11, ground := Ground.phase }, { on := 12, ground := Ground.phase }, { on := 13, ground := Ground.phase }, { on := 14, ground := Ground.phase }], guard := none }) (v := ?_) 15 rfl ?_ ?_
                rotate_left
                · (intro w hSw; (try dsimp only at hSw); first | (go_simp; done) | (go_simp; with_reducible rfl))
                try simp only [Act.put, List.setIfInBounds_toArray, List.set_cons_zero, List.set_cons_succ]
                refine wpAnyH_done (by kernel_rfl) ?_ _
                have HFIN := Lib.hid (show C.take k ++ [e0] ++ C.drop k = insE e0 C by rw [HADD.out]; simp)
                have HOF := Lib.hid (show OwnG entEl w.heap.size z5 vz5 (insE e0 C) by rw [← HFIN.out]; exact HO4.out.low HBW.out.size)
                obtain ⟨pf, cf, hvf⟩ := ownG_len HOF.out
                rw [hvf] at HOF ⊢
                clear hvf
                generalize (insE e0 C).length = nf at *
                clear hHeld
                go_wp2_with (fail)
                go_roundw
                case rel => exact ⟨i + 1, hlt, by go_num, by rw [HN.out, HST.out]; exact HOF.out, HBW.out.trans HBz5.out⟩
                case measure => simp [intOf]; omega
            · go_simp
              have hbq : Bel zb (zb.alloc (.cells #[.string e0.k, .int .i64 e0.q, .bool e0.d, .string e0.v] 23)).drew := ((Bel.refl zb).alloc _).drew
              refine hK.out _ _ (cells4 (HBR.out.trans hbq) HEC.out) (fun hHeld => ?_)
              clear hbq
              clear hK K
              try simp only [Act.put, List.setIfInBounds_toArray, List.set_cons_zero, List.set_cons_succ]
              obtain ⟨z1, hz1⟩ : ∃ x, x = (zb.alloc (.cells #[.string e0.k, .int .i64 e0.q, .bool e0.d, .string e0.v] 23)).drew := ⟨_, rfl⟩
              have HLL := Lib.hid (show z1.heap[zb.heap.size]? = some (.cells #[.string e0.k, .int .i64 e0.q, .bool e0.d, .string e0.v] 23 (0, 0)) by rw [hz1]; exact heap_alloc_new zb (.cells #[.string e0.k, .int .i64 e0.q, .bool e0.d, .string e0.v] 23))
              have hltL : zb.heap.size < z1.heap.size := (Array.getElem?_eq_some_iff.1 HLL.out).1
              have hbz1 : Bel zb z1 := by rw [hz1]; exact ((Bel.refl zb).alloc _).drew
              have HBz1 := Lib.hid (HBR.out.trans hbz1)
              rw [← hz1]
              clear hz1
              refine wpAnyH_ready (rs := [0]) (by kernel_rfl) (by simp) ?_
              refine AllReadyH.cons (o := { dst := some 52, op := Op.buildSlice 26 0 #[], type := 26, pos := "law.go:70", after := #[], guard := none }) rfl (fun K hK => ?_) AllReadyH.nil
              go_simp
              have hbq : Bel z1 (z1.alloc (.cells #[] 23)) := ((Bel.refl z1).alloc _)
              refine hK.out _ _ (cells4 (HBz1.out.trans hbq) HEC.out) (fun hHeld => ?_)
              clear hbq
              clear hK K
              try simp only [Act.put, List.setIfInBounds_toArray, List.set_cons_zero, List.set_cons_succ]
              obtain ⟨z2, hz2⟩ : ∃ x, x = (z1.alloc (.cells #[] 23)) := ⟨_, rfl⟩
              have HLE := Lib.hid (show z2.heap[z1.heap.size]? = some (.cells #[] 23 (0, 0)) by rw [hz2]; exact heap_alloc_new z1 (.cells #[] 23))
              have hltE : z1.heap.size < z2.heap.size := (Array.getElem?_eq_some_iff.1 HLE.out).1
              have hbz2 : Bel z1 z2 := by rw [hz2]; exact ((Bel.refl z1).alloc _)
              have HBz2 := Lib.hid (HBz1.out.trans hbz2)
              rw [← hz2]
              clear hz2
              have HOE := Lib.hid (ownG_empty (E := entEl) (n := zb.heap.size) HLE.out HBz1.out.size)
              have HLL2 := Lib.hid ((Below.block hbz2 zb.heap.size (by omega)).trans HLL.out)
              refine wpAnyH_ready (rs := [4]) (by kernel_rfl) (by simp) ?_
              refine AllReadyH.cons (o := { dst := some 56, op := Op.call { callee := Callee.builtin Builtin.append, args := #[Operand.tmp 52, Operand.tmp 55], argTypes := #[26, 26] }, type := 26, pos := "law.go:70", after := #[{ on := 0, ground := Ground.data }, { on := 3, ground := Ground.data }], guard := none }) rfl (fun K hK => ?_) AllReadyH.nil
              refine step_append_all entOk rfl (.tmp 52) (.tmp 55) rfl rfl HOE.out (C.take k) rfl (HS1.out z2 HBz2.out) (by simp only [List.length_nil, List.length_take]; unfold maxLen; omega) (by simp only [List.length_nil, List.length_take]; omega) HBz2.out.size ?_
              intro vz3 z3 hoz3 hkz3 _
              have HBz3 := Lib.hid (show Bel zb z3 from HBz2.out.trans_below (hkz3.own HBz2.out.size (fun kk hkk => (HOE.out.lt kk hkk).1)))
              rw [List.nil_append] at hoz3
              have hkkz3 : Keep (Value.ownBlock (.slice (some ⟨z1.heap.size, 0, none⟩) 0 0)).toList z2 z3 := hkz3
              have HLL3 := Lib.hid (hkkz3.at HLL2.out (fun hm => by rw [Option.mem_toList] at hm; simp only [Value.ownBlock, Option.some.injEq] at hm; omega))
              have HO2 := Lib.hid hoz3
              clear hoz3 hkz3 hkkz3
              refine hK.out _ _ (cells4 HBz3.out HEC.out) (fun hHeld => ?_)
              clear hK K
              try simp only [Act.put, List.setIfInBounds_toArray, List.set_cons_zero, List.set_cons_succ]
              refine wpAnyH_ready (rs := [10]) (by kernel_rfl) (by simp) ?_
              refine AllReadyH.cons (o := { dst := some 62, op := Op.call { callee := Callee.builtin Builtin.append, args := #[Operand.tmp 56, Operand.tmp 61], argTypes := #[26, 26] }, type := 26, pos := "law.go:70", after := #[{ on := 4, ground := Ground.data }, { on := 9, ground := Ground.data }, { on := 4, ground := Ground.chain }], guard := none }) rfl (fun K hK => ?_) AllReadyH.nil
              refine step_append_all entOk rfl (.tmp 56) (.tmp 61) rfl rfl HO2.out [e0] rfl (src_at [e0] HLL3.out rfl rfl) (by simp only [List.length_take, List.length_singleton]; unfold maxLen; omega) (by simp only [List.length_take, List.length_singleton]; omega) HBz3.out.size ?_
              intro vz4 z4 hoz4 hkz4 _
              have HBz4 := Lib.hid (show Bel zb z4 from HBz3.out.trans_below (hkz4.own HBz3.out.size (fun kk hkk => (HO2.out.lt kk hkk).1)))
              have HO3 := Lib.hid hoz4
              clear hoz4 hkz4
              refine hK.out _ _ (cells4 HBz4.out HEC.out) (fun hHeld => ?_)
              clear hK K
              try simp only [Act.put, List.setIfInBounds_toArray, List.set_cons_zero, List.set_cons_succ]
              refine wpAnyH_ready (rs := [14]) (by kernel_rfl) (by simp) ?_
              refine AllReadyH.cons (o := { dst := some 66, op := Op.call { callee := Callee.builtin Builtin.append, args := #[Operand.tmp 62, Operand.tmp 65], argTypes := #[26, 26] }, type := 26, pos := "law.go:70", after := #[{ on := 10, ground := Ground.data }, { on := 13, ground := Ground.data }, { on := 10, ground := Ground.chain }], guard := none }) rfl (fun K hK => ?_) AllReadyH.nil
              refine step_append_all entOk rfl (.tmp 62) (.tmp 65) rfl rfl HO3.out (C.drop k) rfl (HS2.out z4 HBz4.out) (by simp only [List.length_append, List.length_take, List.length_singleton, List.length_drop]; unfold maxLen; omega) (by simp only [List.length_append, List.length_take, List.length_singleton, List.length_drop]; omega) HBz4.out.size ?_
              intro vz5 z5 hoz5 hkz5 _
              have HBz5 := Lib.hid (show Bel zb z5 from HBz4.out.trans_below (hkz5.own HBz4.out.size (fun kk hkk => (HO3.out.lt kk hkk).1)))
              have HO4 := Lib.hid hoz5
              clear hoz5 hkz5
              refine hK.out _ _ (cells4 HBz5.out HEC.out) (fun hHeld => ?_)
              clear hK K
              try simp only [Act.put, List.setIfInBounds_toArray, List.set_cons_zero, List.set_cons_succ]
              refine tk (oi := { dst := some 3, op := Op.assign (Operand.tmp 66), type := 26, pos := "law.go:70", after := #[{ on := 14, ground := Ground.data }, { on := 14, ground := Ground.chain }, { on := 0, ground := Ground.phase }, { on := 1, ground := Ground.phase }, { on := 2, ground := Ground.phase }, { on := 3, ground := Ground.phase }, { on := 4, ground := Ground.phase }, { on := 5, ground := Ground.phase }, { on := 6, ground := Ground.phase }, { on := 7, ground := Ground.phase }, { on := 8, ground := Ground.phase }, { on := 9, ground := Ground.phase }, { on := 10, ground := Ground.phase }, { on := 11, ground := Ground.phase }, { on := 12, ground := Ground.phase }, { on := 13, ground := Ground.phase }, { on := 14, ground := Ground.phase }], guard := none }) (v := ?_) 15 rfl ?_ ?_
              rotate_left
              · (intro w hSw; (try dsimp only at hSw); first | (go_simp; done) | (go_simp; with_reducible rfl))
              try simp only [Act.put, List.setIfInBounds_toArray, List.set_cons_zero, List.set_cons_succ]
              refine wpAnyH_done (by kernel_rfl) ?_ _
              have HFIN := Lib.hid (show C.take k ++ [e0] ++ C.drop k = insE e0 C by rw [HADD.out]; simp)
              have HOF := Lib.hid (show OwnG entEl w.heap.size z5 vz5 (insE e0 C) by rw [← HFIN.out]; exact HO4.out.low HBW.out.size)
              obtain ⟨pf, cf, hvf⟩ := ownG_len HOF.out
              rw [hvf] at HOF ⊢
              clear hvf
              generalize (insE e0 C).length = nf at *
              clear hHeld
              go_wp2_with (fail)
              go_roundw
              case rel => exact ⟨i + 1, hlt, by go_num, by rw [HN.out, HST.out]; exact HOF.out, HBW.out.trans HBz5.out⟩
              case measure => simp [intOf]; omega
        · simp only [Value.slice.injEq, true_and] at hv
          obtain ⟨rfl, rfl⟩ := hv
          have HCELLS := Lib.hid hcells
          clear hcells
          go_wp2_with (fail)
          go_loopw [6] (fun kv x => (∃ k : Nat, k ≤ C.length ∧ kv = .int .i64 k ∧ ∀ j (h : j < C.length), j < k → lessB C[j] e0 = true) ∧ Bel w1 x) (fun kv _ => C.length - (intOf kv).toNat)
          case atStart => exact ⟨⟨0, Nat.zero_le _, rfl, fun j _ h => by omega⟩, Bel.refl w1⟩
          case round =>
            obtain ⟨⟨k, hk, rfl, hall⟩, hw⟩ := hrel
            have hka := add4 g k
            have hkw : IntKind.i64.wrap (k : Int) = k := by rw [IntKind.wrap_i64]; omega
            by_cases hkl : k < C.length
            · obtain ⟨ck, hck, x0, x1, x2, x3⟩ := HCELLS.out k hkl
              have y0 := cl11 hw x0
              have y1 := cl11 hw x1
              have y2 := cl11 hw x2
              have y3 := cl11 hw x3
              have hfk : ck.fits := by rw [hck]; exact fits_at HCF.out hkl
              have hkli : (k : Int) < (C.length : Int) := by omega
              have HAN := Lib.hid (show lessB ck e0 = true → ∀ j (h : j < C.length), j < k + 1 → lessB C[j] e0 = true from fun hh j h hj => by
                by_cases e : j = k
                · subst e; rw [← hck]; exact hh
                · exact hall j h (by omega))
              have HAT := Lib.hid (show lessB ck e0 = false → insE e0 C = if lessB e0 ck = true then C.take k ++ e0 :: C.drop k else C from fun h2 => by
                have h3 : ∀ h : k < C.length, lessB C[k] e0 = false := fun _ => by rw [← hck]; exact h2
                rw [ins_at e0 C k hk hall h3]
                by_cases hh : lessB e0 ck = true
                · rw [if_pos hh, if_pos (Or.inr ⟨hkl, by rw [← hck]; exact hh⟩)]
                · rw [if_neg hh, if_neg]
                  rintro (h | ⟨_, h⟩)
                  · omega
                  · rw [← hck] at h; exact hh h)
              have HFK := Lib.hid hfk
              have HBW1 := Lib.hid (HB1.out.trans hw)
              have HWW := Lib.hid hw
              have d0 := cl11 HBW1.out HC0.out.1
              have d1 := cl11 HBW1.out HC0.out.2.1
              have d2 := cl11 HBW1.out HC0.out.2.2.1
              have d3 := cl11 HBW1.out HC0.out.2.2.2
              have HKL := Lib.hid hkl
              clear hw x0 x1 x2 x3 hck hfk hall hkl
              go_wp2_with (fail)
              refine wp_region_held_drew (S := fun z => (z.cell? ⟨B, O, sp⟩ = some (.string e0.k) ∧ z.cell? ⟨B, O + 1, none⟩ = some (.int .i64 e0.q) ∧ z.cell? ⟨B, O + 2, none⟩ = some (.bool e0.d) ∧ z.cell? ⟨B, O + 3, none⟩ = some (.string e0.v)) ∧ z.cell? ⟨g, k * 4, none⟩ = some (.string ck.k) ∧ z.cell? ⟨g, k * 4 + 1, none⟩ = some (.int .i64 ck.q) ∧ z.cell? ⟨g, k * 4 + 2, none⟩ = some (.bool ck.d) ∧ z.cell? ⟨g, k * 4 + 3, none⟩ = some (.string ck.v)) (by kernel_rfl) ⟨⟨d0, d1, d2, d3⟩, y0, y1, y2, y3⟩ (fun hHeld => ?_)
              refine tk (oi := { dst := some 20, op := Op.move (Operand.tmp 6), type := 3, pos := "law.go:66", after := #[], guard := none }) (v := ?_) 0 rfl ?_ ?_
              rotate_left
              · (intro w hSw; (try dsimp only at hSw); first | (go_simp; done) | (go_simp; with_reducible rfl))
              try simp only [Act.put, List.setIfInBounds_toArray, List.set_cons_zero, List.set_cons_succ]
              refine tk (oi := { dst := some 21, op := Op.move (Operand.tmp 3), type := 26, pos := "law.go:66", after := #[], guard := none }) (v := ?_) 1 rfl ?_ ?_
              rotate_left
              · (intro w hSw; (try dsimp only at hSw); first | (go_simp; done) | (go_simp; with_reducible rfl))
              try simp only [Act.put, List.setIfInBounds_toArray, List.set_cons_zero, List.set_cons_succ]
              refine tk (oi := { dst := some 22, op := Op.call { callee := Callee.builtin Builtin.len, args := #[Operand.tmp 21], argTypes := #[26] }, type := 3, pos := "law.go:66", after := #[{ on := 1, ground := Ground.data }], guard := none }) (v := ?_) 2 rfl ?_ ?_
              rotate_left
              · (intro w hSw; (try dsimp only at hSw); first | (go_simp; done) | (go_simp; with_reducible rfl))
              try simp only [Act.put, List.setIfInBounds_toArray, List.set_cons_zero, List.set_cons_succ]
              refine tk (oi := { dst := some 23, op := Op.binOp BinOp.lss 3 (Operand.tmp 20) (Operand.tmp 22) 3, type := 4, pos := "law.go:66", after := #[{ on := 0, ground := Ground.data }, { on := 2, ground := Ground.data }], guard := none }) (v := ?_) 3 rfl ?_ ?_
              rotate_left
              · (intro w hSw; (try dsimp only at hSw); first | (go_simp; done) | (go_simp; with_reducible rfl))
              try simp only [Act.put, List.setIfInBounds_toArray, List.set_cons_zero, List.set_cons_succ]
              refine tk (oi := { dst := some 24, op := Op.move (Operand.tmp 23), type := 4, pos := "law.go:66", after := #[{ on := 3, ground := Ground.data }], guard := none }) (v := ?_) 4 rfl ?_ ?_
              rotate_left
              · (intro w hSw; (try dsimp only at hSw); first | (go_simp; done) | (go_simp; with_reducible rfl))
              try simp only [Act.put, List.setIfInBounds_toArray, List.set_cons_zero, List.set_cons_succ]
              refine tk (oi := { dst := some 25, op := Op.move (Operand.tmp 3), type := 26, pos := "law.go:66", after := #[{ on := 4, ground := Ground.guard }], guard := some (4, true) }) (v := ?_) 5 rfl ?_ ?_
              rotate_left
              · (intro w hSw; (try dsimp only at hSw); first | (go_simp; done) | (go_simp; with_reducible rfl))
              try simp only [Act.put, List.setIfInBounds_toArray, List.set_cons_zero, List.set_cons_succ]
              refine tk (oi := { dst := some 26, op := Op.move (Operand.tmp 6), type := 3, pos := "law.go:66", after := #[{ on := 4, ground := Ground.guard }], guard := some (4, true) }) (v := ?_) 6 rfl ?_ ?_
              rotate_left
              · (intro w hSw; (try dsimp only at hSw); first | (go_simp; done) | (go_simp; with_reducible rfl))
              try simp only [Act.put, List.setIfInBounds_toArray, List.set_cons_zero, List.set_cons_succ]
              refine tk (oi := { dst := some 27, op := Op.indexAddr 26 (Operand.tmp 25) (Operand.tmp 26), type := 0, pos := "law.go:66", after := #[{ on := 5, ground := Ground.data }, { on := 6, ground := Ground.data }, { on := 4, ground := Ground.guard }], guard := some (4, true) }) (v := ?_) 7 rfl ?_ ?_
              rotate_left
              · (intro w hSw; (try dsimp only at hSw); first | (go_simp; done) | (go_simp; with_reducible rfl))
              try simp only [Act.put, List.setIfInBounds_toArray, List.set_cons_zero, List.set_cons_succ]
              refine tk (oi := { dst := some 28, op := Op.load 23 (Operand.tmp 27), type := 23, pos := "law.go:66", after := #[{ on := 7, ground := Ground.data }, { on := 4, ground := Ground.guard }], guard := some (4, true) }) (v := ?_) 8 rfl ?_ ?_
              rotate_left
              · (intro w hSw; (try dsimp only at hSw); first | (go_simp; done) | (go_simp; with_reducible rfl))
              try simp only [Act.put, List.setIfInBounds_toArray, List.set_cons_zero, List.set_cons_succ]
              refine tk (oi := { dst := some 29, op := Op.move (Operand.tmp 0), type := 26, pos := "law.go:66", after := #[{ on := 4, ground := Ground.guard }], guard := some (4, true) }) (v := ?_) 9 rfl ?_ ?_
              rotate_left
              · (intro w hSw; (try dsimp only at hSw); first | (go_simp; done) | (go_simp; with_reducible rfl))
              try simp only [Act.put, List.setIfInBounds_toArray, List.set_cons_zero, List.set_cons_succ]
              refine tk (oi := { dst := some 30, op := Op.move (Operand.tmp 4), type := 3, pos := "law.go:66", after := #[{ on := 4, ground := Ground.guard }], guard := some (4, true) }) (v := ?_) 10 rfl ?_ ?_
              rotate_left
              · (intro w hSw; (try dsimp only at hSw); first | (go_simp; done) | (go_simp; with_reducible rfl))
              try simp only [Act.put, List.setIfInBounds_toArray, List.set_cons_zero, List.set_cons_succ]
              refine tk (oi := { dst := some 31, op := Op.indexAddr 26 (Operand.tmp 29) (Operand.tmp 30), type := 0, pos := "law.go:66", after := #[{ on := 9, ground := Ground.data }, { on := 10, ground := Ground.data }, { on := 4, ground := Ground.guard }], guard := some (4, true) }) (v := ?_) 11 rfl ?_ ?_
              rotate_left
              · (intro w hSw; (try dsimp only at hSw); first | (go_simp; done) | (go_simp; with_reducible rfl))
              try simp only [Act.put, List.setIfInBounds_toArray, List.set_cons_zero, List.set_cons_succ]
              refine tk (oi := { dst := some 32, op := Op.load 23 (Operand.tmp 31), type := 23, pos := "law.go:66", after := #[{ on := 11, ground := Ground.data }, { on := 4, ground := Ground.guard }], guard := some (4, true) }) (v := ?_) 12 rfl ?_ ?_
              rotate_left
              · (intro w hSw; (try dsimp only at hSw); first | (go_simp; done) | (go_simp; with_reducible rfl))
              try simp only [Act.put, List.setIfInBounds_toArray, List.set_cons_zero, List.set_cons_succ]
              refine wpAnyH_ready (rs := [13]) (by kernel_rfl) (by simp) ?_
              refine AllReadyH.cons (o := { dst := some 33, op := Op.call { callee := Callee.value (Operand.func 19), args := #[Operand.tmp 28, Operand.tmp 32], argTypes := #[23, 23] }, type := 4, pos := "law.go:66", after := #[{ on := 8, ground := Ground.data }, { on := 12, ground := Ground.data }, { on := 4, ground := Ground.chain }, { on := 4, ground := Ground.guard }], guard := some (4, true) }) rfl (fun K hK => ?_) AllReadyH.nil
              go_simp
              refine (rless_any ck e0 wr.drew HFK.out HFE.out).mono ?_
              rintro r x2 ⟨rfl, hb2⟩
              have HX2 := Lib.hid (HWW.out.drew.trans hb2)
              dsimp only
              refine hK.out _ _ ⟨⟨cl11 hb2 hHeld.1.1, cl11 hb2 hHeld.1.2.1, cl11 hb2 hHeld.1.2.2.1, cl11 hb2 hHeld.1.2.2.2⟩, cl11 hb2 hHeld.2.1, cl11 hb2 hHeld.2.2.1, cl11 hb2 hHeld.2.2.2.1, cl11 hb2 hHeld.2.2.2.2⟩ (fun hHeld => ?_)
              clear hK K hb2
              try simp only [Act.put, List.setIfInBounds_toArray, List.set_cons_zero, List.set_cons_succ]
              refine tk (oi := { dst := some 34, op := Op.pick (Operand.tmp 24) (Operand.tmp 33) (Operand.const (Value.bool false)), type := 4, pos := "law.go:66", after := #[{ on := 4, ground := Ground.data }, { on := 13, ground := Ground.data }], guard := none }) (v := ?_) 14 rfl ?_ ?_
              rotate_left
              · (intro w hSw; (try dsimp only at hSw); first | (go_simp; done) | (go_simp; with_reducible rfl))
              try simp only [Act.put, List.setIfInBounds_toArray, List.set_cons_zero, List.set_cons_succ]
              refine wpAnyH_done (by kernel_rfl) ?_ _
              obtain ⟨⟨g0, g1, g2, g3⟩, g4, g5, g6, g7⟩ := hHeld
              clear d0 d1 d2 d3 y0 y1 y2 y3
              cases hlb : lessB ck e0 with
              | true =>
                have HA2 := Lib.hid (HAN.out hlb)
                clear hlb
                go_wp2_with (fail)
                go_roundw
                case rel => exact ⟨⟨k + 1, HKL.out, by go_num, HA2.out⟩, HX2.out⟩
                case measure => have := HKL.out; simp [intOf]; omega
              | false =>
                have HAT2 := Lib.hid (HAT.out hlb)
                have hkne : ((k : Int) == (C.length : Int)) = false := by rw [beq_eq_false_iff_ne]; omega
                clear hlb
                go_wp2_with (fail)
                refine wp_region_held_drew (S := fun z => (z.cell? ⟨B, O, sp⟩ = some (.string e0.k) ∧ z.cell? ⟨B, O + 1, none⟩ = some (.int .i64 e0.q) ∧ z.cell? ⟨B, O + 2, none⟩ = some (.bool e0.d) ∧ z.cell? ⟨B, O + 3, none⟩ = some (.string e0.v)) ∧ z.cell? ⟨g, k * 4, none⟩ = some (.string ck.k) ∧ z.cell? ⟨g, k * 4 + 1, none⟩ = some (.int .i64 ck.q) ∧ z.cell? ⟨g, k * 4 + 2, none⟩ = some (.bool ck.d) ∧ z.cell? ⟨g, k * 4 + 3, none⟩ = some (.string ck.v)) (by kernel_rfl) ⟨⟨g0, g1, g2, g3⟩, g4, g5, g6, g7⟩ (fun hHeld => ?_)
                refine tk (oi := { dst := some 37, op := Op.move (Operand.tmp 6), type := 3, pos := "law.go:69", after := #[], guard := none }) (v := ?_) 0 rfl ?_ ?_
                rotate_left
                · (intro w hSw; (try dsimp only at hSw); first | (go_simp; done) | (go_simp; with_reducible rfl))
                try simp only [Act.put, List.setIfInBounds_toArray, List.set_cons_zero, List.set_cons_succ]
                refine tk (oi := { dst := some 38, op := Op.move (Operand.tmp 3), type := 26, pos := "law.go:69", after := #[], guard := none }) (v := ?_) 1 rfl ?_ ?_
                rotate_left
                · (intro w hSw; (try dsimp only at hSw); first | (go_simp; done) | (go_simp; with_reducible rfl))
                try simp only [Act.put, List.setIfInBounds_toArray, List.set_cons_zero, List.set_cons_succ]
                refine tk (oi := { dst := some 39, op := Op.call { callee := Callee.builtin Builtin.len, args := #[Operand.tmp 38], argTypes := #[26] }, type := 3, pos := "law.go:69", after := #[{ on := 1, ground := Ground.data }], guard := none }) (v := ?_) 2 rfl ?_ ?_
                rotate_left
                · (intro w hSw; (try dsimp only at hSw); first | (go_simp; done) | (go_simp; with_reducible rfl))
                try simp only [Act.put, List.setIfInBounds_toArray, List.set_cons_zero, List.set_cons_succ]
                refine tk (oi := { dst := some 40, op := Op.binOp BinOp.eql 3 (Operand.tmp 37) (Operand.tmp 39) 3, type := 4, pos := "law.go:69", after := #[{ on := 0, ground := Ground.data }, { on := 2, ground := Ground.data }], guard := none }) (v := ?_) 3 rfl ?_ ?_
                rotate_left
                · (intro w hSw; (try dsimp only at hSw); first | (go_simp; done) | (go_simp; with_reducible rfl))
                try simp only [Act.put, List.setIfInBounds_toArray, List.set_cons_zero, List.set_cons_succ]
                refine tk (oi := { dst := some 41, op := Op.move (Operand.tmp 40), type := 4, pos := "law.go:69", after := #[{ on := 3, ground := Ground.data }], guard := none }) (v := ?_) 4 rfl ?_ ?_
                rotate_left
                · (intro w hSw; (try dsimp only at hSw); first | (go_simp; done) | (go_simp; with_reducible rfl))
                try simp only [Act.put, List.setIfInBounds_toArray, List.set_cons_zero, List.set_cons_succ]
                refine tk (oi := { dst := some 42, op := Op.move (Operand.tmp 0), type := 26, pos := "law.go:69", after := #[{ on := 4, ground := Ground.guard }], guard := some (4, false) }) (v := ?_) 5 rfl ?_ ?_
                rotate_left
                · (intro w hSw; (try dsimp only at hSw); first | (go_simp; done) | (go_simp; with_reducible rfl))
                try simp only [Act.put, List.setIfInBounds_toArray, List.set_cons_zero, List.set_cons_succ]
                refine tk (oi := { dst := some 43, op := Op.move (Operand.tmp 4), type := 3, pos := "law.go:69", after := #[{ on := 4, ground := Ground.guard }], guard := some (4, false) }) (v := ?_) 6 rfl ?_ ?_
                rotate_left
                · (intro w hSw; (try dsimp only at hSw); first | (go_simp; done) | (go_simp; with_reducible rfl))
                try simp only [Act.put, List.setIfInBounds_toArray, List.set_cons_zero, List.set_cons_succ]
                refine tk (oi := { dst := some 44, op := Op.indexAddr 26 (Operand.tmp 42) (Operand.tmp 43), type := 0, pos := "law.go:69", after := #[{ on := 5, ground := Ground.data }, { on := 6, ground := Ground.data }, { on := 4, ground := Ground.guard }], guard := some (4, false) }) (v := ?_) 7 rfl ?_ ?_
                rotate_left
                · (intro w hSw; (try dsimp only at hSw); first | (go_simp; done) | (go_simp; with_reducible rfl))
                try simp only [Act.put, List.setIfInBounds_toArray, List.set_cons_zero, List.set_cons_succ]
                refine tk (oi := { dst := some 45, op := Op.load 23 (Operand.tmp 44), type := 23, pos := "law.go:69", after := #[{ on := 7, ground := Ground.data }, { on := 4, ground := Ground.guard }], guard := some (4, false) }) (v := ?_) 8 rfl ?_ ?_
                rotate_left
                · (intro w hSw; (try dsimp only at hSw); first | (go_simp; done) | (go_simp; with_reducible rfl))
                try simp only [Act.put, List.setIfInBounds_toArray, List.set_cons_zero, List.set_cons_succ]
                refine tk (oi := { dst := some 46, op := Op.move (Operand.tmp 3), type := 26, pos := "law.go:69", after := #[{ on := 4, ground := Ground.guard }], guard := some (4, false) }) (v := ?_) 9 rfl ?_ ?_
                rotate_left
                · (intro w hSw; (try dsimp only at hSw); first | (go_simp; done) | (go_simp; with_reducible rfl))
                try simp only [Act.put, List.setIfInBounds_toArray, List.set_cons_zero, List.set_cons_succ]
                refine tk (oi := { dst := some 47, op := Op.move (Operand.tmp 6), type := 3, pos := "law.go:69", after := #[{ on := 4, ground := Ground.guard }], guard := some (4, false) }) (v := ?_) 10 rfl ?_ ?_
                rotate_left
                · (intro w hSw; (try dsimp only at hSw); first | (go_simp; done) | (go_simp; with_reducible rfl))
                try simp only [Act.put, List.setIfInBounds_toArray, List.set_cons_zero, List.set_cons_succ]
                refine tk (oi := { dst := some 48, op := Op.indexAddr 26 (Operand.tmp 46) (Operand.tmp 47), type := 0, pos := "law.go:69", after := #[{ on := 9, ground := Ground.data }, { on := 10, ground := Ground.data }, { on := 4, ground := Ground.guard }], guard := some (4, false) }) (v := ?_) 11 rfl ?_ ?_
                rotate_left
                · (intro w hSw; (try dsimp only at hSw); first | (go_simp; done) | (go_simp; with_reducible rfl))
                try simp only [Act.put, List.setIfInBounds_toArray, List.set_cons_zero, List.set_cons_succ]
                refine tk (oi := { dst := some 49, op := Op.load 23 (Operand.tmp 48), type := 23, pos := "law.go:69", after := #[{ on := 11, ground := Ground.data }, { on := 4, ground := Ground.guard }], guard := some (4, false) }) (v := ?_) 12 rfl ?_ ?_
                rotate_left
                · (intro w hSw; (try dsimp only at hSw); first | (go_simp; done) | (go_simp; with_reducible rfl))
                try simp only [Act.put, List.setIfInBounds_toArray, List.set_cons_zero, List.set_cons_succ]
                refine wpAnyH_ready (rs := [13]) (by kernel_rfl) (by simp) ?_
                refine AllReadyH.cons (o := { dst := some 50, op := Op.call { callee := Callee.value (Operand.func 19), args := #[Operand.tmp 45, Operand.tmp 49], argTypes := #[23, 23] }, type := 4, pos := "law.go:69", after := #[{ on := 8, ground := Ground.data }, { on := 12, ground := Ground.data }, { on := 4, ground := Ground.chain }, { on := 4, ground := Ground.guard }], guard := some (4, false) }) rfl (fun K hK => ?_) AllReadyH.nil
                go_simp
                refine (rless_any e0 ck x2.drew HFE.out HFK.out).mono ?_
                rintro r zb ⟨rfl, hb3⟩
                have HX3 := Lib.hid (show Bel w1 zb from HX2.out.drew.trans hb3)
                dsimp only
                refine hK.out _ _ ⟨⟨cl11 hb3 hHeld.1.1, cl11 hb3 hHeld.1.2.1, cl11 hb3 hHeld.1.2.2.1, cl11 hb3 hHeld.1.2.2.2⟩, cl11 hb3 hHeld.2.1, cl11 hb3 hHeld.2.2.1, cl11 hb3 hHeld.2.2.2.1, cl11 hb3 hHeld.2.2.2.2⟩ (fun hHeld => ?_)
                clear hK K hb3
                try simp only [Act.put, List.setIfInBounds_toArray, List.set_cons_zero, List.set_cons_succ]
                refine tk (oi := { dst := some 51, op := Op.pick (Operand.tmp 41) (Operand.const (Value.bool true)) (Operand.tmp 50), type := 4, pos := "law.go:69", after := #[{ on := 4, ground := Ground.data }, { on := 13, ground := Ground.data }], guard := none }) (v := ?_) 14 rfl ?_ ?_
                rotate_left
                · (intro w hSw; (try dsimp only at hSw); first | (go_simp; done) | (go_simp; with_reducible rfl))
                try simp only [Act.put, List.setIfInBounds_toArray, List.set_cons_zero, List.set_cons_succ]
                refine wpAnyH_done (by kernel_rfl) ?_ _
                clear hHeld g0 g1 g2 g3 g4 g5 g6 g7
                cases hlb : lessB e0 ck with
                | true =>
                  have HADD := Lib.hid (show insE e0 C = C.take k ++ e0 :: C.drop k by rw [HAT2.out, if_pos hlb])
                  clear hlb
                  have HBW := Lib.hid (HB1.out.trans HX3.out)
                  have HOWR := Lib.hid (HO1.out.bel HX3.out)
                  have HEC := Lib.hid (cells4 HBW.out HC0.out)
                  have hCl : C.length ≤ i := hci
                  have HS1 := Lib.hid (show ∀ x, Bel zb x → SrcAt entEl x (.slice (some ⟨g, 0, none⟩) k ccap) (C.take k) from fun x hx => by
                    have := own_piece entOk (HOWR.out.bel hx) 0 k ccap (by omega)
                    simpa using this)
                  have HPK : ∃ pk, (if ccap = k then some (⟨g, 0, none⟩ : Addr) else some ⟨g, k * 4, none⟩) = some pk ∧ ∀ x, Bel zb x → SrcAt entEl x (.slice (some pk) (C.length - k) (ccap - k)) (C.drop k) := by
                    by_cases hck0 : ccap = k
                    · refine ⟨_, if_pos hck0, fun x hx => Or.inr ⟨_, _, by rw [List.length_drop], fun j u hj => ?_⟩⟩
                      rw [List.drop_eq_nil_of_le (by omega)] at hj
                      simp [El.all] at hj
                    · refine ⟨_, if_neg hck0, fun x hx => ?_⟩
                      have := own_piece entOk (HOWR.out.bel hx) k (C.length - k) (ccap - k) (by omega)
                      rw [List.take_of_length_le (by rw [List.length_drop]; omega)] at this
                      exact this
                  obtain ⟨pk, hpk, hps⟩ := HPK
                  have HS2 := Lib.hid hps
                  have hkc : k ≤ ccap := by omega
                  clear hps
                  go_wp2_with (fail)
                  have HBR := Lib.hid (Bel.refl zb)
                  refine wp_region_held_drew (S := fun z => z.cell? ⟨B, O, sp⟩ = some (.string e0.k) ∧ z.cell? ⟨B, O + 1, none⟩ = some (.int .i64 e0.q) ∧ z.cell? ⟨B, O + 2, none⟩ = some (.bool e0.d) ∧ z.cell? ⟨B, O + 3, none⟩ = some (.string e0.v)) (by kernel_rfl) HEC.out (fun hHeld => ?_)
                  refine tk (oi := { dst := some 53, op := Op.move (Operand.tmp 3), type := 26, pos := "law.go:70", after := #[], guard := none }) (v := ?_) 1 rfl ?_ ?_
                  rotate_left
                  · (intro w hSw; (try dsimp only at hSw); first | (go_simp; done) | (go_simp; with_reducible rfl))
                  try simp only [Act.put, List.setIfInBounds_toArray, List.set_cons_zero, List.set_cons_succ]
                  refine tk (oi := { dst := some 54, op := Op.move (Operand.tmp 6), type := 3, pos := "law.go:70", after := #[], guard := none }) (v := ?_) 2 rfl ?_ ?_
                  rotate_left
                  · (intro w hSw; (try dsimp only at hSw); first | (go_simp; done) | (go_simp; with_reducible rfl))
                  try simp only [Act.put, List.setIfInBounds_toArray, List.set_cons_zero, List.set_cons_succ]
                  refine tk (oi := { dst := some 55, op := Op.slice 26 (Operand.tmp 53) none (some (Operand.tmp 54)) none, type := 26, pos := "law.go:70", after := #[{ on := 1, ground := Ground.data }, { on := 2, ground := Ground.data }], guard := none }) (v := ?_) 3 rfl ?_ ?_
                  rotate_left
                  · (intro w hSw; (try dsimp only at hSw); first | (go_simp; done) | (go_simp; with_reducible rfl))
                  try simp only [Act.put, List.setIfInBounds_toArray, List.set_cons_zero, List.set_cons_succ]
                  refine tk (oi := { dst := some 57, op := Op.move (Operand.tmp 0), type := 26, pos := "law.go:70", after := #[], guard := none }) (v := ?_) 5 rfl ?_ ?_
                  rotate_left
                  · (intro w hSw; (try dsimp only at hSw); first | (go_simp; done) | (go_simp; with_reducible rfl))
                  try simp only [Act.put, List.setIfInBounds_toArray, List.set_cons_zero, List.set_cons_succ]
                  refine tk (oi := { dst := some 58, op := Op.move (Operand.tmp 4), type := 3, pos := "law.go:70", after := #[], guard := none }) (v := ?_) 6 rfl ?_ ?_
                  rotate_left
                  · (intro w hSw; (try dsimp only at hSw); first | (go_simp; done) | (go_simp; with_reducible rfl))
                  try simp only [Act.put, List.setIfInBounds_toArray, List.set_cons_zero, List.set_cons_succ]
                  refine tk (oi := { dst := some 59, op := Op.indexAddr 26 (Operand.tmp 57) (Operand.tmp 58), type := 0, pos := "law.go:70", after := #[{ on := 5, ground := Ground.data }, { on := 6, ground := Ground.data }], guard := none }) (v := ?_) 7 rfl ?_ ?_
                  rotate_left
                  · (intro w hSw; (try dsimp only at hSw); first | (go_simp; done) | (go_simp; with_reducible rfl))
                  try simp only [Act.put, List.setIfInBounds_toArray, List.set_cons_zero, List.set_cons_succ]
                  refine tk (oi := { dst := some 60, op := Op.load 23 (Operand.tmp 59), type := 23, pos := "law.go:70", after := #[{ on := 7, ground := Ground.data }], guard := none }) (v := ?_) 8 rfl ?_ ?_
                  rotate_left
                  · (intro w hSw; (try dsimp only at hSw); first | (go_simp; done) | (go_simp; with_reducible rfl))
                  try simp only [Act.put, List.setIfInBounds_toArray, List.set_cons_zero, List.set_cons_succ]
                  refine tk (oi := { dst := some 63, op := Op.move (Operand.tmp 3), type := 26, pos := "law.go:70", after := #[], guard := none }) (v := ?_) 11 rfl ?_ ?_
                  rotate_left
                  · (intro w hSw; (try dsimp only at hSw); first | (go_simp; done) | (go_simp; with_reducible rfl))
                  try simp only [Act.put, List.setIfInBounds_toArray, List.set_cons_zero, List.set_cons_succ]
                  refine tk (oi := { dst := some 64, op := Op.move (Operand.tmp 6), type := 3, pos := "law.go:70", after := #[], guard := none }) (v := ?_) 12 rfl ?_ ?_
                  rotate_left
                  · (intro w hSw; (try dsimp only at hSw); first | (go_simp; done) | (go_simp; with_reducible rfl))
                  try simp only [Act.put, List.setIfInBounds_toArray, List.set_cons_zero, List.set_cons_succ]
                  refine tk (oi := { dst := some 65, op := Op.slice 26 (Operand.tmp 63) (some (Operand.tmp 64)) none none, type := 26, pos := "law.go:70", after := #[{ on := 11, ground := Ground.data }, { on := 12, ground := Ground.data }], guard := none }) (v := ?_) 13 rfl ?_ ?_
                  rotate_left
                  · (intro w hSw; (try dsimp only at hSw); first | (go_simp; done) | (go_simp; with_reducible rfl))
                  try simp only [Act.put, List.setIfInBounds_toArray, List.set_cons_zero, List.set_cons_succ]
                  refine wpAnyH_ready (rs := [0, 9]) (by kernel_rfl) (by simp) ?_
                  refine (AllReadyH.cons (o := { dst := some 52, op := Op.buildSlice 26 0 #[], type := 26, pos := "law.go:70", after := #[], guard := none }) rfl (fun K hK => ?_) (AllReadyH.cons (o := { dst := some 61, op := Op.buildSlice 26 1 #[(0, Operand.tmp 60)], type := 26, pos := "law.go:70", after := #[{ on := 8, ground := Ground.data }], guard := none }) rfl (fun K hK => ?_) AllReadyH.nil))
                  · go_simp
                    have hbq : Bel zb (zb.alloc (.cells #[] 23)).drew := ((Bel.refl zb).alloc _).drew
                    refine hK.out _ _ (cells4 (HBR.out.trans hbq) HEC.out) (fun hHeld => ?_)
                    clear hbq
                    clear hK K
                    try simp only [Act.put, List.setIfInBounds_toArray, List.set_cons_zero, List.set_cons_succ]
                    obtain ⟨z1, hz1⟩ : ∃ x, x = (zb.alloc (.cells #[] 23)).drew := ⟨_, rfl⟩
                    have HLE := Lib.hid (show z1.heap[zb.heap.size]? = some (.cells #[] 23 (0, 0)) by rw [hz1]; exact heap_alloc_new zb (.cells #[] 23))
                    have hltE : zb.heap.size < z1.heap.size := (Array.getElem?_eq_some_iff.1 HLE.out).1
                    have hbz1 : Bel zb z1 := by rw [hz1]; exact ((Bel.refl zb).alloc _).drew
                    have HBz1 := Lib.hid (HBR.out.trans hbz1)
                    rw [← hz1]
                    clear hz1
                    have HOE := Lib.hid (ownG_empty (E := entEl) (n := zb.heap.size) HLE.out HBR.out.size)
                    refine wpAnyH_ready (rs := [4, 9]) (by kernel_rfl) (by simp) ?_
                    refine (AllReadyH.cons (o := { dst := some 56, op := Op.call { callee := Callee.builtin Builtin.append, args := #[Operand.tmp 52, Operand.tmp 55], argTypes := #[26, 26] }, type := 26, pos := "law.go:70", after := #[{ on := 0, ground := Ground.data }, { on := 3, ground := Ground.data }], guard := none }) rfl (fun K hK => ?_) (AllReadyH.cons (o := { dst := some 61, op := Op.buildSlice 26 1 #[(0, Operand.tmp 60)], type := 26, pos := "law.go:70", after := #[{ on := 8, ground := Ground.data }], guard := none }) rfl (fun K hK => ?_) AllReadyH.nil))
                    · refine step_append_all entOk rfl (.tmp 52) (.tmp 55) rfl rfl HOE.out (C.take k) rfl (HS1.out z1 HBz1.out) (by simp only [List.length_nil, List.length_take]; unfold maxLen; omega) (by simp only [List.length_nil, List.length_take]; omega) HBz1.out.size ?_
                      intro vz2 z2 hoz2 hkz2 _
                      have HBz2 := Lib.hid (show Bel zb z2 from HBz1.out.trans_below (hkz2.own HBz1.out.size (fun kk hkk => (HOE.out.lt kk hkk).1)))
                      rw [List.nil_append] at hoz2
                      have hkkz2 : Keep (Value.ownBlock (.slice (some ⟨zb.heap.size, 0, none⟩) 0 0)).toList z1 z2 := hkz2
                      have HO2 := Lib.hid hoz2
                      clear hoz2 hkz2 hkkz2
                      refine hK.out _ _ (cells4 HBz2.out HEC.out) (fun hHeld => ?_)
                      clear hK K
                      try simp only [Act.put, List.setIfInBounds_toArray, List.set_cons_zero, List.set_cons_succ]
                      refine wpAnyH_ready (rs := [9]) (by kernel_rfl) (by simp) ?_
                      refine AllReadyH.cons (o := { dst := some 61, op := Op.buildSlice 26 1 #[(0, Operand.tmp 60)], type := 26, pos := "law.go:70", after := #[{ on := 8, ground := Ground.data }], guard := none }) rfl (fun K hK => ?_) AllReadyH.nil
                      go_simp
                      have hbq : Bel z2 (z2.alloc (.cells #[.string e0.k, .int .i64 e0.q, .bool e0.d, .string e0.v] 23)) := ((Bel.refl z2).alloc _)
                      refine hK.out _ _ (cells4 (HBz2.out.trans hbq) HEC.out) (fun hHeld => ?_)
                      clear hbq
                      clear hK K
                      try simp only [Act.put, List.setIfInBounds_toArray, List.set_cons_zero, List.set_cons_succ]
                      obtain ⟨z3, hz3⟩ : ∃ x, x = (z2.alloc (.cells #[.string e0.k, .int .i64 e0.q, .bool e0.d, .string e0.v] 23)) := ⟨_, rfl⟩
                      have HLL := Lib.hid (show z3.heap[z2.heap.size]? = some (.cells #[.string e0.k, .int .i64 e0.q, .bool e0.d, .string e0.v] 23 (0, 0)) by rw [hz3]; exact heap_alloc_new z2 (.cells #[.string e0.k, .int .i64 e0.q, .bool e0.d, .string e0.v] 23))
                      have hltL : z2.heap.size < z3.heap.size := (Array.getElem?_eq_some_iff.1 HLL.out).1
                      have hbz3 : Bel z2 z3 := by rw [hz3]; exact ((Bel.refl z2).alloc _)
                      have HBz3 := Lib.hid (HBz2.out.trans hbz3)
                      rw [← hz3]
                      clear hz3
                      have HO2b := Lib.hid (HO2.out.bel hbz3)
                      refine wpAnyH_ready (rs := [10]) (by kernel_rfl) (by simp) ?_
                      refine AllReadyH.cons (o := { dst := some 62, op := Op.call { callee := Callee.builtin Builtin.append, args := #[Operand.tmp 56, Operand.tmp 61], argTypes := #[26, 26] }, type := 26, pos := "law.go:70", after := #[{ on := 4, ground := Ground.data }, { on := 9, ground := Ground.data }, { on := 4, ground := Ground.chain }], guard := none }) rfl (fun K hK => ?_) AllReadyH.nil
                      refine step_append_all entOk rfl (.tmp 56) (.tmp 61) rfl rfl HO2b.out [e0] rfl (src_at [e0] HLL.out rfl rfl) (by simp only [List.length_take, List.length_singleton]; unfold maxLen; omega) (by simp only [List.length_take, List.length_singleton]; omega) HBz3.out.size ?_
                      intro vz4 z4 hoz4 hkz4 _
                      have HBz4 := Lib.hid (show Bel zb z4 from HBz3.out.trans_below (hkz4.own HBz3.out.size (fun kk hkk => (HO2b.out.lt kk hkk).1)))
                      have HO3 := Lib.hid hoz4
                      clear hoz4 hkz4
                      refine hK.out _ _ (cells4 HBz4.out HEC.out) (fun hHeld => ?_)
                      clear hK K
                      try simp only [Act.put, List.setIfInBounds_toArray, List.set_cons_zero, List.set_cons_succ]
                      refine wpAnyH_ready (rs := [14]) (by kernel_rfl) (by simp) ?_
                      refine AllReadyH.cons (o := { dst := some 66, op := Op.call { callee := Callee.builtin Builtin.append, args := #[Operand.tmp 62, Operand.tmp 65], argTypes := #[26, 26] }, type := 26, pos := "law.go:70", after := #[{ on := 10, ground := Ground.data }, { on := 13, ground := Ground.data }, { on := 10, ground := Ground.chain }], guard := none }) rfl (fun K hK => ?_) AllReadyH.nil
                      refine step_append_all entOk rfl (.tmp 62) (.tmp 65) rfl rfl HO3.out (C.drop k) rfl (HS2.out z4 HBz4.out) (by simp only [List.length_append, List.length_take, List.length_singleton, List.length_drop]; unfold maxLen; omega) (by simp only [List.length_append, List.length_take, List.length_singleton, List.length_drop]; omega) HBz4.out.size ?_
                      intro vz5 z5 hoz5 hkz5 _
                      have HBz5 := Lib.hid (show Bel zb z5 from HBz4.out.trans_below (hkz5.own HBz4.out.size (fun kk hkk => (HO3.out.lt kk hkk).1)))
                      have HO4 := Lib.hid hoz5
                      clear hoz5 hkz5
                      refine hK.out _ _ (cells4 HBz5.out HEC.out) (fun hHeld => ?_)
                      clear hK K
                      try simp only [Act.put, List.setIfInBounds_toArray, List.set_cons_zero, List.set_cons_succ]
                      refine tk (oi := { dst := some 3, op := Op.assign (Operand.tmp 66), type := 26, pos := "law.go:70", after := #[{ on := 14, ground := Ground.data }, { on := 14, ground := Ground.chain }, { on := 0, ground := Ground.phase }, { on := 1, ground := Ground.phase }, { on := 2, ground := Ground.phase }, { on := 3, ground := Ground.phase }, { on := 4, ground := Ground.phase }, { on := 5, ground := Ground.phase }, { on := 6, ground := Ground.phase }, { on := 7, ground := Ground.phase }, { on := 8, ground := Ground.phase }, { on := 9, ground := Ground.phase }, { on := 10, ground := Ground.phase }, { on := 11, ground := Ground.phase }, { on := 12, ground := Ground.phase }, { on := 13, ground := Ground.phase }, { on := 14, ground := Ground.phase }], guard := none }) (v := ?_) 15 rfl ?_ ?_
                      rotate_left
                      · (intro w hSw; (try dsimp only at hSw); first | (go_simp; done) | (go_simp; with_reducible rfl))
                      try simp only [Act.put, List.setIfInBounds_toArray, List.set_cons_zero, List.set_cons_succ]
                      refine wpAnyH_done (by kernel_rfl) ?_ _
                      have HFIN := Lib.hid (show C.take k ++ [e0] ++ C.drop k = insE e0 C by rw [HADD.out]; simp)
                      have HOF := Lib.hid (show OwnG entEl w.heap.size z5 vz5 (insE e0 C) by rw [← HFIN.out]; exact HO4.out.low HBW.out.size)
                      obtain ⟨pf, cf, hvf⟩ := ownG_len HOF.out
                      rw [hvf] at HOF ⊢
                      clear hvf
                      generalize (insE e0 C).length = nf at *
                      clear hHeld
                      go_wp2_with (fail)
                      go_roundw
                      case rel => exact ⟨i + 1, hlt, by go_num, by rw [HN.out, HST.out]; exact HOF.out, HBW.out.trans HBz5.out⟩
                      case measure => simp [intOf]; omega
                    · go_simp
                      have hbq : Bel z1 (z1.alloc (.cells #[.string e0.k, .int .i64 e0.q, .bool e0.d, .string e0.v] 23)) := ((Bel.refl z1).alloc _)
                      refine hK.out _ _ (cells4 (HBz1.out.trans hbq) HEC.out) (fun hHeld => ?_)
                      clear hbq
                      clear hK K
                      try simp only [Act.put, List.setIfInBounds_toArray, List.set_cons_zero, List.set_cons_succ]
                      obtain ⟨z2, hz2⟩ : ∃ x, x = (z1.alloc (.cells #[.string e0.k, .int .i64 e0.q, .bool e0.d, .string e0.v] 23)) := ⟨_, rfl⟩
                      have HLL := Lib.hid (show z2.heap[z1.heap.size]? = some (.cells #[.string e0.k, .int .i64 e0.q, .bool e0.d, .string e0.v] 23 (0, 0)) by rw [hz2]; exact heap_alloc_new z1 (.cells #[.string e0.k, .int .i64 e0.q, .bool e0.d, .string e0.v] 23))
                      have hltL : z1.heap.size < z2.heap.size := (Array.getElem?_eq_some_iff.1 HLL.out).1
                      have hbz2 : Bel z1 z2 := by rw [hz2]; exact ((Bel.refl z1).alloc _)
                      have HBz2 := Lib.hid (HBz1.out.trans hbz2)
                      rw [← hz2]
                      clear hz2
                      have HOE2 := Lib.hid (HOE.out.bel hbz2)
                      refine wpAnyH_ready (rs := [4]) (by kernel_rfl) (by simp) ?_
                      refine AllReadyH.cons (o := { dst := some 56, op := Op.call { callee := Callee.builtin Builtin.append, args := #[Operand.tmp 52, Operand.tmp 55], argTypes := #[26, 26] }, type := 26, pos := "law.go:70", after := #[{ on := 0, ground := Ground.data }, { on := 3, ground := Ground.data }], guard := none }) rfl (fun K hK => ?_) AllReadyH.nil
                      refine step_append_all entOk rfl (.tmp 52) (.tmp 55) rfl rfl HOE2.out (C.take k) rfl (HS1.out z2 HBz2.out) (by simp only [List.length_nil, List.length_take]; unfold maxLen; omega) (by simp only [List.length_nil, List.length_take]; omega) HBz2.out.size ?_
                      intro vz3 z3 hoz3 hkz3 _
                      have HBz3 := Lib.hid (show Bel zb z3 from HBz2.out.trans_below (hkz3.own HBz2.out.size (fun kk hkk => (HOE2.out.lt kk hkk).1)))
                      rw [List.nil_append] at hoz3
                      have hkkz3 : Keep (Value.ownBlock (.slice (some ⟨zb.heap.size, 0, none⟩) 0 0)).toList z2 z3 := hkz3
                      have HLL3 := Lib.hid (hkkz3.at HLL.out (fun hm => by rw [Option.mem_toList] at hm; simp only [Value.ownBlock, Option.some.injEq] at hm; omega))
                      have HO2 := Lib.hid hoz3
                      clear hoz3 hkz3 hkkz3
                      refine hK.out _ _ (cells4 HBz3.out HEC.out) (fun hHeld => ?_)
                      clear hK K
                      try simp only [Act.put, List.setIfInBounds_toArray, List.set_cons_zero, List.set_cons_succ]
                      refine wpAnyH_ready (rs := [10]) (by kernel_rfl) (by simp) ?_
                      refine AllReadyH.cons (o := { dst := some 62, op := Op.call { callee := Callee.builtin Builtin.append, args := #[Operand.tmp 56, Operand.tmp 61], argTypes := #[26, 26] }, type := 26, pos := "law.go:70", after := #[{ on := 4, ground := Ground.data }, { on := 9, ground := Ground.data }, { on := 4, ground := Ground.chain }], guard := none }) rfl (fun K hK => ?_) AllReadyH.nil
                      refine step_append_all entOk rfl (.tmp 56) (.tmp 61) rfl rfl HO2.out [e0] rfl (src_at [e0] HLL3.out rfl rfl) (by simp only [List.length_take, List.length_singleton]; unfold maxLen; omega) (by simp only [List.length_take, List.length_singleton]; omega) HBz3.out.size ?_
                      intro vz4 z4 hoz4 hkz4 _
                      have HBz4 := Lib.hid (show Bel zb z4 from HBz3.out.trans_below (hkz4.own HBz3.out.size (fun kk hkk => (HO2.out.lt kk hkk).1)))
                      have HO3 := Lib.hid hoz4
                      clear hoz4 hkz4
                      refine hK.out _ _ (cells4 HBz4.out HEC.out) (fun hHeld => ?_)
                      clear hK K
                      try simp only [Act.put, List.setIfInBounds_toArray, List.set_cons_zero, List.set_cons_succ]
                      refine wpAnyH_ready (rs := [14]) (by kernel_rfl) (by simp) ?_
                      refine AllReadyH.cons (o := { dst := some 66, op := Op.call { callee := Callee.builtin Builtin.append, args := #[Operand.tmp 62, Operand.tmp 65], argTypes := #[26, 26] }, type := 26, pos := "law.go:70", after := #[{ on := 10, ground := Ground.data }, { on := 13, ground := Ground.data }, { on := 10, ground := Ground.chain }], guard := none }) rfl (fun K hK => ?_) AllReadyH.nil
                      refine step_append_all entOk rfl (.tmp 62) (.tmp 65) rfl rfl HO3.out (C.drop k) rfl (HS2.out z4 HBz4.out) (by simp only [List.length_append, List.length_take, List.length_singleton, List.length_drop]; unfold maxLen; omega) (by simp only [List.length_append, List.length_take, List.length_singleton, List.length_drop]; omega) HBz4.out.size ?_
                      intro vz5 z5 hoz5 hkz5 _
                      have HBz5 := Lib.hid (show Bel zb z5 from HBz4.out.trans_below (hkz5.own HBz4.out.size (fun kk hkk => (HO3.out.lt kk hkk).1)))
                      have HO4 := Lib.hid hoz5
                      clear hoz5 hkz5
                      refine hK.out _ _ (cells4 HBz5.out HEC.out) (fun hHeld => ?_)
                      clear hK K
                      try simp only [Act.put, List.setIfInBounds_toArray, List.set_cons_zero, List.set_cons_succ]
                      refine tk (oi := { dst := some 3, op := Op.assign (Operand.tmp 66), type := 26, pos := "law.go:70", after := #[{ on := 14, ground := Ground.data }, { on := 14, ground := Ground.chain }, { on := 0, ground := Ground.phase }, { on := 1, ground := Ground.phase }, { on := 2, ground := Ground.phase }, { on := 3, ground := Ground.phase }, { on := 4, ground := Ground.phase }, { on := 5, ground := Ground.phase }, { on := 6, ground := Ground.phase }, { on := 7, ground := Ground.phase }, { on := 8, ground := Ground.phase }, { on := 9, ground := Ground.phase }, { on := 10, ground := Ground.phase }, { on := 11, ground := Ground.phase }, { on := 12, ground := Ground.phase }, { on := 13, ground := Ground.phase }, { on := 14, ground := Ground.phase }], guard := none }) (v := ?_) 15 rfl ?_ ?_
                      rotate_left
                      · (intro w hSw; (try dsimp only at hSw); first | (go_simp; done) | (go_simp; with_reducible rfl))
                      try simp only [Act.put, List.setIfInBounds_toArray, List.set_cons_zero, List.set_cons_succ]
                      refine wpAnyH_done (by kernel_rfl) ?_ _
                      have HFIN := Lib.hid (show C.take k ++ [e0] ++ C.drop k = insE e0 C by rw [HADD.out]; simp)
                      have HOF := Lib.hid (show OwnG entEl w.heap.size z5 vz5 (insE e0 C) by rw [← HFIN.out]; exact HO4.out.low HBW.out.size)
                      obtain ⟨pf, cf, hvf⟩ := ownG_len HOF.out
                      rw [hvf] at HOF ⊢
                      clear hvf
                      generalize (insE e0 C).length = nf at *
                      clear hHeld
                      go_wp2_with (fail)
                      go_roundw
                      case rel => exact ⟨i + 1, hlt, by go_num, by rw [HN.out, HST.out]; exact HOF.out, HBW.out.trans HBz5.out⟩
                      case measure => simp [intOf]; omega
                  · go_simp
                    have hbq : Bel zb (zb.alloc (.cells #[.string e0.k, .int .i64 e0.q, .bool e0.d, .string e0.v] 23)).drew := ((Bel.refl zb).alloc _).drew
                    refine hK.out _ _ (cells4 (HBR.out.trans hbq) HEC.out) (fun hHeld => ?_)
                    clear hbq
                    clear hK K
                    try simp only [Act.put, List.setIfInBounds_toArray, List.set_cons_zero, List.set_cons_succ]
                    obtain ⟨z1, hz1⟩ : ∃ x, x = (zb.alloc (.cells #[.string e0.k, .int .i64 e0.q, .bool e0.d, .string e0.v] 23)).drew := ⟨_, rfl⟩
                    have HLL := Lib.hid (show z1.heap[zb.heap.size]? = some (.cells #[.string e0.k, .int .i64 e0.q, .bool e0.d, .string e0.v] 23 (0, 0)) by rw [hz1]; exact heap_alloc_new zb (.cells #[.string e0.k, .int .i64 e0.q, .bool e0.d, .string e0.v] 23))
                    have hltL : zb.heap.size < z1.heap.size := (Array.getElem?_eq_some_iff.1 HLL.out).1
                    have hbz1 : Bel zb z1 := by rw [hz1]; exact ((Bel.refl zb).alloc _).drew
                    have HBz1 := Lib.hid (HBR.out.trans hbz1)
                    rw [← hz1]
                    clear hz1
                    refine wpAnyH_ready (rs := [0]) (by kernel_rfl) (by simp) ?_
                    refine AllReadyH.cons (o := { dst := some 52, op := Op.buildSlice 26 0 #[], type := 26, pos := "law.go:70", after := #[], guard := none }) rfl (fun K hK => ?_) AllReadyH.nil
                    go_simp
                    have hbq : Bel z1 (z1.alloc (.cells #[] 23)) := ((Bel.refl z1).alloc _)
                    refine hK.out _ _ (cells4 (HBz1.out.trans hbq) HEC.out) (fun hHeld => ?_)
                    clear hbq
                    clear hK K
                    try simp only [Act.put, List.setIfInBounds_toArray, List.set_cons_zero, List.set_cons_succ]
                    obtain ⟨z2, hz2⟩ : ∃ x, x = (z1.alloc (.cells #[] 23)) := ⟨_, rfl⟩
                    have HLE := Lib.hid (show z2.heap[z1.heap.size]? = some (.cells #[] 23 (0, 0)) by rw [hz2]; exact heap_alloc_new z1 (.cells #[] 23))
                    have hltE : z1.heap.size < z2.heap.size := (Array.getElem?_eq_some_iff.1 HLE.out).1
                    have hbz2 : Bel z1 z2 := by rw [hz2]; exact ((Bel.refl z1).alloc _)
                    have HBz2 := Lib.hid (HBz1.out.trans hbz2)
                    rw [← hz2]
                    clear hz2
                    have HOE := Lib.hid (ownG_empty (E := entEl) (n := zb.heap.size) HLE.out HBz1.out.size)
                    have HLL2 := Lib.hid ((Below.block hbz2 zb.heap.size (by omega)).trans HLL.out)
                    refine wpAnyH_ready (rs := [4]) (by kernel_rfl) (by simp) ?_
                    refine AllReadyH.cons (o := { dst := some 56, op := Op.call { callee := Callee.builtin Builtin.append, args := #[Operand.tmp 52, Operand.tmp 55], argTypes := #[26, 26] }, type := 26, pos := "law.go:70", after := #[{ on := 0, ground := Ground.data }, { on := 3, ground := Ground.data }], guard := none }) rfl (fun K hK => ?_) AllReadyH.nil
                    refine step_append_all entOk rfl (.tmp 52) (.tmp 55) rfl rfl HOE.out (C.take k) rfl (HS1.out z2 HBz2.out) (by simp only [List.length_nil, List.length_take]; unfold maxLen; omega) (by simp only [List.length_nil, List.length_take]; omega) HBz2.out.size ?_
                    intro vz3 z3 hoz3 hkz3 _
                    have HBz3 := Lib.hid (show Bel zb z3 from HBz2.out.trans_below (hkz3.own HBz2.out.size (fun kk hkk => (HOE.out.lt kk hkk).1)))
                    rw [List.nil_append] at hoz3
                    have hkkz3 : Keep (Value.ownBlock (.slice (some ⟨z1.heap.size, 0, none⟩) 0 0)).toList z2 z3 := hkz3
                    have HLL3 := Lib.hid (hkkz3.at HLL2.out (fun hm => by rw [Option.mem_toList] at hm; simp only [Value.ownBlock, Option.some.injEq] at hm; omega))
                    have HO2 := Lib.hid hoz3
                    clear hoz3 hkz3 hkkz3
                    refine hK.out _ _ (cells4 HBz3.out HEC.out) (fun hHeld => ?_)
                    clear hK K
                    try simp only [Act.put, List.setIfInBounds_toArray, List.set_cons_zero, List.set_cons_succ]
                    refine wpAnyH_ready (rs := [10]) (by kernel_rfl) (by simp) ?_
                    refine AllReadyH.cons (o := { dst := some 62, op := Op.call { callee := Callee.builtin Builtin.append, args := #[Operand.tmp 56, Operand.tmp 61], argTypes := #[26, 26] }, type := 26, pos := "law.go:70", after := #[{ on := 4, ground := Ground.data }, { on := 9, ground := Ground.data }, { on := 4, ground := Ground.chain }], guard := none }) rfl (fun K hK => ?_) AllReadyH.nil
                    refine step_append_all entOk rfl (.tmp 56) (.tmp 61) rfl rfl HO2.out [e0] rfl (src_at [e0] HLL3.out rfl rfl) (by simp only [List.length_take, List.length_singleton]; unfold maxLen; omega) (by simp only [List.length_take, List.length_singleton]; omega) HBz3.out.size ?_
                    intro vz4 z4 hoz4 hkz4 _
                    have HBz4 := Lib.hid (show Bel zb z4 from HBz3.out.trans_below (hkz4.own HBz3.out.size (fun kk hkk => (HO2.out.lt kk hkk).1)))
                    have HO3 := Lib.hid hoz4
                    clear hoz4 hkz4
                    refine hK.out _ _ (cells4 HBz4.out HEC.out) (fun hHeld => ?_)
                    clear hK K
                    try simp only [Act.put, List.setIfInBounds_toArray, List.set_cons_zero, List.set_cons_succ]
                    refine wpAnyH_ready (rs := [14]) (by kernel_rfl) (by simp) ?_
                    refine AllReadyH.cons (o := { dst := some 66, op := Op.call { callee := Callee.builtin Builtin.append, args := #[Operand.tmp 62, Operand.tmp 65], argTypes := #[26, 26] }, type := 26, pos := "law.go:70", after := #[{ on := 10, ground := Ground.data }, { on := 13, ground := Ground.data }, { on := 10, ground := Ground.chain }], guard := none }) rfl (fun K hK => ?_) AllReadyH.nil
                    refine step_append_all entOk rfl (.tmp 62) (.tmp 65) rfl rfl HO3.out (C.drop k) rfl (HS2.out z4 HBz4.out) (by simp only [List.length_append, List.length_take, List.length_singleton, List.length_drop]; unfold maxLen; omega) (by simp only [List.length_append, List.length_take, List.length_singleton, List.length_drop]; omega) HBz4.out.size ?_
                    intro vz5 z5 hoz5 hkz5 _
                    have HBz5 := Lib.hid (show Bel zb z5 from HBz4.out.trans_below (hkz5.own HBz4.out.size (fun kk hkk => (HO3.out.lt kk hkk).1)))
                    have HO4 := Lib.hid hoz5
                    clear hoz5 hkz5
                    refine hK.out _ _ (cells4 HBz5.out HEC.out) (fun hHeld => ?_)
                    clear hK K
                    try simp only [Act.put, List.setIfInBounds_toArray, List.set_cons_zero, List.set_cons_succ]
                    refine tk (oi := { dst := some 3, op := Op.assign (Operand.tmp 66), type := 26, pos := "law.go:70", after := #[{ on := 14, ground := Ground.data }, { on := 14, ground := Ground.chain }, { on := 0, ground := Ground.phase }, { on := 1, ground := Ground.phase }, { on := 2, ground := Ground.phase }, { on := 3, ground := Ground.phase }, { on := 4, ground := Ground.phase }, { on := 5, ground := Ground.phase }, { on := 6, ground := Ground.phase }, { on := 7, ground := Ground.phase }, { on := 8, ground := Ground.phase }, { on := 9, ground := Ground.phase }, { on := 10, ground := Ground.phase }, { on := 11, ground := Ground.phase }, { on := 12, ground := Ground.phase }, { on := 13, ground := Ground.phase }, { on := 14, ground := Ground.phase }], guard := none }) (v := ?_) 15 rfl ?_ ?_
                    rotate_left
                    · (intro w hSw; (try dsimp only at hSw); first | (go_simp; done) | (go_simp; with_reducible rfl))
                    try simp only [Act.put, List.setIfInBounds_toArray, List.set_cons_zero, List.set_cons_succ]
                    refine wpAnyH_done (by kernel_rfl) ?_ _
                    have HFIN := Lib.hid (show C.take k ++ [e0] ++ C.drop k = insE e0 C by rw [HADD.out]; simp)
                    have HOF := Lib.hid (show OwnG entEl w.heap.size z5 vz5 (insE e0 C) by rw [← HFIN.out]; exact HO4.out.low HBW.out.size)
                    obtain ⟨pf, cf, hvf⟩ := ownG_len HOF.out
                    rw [hvf] at HOF ⊢
                    clear hvf
                    generalize (insE e0 C).length = nf at *
                    clear hHeld
                    go_wp2_with (fail)
                    go_roundw
                    case rel => exact ⟨i + 1, hlt, by go_num, by rw [HN.out, HST.out]; exact HOF.out, HBW.out.trans HBz5.out⟩
                    case measure => simp [intOf]; omega
                | false =>
                  have HADD := Lib.hid (show insE e0 C = C by rw [HAT2.out, hlb]; rfl)
                  have HOZ := Lib.hid (HO1.out.bel HX3.out)
                  have HBZ := Lib.hid (HB1.out.trans HX3.out)
                  clear hlb
                  go_wp2_with (fail)
                  go_roundw
                  case rel => exact ⟨i + 1, hlt, by go_num, by rw [HN.out, HST.out, HADD.out]; exact HOZ.out, HBZ.out⟩
                  case measure => simp [intOf]; omega
            · have hkeq : ((k : Int) == (C.length : Int)) = true := by rw [beq_iff_eq]; omega
              have HADD := Lib.hid (show insE e0 C = C.take k ++ e0 :: C.drop k by
                rw [ins_at e0 C k hk hall (fun h => absurd h hkl), if_pos (Or.inl (by omega))])
              have hkn : ¬ (k : Int) < (C.length : Int) := by omega
              have HX3 := Lib.hid hw.drew.drew
              clear hall hw
              go_wp2_with (fail)
              refine wp_region_held_drew (S := fun z => True) (by kernel_rfl) trivial (fun hHeld => ?_)
              refine tk (oi := { dst := some 20, op := Op.move (Operand.tmp 6), type := 3, pos := "law.go:66", after := #[], guard := none }) (v := ?_) 0 rfl ?_ ?_
              rotate_left
              · (intro w hSw; (try dsimp only at hSw); first | (go_simp; done) | (go_simp; with_reducible rfl))
              try simp only [Act.put, List.setIfInBounds_toArray, List.set_cons_zero, List.set_cons_succ]
              refine tk (oi := { dst := some 21, op := Op.move (Operand.tmp 3), type := 26, pos := "law.go:66", after := #[], guard := none }) (v := ?_) 1 rfl ?_ ?_
              rotate_left
              · (intro w hSw; (try dsimp only at hSw); first | (go_simp; done) | (go_simp; with_reducible rfl))
              try simp only [Act.put, List.setIfInBounds_toArray, List.set_cons_zero, List.set_cons_succ]
              refine tk (oi := { dst := some 22, op := Op.call { callee := Callee.builtin Builtin.len, args := #[Operand.tmp 21], argTypes := #[26] }, type := 3, pos := "law.go:66", after := #[{ on := 1, ground := Ground.data }], guard := none }) (v := ?_) 2 rfl ?_ ?_
              rotate_left
              · (intro w hSw; (try dsimp only at hSw); first | (go_simp; done) | (go_simp; with_reducible rfl))
              try simp only [Act.put, List.setIfInBounds_toArray, List.set_cons_zero, List.set_cons_succ]
              refine tk (oi := { dst := some 23, op := Op.binOp BinOp.lss 3 (Operand.tmp 20) (Operand.tmp 22) 3, type := 4, pos := "law.go:66", after := #[{ on := 0, ground := Ground.data }, { on := 2, ground := Ground.data }], guard := none }) (v := ?_) 3 rfl ?_ ?_
              rotate_left
              · (intro w hSw; (try dsimp only at hSw); first | (go_simp; done) | (go_simp; with_reducible rfl))
              try simp only [Act.put, List.setIfInBounds_toArray, List.set_cons_zero, List.set_cons_succ]
              refine tk (oi := { dst := some 24, op := Op.move (Operand.tmp 23), type := 4, pos := "law.go:66", after := #[{ on := 3, ground := Ground.data }], guard := none }) (v := ?_) 4 rfl ?_ ?_
              rotate_left
              · (intro w hSw; (try dsimp only at hSw); first | (go_simp; done) | (go_simp; with_reducible rfl))
              try simp only [Act.put, List.setIfInBounds_toArray, List.set_cons_zero, List.set_cons_succ]
              refine wpAnyH_take (i := 5) (oi := { dst := some 25, op := Op.move (Operand.tmp 3), type := 26, pos := "law.go:66", after := #[{ on := 4, ground := Ground.guard }], guard := some (4, true) }) (v := undef) rfl (by kernel_rfl) (by kernel_rfl) (by kernel_rfl) (fun _ _ _ h => h) (Or.inr ⟨by rfl, rfl⟩) (by assumption) ?_
              try simp only [Act.put, List.setIfInBounds_toArray, List.set_cons_zero, List.set_cons_succ]
              refine wpAnyH_take (i := 6) (oi := { dst := some 26, op := Op.move (Operand.tmp 6), type := 3, pos := "law.go:66", after := #[{ on := 4, ground := Ground.guard }], guard := some (4, true) }) (v := undef) rfl (by kernel_rfl) (by kernel_rfl) (by kernel_rfl) (fun _ _ _ h => h) (Or.inr ⟨by rfl, rfl⟩) (by assumption) ?_
              try simp only [Act.put, List.setIfInBounds_toArray, List.set_cons_zero, List.set_cons_succ]
              refine wpAnyH_take (i := 7) (oi := { dst := some 27, op := Op.indexAddr 26 (Operand.tmp 25) (Operand.tmp 26), type := 0, pos := "law.go:66", after := #[{ on := 5, ground := Ground.data }, { on := 6, ground := Ground.data }, { on := 4, ground := Ground.guard }], guard := some (4, true) }) (v := undef) rfl (by kernel_rfl) (by kernel_rfl) (by kernel_rfl) (fun _ _ _ h => h) (Or.inr ⟨by rfl, rfl⟩) (by assumption) ?_
              try simp only [Act.put, List.setIfInBounds_toArray, List.set_cons_zero, List.set_cons_succ]
              refine wpAnyH_take (i := 8) (oi := { dst := some 28, op := Op.load 23 (Operand.tmp 27), type := 23, pos := "law.go:66", after := #[{ on := 7, ground := Ground.data }, { on := 4, ground := Ground.guard }], guard := some (4, true) }) (v := undef) rfl (by kernel_rfl) (by kernel_rfl) (by kernel_rfl) (fun _ _ _ h => h) (Or.inr ⟨by rfl, rfl⟩) (by assumption) ?_
              try simp only [Act.put, List.setIfInBounds_toArray, List.set_cons_zero, List.set_cons_succ]
              refine wpAnyH_take (i := 9) (oi := { dst := some 29, op := Op.move (Operand.tmp 0), type := 26, pos := "law.go:66", after := #[{ on := 4, ground := Ground.guard }], guard := some (4, true) }) (v := undef) rfl (by kernel_rfl) (by kernel_rfl) (by kernel_rfl) (fun _ _ _ h => h) (Or.inr ⟨by rfl, rfl⟩) (by assumption) ?_
              try simp only [Act.put, List.setIfInBounds_toArray, List.set_cons_zero, List.set_cons_succ]
              refine wpAnyH_take (i := 10) (oi := { dst := some 30, op := Op.move (Operand.tmp 4), type := 3, pos := "law.go:66", after := #[{ on := 4, ground := Ground.guard }], guard := some (4, true) }) (v := undef) rfl (by kernel_rfl) (by kernel_rfl) (by kernel_rfl) (fun _ _ _ h => h) (Or.inr ⟨by rfl, rfl⟩) (by assumption) ?_
              try simp only [Act.put, List.setIfInBounds_toArray, List.set_cons_zero, List.set_cons_succ]
              refine wpAnyH_take (i := 11) (oi := { dst := some 31, op := Op.indexAddr 26 (Operand.tmp 29) (Operand.tmp 30), type := 0, pos := "law.go:66", after := #[{ on := 9, ground := Ground.data }, { on := 10, ground := Ground.data }, { on := 4, ground := Ground.guard }], guard := some (4, true) }) (v := undef) rfl (by kernel_rfl) (by kernel_rfl) (by kernel_rfl) (fun _ _ _ h => h) (Or.inr ⟨by rfl, rfl⟩) (by assumption) ?_
              try simp only [Act.put, List.setIfInBounds_toArray, List.set_cons_zero, List.set_cons_succ]
              refine wpAnyH_take (i := 12) (oi := { dst := some 32, op := Op.load 23 (Operand.tmp 31), type := 23, pos := "law.go:66", after := #[{ on := 11, ground := Ground.data }, { on := 4, ground := Ground.guard }], guard := some (4, true) }) (v := undef) rfl (by kernel_rfl) (by kernel_rfl) (by kernel_rfl) (fun _ _ _ h => h) (Or.inr ⟨by rfl, rfl⟩) (by assumption) ?_
              try simp only [Act.put, List.setIfInBounds_toArray, List.set_cons_zero, List.set_cons_succ]
              refine wpAnyH_take (i := 13) (oi := { dst := some 33, op := Op.call { callee := Callee.value (Operand.func 19), args := #[Operand.tmp 28, Operand.tmp 32], argTypes := #[23, 23] }, type := 4, pos := "law.go:66", after := #[{ on := 8, ground := Ground.data }, { on := 12, ground := Ground.data }, { on := 4, ground := Ground.chain }, { on := 4, ground := Ground.guard }], guard := some (4, true) }) (v := undef) rfl (by kernel_rfl) (by kernel_rfl) (by kernel_rfl) (fun _ _ _ h => h) (Or.inr ⟨by rfl, rfl⟩) (by assumption) ?_
              try simp only [Act.put, List.setIfInBounds_toArray, List.set_cons_zero, List.set_cons_succ]
              refine tk (oi := { dst := some 34, op := Op.pick (Operand.tmp 24) (Operand.tmp 33) (Operand.const (Value.bool false)), type := 4, pos := "law.go:66", after := #[{ on := 4, ground := Ground.data }, { on := 13, ground := Ground.data }], guard := none }) (v := ?_) 14 rfl ?_ ?_
              rotate_left
              · (intro w hSw; (try dsimp only at hSw); first | (go_simp; done) | (go_simp; with_reducible rfl))
              try simp only [Act.put, List.setIfInBounds_toArray, List.set_cons_zero, List.set_cons_succ]
              refine wpAnyH_done (by kernel_rfl) ?_ _
              go_wp2_with (fail)
              refine wp_region_held_drew (S := fun z => True) (by kernel_rfl) trivial (fun hHeld => ?_)
              refine tk (oi := { dst := some 37, op := Op.move (Operand.tmp 6), type := 3, pos := "law.go:69", after := #[], guard := none }) (v := ?_) 0 rfl ?_ ?_
              rotate_left
              · (intro w hSw; (try dsimp only at hSw); first | (go_simp; done) | (go_simp; with_reducible rfl))
              try simp only [Act.put, List.setIfInBounds_toArray, List.set_cons_zero, List.set_cons_succ]
              refine tk (oi := { dst := some 38, op := Op.move (Operand.tmp 3), type := 26, pos := "law.go:69", after := #[], guard := none }) (v := ?_) 1 rfl ?_ ?_
              rotate_left
              · (intro w hSw; (try dsimp only at hSw); first | (go_simp; done) | (go_simp; with_reducible rfl))
              try simp only [Act.put, List.setIfInBounds_toArray, List.set_cons_zero, List.set_cons_succ]
              refine tk (oi := { dst := some 39, op := Op.call { callee := Callee.builtin Builtin.len, args := #[Operand.tmp 38], argTypes := #[26] }, type := 3, pos := "law.go:69", after := #[{ on := 1, ground := Ground.data }], guard := none }) (v := ?_) 2 rfl ?_ ?_
              rotate_left
              · (intro w hSw; (try dsimp only at hSw); first | (go_simp; done) | (go_simp; with_reducible rfl))
              try simp only [Act.put, List.setIfInBounds_toArray, List.set_cons_zero, List.set_cons_succ]
              refine tk (oi := { dst := some 40, op := Op.binOp BinOp.eql 3 (Operand.tmp 37) (Operand.tmp 39) 3, type := 4, pos := "law.go:69", after := #[{ on := 0, ground := Ground.data }, { on := 2, ground := Ground.data }], guard := none }) (v := ?_) 3 rfl ?_ ?_
              rotate_left
              · (intro w hSw; (try dsimp only at hSw); first | (go_simp; done) | (go_simp; with_reducible rfl))
              try simp only [Act.put, List.setIfInBounds_toArray, List.set_cons_zero, List.set_cons_succ]
              refine tk (oi := { dst := some 41, op := Op.move (Operand.tmp 40), type := 4, pos := "law.go:69", after := #[{ on := 3, ground := Ground.data }], guard := none }) (v := ?_) 4 rfl ?_ ?_
              rotate_left
              · (intro w hSw; (try dsimp only at hSw); first | (go_simp; done) | (go_simp; with_reducible rfl))
              try simp only [Act.put, List.setIfInBounds_toArray, List.set_cons_zero, List.set_cons_succ]
              refine wpAnyH_take (i := 5) (oi := { dst := some 42, op := Op.move (Operand.tmp 0), type := 26, pos := "law.go:69", after := #[{ on := 4, ground := Ground.guard }], guard := some (4, false) }) (v := undef) rfl (by kernel_rfl) (by kernel_rfl) (by kernel_rfl) (fun _ _ _ h => h) (Or.inr ⟨by rfl, rfl⟩) (by assumption) ?_
              try simp only [Act.put, List.setIfInBounds_toArray, List.set_cons_zero, List.set_cons_succ]
              refine wpAnyH_take (i := 6) (oi := { dst := some 43, op := Op.move (Operand.tmp 4), type := 3, pos := "law.go:69", after := #[{ on := 4, ground := Ground.guard }], guard := some (4, false) }) (v := undef) rfl (by kernel_rfl) (by kernel_rfl) (by kernel_rfl) (fun _ _ _ h => h) (Or.inr ⟨by rfl, rfl⟩) (by assumption) ?_
              try simp only [Act.put, List.setIfInBounds_toArray, List.set_cons_zero, List.set_cons_succ]
              refine wpAnyH_take (i := 7) (oi := { dst := some 44, op := Op.indexAddr 26 (Operand.tmp 42) (Operand.tmp 43), type := 0, pos := "law.go:69", after := #[{ on := 5, ground := Ground.data }, { on := 6, ground := Ground.data }, { on := 4, ground := Ground.guard }], guard := some (4, false) }) (v := undef) rfl (by kernel_rfl) (by kernel_rfl) (by kernel_rfl) (fun _ _ _ h => h) (Or.inr ⟨by rfl, rfl⟩) (by assumption) ?_
              try simp only [Act.put, List.setIfInBounds_toArray, List.set_cons_zero, List.set_cons_succ]
              refine wpAnyH_take (i := 8) (oi := { dst := some 45, op := Op.load 23 (Operand.tmp 44), type := 23, pos := "law.go:69", after := #[{ on := 7, ground := Ground.data }, { on := 4, ground := Ground.guard }], guard := some (4, false) }) (v := undef) rfl (by kernel_rfl) (by kernel_rfl) (by kernel_rfl) (fun _ _ _ h => h) (Or.inr ⟨by rfl, rfl⟩) (by assumption) ?_
              try simp only [Act.put, List.setIfInBounds_toArray, List.set_cons_zero, List.set_cons_succ]
              refine wpAnyH_take (i := 9) (oi := { dst := some 46, op := Op.move (Operand.tmp 3), type := 26, pos := "law.go:69", after := #[{ on := 4, ground := Ground.guard }], guard := some (4, false) }) (v := undef) rfl (by kernel_rfl) (by kernel_rfl) (by kernel_rfl) (fun _ _ _ h => h) (Or.inr ⟨by rfl, rfl⟩) (by assumption) ?_
              try simp only [Act.put, List.setIfInBounds_toArray, List.set_cons_zero, List.set_cons_succ]
              refine wpAnyH_take (i := 10) (oi := { dst := some 47, op := Op.move (Operand.tmp 6), type := 3, pos := "law.go:69", after := #[{ on := 4, ground := Ground.guard }], guard := some (4, false) }) (v := undef) rfl (by kernel_rfl) (by kernel_rfl) (by kernel_rfl) (fun _ _ _ h => h) (Or.inr ⟨by rfl, rfl⟩) (by assumption) ?_
              try simp only [Act.put, List.setIfInBounds_toArray, List.set_cons_zero, List.set_cons_succ]
              refine wpAnyH_take (i := 11) (oi := { dst := some 48, op := Op.indexAddr 26 (Operand.tmp 46) (Operand.tmp 47), type := 0, pos := "law.go:69", after := #[{ on := 9, ground := Ground.data }, { on := 10, ground := Ground.data }, { on := 4, ground := Ground.guard }], guard := some (4, false) }) (v := undef) rfl (by kernel_rfl) (by kernel_rfl) (by kernel_rfl) (fun _ _ _ h => h) (Or.inr ⟨by rfl, rfl⟩) (by assumption) ?_
              try simp only [Act.put, List.setIfInBounds_toArray, List.set_cons_zero, List.set_cons_succ]
              refine wpAnyH_take (i := 12) (oi := { dst := some 49, op := Op.load 23 (Operand.tmp 48), type := 23, pos := "law.go:69", after := #[{ on := 11, ground := Ground.data }, { on := 4, ground := Ground.guard }], guard := some (4, false) }) (v := undef) rfl (by kernel_rfl) (by kernel_rfl) (by kernel_rfl) (fun _ _ _ h => h) (Or.inr ⟨by rfl, rfl⟩) (by assumption) ?_
              try simp only [Act.put, List.setIfInBounds_toArray, List.set_cons_zero, List.set_cons_succ]
              refine wpAnyH_take (i := 13) (oi := { dst := some 50, op := Op.call { callee := Callee.value (Operand.func 19), args := #[Operand.tmp 45, Operand.tmp 49], argTypes := #[23, 23] }, type := 4, pos := "law.go:69", after := #[{ on := 8, ground := Ground.data }, { on := 12, ground := Ground.data }, { on := 4, ground := Ground.chain }, { on := 4, ground := Ground.guard }], guard := some (4, false) }) (v := undef) rfl (by kernel_rfl) (by kernel_rfl) (by kernel_rfl) (fun _ _ _ h => h) (Or.inr ⟨by rfl, rfl⟩) (by assumption) ?_
              try simp only [Act.put, List.setIfInBounds_toArray, List.set_cons_zero, List.set_cons_succ]
              refine tk (oi := { dst := some 51, op := Op.pick (Operand.tmp 41) (Operand.const (Value.bool true)) (Operand.tmp 50), type := 4, pos := "law.go:69", after := #[{ on := 4, ground := Ground.data }, { on := 13, ground := Ground.data }], guard := none }) (v := ?_) 14 rfl ?_ ?_
              rotate_left
              · (intro w hSw; (try dsimp only at hSw); first | (go_simp; done) | (go_simp; with_reducible rfl))
              try simp only [Act.put, List.setIfInBounds_toArray, List.set_cons_zero, List.set_cons_succ]
              refine wpAnyH_done (by kernel_rfl) ?_ _
              obtain ⟨zb, hzb⟩ : ∃ x, x = wr.drew.drew := ⟨_, rfl⟩
              rw [← hzb] at HX3 ⊢
              clear hzb
              have HBW := Lib.hid (HB1.out.trans HX3.out)
              have HOWR := Lib.hid (HO1.out.bel HX3.out)
              have HEC := Lib.hid (cells4 HBW.out HC0.out)
              have hCl : C.length ≤ i := hci
              have HS1 := Lib.hid (show ∀ x, Bel zb x → SrcAt entEl x (.slice (some ⟨g, 0, none⟩) k ccap) (C.take k) from fun x hx => by
                have := own_piece entOk (HOWR.out.bel hx) 0 k ccap (by omega)
                simpa using this)
              have HPK : ∃ pk, (if ccap = k then some (⟨g, 0, none⟩ : Addr) else some ⟨g, k * 4, none⟩) = some pk ∧ ∀ x, Bel zb x → SrcAt entEl x (.slice (some pk) (C.length - k) (ccap - k)) (C.drop k) := by
                by_cases hck0 : ccap = k
                · refine ⟨_, if_pos hck0, fun x hx => Or.inr ⟨_, _, by rw [List.length_drop], fun j u hj => ?_⟩⟩
                  rw [List.drop_eq_nil_of_le (by omega)] at hj
                  simp [El.all] at hj
                · refine ⟨_, if_neg hck0, fun x hx => ?_⟩
                  have := own_piece entOk (HOWR.out.bel hx) k (C.length - k) (ccap - k) (by omega)
                  rw [List.take_of_length_le (by rw [List.length_drop]; omega)] at this
                  exact this
              obtain ⟨pk, hpk, hps⟩ := HPK
              have HS2 := Lib.hid hps
              have hkc : k ≤ ccap := by omega
              clear hps
              go_wp2_with (fail)
              have HBR := Lib.hid (Bel.refl zb)
              refine wp_region_held_drew (S := fun z => z.cell? ⟨B, O, sp⟩ = some (.string e0.k) ∧ z.cell? ⟨B, O + 1, none⟩ = some (.int .i64 e0.q) ∧ z.cell? ⟨B, O + 2, none⟩ = some (.bool e0.d) ∧ z.cell? ⟨B, O + 3, none⟩ = some (.string e0.v)) (by kernel_rfl) HEC.out (fun hHeld => ?_)
              refine tk (oi := { dst := some 53, op := Op.move (Operand.tmp 3), type := 26, pos := "law.go:70", after := #[], guard := none }) (v := ?_) 1 rfl ?_ ?_
              rotate_left
              · (intro w hSw; (try dsimp only at hSw); first | (go_simp; done) | (go_simp; with_reducible rfl))
              try simp only [Act.put, List.setIfInBounds_toArray, List.set_cons_zero, List.set_cons_succ]
              refine tk (oi := { dst := some 54, op := Op.move (Operand.tmp 6), type := 3, pos := "law.go:70", after := #[], guard := none }) (v := ?_) 2 rfl ?_ ?_
              rotate_left
              · (intro w hSw; (try dsimp only at hSw); first | (go_simp; done) | (go_simp; with_reducible rfl))
              try simp only [Act.put, List.setIfInBounds_toArray, List.set_cons_zero, List.set_cons_succ]
              refine tk (oi := { dst := some 55, op := Op.slice 26 (Operand.tmp 53) none (some (Operand.tmp 54)) none, type := 26, pos := "law.go:70", after := #[{ on := 1, ground := Ground.data }, { on := 2, ground := Ground.data }], guard := none }) (v := ?_) 3 rfl ?_ ?_
              rotate_left
              · (intro w hSw; (try dsimp only at hSw); first | (go_simp; done) | (go_simp; with_reducible rfl))
              try simp only [Act.put, List.setIfInBounds_toArray, List.set_cons_zero, List.set_cons_succ]
              refine tk (oi := { dst := some 57, op := Op.move (Operand.tmp 0), type := 26, pos := "law.go:70", after := #[], guard := none }) (v := ?_) 5 rfl ?_ ?_
              rotate_left
              · (intro w hSw; (try dsimp only at hSw); first | (go_simp; done) | (go_simp; with_reducible rfl))
              try simp only [Act.put, List.setIfInBounds_toArray, List.set_cons_zero, List.set_cons_succ]
              refine tk (oi := { dst := some 58, op := Op.move (Operand.tmp 4), type := 3, pos := "law.go:70", after := #[], guard := none }) (v := ?_) 6 rfl ?_ ?_
              rotate_left
              · (intro w hSw; (try dsimp only at hSw); first | (go_simp; done) | (go_simp; with_reducible rfl))
              try simp only [Act.put, List.setIfInBounds_toArray, List.set_cons_zero, List.set_cons_succ]
              refine tk (oi := { dst := some 59, op := Op.indexAddr 26 (Operand.tmp 57) (Operand.tmp 58), type := 0, pos := "law.go:70", after := #[{ on := 5, ground := Ground.data }, { on := 6, ground := Ground.data }], guard := none }) (v := ?_) 7 rfl ?_ ?_
              rotate_left
              · (intro w hSw; (try dsimp only at hSw); first | (go_simp; done) | (go_simp; with_reducible rfl))
              try simp only [Act.put, List.setIfInBounds_toArray, List.set_cons_zero, List.set_cons_succ]
              refine tk (oi := { dst := some 60, op := Op.load 23 (Operand.tmp 59), type := 23, pos := "law.go:70", after := #[{ on := 7, ground := Ground.data }], guard := none }) (v := ?_) 8 rfl ?_ ?_
              rotate_left
              · (intro w hSw; (try dsimp only at hSw); first | (go_simp; done) | (go_simp; with_reducible rfl))
              try simp only [Act.put, List.setIfInBounds_toArray, List.set_cons_zero, List.set_cons_succ]
              refine tk (oi := { dst := some 63, op := Op.move (Operand.tmp 3), type := 26, pos := "law.go:70", after := #[], guard := none }) (v := ?_) 11 rfl ?_ ?_
              rotate_left
              · (intro w hSw; (try dsimp only at hSw); first | (go_simp; done) | (go_simp; with_reducible rfl))
              try simp only [Act.put, List.setIfInBounds_toArray, List.set_cons_zero, List.set_cons_succ]
              refine tk (oi := { dst := some 64, op := Op.move (Operand.tmp 6), type := 3, pos := "law.go:70", after := #[], guard := none }) (v := ?_) 12 rfl ?_ ?_
              rotate_left
              · (intro w hSw; (try dsimp only at hSw); first | (go_simp; done) | (go_simp; with_reducible rfl))
              try simp only [Act.put, List.setIfInBounds_toArray, List.set_cons_zero, List.set_cons_succ]
              refine tk (oi := { dst := some 65, op := Op.slice 26 (Operand.tmp 63) (some (Operand.tmp 64)) none none, type := 26, pos := "law.go:70", after := #[{ on := 11, ground := Ground.data }, { on := 12, ground := Ground.data }], guard := none }) (v := ?_) 13 rfl ?_ ?_
              rotate_left
              · (intro w hSw; (try dsimp only at hSw); first | (go_simp; done) | (go_simp; with_reducible rfl))
              try simp only [Act.put, List.setIfInBounds_toArray, List.set_cons_zero, List.set_cons_succ]
              refine wpAnyH_ready (rs := [0, 9]) (by kernel_rfl) (by simp) ?_
              refine (AllReadyH.cons (o := { dst := some 52, op := Op.buildSlice 26 0 #[], type := 26, pos := "law.go:70", after := #[], guard := none }) rfl (fun K hK => ?_) (AllReadyH.cons (o := { dst := some 61, op := Op.buildSlice 26 1 #[(0, Operand.tmp 60)], type := 26, pos := "law.go:70", after := #[{ on := 8, ground := Ground.data }], guard := none }) rfl (fun K hK => ?_) AllReadyH.nil))
              · go_simp
                have hbq : Bel zb (zb.alloc (.cells #[] 23)).drew := ((Bel.refl zb).alloc _).drew
                refine hK.out _ _ (cells4 (HBR.out.trans hbq) HEC.out) (fun hHeld => ?_)
                clear hbq
                clear hK K
                try simp only [Act.put, List.setIfInBounds_toArray, List.set_cons_zero, List.set_cons_succ]
                obtain ⟨z1, hz1⟩ : ∃ x, x = (zb.alloc (.cells #[] 23)).drew := ⟨_, rfl⟩
                have HLE := Lib.hid (show z1.heap[zb.heap.size]? = some (.cells #[] 23 (0, 0)) by rw [hz1]; exact heap_alloc_new zb (.cells #[] 23))
                have hltE : zb.heap.size < z1.heap.size := (Array.getElem?_eq_some_iff.1 HLE.out).1
                have hbz1 : Bel zb z1 := by rw [hz1]; exact ((Bel.refl zb).alloc _).drew
                have HBz1 := Lib.hid (HBR.out.trans hbz1)
                rw [← hz1]
                clear hz1
                have HOE := Lib.hid (ownG_empty (E := entEl) (n := zb.heap.size) HLE.out HBR.out.size)
                refine wpAnyH_ready (rs := [4, 9]) (by kernel_rfl) (by simp) ?_
                refine (AllReadyH.cons (o := { dst := some 56, op := Op.call { callee := Callee.builtin Builtin.append, args := #[Operand.tmp 52, Operand.tmp 55], argTypes := #[26, 26] }, type := 26, pos := "law.go:70", after := #[{ on := 0, ground := Ground.data }, { on := 3, ground := Ground.data }], guard := none }) rfl (fun K hK => ?_) (AllReadyH.cons (o := { dst := some 61, op := Op.buildSlice 26 1 #[(0, Operand.tmp 60)], type := 26, pos := "law.go:70", after := #[{ on := 8, ground := Ground.data }], guard := none }) rfl (fun K hK => ?_) AllReadyH.nil))
                · refine step_append_all entOk rfl (.tmp 52) (.tmp 55) rfl rfl HOE.out (C.take k) rfl (HS1.out z1 HBz1.out) (by simp only [List.length_nil, List.length_take]; unfold maxLen; omega) (by simp only [List.length_nil, List.length_take]; omega) HBz1.out.size ?_
                  intro vz2 z2 hoz2 hkz2 _
                  have HBz2 := Lib.hid (show Bel zb z2 from HBz1.out.trans_below (hkz2.own HBz1.out.size (fun kk hkk => (HOE.out.lt kk hkk).1)))
                  rw [List.nil_append] at hoz2
                  have hkkz2 : Keep (Value.ownBlock (.slice (some ⟨zb.heap.size, 0, none⟩) 0 0)).toList z1 z2 := hkz2
                  have HO2 := Lib.hid hoz2
                  clear hoz2 hkz2 hkkz2
                  refine hK.out _ _ (cells4 HBz2.out HEC.out) (fun hHeld => ?_)
                  clear hK K
                  try simp only [Act.put, List.setIfInBounds_toArray, List.set_cons_zero, List.set_cons_succ]
                  refine wpAnyH_ready (rs := [9]) (by kernel_rfl) (by simp) ?_
                  refine AllReadyH.cons (o := { dst := some 61, op := Op.buildSlice 26 1 #[(0, Operand.tmp 60)], type := 26, pos := "law.go:70", after := #[{ on := 8, ground := Ground.data }], guard := none }) rfl (fun K hK => ?_) AllReadyH.nil
                  go_simp
                  have hbq : Bel z2 (z2.alloc (.cells #[.string e0.k, .int .i64 e0.q, .bool e0.d, .string e0.v] 23)) := ((Bel.refl z2).alloc _)
                  refine hK.out _ _ (cells4 (HBz2.out.trans hbq) HEC.out) (fun hHeld => ?_)
                  clear hbq
                  clear hK K
                  try simp only [Act.put, List.setIfInBounds_toArray, List.set_cons_zero, List.set_cons_succ]
                  obtain ⟨z3, hz3⟩ : ∃ x, x = (z2.alloc (.cells #[.string e0.k, .int .i64 e0.q, .bool e0.d, .string e0.v] 23)) := ⟨_, rfl⟩
                  have HLL := Lib.hid (show z3.heap[z2.heap.size]? = some (.cells #[.string e0.k, .int .i64 e0.q, .bool e0.d, .string e0.v] 23 (0, 0)) by rw [hz3]; exact heap_alloc_new z2 (.cells #[.string e0.k, .int .i64 e0.q, .bool e0.d, .string e0.v] 23))
                  have hltL : z2.heap.size < z3.heap.size := (Array.getElem?_eq_some_iff.1 HLL.out).1
                  have hbz3 : Bel z2 z3 := by rw [hz3]; exact ((Bel.refl z2).alloc _)
                  have HBz3 := Lib.hid (HBz2.out.trans hbz3)
                  rw [← hz3]
                  clear hz3
                  have HO2b := Lib.hid (HO2.out.bel hbz3)
                  refine wpAnyH_ready (rs := [10]) (by kernel_rfl) (by simp) ?_
                  refine AllReadyH.cons (o := { dst := some 62, op := Op.call { callee := Callee.builtin Builtin.append, args := #[Operand.tmp 56, Operand.tmp 61], argTypes := #[26, 26] }, type := 26, pos := "law.go:70", after := #[{ on := 4, ground := Ground.data }, { on := 9, ground := Ground.data }, { on := 4, ground := Ground.chain }], guard := none }) rfl (fun K hK => ?_) AllReadyH.nil
                  refine step_append_all entOk rfl (.tmp 56) (.tmp 61) rfl rfl HO2b.out [e0] rfl (src_at [e0] HLL.out rfl rfl) (by simp only [List.length_take, List.length_singleton]; unfold maxLen; omega) (by simp only [List.length_take, List.length_singleton]; omega) HBz3.out.size ?_
                  intro vz4 z4 hoz4 hkz4 _
                  have HBz4 := Lib.hid (show Bel zb z4 from HBz3.out.trans_below (hkz4.own HBz3.out.size (fun kk hkk => (HO2b.out.lt kk hkk).1)))
                  have HO3 := Lib.hid hoz4
                  clear hoz4 hkz4
                  refine hK.out _ _ (cells4 HBz4.out HEC.out) (fun hHeld => ?_)
                  clear hK K
                  try simp only [Act.put, List.setIfInBounds_toArray, List.set_cons_zero, List.set_cons_succ]
                  refine wpAnyH_ready (rs := [14]) (by kernel_rfl) (by simp) ?_
                  refine AllReadyH.cons (o := { dst := some 66, op := Op.call { callee := Callee.builtin Builtin.append, args := #[Operand.tmp 62, Operand.tmp 65], argTypes := #[26, 26] }, type := 26, pos := "law.go:70", after := #[{ on := 10, ground := Ground.data }, { on := 13, ground := Ground.data }, { on := 10, ground := Ground.chain }], guard := none }) rfl (fun K hK => ?_) AllReadyH.nil
                  refine step_append_all entOk rfl (.tmp 62) (.tmp 65) rfl rfl HO3.out (C.drop k) rfl (HS2.out z4 HBz4.out) (by simp only [List.length_append, List.length_take, List.length_singleton, List.length_drop]; unfold maxLen; omega) (by simp only [List.length_append, List.length_take, List.length_singleton, List.length_drop]; omega) HBz4.out.size ?_
                  intro vz5 z5 hoz5 hkz5 _
                  have HBz5 := Lib.hid (show Bel zb z5 from HBz4.out.trans_below (hkz5.own HBz4.out.size (fun kk hkk => (HO3.out.lt kk hkk).1)))
                  have HO4 := Lib.hid hoz5
                  clear hoz5 hkz5
                  refine hK.out _ _ (cells4 HBz5.out HEC.out) (fun hHeld => ?_)
                  clear hK K
                  try simp only [Act.put, List.setIfInBounds_toArray, List.set_cons_zero, List.set_cons_succ]
                  refine tk (oi := { dst := some 3, op := Op.assign (Operand.tmp 66), type := 26, pos := "law.go:70", after := #[{ on := 14, ground := Ground.data }, { on := 14, ground := Ground.chain }, { on := 0, ground := Ground.phase }, { on := 1, ground := Ground.phase }, { on := 2, ground := Ground.phase }, { on := 3, ground := Ground.phase }, { on := 4, ground := Ground.phase }, { on := 5, ground := Ground.phase }, { on := 6, ground := Ground.phase }, { on := 7, ground := Ground.phase }, { on := 8, ground := Ground.phase }, { on := 9, ground := Ground.phase }, { on := 10, ground := Ground.phase }, { on := 11, ground := Ground.phase }, { on := 12, ground := Ground.phase }, { on := 13, ground := Ground.phase }, { on := 14, ground := Ground.phase }], guard := none }) (v := ?_) 15 rfl ?_ ?_
                  rotate_left
                  · (intro w hSw; (try dsimp only at hSw); first | (go_simp; done) | (go_simp; with_reducible rfl))
                  try simp only [Act.put, List.setIfInBounds_toArray, List.set_cons_zero, List.set_cons_succ]
                  refine wpAnyH_done (by kernel_rfl) ?_ _
                  have HFIN := Lib.hid (show C.take k ++ [e0] ++ C.drop k = insE e0 C by rw [HADD.out]; simp)
                  have HOF := Lib.hid (show OwnG entEl w.heap.size z5 vz5 (insE e0 C) by rw [← HFIN.out]; exact HO4.out.low HBW.out.size)
                  obtain ⟨pf, cf, hvf⟩ := ownG_len HOF.out
                  rw [hvf] at HOF ⊢
                  clear hvf
                  generalize (insE e0 C).length = nf at *
                  clear hHeld
                  go_wp2_with (fail)
                  go_roundw
                  case rel => exact ⟨i + 1, hlt, by go_num, by rw [HN.out, HST.out]; exact HOF.out, HBW.out.trans HBz5.out⟩
                  case measure => simp [intOf]; omega
                · go_simp
                  have hbq : Bel z1 (z1.alloc (.cells #[.string e0.k, .int .i64 e0.q, .bool e0.d, .string e0.v] 23)) := ((Bel.refl z1).alloc _)
                  refine hK.out _ _ (cells4 (HBz1.out.trans hbq) HEC.out) (fun hHeld => ?_)
                  clear hbq
                  clear hK K
                  try simp only [Act.put, List.setIfInBounds_toArray, List.set_cons_zero, List.set_cons_succ]
                  obtain ⟨z2, hz2⟩ : ∃ x, x = (z1.alloc (.cells #[.string e0.k, .int .i64 e0.q, .bool e0.d, .string e0.v] 23)) := ⟨_, rfl⟩
                  have HLL := Lib.hid (show z2.heap[z1.heap.size]? = some (.cells #[.string e0.k, .int .i64 e0.q, .bool e0.d, .string e0.v] 23 (0, 0)) by rw [hz2]; exact heap_alloc_new z1 (.cells #[.string e0.k, .int .i64 e0.q, .bool e0.d, .string e0.v] 23))
                  have hltL : z1.heap.size < z2.heap.size := (Array.getElem?_eq_some_iff.1 HLL.out).1
                  have hbz2 : Bel z1 z2 := by rw [hz2]; exact ((Bel.refl z1).alloc _)
                  have HBz2 := Lib.hid (HBz1.out.trans hbz2)
                  rw [← hz2]
                  clear hz2
                  have HOE2 := Lib.hid (HOE.out.bel hbz2)
                  refine wpAnyH_ready (rs := [4]) (by kernel_rfl) (by simp) ?_
                  refine AllReadyH.cons (o := { dst := some 56, op := Op.call { callee := Callee.builtin Builtin.append, args := #[Operand.tmp 52, Operand.tmp 55], argTypes := #[26, 26] }, type := 26, pos := "law.go:70", after := #[{ on := 0, ground := Ground.data }, { on := 3, ground := Ground.data }], guard := none }) rfl (fun K hK => ?_) AllReadyH.nil
                  refine step_append_all entOk rfl (.tmp 52) (.tmp 55) rfl rfl HOE2.out (C.take k) rfl (HS1.out z2 HBz2.out) (by simp only [List.length_nil, List.length_take]; unfold maxLen; omega) (by simp only [List.length_nil, List.length_take]; omega) HBz2.out.size ?_
                  intro vz3 z3 hoz3 hkz3 _
                  have HBz3 := Lib.hid (show Bel zb z3 from HBz2.out.trans_below (hkz3.own HBz2.out.size (fun kk hkk => (HOE2.out.lt kk hkk).1)))
                  rw [List.nil_append] at hoz3
                  have hkkz3 : Keep (Value.ownBlock (.slice (some ⟨zb.heap.size, 0, none⟩) 0 0)).toList z2 z3 := hkz3
                  have HLL3 := Lib.hid (hkkz3.at HLL.out (fun hm => by rw [Option.mem_toList] at hm; simp only [Value.ownBlock, Option.some.injEq] at hm; omega))
                  have HO2 := Lib.hid hoz3
                  clear hoz3 hkz3 hkkz3
                  refine hK.out _ _ (cells4 HBz3.out HEC.out) (fun hHeld => ?_)
                  clear hK K
                  try simp only [Act.put, List.setIfInBounds_toArray, List.set_cons_zero, List.set_cons_succ]
                  refine wpAnyH_ready (rs := [10]) (by kernel_rfl) (by simp) ?_
                  refine AllReadyH.cons (o := { dst := some 62, op := Op.call { callee := Callee.builtin Builtin.append, args := #[Operand.tmp 56, Operand.tmp 61], argTypes := #[26, 26] }, type := 26, pos := "law.go:70", after := #[{ on := 4, ground := Ground.data }, { on := 9, ground := Ground.data }, { on := 4, ground := Ground.chain }], guard := none }) rfl (fun K hK => ?_) AllReadyH.nil
                  refine step_append_all entOk rfl (.tmp 56) (.tmp 61) rfl rfl HO2.out [e0] rfl (src_at [e0] HLL3.out rfl rfl) (by simp only [List.length_take, List.length_singleton]; unfold maxLen; omega) (by simp only [List.length_take, List.length_singleton]; omega) HBz3.out.size ?_
                  intro vz4 z4 hoz4 hkz4 _
                  have HBz4 := Lib.hid (show Bel zb z4 from HBz3.out.trans_below (hkz4.own HBz3.out.size (fun kk hkk => (HO2.out.lt kk hkk).1)))
                  have HO3 := Lib.hid hoz4
                  clear hoz4 hkz4
                  refine hK.out _ _ (cells4 HBz4.out HEC.out) (fun hHeld => ?_)
                  clear hK K
                  try simp only [Act.put, List.setIfInBounds_toArray, List.set_cons_zero, List.set_cons_succ]
                  refine wpAnyH_ready (rs := [14]) (by kernel_rfl) (by simp) ?_
                  refine AllReadyH.cons (o := { dst := some 66, op := Op.call { callee := Callee.builtin Builtin.append, args := #[Operand.tmp 62, Operand.tmp 65], argTypes := #[26, 26] }, type := 26, pos := "law.go:70", after := #[{ on := 10, ground := Ground.data }, { on := 13, ground := Ground.data }, { on := 10, ground := Ground.chain }], guard := none }) rfl (fun K hK => ?_) AllReadyH.nil
                  refine step_append_all entOk rfl (.tmp 62) (.tmp 65) rfl rfl HO3.out (C.drop k) rfl (HS2.out z4 HBz4.out) (by simp only [List.length_append, List.length_take, List.length_singleton, List.length_drop]; unfold maxLen; omega) (by simp only [List.length_append, List.length_take, List.length_singleton, List.length_drop]; omega) HBz4.out.size ?_
                  intro vz5 z5 hoz5 hkz5 _
                  have HBz5 := Lib.hid (show Bel zb z5 from HBz4.out.trans_below (hkz5.own HBz4.out.size (fun kk hkk => (HO3.out.lt kk hkk).1)))
                  have HO4 := Lib.hid hoz5
                  clear hoz5 hkz5
                  refine hK.out _ _ (cells4 HBz5.out HEC.out) (fun hHeld => ?_)
                  clear hK K
                  try simp only [Act.put, List.setIfInBounds_toArray, List.set_cons_zero, List.set_cons_succ]
                  refine tk (oi := { dst := some 3, op := Op.assign (Operand.tmp 66), type := 26, pos := "law.go:70", after := #[{ on := 14, ground := Ground.data }, { on := 14, ground := Ground.chain }, { on := 0, ground := Ground.phase }, { on := 1, ground := Ground.phase }, { on := 2, ground := Ground.phase }, { on := 3, ground := Ground.phase }, { on := 4, ground := Ground.phase }, { on := 5, ground := Ground.phase }, { on := 6, ground := Ground.phase }, { on := 7, ground := Ground.phase }, { on := 8, ground := Ground.phase }, { on := 9, ground := Ground.phase }, { on := 10, ground := Ground.phase }, { on := 11, ground := Ground.phase }, { on := 12, ground := Ground.phase }, { on := 13, ground := Ground.phase }, { on := 14, ground := Ground.phase }], guard := none }) (v := ?_) 15 rfl ?_ ?_
                  rotate_left
                  · (intro w hSw; (try dsimp only at hSw); first | (go_simp; done) | (go_simp; with_reducible rfl))
                  try simp only [Act.put, List.setIfInBounds_toArray, List.set_cons_zero, List.set_cons_succ]
                  refine wpAnyH_done (by kernel_rfl) ?_ _
                  have HFIN := Lib.hid (show C.take k ++ [e0] ++ C.drop k = insE e0 C by rw [HADD.out]; simp)
                  have HOF := Lib.hid (show OwnG entEl w.heap.size z5 vz5 (insE e0 C) by rw [← HFIN.out]; exact HO4.out.low HBW.out.size)
                  obtain ⟨pf, cf, hvf⟩ := ownG_len HOF.out
                  rw [hvf] at HOF ⊢
                  clear hvf
                  generalize (insE e0 C).length = nf at *
                  clear hHeld
                  go_wp2_with (fail)
                  go_roundw
                  case rel => exact ⟨i + 1, hlt, by go_num, by rw [HN.out, HST.out]; exact HOF.out, HBW.out.trans HBz5.out⟩
                  case measure => simp [intOf]; omega
              · go_simp
                have hbq : Bel zb (zb.alloc (.cells #[.string e0.k, .int .i64 e0.q, .bool e0.d, .string e0.v] 23)).drew := ((Bel.refl zb).alloc _).drew
                refine hK.out _ _ (cells4 (HBR.out.trans hbq) HEC.out) (fun hHeld => ?_)
                clear hbq
                clear hK K
                try simp only [Act.put, List.setIfInBounds_toArray, List.set_cons_zero, List.set_cons_succ]
                obtain ⟨z1, hz1⟩ : ∃ x, x = (zb.alloc (.cells #[.string e0.k, .int .i64 e0.q, .bool e0.d, .string e0.v] 23)).drew := ⟨_, rfl⟩
                have HLL := Lib.hid (show z1.heap[zb.heap.size]? = some (.cells #[.string e0.k, .int .i64 e0.q, .bool e0.d, .string e0.v] 23 (0, 0)) by rw [hz1]; exact heap_alloc_new zb (.cells #[.string e0.k, .int .i64 e0.q, .bool e0.d, .string e0.v] 23))
                have hltL : zb.heap.size < z1.heap.size := (Array.getElem?_eq_some_iff.1 HLL.out).1
                have hbz1 : Bel zb z1 := by rw [hz1]; exact ((Bel.refl zb).alloc _).drew
                have HBz1 := Lib.hid (HBR.out.trans hbz1)
                rw [← hz1]
                clear hz1
                refine wpAnyH_ready (rs := [0]) (by kernel_rfl) (by simp) ?_
                refine AllReadyH.cons (o := { dst := some 52, op := Op.buildSlice 26 0 #[], type := 26, pos := "law.go:70", after := #[], guard := none }) rfl (fun K hK => ?_) AllReadyH.nil
                go_simp
                have hbq : Bel z1 (z1.alloc (.cells #[] 23)) := ((Bel.refl z1).alloc _)
                refine hK.out _ _ (cells4 (HBz1.out.trans hbq) HEC.out) (fun hHeld => ?_)
                clear hbq
                clear hK K
                try simp only [Act.put, List.setIfInBounds_toArray, List.set_cons_zero, List.set_cons_succ]
                obtain ⟨z2, hz2⟩ : ∃ x, x = (z1.alloc (.cells #[] 23)) := ⟨_, rfl⟩
                have HLE := Lib.hid (show z2.heap[z1.heap.size]? = some (.cells #[] 23 (0, 0)) by rw [hz2]; exact heap_alloc_new z1 (.cells #[] 23))
                have hltE : z1.heap.size < z2.heap.size := (Array.getElem?_eq_some_iff.1 HLE.out).1
                have hbz2 : Bel z1 z2 := by rw [hz2]; exact ((Bel.refl z1).alloc _)
                have HBz2 := Lib.hid (HBz1.out.trans hbz2)
                rw [← hz2]
                clear hz2
                have HOE := Lib.hid (ownG_empty (E := entEl) (n := zb.heap.size) HLE.out HBz1.out.size)
                have HLL2 := Lib.hid ((Below.block hbz2 zb.heap.size (by omega)).trans HLL.out)
                refine wpAnyH_ready (rs := [4]) (by kernel_rfl) (by simp) ?_
                refine AllReadyH.cons (o := { dst := some 56, op := Op.call { callee := Callee.builtin Builtin.append, args := #[Operand.tmp 52, Operand.tmp 55], argTypes := #[26, 26] }, type := 26, pos := "law.go:70", after := #[{ on := 0, ground := Ground.data }, { on := 3, ground := Ground.data }], guard := none }) rfl (fun K hK => ?_) AllReadyH.nil
                refine step_append_all entOk rfl (.tmp 52) (.tmp 55) rfl rfl HOE.out (C.take k) rfl (HS1.out z2 HBz2.out) (by simp only [List.length_nil, List.length_take]; unfold maxLen; omega) (by simp only [List.length_nil, List.length_take]; omega) HBz2.out.size ?_
                intro vz3 z3 hoz3 hkz3 _
                have HBz3 := Lib.hid (show Bel zb z3 from HBz2.out.trans_below (hkz3.own HBz2.out.size (fun kk hkk => (HOE.out.lt kk hkk).1)))
                rw [List.nil_append] at hoz3
                have hkkz3 : Keep (Value.ownBlock (.slice (some ⟨z1.heap.size, 0, none⟩) 0 0)).toList z2 z3 := hkz3
                have HLL3 := Lib.hid (hkkz3.at HLL2.out (fun hm => by rw [Option.mem_toList] at hm; simp only [Value.ownBlock, Option.some.injEq] at hm; omega))
                have HO2 := Lib.hid hoz3
                clear hoz3 hkz3 hkkz3
                refine hK.out _ _ (cells4 HBz3.out HEC.out) (fun hHeld => ?_)
                clear hK K
                try simp only [Act.put, List.setIfInBounds_toArray, List.set_cons_zero, List.set_cons_succ]
                refine wpAnyH_ready (rs := [10]) (by kernel_rfl) (by simp) ?_
                refine AllReadyH.cons (o := { dst := some 62, op := Op.call { callee := Callee.builtin Builtin.append, args := #[Operand.tmp 56, Operand.tmp 61], argTypes := #[26, 26] }, type := 26, pos := "law.go:70", after := #[{ on := 4, ground := Ground.data }, { on := 9, ground := Ground.data }, { on := 4, ground := Ground.chain }], guard := none }) rfl (fun K hK => ?_) AllReadyH.nil
                refine step_append_all entOk rfl (.tmp 56) (.tmp 61) rfl rfl HO2.out [e0] rfl (src_at [e0] HLL3.out rfl rfl) (by simp only [List.length_take, List.length_singleton]; unfold maxLen; omega) (by simp only [List.length_take, List.length_singleton]; omega) HBz3.out.size ?_
                intro vz4 z4 hoz4 hkz4 _
                have HBz4 := Lib.hid (show Bel zb z4 from HBz3.out.trans_below (hkz4.own HBz3.out.size (fun kk hkk => (HO2.out.lt kk hkk).1)))
                have HO3 := Lib.hid hoz4
                clear hoz4 hkz4
                refine hK.out _ _ (cells4 HBz4.out HEC.out) (fun hHeld => ?_)
                clear hK K
                try simp only [Act.put, List.setIfInBounds_toArray, List.set_cons_zero, List.set_cons_succ]
                refine wpAnyH_ready (rs := [14]) (by kernel_rfl) (by simp) ?_
                refine AllReadyH.cons (o := { dst := some 66, op := Op.call { callee := Callee.builtin Builtin.append, args := #[Operand.tmp 62, Operand.tmp 65], argTypes := #[26, 26] }, type := 26, pos := "law.go:70", after := #[{ on := 10, ground := Ground.data }, { on := 13, ground := Ground.data }, { on := 10, ground := Ground.chain }], guard := none }) rfl (fun K hK => ?_) AllReadyH.nil
                refine step_append_all entOk rfl (.tmp 62) (.tmp 65) rfl rfl HO3.out (C.drop k) rfl (HS2.out z4 HBz4.out) (by simp only [List.length_append, List.length_take, List.length_singleton, List.length_drop]; unfold maxLen; omega) (by simp only [List.length_append, List.length_take, List.length_singleton, List.length_drop]; omega) HBz4.out.size ?_
                intro vz5 z5 hoz5 hkz5 _
                have HBz5 := Lib.hid (show Bel zb z5 from HBz4.out.trans_below (hkz5.own HBz4.out.size (fun kk hkk => (HO3.out.lt kk hkk).1)))
                have HO4 := Lib.hid hoz5
                clear hoz5 hkz5
                refine hK.out _ _ (cells4 HBz5.out HEC.out) (fun hHeld => ?_)
                clear hK K
                try simp only [Act.put, List.setIfInBounds_toArray, List.set_cons_zero, List.set_cons_succ]
                refine tk (oi := { dst := some 3, op := Op.assign (Operand.tmp 66), type := 26, pos := "law.go:70", after := #[{ on := 14, ground := Ground.data }, { on := 14, ground := Ground.chain }, { on := 0, ground := Ground.phase }, { on := 1, ground := Ground.phase }, { on := 2, ground := Ground.phase }, { on := 3, ground := Ground.phase }, { on := 4, ground := Ground.phase }, { on := 5, ground := Ground.phase }, { on := 6, ground := Ground.phase }, { on := 7, ground := Ground.phase }, { on := 8, ground := Ground.phase }, { on := 9, ground := Ground.phase }, { on := 10, ground := Ground.phase }, { on := 11, ground := Ground.phase }, { on := 12, ground := Ground.phase }, { on := 13, ground := Ground.phase }, { on := 14, ground := Ground.phase }], guard := none }) (v := ?_) 15 rfl ?_ ?_
                rotate_left
                · (intro w hSw; (try dsimp only at hSw); first | (go_simp; done) | (go_simp; with_reducible rfl))
                try simp only [Act.put, List.setIfInBounds_toArray, List.set_cons_zero, List.set_cons_succ]
                refine wpAnyH_done (by kernel_rfl) ?_ _
                have HFIN := Lib.hid (show C.take k ++ [e0] ++ C.drop k = insE e0 C by rw [HADD.out]; simp)
                have HOF := Lib.hid (show OwnG entEl w.heap.size z5 vz5 (insE e0 C) by rw [← HFIN.out]; exact HO4.out.low HBW.out.size)
                obtain ⟨pf, cf, hvf⟩ := ownG_len HOF.out
                rw [hvf] at HOF ⊢
                clear hvf
                generalize (insE e0 C).length = nf at *
                clear hHeld
                go_wp2_with (fail)
                go_roundw
                case rel => exact ⟨i + 1, hlt, by go_num, by rw [HN.out, HST.out]; exact HOF.out, HBW.out.trans HBz5.out⟩
                case measure => simp [intOf]; omega
    · obtain rfl : i = L.length := by omega
      rw [List.take_length] at hown
      obtain ⟨cp, ccap, rfl⟩ := ownG_len hown
      have HO := Lib.hid hown
      clear hown hb
      go_wp2_with (fail)
      go_ret
      exact ⟨_, rfl, HO.out, HB.out⟩
end Go.Proofs.YtllcdhbchcpdoaaGreatDoor
