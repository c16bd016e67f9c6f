/- TRef4, TRef5, TStand, MCon, MStep, laid together. -/
import Derived.Test.YteimllgoelleeaaP8
import Derived.Deep.RegionHeld
import Derived.Test.YteimllgoelleeaaP2
set_option linter.unusedSimpArgs false
set_option linter.unusedVariables false
/- moultref10.Stand. -/
namespace Go.Proofs.Yteimllgoelleeaa
open Go.RowKit Go.Deep

end Go.Proofs.Yteimllgoelleeaa
/- moultref10.Cites. -/
namespace Go.Proofs.Yteimllgoelleeaa
open Go.RowKit Go.Deep

theorem OwnG.put {α : Type} {E : El α} {B : Nat} {w : World} {g n cap : Nat} {L L' : List α} (h : OwnG E B w (.slice (some ⟨g, 0, none⟩) n cap) L) (m : Nat) (u : Value) (hm : m < L.length * E.n) (hL : L'.length = L.length) (hset : E.all L' = (E.all L).set m u) :
    OwnG E B (w.setCell ⟨g, m, none⟩ u) (.slice (some ⟨g, 0, none⟩) n cap) L' := by
  obtain ⟨h1, h2⟩ := h
  rcases h2 with ⟨hv, _⟩ | ⟨g', cap', cur, hv, hg, hh, hc, hcm, hcs, htk⟩
  · cases hv
  · simp only [Value.slice.injEq, Option.some.injEq, Addr.mk.injEq, and_true, true_and] at hv
    obtain ⟨rfl, rfl, rfl⟩ := hv
    refine ⟨by rw [hset, List.length_set, hL]; exact h1, Or.inr ⟨g, cap, cur.setIfInBounds m u, by rw [hL], hg, ?_, by rw [hL]; exact hc, hcm, by simpa using hcs, ?_⟩⟩
    · simp [World.setCell, Array.getElem?_modify, hh]
    · rw [hset, ← htk, hL, Array.toList_setIfInBounds, List.take_set]
theorem cts_set : ∀ (C : List CT) (k : Nat) (n : Nat) (h : k < C.length), ctEl.all (C.set k ⟨C[k].t, C[k].v, n⟩) = (ctEl.all C).set (k * 3 + 2) (.int .i64 (n : Int))
  | [], k, n, h => by simp at h
  | c :: C, 0, n, h => by
    simp [El.all, ctEl]
  | c :: C, k + 1, n, h => by
    have ih := cts_set C k n (by simpa using h)
    have e : (k + 1) * 3 + 2 = k * 3 + 2 + 1 + 1 + 1 := by omega
    rw [e]
    simp only [List.set_cons_succ, List.getElem_cons_succ]
    have e1 : ∀ (x : CT) (l : List CT), ctEl.all (x :: l) = .int .i64 (x.t : Int) :: .int .i64 (x.v : Int) :: .int .i64 (x.n : Int) :: ctEl.all l := fun x l => by simp [El.all, ctEl]
    rw [e1, e1, ih]
    simp only [List.set_cons_succ]
theorem own_cts {B : Nat} {w : World} {v : Value} {C : List CT} (h : OwnG ctEl B w v C) : (v = .slice none 0 0 ∧ C = []) ∨ ∃ g cap, v = .slice (some ⟨g, 0, none⟩) C.length cap ∧ B ≤ g ∧ g < w.heap.size ∧ C.length ≤ cap ∧ cap ≤ maxLen ∧ (∀ j, w.frozen? ⟨g, j, none⟩ = false) ∧
    ∀ i (hi : i < C.length), ∃ c, c = C[i] ∧ w.cell? ⟨g, i * 3, none⟩ = some (.int .i64 (c.t : Int)) ∧ w.cell? ⟨g, i * 3 + 1, none⟩ = some (.int .i64 (c.v : Int)) ∧ w.cell? ⟨g, i * 3 + 2, none⟩ = some (.int .i64 (c.n : Int)) := by
  have h0 := h
  rcases h.2 with ⟨hv, hl⟩ | ⟨g, cap, cur, rfl, hg, hh, hcap, hcm, _⟩
  · exact Or.inl ⟨hv, List.length_eq_zero_iff.1 hl⟩
  · have hlt : g < w.heap.size := (Array.getElem?_eq_some_iff.1 hh).1
    refine Or.inr ⟨g, cap, rfl, hg, hlt, hcap, hcm, fun j => by simp [World.frozen?, hh], fun i hi => ?_⟩
    obtain ⟨g', cap', hv, _, _, _, hc'⟩ := ownG_cells ctOk h0 (fun e => by rw [e] at hi; simp at hi)
    simp only [Value.slice.injEq, Option.some.injEq, Addr.mk.injEq, and_true, true_and] at hv
    obtain ⟨rfl, rfl⟩ := hv
    exact ⟨C[i], rfl, hc' i C[i] (List.getElem?_eq_getElem hi) 0 _ rfl, hc' i C[i] (List.getElem?_eq_getElem hi) 1 _ rfl, hc' i C[i] (List.getElem?_eq_getElem hi) 2 _ rfl⟩
theorem El.all_drop {α : Type} {E : El α} {b : Nat} (hE : ElOk E b) (L : List α) (i : Nat) (hi : i ≤ L.length) : E.all (L.drop i) = (E.all L).drop (i * E.n) := by
  conv => rhs; rw [← List.take_append_drop i L, El.all_append]
  rw [List.drop_left' (by rw [El.all_len hE, List.length_take]; congr 1; omega)]
theorem El.all_take {α : Type} {E : El α} {b : Nat} (hE : ElOk E b) (L : List α) (i : Nat) (hi : i ≤ L.length) : E.all (L.take i) = (E.all L).take (i * E.n) := by
  conv => rhs; rw [← List.take_append_drop i L, El.all_append]
  rw [List.take_left' (by rw [El.all_len hE, List.length_take]; congr 1; omega)]
theorem add_any (g m : Nat) : (⟨g, 0, none⟩ : Addr).add m = ⟨g, m, none⟩ := by cases m <;> simp [Addr.add]
theorem own_piece {α : Type} {E : El α} {b : Nat} (hE : ElOk E b) {B : Nat} {x : World} {g n cap : Nat} {L : List α} (h : OwnG E B x (.slice (some ⟨g, 0, none⟩) n cap) L) (i m c : Nat) (hi : i + m ≤ L.length) :
    SrcAt E x (.slice (some ⟨g, i * E.n, none⟩) m c) ((L.drop i).take m) := by
  have hl : ((L.drop i).take m).length = m := by rw [List.length_take, List.length_drop]; omega
  refine Or.inr ⟨_, c, by rw [hl], fun j u hj => ?_⟩
  rw [El.all_take hE _ _ (by rw [List.length_drop]; omega), El.all_drop hE _ _ (by omega)] at hj
  have hjm : j < m * E.n := by
    rcases Nat.lt_or_ge j (m * E.n) with h | h
    · exact h
    · rw [List.getElem?_eq_none (by rw [List.length_take]; omega)] at hj; cases hj
  rw [List.getElem?_take_of_lt hjm, List.getElem?_drop] at hj
  have := World.ownsRow.cells h rfl _ _ hj
  have e1 : (⟨g, 0, none⟩ : Addr).add (i * E.n + j) = ⟨g, i * E.n + j, none⟩ := add_any g _
  have e2 : (⟨g, i * E.n, none⟩ : Addr).add j = ⟨g, i * E.n + j, none⟩ := by cases j <;> simp [Addr.add]
  rw [e2, ← e1]; exact this
theorem add3 (g k : Nat) : (⟨g, 0, none⟩ : Addr).add (k * 3) = ⟨g, k * 3, none⟩ := by
  by_cases h : k * 3 = 0
  · rw [h]; rfl
  · simp [Addr.add, h]
theorem ct_less (c : CT) (a b : Nat) : ctLess c a b = (decide ((c.t : Int) < a) || (((c.t : Int) == a) && decide ((c.v : Int) < b))) := by
  unfold ctLess
  have e1 : decide (c.t < a) = decide ((c.t : Int) < a) := by congr 1; exact propext (by omega)
  have e2 : decide (c.t = a) = ((c.t : Int) == a) := by
    by_cases h : c.t = a
    · rw [decide_eq_true h, h]; simp
    · rw [decide_eq_false h]; symm; rw [beq_eq_false_iff_ne]; omega
  have e3 : decide (c.v < b) = decide ((c.v : Int) < b) := by congr 1; exact propext (by omega)
  rw [e1, e2, e3]
theorem cites_take {L : List EB} {k : Nat} (h : k < L.length) : citesB (L.take (k + 1)) = stepC (citesB (L.take k)) L[k] := by
  rw [List.take_add_one, List.getElem?_eq_getElem h, Option.toList_some, cites_snoc]
theorem step_none {out : List CT} {e : EB} (h : citeE e = none) : stepC out e = out := by unfold stepC; rw [h]
theorem step_some {out : List CT} {e : EB} {a b : Nat} (h : citeE e = some (a, b)) : stepC out e = addC a b out := by unfold stepC; rw [h]
set_option maxHeartbeats 4000000 in
set_option maxRecDepth 20000 in
theorem rcites_any (p : Option Addr) (cap : Nat) (L : List EB) (w : World) (h : EntsAt w p L) (hL : L.length ≤ 100000) (hs : ∀ e ∈ L, e.v.size ≤ 1000000) :
    Calls Try.prog 23 #[.slice p L.length cap] w fun e w' => ∃ v, e = .returned v ∧ OwnG ctEl w.heap.size w' v (citesB L) ∧ Bel w w' := by
  have H := Lib.hid h; clear h
  have HS := Lib.hid hs; clear hs
  go_enter Try.func23, Try.ntmps23
  go_wp2_with (fail)
  go_loopw [3, 4] (fun cv iv x => ∃ k : Nat, k ≤ L.length ∧ iv = .int .i64 k ∧ OwnG ctEl w.heap.size x cv (citesB (L.take k)) ∧ Bel w x) (fun _ iv _ => L.length - (intOf iv).toNat)
  case atStart => exact ⟨0, Nat.zero_le _, rfl, OwnG.nil _ _ _, Bel.refl w⟩
  case round =>
    obtain ⟨i, hi, rfl, hown, hb⟩ := hrel
    have HB := Lib.hid hb
    by_cases hlt : i < L.length
    · obtain ⟨a0, e0, rfl, he0, B, O, sp, ha, c0, c1, c2, c3⟩ := (H.out.bel hb).get hlt
      have HV := Lib.hid (show e0.v.size ≤ 1000000 by rw [he0]; exact HS.out _ (List.getElem_mem hlt))
      have HN := Lib.hid (cites_take hlt)
      rw [← he0] at HN
      have hcl := cites_len (L.take i)
      have hcs := cites_small (L.take i)
      rw [List.length_take] at hcl hcs
      obtain ⟨C, hC⟩ : ∃ C, citesB (L.take i) = C := ⟨_, rfl⟩
      rw [hC] at hown HN hcl hcs
      have HO := Lib.hid hown
      have HCS := Lib.hid hcs
      obtain ⟨cp, ccap, rfl⟩ := ownG_len hown
      clear hb hC hown hcs he0
      have hci : C.length ≤ i := by omega
      clear hcl
      go_wp2_with (fail)
      refine (rcite_any e0.v wr HV.out).mono ?_
      cases hcite : citeL e0.v.data.toList with
      | none =>
        rw [citeV_none hcite]
        rintro r w1 ⟨rfl, hb⟩
        have HB1 := Lib.hid (HB.out.trans hb)
        have HO1 := Lib.hid (HO.out.bel hb)
        have HST := Lib.hid (step_none (out := C) (show citeE e0 = none by unfold citeE; rw [hcite]; split <;> rfl))
        clear hb hcite
        go_wp2_with (fail)
        go_roundw
        case rel => exact ⟨i + 1, hlt, by go_num, by rw [HN.out, HST.out]; exact HO1.out, HB1.out⟩
        case measure => simp [intOf]; omega
      | some pr =>
        obtain ⟨a, b⟩ := pr
        rw [citeV_some hcite]
        obtain ⟨ha1, hb1⟩ := cite_le hcite
        rintro r w1 ⟨rfl, hb⟩
        have HB1 := Lib.hid (HB.out.trans hb)
        have HO1 := Lib.hid (HO.out.bel hb)
        have d2 := cell_later hb c2
        cases hd : e0.d with
        | true =>
          have HST := Lib.hid (step_none (out := C) (show citeE e0 = none by unfold citeE; rw [hd]; rfl))
          rw [hd] at d2
          clear hb hcite hd c0 c1 c2 c3
          go_wp2_with (fail)
          go_roundw
          case rel => exact ⟨i + 1, hlt, by go_num, by rw [HN.out, HST.out]; exact HO1.out, HB1.out⟩
          case measure => simp [intOf]; omega
        | false =>
          have HST := Lib.hid (step_some (out := C) (show citeE e0 = some (a, b) by unfold citeE; rw [hd]; exact hcite))
          rw [hd] at d2
          clear hb hcite hd c0 c1 c2 c3
          rcases own_cts HO1.out with ⟨hvn, hCn⟩ | ⟨g, cap2, hv, hg, hgl, hcap2, hcm, hfz, hcells⟩
          · subst hCn
            simp only [List.length_nil, Value.slice.injEq] at hvn
            obtain ⟨rfl, -, rfl⟩ := hvn
            go_wp2_with (fail)
            go_loopw [8] (fun kv x => kv = .int .i64 0 ∧ Drw w1 x) (fun kv _ => 0)
            case atStart => exact ⟨rfl, Drw.refl w1⟩
            case round =>
              obtain ⟨rfl, hw⟩ := hrel
              obtain ⟨C, hC⟩ : ∃ C : List CT, C = [] := ⟨_, rfl⟩
              obtain ⟨k, hk⟩ : ∃ k : Nat, k = 0 := ⟨_, rfl⟩
              have HBW := Lib.hid (HB1.out.trans hw.bel)
              have HS1 := Lib.hid (show ∀ x, Bel wr x → SrcAt ctEl x (.slice none 0 0) (C.take k) from fun x _ => Or.inl ⟨rfl, by rw [hC]; simp⟩)
              have HS2 := Lib.hid (show ∀ x, Bel wr x → SrcAt ctEl x (.slice none 0 0) (C.drop k) from fun x _ => Or.inl ⟨rfl, by rw [hC, hk]; rfl⟩)
              have HADD := Lib.hid (show addC a b C = C.take k ++ ⟨a, b, 1⟩ :: C.drop k by rw [hC, hk]; rfl)
              have hCl : C.length ≤ i := by rw [hC]; exact Nat.zero_le _
              rw [show addC a b [] = addC a b C by rw [hC]] at HST
              rw [← hC] at HN HST
              have hkl : k ≤ C.length := by rw [hk]; exact Nat.zero_le _
              clear hw hC hk
              go_wp2_with (fail)
              have HBR := Lib.hid (Bel.refl wr)
              refine wp_region_held_drew (S := fun z => True) (by kernel_rfl) trivial (fun hHeld => ?_)
              refine tk (oi := { dst := some 98, op := Op.move (Operand.tmp 3), type := 42, pos := "ref.go:116", after := #[], guard := none }) (v := ?_) 1 rfl ?_ ?_
              rotate_left
              · (intro w hSw; (try dsimp only at hSw); first | (go_simp; done) | (go_simp; with_reducible rfl))
              try simp only [Act.put, List.setIfInBounds_toArray, List.set_cons_zero, List.set_cons_succ]
              refine tk (oi := { dst := some 99, op := Op.move (Operand.tmp 8), type := 3, pos := "ref.go:116", after := #[], guard := none }) (v := ?_) 2 rfl ?_ ?_
              rotate_left
              · (intro w hSw; (try dsimp only at hSw); first | (go_simp; done) | (go_simp; with_reducible rfl))
              try simp only [Act.put, List.setIfInBounds_toArray, List.set_cons_zero, List.set_cons_succ]
              refine tk (oi := { dst := some 100, op := Op.slice 42 (Operand.tmp 98) none (some (Operand.tmp 99)) none, type := 42, pos := "ref.go:116", after := #[{ on := 1, ground := Ground.data }, { on := 2, ground := Ground.data }], guard := none }) (v := ?_) 3 rfl ?_ ?_
              rotate_left
              · (intro w hSw; (try dsimp only at hSw); first | (go_simp; done) | (go_simp; with_reducible rfl))
              try simp only [Act.put, List.setIfInBounds_toArray, List.set_cons_zero, List.set_cons_succ]
              refine tk (oi := { dst := some 102, op := Op.move (Operand.tmp 5), type := 3, pos := "ref.go:116", after := #[], guard := none }) (v := ?_) 5 rfl ?_ ?_
              rotate_left
              · (intro w hSw; (try dsimp only at hSw); first | (go_simp; done) | (go_simp; with_reducible rfl))
              try simp only [Act.put, List.setIfInBounds_toArray, List.set_cons_zero, List.set_cons_succ]
              refine tk (oi := { dst := some 103, op := Op.move (Operand.tmp 6), type := 3, pos := "ref.go:116", after := #[], guard := none }) (v := ?_) 6 rfl ?_ ?_
              rotate_left
              · (intro w hSw; (try dsimp only at hSw); first | (go_simp; done) | (go_simp; with_reducible rfl))
              try simp only [Act.put, List.setIfInBounds_toArray, List.set_cons_zero, List.set_cons_succ]
              refine tk (oi := { dst := some 104, op := Op.build 69 #[(0, Operand.tmp 102), (1, Operand.tmp 103), (2, Operand.const (Value.int IntKind.i64 1))], type := 69, pos := "ref.go:116", after := #[{ on := 5, ground := Ground.data }, { on := 6, ground := Ground.data }], guard := none }) (v := ?_) 7 rfl ?_ ?_
              rotate_left
              · (intro w hSw; (try dsimp only at hSw); first | (go_simp; done) | (go_simp; with_reducible rfl))
              try simp only [Act.put, List.setIfInBounds_toArray, List.set_cons_zero, List.set_cons_succ]
              refine tk (oi := { dst := some 107, op := Op.move (Operand.tmp 3), type := 42, pos := "ref.go:116", after := #[], guard := none }) (v := ?_) 10 rfl ?_ ?_
              rotate_left
              · (intro w hSw; (try dsimp only at hSw); first | (go_simp; done) | (go_simp; with_reducible rfl))
              try simp only [Act.put, List.setIfInBounds_toArray, List.set_cons_zero, List.set_cons_succ]
              refine tk (oi := { dst := some 108, op := Op.move (Operand.tmp 8), type := 3, pos := "ref.go:116", after := #[], guard := none }) (v := ?_) 11 rfl ?_ ?_
              rotate_left
              · (intro w hSw; (try dsimp only at hSw); first | (go_simp; done) | (go_simp; with_reducible rfl))
              try simp only [Act.put, List.setIfInBounds_toArray, List.set_cons_zero, List.set_cons_succ]
              refine tk (oi := { dst := some 109, op := Op.slice 42 (Operand.tmp 107) (some (Operand.tmp 108)) none none, type := 42, pos := "ref.go:116", after := #[{ on := 10, ground := Ground.data }, { on := 11, ground := Ground.data }], guard := none }) (v := ?_) 12 rfl ?_ ?_
              rotate_left
              · (intro w hSw; (try dsimp only at hSw); first | (go_simp; done) | (go_simp; with_reducible rfl))
              try simp only [Act.put, List.setIfInBounds_toArray, List.set_cons_zero, List.set_cons_succ]
              refine wpAnyH_ready (rs := [0, 8]) (by kernel_rfl) (by simp) ?_
              refine (AllReadyH.cons (o := { dst := some 97, op := Op.buildSlice 42 0 #[], type := 42, pos := "ref.go:116", after := #[], guard := none }) rfl (fun K hK => ?_) (AllReadyH.cons (o := { dst := some 105, op := Op.buildSlice 42 1 #[(0, Operand.tmp 104)], type := 42, pos := "ref.go:116", after := #[{ on := 7, ground := Ground.data }], guard := none }) rfl (fun K hK => ?_) AllReadyH.nil))
              · go_simp
                refine hK.out _ _ trivial (fun hHeld => ?_)
                clear hK K
                try simp only [Act.put, List.setIfInBounds_toArray, List.set_cons_zero, List.set_cons_succ]
                obtain ⟨z1, hz1⟩ : ∃ x, x = (wr.alloc (.cells #[] 69)).drew := ⟨_, rfl⟩
                have HLE := Lib.hid (show z1.heap[wr.heap.size]? = some (.cells #[] 69 (0, 0)) by rw [hz1]; exact heap_alloc_new wr (.cells #[] 69))
                have hltE : wr.heap.size < z1.heap.size := (Array.getElem?_eq_some_iff.1 HLE.out).1
                have hbz1 : Bel wr z1 := by rw [hz1]; exact ((Bel.refl wr).alloc _).drew
                have HBz1 := Lib.hid (HBR.out.trans hbz1)
                rw [← hz1]
                clear hz1
                have HOE := Lib.hid (ownG_empty (E := ctEl) (n := wr.heap.size) HLE.out HBR.out.size)
                refine wpAnyH_ready (rs := [4, 8]) (by kernel_rfl) (by simp) ?_
                refine (AllReadyH.cons (o := { dst := some 101, op := Op.call { callee := Callee.builtin Builtin.append, args := #[Operand.tmp 97, Operand.tmp 100], argTypes := #[42, 42] }, type := 42, pos := "ref.go:116", after := #[{ on := 0, ground := Ground.data }, { on := 3, ground := Ground.data }], guard := none }) rfl (fun K hK => ?_) (AllReadyH.cons (o := { dst := some 105, op := Op.buildSlice 42 1 #[(0, Operand.tmp 104)], type := 42, pos := "ref.go:116", after := #[{ on := 7, ground := Ground.data }], guard := none }) rfl (fun K hK => ?_) AllReadyH.nil))
                · refine step_append_all ctOk rfl (.tmp 97) (.tmp 100) rfl rfl HOE.out (C.take k) rfl (HS1.out z1 HBz1.out) (by simp only [List.length_nil, List.length_take]; unfold maxLen; omega) (by simp only [List.length_nil, List.length_take]; omega) HBz1.out.size ?_
                  intro vz2 z2 hoz2 hkz2 _
                  have HBz2 := Lib.hid (show Bel wr z2 from HBz1.out.trans_below (hkz2.own HBz1.out.size (fun kk hkk => (HOE.out.lt kk hkk).1)))
                  rw [List.nil_append] at hoz2
                  have hkkz2 : Keep (Value.ownBlock (.slice (some ⟨wr.heap.size, 0, none⟩) 0 0)).toList z1 z2 := hkz2
                  have HO2 := Lib.hid hoz2
                  clear hoz2 hkz2 hkkz2
                  refine hK.out _ _ trivial (fun hHeld => ?_)
                  clear hK K
                  try simp only [Act.put, List.setIfInBounds_toArray, List.set_cons_zero, List.set_cons_succ]
                  refine wpAnyH_ready (rs := [8]) (by kernel_rfl) (by simp) ?_
                  refine AllReadyH.cons (o := { dst := some 105, op := Op.buildSlice 42 1 #[(0, Operand.tmp 104)], type := 42, pos := "ref.go:116", after := #[{ on := 7, ground := Ground.data }], guard := none }) rfl (fun K hK => ?_) AllReadyH.nil
                  go_simp
                  refine hK.out _ _ trivial (fun hHeld => ?_)
                  clear hK K
                  try simp only [Act.put, List.setIfInBounds_toArray, List.set_cons_zero, List.set_cons_succ]
                  obtain ⟨z3, hz3⟩ : ∃ x, x = (z2.alloc (.cells #[.int .i64 (a : Int), .int .i64 (b : Int), .int .i64 1] 69)) := ⟨_, rfl⟩
                  have HLL := Lib.hid (show z3.heap[z2.heap.size]? = some (.cells #[.int .i64 (a : Int), .int .i64 (b : Int), .int .i64 1] 69 (0, 0)) by rw [hz3]; exact heap_alloc_new z2 (.cells #[.int .i64 (a : Int), .int .i64 (b : Int), .int .i64 1] 69))
                  have hltL : z2.heap.size < z3.heap.size := (Array.getElem?_eq_some_iff.1 HLL.out).1
                  have hbz3 : Bel z2 z3 := by rw [hz3]; exact ((Bel.refl z2).alloc _)
                  have HBz3 := Lib.hid (HBz2.out.trans hbz3)
                  rw [← hz3]
                  clear hz3
                  have HO2b := Lib.hid (HO2.out.bel hbz3)
                  refine wpAnyH_ready (rs := [9]) (by kernel_rfl) (by simp) ?_
                  refine AllReadyH.cons (o := { dst := some 106, op := Op.call { callee := Callee.builtin Builtin.append, args := #[Operand.tmp 101, Operand.tmp 105], argTypes := #[42, 42] }, type := 42, pos := "ref.go:116", after := #[{ on := 4, ground := Ground.data }, { on := 8, ground := Ground.data }, { on := 4, ground := Ground.chain }], guard := none }) rfl (fun K hK => ?_) AllReadyH.nil
                  refine step_append_all ctOk rfl (.tmp 101) (.tmp 105) rfl rfl HO2b.out [CT.mk a b 1] rfl (src_at [CT.mk a b 1] HLL.out rfl rfl) (by simp only [List.length_take, List.length_singleton]; unfold maxLen; omega) (by simp only [List.length_take, List.length_singleton]; omega) HBz3.out.size ?_
                  intro vz4 z4 hoz4 hkz4 _
                  have HBz4 := Lib.hid (show Bel wr z4 from HBz3.out.trans_below (hkz4.own HBz3.out.size (fun kk hkk => (HO2b.out.lt kk hkk).1)))
                  have HO3 := Lib.hid hoz4
                  clear hoz4 hkz4
                  refine hK.out _ _ trivial (fun hHeld => ?_)
                  clear hK K
                  try simp only [Act.put, List.setIfInBounds_toArray, List.set_cons_zero, List.set_cons_succ]
                  refine wpAnyH_ready (rs := [13]) (by kernel_rfl) (by simp) ?_
                  refine AllReadyH.cons (o := { dst := some 110, op := Op.call { callee := Callee.builtin Builtin.append, args := #[Operand.tmp 106, Operand.tmp 109], argTypes := #[42, 42] }, type := 42, pos := "ref.go:116", after := #[{ on := 9, ground := Ground.data }, { on := 12, ground := Ground.data }, { on := 9, ground := Ground.chain }], guard := none }) rfl (fun K hK => ?_) AllReadyH.nil
                  refine step_append_all ctOk rfl (.tmp 106) (.tmp 109) rfl rfl HO3.out (C.drop k) rfl (HS2.out z4 HBz4.out) (by simp only [List.length_append, List.length_take, List.length_singleton, List.length_drop]; unfold maxLen; omega) (by simp only [List.length_append, List.length_take, List.length_singleton, List.length_drop]; omega) HBz4.out.size ?_
                  intro vz5 z5 hoz5 hkz5 _
                  have HBz5 := Lib.hid (show Bel wr z5 from HBz4.out.trans_below (hkz5.own HBz4.out.size (fun kk hkk => (HO3.out.lt kk hkk).1)))
                  have HO4 := Lib.hid hoz5
                  clear hoz5 hkz5
                  refine hK.out _ _ trivial (fun hHeld => ?_)
                  clear hK K
                  try simp only [Act.put, List.setIfInBounds_toArray, List.set_cons_zero, List.set_cons_succ]
                  refine tk (oi := { dst := some 3, op := Op.assign (Operand.tmp 110), type := 42, pos := "ref.go:116", after := #[{ on := 13, ground := Ground.data }, { on := 13, ground := Ground.chain }, { on := 0, ground := Ground.phase }, { on := 1, ground := Ground.phase }, { on := 2, ground := Ground.phase }, { on := 3, ground := Ground.phase }, { on := 4, ground := Ground.phase }, { on := 5, ground := Ground.phase }, { on := 6, ground := Ground.phase }, { on := 7, ground := Ground.phase }, { on := 8, ground := Ground.phase }, { on := 9, ground := Ground.phase }, { on := 10, ground := Ground.phase }, { on := 11, ground := Ground.phase }, { on := 12, ground := Ground.phase }, { on := 13, ground := Ground.phase }], guard := none }) (v := ?_) 14 rfl ?_ ?_
                  rotate_left
                  · (intro w hSw; (try dsimp only at hSw); first | (go_simp; done) | (go_simp; with_reducible rfl))
                  try simp only [Act.put, List.setIfInBounds_toArray, List.set_cons_zero, List.set_cons_succ]
                  refine wpAnyH_done (by kernel_rfl) ?_ _
                  have HFIN := Lib.hid (show C.take k ++ [CT.mk a b 1] ++ C.drop k = addC a b C by rw [HADD.out]; simp)
                  have HOF := Lib.hid (show OwnG ctEl w.heap.size z5 vz5 (addC a b C) by rw [← HFIN.out]; exact HO4.out.low HBW.out.size)
                  obtain ⟨pf, cf, hvf⟩ := ownG_len HOF.out
                  rw [hvf] at HOF ⊢
                  clear hvf
                  generalize (addC a b C).length = nf at *
                  clear hHeld
                  go_wp2_with (fail)
                  go_roundw
                  case rel => exact ⟨i + 1, hlt, by go_num, by rw [HN.out, HST.out]; exact HOF.out, HBW.out.trans HBz5.out⟩
                  case measure => simp [intOf]; omega
                · go_simp
                  refine hK.out _ _ trivial (fun hHeld => ?_)
                  clear hK K
                  try simp only [Act.put, List.setIfInBounds_toArray, List.set_cons_zero, List.set_cons_succ]
                  obtain ⟨z2, hz2⟩ : ∃ x, x = (z1.alloc (.cells #[.int .i64 (a : Int), .int .i64 (b : Int), .int .i64 1] 69)) := ⟨_, rfl⟩
                  have HLL := Lib.hid (show z2.heap[z1.heap.size]? = some (.cells #[.int .i64 (a : Int), .int .i64 (b : Int), .int .i64 1] 69 (0, 0)) by rw [hz2]; exact heap_alloc_new z1 (.cells #[.int .i64 (a : Int), .int .i64 (b : Int), .int .i64 1] 69))
                  have hltL : z1.heap.size < z2.heap.size := (Array.getElem?_eq_some_iff.1 HLL.out).1
                  have hbz2 : Bel z1 z2 := by rw [hz2]; exact ((Bel.refl z1).alloc _)
                  have HBz2 := Lib.hid (HBz1.out.trans hbz2)
                  rw [← hz2]
                  clear hz2
                  have HOE2 := Lib.hid (HOE.out.bel hbz2)
                  refine wpAnyH_ready (rs := [4]) (by kernel_rfl) (by simp) ?_
                  refine AllReadyH.cons (o := { dst := some 101, op := Op.call { callee := Callee.builtin Builtin.append, args := #[Operand.tmp 97, Operand.tmp 100], argTypes := #[42, 42] }, type := 42, pos := "ref.go:116", after := #[{ on := 0, ground := Ground.data }, { on := 3, ground := Ground.data }], guard := none }) rfl (fun K hK => ?_) AllReadyH.nil
                  refine step_append_all ctOk rfl (.tmp 97) (.tmp 100) rfl rfl HOE2.out (C.take k) rfl (HS1.out z2 HBz2.out) (by simp only [List.length_nil, List.length_take]; unfold maxLen; omega) (by simp only [List.length_nil, List.length_take]; omega) HBz2.out.size ?_
                  intro vz3 z3 hoz3 hkz3 _
                  have HBz3 := Lib.hid (show Bel wr z3 from HBz2.out.trans_below (hkz3.own HBz2.out.size (fun kk hkk => (HOE2.out.lt kk hkk).1)))
                  rw [List.nil_append] at hoz3
                  have hkkz3 : Keep (Value.ownBlock (.slice (some ⟨wr.heap.size, 0, none⟩) 0 0)).toList z2 z3 := hkz3
                  have HLL3 := Lib.hid (hkkz3.at HLL.out (fun hm => by rw [Option.mem_toList] at hm; simp only [Value.ownBlock, Option.some.injEq] at hm; omega))
                  have HO2 := Lib.hid hoz3
                  clear hoz3 hkz3 hkkz3
                  refine hK.out _ _ trivial (fun hHeld => ?_)
                  clear hK K
                  try simp only [Act.put, List.setIfInBounds_toArray, List.set_cons_zero, List.set_cons_succ]
                  refine wpAnyH_ready (rs := [9]) (by kernel_rfl) (by simp) ?_
                  refine AllReadyH.cons (o := { dst := some 106, op := Op.call { callee := Callee.builtin Builtin.append, args := #[Operand.tmp 101, Operand.tmp 105], argTypes := #[42, 42] }, type := 42, pos := "ref.go:116", after := #[{ on := 4, ground := Ground.data }, { on := 8, ground := Ground.data }, { on := 4, ground := Ground.chain }], guard := none }) rfl (fun K hK => ?_) AllReadyH.nil
                  refine step_append_all ctOk rfl (.tmp 101) (.tmp 105) rfl rfl HO2.out [CT.mk a b 1] rfl (src_at [CT.mk a b 1] HLL3.out rfl rfl) (by simp only [List.length_take, List.length_singleton]; unfold maxLen; omega) (by simp only [List.length_take, List.length_singleton]; omega) HBz3.out.size ?_
                  intro vz4 z4 hoz4 hkz4 _
                  have HBz4 := Lib.hid (show Bel wr z4 from HBz3.out.trans_below (hkz4.own HBz3.out.size (fun kk hkk => (HO2.out.lt kk hkk).1)))
                  have HO3 := Lib.hid hoz4
                  clear hoz4 hkz4
                  refine hK.out _ _ trivial (fun hHeld => ?_)
                  clear hK K
                  try simp only [Act.put, List.setIfInBounds_toArray, List.set_cons_zero, List.set_cons_succ]
                  refine wpAnyH_ready (rs := [13]) (by kernel_rfl) (by simp) ?_
                  refine AllReadyH.cons (o := { dst := some 110, op := Op.call { callee := Callee.builtin Builtin.append, args := #[Operand.tmp 106, Operand.tmp 109], argTypes := #[42, 42] }, type := 42, pos := "ref.go:116", after := #[{ on := 9, ground := Ground.data }, { on := 12, ground := Ground.data }, { on := 9, ground := Ground.chain }], guard := none }) rfl (fun K hK => ?_) AllReadyH.nil
                  refine step_append_all ctOk rfl (.tmp 106) (.tmp 109) rfl rfl HO3.out (C.drop k) rfl (HS2.out z4 HBz4.out) (by simp only [List.length_append, List.length_take, List.length_singleton, List.length_drop]; unfold maxLen; omega) (by simp only [List.length_append, List.length_take, List.length_singleton, List.length_drop]; omega) HBz4.out.size ?_
                  intro vz5 z5 hoz5 hkz5 _
                  have HBz5 := Lib.hid (show Bel wr z5 from HBz4.out.trans_below (hkz5.own HBz4.out.size (fun kk hkk => (HO3.out.lt kk hkk).1)))
                  have HO4 := Lib.hid hoz5
                  clear hoz5 hkz5
                  refine hK.out _ _ trivial (fun hHeld => ?_)
                  clear hK K
                  try simp only [Act.put, List.setIfInBounds_toArray, List.set_cons_zero, List.set_cons_succ]
                  refine tk (oi := { dst := some 3, op := Op.assign (Operand.tmp 110), type := 42, pos := "ref.go:116", after := #[{ on := 13, ground := Ground.data }, { on := 13, ground := Ground.chain }, { on := 0, ground := Ground.phase }, { on := 1, ground := Ground.phase }, { on := 2, ground := Ground.phase }, { on := 3, ground := Ground.phase }, { on := 4, ground := Ground.phase }, { on := 5, ground := Ground.phase }, { on := 6, ground := Ground.phase }, { on := 7, ground := Ground.phase }, { on := 8, ground := Ground.phase }, { on := 9, ground := Ground.phase }, { on := 10, ground := Ground.phase }, { on := 11, ground := Ground.phase }, { on := 12, ground := Ground.phase }, { on := 13, ground := Ground.phase }], guard := none }) (v := ?_) 14 rfl ?_ ?_
                  rotate_left
                  · (intro w hSw; (try dsimp only at hSw); first | (go_simp; done) | (go_simp; with_reducible rfl))
                  try simp only [Act.put, List.setIfInBounds_toArray, List.set_cons_zero, List.set_cons_succ]
                  refine wpAnyH_done (by kernel_rfl) ?_ _
                  have HFIN := Lib.hid (show C.take k ++ [CT.mk a b 1] ++ C.drop k = addC a b C by rw [HADD.out]; simp)
                  have HOF := Lib.hid (show OwnG ctEl w.heap.size z5 vz5 (addC a b C) by rw [← HFIN.out]; exact HO4.out.low HBW.out.size)
                  obtain ⟨pf, cf, hvf⟩ := ownG_len HOF.out
                  rw [hvf] at HOF ⊢
                  clear hvf
                  generalize (addC a b C).length = nf at *
                  clear hHeld
                  go_wp2_with (fail)
                  go_roundw
                  case rel => exact ⟨i + 1, hlt, by go_num, by rw [HN.out, HST.out]; exact HOF.out, HBW.out.trans HBz5.out⟩
                  case measure => simp [intOf]; omega
              · go_simp
                refine hK.out _ _ trivial (fun hHeld => ?_)
                clear hK K
                try simp only [Act.put, List.setIfInBounds_toArray, List.set_cons_zero, List.set_cons_succ]
                obtain ⟨z1, hz1⟩ : ∃ x, x = (wr.alloc (.cells #[.int .i64 (a : Int), .int .i64 (b : Int), .int .i64 1] 69)).drew := ⟨_, rfl⟩
                have HLL := Lib.hid (show z1.heap[wr.heap.size]? = some (.cells #[.int .i64 (a : Int), .int .i64 (b : Int), .int .i64 1] 69 (0, 0)) by rw [hz1]; exact heap_alloc_new wr (.cells #[.int .i64 (a : Int), .int .i64 (b : Int), .int .i64 1] 69))
                have hltL : wr.heap.size < z1.heap.size := (Array.getElem?_eq_some_iff.1 HLL.out).1
                have hbz1 : Bel wr z1 := by rw [hz1]; exact ((Bel.refl wr).alloc _).drew
                have HBz1 := Lib.hid (HBR.out.trans hbz1)
                rw [← hz1]
                clear hz1
                refine wpAnyH_ready (rs := [0]) (by kernel_rfl) (by simp) ?_
                refine AllReadyH.cons (o := { dst := some 97, op := Op.buildSlice 42 0 #[], type := 42, pos := "ref.go:116", after := #[], guard := none }) rfl (fun K hK => ?_) AllReadyH.nil
                go_simp
                refine hK.out _ _ trivial (fun hHeld => ?_)
                clear hK K
                try simp only [Act.put, List.setIfInBounds_toArray, List.set_cons_zero, List.set_cons_succ]
                obtain ⟨z2, hz2⟩ : ∃ x, x = (z1.alloc (.cells #[] 69)) := ⟨_, rfl⟩
                have HLE := Lib.hid (show z2.heap[z1.heap.size]? = some (.cells #[] 69 (0, 0)) by rw [hz2]; exact heap_alloc_new z1 (.cells #[] 69))
                have hltE : z1.heap.size < z2.heap.size := (Array.getElem?_eq_some_iff.1 HLE.out).1
                have hbz2 : Bel z1 z2 := by rw [hz2]; exact ((Bel.refl z1).alloc _)
                have HBz2 := Lib.hid (HBz1.out.trans hbz2)
                rw [← hz2]
                clear hz2
                have HOE := Lib.hid (ownG_empty (E := ctEl) (n := wr.heap.size) HLE.out HBz1.out.size)
                have HLL2 := Lib.hid ((Below.block hbz2 wr.heap.size (by omega)).trans HLL.out)
                refine wpAnyH_ready (rs := [4]) (by kernel_rfl) (by simp) ?_
                refine AllReadyH.cons (o := { dst := some 101, op := Op.call { callee := Callee.builtin Builtin.append, args := #[Operand.tmp 97, Operand.tmp 100], argTypes := #[42, 42] }, type := 42, pos := "ref.go:116", after := #[{ on := 0, ground := Ground.data }, { on := 3, ground := Ground.data }], guard := none }) rfl (fun K hK => ?_) AllReadyH.nil
                refine step_append_all ctOk rfl (.tmp 97) (.tmp 100) rfl rfl HOE.out (C.take k) rfl (HS1.out z2 HBz2.out) (by simp only [List.length_nil, List.length_take]; unfold maxLen; omega) (by simp only [List.length_nil, List.length_take]; omega) HBz2.out.size ?_
                intro vz3 z3 hoz3 hkz3 _
                have HBz3 := Lib.hid (show Bel wr z3 from HBz2.out.trans_below (hkz3.own HBz2.out.size (fun kk hkk => (HOE.out.lt kk hkk).1)))
                rw [List.nil_append] at hoz3
                have hkkz3 : Keep (Value.ownBlock (.slice (some ⟨z1.heap.size, 0, none⟩) 0 0)).toList z2 z3 := hkz3
                have HLL3 := Lib.hid (hkkz3.at HLL2.out (fun hm => by rw [Option.mem_toList] at hm; simp only [Value.ownBlock, Option.some.injEq] at hm; omega))
                have HO2 := Lib.hid hoz3
                clear hoz3 hkz3 hkkz3
                refine hK.out _ _ trivial (fun hHeld => ?_)
                clear hK K
                try simp only [Act.put, List.setIfInBounds_toArray, List.set_cons_zero, List.set_cons_succ]
                refine wpAnyH_ready (rs := [9]) (by kernel_rfl) (by simp) ?_
                refine AllReadyH.cons (o := { dst := some 106, op := Op.call { callee := Callee.builtin Builtin.append, args := #[Operand.tmp 101, Operand.tmp 105], argTypes := #[42, 42] }, type := 42, pos := "ref.go:116", after := #[{ on := 4, ground := Ground.data }, { on := 8, ground := Ground.data }, { on := 4, ground := Ground.chain }], guard := none }) rfl (fun K hK => ?_) AllReadyH.nil
                refine step_append_all ctOk rfl (.tmp 101) (.tmp 105) rfl rfl HO2.out [CT.mk a b 1] rfl (src_at [CT.mk a b 1] HLL3.out rfl rfl) (by simp only [List.length_take, List.length_singleton]; unfold maxLen; omega) (by simp only [List.length_take, List.length_singleton]; omega) HBz3.out.size ?_
                intro vz4 z4 hoz4 hkz4 _
                have HBz4 := Lib.hid (show Bel wr z4 from HBz3.out.trans_below (hkz4.own HBz3.out.size (fun kk hkk => (HO2.out.lt kk hkk).1)))
                have HO3 := Lib.hid hoz4
                clear hoz4 hkz4
                refine hK.out _ _ trivial (fun hHeld => ?_)
                clear hK K
                try simp only [Act.put, List.setIfInBounds_toArray, List.set_cons_zero, List.set_cons_succ]
                refine wpAnyH_ready (rs := [13]) (by kernel_rfl) (by simp) ?_
                refine AllReadyH.cons (o := { dst := some 110, op := Op.call { callee := Callee.builtin Builtin.append, args := #[Operand.tmp 106, Operand.tmp 109], argTypes := #[42, 42] }, type := 42, pos := "ref.go:116", after := #[{ on := 9, ground := Ground.data }, { on := 12, ground := Ground.data }, { on := 9, ground := Ground.chain }], guard := none }) rfl (fun K hK => ?_) AllReadyH.nil
                refine step_append_all ctOk rfl (.tmp 106) (.tmp 109) rfl rfl HO3.out (C.drop k) rfl (HS2.out z4 HBz4.out) (by simp only [List.length_append, List.length_take, List.length_singleton, List.length_drop]; unfold maxLen; omega) (by simp only [List.length_append, List.length_take, List.length_singleton, List.length_drop]; omega) HBz4.out.size ?_
                intro vz5 z5 hoz5 hkz5 _
                have HBz5 := Lib.hid (show Bel wr z5 from HBz4.out.trans_below (hkz5.own HBz4.out.size (fun kk hkk => (HO3.out.lt kk hkk).1)))
                have HO4 := Lib.hid hoz5
                clear hoz5 hkz5
                refine hK.out _ _ trivial (fun hHeld => ?_)
                clear hK K
                try simp only [Act.put, List.setIfInBounds_toArray, List.set_cons_zero, List.set_cons_succ]
                refine tk (oi := { dst := some 3, op := Op.assign (Operand.tmp 110), type := 42, pos := "ref.go:116", after := #[{ on := 13, ground := Ground.data }, { on := 13, ground := Ground.chain }, { on := 0, ground := Ground.phase }, { on := 1, ground := Ground.phase }, { on := 2, ground := Ground.phase }, { on := 3, ground := Ground.phase }, { on := 4, ground := Ground.phase }, { on := 5, ground := Ground.phase }, { on := 6, ground := Ground.phase }, { on := 7, ground := Ground.phase }, { on := 8, ground := Ground.phase }, { on := 9, ground := Ground.phase }, { on := 10, ground := Ground.phase }, { on := 11, ground := Ground.phase }, { on := 12, ground := Ground.phase }, { on := 13, ground := Ground.phase }], guard := none }) (v := ?_) 14 rfl ?_ ?_
                rotate_left
                · (intro w hSw; (try dsimp only at hSw); first | (go_simp; done) | (go_simp; with_reducible rfl))
                try simp only [Act.put, List.setIfInBounds_toArray, List.set_cons_zero, List.set_cons_succ]
                refine wpAnyH_done (by kernel_rfl) ?_ _
                have HFIN := Lib.hid (show C.take k ++ [CT.mk a b 1] ++ C.drop k = addC a b C by rw [HADD.out]; simp)
                have HOF := Lib.hid (show OwnG ctEl w.heap.size z5 vz5 (addC a b C) by rw [← HFIN.out]; exact HO4.out.low HBW.out.size)
                obtain ⟨pf, cf, hvf⟩ := ownG_len HOF.out
                rw [hvf] at HOF ⊢
                clear hvf
                generalize (addC a b C).length = nf at *
                clear hHeld
                go_wp2_with (fail)
                go_roundw
                case rel => exact ⟨i + 1, hlt, by go_num, by rw [HN.out, HST.out]; exact HOF.out, HBW.out.trans HBz5.out⟩
                case measure => simp [intOf]; omega
          · simp only [Value.slice.injEq, true_and] at hv
            obtain ⟨rfl, rfl⟩ := hv
            have HCELLS := Lib.hid hcells
            have HG := Lib.hid hg
            have HGL := Lib.hid hgl
            have HFZ := Lib.hid hfz
            clear hcells hg hgl hfz
            go_wp2_with (fail)
            go_loopw [8] (fun kv x => (∃ k : Nat, k ≤ C.length ∧ kv = .int .i64 k ∧ ∀ j (h : j < C.length), j < k → ctLess C[j] a b = true) ∧ Drw w1 x) (fun kv _ => C.length - (intOf kv).toNat)
            case atStart => exact ⟨⟨0, Nat.zero_le _, rfl, fun j _ h => by omega⟩, Drw.refl w1⟩
            case round =>
              obtain ⟨⟨k, hk, rfl, hall⟩, hw⟩ := hrel
              have HALL := Lib.hid hall; clear hall
              have HW := Lib.hid hw
              have hka := add3 g k
              by_cases hkl : k < C.length
              · obtain ⟨ck, hck, x0, x1, x2⟩ := HCELLS.out k hkl
                have y0 := cell_later hw.bel x0
                have y1 := cell_later hw.bel x1
                have y2 := cell_later hw.bel x2
                have HLI := Lib.hid (show ctLess C[k] a b = (decide ((ck.t : Int) < a) || (((ck.t : Int) == a) && decide ((ck.v : Int) < b))) by rw [hck]; exact ct_less _ a b)
                have HAN := Lib.hid (show ctLess C[k] a b = true → ∀ j (h : j < C.length), j < k + 1 → ctLess C[j] a b = true from fun hh j h hj => by
                  by_cases e : j = k
                  · subst e; exact hh
                  · exact HALL.out j h (by omega))
                obtain ⟨ht6, hv6, -⟩ := HCS.out _ (List.getElem_mem hkl)
                rw [← hck] at ht6 hv6
                have HAT := Lib.hid (fun h2 => add_at a b C k hk HALL.out h2)
                have HCK := Lib.hid hck
                have HKL := Lib.hid hkl
                clear hw x0 x1 x2 hck
                by_cases t1 : (ck.t : Int) < (a : Int)
                · have HA2 := Lib.hid (HAN.out (by rw [HLI.out, decide_eq_true t1]; rfl))
                  go_wp2_with (fail)
                  go_roundw
                  case rel => exact ⟨⟨k + 1, hkl, by go_num, HA2.out⟩, HW.out⟩
                  case measure => simp [intOf]; omega
                by_cases t2 : (ck.t : Int) = (a : Int)
                · by_cases t3 : (ck.v : Int) < (b : Int)
                  · have HA2 := Lib.hid (HAN.out (by rw [HLI.out, t2, decide_eq_true t3]; simp))
                    go_wp2_with (fail)
                    go_roundw
                    case rel => exact ⟨⟨k + 1, hkl, by go_num, HA2.out⟩, HW.out⟩
                    case measure => simp [intOf]; omega
                  by_cases t4 : (ck.v : Int) = (b : Int)
                  · have hfw : wr.frozen? ⟨g, k * 3 + 2, none⟩ = false := (HW.out.bel.frozen g _ HGL.out).trans (HFZ.out _)
                    have HADD := Lib.hid (show addC a b C = C.set k ⟨C[k].t, C[k].v, ck.n + 1⟩ by
                      have g1 := congrArg CT.t HCK.out
                      have g2 := congrArg CT.v HCK.out
                      have g3 := congrArg CT.n HCK.out
                      have hA := HAT.out (fun _ => by rw [HLI.out, t2, t4]; simp)
                      rw [dif_pos HKL.out, if_pos ⟨by omega, by omega⟩] at hA
                      have e : CT.mk a b (C[k].n + 1) = CT.mk C[k].t C[k].v (ck.n + 1) := by congr 1 <;> omega
                      exact hA.trans (congrArg (C.set k) e))
                    have hn6 : ck.n ≤ 100000 := by
                      have := (HCS.out _ (List.getElem_mem HKL.out)).2.2
                      have g3 := congrArg CT.n HCK.out
                      omega
                    have HOX := Lib.hid ((HO1.out.bel HW.out.bel).put (k * 3 + 2) (.int .i64 ((ck.n : Int) + 1)) (by show _ < C.length * 3; omega) (L' := C.set k ⟨C[k].t, C[k].v, ck.n + 1⟩) List.length_set (cts_set C k (ck.n + 1) HKL.out))
                    have HBX := Lib.hid (((HB1.out.trans HW.out.bel)).setCell (p := ⟨g, k * 3 + 2, none⟩) HG.out (.int .i64 ((ck.n : Int) + 1)))
                    go_wp2_with (fail)
                    go_roundw
                    case rel => exact ⟨i + 1, hlt, by go_num, by rw [HN.out, HST.out, HADD.out]; exact HOX.out, HBX.out⟩
                    case measure => simp [intOf]; omega
                  · have HADD := Lib.hid (show addC a b C = C.take k ++ ⟨a, b, 1⟩ :: C.drop k by
                      rw [HAT.out (fun _ => by rw [HLI.out, t2, decide_eq_false t3]; simp), dif_pos HKL.out, if_neg (fun hh => t4 (by have g2 := congrArg CT.v HCK.out; omega))])
                    have HBW := Lib.hid (HB1.out.trans HW.out.bel)
                    have HOWR := Lib.hid (HO1.out.bel HW.out.bel)
                    have hCl : C.length ≤ i := hci
                    have HS1 := Lib.hid (show ∀ x, Bel wr x → SrcAt ctEl x (.slice (some ⟨g, 0, none⟩) k ccap) (C.take k) from fun x hx => by
                      have := own_piece ctOk (HOWR.out.bel hx) 0 k ccap (by omega)
                      simpa using this)
                    have HPK : ∃ pk, (if ccap = k then some (⟨g, 0, none⟩ : Addr) else some ⟨g, k * 3, none⟩) = some pk ∧ ∀ x, Bel wr x → SrcAt ctEl x (.slice (some pk) (C.length - k) (ccap - k)) (C.drop k) := by
                      by_cases hck0 : ccap = k
                      · refine ⟨_, if_pos hck0, fun x hx => Or.inr ⟨_, _, by rw [List.length_drop], fun j u hj => ?_⟩⟩
                        rw [List.drop_eq_nil_of_le (by omega)] at hj
                        simp [El.all] at hj
                      · refine ⟨_, if_neg hck0, fun x hx => ?_⟩
                        have := own_piece ctOk (HOWR.out.bel hx) k (C.length - k) (ccap - k) (by omega)
                        rw [List.take_of_length_le (by rw [List.length_drop]; omega)] at this
                        exact this
                    obtain ⟨pk, hpk, hps⟩ := HPK
                    have HS2 := Lib.hid hps
                    have hkc : k ≤ ccap := by omega
                    clear hps
                    go_wp2_with (fail)
                    have HBR := Lib.hid (Bel.refl wr)
                    refine wp_region_held_drew (S := fun z => True) (by kernel_rfl) trivial (fun hHeld => ?_)
                    refine tk (oi := { dst := some 98, op := Op.move (Operand.tmp 3), type := 42, pos := "ref.go:116", after := #[], guard := none }) (v := ?_) 1 rfl ?_ ?_
                    rotate_left
                    · (intro w hSw; (try dsimp only at hSw); first | (go_simp; done) | (go_simp; with_reducible rfl))
                    try simp only [Act.put, List.setIfInBounds_toArray, List.set_cons_zero, List.set_cons_succ]
                    refine tk (oi := { dst := some 99, op := Op.move (Operand.tmp 8), type := 3, pos := "ref.go:116", after := #[], guard := none }) (v := ?_) 2 rfl ?_ ?_
                    rotate_left
                    · (intro w hSw; (try dsimp only at hSw); first | (go_simp; done) | (go_simp; with_reducible rfl))
                    try simp only [Act.put, List.setIfInBounds_toArray, List.set_cons_zero, List.set_cons_succ]
                    refine tk (oi := { dst := some 100, op := Op.slice 42 (Operand.tmp 98) none (some (Operand.tmp 99)) none, type := 42, pos := "ref.go:116", after := #[{ on := 1, ground := Ground.data }, { on := 2, ground := Ground.data }], guard := none }) (v := ?_) 3 rfl ?_ ?_
                    rotate_left
                    · (intro w hSw; (try dsimp only at hSw); first | (go_simp; done) | (go_simp; with_reducible rfl))
                    try simp only [Act.put, List.setIfInBounds_toArray, List.set_cons_zero, List.set_cons_succ]
                    refine tk (oi := { dst := some 102, op := Op.move (Operand.tmp 5), type := 3, pos := "ref.go:116", after := #[], guard := none }) (v := ?_) 5 rfl ?_ ?_
                    rotate_left
                    · (intro w hSw; (try dsimp only at hSw); first | (go_simp; done) | (go_simp; with_reducible rfl))
                    try simp only [Act.put, List.setIfInBounds_toArray, List.set_cons_zero, List.set_cons_succ]
                    refine tk (oi := { dst := some 103, op := Op.move (Operand.tmp 6), type := 3, pos := "ref.go:116", after := #[], guard := none }) (v := ?_) 6 rfl ?_ ?_
                    rotate_left
                    · (intro w hSw; (try dsimp only at hSw); first | (go_simp; done) | (go_simp; with_reducible rfl))
                    try simp only [Act.put, List.setIfInBounds_toArray, List.set_cons_zero, List.set_cons_succ]
                    refine tk (oi := { dst := some 104, op := Op.build 69 #[(0, Operand.tmp 102), (1, Operand.tmp 103), (2, Operand.const (Value.int IntKind.i64 1))], type := 69, pos := "ref.go:116", after := #[{ on := 5, ground := Ground.data }, { on := 6, ground := Ground.data }], guard := none }) (v := ?_) 7 rfl ?_ ?_
                    rotate_left
                    · (intro w hSw; (try dsimp only at hSw); first | (go_simp; done) | (go_simp; with_reducible rfl))
                    try simp only [Act.put, List.setIfInBounds_toArray, List.set_cons_zero, List.set_cons_succ]
                    refine tk (oi := { dst := some 107, op := Op.move (Operand.tmp 3), type := 42, pos := "ref.go:116", after := #[], guard := none }) (v := ?_) 10 rfl ?_ ?_
                    rotate_left
                    · (intro w hSw; (try dsimp only at hSw); first | (go_simp; done) | (go_simp; with_reducible rfl))
                    try simp only [Act.put, List.setIfInBounds_toArray, List.set_cons_zero, List.set_cons_succ]
                    refine tk (oi := { dst := some 108, op := Op.move (Operand.tmp 8), type := 3, pos := "ref.go:116", after := #[], guard := none }) (v := ?_) 11 rfl ?_ ?_
                    rotate_left
                    · (intro w hSw; (try dsimp only at hSw); first | (go_simp; done) | (go_simp; with_reducible rfl))
                    try simp only [Act.put, List.setIfInBounds_toArray, List.set_cons_zero, List.set_cons_succ]
                    refine tk (oi := { dst := some 109, op := Op.slice 42 (Operand.tmp 107) (some (Operand.tmp 108)) none none, type := 42, pos := "ref.go:116", after := #[{ on := 10, ground := Ground.data }, { on := 11, ground := Ground.data }], guard := none }) (v := ?_) 12 rfl ?_ ?_
                    rotate_left
                    · (intro w hSw; (try dsimp only at hSw); first | (go_simp; done) | (go_simp; with_reducible rfl))
                    try simp only [Act.put, List.setIfInBounds_toArray, List.set_cons_zero, List.set_cons_succ]
                    refine wpAnyH_ready (rs := [0, 8]) (by kernel_rfl) (by simp) ?_
                    refine (AllReadyH.cons (o := { dst := some 97, op := Op.buildSlice 42 0 #[], type := 42, pos := "ref.go:116", after := #[], guard := none }) rfl (fun K hK => ?_) (AllReadyH.cons (o := { dst := some 105, op := Op.buildSlice 42 1 #[(0, Operand.tmp 104)], type := 42, pos := "ref.go:116", after := #[{ on := 7, ground := Ground.data }], guard := none }) rfl (fun K hK => ?_) AllReadyH.nil))
                    · go_simp
                      refine hK.out _ _ trivial (fun hHeld => ?_)
                      clear hK K
                      try simp only [Act.put, List.setIfInBounds_toArray, List.set_cons_zero, List.set_cons_succ]
                      obtain ⟨z1, hz1⟩ : ∃ x, x = (wr.alloc (.cells #[] 69)).drew := ⟨_, rfl⟩
                      have HLE := Lib.hid (show z1.heap[wr.heap.size]? = some (.cells #[] 69 (0, 0)) by rw [hz1]; exact heap_alloc_new wr (.cells #[] 69))
                      have hltE : wr.heap.size < z1.heap.size := (Array.getElem?_eq_some_iff.1 HLE.out).1
                      have hbz1 : Bel wr z1 := by rw [hz1]; exact ((Bel.refl wr).alloc _).drew
                      have HBz1 := Lib.hid (HBR.out.trans hbz1)
                      rw [← hz1]
                      clear hz1
                      have HOE := Lib.hid (ownG_empty (E := ctEl) (n := wr.heap.size) HLE.out HBR.out.size)
                      refine wpAnyH_ready (rs := [4, 8]) (by kernel_rfl) (by simp) ?_
                      refine (AllReadyH.cons (o := { dst := some 101, op := Op.call { callee := Callee.builtin Builtin.append, args := #[Operand.tmp 97, Operand.tmp 100], argTypes := #[42, 42] }, type := 42, pos := "ref.go:116", after := #[{ on := 0, ground := Ground.data }, { on := 3, ground := Ground.data }], guard := none }) rfl (fun K hK => ?_) (AllReadyH.cons (o := { dst := some 105, op := Op.buildSlice 42 1 #[(0, Operand.tmp 104)], type := 42, pos := "ref.go:116", after := #[{ on := 7, ground := Ground.data }], guard := none }) rfl (fun K hK => ?_) AllReadyH.nil))
                      · refine step_append_all ctOk rfl (.tmp 97) (.tmp 100) rfl rfl HOE.out (C.take k) rfl (HS1.out z1 HBz1.out) (by simp only [List.length_nil, List.length_take]; unfold maxLen; omega) (by simp only [List.length_nil, List.length_take]; omega) HBz1.out.size ?_
                        intro vz2 z2 hoz2 hkz2 _
                        have HBz2 := Lib.hid (show Bel wr z2 from HBz1.out.trans_below (hkz2.own HBz1.out.size (fun kk hkk => (HOE.out.lt kk hkk).1)))
                        rw [List.nil_append] at hoz2
                        have hkkz2 : Keep (Value.ownBlock (.slice (some ⟨wr.heap.size, 0, none⟩) 0 0)).toList z1 z2 := hkz2
                        have HO2 := Lib.hid hoz2
                        clear hoz2 hkz2 hkkz2
                        refine hK.out _ _ trivial (fun hHeld => ?_)
                        clear hK K
                        try simp only [Act.put, List.setIfInBounds_toArray, List.set_cons_zero, List.set_cons_succ]
                        refine wpAnyH_ready (rs := [8]) (by kernel_rfl) (by simp) ?_
                        refine AllReadyH.cons (o := { dst := some 105, op := Op.buildSlice 42 1 #[(0, Operand.tmp 104)], type := 42, pos := "ref.go:116", after := #[{ on := 7, ground := Ground.data }], guard := none }) rfl (fun K hK => ?_) AllReadyH.nil
                        go_simp
                        refine hK.out _ _ trivial (fun hHeld => ?_)
                        clear hK K
                        try simp only [Act.put, List.setIfInBounds_toArray, List.set_cons_zero, List.set_cons_succ]
                        obtain ⟨z3, hz3⟩ : ∃ x, x = (z2.alloc (.cells #[.int .i64 (a : Int), .int .i64 (b : Int), .int .i64 1] 69)) := ⟨_, rfl⟩
                        have HLL := Lib.hid (show z3.heap[z2.heap.size]? = some (.cells #[.int .i64 (a : Int), .int .i64 (b : Int), .int .i64 1] 69 (0, 0)) by rw [hz3]; exact heap_alloc_new z2 (.cells #[.int .i64 (a : Int), .int .i64 (b : Int), .int .i64 1] 69))
                        have hltL : z2.heap.size < z3.heap.size := (Array.getElem?_eq_some_iff.1 HLL.out).1
                        have hbz3 : Bel z2 z3 := by rw [hz3]; exact ((Bel.refl z2).alloc _)
                        have HBz3 := Lib.hid (HBz2.out.trans hbz3)
                        rw [← hz3]
                        clear hz3
                        have HO2b := Lib.hid (HO2.out.bel hbz3)
                        refine wpAnyH_ready (rs := [9]) (by kernel_rfl) (by simp) ?_
                        refine AllReadyH.cons (o := { dst := some 106, op := Op.call { callee := Callee.builtin Builtin.append, args := #[Operand.tmp 101, Operand.tmp 105], argTypes := #[42, 42] }, type := 42, pos := "ref.go:116", after := #[{ on := 4, ground := Ground.data }, { on := 8, ground := Ground.data }, { on := 4, ground := Ground.chain }], guard := none }) rfl (fun K hK => ?_) AllReadyH.nil
                        refine step_append_all ctOk rfl (.tmp 101) (.tmp 105) rfl rfl HO2b.out [CT.mk a b 1] rfl (src_at [CT.mk a b 1] HLL.out rfl rfl) (by simp only [List.length_take, List.length_singleton]; unfold maxLen; omega) (by simp only [List.length_take, List.length_singleton]; omega) HBz3.out.size ?_
                        intro vz4 z4 hoz4 hkz4 _
                        have HBz4 := Lib.hid (show Bel wr z4 from HBz3.out.trans_below (hkz4.own HBz3.out.size (fun kk hkk => (HO2b.out.lt kk hkk).1)))
                        have HO3 := Lib.hid hoz4
                        clear hoz4 hkz4
                        refine hK.out _ _ trivial (fun hHeld => ?_)
                        clear hK K
                        try simp only [Act.put, List.setIfInBounds_toArray, List.set_cons_zero, List.set_cons_succ]
                        refine wpAnyH_ready (rs := [13]) (by kernel_rfl) (by simp) ?_
                        refine AllReadyH.cons (o := { dst := some 110, op := Op.call { callee := Callee.builtin Builtin.append, args := #[Operand.tmp 106, Operand.tmp 109], argTypes := #[42, 42] }, type := 42, pos := "ref.go:116", after := #[{ on := 9, ground := Ground.data }, { on := 12, ground := Ground.data }, { on := 9, ground := Ground.chain }], guard := none }) rfl (fun K hK => ?_) AllReadyH.nil
                        refine step_append_all ctOk rfl (.tmp 106) (.tmp 109) rfl rfl HO3.out (C.drop k) rfl (HS2.out z4 HBz4.out) (by simp only [List.length_append, List.length_take, List.length_singleton, List.length_drop]; unfold maxLen; omega) (by simp only [List.length_append, List.length_take, List.length_singleton, List.length_drop]; omega) HBz4.out.size ?_
                        intro vz5 z5 hoz5 hkz5 _
                        have HBz5 := Lib.hid (show Bel wr z5 from HBz4.out.trans_below (hkz5.own HBz4.out.size (fun kk hkk => (HO3.out.lt kk hkk).1)))
                        have HO4 := Lib.hid hoz5
                        clear hoz5 hkz5
                        refine hK.out _ _ trivial (fun hHeld => ?_)
                        clear hK K
                        try simp only [Act.put, List.setIfInBounds_toArray, List.set_cons_zero, List.set_cons_succ]
                        refine tk (oi := { dst := some 3, op := Op.assign (Operand.tmp 110), type := 42, pos := "ref.go:116", after := #[{ on := 13, ground := Ground.data }, { on := 13, ground := Ground.chain }, { on := 0, ground := Ground.phase }, { on := 1, ground := Ground.phase }, { on := 2, ground := Ground.phase }, { on := 3, ground := Ground.phase }, { on := 4, ground := Ground.phase }, { on := 5, ground := Ground.phase }, { on := 6, ground := Ground.phase }, { on := 7, ground := Ground.phase }, { on := 8, ground := Ground.phase }, { on := 9, ground := Ground.phase }, { on := 10, ground := Ground.phase }, { on := 11, ground := Ground.phase }, { on := 12, ground := Ground.phase }, { on := 13, ground := Ground.phase }], guard := none }) (v := ?_) 14 rfl ?_ ?_
                        rotate_left
                        · (intro w hSw; (try dsimp only at hSw); first | (go_simp; done) | (go_simp; with_reducible rfl))
                        try simp only [Act.put, List.setIfInBounds_toArray, List.set_cons_zero, List.set_cons_succ]
                        refine wpAnyH_done (by kernel_rfl) ?_ _
                        have HFIN := Lib.hid (show C.take k ++ [CT.mk a b 1] ++ C.drop k = addC a b C by rw [HADD.out]; simp)
                        have HOF := Lib.hid (show OwnG ctEl w.heap.size z5 vz5 (addC a b C) by rw [← HFIN.out]; exact HO4.out.low HBW.out.size)
                        obtain ⟨pf, cf, hvf⟩ := ownG_len HOF.out
                        rw [hvf] at HOF ⊢
                        clear hvf
                        generalize (addC a b C).length = nf at *
                        clear hHeld
                        go_wp2_with (fail)
                        go_roundw
                        case rel => exact ⟨i + 1, hlt, by go_num, by rw [HN.out, HST.out]; exact HOF.out, HBW.out.trans HBz5.out⟩
                        case measure => simp [intOf]; omega
                      · go_simp
                        refine hK.out _ _ trivial (fun hHeld => ?_)
                        clear hK K
                        try simp only [Act.put, List.setIfInBounds_toArray, List.set_cons_zero, List.set_cons_succ]
                        obtain ⟨z2, hz2⟩ : ∃ x, x = (z1.alloc (.cells #[.int .i64 (a : Int), .int .i64 (b : Int), .int .i64 1] 69)) := ⟨_, rfl⟩
                        have HLL := Lib.hid (show z2.heap[z1.heap.size]? = some (.cells #[.int .i64 (a : Int), .int .i64 (b : Int), .int .i64 1] 69 (0, 0)) by rw [hz2]; exact heap_alloc_new z1 (.cells #[.int .i64 (a : Int), .int .i64 (b : Int), .int .i64 1] 69))
                        have hltL : z1.heap.size < z2.heap.size := (Array.getElem?_eq_some_iff.1 HLL.out).1
                        have hbz2 : Bel z1 z2 := by rw [hz2]; exact ((Bel.refl z1).alloc _)
                        have HBz2 := Lib.hid (HBz1.out.trans hbz2)
                        rw [← hz2]
                        clear hz2
                        have HOE2 := Lib.hid (HOE.out.bel hbz2)
                        refine wpAnyH_ready (rs := [4]) (by kernel_rfl) (by simp) ?_
                        refine AllReadyH.cons (o := { dst := some 101, op := Op.call { callee := Callee.builtin Builtin.append, args := #[Operand.tmp 97, Operand.tmp 100], argTypes := #[42, 42] }, type := 42, pos := "ref.go:116", after := #[{ on := 0, ground := Ground.data }, { on := 3, ground := Ground.data }], guard := none }) rfl (fun K hK => ?_) AllReadyH.nil
                        refine step_append_all ctOk rfl (.tmp 97) (.tmp 100) rfl rfl HOE2.out (C.take k) rfl (HS1.out z2 HBz2.out) (by simp only [List.length_nil, List.length_take]; unfold maxLen; omega) (by simp only [List.length_nil, List.length_take]; omega) HBz2.out.size ?_
                        intro vz3 z3 hoz3 hkz3 _
                        have HBz3 := Lib.hid (show Bel wr z3 from HBz2.out.trans_below (hkz3.own HBz2.out.size (fun kk hkk => (HOE2.out.lt kk hkk).1)))
                        rw [List.nil_append] at hoz3
                        have hkkz3 : Keep (Value.ownBlock (.slice (some ⟨wr.heap.size, 0, none⟩) 0 0)).toList z2 z3 := hkz3
                        have HLL3 := Lib.hid (hkkz3.at HLL.out (fun hm => by rw [Option.mem_toList] at hm; simp only [Value.ownBlock, Option.some.injEq] at hm; omega))
                        have HO2 := Lib.hid hoz3
                        clear hoz3 hkz3 hkkz3
                        refine hK.out _ _ trivial (fun hHeld => ?_)
                        clear hK K
                        try simp only [Act.put, List.setIfInBounds_toArray, List.set_cons_zero, List.set_cons_succ]
                        refine wpAnyH_ready (rs := [9]) (by kernel_rfl) (by simp) ?_
                        refine AllReadyH.cons (o := { dst := some 106, op := Op.call { callee := Callee.builtin Builtin.append, args := #[Operand.tmp 101, Operand.tmp 105], argTypes := #[42, 42] }, type := 42, pos := "ref.go:116", after := #[{ on := 4, ground := Ground.data }, { on := 8, ground := Ground.data }, { on := 4, ground := Ground.chain }], guard := none }) rfl (fun K hK => ?_) AllReadyH.nil
                        refine step_append_all ctOk rfl (.tmp 101) (.tmp 105) rfl rfl HO2.out [CT.mk a b 1] rfl (src_at [CT.mk a b 1] HLL3.out rfl rfl) (by simp only [List.length_take, List.length_singleton]; unfold maxLen; omega) (by simp only [List.length_take, List.length_singleton]; omega) HBz3.out.size ?_
                        intro vz4 z4 hoz4 hkz4 _
                        have HBz4 := Lib.hid (show Bel wr z4 from HBz3.out.trans_below (hkz4.own HBz3.out.size (fun kk hkk => (HO2.out.lt kk hkk).1)))
                        have HO3 := Lib.hid hoz4
                        clear hoz4 hkz4
                        refine hK.out _ _ trivial (fun hHeld => ?_)
                        clear hK K
                        try simp only [Act.put, List.setIfInBounds_toArray, List.set_cons_zero, List.set_cons_succ]
                        refine wpAnyH_ready (rs := [13]) (by kernel_rfl) (by simp) ?_
                        refine AllReadyH.cons (o := { dst := some 110, op := Op.call { callee := Callee.builtin Builtin.append, args := #[Operand.tmp 106, Operand.tmp 109], argTypes := #[42, 42] }, type := 42, pos := "ref.go:116", after := #[{ on := 9, ground := Ground.data }, { on := 12, ground := Ground.data }, { on := 9, ground := Ground.chain }], guard := none }) rfl (fun K hK => ?_) AllReadyH.nil
                        refine step_append_all ctOk rfl (.tmp 106) (.tmp 109) rfl rfl HO3.out (C.drop k) rfl (HS2.out z4 HBz4.out) (by simp only [List.length_append, List.length_take, List.length_singleton, List.length_drop]; unfold maxLen; omega) (by simp only [List.length_append, List.length_take, List.length_singleton, List.length_drop]; omega) HBz4.out.size ?_
                        intro vz5 z5 hoz5 hkz5 _
                        have HBz5 := Lib.hid (show Bel wr z5 from HBz4.out.trans_below (hkz5.own HBz4.out.size (fun kk hkk => (HO3.out.lt kk hkk).1)))
                        have HO4 := Lib.hid hoz5
                        clear hoz5 hkz5
                        refine hK.out _ _ trivial (fun hHeld => ?_)
                        clear hK K
                        try simp only [Act.put, List.setIfInBounds_toArray, List.set_cons_zero, List.set_cons_succ]
                        refine tk (oi := { dst := some 3, op := Op.assign (Operand.tmp 110), type := 42, pos := "ref.go:116", after := #[{ on := 13, ground := Ground.data }, { on := 13, ground := Ground.chain }, { on := 0, ground := Ground.phase }, { on := 1, ground := Ground.phase }, { on := 2, ground := Ground.phase }, { on := 3, ground := Ground.phase }, { on := 4, ground := Ground.phase }, { on := 5, ground := Ground.phase }, { on := 6, ground := Ground.phase }, { on := 7, ground := Ground.phase }, { on := 8, ground := Ground.phase }, { on := 9, ground := Ground.phase }, { on := 10, ground := Ground.phase }, { on := 11, ground := Ground.phase }, { on := 12, ground := Ground.phase }, { on := 13, ground := Ground.phase }], guard := none }) (v := ?_) 14 rfl ?_ ?_
                        rotate_left
                        · (intro w hSw; (try dsimp only at hSw); first | (go_simp; done) | (go_simp; with_reducible rfl))
                        try simp only [Act.put, List.setIfInBounds_toArray, List.set_cons_zero, List.set_cons_succ]
                        refine wpAnyH_done (by kernel_rfl) ?_ _
                        have HFIN := Lib.hid (show C.take k ++ [CT.mk a b 1] ++ C.drop k = addC a b C by rw [HADD.out]; simp)
                        have HOF := Lib.hid (show OwnG ctEl w.heap.size z5 vz5 (addC a b C) by rw [← HFIN.out]; exact HO4.out.low HBW.out.size)
                        obtain ⟨pf, cf, hvf⟩ := ownG_len HOF.out
                        rw [hvf] at HOF ⊢
                        clear hvf
                        generalize (addC a b C).length = nf at *
                        clear hHeld
                        go_wp2_with (fail)
                        go_roundw
                        case rel => exact ⟨i + 1, hlt, by go_num, by rw [HN.out, HST.out]; exact HOF.out, HBW.out.trans HBz5.out⟩
                        case measure => simp [intOf]; omega
                    · go_simp
                      refine hK.out _ _ trivial (fun hHeld => ?_)
                      clear hK K
                      try simp only [Act.put, List.setIfInBounds_toArray, List.set_cons_zero, List.set_cons_succ]
                      obtain ⟨z1, hz1⟩ : ∃ x, x = (wr.alloc (.cells #[.int .i64 (a : Int), .int .i64 (b : Int), .int .i64 1] 69)).drew := ⟨_, rfl⟩
                      have HLL := Lib.hid (show z1.heap[wr.heap.size]? = some (.cells #[.int .i64 (a : Int), .int .i64 (b : Int), .int .i64 1] 69 (0, 0)) by rw [hz1]; exact heap_alloc_new wr (.cells #[.int .i64 (a : Int), .int .i64 (b : Int), .int .i64 1] 69))
                      have hltL : wr.heap.size < z1.heap.size := (Array.getElem?_eq_some_iff.1 HLL.out).1
                      have hbz1 : Bel wr z1 := by rw [hz1]; exact ((Bel.refl wr).alloc _).drew
                      have HBz1 := Lib.hid (HBR.out.trans hbz1)
                      rw [← hz1]
                      clear hz1
                      refine wpAnyH_ready (rs := [0]) (by kernel_rfl) (by simp) ?_
                      refine AllReadyH.cons (o := { dst := some 97, op := Op.buildSlice 42 0 #[], type := 42, pos := "ref.go:116", after := #[], guard := none }) rfl (fun K hK => ?_) AllReadyH.nil
                      go_simp
                      refine hK.out _ _ trivial (fun hHeld => ?_)
                      clear hK K
                      try simp only [Act.put, List.setIfInBounds_toArray, List.set_cons_zero, List.set_cons_succ]
                      obtain ⟨z2, hz2⟩ : ∃ x, x = (z1.alloc (.cells #[] 69)) := ⟨_, rfl⟩
                      have HLE := Lib.hid (show z2.heap[z1.heap.size]? = some (.cells #[] 69 (0, 0)) by rw [hz2]; exact heap_alloc_new z1 (.cells #[] 69))
                      have hltE : z1.heap.size < z2.heap.size := (Array.getElem?_eq_some_iff.1 HLE.out).1
                      have hbz2 : Bel z1 z2 := by rw [hz2]; exact ((Bel.refl z1).alloc _)
                      have HBz2 := Lib.hid (HBz1.out.trans hbz2)
                      rw [← hz2]
                      clear hz2
                      have HOE := Lib.hid (ownG_empty (E := ctEl) (n := wr.heap.size) HLE.out HBz1.out.size)
                      have HLL2 := Lib.hid ((Below.block hbz2 wr.heap.size (by omega)).trans HLL.out)
                      refine wpAnyH_ready (rs := [4]) (by kernel_rfl) (by simp) ?_
                      refine AllReadyH.cons (o := { dst := some 101, op := Op.call { callee := Callee.builtin Builtin.append, args := #[Operand.tmp 97, Operand.tmp 100], argTypes := #[42, 42] }, type := 42, pos := "ref.go:116", after := #[{ on := 0, ground := Ground.data }, { on := 3, ground := Ground.data }], guard := none }) rfl (fun K hK => ?_) AllReadyH.nil
                      refine step_append_all ctOk rfl (.tmp 97) (.tmp 100) rfl rfl HOE.out (C.take k) rfl (HS1.out z2 HBz2.out) (by simp only [List.length_nil, List.length_take]; unfold maxLen; omega) (by simp only [List.length_nil, List.length_take]; omega) HBz2.out.size ?_
                      intro vz3 z3 hoz3 hkz3 _
                      have HBz3 := Lib.hid (show Bel wr z3 from HBz2.out.trans_below (hkz3.own HBz2.out.size (fun kk hkk => (HOE.out.lt kk hkk).1)))
                      rw [List.nil_append] at hoz3
                      have hkkz3 : Keep (Value.ownBlock (.slice (some ⟨z1.heap.size, 0, none⟩) 0 0)).toList z2 z3 := hkz3
                      have HLL3 := Lib.hid (hkkz3.at HLL2.out (fun hm => by rw [Option.mem_toList] at hm; simp only [Value.ownBlock, Option.some.injEq] at hm; omega))
                      have HO2 := Lib.hid hoz3
                      clear hoz3 hkz3 hkkz3
                      refine hK.out _ _ trivial (fun hHeld => ?_)
                      clear hK K
                      try simp only [Act.put, List.setIfInBounds_toArray, List.set_cons_zero, List.set_cons_succ]
                      refine wpAnyH_ready (rs := [9]) (by kernel_rfl) (by simp) ?_
                      refine AllReadyH.cons (o := { dst := some 106, op := Op.call { callee := Callee.builtin Builtin.append, args := #[Operand.tmp 101, Operand.tmp 105], argTypes := #[42, 42] }, type := 42, pos := "ref.go:116", after := #[{ on := 4, ground := Ground.data }, { on := 8, ground := Ground.data }, { on := 4, ground := Ground.chain }], guard := none }) rfl (fun K hK => ?_) AllReadyH.nil
                      refine step_append_all ctOk rfl (.tmp 101) (.tmp 105) rfl rfl HO2.out [CT.mk a b 1] rfl (src_at [CT.mk a b 1] HLL3.out rfl rfl) (by simp only [List.length_take, List.length_singleton]; unfold maxLen; omega) (by simp only [List.length_take, List.length_singleton]; omega) HBz3.out.size ?_
                      intro vz4 z4 hoz4 hkz4 _
                      have HBz4 := Lib.hid (show Bel wr z4 from HBz3.out.trans_below (hkz4.own HBz3.out.size (fun kk hkk => (HO2.out.lt kk hkk).1)))
                      have HO3 := Lib.hid hoz4
                      clear hoz4 hkz4
                      refine hK.out _ _ trivial (fun hHeld => ?_)
                      clear hK K
                      try simp only [Act.put, List.setIfInBounds_toArray, List.set_cons_zero, List.set_cons_succ]
                      refine wpAnyH_ready (rs := [13]) (by kernel_rfl) (by simp) ?_
                      refine AllReadyH.cons (o := { dst := some 110, op := Op.call { callee := Callee.builtin Builtin.append, args := #[Operand.tmp 106, Operand.tmp 109], argTypes := #[42, 42] }, type := 42, pos := "ref.go:116", after := #[{ on := 9, ground := Ground.data }, { on := 12, ground := Ground.data }, { on := 9, ground := Ground.chain }], guard := none }) rfl (fun K hK => ?_) AllReadyH.nil
                      refine step_append_all ctOk rfl (.tmp 106) (.tmp 109) rfl rfl HO3.out (C.drop k) rfl (HS2.out z4 HBz4.out) (by simp only [List.length_append, List.length_take, List.length_singleton, List.length_drop]; unfold maxLen; omega) (by simp only [List.length_append, List.length_take, List.length_singleton, List.length_drop]; omega) HBz4.out.size ?_
                      intro vz5 z5 hoz5 hkz5 _
                      have HBz5 := Lib.hid (show Bel wr z5 from HBz4.out.trans_below (hkz5.own HBz4.out.size (fun kk hkk => (HO3.out.lt kk hkk).1)))
                      have HO4 := Lib.hid hoz5
                      clear hoz5 hkz5
                      refine hK.out _ _ trivial (fun hHeld => ?_)
                      clear hK K
                      try simp only [Act.put, List.setIfInBounds_toArray, List.set_cons_zero, List.set_cons_succ]
                      refine tk (oi := { dst := some 3, op := Op.assign (Operand.tmp 110), type := 42, pos := "ref.go:116", after := #[{ on := 13, ground := Ground.data }, { on := 13, ground := Ground.chain }, { on := 0, ground := Ground.phase }, { on := 1, ground := Ground.phase }, { on := 2, ground := Ground.phase }, { on := 3, ground := Ground.phase }, { on := 4, ground := Ground.phase }, { on := 5, ground := Ground.phase }, { on := 6, ground := Ground.phase }, { on := 7, ground := Ground.phase }, { on := 8, ground := Ground.phase }, { on := 9, ground := Ground.phase }, { on := 10, ground := Ground.phase }, { on := 11, ground := Ground.phase }, { on := 12, ground := Ground.phase }, { on := 13, ground := Ground.phase }], guard := none }) (v := ?_) 14 rfl ?_ ?_
                      rotate_left
                      · (intro w hSw; (try dsimp only at hSw); first | (go_simp; done) | (go_simp; with_reducible rfl))
                      try simp only [Act.put, List.setIfInBounds_toArray, List.set_cons_zero, List.set_cons_succ]
                      refine wpAnyH_done (by kernel_rfl) ?_ _
                      have HFIN := Lib.hid (show C.take k ++ [CT.mk a b 1] ++ C.drop k = addC a b C by rw [HADD.out]; simp)
                      have HOF := Lib.hid (show OwnG ctEl w.heap.size z5 vz5 (addC a b C) by rw [← HFIN.out]; exact HO4.out.low HBW.out.size)
                      obtain ⟨pf, cf, hvf⟩ := ownG_len HOF.out
                      rw [hvf] at HOF ⊢
                      clear hvf
                      generalize (addC a b C).length = nf at *
                      clear hHeld
                      go_wp2_with (fail)
                      go_roundw
                      case rel => exact ⟨i + 1, hlt, by go_num, by rw [HN.out, HST.out]; exact HOF.out, HBW.out.trans HBz5.out⟩
                      case measure => simp [intOf]; omega
                · have HADD := Lib.hid (show addC a b C = C.take k ++ ⟨a, b, 1⟩ :: C.drop k by
                    rw [HAT.out (fun _ => by rw [HLI.out, decide_eq_false t1, beq_eq_false_iff_ne.2 t2]; rfl), dif_pos HKL.out, if_neg (fun hh => t2 (by have g1 := congrArg CT.t HCK.out; omega))])
                  have HBW := Lib.hid (HB1.out.trans HW.out.bel)
                  have HOWR := Lib.hid (HO1.out.bel HW.out.bel)
                  have hCl : C.length ≤ i := hci
                  have HS1 := Lib.hid (show ∀ x, Bel wr x → SrcAt ctEl x (.slice (some ⟨g, 0, none⟩) k ccap) (C.take k) from fun x hx => by
                    have := own_piece ctOk (HOWR.out.bel hx) 0 k ccap (by omega)
                    simpa using this)
                  have HPK : ∃ pk, (if ccap = k then some (⟨g, 0, none⟩ : Addr) else some ⟨g, k * 3, none⟩) = some pk ∧ ∀ x, Bel wr x → SrcAt ctEl x (.slice (some pk) (C.length - k) (ccap - k)) (C.drop k) := by
                    by_cases hck0 : ccap = k
                    · refine ⟨_, if_pos hck0, fun x hx => Or.inr ⟨_, _, by rw [List.length_drop], fun j u hj => ?_⟩⟩
                      rw [List.drop_eq_nil_of_le (by omega)] at hj
                      simp [El.all] at hj
                    · refine ⟨_, if_neg hck0, fun x hx => ?_⟩
                      have := own_piece ctOk (HOWR.out.bel hx) k (C.length - k) (ccap - k) (by omega)
                      rw [List.take_of_length_le (by rw [List.length_drop]; omega)] at this
                      exact this
                  obtain ⟨pk, hpk, hps⟩ := HPK
                  have HS2 := Lib.hid hps
                  have hkc : k ≤ ccap := by omega
                  clear hps
                  go_wp2_with (fail)
                  have HBR := Lib.hid (Bel.refl wr)
                  refine wp_region_held_drew (S := fun z => True) (by kernel_rfl) trivial (fun hHeld => ?_)
                  refine tk (oi := { dst := some 98, op := Op.move (Operand.tmp 3), type := 42, pos := "ref.go:116", after := #[], guard := none }) (v := ?_) 1 rfl ?_ ?_
                  rotate_left
                  · (intro w hSw; (try dsimp only at hSw); first | (go_simp; done) | (go_simp; with_reducible rfl))
                  try simp only [Act.put, List.setIfInBounds_toArray, List.set_cons_zero, List.set_cons_succ]
                  refine tk (oi := { dst := some 99, op := Op.move (Operand.tmp 8), type := 3, pos := "ref.go:116", after := #[], guard := none }) (v := ?_) 2 rfl ?_ ?_
                  rotate_left
                  · (intro w hSw; (try dsimp only at hSw); first | (go_simp; done) | (go_simp; with_reducible rfl))
                  try simp only [Act.put, List.setIfInBounds_toArray, List.set_cons_zero, List.set_cons_succ]
                  refine tk (oi := { dst := some 100, op := Op.slice 42 (Operand.tmp 98) none (some (Operand.tmp 99)) none, type := 42, pos := "ref.go:116", after := #[{ on := 1, ground := Ground.data }, { on := 2, ground := Ground.data }], guard := none }) (v := ?_) 3 rfl ?_ ?_
                  rotate_left
                  · (intro w hSw; (try dsimp only at hSw); first | (go_simp; done) | (go_simp; with_reducible rfl))
                  try simp only [Act.put, List.setIfInBounds_toArray, List.set_cons_zero, List.set_cons_succ]
                  refine tk (oi := { dst := some 102, op := Op.move (Operand.tmp 5), type := 3, pos := "ref.go:116", after := #[], guard := none }) (v := ?_) 5 rfl ?_ ?_
                  rotate_left
                  · (intro w hSw; (try dsimp only at hSw); first | (go_simp; done) | (go_simp; with_reducible rfl))
                  try simp only [Act.put, List.setIfInBounds_toArray, List.set_cons_zero, List.set_cons_succ]
                  refine tk (oi := { dst := some 103, op := Op.move (Operand.tmp 6), type := 3, pos := "ref.go:116", after := #[], guard := none }) (v := ?_) 6 rfl ?_ ?_
                  rotate_left
                  · (intro w hSw; (try dsimp only at hSw); first | (go_simp; done) | (go_simp; with_reducible rfl))
                  try simp only [Act.put, List.setIfInBounds_toArray, List.set_cons_zero, List.set_cons_succ]
                  refine tk (oi := { dst := some 104, op := Op.build 69 #[(0, Operand.tmp 102), (1, Operand.tmp 103), (2, Operand.const (Value.int IntKind.i64 1))], type := 69, pos := "ref.go:116", after := #[{ on := 5, ground := Ground.data }, { on := 6, ground := Ground.data }], guard := none }) (v := ?_) 7 rfl ?_ ?_
                  rotate_left
                  · (intro w hSw; (try dsimp only at hSw); first | (go_simp; done) | (go_simp; with_reducible rfl))
                  try simp only [Act.put, List.setIfInBounds_toArray, List.set_cons_zero, List.set_cons_succ]
                  refine tk (oi := { dst := some 107, op := Op.move (Operand.tmp 3), type := 42, pos := "ref.go:116", after := #[], guard := none }) (v := ?_) 10 rfl ?_ ?_
                  rotate_left
                  · (intro w hSw; (try dsimp only at hSw); first | (go_simp; done) | (go_simp; with_reducible rfl))
                  try simp only [Act.put, List.setIfInBounds_toArray, List.set_cons_zero, List.set_cons_succ]
                  refine tk (oi := { dst := some 108, op := Op.move (Operand.tmp 8), type := 3, pos := "ref.go:116", after := #[], guard := none }) (v := ?_) 11 rfl ?_ ?_
                  rotate_left
                  · (intro w hSw; (try dsimp only at hSw); first | (go_simp; done) | (go_simp; with_reducible rfl))
                  try simp only [Act.put, List.setIfInBounds_toArray, List.set_cons_zero, List.set_cons_succ]
                  refine tk (oi := { dst := some 109, op := Op.slice 42 (Operand.tmp 107) (some (Operand.tmp 108)) none none, type := 42, pos := "ref.go:116", after := #[{ on := 10, ground := Ground.data }, { on := 11, ground := Ground.data }], guard := none }) (v := ?_) 12 rfl ?_ ?_
                  rotate_left
                  · (intro w hSw; (try dsimp only at hSw); first | (go_simp; done) | (go_simp; with_reducible rfl))
                  try simp only [Act.put, List.setIfInBounds_toArray, List.set_cons_zero, List.set_cons_succ]
                  refine wpAnyH_ready (rs := [0, 8]) (by kernel_rfl) (by simp) ?_
                  refine (AllReadyH.cons (o := { dst := some 97, op := Op.buildSlice 42 0 #[], type := 42, pos := "ref.go:116", after := #[], guard := none }) rfl (fun K hK => ?_) (AllReadyH.cons (o := { dst := some 105, op := Op.buildSlice 42 1 #[(0, Operand.tmp 104)], type := 42, pos := "ref.go:116", after := #[{ on := 7, ground := Ground.data }], guard := none }) rfl (fun K hK => ?_) AllReadyH.nil))
                  · go_simp
                    refine hK.out _ _ trivial (fun hHeld => ?_)
                    clear hK K
                    try simp only [Act.put, List.setIfInBounds_toArray, List.set_cons_zero, List.set_cons_succ]
                    obtain ⟨z1, hz1⟩ : ∃ x, x = (wr.alloc (.cells #[] 69)).drew := ⟨_, rfl⟩
                    have HLE := Lib.hid (show z1.heap[wr.heap.size]? = some (.cells #[] 69 (0, 0)) by rw [hz1]; exact heap_alloc_new wr (.cells #[] 69))
                    have hltE : wr.heap.size < z1.heap.size := (Array.getElem?_eq_some_iff.1 HLE.out).1
                    have hbz1 : Bel wr z1 := by rw [hz1]; exact ((Bel.refl wr).alloc _).drew
                    have HBz1 := Lib.hid (HBR.out.trans hbz1)
                    rw [← hz1]
                    clear hz1
                    have HOE := Lib.hid (ownG_empty (E := ctEl) (n := wr.heap.size) HLE.out HBR.out.size)
                    refine wpAnyH_ready (rs := [4, 8]) (by kernel_rfl) (by simp) ?_
                    refine (AllReadyH.cons (o := { dst := some 101, op := Op.call { callee := Callee.builtin Builtin.append, args := #[Operand.tmp 97, Operand.tmp 100], argTypes := #[42, 42] }, type := 42, pos := "ref.go:116", after := #[{ on := 0, ground := Ground.data }, { on := 3, ground := Ground.data }], guard := none }) rfl (fun K hK => ?_) (AllReadyH.cons (o := { dst := some 105, op := Op.buildSlice 42 1 #[(0, Operand.tmp 104)], type := 42, pos := "ref.go:116", after := #[{ on := 7, ground := Ground.data }], guard := none }) rfl (fun K hK => ?_) AllReadyH.nil))
                    · refine step_append_all ctOk rfl (.tmp 97) (.tmp 100) rfl rfl HOE.out (C.take k) rfl (HS1.out z1 HBz1.out) (by simp only [List.length_nil, List.length_take]; unfold maxLen; omega) (by simp only [List.length_nil, List.length_take]; omega) HBz1.out.size ?_
                      intro vz2 z2 hoz2 hkz2 _
                      have HBz2 := Lib.hid (show Bel wr z2 from HBz1.out.trans_below (hkz2.own HBz1.out.size (fun kk hkk => (HOE.out.lt kk hkk).1)))
                      rw [List.nil_append] at hoz2
                      have hkkz2 : Keep (Value.ownBlock (.slice (some ⟨wr.heap.size, 0, none⟩) 0 0)).toList z1 z2 := hkz2
                      have HO2 := Lib.hid hoz2
                      clear hoz2 hkz2 hkkz2
                      refine hK.out _ _ trivial (fun hHeld => ?_)
                      clear hK K
                      try simp only [Act.put, List.setIfInBounds_toArray, List.set_cons_zero, List.set_cons_succ]
                      refine wpAnyH_ready (rs := [8]) (by kernel_rfl) (by simp) ?_
                      refine AllReadyH.cons (o := { dst := some 105, op := Op.buildSlice 42 1 #[(0, Operand.tmp 104)], type := 42, pos := "ref.go:116", after := #[{ on := 7, ground := Ground.data }], guard := none }) rfl (fun K hK => ?_) AllReadyH.nil
                      go_simp
                      refine hK.out _ _ trivial (fun hHeld => ?_)
                      clear hK K
                      try simp only [Act.put, List.setIfInBounds_toArray, List.set_cons_zero, List.set_cons_succ]
                      obtain ⟨z3, hz3⟩ : ∃ x, x = (z2.alloc (.cells #[.int .i64 (a : Int), .int .i64 (b : Int), .int .i64 1] 69)) := ⟨_, rfl⟩
                      have HLL := Lib.hid (show z3.heap[z2.heap.size]? = some (.cells #[.int .i64 (a : Int), .int .i64 (b : Int), .int .i64 1] 69 (0, 0)) by rw [hz3]; exact heap_alloc_new z2 (.cells #[.int .i64 (a : Int), .int .i64 (b : Int), .int .i64 1] 69))
                      have hltL : z2.heap.size < z3.heap.size := (Array.getElem?_eq_some_iff.1 HLL.out).1
                      have hbz3 : Bel z2 z3 := by rw [hz3]; exact ((Bel.refl z2).alloc _)
                      have HBz3 := Lib.hid (HBz2.out.trans hbz3)
                      rw [← hz3]
                      clear hz3
                      have HO2b := Lib.hid (HO2.out.bel hbz3)
                      refine wpAnyH_ready (rs := [9]) (by kernel_rfl) (by simp) ?_
                      refine AllReadyH.cons (o := { dst := some 106, op := Op.call { callee := Callee.builtin Builtin.append, args := #[Operand.tmp 101, Operand.tmp 105], argTypes := #[42, 42] }, type := 42, pos := "ref.go:116", after := #[{ on := 4, ground := Ground.data }, { on := 8, ground := Ground.data }, { on := 4, ground := Ground.chain }], guard := none }) rfl (fun K hK => ?_) AllReadyH.nil
                      refine step_append_all ctOk rfl (.tmp 101) (.tmp 105) rfl rfl HO2b.out [CT.mk a b 1] rfl (src_at [CT.mk a b 1] HLL.out rfl rfl) (by simp only [List.length_take, List.length_singleton]; unfold maxLen; omega) (by simp only [List.length_take, List.length_singleton]; omega) HBz3.out.size ?_
                      intro vz4 z4 hoz4 hkz4 _
                      have HBz4 := Lib.hid (show Bel wr z4 from HBz3.out.trans_below (hkz4.own HBz3.out.size (fun kk hkk => (HO2b.out.lt kk hkk).1)))
                      have HO3 := Lib.hid hoz4
                      clear hoz4 hkz4
                      refine hK.out _ _ trivial (fun hHeld => ?_)
                      clear hK K
                      try simp only [Act.put, List.setIfInBounds_toArray, List.set_cons_zero, List.set_cons_succ]
                      refine wpAnyH_ready (rs := [13]) (by kernel_rfl) (by simp) ?_
                      refine AllReadyH.cons (o := { dst := some 110, op := Op.call { callee := Callee.builtin Builtin.append, args := #[Operand.tmp 106, Operand.tmp 109], argTypes := #[42, 42] }, type := 42, pos := "ref.go:116", after := #[{ on := 9, ground := Ground.data }, { on := 12, ground := Ground.data }, { on := 9, ground := Ground.chain }], guard := none }) rfl (fun K hK => ?_) AllReadyH.nil
                      refine step_append_all ctOk rfl (.tmp 106) (.tmp 109) rfl rfl HO3.out (C.drop k) rfl (HS2.out z4 HBz4.out) (by simp only [List.length_append, List.length_take, List.length_singleton, List.length_drop]; unfold maxLen; omega) (by simp only [List.length_append, List.length_take, List.length_singleton, List.length_drop]; omega) HBz4.out.size ?_
                      intro vz5 z5 hoz5 hkz5 _
                      have HBz5 := Lib.hid (show Bel wr z5 from HBz4.out.trans_below (hkz5.own HBz4.out.size (fun kk hkk => (HO3.out.lt kk hkk).1)))
                      have HO4 := Lib.hid hoz5
                      clear hoz5 hkz5
                      refine hK.out _ _ trivial (fun hHeld => ?_)
                      clear hK K
                      try simp only [Act.put, List.setIfInBounds_toArray, List.set_cons_zero, List.set_cons_succ]
                      refine tk (oi := { dst := some 3, op := Op.assign (Operand.tmp 110), type := 42, pos := "ref.go:116", after := #[{ on := 13, ground := Ground.data }, { on := 13, ground := Ground.chain }, { on := 0, ground := Ground.phase }, { on := 1, ground := Ground.phase }, { on := 2, ground := Ground.phase }, { on := 3, ground := Ground.phase }, { on := 4, ground := Ground.phase }, { on := 5, ground := Ground.phase }, { on := 6, ground := Ground.phase }, { on := 7, ground := Ground.phase }, { on := 8, ground := Ground.phase }, { on := 9, ground := Ground.phase }, { on := 10, ground := Ground.phase }, { on := 11, ground := Ground.phase }, { on := 12, ground := Ground.phase }, { on := 13, ground := Ground.phase }], guard := none }) (v := ?_) 14 rfl ?_ ?_
                      rotate_left
                      · (intro w hSw; (try dsimp only at hSw); first | (go_simp; done) | (go_simp; with_reducible rfl))
                      try simp only [Act.put, List.setIfInBounds_toArray, List.set_cons_zero, List.set_cons_succ]
                      refine wpAnyH_done (by kernel_rfl) ?_ _
                      have HFIN := Lib.hid (show C.take k ++ [CT.mk a b 1] ++ C.drop k = addC a b C by rw [HADD.out]; simp)
                      have HOF := Lib.hid (show OwnG ctEl w.heap.size z5 vz5 (addC a b C) by rw [← HFIN.out]; exact HO4.out.low HBW.out.size)
                      obtain ⟨pf, cf, hvf⟩ := ownG_len HOF.out
                      rw [hvf] at HOF ⊢
                      clear hvf
                      generalize (addC a b C).length = nf at *
                      clear hHeld
                      go_wp2_with (fail)
                      go_roundw
                      case rel => exact ⟨i + 1, hlt, by go_num, by rw [HN.out, HST.out]; exact HOF.out, HBW.out.trans HBz5.out⟩
                      case measure => simp [intOf]; omega
                    · go_simp
                      refine hK.out _ _ trivial (fun hHeld => ?_)
                      clear hK K
                      try simp only [Act.put, List.setIfInBounds_toArray, List.set_cons_zero, List.set_cons_succ]
                      obtain ⟨z2, hz2⟩ : ∃ x, x = (z1.alloc (.cells #[.int .i64 (a : Int), .int .i64 (b : Int), .int .i64 1] 69)) := ⟨_, rfl⟩
                      have HLL := Lib.hid (show z2.heap[z1.heap.size]? = some (.cells #[.int .i64 (a : Int), .int .i64 (b : Int), .int .i64 1] 69 (0, 0)) by rw [hz2]; exact heap_alloc_new z1 (.cells #[.int .i64 (a : Int), .int .i64 (b : Int), .int .i64 1] 69))
                      have hltL : z1.heap.size < z2.heap.size := (Array.getElem?_eq_some_iff.1 HLL.out).1
                      have hbz2 : Bel z1 z2 := by rw [hz2]; exact ((Bel.refl z1).alloc _)
                      have HBz2 := Lib.hid (HBz1.out.trans hbz2)
                      rw [← hz2]
                      clear hz2
                      have HOE2 := Lib.hid (HOE.out.bel hbz2)
                      refine wpAnyH_ready (rs := [4]) (by kernel_rfl) (by simp) ?_
                      refine AllReadyH.cons (o := { dst := some 101, op := Op.call { callee := Callee.builtin Builtin.append, args := #[Operand.tmp 97, Operand.tmp 100], argTypes := #[42, 42] }, type := 42, pos := "ref.go:116", after := #[{ on := 0, ground := Ground.data }, { on := 3, ground := Ground.data }], guard := none }) rfl (fun K hK => ?_) AllReadyH.nil
                      refine step_append_all ctOk rfl (.tmp 97) (.tmp 100) rfl rfl HOE2.out (C.take k) rfl (HS1.out z2 HBz2.out) (by simp only [List.length_nil, List.length_take]; unfold maxLen; omega) (by simp only [List.length_nil, List.length_take]; omega) HBz2.out.size ?_
                      intro vz3 z3 hoz3 hkz3 _
                      have HBz3 := Lib.hid (show Bel wr z3 from HBz2.out.trans_below (hkz3.own HBz2.out.size (fun kk hkk => (HOE2.out.lt kk hkk).1)))
                      rw [List.nil_append] at hoz3
                      have hkkz3 : Keep (Value.ownBlock (.slice (some ⟨wr.heap.size, 0, none⟩) 0 0)).toList z2 z3 := hkz3
                      have HLL3 := Lib.hid (hkkz3.at HLL.out (fun hm => by rw [Option.mem_toList] at hm; simp only [Value.ownBlock, Option.some.injEq] at hm; omega))
                      have HO2 := Lib.hid hoz3
                      clear hoz3 hkz3 hkkz3
                      refine hK.out _ _ trivial (fun hHeld => ?_)
                      clear hK K
                      try simp only [Act.put, List.setIfInBounds_toArray, List.set_cons_zero, List.set_cons_succ]
                      refine wpAnyH_ready (rs := [9]) (by kernel_rfl) (by simp) ?_
                      refine AllReadyH.cons (o := { dst := some 106, op := Op.call { callee := Callee.builtin Builtin.append, args := #[Operand.tmp 101, Operand.tmp 105], argTypes := #[42, 42] }, type := 42, pos := "ref.go:116", after := #[{ on := 4, ground := Ground.data }, { on := 8, ground := Ground.data }, { on := 4, ground := Ground.chain }], guard := none }) rfl (fun K hK => ?_) AllReadyH.nil
                      refine step_append_all ctOk rfl (.tmp 101) (.tmp 105) rfl rfl HO2.out [CT.mk a b 1] rfl (src_at [CT.mk a b 1] HLL3.out rfl rfl) (by simp only [List.length_take, List.length_singleton]; unfold maxLen; omega) (by simp only [List.length_take, List.length_singleton]; omega) HBz3.out.size ?_
                      intro vz4 z4 hoz4 hkz4 _
                      have HBz4 := Lib.hid (show Bel wr z4 from HBz3.out.trans_below (hkz4.own HBz3.out.size (fun kk hkk => (HO2.out.lt kk hkk).1)))
                      have HO3 := Lib.hid hoz4
                      clear hoz4 hkz4
                      refine hK.out _ _ trivial (fun hHeld => ?_)
                      clear hK K
                      try simp only [Act.put, List.setIfInBounds_toArray, List.set_cons_zero, List.set_cons_succ]
                      refine wpAnyH_ready (rs := [13]) (by kernel_rfl) (by simp) ?_
                      refine AllReadyH.cons (o := { dst := some 110, op := Op.call { callee := Callee.builtin Builtin.append, args := #[Operand.tmp 106, Operand.tmp 109], argTypes := #[42, 42] }, type := 42, pos := "ref.go:116", after := #[{ on := 9, ground := Ground.data }, { on := 12, ground := Ground.data }, { on := 9, ground := Ground.chain }], guard := none }) rfl (fun K hK => ?_) AllReadyH.nil
                      refine step_append_all ctOk rfl (.tmp 106) (.tmp 109) rfl rfl HO3.out (C.drop k) rfl (HS2.out z4 HBz4.out) (by simp only [List.length_append, List.length_take, List.length_singleton, List.length_drop]; unfold maxLen; omega) (by simp only [List.length_append, List.length_take, List.length_singleton, List.length_drop]; omega) HBz4.out.size ?_
                      intro vz5 z5 hoz5 hkz5 _
                      have HBz5 := Lib.hid (show Bel wr z5 from HBz4.out.trans_below (hkz5.own HBz4.out.size (fun kk hkk => (HO3.out.lt kk hkk).1)))
                      have HO4 := Lib.hid hoz5
                      clear hoz5 hkz5
                      refine hK.out _ _ trivial (fun hHeld => ?_)
                      clear hK K
                      try simp only [Act.put, List.setIfInBounds_toArray, List.set_cons_zero, List.set_cons_succ]
                      refine tk (oi := { dst := some 3, op := Op.assign (Operand.tmp 110), type := 42, pos := "ref.go:116", after := #[{ on := 13, ground := Ground.data }, { on := 13, ground := Ground.chain }, { on := 0, ground := Ground.phase }, { on := 1, ground := Ground.phase }, { on := 2, ground := Ground.phase }, { on := 3, ground := Ground.phase }, { on := 4, ground := Ground.phase }, { on := 5, ground := Ground.phase }, { on := 6, ground := Ground.phase }, { on := 7, ground := Ground.phase }, { on := 8, ground := Ground.phase }, { on := 9, ground := Ground.phase }, { on := 10, ground := Ground.phase }, { on := 11, ground := Ground.phase }, { on := 12, ground := Ground.phase }, { on := 13, ground := Ground.phase }], guard := none }) (v := ?_) 14 rfl ?_ ?_
                      rotate_left
                      · (intro w hSw; (try dsimp only at hSw); first | (go_simp; done) | (go_simp; with_reducible rfl))
                      try simp only [Act.put, List.setIfInBounds_toArray, List.set_cons_zero, List.set_cons_succ]
                      refine wpAnyH_done (by kernel_rfl) ?_ _
                      have HFIN := Lib.hid (show C.take k ++ [CT.mk a b 1] ++ C.drop k = addC a b C by rw [HADD.out]; simp)
                      have HOF := Lib.hid (show OwnG ctEl w.heap.size z5 vz5 (addC a b C) by rw [← HFIN.out]; exact HO4.out.low HBW.out.size)
                      obtain ⟨pf, cf, hvf⟩ := ownG_len HOF.out
                      rw [hvf] at HOF ⊢
                      clear hvf
                      generalize (addC a b C).length = nf at *
                      clear hHeld
                      go_wp2_with (fail)
                      go_roundw
                      case rel => exact ⟨i + 1, hlt, by go_num, by rw [HN.out, HST.out]; exact HOF.out, HBW.out.trans HBz5.out⟩
                      case measure => simp [intOf]; omega
                  · go_simp
                    refine hK.out _ _ trivial (fun hHeld => ?_)
                    clear hK K
                    try simp only [Act.put, List.setIfInBounds_toArray, List.set_cons_zero, List.set_cons_succ]
                    obtain ⟨z1, hz1⟩ : ∃ x, x = (wr.alloc (.cells #[.int .i64 (a : Int), .int .i64 (b : Int), .int .i64 1] 69)).drew := ⟨_, rfl⟩
                    have HLL := Lib.hid (show z1.heap[wr.heap.size]? = some (.cells #[.int .i64 (a : Int), .int .i64 (b : Int), .int .i64 1] 69 (0, 0)) by rw [hz1]; exact heap_alloc_new wr (.cells #[.int .i64 (a : Int), .int .i64 (b : Int), .int .i64 1] 69))
                    have hltL : wr.heap.size < z1.heap.size := (Array.getElem?_eq_some_iff.1 HLL.out).1
                    have hbz1 : Bel wr z1 := by rw [hz1]; exact ((Bel.refl wr).alloc _).drew
                    have HBz1 := Lib.hid (HBR.out.trans hbz1)
                    rw [← hz1]
                    clear hz1
                    refine wpAnyH_ready (rs := [0]) (by kernel_rfl) (by simp) ?_
                    refine AllReadyH.cons (o := { dst := some 97, op := Op.buildSlice 42 0 #[], type := 42, pos := "ref.go:116", after := #[], guard := none }) rfl (fun K hK => ?_) AllReadyH.nil
                    go_simp
                    refine hK.out _ _ trivial (fun hHeld => ?_)
                    clear hK K
                    try simp only [Act.put, List.setIfInBounds_toArray, List.set_cons_zero, List.set_cons_succ]
                    obtain ⟨z2, hz2⟩ : ∃ x, x = (z1.alloc (.cells #[] 69)) := ⟨_, rfl⟩
                    have HLE := Lib.hid (show z2.heap[z1.heap.size]? = some (.cells #[] 69 (0, 0)) by rw [hz2]; exact heap_alloc_new z1 (.cells #[] 69))
                    have hltE : z1.heap.size < z2.heap.size := (Array.getElem?_eq_some_iff.1 HLE.out).1
                    have hbz2 : Bel z1 z2 := by rw [hz2]; exact ((Bel.refl z1).alloc _)
                    have HBz2 := Lib.hid (HBz1.out.trans hbz2)
                    rw [← hz2]
                    clear hz2
                    have HOE := Lib.hid (ownG_empty (E := ctEl) (n := wr.heap.size) HLE.out HBz1.out.size)
                    have HLL2 := Lib.hid ((Below.block hbz2 wr.heap.size (by omega)).trans HLL.out)
                    refine wpAnyH_ready (rs := [4]) (by kernel_rfl) (by simp) ?_
                    refine AllReadyH.cons (o := { dst := some 101, op := Op.call { callee := Callee.builtin Builtin.append, args := #[Operand.tmp 97, Operand.tmp 100], argTypes := #[42, 42] }, type := 42, pos := "ref.go:116", after := #[{ on := 0, ground := Ground.data }, { on := 3, ground := Ground.data }], guard := none }) rfl (fun K hK => ?_) AllReadyH.nil
                    refine step_append_all ctOk rfl (.tmp 97) (.tmp 100) rfl rfl HOE.out (C.take k) rfl (HS1.out z2 HBz2.out) (by simp only [List.length_nil, List.length_take]; unfold maxLen; omega) (by simp only [List.length_nil, List.length_take]; omega) HBz2.out.size ?_
                    intro vz3 z3 hoz3 hkz3 _
                    have HBz3 := Lib.hid (show Bel wr z3 from HBz2.out.trans_below (hkz3.own HBz2.out.size (fun kk hkk => (HOE.out.lt kk hkk).1)))
                    rw [List.nil_append] at hoz3
                    have hkkz3 : Keep (Value.ownBlock (.slice (some ⟨z1.heap.size, 0, none⟩) 0 0)).toList z2 z3 := hkz3
                    have HLL3 := Lib.hid (hkkz3.at HLL2.out (fun hm => by rw [Option.mem_toList] at hm; simp only [Value.ownBlock, Option.some.injEq] at hm; omega))
                    have HO2 := Lib.hid hoz3
                    clear hoz3 hkz3 hkkz3
                    refine hK.out _ _ trivial (fun hHeld => ?_)
                    clear hK K
                    try simp only [Act.put, List.setIfInBounds_toArray, List.set_cons_zero, List.set_cons_succ]
                    refine wpAnyH_ready (rs := [9]) (by kernel_rfl) (by simp) ?_
                    refine AllReadyH.cons (o := { dst := some 106, op := Op.call { callee := Callee.builtin Builtin.append, args := #[Operand.tmp 101, Operand.tmp 105], argTypes := #[42, 42] }, type := 42, pos := "ref.go:116", after := #[{ on := 4, ground := Ground.data }, { on := 8, ground := Ground.data }, { on := 4, ground := Ground.chain }], guard := none }) rfl (fun K hK => ?_) AllReadyH.nil
                    refine step_append_all ctOk rfl (.tmp 101) (.tmp 105) rfl rfl HO2.out [CT.mk a b 1] rfl (src_at [CT.mk a b 1] HLL3.out rfl rfl) (by simp only [List.length_take, List.length_singleton]; unfold maxLen; omega) (by simp only [List.length_take, List.length_singleton]; omega) HBz3.out.size ?_
                    intro vz4 z4 hoz4 hkz4 _
                    have HBz4 := Lib.hid (show Bel wr z4 from HBz3.out.trans_below (hkz4.own HBz3.out.size (fun kk hkk => (HO2.out.lt kk hkk).1)))
                    have HO3 := Lib.hid hoz4
                    clear hoz4 hkz4
                    refine hK.out _ _ trivial (fun hHeld => ?_)
                    clear hK K
                    try simp only [Act.put, List.setIfInBounds_toArray, List.set_cons_zero, List.set_cons_succ]
                    refine wpAnyH_ready (rs := [13]) (by kernel_rfl) (by simp) ?_
                    refine AllReadyH.cons (o := { dst := some 110, op := Op.call { callee := Callee.builtin Builtin.append, args := #[Operand.tmp 106, Operand.tmp 109], argTypes := #[42, 42] }, type := 42, pos := "ref.go:116", after := #[{ on := 9, ground := Ground.data }, { on := 12, ground := Ground.data }, { on := 9, ground := Ground.chain }], guard := none }) rfl (fun K hK => ?_) AllReadyH.nil
                    refine step_append_all ctOk rfl (.tmp 106) (.tmp 109) rfl rfl HO3.out (C.drop k) rfl (HS2.out z4 HBz4.out) (by simp only [List.length_append, List.length_take, List.length_singleton, List.length_drop]; unfold maxLen; omega) (by simp only [List.length_append, List.length_take, List.length_singleton, List.length_drop]; omega) HBz4.out.size ?_
                    intro vz5 z5 hoz5 hkz5 _
                    have HBz5 := Lib.hid (show Bel wr z5 from HBz4.out.trans_below (hkz5.own HBz4.out.size (fun kk hkk => (HO3.out.lt kk hkk).1)))
                    have HO4 := Lib.hid hoz5
                    clear hoz5 hkz5
                    refine hK.out _ _ trivial (fun hHeld => ?_)
                    clear hK K
                    try simp only [Act.put, List.setIfInBounds_toArray, List.set_cons_zero, List.set_cons_succ]
                    refine tk (oi := { dst := some 3, op := Op.assign (Operand.tmp 110), type := 42, pos := "ref.go:116", after := #[{ on := 13, ground := Ground.data }, { on := 13, ground := Ground.chain }, { on := 0, ground := Ground.phase }, { on := 1, ground := Ground.phase }, { on := 2, ground := Ground.phase }, { on := 3, ground := Ground.phase }, { on := 4, ground := Ground.phase }, { on := 5, ground := Ground.phase }, { on := 6, ground := Ground.phase }, { on := 7, ground := Ground.phase }, { on := 8, ground := Ground.phase }, { on := 9, ground := Ground.phase }, { on := 10, ground := Ground.phase }, { on := 11, ground := Ground.phase }, { on := 12, ground := Ground.phase }, { on := 13, ground := Ground.phase }], guard := none }) (v := ?_) 14 rfl ?_ ?_
                    rotate_left
                    · (intro w hSw; (try dsimp only at hSw); first | (go_simp; done) | (go_simp; with_reducible rfl))
                    try simp only [Act.put, List.setIfInBounds_toArray, List.set_cons_zero, List.set_cons_succ]
                    refine wpAnyH_done (by kernel_rfl) ?_ _
                    have HFIN := Lib.hid (show C.take k ++ [CT.mk a b 1] ++ C.drop k = addC a b C by rw [HADD.out]; simp)
                    have HOF := Lib.hid (show OwnG ctEl w.heap.size z5 vz5 (addC a b C) by rw [← HFIN.out]; exact HO4.out.low HBW.out.size)
                    obtain ⟨pf, cf, hvf⟩ := ownG_len HOF.out
                    rw [hvf] at HOF ⊢
                    clear hvf
                    generalize (addC a b C).length = nf at *
                    clear hHeld
                    go_wp2_with (fail)
                    go_roundw
                    case rel => exact ⟨i + 1, hlt, by go_num, by rw [HN.out, HST.out]; exact HOF.out, HBW.out.trans HBz5.out⟩
                    case measure => simp [intOf]; omega
              · have HADD := Lib.hid (show addC a b C = C.take k ++ ⟨a, b, 1⟩ :: C.drop k by
                  rw [add_at a b C k hk HALL.out (fun h => absurd h hkl), dif_neg hkl])
                have HBW := Lib.hid (HB1.out.trans HW.out.bel)
                have HOWR := Lib.hid (HO1.out.bel HW.out.bel)
                have hCl : C.length ≤ i := hci
                have HS1 := Lib.hid (show ∀ x, Bel wr x → SrcAt ctEl x (.slice (some ⟨g, 0, none⟩) k ccap) (C.take k) from fun x hx => by
                  have := own_piece ctOk (HOWR.out.bel hx) 0 k ccap (by omega)
                  simpa using this)
                have HPK : ∃ pk, (if ccap = k then some (⟨g, 0, none⟩ : Addr) else some ⟨g, k * 3, none⟩) = some pk ∧ ∀ x, Bel wr x → SrcAt ctEl x (.slice (some pk) (C.length - k) (ccap - k)) (C.drop k) := by
                  by_cases hck0 : ccap = k
                  · refine ⟨_, if_pos hck0, fun x hx => Or.inr ⟨_, _, by rw [List.length_drop], fun j u hj => ?_⟩⟩
                    rw [List.drop_eq_nil_of_le (by omega)] at hj
                    simp [El.all] at hj
                  · refine ⟨_, if_neg hck0, fun x hx => ?_⟩
                    have := own_piece ctOk (HOWR.out.bel hx) k (C.length - k) (ccap - k) (by omega)
                    rw [List.take_of_length_le (by rw [List.length_drop]; omega)] at this
                    exact this
                obtain ⟨pk, hpk, hps⟩ := HPK
                have HS2 := Lib.hid hps
                have hkc : k ≤ ccap := by omega
                clear hps
                go_wp2_with (fail)
                have HBR := Lib.hid (Bel.refl wr)
                refine wp_region_held_drew (S := fun z => True) (by kernel_rfl) trivial (fun hHeld => ?_)
                refine tk (oi := { dst := some 98, op := Op.move (Operand.tmp 3), type := 42, pos := "ref.go:116", after := #[], guard := none }) (v := ?_) 1 rfl ?_ ?_
                rotate_left
                · (intro w hSw; (try dsimp only at hSw); first | (go_simp; done) | (go_simp; with_reducible rfl))
                try simp only [Act.put, List.setIfInBounds_toArray, List.set_cons_zero, List.set_cons_succ]
                refine tk (oi := { dst := some 99, op := Op.move (Operand.tmp 8), type := 3, pos := "ref.go:116", after := #[], guard := none }) (v := ?_) 2 rfl ?_ ?_
                rotate_left
                · (intro w hSw; (try dsimp only at hSw); first | (go_simp; done) | (go_simp; with_reducible rfl))
                try simp only [Act.put, List.setIfInBounds_toArray, List.set_cons_zero, List.set_cons_succ]
                refine tk (oi := { dst := some 100, op := Op.slice 42 (Operand.tmp 98) none (some (Operand.tmp 99)) none, type := 42, pos := "ref.go:116", after := #[{ on := 1, ground := Ground.data }, { on := 2, ground := Ground.data }], guard := none }) (v := ?_) 3 rfl ?_ ?_
                rotate_left
                · (intro w hSw; (try dsimp only at hSw); first | (go_simp; done) | (go_simp; with_reducible rfl))
                try simp only [Act.put, List.setIfInBounds_toArray, List.set_cons_zero, List.set_cons_succ]
                refine tk (oi := { dst := some 102, op := Op.move (Operand.tmp 5), type := 3, pos := "ref.go:116", after := #[], guard := none }) (v := ?_) 5 rfl ?_ ?_
                rotate_left
                · (intro w hSw; (try dsimp only at hSw); first | (go_simp; done) | (go_simp; with_reducible rfl))
                try simp only [Act.put, List.setIfInBounds_toArray, List.set_cons_zero, List.set_cons_succ]
                refine tk (oi := { dst := some 103, op := Op.move (Operand.tmp 6), type := 3, pos := "ref.go:116", after := #[], guard := none }) (v := ?_) 6 rfl ?_ ?_
                rotate_left
                · (intro w hSw; (try dsimp only at hSw); first | (go_simp; done) | (go_simp; with_reducible rfl))
                try simp only [Act.put, List.setIfInBounds_toArray, List.set_cons_zero, List.set_cons_succ]
                refine tk (oi := { dst := some 104, op := Op.build 69 #[(0, Operand.tmp 102), (1, Operand.tmp 103), (2, Operand.const (Value.int IntKind.i64 1))], type := 69, pos := "ref.go:116", after := #[{ on := 5, ground := Ground.data }, { on := 6, ground := Ground.data }], guard := none }) (v := ?_) 7 rfl ?_ ?_
                rotate_left
                · (intro w hSw; (try dsimp only at hSw); first | (go_simp; done) | (go_simp; with_reducible rfl))
                try simp only [Act.put, List.setIfInBounds_toArray, List.set_cons_zero, List.set_cons_succ]
                refine tk (oi := { dst := some 107, op := Op.move (Operand.tmp 3), type := 42, pos := "ref.go:116", after := #[], guard := none }) (v := ?_) 10 rfl ?_ ?_
                rotate_left
                · (intro w hSw; (try dsimp only at hSw); first | (go_simp; done) | (go_simp; with_reducible rfl))
                try simp only [Act.put, List.setIfInBounds_toArray, List.set_cons_zero, List.set_cons_succ]
                refine tk (oi := { dst := some 108, op := Op.move (Operand.tmp 8), type := 3, pos := "ref.go:116", after := #[], guard := none }) (v := ?_) 11 rfl ?_ ?_
                rotate_left
                · (intro w hSw; (try dsimp only at hSw); first | (go_simp; done) | (go_simp; with_reducible rfl))
                try simp only [Act.put, List.setIfInBounds_toArray, List.set_cons_zero, List.set_cons_succ]
                refine tk (oi := { dst := some 109, op := Op.slice 42 (Operand.tmp 107) (some (Operand.tmp 108)) none none, type := 42, pos := "ref.go:116", after := #[{ on := 10, ground := Ground.data }, { on := 11, ground := Ground.data }], guard := none }) (v := ?_) 12 rfl ?_ ?_
                rotate_left
                · (intro w hSw; (try dsimp only at hSw); first | (go_simp; done) | (go_simp; with_reducible rfl))
                try simp only [Act.put, List.setIfInBounds_toArray, List.set_cons_zero, List.set_cons_succ]
                refine wpAnyH_ready (rs := [0, 8]) (by kernel_rfl) (by simp) ?_
                refine (AllReadyH.cons (o := { dst := some 97, op := Op.buildSlice 42 0 #[], type := 42, pos := "ref.go:116", after := #[], guard := none }) rfl (fun K hK => ?_) (AllReadyH.cons (o := { dst := some 105, op := Op.buildSlice 42 1 #[(0, Operand.tmp 104)], type := 42, pos := "ref.go:116", after := #[{ on := 7, ground := Ground.data }], guard := none }) rfl (fun K hK => ?_) AllReadyH.nil))
                · go_simp
                  refine hK.out _ _ trivial (fun hHeld => ?_)
                  clear hK K
                  try simp only [Act.put, List.setIfInBounds_toArray, List.set_cons_zero, List.set_cons_succ]
                  obtain ⟨z1, hz1⟩ : ∃ x, x = (wr.alloc (.cells #[] 69)).drew := ⟨_, rfl⟩
                  have HLE := Lib.hid (show z1.heap[wr.heap.size]? = some (.cells #[] 69 (0, 0)) by rw [hz1]; exact heap_alloc_new wr (.cells #[] 69))
                  have hltE : wr.heap.size < z1.heap.size := (Array.getElem?_eq_some_iff.1 HLE.out).1
                  have hbz1 : Bel wr z1 := by rw [hz1]; exact ((Bel.refl wr).alloc _).drew
                  have HBz1 := Lib.hid (HBR.out.trans hbz1)
                  rw [← hz1]
                  clear hz1
                  have HOE := Lib.hid (ownG_empty (E := ctEl) (n := wr.heap.size) HLE.out HBR.out.size)
                  refine wpAnyH_ready (rs := [4, 8]) (by kernel_rfl) (by simp) ?_
                  refine (AllReadyH.cons (o := { dst := some 101, op := Op.call { callee := Callee.builtin Builtin.append, args := #[Operand.tmp 97, Operand.tmp 100], argTypes := #[42, 42] }, type := 42, pos := "ref.go:116", after := #[{ on := 0, ground := Ground.data }, { on := 3, ground := Ground.data }], guard := none }) rfl (fun K hK => ?_) (AllReadyH.cons (o := { dst := some 105, op := Op.buildSlice 42 1 #[(0, Operand.tmp 104)], type := 42, pos := "ref.go:116", after := #[{ on := 7, ground := Ground.data }], guard := none }) rfl (fun K hK => ?_) AllReadyH.nil))
                  · refine step_append_all ctOk rfl (.tmp 97) (.tmp 100) rfl rfl HOE.out (C.take k) rfl (HS1.out z1 HBz1.out) (by simp only [List.length_nil, List.length_take]; unfold maxLen; omega) (by simp only [List.length_nil, List.length_take]; omega) HBz1.out.size ?_
                    intro vz2 z2 hoz2 hkz2 _
                    have HBz2 := Lib.hid (show Bel wr z2 from HBz1.out.trans_below (hkz2.own HBz1.out.size (fun kk hkk => (HOE.out.lt kk hkk).1)))
                    rw [List.nil_append] at hoz2
                    have hkkz2 : Keep (Value.ownBlock (.slice (some ⟨wr.heap.size, 0, none⟩) 0 0)).toList z1 z2 := hkz2
                    have HO2 := Lib.hid hoz2
                    clear hoz2 hkz2 hkkz2
                    refine hK.out _ _ trivial (fun hHeld => ?_)
                    clear hK K
                    try simp only [Act.put, List.setIfInBounds_toArray, List.set_cons_zero, List.set_cons_succ]
                    refine wpAnyH_ready (rs := [8]) (by kernel_rfl) (by simp) ?_
                    refine AllReadyH.cons (o := { dst := some 105, op := Op.buildSlice 42 1 #[(0, Operand.tmp 104)], type := 42, pos := "ref.go:116", after := #[{ on := 7, ground := Ground.data }], guard := none }) rfl (fun K hK => ?_) AllReadyH.nil
                    go_simp
                    refine hK.out _ _ trivial (fun hHeld => ?_)
                    clear hK K
                    try simp only [Act.put, List.setIfInBounds_toArray, List.set_cons_zero, List.set_cons_succ]
                    obtain ⟨z3, hz3⟩ : ∃ x, x = (z2.alloc (.cells #[.int .i64 (a : Int), .int .i64 (b : Int), .int .i64 1] 69)) := ⟨_, rfl⟩
                    have HLL := Lib.hid (show z3.heap[z2.heap.size]? = some (.cells #[.int .i64 (a : Int), .int .i64 (b : Int), .int .i64 1] 69 (0, 0)) by rw [hz3]; exact heap_alloc_new z2 (.cells #[.int .i64 (a : Int), .int .i64 (b : Int), .int .i64 1] 69))
                    have hltL : z2.heap.size < z3.heap.size := (Array.getElem?_eq_some_iff.1 HLL.out).1
                    have hbz3 : Bel z2 z3 := by rw [hz3]; exact ((Bel.refl z2).alloc _)
                    have HBz3 := Lib.hid (HBz2.out.trans hbz3)
                    rw [← hz3]
                    clear hz3
                    have HO2b := Lib.hid (HO2.out.bel hbz3)
                    refine wpAnyH_ready (rs := [9]) (by kernel_rfl) (by simp) ?_
                    refine AllReadyH.cons (o := { dst := some 106, op := Op.call { callee := Callee.builtin Builtin.append, args := #[Operand.tmp 101, Operand.tmp 105], argTypes := #[42, 42] }, type := 42, pos := "ref.go:116", after := #[{ on := 4, ground := Ground.data }, { on := 8, ground := Ground.data }, { on := 4, ground := Ground.chain }], guard := none }) rfl (fun K hK => ?_) AllReadyH.nil
                    refine step_append_all ctOk rfl (.tmp 101) (.tmp 105) rfl rfl HO2b.out [CT.mk a b 1] rfl (src_at [CT.mk a b 1] HLL.out rfl rfl) (by simp only [List.length_take, List.length_singleton]; unfold maxLen; omega) (by simp only [List.length_take, List.length_singleton]; omega) HBz3.out.size ?_
                    intro vz4 z4 hoz4 hkz4 _
                    have HBz4 := Lib.hid (show Bel wr z4 from HBz3.out.trans_below (hkz4.own HBz3.out.size (fun kk hkk => (HO2b.out.lt kk hkk).1)))
                    have HO3 := Lib.hid hoz4
                    clear hoz4 hkz4
                    refine hK.out _ _ trivial (fun hHeld => ?_)
                    clear hK K
                    try simp only [Act.put, List.setIfInBounds_toArray, List.set_cons_zero, List.set_cons_succ]
                    refine wpAnyH_ready (rs := [13]) (by kernel_rfl) (by simp) ?_
                    refine AllReadyH.cons (o := { dst := some 110, op := Op.call { callee := Callee.builtin Builtin.append, args := #[Operand.tmp 106, Operand.tmp 109], argTypes := #[42, 42] }, type := 42, pos := "ref.go:116", after := #[{ on := 9, ground := Ground.data }, { on := 12, ground := Ground.data }, { on := 9, ground := Ground.chain }], guard := none }) rfl (fun K hK => ?_) AllReadyH.nil
                    refine step_append_all ctOk rfl (.tmp 106) (.tmp 109) rfl rfl HO3.out (C.drop k) rfl (HS2.out z4 HBz4.out) (by simp only [List.length_append, List.length_take, List.length_singleton, List.length_drop]; unfold maxLen; omega) (by simp only [List.length_append, List.length_take, List.length_singleton, List.length_drop]; omega) HBz4.out.size ?_
                    intro vz5 z5 hoz5 hkz5 _
                    have HBz5 := Lib.hid (show Bel wr z5 from HBz4.out.trans_below (hkz5.own HBz4.out.size (fun kk hkk => (HO3.out.lt kk hkk).1)))
                    have HO4 := Lib.hid hoz5
                    clear hoz5 hkz5
                    refine hK.out _ _ trivial (fun hHeld => ?_)
                    clear hK K
                    try simp only [Act.put, List.setIfInBounds_toArray, List.set_cons_zero, List.set_cons_succ]
                    refine tk (oi := { dst := some 3, op := Op.assign (Operand.tmp 110), type := 42, pos := "ref.go:116", after := #[{ on := 13, ground := Ground.data }, { on := 13, ground := Ground.chain }, { on := 0, ground := Ground.phase }, { on := 1, ground := Ground.phase }, { on := 2, ground := Ground.phase }, { on := 3, ground := Ground.phase }, { on := 4, ground := Ground.phase }, { on := 5, ground := Ground.phase }, { on := 6, ground := Ground.phase }, { on := 7, ground := Ground.phase }, { on := 8, ground := Ground.phase }, { on := 9, ground := Ground.phase }, { on := 10, ground := Ground.phase }, { on := 11, ground := Ground.phase }, { on := 12, ground := Ground.phase }, { on := 13, ground := Ground.phase }], guard := none }) (v := ?_) 14 rfl ?_ ?_
                    rotate_left
                    · (intro w hSw; (try dsimp only at hSw); first | (go_simp; done) | (go_simp; with_reducible rfl))
                    try simp only [Act.put, List.setIfInBounds_toArray, List.set_cons_zero, List.set_cons_succ]
                    refine wpAnyH_done (by kernel_rfl) ?_ _
                    have HFIN := Lib.hid (show C.take k ++ [CT.mk a b 1] ++ C.drop k = addC a b C by rw [HADD.out]; simp)
                    have HOF := Lib.hid (show OwnG ctEl w.heap.size z5 vz5 (addC a b C) by rw [← HFIN.out]; exact HO4.out.low HBW.out.size)
                    obtain ⟨pf, cf, hvf⟩ := ownG_len HOF.out
                    rw [hvf] at HOF ⊢
                    clear hvf
                    generalize (addC a b C).length = nf at *
                    clear hHeld
                    go_wp2_with (fail)
                    go_roundw
                    case rel => exact ⟨i + 1, hlt, by go_num, by rw [HN.out, HST.out]; exact HOF.out, HBW.out.trans HBz5.out⟩
                    case measure => simp [intOf]; omega
                  · go_simp
                    refine hK.out _ _ trivial (fun hHeld => ?_)
                    clear hK K
                    try simp only [Act.put, List.setIfInBounds_toArray, List.set_cons_zero, List.set_cons_succ]
                    obtain ⟨z2, hz2⟩ : ∃ x, x = (z1.alloc (.cells #[.int .i64 (a : Int), .int .i64 (b : Int), .int .i64 1] 69)) := ⟨_, rfl⟩
                    have HLL := Lib.hid (show z2.heap[z1.heap.size]? = some (.cells #[.int .i64 (a : Int), .int .i64 (b : Int), .int .i64 1] 69 (0, 0)) by rw [hz2]; exact heap_alloc_new z1 (.cells #[.int .i64 (a : Int), .int .i64 (b : Int), .int .i64 1] 69))
                    have hltL : z1.heap.size < z2.heap.size := (Array.getElem?_eq_some_iff.1 HLL.out).1
                    have hbz2 : Bel z1 z2 := by rw [hz2]; exact ((Bel.refl z1).alloc _)
                    have HBz2 := Lib.hid (HBz1.out.trans hbz2)
                    rw [← hz2]
                    clear hz2
                    have HOE2 := Lib.hid (HOE.out.bel hbz2)
                    refine wpAnyH_ready (rs := [4]) (by kernel_rfl) (by simp) ?_
                    refine AllReadyH.cons (o := { dst := some 101, op := Op.call { callee := Callee.builtin Builtin.append, args := #[Operand.tmp 97, Operand.tmp 100], argTypes := #[42, 42] }, type := 42, pos := "ref.go:116", after := #[{ on := 0, ground := Ground.data }, { on := 3, ground := Ground.data }], guard := none }) rfl (fun K hK => ?_) AllReadyH.nil
                    refine step_append_all ctOk rfl (.tmp 97) (.tmp 100) rfl rfl HOE2.out (C.take k) rfl (HS1.out z2 HBz2.out) (by simp only [List.length_nil, List.length_take]; unfold maxLen; omega) (by simp only [List.length_nil, List.length_take]; omega) HBz2.out.size ?_
                    intro vz3 z3 hoz3 hkz3 _
                    have HBz3 := Lib.hid (show Bel wr z3 from HBz2.out.trans_below (hkz3.own HBz2.out.size (fun kk hkk => (HOE2.out.lt kk hkk).1)))
                    rw [List.nil_append] at hoz3
                    have hkkz3 : Keep (Value.ownBlock (.slice (some ⟨wr.heap.size, 0, none⟩) 0 0)).toList z2 z3 := hkz3
                    have HLL3 := Lib.hid (hkkz3.at HLL.out (fun hm => by rw [Option.mem_toList] at hm; simp only [Value.ownBlock, Option.some.injEq] at hm; omega))
                    have HO2 := Lib.hid hoz3
                    clear hoz3 hkz3 hkkz3
                    refine hK.out _ _ trivial (fun hHeld => ?_)
                    clear hK K
                    try simp only [Act.put, List.setIfInBounds_toArray, List.set_cons_zero, List.set_cons_succ]
                    refine wpAnyH_ready (rs := [9]) (by kernel_rfl) (by simp) ?_
                    refine AllReadyH.cons (o := { dst := some 106, op := Op.call { callee := Callee.builtin Builtin.append, args := #[Operand.tmp 101, Operand.tmp 105], argTypes := #[42, 42] }, type := 42, pos := "ref.go:116", after := #[{ on := 4, ground := Ground.data }, { on := 8, ground := Ground.data }, { on := 4, ground := Ground.chain }], guard := none }) rfl (fun K hK => ?_) AllReadyH.nil
                    refine step_append_all ctOk rfl (.tmp 101) (.tmp 105) rfl rfl HO2.out [CT.mk a b 1] rfl (src_at [CT.mk a b 1] HLL3.out rfl rfl) (by simp only [List.length_take, List.length_singleton]; unfold maxLen; omega) (by simp only [List.length_take, List.length_singleton]; omega) HBz3.out.size ?_
                    intro vz4 z4 hoz4 hkz4 _
                    have HBz4 := Lib.hid (show Bel wr z4 from HBz3.out.trans_below (hkz4.own HBz3.out.size (fun kk hkk => (HO2.out.lt kk hkk).1)))
                    have HO3 := Lib.hid hoz4
                    clear hoz4 hkz4
                    refine hK.out _ _ trivial (fun hHeld => ?_)
                    clear hK K
                    try simp only [Act.put, List.setIfInBounds_toArray, List.set_cons_zero, List.set_cons_succ]
                    refine wpAnyH_ready (rs := [13]) (by kernel_rfl) (by simp) ?_
                    refine AllReadyH.cons (o := { dst := some 110, op := Op.call { callee := Callee.builtin Builtin.append, args := #[Operand.tmp 106, Operand.tmp 109], argTypes := #[42, 42] }, type := 42, pos := "ref.go:116", after := #[{ on := 9, ground := Ground.data }, { on := 12, ground := Ground.data }, { on := 9, ground := Ground.chain }], guard := none }) rfl (fun K hK => ?_) AllReadyH.nil
                    refine step_append_all ctOk rfl (.tmp 106) (.tmp 109) rfl rfl HO3.out (C.drop k) rfl (HS2.out z4 HBz4.out) (by simp only [List.length_append, List.length_take, List.length_singleton, List.length_drop]; unfold maxLen; omega) (by simp only [List.length_append, List.length_take, List.length_singleton, List.length_drop]; omega) HBz4.out.size ?_
                    intro vz5 z5 hoz5 hkz5 _
                    have HBz5 := Lib.hid (show Bel wr z5 from HBz4.out.trans_below (hkz5.own HBz4.out.size (fun kk hkk => (HO3.out.lt kk hkk).1)))
                    have HO4 := Lib.hid hoz5
                    clear hoz5 hkz5
                    refine hK.out _ _ trivial (fun hHeld => ?_)
                    clear hK K
                    try simp only [Act.put, List.setIfInBounds_toArray, List.set_cons_zero, List.set_cons_succ]
                    refine tk (oi := { dst := some 3, op := Op.assign (Operand.tmp 110), type := 42, pos := "ref.go:116", after := #[{ on := 13, ground := Ground.data }, { on := 13, ground := Ground.chain }, { on := 0, ground := Ground.phase }, { on := 1, ground := Ground.phase }, { on := 2, ground := Ground.phase }, { on := 3, ground := Ground.phase }, { on := 4, ground := Ground.phase }, { on := 5, ground := Ground.phase }, { on := 6, ground := Ground.phase }, { on := 7, ground := Ground.phase }, { on := 8, ground := Ground.phase }, { on := 9, ground := Ground.phase }, { on := 10, ground := Ground.phase }, { on := 11, ground := Ground.phase }, { on := 12, ground := Ground.phase }, { on := 13, ground := Ground.phase }], guard := none }) (v := ?_) 14 rfl ?_ ?_
                    rotate_left
                    · (intro w hSw; (try dsimp only at hSw); first | (go_simp; done) | (go_simp; with_reducible rfl))
                    try simp only [Act.put, List.setIfInBounds_toArray, List.set_cons_zero, List.set_cons_succ]
                    refine wpAnyH_done (by kernel_rfl) ?_ _
                    have HFIN := Lib.hid (show C.take k ++ [CT.mk a b 1] ++ C.drop k = addC a b C by rw [HADD.out]; simp)
                    have HOF := Lib.hid (show OwnG ctEl w.heap.size z5 vz5 (addC a b C) by rw [← HFIN.out]; exact HO4.out.low HBW.out.size)
                    obtain ⟨pf, cf, hvf⟩ := ownG_len HOF.out
                    rw [hvf] at HOF ⊢
                    clear hvf
                    generalize (addC a b C).length = nf at *
                    clear hHeld
                    go_wp2_with (fail)
                    go_roundw
                    case rel => exact ⟨i + 1, hlt, by go_num, by rw [HN.out, HST.out]; exact HOF.out, HBW.out.trans HBz5.out⟩
                    case measure => simp [intOf]; omega
                · go_simp
                  refine hK.out _ _ trivial (fun hHeld => ?_)
                  clear hK K
                  try simp only [Act.put, List.setIfInBounds_toArray, List.set_cons_zero, List.set_cons_succ]
                  obtain ⟨z1, hz1⟩ : ∃ x, x = (wr.alloc (.cells #[.int .i64 (a : Int), .int .i64 (b : Int), .int .i64 1] 69)).drew := ⟨_, rfl⟩
                  have HLL := Lib.hid (show z1.heap[wr.heap.size]? = some (.cells #[.int .i64 (a : Int), .int .i64 (b : Int), .int .i64 1] 69 (0, 0)) by rw [hz1]; exact heap_alloc_new wr (.cells #[.int .i64 (a : Int), .int .i64 (b : Int), .int .i64 1] 69))
                  have hltL : wr.heap.size < z1.heap.size := (Array.getElem?_eq_some_iff.1 HLL.out).1
                  have hbz1 : Bel wr z1 := by rw [hz1]; exact ((Bel.refl wr).alloc _).drew
                  have HBz1 := Lib.hid (HBR.out.trans hbz1)
                  rw [← hz1]
                  clear hz1
                  refine wpAnyH_ready (rs := [0]) (by kernel_rfl) (by simp) ?_
                  refine AllReadyH.cons (o := { dst := some 97, op := Op.buildSlice 42 0 #[], type := 42, pos := "ref.go:116", after := #[], guard := none }) rfl (fun K hK => ?_) AllReadyH.nil
                  go_simp
                  refine hK.out _ _ trivial (fun hHeld => ?_)
                  clear hK K
                  try simp only [Act.put, List.setIfInBounds_toArray, List.set_cons_zero, List.set_cons_succ]
                  obtain ⟨z2, hz2⟩ : ∃ x, x = (z1.alloc (.cells #[] 69)) := ⟨_, rfl⟩
                  have HLE := Lib.hid (show z2.heap[z1.heap.size]? = some (.cells #[] 69 (0, 0)) by rw [hz2]; exact heap_alloc_new z1 (.cells #[] 69))
                  have hltE : z1.heap.size < z2.heap.size := (Array.getElem?_eq_some_iff.1 HLE.out).1
                  have hbz2 : Bel z1 z2 := by rw [hz2]; exact ((Bel.refl z1).alloc _)
                  have HBz2 := Lib.hid (HBz1.out.trans hbz2)
                  rw [← hz2]
                  clear hz2
                  have HOE := Lib.hid (ownG_empty (E := ctEl) (n := wr.heap.size) HLE.out HBz1.out.size)
                  have HLL2 := Lib.hid ((Below.block hbz2 wr.heap.size (by omega)).trans HLL.out)
                  refine wpAnyH_ready (rs := [4]) (by kernel_rfl) (by simp) ?_
                  refine AllReadyH.cons (o := { dst := some 101, op := Op.call { callee := Callee.builtin Builtin.append, args := #[Operand.tmp 97, Operand.tmp 100], argTypes := #[42, 42] }, type := 42, pos := "ref.go:116", after := #[{ on := 0, ground := Ground.data }, { on := 3, ground := Ground.data }], guard := none }) rfl (fun K hK => ?_) AllReadyH.nil
                  refine step_append_all ctOk rfl (.tmp 97) (.tmp 100) rfl rfl HOE.out (C.take k) rfl (HS1.out z2 HBz2.out) (by simp only [List.length_nil, List.length_take]; unfold maxLen; omega) (by simp only [List.length_nil, List.length_take]; omega) HBz2.out.size ?_
                  intro vz3 z3 hoz3 hkz3 _
                  have HBz3 := Lib.hid (show Bel wr z3 from HBz2.out.trans_below (hkz3.own HBz2.out.size (fun kk hkk => (HOE.out.lt kk hkk).1)))
                  rw [List.nil_append] at hoz3
                  have hkkz3 : Keep (Value.ownBlock (.slice (some ⟨z1.heap.size, 0, none⟩) 0 0)).toList z2 z3 := hkz3
                  have HLL3 := Lib.hid (hkkz3.at HLL2.out (fun hm => by rw [Option.mem_toList] at hm; simp only [Value.ownBlock, Option.some.injEq] at hm; omega))
                  have HO2 := Lib.hid hoz3
                  clear hoz3 hkz3 hkkz3
                  refine hK.out _ _ trivial (fun hHeld => ?_)
                  clear hK K
                  try simp only [Act.put, List.setIfInBounds_toArray, List.set_cons_zero, List.set_cons_succ]
                  refine wpAnyH_ready (rs := [9]) (by kernel_rfl) (by simp) ?_
                  refine AllReadyH.cons (o := { dst := some 106, op := Op.call { callee := Callee.builtin Builtin.append, args := #[Operand.tmp 101, Operand.tmp 105], argTypes := #[42, 42] }, type := 42, pos := "ref.go:116", after := #[{ on := 4, ground := Ground.data }, { on := 8, ground := Ground.data }, { on := 4, ground := Ground.chain }], guard := none }) rfl (fun K hK => ?_) AllReadyH.nil
                  refine step_append_all ctOk rfl (.tmp 101) (.tmp 105) rfl rfl HO2.out [CT.mk a b 1] rfl (src_at [CT.mk a b 1] HLL3.out rfl rfl) (by simp only [List.length_take, List.length_singleton]; unfold maxLen; omega) (by simp only [List.length_take, List.length_singleton]; omega) HBz3.out.size ?_
                  intro vz4 z4 hoz4 hkz4 _
                  have HBz4 := Lib.hid (show Bel wr z4 from HBz3.out.trans_below (hkz4.own HBz3.out.size (fun kk hkk => (HO2.out.lt kk hkk).1)))
                  have HO3 := Lib.hid hoz4
                  clear hoz4 hkz4
                  refine hK.out _ _ trivial (fun hHeld => ?_)
                  clear hK K
                  try simp only [Act.put, List.setIfInBounds_toArray, List.set_cons_zero, List.set_cons_succ]
                  refine wpAnyH_ready (rs := [13]) (by kernel_rfl) (by simp) ?_
                  refine AllReadyH.cons (o := { dst := some 110, op := Op.call { callee := Callee.builtin Builtin.append, args := #[Operand.tmp 106, Operand.tmp 109], argTypes := #[42, 42] }, type := 42, pos := "ref.go:116", after := #[{ on := 9, ground := Ground.data }, { on := 12, ground := Ground.data }, { on := 9, ground := Ground.chain }], guard := none }) rfl (fun K hK => ?_) AllReadyH.nil
                  refine step_append_all ctOk rfl (.tmp 106) (.tmp 109) rfl rfl HO3.out (C.drop k) rfl (HS2.out z4 HBz4.out) (by simp only [List.length_append, List.length_take, List.length_singleton, List.length_drop]; unfold maxLen; omega) (by simp only [List.length_append, List.length_take, List.length_singleton, List.length_drop]; omega) HBz4.out.size ?_
                  intro vz5 z5 hoz5 hkz5 _
                  have HBz5 := Lib.hid (show Bel wr z5 from HBz4.out.trans_below (hkz5.own HBz4.out.size (fun kk hkk => (HO3.out.lt kk hkk).1)))
                  have HO4 := Lib.hid hoz5
                  clear hoz5 hkz5
                  refine hK.out _ _ trivial (fun hHeld => ?_)
                  clear hK K
                  try simp only [Act.put, List.setIfInBounds_toArray, List.set_cons_zero, List.set_cons_succ]
                  refine tk (oi := { dst := some 3, op := Op.assign (Operand.tmp 110), type := 42, pos := "ref.go:116", after := #[{ on := 13, ground := Ground.data }, { on := 13, ground := Ground.chain }, { on := 0, ground := Ground.phase }, { on := 1, ground := Ground.phase }, { on := 2, ground := Ground.phase }, { on := 3, ground := Ground.phase }, { on := 4, ground := Ground.phase }, { on := 5, ground := Ground.phase }, { on := 6, ground := Ground.phase }, { on := 7, ground := Ground.phase }, { on := 8, ground := Ground.phase }, { on := 9, ground := Ground.phase }, { on := 10, ground := Ground.phase }, { on := 11, ground := Ground.phase }, { on := 12, ground := Ground.phase }, { on := 13, ground := Ground.phase }], guard := none }) (v := ?_) 14 rfl ?_ ?_
                  rotate_left
                  · (intro w hSw; (try dsimp only at hSw); first | (go_simp; done) | (go_simp; with_reducible rfl))
                  try simp only [Act.put, List.setIfInBounds_toArray, List.set_cons_zero, List.set_cons_succ]
                  refine wpAnyH_done (by kernel_rfl) ?_ _
                  have HFIN := Lib.hid (show C.take k ++ [CT.mk a b 1] ++ C.drop k = addC a b C by rw [HADD.out]; simp)
                  have HOF := Lib.hid (show OwnG ctEl w.heap.size z5 vz5 (addC a b C) by rw [← HFIN.out]; exact HO4.out.low HBW.out.size)
                  obtain ⟨pf, cf, hvf⟩ := ownG_len HOF.out
                  rw [hvf] at HOF ⊢
                  clear hvf
                  generalize (addC a b C).length = nf at *
                  clear hHeld
                  go_wp2_with (fail)
                  go_roundw
                  case rel => exact ⟨i + 1, hlt, by go_num, by rw [HN.out, HST.out]; exact HOF.out, HBW.out.trans HBz5.out⟩
                  case measure => simp [intOf]; omega
    · obtain rfl : i = L.length := by omega
      rw [List.take_length] at hown
      obtain ⟨cp, ccap, rfl⟩ := ownG_len hown
      have HO := Lib.hid hown
      clear hown hb
      go_wp2_with (fail)
      go_ret
      exact ⟨_, rfl, HO.out, HB.out⟩
end Go.Proofs.Yteimllgoelleeaa
/- moultlaw10.standing. -/
namespace Go.Proofs.Yteimllgoelleeaa
open Go.RowKit Go.Deep

theorem cl11 {w x : World} {a : Addr} {v : Value} (hb : Bel w x) (h : w.cell? a = some v) : x.cell? a = some v := (Below.cell hb (blk_of_cell h)).trans h
theorem own_ents {B : Nat} {w : World} {v : Value} {C : List EB} (h : OwnG entEl B w v C) : (v = .slice none 0 0 ∧ C = []) ∨ ∃ g cap, v = .slice (some ⟨g, 0, none⟩) C.length cap ∧ B ≤ g ∧ g < w.heap.size ∧ C.length ≤ cap ∧ cap ≤ maxLen ∧
    ∀ i (hi : i < C.length), ∃ e, e = C[i] ∧ w.cell? ⟨g, i * 4, none⟩ = some (.string e.k) ∧ w.cell? ⟨g, i * 4 + 1, none⟩ = some (.int .i64 e.q) ∧ w.cell? ⟨g, i * 4 + 2, none⟩ = some (.bool e.d) ∧ w.cell? ⟨g, i * 4 + 3, none⟩ = some (.string e.v) := by
  have h0 := h
  rcases h.2 with ⟨hv, hl⟩ | ⟨g, cap, cur, rfl, hg, hh, hcap, hcm, _⟩
  · exact Or.inl ⟨hv, List.length_eq_zero_iff.1 hl⟩
  · have hlt : g < w.heap.size := (Array.getElem?_eq_some_iff.1 hh).1
    refine Or.inr ⟨g, cap, rfl, hg, hlt, hcap, hcm, fun i hi => ?_⟩
    obtain ⟨g', cap', hv, _, _, _, hc'⟩ := ownG_cells entOk h0 (fun e => by rw [e] at hi; simp at hi)
    simp only [Value.slice.injEq, Option.some.injEq, Addr.mk.injEq, and_true, true_and] at hv
    obtain ⟨rfl, rfl⟩ := hv
    exact ⟨C[i], rfl, hc' i C[i] (List.getElem?_eq_getElem hi) 0 _ rfl, hc' i C[i] (List.getElem?_eq_getElem hi) 1 _ rfl, hc' i C[i] (List.getElem?_eq_getElem hi) 2 _ rfl, hc' i C[i] (List.getElem?_eq_getElem hi) 3 _ rfl⟩
theorem standing_take {L : List EB} {k : Nat} (h : k < L.length) (e : EB) (he : e = L[k]) : standingB (L.take (k + 1)) = stepS (standingB (L.take k)) e := by
  rw [List.take_add_one, List.getElem?_eq_getElem h, Option.toList_some, standing_snoc, he]
theorem cells4 {w x : World} {B O : Nat} {sp : Option Nat} {e : EB} (hb : Bel w x) (h : w.cell? ⟨B, O, sp⟩ = some (.string e.k) ∧ w.cell? ⟨B, O + 1, none⟩ = some (.int .i64 e.q) ∧ w.cell? ⟨B, O + 2, none⟩ = some (.bool e.d) ∧ w.cell? ⟨B, O + 3, none⟩ = some (.string e.v)) :
    x.cell? ⟨B, O, sp⟩ = some (.string e.k) ∧ x.cell? ⟨B, O + 1, none⟩ = some (.int .i64 e.q) ∧ x.cell? ⟨B, O + 2, none⟩ = some (.bool e.d) ∧ x.cell? ⟨B, O + 3, none⟩ = some (.string e.v) :=
  ⟨cl11 hb h.1, cl11 hb h.2.1, cl11 hb h.2.2.1, cl11 hb h.2.2.2⟩
theorem add4 (g k : Nat) : (⟨g, 0, none⟩ : Addr).add (k * 4) = ⟨g, k * 4, none⟩ := add_any g _
end Go.Proofs.Yteimllgoelleeaa
/- moultlaw11.plain, shown. -/
namespace Go.Proofs.Yteimllgoelleeaa
open Go.RowKit Go.Deep

set_option maxHeartbeats 1000000 in
theorem plain_any (s : ByteArray) (q : Int) (w : World) :
    Calls Try.prog 26 #[.string s, .int .i64 q] w fun r w' => r = .returned (.agg #[.string s, .int .i64 q, .bool false, .string ⟨#[1, 1]⟩]) ∧ Bel w w' := by
  go_enter Try.func26, Try.ntmps26
  go_wp2_with (fail)
  refine bodyPost_ret (v := .agg #[.string s, .int .i64 q, .bool false, .string ⟨#[1, 1]⟩]) (by simp [results, Try.results26, go_sem]) rfl ⟨rfl, (Bel.refl w).alloc _⟩
def eB1 : EB := ⟨⟨#[98]⟩, 1, false, ⟨#[1, 1]⟩⟩
def eA2 : EB := ⟨⟨#[97]⟩, 2, false, ⟨#[1, 1]⟩⟩
def eA5 : EB := ⟨⟨#[97]⟩, 5, false, ⟨#[1, 1]⟩⟩
theorem eB1_right : rightB eB1 = true := by decide +kernel
theorem eA2_right : rightB eA2 = true := by decide +kernel
theorem eA5_right : rightB eA5 = true := by decide +kernel
theorem ex_add1 : errM [] eB1 = 0 ∧ stepS [] eB1 = [eB1] := by
  obtain ⟨h1, h2⟩ := err_ok (C := []) eB1_right (by rintro ⟨c, hc, _⟩; cases hc)
  exact ⟨h1, h2⟩
theorem ex_ins2 : insE eA2 [eB1] = [eA2, eB1] := by
  have h1 : lessB eB1 eA2 = false := by decide +kernel
  have h2 : lessB eA2 eB1 = true := by decide +kernel
  unfold insE; rw [h1, h2]; rfl
theorem ex_add2 : errM [eB1] eA2 = 0 ∧ stepS [eB1] eA2 = [eA2, eB1] := by
  obtain ⟨h1, h2⟩ := err_ok (C := [eB1]) eA2_right (by
    rintro ⟨c, hc, hs⟩
    rw [List.mem_singleton] at hc; subst hc
    exact absurd hs.2 (by decide))
  exact ⟨h1, h2.trans ex_ins2⟩
theorem ex_ins3 : insE eA5 [eA2, eB1] = [eA5, eA2, eB1] := by
  have h1 : lessB eA2 eA5 = false := by decide +kernel
  have h2 : lessB eA5 eA2 = true := by decide +kernel
  unfold insE; rw [h1, h2]; rfl
theorem ex_add3 : errM [eA2, eB1] eA5 = 0 ∧ stepS [eA2, eB1] eA5 = [eA5, eA2, eB1] := by
  obtain ⟨h1, h2⟩ := err_ok (C := [eA2, eB1]) eA5_right (by
    rintro ⟨c, hc, hs⟩
    rw [List.mem_cons, List.mem_singleton] at hc
    rcases hc with rfl | rfl
    · exact absurd hs.2 (by decide)
    · exact absurd hs.2 (by decide))
  exact ⟨h1, h2.trans ex_ins3⟩
theorem ex_stand3 : standB [eA5, eA2, eB1] = true := by decide +kernel
theorem ex_stand2 : standB [eA2, eB1] = true := by decide +kernel
theorem ex_stand1 : standB [eB1] = true := by decide +kernel
theorem ex_add4 : errM [eA5, eA2, eB1] eA2 = 5 ∧ stepS [eA5, eA2, eB1] eA2 = [eA5, eA2, eB1] :=
  err_there (stand_pair ex_stand3) eA2_right ⟨eA2, by simp, rfl, rfl⟩
theorem ex_get4 : getE (⟨#[97]⟩ : ByteArray).data.toList 4 [eA5, eA2, eB1] = some eA2 := by
  have h1 : hitB (⟨#[97]⟩ : ByteArray).data.toList 4 eA5 = false := by decide +kernel
  have h2 : hitB (⟨#[97]⟩ : ByteArray).data.toList 4 eA2 = true := by decide +kernel
  unfold getE; rw [List.find?_cons, h1, List.find?_cons, h2]
theorem ex_get0 : getE (⟨#[97]⟩ : ByteArray).data.toList 1 [eA5, eA2, eB1] = none := by
  have h1 : hitB (⟨#[97]⟩ : ByteArray).data.toList 1 eA5 = false := by decide +kernel
  have h2 : hitB (⟨#[97]⟩ : ByteArray).data.toList 1 eA2 = false := by decide +kernel
  have h3 : hitB (⟨#[97]⟩ : ByteArray).data.toList 1 eB1 = false := by decide +kernel
  unfold getE; rw [List.find?_cons, h1, List.find?_cons, h2, List.find?_cons, h3]; rfl
theorem ents_lit11 {w : World} {B : Nat} {L : List EB} {arr : Array Value} {T : TypeId} (h : w.heap[B]? = some (.cells arr T (0, 0))) (harr : arr.toList = entEl.all L) : EntsAt w (some ⟨B, 0, none⟩) L := by
  intro i hi
  have hc : ∀ j (u : Value), (entEl.all L)[i * 4 + j]? = some u → w.cell? ⟨B, i * 4 + j, none⟩ = some u := fun j u hj => by
    rw [← harr] at hj
    simp [World.cell?, h]
    simpa using hj
  have hall : ∀ j (u : Value), (entEl.cells L[i])[j]? = some u → (entEl.all L)[i * 4 + j]? = some u := fun j u hj => by
    have e : entEl.all L = entEl.all (L.take i) ++ (entEl.cells L[i] ++ entEl.all (L.drop (i + 1))) := by
      conv => lhs; rw [← List.take_append_drop i L, List.drop_eq_getElem_cons hi, El.all_append]
      congr 1
    have hl : (entEl.all (L.take i)).length = i * 4 := by
      rw [El.all_len entOk, List.length_take]
      show min i L.length * 4 = i * 4
      omega
    have hjl : j < (entEl.cells L[i]).length := (List.getElem?_eq_some_iff.1 hj).1
    rw [e, List.getElem?_append_right (by omega), hl, List.getElem?_append_left (by omega), show i * 4 + j - i * 4 = j by omega]
    exact hj
  exact ⟨_, rfl, B, i * 4, none, add_any B (i * 4), hc 0 _ (hall 0 _ rfl), hc 1 _ (hall 1 _ rfl), hc 2 _ (hall 2 _ rfl), hc 3 _ (hall 3 _ rfl)⟩
theorem same11_at (p q : Option Addr) (n m cap cap' : Nat) (L : List EB) (w : World) (h : EntsAt w p L) (h' : EntsAt w q L) (hL : L.length ≤ 1000000) (hn : n = L.length) (hm : m = L.length) :
    Calls Try.prog 18 #[.slice p n cap, .slice q m cap'] w fun e w' => e = .returned (.bool true) ∧ Drw w w' := by
  subst hn hm; exact same11_any p q cap cap' L w h h' hL
theorem samecites11_at (p q : Option Addr) (n m cap cap' : Nat) (L : List CT) (w : World) (h : CtsAt w p L) (h' : CtsAt w q L) (hL : L.length ≤ 1000000) (hn : n = L.length) (hm : m = L.length) :
    Calls Try.prog 21 #[.slice p n cap, .slice q m cap'] w fun e w' => e = .returned (.bool true) ∧ Drw w w' := by
  subst hn hm; exact samecites11_any p q cap cap' L w h h' hL
section
theorem MK.add_is {KM : MK} (b : Nat) (F : List Nat) (C C' : List EB) (k : ByteArray) (q : Int) (d : Bool) (v : ByteArray) (n : Int) (w : World) (hn : errM C ⟨k, q, d, v⟩ = n ∧ stepS C ⟨k, q, d, v⟩ = C') (h : KM.At w b F C) (hC : Holds C) (hf : EB.fits ⟨k, q, d, v⟩) (hv : v.size ≤ 1000000) :
    Calls Try.prog 11 #[.pointer (some ⟨b, 0, none⟩), .agg #[.string k, .int .i64 q, .bool d, .string v]] w fun r w' => ∃ F', r = .returned (.int .i64 n) ∧ KM.At w' b F' C' ∧ (∀ k ∈ F', k ∈ F ∨ w.heap.size ≤ k) ∧ Keep F w w' := by
  obtain ⟨rfl, rfl⟩ := hn; exact KM.add b F C ⟨k, q, d, v⟩ w h hC hf hv
theorem MK.get_is {KM : MK} (b : Nat) (F : List Nat) (C : List EB) (key : ByteArray) (q : Int) (o : Option EB) (w : World) (ho : getE key.data.toList q C = o) (h : KM.At w b F C) (hC : Holds C) :
    Calls Try.prog 16 #[.pointer (some ⟨b, 0, none⟩), .string key, .int .i64 q] w fun r w' => r = .returned (getM o) ∧ Bel w w' := by
  subst ho; exact KM.get b F C key q w h hC
theorem MK.all {KM : MK} (b : Nat) (F : List Nat) (C : List EB) (w : World) (h : KM.At w b F C) (hC : Holds C) :
    Calls Try.prog 19 #[.pointer (some ⟨b, 0, none⟩), .string ⟨#[]⟩, .string ⟨#[]⟩] w fun r w' => ∃ p cap, r = .returned (.slice p C.length cap) ∧ EntsAt w' p C ∧ Bel w w' := by
  refine (KM.between b F C ⟨#[]⟩ ⟨#[]⟩ w h hC).mono ?_
  rintro r w' ⟨v, rfl, ho, hb⟩
  rw [show (⟨#[]⟩ : ByteArray).data.toList = [] from rfl, bet_all] at ho
  obtain ⟨p, cap, rfl, he⟩ := ownG_ents ho
  exact ⟨p, cap, rfl, he, hb⟩
set_option maxHeartbeats 4000000 in
set_option maxRecDepth 20000 in
theorem shown11_any {KM : MK} (w : World) (hok : KM.Ok w) : Calls Try.prog 8 #[] w fun e w' => e = .returned (.bool true) ∧ Bel w w' := by
  have HK := Lib.hid hok; clear hok
  go_enter Try.func8, Try.ntmps8
  go_wp2_with (fail)
  refine (KM.new w HK.out).mono ?_
  rintro e w1 ⟨b, F0, rfl, hat, hn, hb⟩
  have HB1 := Lib.hid hb; have HAT := Lib.hid hat; have HN := Lib.hid hn
  clear hb hat hn
  have HAT1 := HAT; have HN1 := HN
  go_wp2_with (fail)
  refine (plain_any ⟨#[98]⟩ 1 w1).mono ?_
  rintro e p1 ⟨rfl, hb⟩
  have HBp1 := Lib.hid (HB1.out.trans hb)
  have HATp1 := Lib.hid (KM.bel HAT1.out hb)
  clear hb
  go_wp2_with (fail)
  refine (MK.add_is (KM := KM) b F0 [] [eB1] ⟨#[98]⟩ 1 false ⟨#[1, 1]⟩ 0 p1 ex_add1 HATp1.out ⟨rfl, by decide⟩ (by unfold EB.fits; decide) (by decide)).mono ?_
  rintro e w2 ⟨F1, rfl, hat, hn, hk⟩
  have HAT2 := Lib.hid hat
  have HN2 := Lib.hid (new_low hn HBp1.out HN1.out)
  have HB2 := Lib.hid (keep_new hk HBp1.out HN1.out)
  clear hat hn hk
  go_wp2_with (fail)
  refine (plain_any ⟨#[97]⟩ 2 w2).mono ?_
  rintro e p2 ⟨rfl, hb⟩
  have HBp2 := Lib.hid (HB2.out.trans hb)
  have HATp2 := Lib.hid (KM.bel HAT2.out hb)
  clear hb
  go_wp2_with (fail)
  refine (MK.add_is (KM := KM) b F1 [eB1] [eA2, eB1] ⟨#[97]⟩ 2 false ⟨#[1, 1]⟩ 0 p2 ex_add2 HATp2.out ⟨ex_stand1, by simp⟩ (by unfold EB.fits; decide) (by decide)).mono ?_
  rintro e w3 ⟨F2, rfl, hat, hn, hk⟩
  have HAT3 := Lib.hid hat
  have HN3 := Lib.hid (new_low hn HBp2.out HN2.out)
  have HB3 := Lib.hid (keep_new hk HBp2.out HN2.out)
  clear hat hn hk
  go_wp2_with (fail)
  refine (plain_any ⟨#[97]⟩ 5 w3).mono ?_
  rintro e p3 ⟨rfl, hb⟩
  have HBp3 := Lib.hid (HB3.out.trans hb)
  have HATp3 := Lib.hid (KM.bel HAT3.out hb)
  clear hb
  go_wp2_with (fail)
  refine (MK.add_is (KM := KM) b F2 [eA2, eB1] [eA5, eA2, eB1] ⟨#[97]⟩ 5 false ⟨#[1, 1]⟩ 0 p3 ex_add3 HATp3.out ⟨ex_stand2, by simp⟩ (by unfold EB.fits; decide) (by decide)).mono ?_
  rintro e w4 ⟨F3, rfl, hat, hn, hk⟩
  have HAT4 := Lib.hid hat
  have HN4 := Lib.hid (new_low hn HBp3.out HN3.out)
  have HB4 := Lib.hid (keep_new hk HBp3.out HN3.out)
  clear hat hn hk
  go_wp2_with (fail)
  refine (plain_any ⟨#[97]⟩ 2 w4).mono ?_
  rintro e p4 ⟨rfl, hb⟩
  have HBp4 := Lib.hid (HB4.out.trans hb)
  have HATp4 := Lib.hid (KM.bel HAT4.out hb)
  clear hb
  go_wp2_with (fail)
  refine (MK.add_is (KM := KM) b F3 [eA5, eA2, eB1] [eA5, eA2, eB1] ⟨#[97]⟩ 2 false ⟨#[1, 1]⟩ 5 p4 ex_add4 HATp4.out ⟨ex_stand3, by simp⟩ (by unfold EB.fits; decide) (by decide)).mono ?_
  rintro e w5 ⟨F4, rfl, hat, hn, hk⟩
  have HAT5 := Lib.hid hat
  have HN5 := Lib.hid (new_low hn HBp4.out HN4.out)
  have HB5 := Lib.hid (keep_new hk HBp4.out HN4.out)
  clear hat hn hk
  have HH := Lib.hid (show Holds [eA5, eA2, eB1] from ⟨ex_stand3, by simp⟩)
  go_wp2_with (fail)
  refine (KM.len b F4 _ w5 HAT5.out HH.out).mono ?_
  rintro e w6 ⟨rfl, hb⟩
  have HB6 := Lib.hid (HB5.out.trans hb)
  have HAT6 := Lib.hid (KM.bel HAT5.out hb)
  clear hb
  rw [show ([eA5, eA2, eB1] : List EB).length = 3 from rfl]
  go_wp2_with (fail)
  refine (MK.get_is (KM := KM) b F4 _ ⟨#[97]⟩ 4 (some eA2) w6 ex_get4 HAT6.out HH.out).mono ?_
  rintro e w7 ⟨rfl, hb⟩
  unfold getM eA2
  have HB7 := Lib.hid ((HB6.out.trans hb).alloc (.cells #[.string ⟨#[97]⟩, .int .i64 2, .bool false, .string ⟨#[1, 1]⟩] 33))
  have HAT7 := Lib.hid (KM.bel HAT6.out (hb.alloc (.cells #[.string ⟨#[97]⟩, .int .i64 2, .bool false, .string ⟨#[1, 1]⟩] 33)))
  clear hb
  go_wp2_with (fail)
  obtain ⟨X, hX⟩ : ∃ X, X = w7.heap.size := ⟨_, rfl⟩
  obtain ⟨y7, hy7⟩ : ∃ y, y = w7.alloc (.cells #[.string ⟨#[97]⟩, .int .i64 2, .bool false, .string ⟨#[1, 1]⟩] 33) := ⟨_, rfl⟩
  rw [← hy7] at HB7 HAT7 ⊢
  have HX := Lib.hid (show y7.cell? ⟨X, 0, none⟩ = some (.string ⟨#[97]⟩) ∧ y7.cell? ⟨X, 1, none⟩ = some (.int .i64 2) ∧ y7.cell? ⟨X, 2, none⟩ = some (.bool false) ∧ y7.cell? ⟨X, 3, none⟩ = some (.string ⟨#[1, 1]⟩) by
    rw [hy7, hX]; exact ⟨(World.cell?_alloc_new ..).trans (by simp), (World.cell?_alloc_new ..).trans (by simp), (World.cell?_alloc_new ..).trans (by simp), (World.cell?_alloc_new ..).trans (by simp)⟩)
  rw [← hX]
  clear hX hy7
  refine (MK.get_is (KM := KM) b F4 _ ⟨#[97]⟩ 1 none y7 ex_get0 HAT7.out HH.out).mono ?_
  rintro e w8 ⟨rfl, hb⟩
  unfold getM
  have hb8 := hb.alloc (.cells #[.string ⟨#[]⟩, .int .i64 0, .bool false, .string ⟨#[]⟩] 33)
  have HB8 := Lib.hid (HB7.out.trans hb8)
  have HAT8 := Lib.hid (KM.bel HAT7.out hb8)
  have HX8 := Lib.hid (And.intro (cl11 hb8 HX.out.1) (And.intro (cl11 hb8 HX.out.2.1) (And.intro (cl11 hb8 HX.out.2.2.1) (cl11 hb8 HX.out.2.2.2))))
  clear hb hb8
  go_wp2_with (fail)
  refine wp_region_held_drew (S := fun z => z.cell? ⟨X, 0, none⟩ = some (.string ⟨#[97]⟩) ∧ z.cell? ⟨X, 1, none⟩ = some (.int .i64 2) ∧ z.cell? ⟨X, 2, none⟩ = some (.bool false) ∧ z.cell? ⟨X, 3, none⟩ = some (.string ⟨#[1, 1]⟩)) (by kernel_rfl) HX8.out (fun hHeld => ?_)
  obtain ⟨y8, hy8⟩ : ∃ y, y = (w8.alloc (.cells #[.string ⟨#[]⟩, .int .i64 0, .bool false, .string ⟨#[]⟩] 33)).drew := ⟨_, rfl⟩
  skip
  refine tk (oi := { dst := some 48, op := Op.move (Operand.tmp 3), type := 4, pos := "law.go:60", after := #[], guard := none }) (v := ?_) 0 rfl ?_ ?_
  rotate_left
  · (intro w hSw; (try dsimp only at hSw); first | (go_simp; done) | (go_simp; with_reducible rfl))
  try simp only [Act.put, List.setIfInBounds_toArray, List.set_cons_zero, List.set_cons_succ]
  refine tk (oi := { dst := some 49, op := Op.move (Operand.tmp 48), type := 4, pos := "law.go:60", after := #[{ on := 0, ground := Ground.data }], guard := none }) (v := ?_) 1 rfl ?_ ?_
  rotate_left
  · (intro w hSw; (try dsimp only at hSw); first | (go_simp; done) | (go_simp; with_reducible rfl))
  try simp only [Act.put, List.setIfInBounds_toArray, List.set_cons_zero, List.set_cons_succ]
  refine tk (oi := { dst := some 50, op := Op.move (Operand.tmp 5), type := 4, pos := "law.go:60", after := #[{ on := 1, ground := Ground.guard }], guard := some (1, true) }) (v := ?_) 2 rfl ?_ ?_
  rotate_left
  · (intro w hSw; (try dsimp only at hSw); first | (go_simp; done) | (go_simp; with_reducible rfl))
  try simp only [Act.put, List.setIfInBounds_toArray, List.set_cons_zero, List.set_cons_succ]
  refine tk (oi := { dst := some 51, op := Op.unOp UnOp.not 4 (Operand.tmp 50), type := 4, pos := "law.go:60", after := #[{ on := 2, ground := Ground.data }, { on := 1, ground := Ground.guard }], guard := some (1, true) }) (v := ?_) 3 rfl ?_ ?_
  rotate_left
  · (intro w hSw; (try dsimp only at hSw); first | (go_simp; done) | (go_simp; with_reducible rfl))
  try simp only [Act.put, List.setIfInBounds_toArray, List.set_cons_zero, List.set_cons_succ]
  refine tk (oi := { dst := some 52, op := Op.pick (Operand.tmp 49) (Operand.tmp 51) (Operand.const (Value.bool false)), type := 4, pos := "law.go:60", after := #[{ on := 1, ground := Ground.data }, { on := 3, ground := Ground.data }], guard := none }) (v := ?_) 4 rfl ?_ ?_
  rotate_left
  · (intro w hSw; (try dsimp only at hSw); first | (go_simp; done) | (go_simp; with_reducible rfl))
  try simp only [Act.put, List.setIfInBounds_toArray, List.set_cons_zero, List.set_cons_succ]
  refine tk (oi := { dst := some 53, op := Op.move (Operand.tmp 52), type := 4, pos := "law.go:60", after := #[{ on := 4, ground := Ground.data }, { on := 1, ground := Ground.chain }], guard := none }) (v := ?_) 5 rfl ?_ ?_
  rotate_left
  · (intro w hSw; (try dsimp only at hSw); first | (go_simp; done) | (go_simp; with_reducible rfl))
  try simp only [Act.put, List.setIfInBounds_toArray, List.set_cons_zero, List.set_cons_succ]
  refine tk (oi := { dst := some 54, op := Op.load 33 (Operand.tmp 2), type := 33, pos := "law.go:60", after := #[{ on := 5, ground := Ground.guard }], guard := some (5, true) }) (v := ?_) 6 rfl ?_ ?_
  rotate_left
  · (intro w hSw; (try dsimp only at hSw); first | (go_simp; done) | (go_simp; with_reducible rfl))
  try simp only [Act.put, List.setIfInBounds_toArray, List.set_cons_zero, List.set_cons_succ]
  refine wpAnyH_ready (rs := [7]) (by kernel_rfl) (by simp) ?_
  refine AllReadyH.cons (o := { dst := some 55, op := Op.call { callee := Callee.value (Operand.func 26), args := #[Operand.const (Value.string { data := #[97] }), Operand.const (Value.int IntKind.i64 2)], argTypes := #[9, 3] }, type := 33, pos := "law.go:60", after := #[{ on := 5, ground := Ground.chain }, { on := 5, ground := Ground.guard }], guard := some (5, true) }) rfl (fun K hK => ?_) AllReadyH.nil
  go_simp
  refine (plain_any ⟨#[97]⟩ 2 _).mono ?_
  rintro r z1 ⟨rfl, hb⟩
  dsimp only
  refine hK.out _ _ ⟨cl11 hb hHeld.1, cl11 hb hHeld.2.1, cl11 hb hHeld.2.2.1, cl11 hb hHeld.2.2.2⟩ (fun hHeld => ?_)
  clear hK K
  try simp only [Act.put, List.setIfInBounds_toArray, List.set_cons_zero, List.set_cons_succ]
  have HB9 := Lib.hid (HB8.out.drew.trans hb)
  have HAT9 := Lib.hid (KM.bel HAT8.out ((Bel.refl _).drew.trans hb))
  clear hb
  refine tk (oi := { dst := some 56, op := Op.binOp BinOp.eql 33 (Operand.tmp 54) (Operand.tmp 55) 33, type := 4, pos := "law.go:60", after := #[{ on := 6, ground := Ground.data }, { on := 7, ground := Ground.data }, { on := 5, ground := Ground.guard }], guard := some (5, true) }) (v := ?_) 8 rfl ?_ ?_
  rotate_left
  · (intro w hSw; (try dsimp only at hSw); first | (go_simp; done) | (go_simp; with_reducible rfl))
  try simp only [Act.put, List.setIfInBounds_toArray, List.set_cons_zero, List.set_cons_succ]
  refine tk (oi := { dst := some 57, op := Op.pick (Operand.tmp 53) (Operand.tmp 56) (Operand.const (Value.bool false)), type := 4, pos := "law.go:60", after := #[{ on := 5, ground := Ground.data }, { on := 8, ground := Ground.data }], guard := none }) (v := ?_) 9 rfl ?_ ?_
  rotate_left
  · (intro w hSw; (try dsimp only at hSw); first | (go_simp; done) | (go_simp; with_reducible rfl))
  try simp only [Act.put, List.setIfInBounds_toArray, List.set_cons_zero, List.set_cons_succ]
  refine tk (oi := { dst := some 58, op := Op.move (Operand.tmp 57), type := 4, pos := "law.go:60", after := #[{ on := 9, ground := Ground.data }, { on := 7, ground := Ground.chain }], guard := none }) (v := ?_) 10 rfl ?_ ?_
  rotate_left
  · (intro w hSw; (try dsimp only at hSw); first | (go_simp; done) | (go_simp; with_reducible rfl))
  try simp only [Act.put, List.setIfInBounds_toArray, List.set_cons_zero, List.set_cons_succ]
  refine tk (oi := { dst := some 59, op := Op.move (Operand.tmp 1), type := 25, pos := "law.go:60", after := #[{ on := 10, ground := Ground.guard }], guard := some (10, true) }) (v := ?_) 11 rfl ?_ ?_
  rotate_left
  · (intro w hSw; (try dsimp only at hSw); first | (go_simp; done) | (go_simp; with_reducible rfl))
  try simp only [Act.put, List.setIfInBounds_toArray, List.set_cons_zero, List.set_cons_succ]
  refine wpAnyH_ready (rs := [12]) (by kernel_rfl) (by simp) ?_
  refine AllReadyH.cons (o := { dst := some 60, op := Op.call { callee := Callee.value (Operand.func 19), args := #[Operand.tmp 59, Operand.const (Value.string { data := #[] }), Operand.const (Value.string { data := #[] })], argTypes := #[25, 9, 9] }, type := 22, pos := "law.go:60", after := #[{ on := 11, ground := Ground.data }, { on := 10, ground := Ground.chain }, { on := 10, ground := Ground.guard }], guard := some (10, true) }) rfl (fun K hK => ?_) AllReadyH.nil
  go_simp
  refine (MK.all (KM := KM) b F4 _ z1 HAT9.out HH.out).mono ?_
  rintro r z2 ⟨q, qc, rfl, he, hb⟩
  dsimp only
  refine hK.out _ _ ⟨cl11 hb hHeld.1, cl11 hb hHeld.2.1, cl11 hb hHeld.2.2.1, cl11 hb hHeld.2.2.2⟩ (fun hHeld => ?_)
  clear hK K
  try simp only [Act.put, List.setIfInBounds_toArray, List.set_cons_zero, List.set_cons_succ]
  have HB10 := Lib.hid (HB9.out.trans hb)
  have HE := Lib.hid he
  clear hb he
  refine wpAnyH_ready (rs := [13]) (by kernel_rfl) (by simp) ?_
  refine AllReadyH.cons (o := { dst := some 61, op := Op.call { callee := Callee.value (Operand.func 26), args := #[Operand.const (Value.string { data := #[97] }), Operand.const (Value.int IntKind.i64 5)], argTypes := #[9, 3] }, type := 33, pos := "law.go:60", after := #[{ on := 12, ground := Ground.chain }, { on := 10, ground := Ground.guard }], guard := some (10, true) }) rfl (fun K hK => ?_) AllReadyH.nil
  go_simp
  refine (plain_any ⟨#[97]⟩ 5 z2).mono ?_
  rintro r z3 ⟨rfl, hb⟩
  dsimp only
  refine hK.out _ _ ⟨cl11 hb hHeld.1, cl11 hb hHeld.2.1, cl11 hb hHeld.2.2.1, cl11 hb hHeld.2.2.2⟩ (fun hHeld => ?_)
  clear hK K
  try simp only [Act.put, List.setIfInBounds_toArray, List.set_cons_zero, List.set_cons_succ]
  have HB11 := Lib.hid (HB10.out.trans hb)
  have HE3 := Lib.hid (HE.out.bel hb)
  clear hb
  refine wpAnyH_ready (rs := [14]) (by kernel_rfl) (by simp) ?_
  refine AllReadyH.cons (o := { dst := some 62, op := Op.call { callee := Callee.value (Operand.func 26), args := #[Operand.const (Value.string { data := #[97] }), Operand.const (Value.int IntKind.i64 2)], argTypes := #[9, 3] }, type := 33, pos := "law.go:60", after := #[{ on := 13, ground := Ground.chain }, { on := 10, ground := Ground.guard }], guard := some (10, true) }) rfl (fun K hK => ?_) AllReadyH.nil
  go_simp
  refine (plain_any ⟨#[97]⟩ 2 z3).mono ?_
  rintro r z4 ⟨rfl, hb⟩
  dsimp only
  refine hK.out _ _ ⟨cl11 hb hHeld.1, cl11 hb hHeld.2.1, cl11 hb hHeld.2.2.1, cl11 hb hHeld.2.2.2⟩ (fun hHeld => ?_)
  clear hK K
  try simp only [Act.put, List.setIfInBounds_toArray, List.set_cons_zero, List.set_cons_succ]
  have HB12 := Lib.hid (HB11.out.trans hb)
  have HE4 := Lib.hid (HE3.out.bel hb)
  clear hb
  refine wpAnyH_ready (rs := [15]) (by kernel_rfl) (by simp) ?_
  refine AllReadyH.cons (o := { dst := some 63, op := Op.call { callee := Callee.value (Operand.func 26), args := #[Operand.const (Value.string { data := #[98] }), Operand.const (Value.int IntKind.i64 1)], argTypes := #[9, 3] }, type := 33, pos := "law.go:60", after := #[{ on := 14, ground := Ground.chain }, { on := 10, ground := Ground.guard }], guard := some (10, true) }) rfl (fun K hK => ?_) AllReadyH.nil
  go_simp
  refine (plain_any ⟨#[98]⟩ 1 z4).mono ?_
  rintro r z5 ⟨rfl, hb⟩
  dsimp only
  refine hK.out _ _ ⟨cl11 hb hHeld.1, cl11 hb hHeld.2.1, cl11 hb hHeld.2.2.1, cl11 hb hHeld.2.2.2⟩ (fun hHeld => ?_)
  clear hK K
  try simp only [Act.put, List.setIfInBounds_toArray, List.set_cons_zero, List.set_cons_succ]
  have HB13 := Lib.hid (HB12.out.trans hb)
  have HE5 := Lib.hid (HE4.out.bel hb)
  clear hb
  refine wpAnyH_ready (rs := [16]) (by kernel_rfl) (by simp) ?_
  refine AllReadyH.cons (o := { dst := some 64, op := Op.buildSlice 22 3 #[(0, Operand.tmp 61), (1, Operand.tmp 62), (2, Operand.tmp 63)], type := 22, pos := "law.go:60", after := #[{ on := 13, ground := Ground.data }, { on := 14, ground := Ground.data }, { on := 15, ground := Ground.data }, { on := 10, ground := Ground.guard }], guard := some (10, true) }) rfl (fun K hK => ?_) AllReadyH.nil
  go_simp
  have hb := (Bel.refl z5).alloc (.cells #[.string ⟨#[97]⟩, .int .i64 5, .bool false, .string ⟨#[1, 1]⟩, .string ⟨#[97]⟩, .int .i64 2, .bool false, .string ⟨#[1, 1]⟩, .string ⟨#[98]⟩, .int .i64 1, .bool false, .string ⟨#[1, 1]⟩] 33)
  refine hK.out _ _ ⟨cl11 hb hHeld.1, cl11 hb hHeld.2.1, cl11 hb hHeld.2.2.1, cl11 hb hHeld.2.2.2⟩ (fun hHeld => ?_)
  clear hK K
  try simp only [Act.put, List.setIfInBounds_toArray, List.set_cons_zero, List.set_cons_succ]
  have HB14 := Lib.hid (HB13.out.trans hb)
  have HE6 := Lib.hid (HE5.out.bel hb)
  have HLIT := Lib.hid (ents_lit11 (L := [eA5, eA2, eB1]) (heap_alloc_new z5 (.cells #[.string ⟨#[97]⟩, .int .i64 5, .bool false, .string ⟨#[1, 1]⟩, .string ⟨#[97]⟩, .int .i64 2, .bool false, .string ⟨#[1, 1]⟩, .string ⟨#[98]⟩, .int .i64 1, .bool false, .string ⟨#[1, 1]⟩] 33)) rfl)
  clear hb
  refine wpAnyH_ready (rs := [17]) (by kernel_rfl) (by simp) ?_
  refine AllReadyH.cons (o := { dst := some 65, op := Op.call { callee := Callee.value (Operand.func 18), args := #[Operand.tmp 60, Operand.tmp 64], argTypes := #[22, 22] }, type := 4, pos := "law.go:60", after := #[{ on := 12, ground := Ground.data }, { on := 16, ground := Ground.data }, { on := 15, ground := Ground.chain }, { on := 10, ground := Ground.guard }], guard := some (10, true) }) rfl (fun K hK => ?_) AllReadyH.nil
  go_simp
  refine (same11_at q (some ⟨z5.heap.size, 0, none⟩) _ 3 qc 3 [eA5, eA2, eB1] _ HE6.out HLIT.out (by decide) rfl rfl).mono ?_
  rintro r z7 ⟨rfl, hd⟩
  dsimp only
  have hb := hd.bel
  refine hK.out _ _ ⟨cl11 hb hHeld.1, cl11 hb hHeld.2.1, cl11 hb hHeld.2.2.1, cl11 hb hHeld.2.2.2⟩ (fun hHeld => ?_)
  clear hK K
  try simp only [Act.put, List.setIfInBounds_toArray, List.set_cons_zero, List.set_cons_succ]
  have HB15 := Lib.hid (HB14.out.trans hb)
  clear hb hd
  refine tk (oi := { dst := some 66, op := Op.pick (Operand.tmp 58) (Operand.tmp 65) (Operand.const (Value.bool false)), type := 4, pos := "law.go:60", after := #[{ on := 10, ground := Ground.data }, { on := 17, ground := Ground.data }], guard := none }) (v := ?_) 18 rfl ?_ ?_
  rotate_left
  · (intro w hSw; (try dsimp only at hSw); first | (go_simp; done) | (go_simp; with_reducible rfl))
  try simp only [Act.put, List.setIfInBounds_toArray, List.set_cons_zero, List.set_cons_succ]
  refine tk (oi := { dst := some 0, op := Op.assign (Operand.tmp 66), type := 4, pos := "law.go:60", after := #[{ on := 18, ground := Ground.data }, { on := 17, ground := Ground.chain }, { on := 0, ground := Ground.phase }, { on := 1, ground := Ground.phase }, { on := 2, ground := Ground.phase }, { on := 3, ground := Ground.phase }, { on := 4, ground := Ground.phase }, { on := 5, ground := Ground.phase }, { on := 6, ground := Ground.phase }, { on := 7, ground := Ground.phase }, { on := 8, ground := Ground.phase }, { on := 9, ground := Ground.phase }, { on := 10, ground := Ground.phase }, { on := 11, ground := Ground.phase }, { on := 12, ground := Ground.phase }, { on := 13, ground := Ground.phase }, { on := 14, ground := Ground.phase }, { on := 15, ground := Ground.phase }, { on := 16, ground := Ground.phase }, { on := 17, ground := Ground.phase }, { on := 18, ground := Ground.phase }], guard := none }) (v := ?_) 19 rfl ?_ ?_
  rotate_left
  · (intro w hSw; (try dsimp only at hSw); first | (go_simp; done) | (go_simp; with_reducible rfl))
  try simp only [Act.put, List.setIfInBounds_toArray, List.set_cons_zero, List.set_cons_succ]
  refine wpAnyH_done (by kernel_rfl) ?_ _
  go_wp2_with (fail)
  go_ret
  exact ⟨rfl, HB15.out⟩
end
end Go.Proofs.Yteimllgoelleeaa
/- A memory to which the entries of a list are added one by one. -/
namespace Go.Proofs.Yteimllgoelleeaa
open Go.RowKit Go.Deep

def MInv (KM : MK) (W : World) (L : List EB) (b k : Nat) (x : World) : Prop := ∃ F, KM.At x b F (standingB (L.take k)) ∧ (∀ f ∈ F, W.heap.size ≤ f) ∧ Bel W x
theorem hold_standing {L : List EB} (h : L.length ≤ 100) (k : Nat) : Holds (standingB (L.take k)) := by
  refine ⟨standing_stand _, ?_⟩
  have h1 := standing_len (L.take k)
  rw [List.length_take] at h1
  omega
theorem hold_all {L : List EB} (h : L.length ≤ 100) : Holds (standingB L) := by
  have := hold_standing h L.length
  rwa [List.take_length] at this
theorem small_data {L : List EB} (h : Small11 L) {k : Nat} (hk : k < L.length) (e : EB) (he : e = L[k]) : e.v.size ≤ 1000000 := by
  have := (h.2 k hk).2
  rw [he]; omega
section
variable {KM : MK} {W x y : World} {L : List EB} {b k : Nat}
theorem MInv.bel (h : MInv KM W L b k x) (hb : Bel x y) : MInv KM W L b k y := by
  obtain ⟨F, h1, h2, h3⟩ := h
  exact ⟨F, KM.bel h1 hb, h2, h3.trans hb⟩
theorem MInv.old (h : MInv KM W L b k x) : Bel W x := by
  obtain ⟨F, h1, h2, h3⟩ := h
  exact h3
theorem MInv.start {F : List Nat} (h : KM.At x b F []) (hn : ∀ f ∈ F, y.heap.size ≤ f) (hy : Bel W y) (hb : Bel y x) : MInv KM W L b 0 x :=
  ⟨F, by rw [List.take_zero]; exact h, fun f hf => by have := hn f hf; have := hy.size; omega, hy.trans hb⟩
end
theorem held_more {P : Program} {md : Region.Mode} {ops : Array Oper} {Q : Exit → Act → World → Prop} {S S' : World → Prop} (hs : ∀ z, S' z → S z) :
    ∀ (n : Nat) (ls : Array Bool) (a : Act) (w : World), wpAnyH P md ops Q S' n ls a w → wpAnyH P md ops Q S n ls a w
  | 0, _, _, _, h => h
  | n + 1, _, _, _, h => ⟨h.1, fun i hi => wpOp_mono (fun a' w' k => ⟨hs _ k.1, held_more hs n _ a' w' k.2⟩) (h.2 i hi)⟩
end Go.Proofs.Yteimllgoelleeaa
