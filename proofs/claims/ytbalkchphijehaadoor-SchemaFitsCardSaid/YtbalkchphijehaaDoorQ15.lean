/- QWrap, laid together. -/
import Derived.Test.YtbalkchphijehaaDoorQ9
import Derived.Test.YtbalkchphijehaaDoorQ6
import Derived.ChangeSlices
import Derived.Test.YtbalkchphijehaaDoorCards
import Derived.Test.YtbalkchphijehaaDoorTie
import Derived.ProofKit
import Derived.OpenShut
import Derived.LaidMore
import Derived.Lay
import Derived.Carry
import Derived.Stop.Joined
import Derived.Stop.LaidErr
import Derived.SevenTiedAt
import Derived.Lib.SmallJoins
import Derived.Deep.Slices
import Derived.Deep.Fields
set_option linter.unusedSimpArgs false
set_option linter.unusedVariables false
/- Small words for chapter 14's cards (those of chapter 4, over this seat's row): what the row's list of variables gives, and a slice of values that came in. -/
set_option maxRecDepth 20000
namespace Go.Proofs.YtbalkchphijehaaDoor
open Go.ChangeShapes Go.WideShapes Go.ChangeAt Go.RowKit Go.Joins Go.Deep

theorem own : ownKnob Tryd.prog.godebug = none := by kernel_rfl
theorem laidOut : laidOutB Tryd.prog = true := by kernel_rfl
theorem cellsV : Tryd.prog.cellsOf 29 = 3 := by kernel_rfl
theorem cellsW : Tryd.prog.cellsOf 105 = 3 := by kernel_rfl
theorem wf_bounds {n : Int} (h : (Lit.int .i64 n).wf = true) : -9223372036854775808 ≤ n ∧ n ≤ 9223372036854775807 := by
  have e1 : IntKind.i64.min = -9223372036854775808 := rfl
  have e2 : IntKind.i64.max = 9223372036854775807 := rfl
  simp [Lit.wf, e1, e2] at h
  exact h
section
variable {H : Type} {enc : TypeId × Value → H} {P : Program} {w : World} {base : Nat} {sp : Nat → Bool} {held : Bool}
/-- A struct of three fields of a cell each, out of its cells. -/
theorem three_fields {t : TypeId} {f0 f1 f2 : Field} {fuel : Nat} {l : List Value} {x : DataW H × List MemPlace} (hs : P.underlying t = some (.struct #[f0, f1, f2])) (hone : oneCellFields P #[f0, f1, f2] = true) (hl : l.length = 3)
    (h : DataW.trod enc P w base sp held fuel t l = some x) :
    ∃ (c0 c1 c2 : Value) (y0 y1 y2 : DataW H × List MemPlace) (n : Nat), l = [c0, c1, c2] ∧ x.1 = .agg [y0.1, y1.1, y2.1] ∧
      DataW.trod enc P w base sp held n f0.type [c0] = some y0 ∧ DataW.trod enc P w base sp held n f1.type [c1] = some y1 ∧ DataW.trod enc P w base sp held n f2.type [c2] = some y2 := by
  obtain ⟨ys, n, _, hx, _, hyl, hf⟩ := DataW.trod_struct hs h
  match l, hl with
  | [c0, c1, c2], _ =>
    match ys, hyl with
    | [y0, y1, y2], _ =>
      obtain ⟨o0, k0⟩ := hone_of hone 0 f0 rfl
      obtain ⟨o1, k1⟩ := hone_of hone 1 f1 rfl
      obtain ⟨o2, k2⟩ := hone_of hone 2 f2 rfl
      exact ⟨c0, c1, c2, y0, y1, y2, n, rfl, by rw [hx]; rfl, by simpa [o0, k0] using hf 0 f0 rfl, by simpa [o1, k1] using hf 1 f1 rfl, by simpa [o2, k2] using hf 2 f2 rfl⟩
end

/-- One row of the table of widths. -/
theorem width_cells {w : World} {base fuel : Nat} {sp : Nat → Bool} {held : Bool} {l : List Value} {a b c : Int} {p : List MemPlace} (hl : l.length = 3)
    (h : DataW.trod (fun _ => ()) Tryd.prog w base sp held fuel 105 l = some (.agg [.lit (.int .i64 a), .lit (.int .i64 b), .lit (.int .u64 c)], p)) : l = [.int .i64 a, .int .i64 b, .int .u64 c] := by
  obtain ⟨c0, c1, c2, y0, y1, y2, n, rfl, hx, h0, h1, h2⟩ := three_fields Tryd.underlying105 (by kernel_rfl) hl h
  obtain ⟨z0, e0, g0, _⟩ := DataW.trod_int Tryd.underlying3 h0
  obtain ⟨z1, e1, g1, _⟩ := DataW.trod_int Tryd.underlying3 h1
  obtain ⟨z2, e2, g2, _⟩ := DataW.trod_int Tryd.underlying96 h2
  rw [g0, g1, g2] at hx
  simp at hx e0 e1 e2
  obtain ⟨rfl, rfl, rfl⟩ := hx
  rw [e0, e1, e2]

/-- WHAT THE ROW's LIST GIVES. -/
theorem std_of_laid {w : World} (h0 : laidMetH Tryd.prog Rows.schemaTellsRow.laid w) : Std w := by
  have h : laidMet Tryd.prog Rows.schemaTellsRow.laid w := by
    rw [MakeChecks.laidMetH_plain _ _ _ (by kernel_rfl)] at h0
    exact h0
  obtain ⟨ps, ⟨g, t, cs, fuel, p, q, hg, ht, hv, hd, _, _⟩, _, _⟩ := h.tail
  obtain rfl := Option.some.inj ((show Tryd.prog.globalNamed "moult/key.widths" = some 0 by kernel_rfl).symm.trans hg)
  obtain rfl := Option.some.inj ((show (Tryd.prog.globals[0]?).map (·.type) = some 106 by kernel_rfl).symm.trans ht)
  obtain ⟨xs, m, _, ex, hlen, hl, hel⟩ := DataW.trod_array Tryd.underlying106 hd
  have c12 : Tryd.prog.cellsOf 106 = 12 := by kernel_rfl
  rw [c12] at hlen
  have hxs : xs.map (·.1) = [.agg [.lit (.int .i64 1), .lit (.int .i64 1), .lit (.int .u64 0)], .agg [.lit (.int .i64 2), .lit (.int .i64 2), .lit (.int .u64 32768)], .agg [.lit (.int .i64 3), .lit (.int .i64 4), .lit (.int .u64 2147483648)], .agg [.lit (.int .i64 4), .lit (.int .i64 8), .lit (.int .u64 9223372036854775808)]] :=
    (DataW.agg.inj (Prod.mk.inj ex).1).symm
  match xs, hl, hxs with
  | [x0, x1, x2, x3], _, hxs =>
    simp only [List.map_cons, List.map_nil, List.cons.injEq, and_true] at hxs
    obtain ⟨e0, e1, e2, e3⟩ := hxs
    have hlc : ∀ i, i < 4 → ((cs.toList.drop (i * 3)).take 3).length = 3 := fun i hi => by rw [List.length_take, List.length_drop]; omega
    have h0 := hel 0 (by omega)
    have h1 := hel 1 (by omega)
    have h2 := hel 2 (by omega)
    have h3 := hel 3 (by omega)
    rw [cellsW] at h0 h1 h2 h3
    have q0 := width_cells (p := x0.2) (hlc 0 (by omega)) (h0.trans (by show some x0 = _; rw [← e0]))
    have q1 := width_cells (p := x1.2) (hlc 1 (by omega)) (h1.trans (by show some x1 = _; rw [← e1]))
    have q2 := width_cells (p := x2.2) (hlc 2 (by omega)) (h2.trans (by show some x2 = _; rw [← e2]))
    have q3 := width_cells (p := x3.2) (hlc 3 (by omega)) (h3.trans (by show some x3 = _; rw [← e3]))
    have hall : cs.toList = tabW := by
      have e : cs.toList = (cs.toList.drop (0 * 3)).take 3 ++ ((cs.toList.drop (1 * 3)).take 3 ++ ((cs.toList.drop (2 * 3)).take 3 ++ (cs.toList.drop (3 * 3)).take 3)) := by
        match hc : cs.toList, hlen with
        | [a0, a1, a2, a3, a4, a5, a6, a7, a8, a9, a10, a11], _ => rfl
      rw [e, q0, q1, q2, q3]; rfl
    have hcell : ∀ i (hi : i < 12), w.cell? ⟨0, i, none⟩ = some (tabW[i]'hi) := by
      intro i hi
      have := World.var?_cell hg hv i
      rw [this]
      have e : cs[i]? = cs.toList[i]? := by simp
      rw [e, hall, List.getElem?_eq_getElem hi]
    exact ⟨block_of_cell (hcell 0 (by decide)), hcell⟩

/-- A slice of values that came in: what it holds, and that it reads so again behind a call that turns nothing. -/
theorem open_vals {H : Type} {enc : TypeId × Value → H} {W : World} {a0 : Option Addr} {len cap : Nat} {d : DataW H} {ps : List MemPlace}
    (h : DataW.Trod enc Tryd.prog W 0 (fun _ => true) true 25 (.slice a0 len cap) d ps) :
    ∃ L : List KV, len = L.length ∧ L.length ≤ maxLen ∧ ValsAt W a0 L ∧ allV L := by
  obtain ⟨fuel, hf⟩ := h
  rcases Go.Deep.open_slice Tryd.underlying25 hf with ⟨hcs, _⟩ | ⟨a, len', cap', m, n, D, Pl, hcs, _, hl, hm, hmm, _, hel⟩
  · simp [Value.cells] at hcs
    obtain ⟨rfl, rfl, rfl⟩ := hcs
    exact ⟨[], rfl, by simp, fun i hi => by simp at hi, fun v hv => by simp at hv⟩
  · simp [Value.cells] at hcs
    obtain ⟨rfl, rfl, rfl⟩ := hcs
    simp only [if_true] at hmm
    have each : ∀ i, i < len → ∃ v : KV, (v.in64 ∧ v.s.size ≤ maxLen) ∧ W.cell? (a.add (i * 3)) = some (.int .i64 v.k) ∧ W.cell? ((a.add (i * 3)).add 1) = some (.int .i64 v.n) ∧ W.cell? ((a.add (i * 3)).add 2) = some (.string v.s) := by
      intro i hi
      obtain ⟨cs', hc, ht⟩ := hel i (by omega)
      rw [cellsV] at hc
      obtain ⟨_, hcl, hat⟩ := World.cells?_some hc
      obtain ⟨c0, c1, c2, y0, y1, y2, n', rfl, _, h0, h1, h2⟩ := three_fields Tryd.underlying29 (by kernel_rfl) hcl ht
      obtain ⟨z0, e0, _, _⟩ := DataW.trod_int Tryd.underlying3 h0
      obtain ⟨z1, e1, _, w1⟩ := DataW.trod_int Tryd.underlying3 h1
      obtain ⟨s2, e2, _, w2⟩ := DataW.trod_string Tryd.underlying9 h2
      simp at e0 e1 e2
      refine ⟨⟨z0, z1, s2⟩, ⟨wf_bounds w1, w2⟩, ?_, ?_, ?_⟩
      · have := hat 0 (by omega)
        rw [show (a.add (i * 3)).add 0 = a.add (i * 3) from rfl] at this
        rw [this, e0]; rfl
      · rw [hat 1 (by omega), e1]; rfl
      · rw [hat 2 (by omega), e2]; rfl
    obtain ⟨f, hfv⟩ := @Go.Deep.choose_lt KV ⟨⟨0, 0, ⟨#[]⟩⟩⟩ len _ each
    refine ⟨(List.range len).map f, by simp, by simp; omega, ?_, ?_⟩
    · intro i hi
      have hi' : i < len := by simpa using hi
      obtain ⟨_, h0, h1, h2⟩ := hfv i hi'
      refine ⟨a, (a.add (i * 3)).block, (a.add (i * 3)).off, (a.add (i * 3)).spot, rfl, rfl, ?_, ?_, ?_⟩
      · simpa using h0
      · simpa [Addr.add] using h1
      · simpa [Addr.add] using h2
    · intro v hv
      obtain ⟨i, hi, rfl⟩ := List.mem_map.1 hv
      exact (hfv i (by simpa using hi)).1
theorem vals_again {H : Type} {enc : TypeId × Value → H} {W W' : World} {v : Value} {d : DataW H} {ps : List MemPlace}
    (h : DataW.Trod enc Tryd.prog W 0 (fun _ => true) true 25 v d ps) (hb : Bel W W') (hlt : ∀ x ∈ ps, x.block < W.heap.size) :
    DataW.Trod enc Tryd.prog W' 0 (fun b => decide (b < W.heap.size)) true 25 v d ps :=
  Below.trod laidOut (by kernel_rfl) (of_decide_eq_true (by kernel_rfl)) h hb hlt
theorem cellsFld14 : Tryd.prog.cellsOf 31 = 6 := by kernel_rfl
theorem cellsSch14 : Tryd.prog.cellsOf 24 = 3 := by kernel_rfl
theorem cellsInt14 : Tryd.prog.cellsOf 3 = 1 := by kernel_rfl
theorem cellsStr14 : Tryd.prog.cellsOf 9 = 1 := by kernel_rfl
theorem fld_fields {H : Type} {enc : TypeId × Value → H} {W : World} {fuel : Nat} {l : List Value} {x : DataW H × List MemPlace} (hl : l.length = 6)
    (h : DataW.trod enc Tryd.prog W 0 (fun _ => true) true fuel 31 l = some x) :
    ∃ (c0 c1 c2 c3 c4 c5 : Value) (y0 y1 y2 y3 y4 y5 : DataW H × List MemPlace) (n m : Nat), l = [c0, c1, c2, c3, c4, c5] ∧
      DataW.trod enc Tryd.prog W 0 (fun _ => true) true n 3 [c0] = some y0 ∧ DataW.trod enc Tryd.prog W 0 (fun _ => true) true n 3 [c1] = some y1 ∧
      DataW.trod enc Tryd.prog W 0 (fun _ => true) true n 9 [c2] = some y2 ∧ DataW.trod enc Tryd.prog W 0 (fun _ => true) true m 3 [c3] = some y3 ∧ DataW.trod enc Tryd.prog W 0 (fun _ => true) true m 3 [c4] = some y4 ∧
      DataW.trod enc Tryd.prog W 0 (fun _ => true) true m 9 [c5] = some y5 := by
  obtain ⟨ys, n, _, hx, _, hyl, hf⟩ := DataW.trod_struct Tryd.underlying31 h
  match l, hl with
  | [c0, c1, c2, c3, c4, c5], _ =>
    match ys, hyl with
    | [y0, y1, y2, yv], _ =>
      have g0 : DataW.trod enc Tryd.prog W 0 (fun _ => true) true n 3 [c0] = some y0 := by simpa [cellsInt14] using hf 0 _ rfl
      have g1 : DataW.trod enc Tryd.prog W 0 (fun _ => true) true n 3 [c1] = some y1 := by simpa [cellsInt14] using hf 1 _ rfl
      have g2 : DataW.trod enc Tryd.prog W 0 (fun _ => true) true n 9 [c2] = some y2 := by simpa [cellsStr14] using hf 2 _ rfl
      have gv : DataW.trod enc Tryd.prog W 0 (fun _ => true) true n 29 [c3, c4, c5] = some yv := by simpa [cellsV] using hf 3 _ rfl
      obtain ⟨d0, d1, d2, z0, z1, z2, m, hd, _, k0, k1, k2⟩ := three_fields Tryd.underlying29 (by kernel_rfl) rfl gv
      simp only [List.cons.injEq, and_true] at hd
      obtain ⟨rfl, rfl, rfl⟩ := hd
      exact ⟨_, _, _, _, _, _, y0, y1, y2, z0, z1, z2, n, m, rfl, g0, g1, g2, k0, k1, k2⟩
theorem open_flds {H : Type} {enc : TypeId × Value → H} {W : World} {fuel : Nat} {c : Value} {y : DataW H × List MemPlace}
    (hf : DataW.trod enc Tryd.prog W 0 (fun _ => true) true fuel 22 [c] = some y) :
    ∃ (q : Option Addr) (cap : Nat) (F : List FV), c = .slice q F.length cap ∧ F.length ≤ maxLen ∧ FldsAt W q F ∧ allF F ∧ F.length ≤ cap := by
  rcases Go.Deep.open_slice Tryd.underlying22 hf with ⟨hcs, _⟩ | ⟨a, len, cap, m, n, D, Pl, hcs, _, hl, hm, hmm, _, hel⟩
  · simp at hcs
    subst hcs
    exact ⟨none, 0, [], rfl, by simp, (fun i hi => by simp at hi), (fun f hf => by cases hf), by simp⟩
  · simp at hcs
    subst hcs
    simp only [if_true] at hmm
    have each : ∀ i, i < len → ∃ v : FV, v.okay ∧ ∀ j u, v.cells[j]? = some u → W.cell? ((a.add (i * 6)).add j) = some u := by
      intro i hi
      obtain ⟨cs', hc, ht⟩ := hel i (by omega)
      rw [cellsFld14] at hc
      obtain ⟨_, hcl, hat⟩ := World.cells?_some hc
      obtain ⟨c0, c1, c2, c3, c4, c5, y0, y1, y2, y3, y4, y5, n', m', rfl, h0, h1, h2, h3, h4, h5⟩ := fld_fields hcl ht
      obtain ⟨z0, e0, _, w0⟩ := DataW.trod_int Tryd.underlying3 h0
      obtain ⟨z1, e1, _, w1⟩ := DataW.trod_int Tryd.underlying3 h1
      obtain ⟨s2, e2, _, w2⟩ := DataW.trod_string Tryd.underlying9 h2
      obtain ⟨z3, e3, _, w3⟩ := DataW.trod_int Tryd.underlying3 h3
      obtain ⟨z4, e4, _, w4⟩ := DataW.trod_int Tryd.underlying3 h4
      obtain ⟨s5, e5, _, w5⟩ := DataW.trod_string Tryd.underlying9 h5
      simp at e0 e1 e2 e3 e4 e5
      subst e0 e1 e2 e3 e4 e5
      refine ⟨⟨z0, z1, s2, ⟨z3, z4, s5⟩⟩, ⟨⟨wf_bounds w0, wf_bounds w1, wf_bounds w4⟩, w2, w5⟩, fun j u hj => ?_⟩
      have hj6 : j < 6 := by
        rcases Nat.lt_or_ge j 6 with h | h
        · exact h
        · rw [List.getElem?_eq_none (by exact h)] at hj; cases hj
      rw [hat j hj6]
      exact hj
    obtain ⟨f, hfv⟩ := @Go.Deep.choose_lt FV ⟨⟨0, 0, ⟨#[]⟩, ⟨0, 0, ⟨#[]⟩⟩⟩⟩ len _ each
    refine ⟨some a, cap, (List.range len).map f, by simp, by simp; omega, ?_, ?_, by simp; omega⟩
    · intro i hi
      have hi' : i < len := by simpa using hi
      obtain ⟨_, hc⟩ := hfv i hi'
      have hcc : ∀ j u, (f i).cells[j]? = some u → W.cell? ⟨(a.add (i * 6)).block, (a.add (i * 6)).off + j, if j = 0 then (a.add (i * 6)).spot else none⟩ = some u := fun j u hj => by
        have := hc j u hj
        cases j with
        | zero => simpa [Addr.add] using this
        | succ j => simpa [Addr.add] using this
      refine ⟨a, (a.add (i * 6)).block, (a.add (i * 6)).off, (a.add (i * 6)).spot, rfl, rfl, ?_⟩
      simp only [List.getElem_map, List.getElem_range]
      exact ⟨hcc 0 _ rfl, hcc 1 _ rfl, hcc 2 _ rfl, hcc 3 _ rfl, hcc 4 _ rfl, hcc 5 _ rfl⟩
    · intro e he
      obtain ⟨i, hi, rfl⟩ := List.mem_map.1 he
      exact (hfv i (List.mem_range.1 hi)).1
/-- A schema that came in by value. -/
theorem open_sch {H : Type} {enc : TypeId × Value → H} {W : World} {b0 : Nat} {v : Value} {d : DataW H} {p : List MemPlace}
    (hv : Value.okWide Tryd.prog W .any b0 24 v) (h : DataW.Trod enc Tryd.prog W 0 (fun _ => true) true 24 v d p) :
    ∃ (ver next : Int) (q : Option Addr) (cap : Nat) (F : List FV), v = .agg #[.int .i64 ver, .int .i64 next, .slice q F.length cap] ∧ FldsAt W q F ∧ F.length ≤ maxLen ∧ F.length ≤ cap ∧ allF F := by
  obtain ⟨cs, rfl, hsz⟩ := okWide_struct Tryd.underlying24 hv
  rw [cellsSch14] at hsz
  obtain ⟨fuel, hf⟩ := h
  have e : (Value.agg cs).cells.toList = cs.toList := by first | rfl | simp [Value.cells]
  rw [e] at hf
  obtain ⟨c0, c1, c2, y0, y1, y2, n, hcs, _, h0, h1, h2⟩ := three_fields Tryd.underlying24 (by kernel_rfl) (by simpa using hsz) hf
  obtain ⟨z0, e0, _, w0⟩ := DataW.trod_int Tryd.underlying3 h0
  obtain ⟨z1, e1, _, w1⟩ := DataW.trod_int Tryd.underlying3 h1
  obtain ⟨q, cap, F, rfl, a1, a2, a3, a4⟩ := open_flds h2
  simp at e0 e1
  subst e0 e1
  refine ⟨z0, z1, q, cap, F, ?_, a2, a1, a4, a3⟩
  obtain ⟨ll⟩ := cs
  simp only at hcs
  rw [hcs]
theorem sch_again {H : Type} {enc : TypeId × Value → H} {W W' : World} {v : Value} {d : DataW H} {ps : List MemPlace}
    (h : DataW.Trod enc Tryd.prog W 0 (fun _ => true) true 24 v d ps) (hb : Bel W W') (hlt : ∀ x ∈ ps, x.block < W.heap.size) :
    DataW.Trod enc Tryd.prog W' 0 (fun b => decide (b < W.heap.size)) true 24 v d ps :=
  Below.trod laidOut (by kernel_rfl) (of_decide_eq_true (by kernel_rfl)) h hb hlt
section
variable {H : Type} {enc : TypeId × Value → H} {P : Program} {w : World} {base : Nat} {spare : Nat → Bool} {held : Bool}
end
end Go.Proofs.YtbalkchphijehaaDoor
