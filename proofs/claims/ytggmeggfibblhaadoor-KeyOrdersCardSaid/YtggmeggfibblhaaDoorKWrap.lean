/- Small words for chapter 4's cards: what the row's list of variables gives, and a slice of values that came in. -/
import Derived.Test.YtggmeggfibblhaaDoorKStd
import Derived.Test.YtggmeggfibblhaaDoorKVals
import Derived.Test.YtggmeggfibblhaaDoorCards
import Derived.Test.YtggmeggfibblhaaDoorTie
import Derived.ProofKit
import Derived.OpenShut
import Derived.LaidMore
import Derived.Lay
import Derived.Carry
import Derived.Stop.Joined
import Derived.Stop.LaidErr
import Derived.SevenTiedAt
import Derived.Lib.SmallJoins
import Derived.Deep.Slices
import Derived.Deep.Fields
set_option linter.unusedSimpArgs false
set_option linter.unusedVariables false
namespace Go.Proofs.YtggmeggfibblhaaDoor
open Go.ChangeShapes Go.WideShapes Go.ChangeAt Go.RowKit Go.Joins Go.Deep

theorem own : ownKnob Tryd.prog.godebug = none := by kernel_rfl
theorem laidOut : laidOutB Tryd.prog = true := by kernel_rfl
theorem cellsV : Tryd.prog.cellsOf 23 = 3 := by kernel_rfl
theorem cellsW : Tryd.prog.cellsOf 49 = 3 := by kernel_rfl
theorem wf_bounds {n : Int} (h : (Lit.int .i64 n).wf = true) : -9223372036854775808 ≤ n ∧ n ≤ 9223372036854775807 := by
  have e1 : IntKind.i64.min = -9223372036854775808 := rfl
  have e2 : IntKind.i64.max = 9223372036854775807 := rfl
  simp [Lit.wf, e1, e2] at h
  exact h
/-- A value handed on reads as it is. -/
theorem shut_value {H : Type} {enc : TypeId × Value → H} (W' : World) (sp : Nat → Bool) {k n : Int} {s : ByteArray} (wk : (Lit.int .i64 k).wf = true) (wn : (Lit.int .i64 n).wf = true) (ws : s.size ≤ maxLen) :
    DataW.Trod enc Tryd.prog W' 0 sp true 23 (.agg #[.int .i64 k, .int .i64 n, .string s]) (.agg [.lit (.int .i64 k), .lit (.int .i64 n), .lit (.string s.data.toList)]) [] :=
  shut_agg3 (y0 := (.lit (.int .i64 k), [])) (y1 := (.lit (.int .i64 n), [])) (y2 := (.lit (.string s.data.toList), [])) Tryd.underlying23 (by kernel_rfl) cellsV
    ⟨1, by simp [DataW.trod, Tryd.underlying3, wk]⟩ ⟨1, by simp [DataW.trod, Tryd.underlying3, wn]⟩ ⟨1, by simp [DataW.trod, Tryd.underlying9, ws]⟩

section
variable {H : Type} {enc : TypeId × Value → H} {P : Program} {w : World} {base : Nat} {sp : Nat → Bool} {held : Bool}
/-- A struct of three fields of a cell each, out of its cells. -/
theorem three_fields {t : TypeId} {f0 f1 f2 : Field} {fuel : Nat} {l : List Value} {x : DataW H × List MemPlace} (hs : P.underlying t = some (.struct #[f0, f1, f2])) (hone : oneCellFields P #[f0, f1, f2] = true) (hl : l.length = 3)
    (h : DataW.trod enc P w base sp held fuel t l = some x) :
    ∃ (c0 c1 c2 : Value) (y0 y1 y2 : DataW H × List MemPlace) (n : Nat), l = [c0, c1, c2] ∧ x.1 = .agg [y0.1, y1.1, y2.1] ∧
      DataW.trod enc P w base sp held n f0.type [c0] = some y0 ∧ DataW.trod enc P w base sp held n f1.type [c1] = some y1 ∧ DataW.trod enc P w base sp held n f2.type [c2] = some y2 := by
  obtain ⟨ys, n, _, hx, _, hyl, hf⟩ := DataW.trod_struct hs h
  match l, hl with
  | [c0, c1, c2], _ =>
    match ys, hyl with
    | [y0, y1, y2], _ =>
      obtain ⟨o0, k0⟩ := hone_of hone 0 f0 rfl
      obtain ⟨o1, k1⟩ := hone_of hone 1 f1 rfl
      obtain ⟨o2, k2⟩ := hone_of hone 2 f2 rfl
      exact ⟨c0, c1, c2, y0, y1, y2, n, rfl, by rw [hx]; rfl, by simpa [o0, k0] using hf 0 f0 rfl, by simpa [o1, k1] using hf 1 f1 rfl, by simpa [o2, k2] using hf 2 f2 rfl⟩
end

/-- One row of the table of widths. -/
theorem width_cells {w : World} {base fuel : Nat} {sp : Nat → Bool} {held : Bool} {l : List Value} {a b c : Int} {p : List MemPlace} (hl : l.length = 3)
    (h : DataW.trod (fun _ => ()) Tryd.prog w base sp held fuel 49 l = some (.agg [.lit (.int .i64 a), .lit (.int .i64 b), .lit (.int .u64 c)], p)) : l = [.int .i64 a, .int .i64 b, .int .u64 c] := by
  obtain ⟨c0, c1, c2, y0, y1, y2, n, rfl, hx, h0, h1, h2⟩ := three_fields Tryd.underlying49 (by kernel_rfl) hl h
  obtain ⟨z0, e0, g0, _⟩ := DataW.trod_int Tryd.underlying3 h0
  obtain ⟨z1, e1, g1, _⟩ := DataW.trod_int Tryd.underlying3 h1
  obtain ⟨z2, e2, g2, _⟩ := DataW.trod_int Tryd.underlying47 h2
  rw [g0, g1, g2] at hx
  simp at hx e0 e1 e2
  obtain ⟨rfl, rfl, rfl⟩ := hx
  rw [e0, e1, e2]

/-- WHAT THE ROW's LIST GIVES. -/
theorem std_of_laid {w : World} (h0 : laidMetH Tryd.prog Rows.keyPutsRow.laid w) : Std w := by
  have h : laidMet Tryd.prog Rows.keyPutsRow.laid w := by
    rw [MakeChecks.laidMetH_plain _ _ _ (by kernel_rfl)] at h0
    exact h0
  obtain ⟨ps, ⟨g, t, cs, fuel, p, q, hg, ht, hv, hd, _, _⟩, _, _⟩ := h.tail
  obtain rfl := Option.some.inj ((show Tryd.prog.globalNamed "moult/key.widths" = some 0 by kernel_rfl).symm.trans hg)
  obtain rfl := Option.some.inj ((show (Tryd.prog.globals[0]?).map (·.type) = some 50 by kernel_rfl).symm.trans ht)
  obtain ⟨xs, m, _, ex, hlen, hl, hel⟩ := DataW.trod_array Tryd.underlying50 hd
  have c12 : Tryd.prog.cellsOf 50 = 12 := by kernel_rfl
  rw [c12] at hlen
  have hxs : xs.map (·.1) = [.agg [.lit (.int .i64 1), .lit (.int .i64 1), .lit (.int .u64 0)], .agg [.lit (.int .i64 2), .lit (.int .i64 2), .lit (.int .u64 32768)], .agg [.lit (.int .i64 3), .lit (.int .i64 4), .lit (.int .u64 2147483648)], .agg [.lit (.int .i64 4), .lit (.int .i64 8), .lit (.int .u64 9223372036854775808)]] :=
    (DataW.agg.inj (Prod.mk.inj ex).1).symm
  match xs, hl, hxs with
  | [x0, x1, x2, x3], _, hxs =>
    simp only [List.map_cons, List.map_nil, List.cons.injEq, and_true] at hxs
    obtain ⟨e0, e1, e2, e3⟩ := hxs
    have hlc : ∀ i, i < 4 → ((cs.toList.drop (i * 3)).take 3).length = 3 := fun i hi => by rw [List.length_take, List.length_drop]; omega
    have h0 := hel 0 (by omega)
    have h1 := hel 1 (by omega)
    have h2 := hel 2 (by omega)
    have h3 := hel 3 (by omega)
    rw [cellsW] at h0 h1 h2 h3
    have q0 := width_cells (p := x0.2) (hlc 0 (by omega)) (h0.trans (by show some x0 = _; rw [← e0]))
    have q1 := width_cells (p := x1.2) (hlc 1 (by omega)) (h1.trans (by show some x1 = _; rw [← e1]))
    have q2 := width_cells (p := x2.2) (hlc 2 (by omega)) (h2.trans (by show some x2 = _; rw [← e2]))
    have q3 := width_cells (p := x3.2) (hlc 3 (by omega)) (h3.trans (by show some x3 = _; rw [← e3]))
    have hall : cs.toList = tabW := by
      have e : cs.toList = (cs.toList.drop (0 * 3)).take 3 ++ ((cs.toList.drop (1 * 3)).take 3 ++ ((cs.toList.drop (2 * 3)).take 3 ++ (cs.toList.drop (3 * 3)).take 3)) := by
        match hc : cs.toList, hlen with
        | [a0, a1, a2, a3, a4, a5, a6, a7, a8, a9, a10, a11], _ => rfl
      rw [e, q0, q1, q2, q3]; rfl
    have hcell : ∀ i (hi : i < 12), w.cell? ⟨0, i, none⟩ = some (tabW[i]'hi) := by
      intro i hi
      have := World.var?_cell hg hv i
      rw [this]
      have e : cs[i]? = cs.toList[i]? := by simp
      rw [e, hall, List.getElem?_eq_getElem hi]
    exact ⟨block_of_cell (hcell 0 (by decide)), hcell⟩

/-- A slice of values that came in: what it holds, and that it reads so again behind a call that turns nothing. -/
theorem open_vals {H : Type} {enc : TypeId × Value → H} {W : World} {a0 : Option Addr} {len cap : Nat} {d : DataW H} {ps : List MemPlace}
    (h : DataW.Trod enc Tryd.prog W 0 (fun _ => true) true 24 (.slice a0 len cap) d ps) :
    ∃ L : List KV, len = L.length ∧ L.length ≤ maxLen ∧ ValsAt W a0 L ∧ allV L := by
  obtain ⟨fuel, hf⟩ := h
  rcases Go.Deep.open_slice Tryd.underlying24 hf with ⟨hcs, _⟩ | ⟨a, len', cap', m, n, D, Pl, hcs, _, hl, hm, hmm, _, hel⟩
  · simp [Value.cells] at hcs
    obtain ⟨rfl, rfl, rfl⟩ := hcs
    exact ⟨[], rfl, by simp, fun i hi => by simp at hi, fun v hv => by simp at hv⟩
  · simp [Value.cells] at hcs
    obtain ⟨rfl, rfl, rfl⟩ := hcs
    simp only [if_true] at hmm
    have each : ∀ i, i < len → ∃ v : KV, (v.in64 ∧ v.s.size ≤ maxLen) ∧ W.cell? (a.add (i * 3)) = some (.int .i64 v.k) ∧ W.cell? ((a.add (i * 3)).add 1) = some (.int .i64 v.n) ∧ W.cell? ((a.add (i * 3)).add 2) = some (.string v.s) := by
      intro i hi
      obtain ⟨cs', hc, ht⟩ := hel i (by omega)
      rw [cellsV] at hc
      obtain ⟨_, hcl, hat⟩ := World.cells?_some hc
      obtain ⟨c0, c1, c2, y0, y1, y2, n', rfl, _, h0, h1, h2⟩ := three_fields Tryd.underlying23 (by kernel_rfl) hcl ht
      obtain ⟨z0, e0, _, _⟩ := DataW.trod_int Tryd.underlying3 h0
      obtain ⟨z1, e1, _, w1⟩ := DataW.trod_int Tryd.underlying3 h1
      obtain ⟨s2, e2, _, w2⟩ := DataW.trod_string Tryd.underlying9 h2
      simp at e0 e1 e2
      refine ⟨⟨z0, z1, s2⟩, ⟨wf_bounds w1, w2⟩, ?_, ?_, ?_⟩
      · have := hat 0 (by omega)
        rw [show (a.add (i * 3)).add 0 = a.add (i * 3) from rfl] at this
        rw [this, e0]; rfl
      · rw [hat 1 (by omega), e1]; rfl
      · rw [hat 2 (by omega), e2]; rfl
    obtain ⟨f, hfv⟩ := @Go.Deep.choose_lt KV ⟨⟨0, 0, ⟨#[]⟩⟩⟩ len _ each
    refine ⟨(List.range len).map f, by simp, by simp; omega, ?_, ?_⟩
    · intro i hi
      have hi' : i < len := by simpa using hi
      obtain ⟨_, h0, h1, h2⟩ := hfv i hi'
      refine ⟨a, (a.add (i * 3)).block, (a.add (i * 3)).off, (a.add (i * 3)).spot, rfl, rfl, ?_, ?_, ?_⟩
      · simpa using h0
      · simpa [Addr.add] using h1
      · simpa [Addr.add] using h2
    · intro v hv
      obtain ⟨i, hi, rfl⟩ := List.mem_map.1 hv
      exact (hfv i (by simpa using hi)).1
theorem vals_again {H : Type} {enc : TypeId × Value → H} {W W' : World} {v : Value} {d : DataW H} {ps : List MemPlace}
    (h : DataW.Trod enc Tryd.prog W 0 (fun _ => true) true 24 v d ps) (hb : Bel W W') (hlt : ∀ x ∈ ps, x.block < W.heap.size) :
    DataW.Trod enc Tryd.prog W' 0 (fun b => decide (b < W.heap.size)) true 24 v d ps :=
  Below.trod laidOut (by kernel_rfl) (of_decide_eq_true (by kernel_rfl)) h hb hlt
end Go.Proofs.YtggmeggfibblhaaDoor
