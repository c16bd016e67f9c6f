/- NWrap, laid together. -/
import Derived.Test.YtfbiinnenlgkfaaGreatDoorP24
import Derived.Test.YtfbiinnenlgkfaaGreatDoorCards
import Derived.Test.YtfbiinnenlgkfaaGreatDoorTie
import Derived.ProofKit
import Derived.ChangeSlices
import Derived.Deep.Strs
import Derived.Deep.Slices
import Derived.OpenShut
import Derived.LaidMore
import Derived.Stop.Joined
import Derived.Stop.LaidErr
import Derived.SevenTiedAt
import Derived.Lib.SmallJoins
import Derived.Lib.LaidTab
set_option linter.unusedSimpArgs false
set_option linter.unusedVariables false
/- From the row's list of variables to Std; a state, acts, files that came in; arguments. -/
set_option maxRecDepth 100000
namespace Go.Proofs.YtfbiinnenlgkfaaGreatDoor
open Go.ChangeShapes Go.WideShapes Go.ChangeAt Go.RowKit Go.Joins Go.Deep

theorem own : ownKnob Tryz.prog.godebug = none := by kernel_rfl
theorem powGType : (Tryz.prog.globals[0]?).map (·.type) = some 246 := by kernel_rfl
theorem cellsPow : Tryz.prog.cellsOf 246 = 20 := by kernel_rfl
theorem cellsU64 : Tryz.prog.cellsOf 99 = 1 := by kernel_rfl
theorem cellsStr : Tryz.prog.cellsOf 9 = 1 := by kernel_rfl
theorem cellsErr : Tryz.prog.cellsOf 257 = 1 := by kernel_rfl
theorem synG : (Tryz.prog.globals[1]?).map (·.type) = some 143 := by kernel_rfl
theorem rngG : (Tryz.prog.globals[2]?).map (·.type) = some 143 := by kernel_rfl
theorem rowErr (u : TypeId) (h : Tryz.prog.typeName? 3 u = Tryz.prog.typeName? 3 255) : u = 255 :=
  typeName_ptr_named (nm := "errors.errorString") (by kernel_rfl) (by kernel_rfl) (by decide) u (h.trans (by kernel_rfl))

theorem lt_of_cell {w : World} {g o : Nat} {v : Value} (h : w.cell? ⟨g, o, none⟩ = some v) : g < w.heap.size := by
  rcases Nat.lt_or_ge g w.heap.size with h1 | h1
  · exact h1
  · exfalso
    unfold World.cell? at h
    simp [Array.getElem?_eq_none h1] at h

theorem std_of_laid {w : World} (h0 : laidMetH Tryz.prog Rows.manifestPlaysRow.laid w) : Std w := by
  have h : laidMet Tryz.prog Rows.manifestPlaysRow.laid w := by
    rw [MakeChecks.laidMetH_plain _ _ _ (by kernel_rfl)] at h0
    exact h0
  have hp := h.tail.tail
  have hr := hp.tail
  have hs := hr.tail
  have htab : Lib.TabIs Tryz.prog w powName .u64 Lib.pow10Tab := tab_named (Lib.tabIs_of_head (by kernel_rfl) powGType Tryz.underlying246 Tryz.underlying99 cellsU64 cellsPow hp) (by kernel_rfl)
  obtain ⟨a0, s0, hv0, -, -, -⟩ := laid_sentinel hr (by kernel_rfl) rngG Tryz.underlying143 (fun u h => rowErr u (h.trans (by kernel_rfl))) Tryz.underlying255 Tryz.underlying257 rfl rfl Tryz.underlying9 cellsErr cellsStr
  obtain ⟨a1, s1, hv1, -, -, -⟩ := laid_sentinel hs (by kernel_rfl) synG Tryz.underlying143 (fun u h => rowErr u (h.trans (by kernel_rfl))) Tryz.underlying255 Tryz.underlying257 rfl rfl Tryz.underlying9 cellsErr cellsStr
  have c0 : w.cell? ⟨2, 0, none⟩ = some (.iface 255 (.pointer (some a0))) := by
    have := World.var?_cell (g := 2) (by kernel_rfl) hv0 0
    simpa using this
  have c1 : w.cell? ⟨1, 0, none⟩ = some (.iface 255 (.pointer (some a1))) := by
    have := World.var?_cell (g := 1) (by kernel_rfl) hv1 0
    simpa using this
  have cp := htab.cell powG 0 (by decide)
  exact ⟨htab, ⟨_, _, c1⟩, ⟨_, _, c0⟩, lt_of_cell cp, lt_of_cell c1, lt_of_cell c0⟩

theorem door_met (os : Os) (args : Array Value) : laidMetH Tryz.prog Rows.manifestPlaysRow.laid ((World.doorLaid Tryz.prog 400 os).forCall (fun _ _ => 0) ⟨#[], args, []⟩).memory :=
  laidMetH_of_parts3 (fuel := 8) (laidMet_of_run' 8 (by kernel_rfl) (by kernel_rfl)) (by kernel_rfl) (by kernel_rfl)
section
variable {H : Type} {enc : TypeId × Value → H} {P : Program} {w : World} {base : Nat} {spare : Nat → Bool} {held : Bool}
end

section
variable {H : Type} {enc : TypeId × Value → H} {P : Program} {w : World} {base : Nat} {sp : Nat → Bool} {held : Bool}
theorem five_fields {t : TypeId} {f0 f1 f2 f3 f4 : Field} {fuel : Nat} {l : List Value} {x : DataW H × List MemPlace} (hs : P.underlying t = some (.struct #[f0, f1, f2, f3, f4])) (hone : oneCellFields P #[f0, f1, f2, f3, f4] = true) (hl : l.length = 5)
    (h : DataW.trod enc P w base sp held fuel t l = some x) :
    ∃ (c0 c1 c2 c3 c4 : Value) (y0 y1 y2 y3 y4 : DataW H × List MemPlace) (n : Nat), l = [c0, c1, c2, c3, c4] ∧
      DataW.trod enc P w base sp held n f0.type [c0] = some y0 ∧ DataW.trod enc P w base sp held n f1.type [c1] = some y1 ∧ DataW.trod enc P w base sp held n f2.type [c2] = some y2 ∧ DataW.trod enc P w base sp held n f3.type [c3] = some y3 ∧
      DataW.trod enc P w base sp held n f4.type [c4] = some y4 := by
  obtain ⟨ys, n, _, hx, _, hyl, hf⟩ := DataW.trod_struct hs h
  match l, hl with
  | [c0, c1, c2, c3, c4], _ =>
    match ys, hyl with
    | [y0, y1, y2, y3, y4], _ =>
      obtain ⟨o0, k0⟩ := hone_of hone 0 f0 rfl
      obtain ⟨o1, k1⟩ := hone_of hone 1 f1 rfl
      obtain ⟨o2, k2⟩ := hone_of hone 2 f2 rfl
      obtain ⟨o3, k3⟩ := hone_of hone 3 f3 rfl
      obtain ⟨o4, k4⟩ := hone_of hone 4 f4 rfl
      exact ⟨c0, c1, c2, c3, c4, y0, y1, y2, y3, y4, n, rfl, by simpa [o0, k0] using hf 0 f0 rfl, by simpa [o1, k1] using hf 1 f1 rfl, by simpa [o2, k2] using hf 2 f2 rfl,
        by simpa [o3, k3] using hf 3 f3 rfl, by simpa [o4, k4] using hf 4 f4 rfl⟩
theorem two_fields13 {t : TypeId} {f0 f1 : Field} {fuel : Nat} {l : List Value} {x : DataW H × List MemPlace} (hs : P.underlying t = some (.struct #[f0, f1])) (hone : oneCellFields P #[f0, f1] = true) (hl : l.length = 2)
    (h : DataW.trod enc P w base sp held fuel t l = some x) :
    ∃ (c0 c1 : Value) (y0 y1 : DataW H × List MemPlace) (n : Nat), l = [c0, c1] ∧
      DataW.trod enc P w base sp held n f0.type [c0] = some y0 ∧ DataW.trod enc P w base sp held n f1.type [c1] = some y1 := by
  obtain ⟨ys, n, _, hx, _, hyl, hf⟩ := DataW.trod_struct hs h
  match l, hl with
  | [c0, c1], _ =>
    match ys, hyl with
    | [y0, y1], _ =>
      obtain ⟨o0, k0⟩ := hone_of hone 0 f0 rfl
      obtain ⟨o1, k1⟩ := hone_of hone 1 f1 rfl
      exact ⟨c0, c1, y0, y1, n, rfl, by simpa [o0, k0] using hf 0 f0 rfl, by simpa [o1, k1] using hf 1 f1 rfl⟩
end
theorem cellsPl13 : Tryz.prog.cellsOf 95 = 2 := by kernel_rfl
theorem cellsSt13 : Tryz.prog.cellsOf 24 = 5 := by kernel_rfl
theorem open_pls13 {H : Type} {enc : TypeId × Value → H} {W : World} {fuel : Nat} {c : Value} {y : DataW H × List MemPlace}
    (hf : DataW.trod enc Tryz.prog W 0 (fun _ => true) true fuel 22 [c] = some y) : ∃ (p : Option Addr) (k : Nat) (l : List PL), c = .slice p l.length k ∧ PlsAt W p l ∧ (∀ f ∈ l, in64 f.n ∧ in64 f.l) ∧ l.length ≤ maxLen := by
  rcases Go.Deep.open_slice Tryz.underlying22 hf with ⟨hcs, _⟩ | ⟨a, len, cap, m, n, D, Pl, hcs, _, hl, hm, hmm, _, hel⟩
  · simp at hcs
    subst hcs
    exact ⟨none, 0, [], rfl, (fun i hi => by simp at hi), (fun f hf => by cases hf), by simp⟩
  · simp at hcs
    subst hcs
    simp only [if_true] at hmm
    have each : ∀ i, i < len → ∃ v : PL, (in64 v.n ∧ in64 v.l) ∧ W.cell? (a.add (i * 2)) = some (.int .i64 v.n) ∧ W.cell? ((a.add (i * 2)).add 1) = some (.int .i64 v.l) := by
      intro i hi
      obtain ⟨cs', hc, ht⟩ := hel i (by omega)
      rw [cellsPl13] at hc
      obtain ⟨_, hcl, hat⟩ := World.cells?_some hc
      obtain ⟨c0, c1, y0, y1, n', rfl, h0, h1⟩ := two_fields13 Tryz.underlying95 (by kernel_rfl) hcl ht
      obtain ⟨z0, e0, _, w0⟩ := DataW.trod_int Tryz.underlying3 h0
      obtain ⟨z1, e1, _, w1⟩ := DataW.trod_int Tryz.underlying3 h1
      simp at e0 e1
      refine ⟨⟨z0, z1⟩, ⟨wf_bounds w0, wf_bounds w1⟩, ?_, ?_⟩
      · have := hat 0 (by omega)
        rw [show (a.add (i * 2)).add 0 = a.add (i * 2) from rfl] at this
        rw [this, e0]; rfl
      · rw [hat 1 (by omega), e1]; rfl
    obtain ⟨f, hfv⟩ := @Go.Deep.choose_lt PL ⟨⟨0, 0⟩⟩ len _ each
    refine ⟨some a, cap, (List.range len).map f, by simp, ?_, ?_, by simp; omega⟩
    · intro i hi
      have hi' : i < len := by simpa using hi
      obtain ⟨_, h0, h1⟩ := hfv i hi'
      refine ⟨a, (a.add (i * 2)).block, (a.add (i * 2)).off, (a.add (i * 2)).spot, rfl, rfl, ?_, ?_⟩
      · simpa using h0
      · simpa [Addr.add] using h1
    · intro e he
      obtain ⟨i, hi, rfl⟩ := List.mem_map.1 he
      exact (hfv i (List.mem_range.1 hi)).1
theorem open_state13 {H : Type} {enc : TypeId × Value → H} {W : World} {b0 : Nat} {v : Value} {d : DataW H} {p : List MemPlace}
    (hv : Value.okWide Tryz.prog W .any b0 24 v) (h : DataW.Trod enc Tryz.prog W 0 (fun _ => true) true 24 v d p) :
    ∃ (pp : Option Addr) (k : Nat) (s : MS), v = .agg #[.slice pp s.files.length k, .int .i64 s.next, .int .i64 s.seq, .int .i64 s.log, .string s.mt] ∧ PlsAt W pp s.files ∧ s.files.length ≤ maxLen ∧ s.mt.size ≤ maxLen := by
  obtain ⟨cs, rfl, hsz⟩ := okWide_struct Tryz.underlying24 hv
  rw [cellsSt13] at hsz
  obtain ⟨fuel, hf⟩ := h
  have e : (Value.agg cs).cells.toList = cs.toList := by first | rfl | simp [Value.cells]
  rw [e] at hf
  obtain ⟨c0, c1, c2, c3, c4, y0, y1, y2, y3, y4, n, hcs, h0, h1, h2, h3, h4⟩ := five_fields Tryz.underlying24 (by kernel_rfl) (by simpa using hsz) hf
  obtain ⟨pp, k, l, rfl, hp, -, hl⟩ := open_pls13 h0
  obtain ⟨z1, e1, _, w1⟩ := DataW.trod_int Tryz.underlying3 h1
  obtain ⟨z2, e2, _, w2⟩ := DataW.trod_int Tryz.underlying3 h2
  obtain ⟨z3, e3, _, w3⟩ := DataW.trod_int Tryz.underlying3 h3
  obtain ⟨s4, e4, _, w4⟩ := DataW.trod_string Tryz.underlying9 h4
  simp at e1 e2 e3 e4
  subst e1 e2 e3 e4
  refine ⟨pp, k, ⟨l, z1, z2, z3, s4⟩, ?_, hp, hl, w4⟩
  obtain ⟨ll⟩ := cs
  simp only at hcs
  rw [hcs]
theorem again13 {H : Type} {enc : TypeId × Value → H} {W W' : World} {v : Value} {d : DataW H} {ps : List MemPlace} {t : TypeId} (ht : t ∈ [44, 83, 24])
    (h : DataW.Trod enc Tryz.prog W 0 (fun _ => true) true t v d ps) (hb : Bel W W') (hlt : ∀ x ∈ ps, x.block < W.heap.size) :
    DataW.Trod enc Tryz.prog W' 0 (fun b => decide (b < W.heap.size)) true t v d ps := by
  simp only [List.mem_cons, List.not_mem_nil, or_false] at ht
  rcases ht with rfl | rfl | rfl
  · exact Below.trod laidOut (by kernel_rfl) (of_decide_eq_true (by kernel_rfl)) h hb hlt
  · exact Below.trod laidOut (by kernel_rfl) (of_decide_eq_true (by kernel_rfl)) h hb hlt
  · exact Below.trod laidOut (by kernel_rfl) (of_decide_eq_true (by kernel_rfl)) h hb hlt
end Go.Proofs.YtfbiinnenlgkfaaGreatDoor
