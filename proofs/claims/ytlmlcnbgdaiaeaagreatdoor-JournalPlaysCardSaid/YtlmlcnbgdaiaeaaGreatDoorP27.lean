/- JWrap4, laid together. -/
import Derived.Test.YtlmlcnbgdaiaeaaGreatDoorP25
import Derived.Test.YtlmlcnbgdaiaeaaGreatDoorCards
import Derived.Test.YtlmlcnbgdaiaeaaGreatDoorTie
import Derived.ProofKit
import Derived.ChangeSlices
import Derived.Deep.Strs
import Derived.Deep.Slices
import Derived.OpenShut
import Derived.LaidMore
import Derived.Stop.Joined
import Derived.Stop.LaidErr
import Derived.SevenTiedAt
import Derived.Lib.SmallJoins
import Derived.Lib.LaidTab
set_option linter.unusedSimpArgs false
set_option linter.unusedVariables false
/- From the row's list of variables to Std; a world for the witness; slices of texts that came in; five arguments. -/
namespace Go.Proofs.YtlmlcnbgdaiaeaaGreatDoor
open Go.ChangeShapes Go.WideShapes Go.ChangeAt Go.RowKit Go.Joins Go.Deep

theorem own : ownKnob Tryz.prog.godebug = none := by kernel_rfl
theorem powGType : (Tryz.prog.globals[2]?).map (·.type) = some 207 := by kernel_rfl
theorem cellsPow : Tryz.prog.cellsOf 207 = 20 := by kernel_rfl
theorem cellsU64 : Tryz.prog.cellsOf 115 = 1 := by kernel_rfl
theorem cellsStr : Tryz.prog.cellsOf 9 = 1 := by kernel_rfl
theorem cellsErr : Tryz.prog.cellsOf 213 = 1 := by kernel_rfl
theorem synG : (Tryz.prog.globals[0]?).map (·.type) = some 139 := by kernel_rfl
theorem rngG : (Tryz.prog.globals[1]?).map (·.type) = some 139 := by kernel_rfl
theorem rowErr (u : TypeId) (h : Tryz.prog.typeName? 3 u = Tryz.prog.typeName? 3 211) : u = 211 :=
  typeName_ptr_named (nm := "errors.errorString") (by kernel_rfl) (by kernel_rfl) (by decide) u (h.trans (by kernel_rfl))

theorem lt_of_cell {w : World} {g o : Nat} {v : Value} (h : w.cell? ⟨g, o, none⟩ = some v) : g < w.heap.size := by
  rcases Nat.lt_or_ge g w.heap.size with h1 | h1
  · exact h1
  · exfalso
    unfold World.cell? at h
    simp [Array.getElem?_eq_none h1] at h

theorem std_of_laid {w : World} (h0 : laidMetH Tryz.prog Rows.journalPlaysRow.laid w) : Std w := by
  have h : laidMet Tryz.prog Rows.journalPlaysRow.laid w := by
    rw [MakeChecks.laidMetH_plain _ _ _ (by kernel_rfl)] at h0
    exact h0
  have hp := h.tail.tail
  have hr := hp.tail
  have hs := hr.tail
  have htab : Lib.TabIs Tryz.prog w powName .u64 Lib.pow10Tab := tab_named (Lib.tabIs_of_head (by kernel_rfl) powGType Tryz.underlying207 Tryz.underlying115 cellsU64 cellsPow hp) (by kernel_rfl)
  obtain ⟨a0, s0, hv0, -, -, -⟩ := laid_sentinel hr (by kernel_rfl) rngG Tryz.underlying139 (fun u h => rowErr u (h.trans (by kernel_rfl))) Tryz.underlying211 Tryz.underlying213 rfl rfl Tryz.underlying9 cellsErr cellsStr
  obtain ⟨a1, s1, hv1, -, -, -⟩ := laid_sentinel hs (by kernel_rfl) synG Tryz.underlying139 (fun u h => rowErr u (h.trans (by kernel_rfl))) Tryz.underlying211 Tryz.underlying213 rfl rfl Tryz.underlying9 cellsErr cellsStr
  have c0 : w.cell? ⟨1, 0, none⟩ = some (.iface 211 (.pointer (some a0))) := by
    have := World.var?_cell (g := 1) (by kernel_rfl) hv0 0
    simpa using this
  have c1 : w.cell? ⟨0, 0, none⟩ = some (.iface 211 (.pointer (some a1))) := by
    have := World.var?_cell (g := 0) (by kernel_rfl) hv1 0
    simpa using this
  have cp := htab.cell powG 0 (by decide)
  exact ⟨htab, ⟨_, _, c1⟩, ⟨_, _, c0⟩, lt_of_cell cp, lt_of_cell c1, lt_of_cell c0⟩

theorem door_met (os : Os) (args : Array Value) : laidMetH Tryz.prog Rows.journalPlaysRow.laid ((World.doorLaid Tryz.prog 400 os).forCall (fun _ _ => 0) ⟨#[], args, []⟩).memory :=
  laidMetH_of_parts3 (fuel := 8) (laidMet_of_run' 8 (by kernel_rfl) (by kernel_rfl)) (by kernel_rfl) (by kernel_rfl)
section
variable {H : Type} {enc : TypeId × Value → H} {P : Program} {w : World} {base : Nat} {spare : Nat → Bool} {held : Bool}
end

theorem cellsAct7 : Tryz.prog.cellsOf 37 = 5 := by kernel_rfl
section
variable {H : Type} {enc : TypeId × Value → H} {P : Program} {w : World} {base : Nat} {sp : Nat → Bool} {held : Bool}
theorem five_fields {t : TypeId} {f0 f1 f2 f3 f4 : Field} {fuel : Nat} {l : List Value} {x : DataW H × List MemPlace} (hs : P.underlying t = some (.struct #[f0, f1, f2, f3, f4])) (hone : oneCellFields P #[f0, f1, f2, f3, f4] = true) (hl : l.length = 5)
    (h : DataW.trod enc P w base sp held fuel t l = some x) :
    ∃ (c0 c1 c2 c3 c4 : Value) (y0 y1 y2 y3 y4 : DataW H × List MemPlace) (n : Nat), l = [c0, c1, c2, c3, c4] ∧
      DataW.trod enc P w base sp held n f0.type [c0] = some y0 ∧ DataW.trod enc P w base sp held n f1.type [c1] = some y1 ∧ DataW.trod enc P w base sp held n f2.type [c2] = some y2 ∧ DataW.trod enc P w base sp held n f3.type [c3] = some y3 ∧
      DataW.trod enc P w base sp held n f4.type [c4] = some y4 := by
  obtain ⟨ys, n, _, hx, _, hyl, hf⟩ := DataW.trod_struct hs h
  match l, hl with
  | [c0, c1, c2, c3, c4], _ =>
    match ys, hyl with
    | [y0, y1, y2, y3, y4], _ =>
      obtain ⟨o0, k0⟩ := hone_of hone 0 f0 rfl
      obtain ⟨o1, k1⟩ := hone_of hone 1 f1 rfl
      obtain ⟨o2, k2⟩ := hone_of hone 2 f2 rfl
      obtain ⟨o3, k3⟩ := hone_of hone 3 f3 rfl
      obtain ⟨o4, k4⟩ := hone_of hone 4 f4 rfl
      exact ⟨c0, c1, c2, c3, c4, y0, y1, y2, y3, y4, n, rfl, by simpa [o0, k0] using hf 0 f0 rfl, by simpa [o1, k1] using hf 1 f1 rfl, by simpa [o2, k2] using hf 2 f2 rfl,
        by simpa [o3, k3] using hf 3 f3 rfl, by simpa [o4, k4] using hf 4 f4 rfl⟩
end
theorem open_lv {H : Type} {enc : TypeId × Value → H} {W : World} {fuel : Nat} {c : Value} {y : DataW H × List MemPlace}
    (hf : DataW.trod enc Tryz.prog W 0 (fun _ => true) true fuel 34 [c] = some y) : ∃ v : LV, c = v.val ∧ LV.ok W v := by
  rcases open_strs Tryz.underlying34 Tryz.underlying9 cellsStr hf with ⟨hcs, hx⟩ | ⟨a, len, cap, m, Sx, hcs, _, hl, hm, hmm, hx, hcell⟩
  · simp at hcs
    subst hcs
    exact ⟨⟨none, 0, []⟩, rfl, (fun i hi => by simp at hi), by simp, fun t ht => by cases ht⟩
  · simp at hcs
    subst hcs
    simp only [if_true] at hmm
    refine ⟨⟨some a, cap, (List.range len).map (fun i => (Sx i).data.toList)⟩, by simp [LV.val], ?_, by simp; omega, ?_⟩
    · intro i hi
      have hi' : i < len := by simpa using hi
      refine ⟨a, rfl, ?_⟩
      rw [(hcell i (by omega)).1]
      simp
    · intro t ht
      rw [List.mem_map] at ht
      obtain ⟨i, hi, rfl⟩ := ht
      exact (hcell i (by have := List.mem_range.1 hi; omega)).2
theorem open_acts7 {H : Type} {enc : TypeId × Value → H} {W : World} {a0 : Option Addr} {len cap : Nat} {d : DataW H} {ps : List MemPlace}
    (h : DataW.Trod enc Tryz.prog W 0 (fun _ => true) true 22 (.slice a0 len cap) d ps) :
    ∃ L : List JV, len = L.length ∧ L.length ≤ maxLen ∧ JActs W a0 L := by
  obtain ⟨fuel, hf⟩ := h
  rcases Go.Deep.open_slice Tryz.underlying22 hf with ⟨hcs, _⟩ | ⟨a, len', cap', m, n, D, Pl, hcs, _, hl, hm, hmm, _, hel⟩
  · simp [Value.cells] at hcs
    obtain ⟨rfl, rfl, rfl⟩ := hcs
    exact ⟨[], rfl, by simp, fun i hi => by simp at hi⟩
  · simp [Value.cells] at hcs
    obtain ⟨rfl, rfl, rfl⟩ := hcs
    simp only [if_true] at hmm
    have each : ∀ i, i < len → ∃ x : JV, (∀ j u, x.cells[j]? = some u → W.cell? ((a.add (i * 5)).add j) = some u) ∧ JV.ok W x := by
      intro i hi
      obtain ⟨cs', hc, ht⟩ := hel i (by omega)
      rw [cellsAct7] at hc
      obtain ⟨_, hcl, hat⟩ := World.cells?_some hc
      obtain ⟨c0, c1, c2, c3, c4, y0, y1, y2, y3, y4, n', rfl, h0, h1, h2, h3, h4⟩ := five_fields Tryz.underlying37 (by kernel_rfl) hcl ht
      obtain ⟨z0, e0, _, w0⟩ := DataW.trod_int Tryz.underlying3 h0
      obtain ⟨z1, e1, _, w1⟩ := DataW.trod_int Tryz.underlying3 h1
      obtain ⟨s2, rfl, w2⟩ := open_lv h2
      obtain ⟨s3, rfl, w3⟩ := open_si h3
      obtain ⟨s4, rfl, w4⟩ := open_si h4
      simp at e0 e1
      subst e0 e1
      refine ⟨⟨z0, z1, s2.p, s2.cap, s2.l, s3, s4⟩, fun j u hj => ?_, wf_bounds w0, wf_bounds w1, w2.1, w2.2.1, w2.2.2, w3, w4⟩
      have hj5 : j < 5 := by
        rcases Nat.lt_or_ge j 5 with h | h
        · exact h
        · rw [List.getElem?_eq_none (by exact h)] at hj; cases hj
      rw [hat j hj5]
      exact hj
    obtain ⟨f, hfv⟩ := @Go.Deep.choose_lt JV ⟨⟨0, 0, none, 0, [], ⟨none, 0, []⟩, ⟨none, 0, []⟩⟩⟩ len _ each
    refine ⟨(List.range len).map f, by simp, by simp; omega, ?_⟩
    intro i hi
    have hi' : i < len := by simpa using hi
    obtain ⟨hc, ho⟩ := hfv i hi'
    refine ⟨(a.add (i * 5)).block, (a.add (i * 5)).off, (a.add (i * 5)).spot, rfl, fun j u hj => ?_, by simpa using ho⟩
    have hj' : (f i).cells[j]? = some u := by simpa using hj
    exact hc j u hj'
theorem again7 {H : Type} {enc : TypeId × Value → H} {W W' : World} {v : Value} {d : DataW H} {ps : List MemPlace} {t : TypeId} (ht : t ∈ [22, 41, 30, 66])
    (h : DataW.Trod enc Tryz.prog W 0 (fun _ => true) true t v d ps) (hb : Bel W W') (hlt : ∀ x ∈ ps, x.block < W.heap.size) :
    DataW.Trod enc Tryz.prog W' 0 (fun b => decide (b < W.heap.size)) true t v d ps := by
  simp only [List.mem_cons, List.not_mem_nil, or_false] at ht
  rcases ht with rfl | rfl | rfl | rfl
  · exact Below.trod laidOut (by kernel_rfl) (of_decide_eq_true (by kernel_rfl)) h hb hlt
  · exact Below.trod laidOut (by kernel_rfl) (of_decide_eq_true (by kernel_rfl)) h hb hlt
  · exact Below.trod laidOut (by kernel_rfl) (of_decide_eq_true (by kernel_rfl)) h hb hlt
  · exact Below.trod laidOut (by kernel_rfl) (of_decide_eq_true (by kernel_rfl)) h hb hlt
end Go.Proofs.YtlmlcnbgdaiaeaaGreatDoor
