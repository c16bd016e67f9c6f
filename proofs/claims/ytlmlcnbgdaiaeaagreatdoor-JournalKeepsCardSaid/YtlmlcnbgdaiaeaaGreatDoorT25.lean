/- JWrap4, JSis, laid together. -/
import Derived.Test.YtlmlcnbgdaiaeaaGreatDoorTzJLawO
import Derived.Test.YtlmlcnbgdaiaeaaGreatDoorT23
import Derived.Test.YtlmlcnbgdaiaeaaGreatDoorCards
import Derived.Test.YtlmlcnbgdaiaeaaGreatDoorTie
import Derived.ProofKit
import Derived.ChangeSlices
import Derived.Deep.Strs
import Derived.Deep.Slices
import Derived.OpenShut
import Derived.LaidMore
import Derived.Stop.Joined
import Derived.Stop.LaidErr
import Derived.SevenTiedAt
import Derived.Lib.SmallJoins
import Derived.Lib.LaidTab
set_option linter.unusedSimpArgs false
set_option linter.unusedVariables false
/- From the row's list of variables to Std; a world for the witness; slices of texts that came in; five arguments. -/
namespace Go.Proofs.YtlmlcnbgdaiaeaaGreatDoor
open Go.ChangeShapes Go.WideShapes Go.ChangeAt Go.RowKit Go.Joins Go.Deep

theorem own : ownKnob Tryz.prog.godebug = none := by kernel_rfl
theorem powGType : (Tryz.prog.globals[2]?).map (·.type) = some 207 := by kernel_rfl
theorem cellsPow : Tryz.prog.cellsOf 207 = 20 := by kernel_rfl
theorem cellsU64 : Tryz.prog.cellsOf 115 = 1 := by kernel_rfl
theorem cellsStr : Tryz.prog.cellsOf 9 = 1 := by kernel_rfl
theorem cellsErr : Tryz.prog.cellsOf 213 = 1 := by kernel_rfl
theorem synG : (Tryz.prog.globals[0]?).map (·.type) = some 139 := by kernel_rfl
theorem rngG : (Tryz.prog.globals[1]?).map (·.type) = some 139 := by kernel_rfl
theorem rowErr (u : TypeId) (h : Tryz.prog.typeName? 3 u = Tryz.prog.typeName? 3 211) : u = 211 :=
  typeName_ptr_named (nm := "errors.errorString") (by kernel_rfl) (by kernel_rfl) (by decide) u (h.trans (by kernel_rfl))

theorem lt_of_cell {w : World} {g o : Nat} {v : Value} (h : w.cell? ⟨g, o, none⟩ = some v) : g < w.heap.size := by
  rcases Nat.lt_or_ge g w.heap.size with h1 | h1
  · exact h1
  · exfalso
    unfold World.cell? at h
    simp [Array.getElem?_eq_none h1] at h

theorem std_of_laid {w : World} (h0 : laidMetH Tryz.prog Rows.journalPlaysRow.laid w) : Std w := by
  have h : laidMet Tryz.prog Rows.journalPlaysRow.laid w := by
    rw [MakeChecks.laidMetH_plain _ _ _ (by kernel_rfl)] at h0
    exact h0
  have hp := h.tail.tail
  have hr := hp.tail
  have hs := hr.tail
  have htab : Lib.TabIs Tryz.prog w powName .u64 Lib.pow10Tab := tab_named (Lib.tabIs_of_head (by kernel_rfl) powGType Tryz.underlying207 Tryz.underlying115 cellsU64 cellsPow hp) (by kernel_rfl)
  obtain ⟨a0, s0, hv0, -, -, -⟩ := laid_sentinel hr (by kernel_rfl) rngG Tryz.underlying139 (fun u h => rowErr u (h.trans (by kernel_rfl))) Tryz.underlying211 Tryz.underlying213 rfl rfl Tryz.underlying9 cellsErr cellsStr
  obtain ⟨a1, s1, hv1, -, -, -⟩ := laid_sentinel hs (by kernel_rfl) synG Tryz.underlying139 (fun u h => rowErr u (h.trans (by kernel_rfl))) Tryz.underlying211 Tryz.underlying213 rfl rfl Tryz.underlying9 cellsErr cellsStr
  have c0 : w.cell? ⟨1, 0, none⟩ = some (.iface 211 (.pointer (some a0))) := by
    have := World.var?_cell (g := 1) (by kernel_rfl) hv0 0
    simpa using this
  have c1 : w.cell? ⟨0, 0, none⟩ = some (.iface 211 (.pointer (some a1))) := by
    have := World.var?_cell (g := 0) (by kernel_rfl) hv1 0
    simpa using this
  have cp := htab.cell powG 0 (by decide)
  exact ⟨htab, ⟨_, _, c1⟩, ⟨_, _, c0⟩, lt_of_cell cp, lt_of_cell c1, lt_of_cell c0⟩

theorem door_met (os : Os) (args : Array Value) : laidMetH Tryz.prog Rows.journalPlaysRow.laid ((World.doorLaid Tryz.prog 400 os).forCall (fun _ _ => 0) ⟨#[], args, []⟩).memory :=
  laidMetH_of_parts3 (fuel := 8) (laidMet_of_run' 8 (by kernel_rfl) (by kernel_rfl)) (by kernel_rfl) (by kernel_rfl)
section
variable {H : Type} {enc : TypeId × Value → H} {P : Program} {w : World} {base : Nat} {spare : Nat → Bool} {held : Bool}
theorem trodAll_five {t0 t1 t2 t3 t4 : TypeId} {args : Array Value} {ds : List (DataW H)} {ps : List MemPlace} (h : DataW.TrodAll enc P w base spare held [t0, t1, t2, t3, t4] args.toList ds ps) :
    ∃ v0 v1 v2 v3 v4 d0 d1 d2 d3 d4 p0 p1 p2 p3 p4, args = #[v0, v1, v2, v3, v4] ∧ ds = [d0, d1, d2, d3, d4] ∧ ps = p0 ++ p1 ++ p2 ++ p3 ++ p4 ∧ DataW.Trod enc P w base spare held t0 v0 d0 p0 ∧ DataW.Trod enc P w base spare held t1 v1 d1 p1 ∧
      DataW.Trod enc P w base spare held t2 v2 d2 p2 ∧ DataW.Trod enc P w base spare held t3 v3 d3 p3 ∧ DataW.Trod enc P w base spare held t4 v4 d4 p4 := by
  obtain ⟨v0, vs, d0, ds0, p0, q0, hargs, rfl, rfl, hd0, r0⟩ := trodAll_cons h
  obtain ⟨v1, vs1, d1, ds1, p1, q1, rfl, rfl, rfl, hd1, r1⟩ := trodAll_cons r0
  obtain ⟨v2, vs2, d2, ds2, p2, q2, rfl, rfl, rfl, hd2, r2⟩ := trodAll_cons r1
  obtain ⟨v3, vs3, d3, ds3, p3, q3, rfl, rfl, rfl, hd3, r3⟩ := trodAll_cons r2
  obtain ⟨v4, vs4, d4, ds4, p4, q4, rfl, rfl, rfl, hd4, r4⟩ := trodAll_cons r3
  obtain ⟨rfl, rfl, rfl⟩ := trodAll_nil r4
  exact ⟨v0, v1, v2, v3, v4, d0, d1, d2, d3, d4, p0, p1, p2, p3, p4, by cases args; simp_all, rfl, by simp, hd0, hd1, hd2, hd3, hd4⟩
theorem trodAll_mk5 {t0 t1 t2 t3 t4 : TypeId} {v0 v1 v2 v3 v4 : Value} {d0 d1 d2 d3 d4 : DataW H} {p0 p1 p2 p3 p4 : List MemPlace} (h0 : DataW.Trod enc P w base spare held t0 v0 d0 p0) (h1 : DataW.Trod enc P w base spare held t1 v1 d1 p1)
    (h2 : DataW.Trod enc P w base spare held t2 v2 d2 p2) (h3 : DataW.Trod enc P w base spare held t3 v3 d3 p3) (h4 : DataW.Trod enc P w base spare held t4 v4 d4 p4) :
    DataW.TrodAll enc P w base spare held [t0, t1, t2, t3, t4] [v0, v1, v2, v3, v4] [d0, d1, d2, d3, d4] (p0 ++ (p1 ++ (p2 ++ (p3 ++ p4)))) :=
  ⟨p0, _, h0, ⟨p1, _, h1, trodAll_mk3 h2 h3 h4, rfl⟩, rfl⟩
end

theorem cellsFile7 : Tryz.prog.cellsOf 49 = 2 := by kernel_rfl
theorem cellsLst : Tryz.prog.cellsOf 34 = 1 := by kernel_rfl
theorem cellsBool : Tryz.prog.cellsOf 4 = 1 := by kernel_rfl
section
variable {H : Type} {enc : TypeId × Value → H} {P : Program} {w : World} {base : Nat} {sp : Nat → Bool} {held : Bool}
theorem two_fields7 {t : TypeId} {f0 f1 : Field} {fuel : Nat} {l : List Value} {x : DataW H × List MemPlace} (hs : P.underlying t = some (.struct #[f0, f1])) (hone : oneCellFields P #[f0, f1] = true) (hl : l.length = 2)
    (h : DataW.trod enc P w base sp held fuel t l = some x) :
    ∃ (c0 c1 : Value) (y0 y1 : DataW H × List MemPlace) (n : Nat), l = [c0, c1] ∧
      DataW.trod enc P w base sp held n f0.type [c0] = some y0 ∧ DataW.trod enc P w base sp held n f1.type [c1] = some y1 := by
  obtain ⟨ys, n, _, hx, _, hyl, hf⟩ := DataW.trod_struct hs h
  match l, hl with
  | [c0, c1], _ =>
    match ys, hyl with
    | [y0, y1], _ =>
      obtain ⟨o0, k0⟩ := hone_of hone 0 f0 rfl
      obtain ⟨o1, k1⟩ := hone_of hone 1 f1 rfl
      exact ⟨c0, c1, y0, y1, n, rfl, by simpa [o0, k0] using hf 0 f0 rfl, by simpa [o1, k1] using hf 1 f1 rfl⟩
end
theorem open_lv {H : Type} {enc : TypeId × Value → H} {W : World} {fuel : Nat} {c : Value} {y : DataW H × List MemPlace}
    (hf : DataW.trod enc Tryz.prog W 0 (fun _ => true) true fuel 34 [c] = some y) : ∃ v : LV, c = v.val ∧ LV.ok W v := by
  rcases open_strs Tryz.underlying34 Tryz.underlying9 cellsStr hf with ⟨hcs, hx⟩ | ⟨a, len, cap, m, Sx, hcs, _, hl, hm, hmm, hx, hcell⟩
  · simp at hcs
    subst hcs
    exact ⟨⟨none, 0, []⟩, rfl, (fun i hi => by simp at hi), by simp, fun t ht => by cases ht⟩
  · simp at hcs
    subst hcs
    simp only [if_true] at hmm
    refine ⟨⟨some a, cap, (List.range len).map (fun i => (Sx i).data.toList)⟩, by simp [LV.val], ?_, by simp; omega, ?_⟩
    · intro i hi
      have hi' : i < len := by simpa using hi
      refine ⟨a, rfl, ?_⟩
      rw [(hcell i (by omega)).1]
      simp
    · intro t ht
      rw [List.mem_map] at ht
      obtain ⟨i, hi, rfl⟩ := ht
      exact (hcell i (by have := List.mem_range.1 hi; omega)).2
theorem open_lists {H : Type} {enc : TypeId × Value → H} {W : World} {a0 : Option Addr} {len cap : Nat} {d : DataW H} {ps : List MemPlace}
    (h : DataW.Trod enc Tryz.prog W 0 (fun _ => true) true 30 (.slice a0 len cap) d ps) :
    ∃ L : List LV, len = L.length ∧ L.length ≤ maxLen ∧ LvsAt W a0 L := by
  obtain ⟨fuel, hf⟩ := h
  rcases Go.Deep.open_slice Tryz.underlying30 hf with ⟨hcs, _⟩ | ⟨a, len', cap', m, n, D, Pl, hcs, _, hl, hm, hmm, _, hel⟩
  · simp [Value.cells] at hcs
    obtain ⟨rfl, rfl, rfl⟩ := hcs
    exact ⟨[], rfl, by simp, fun i hi => by simp at hi⟩
  · simp [Value.cells] at hcs
    obtain ⟨rfl, rfl, rfl⟩ := hcs
    simp only [if_true] at hmm
    have each : ∀ i, i < len → ∃ v : LV, W.cell? (a.add i) = some v.val ∧ LV.ok W v := by
      intro i hi
      obtain ⟨cs', hc, ht⟩ := hel i (by omega)
      rw [cellsLst, Nat.mul_one] at hc
      obtain ⟨_, hcl, hat⟩ := World.cells?_some hc
      match cs', hcl with
      | [c], _ =>
        obtain ⟨v, rfl, hv⟩ := open_lv ht
        have := hat 0 (by omega)
        exact ⟨v, by rw [show (a.add i).add 0 = a.add i from rfl] at this; rw [this]; rfl, hv⟩
    obtain ⟨f, hfv⟩ := @Go.Deep.choose_lt LV ⟨⟨none, 0, []⟩⟩ len _ each
    refine ⟨(List.range len).map f, by simp, by simp; omega, ?_⟩
    intro i hi
    have hi' : i < len := by simpa using hi
    obtain ⟨h1, h2⟩ := hfv i hi'
    exact ⟨a, rfl, by simpa using h1, by simpa using h2⟩
theorem open_bools {H : Type} {enc : TypeId × Value → H} {W : World} {a0 : Option Addr} {len cap : Nat} {d : DataW H} {ps : List MemPlace}
    (h : DataW.Trod enc Tryz.prog W 0 (fun _ => true) true 66 (.slice a0 len cap) d ps) :
    ∃ L : List Bool, len = L.length ∧ L.length ≤ maxLen ∧ BoolsAt W a0 L := by
  obtain ⟨fuel, hf⟩ := h
  rcases Go.Deep.open_slice Tryz.underlying66 hf with ⟨hcs, _⟩ | ⟨a, len', cap', m, n, D, Pl, hcs, _, hl, hm, hmm, _, hel⟩
  · simp [Value.cells] at hcs
    obtain ⟨rfl, rfl, rfl⟩ := hcs
    exact ⟨[], rfl, by simp, fun i hi => by simp at hi⟩
  · simp [Value.cells] at hcs
    obtain ⟨rfl, rfl, rfl⟩ := hcs
    simp only [if_true] at hmm
    have each : ∀ i, i < len → ∃ v : Bool, W.cell? (a.add i) = some (.bool v) := by
      intro i hi
      obtain ⟨cs', hc, ht⟩ := hel i (by omega)
      rw [cellsBool, Nat.mul_one] at hc
      obtain ⟨_, hcl, hat⟩ := World.cells?_some hc
      match cs', hcl with
      | [c], _ =>
        obtain ⟨v, hv, _⟩ := DataW.trod_bool Tryz.underlying4 ht
        simp at hv
        subst hv
        have := hat 0 (by omega)
        exact ⟨v, by rw [show (a.add i).add 0 = a.add i from rfl] at this; rw [this]; rfl⟩
    obtain ⟨f, hfv⟩ := @Go.Deep.choose_lt Bool ⟨false⟩ len _ each
    refine ⟨(List.range len).map f, by simp, by simp; omega, ?_⟩
    intro i hi
    have hi' : i < len := by simpa using hi
    exact ⟨a, rfl, by simpa using hfv i hi'⟩
theorem open_files7 {H : Type} {enc : TypeId × Value → H} {W : World} {a0 : Option Addr} {len cap : Nat} {d : DataW H} {ps : List MemPlace}
    (h : DataW.Trod enc Tryz.prog W 0 (fun _ => true) true 41 (.slice a0 len cap) d ps) :
    ∃ L : List FB, len = L.length ∧ L.length ≤ maxLen ∧ FlsAt W a0 L := by
  obtain ⟨fuel, hf⟩ := h
  rcases Go.Deep.open_slice Tryz.underlying41 hf with ⟨hcs, _⟩ | ⟨a, len', cap', m, n, D, Pl, hcs, _, hl, hm, hmm, _, hel⟩
  · simp [Value.cells] at hcs
    obtain ⟨rfl, rfl, rfl⟩ := hcs
    exact ⟨[], rfl, by simp, fun i hi => by simp at hi⟩
  · simp [Value.cells] at hcs
    obtain ⟨rfl, rfl, rfl⟩ := hcs
    simp only [if_true] at hmm
    have each : ∀ i, i < len → ∃ v : FB, (v.name.size ≤ maxLen ∧ v.data.size ≤ maxLen) ∧ W.cell? (a.add (i * 2)) = some (.string v.name) ∧ W.cell? ((a.add (i * 2)).add 1) = some (.string v.data) := by
      intro i hi
      obtain ⟨cs', hc, ht⟩ := hel i (by omega)
      rw [cellsFile7] at hc
      obtain ⟨_, hcl, hat⟩ := World.cells?_some hc
      obtain ⟨c0, c1, y0, y1, n', rfl, h0, h1⟩ := two_fields7 Tryz.underlying49 (by kernel_rfl) hcl ht
      obtain ⟨s0, e0, _, w0⟩ := DataW.trod_string Tryz.underlying9 h0
      obtain ⟨s1, e1, _, w1⟩ := DataW.trod_string Tryz.underlying9 h1
      simp at e0 e1
      refine ⟨⟨s0, s1⟩, ⟨w0, w1⟩, ?_, ?_⟩
      · have := hat 0 (by omega)
        rw [show (a.add (i * 2)).add 0 = a.add (i * 2) from rfl] at this
        rw [this, e0]; rfl
      · rw [hat 1 (by omega), e1]; rfl
    obtain ⟨f, hfv⟩ := @Go.Deep.choose_lt FB ⟨⟨⟨#[]⟩, ⟨#[]⟩⟩⟩ len _ each
    refine ⟨(List.range len).map f, by simp, by simp; omega, ?_⟩
    intro i hi
    have hi' : i < len := by simpa using hi
    obtain ⟨hw, h0, h1⟩ := hfv i hi'
    refine ⟨(a.add (i * 2)).block, (a.add (i * 2)).off, (a.add (i * 2)).spot, rfl, ?_, ?_, ?_, ?_⟩
    · simpa using h0
    · simpa [Addr.add] using h1
    · simpa using hw.1
    · simpa using hw.2
theorem again7 {H : Type} {enc : TypeId × Value → H} {W W' : World} {v : Value} {d : DataW H} {ps : List MemPlace} {t : TypeId} (ht : t ∈ [22, 41, 30, 66])
    (h : DataW.Trod enc Tryz.prog W 0 (fun _ => true) true t v d ps) (hb : Bel W W') (hlt : ∀ x ∈ ps, x.block < W.heap.size) :
    DataW.Trod enc Tryz.prog W' 0 (fun b => decide (b < W.heap.size)) true t v d ps := by
  simp only [List.mem_cons, List.not_mem_nil, or_false] at ht
  rcases ht with rfl | rfl | rfl | rfl
  · exact Below.trod laidOut (by kernel_rfl) (of_decide_eq_true (by kernel_rfl)) h hb hlt
  · exact Below.trod laidOut (by kernel_rfl) (of_decide_eq_true (by kernel_rfl)) h hb hlt
  · exact Below.trod laidOut (by kernel_rfl) (of_decide_eq_true (by kernel_rfl)) h hb hlt
  · exact Below.trod laidOut (by kernel_rfl) (of_decide_eq_true (by kernel_rfl)) h hb hlt
end Go.Proofs.YtlmlcnbgdaiaeaaGreatDoor
/- A slice of ints that came in. -/
namespace Go.Proofs.YtlmlcnbgdaiaeaaGreatDoor
open Go.ChangeShapes Go.WideShapes Go.ChangeAt Go.RowKit Go.Joins Go.Deep

theorem open_sis {H : Type} {enc : TypeId × Value → H} {W : World} {v : Value} {d : DataW H} {ps : List MemPlace} (h : DataW.Trod enc Tryz.prog W 0 (fun _ => true) true 35 v d ps) (hv : ∃ a len cap, v = .slice a len cap := by exact ⟨_, _, _, rfl⟩) : ∃ s : SI, v = s.val ∧ SI.ok W s := by
  obtain ⟨a, len, cap, rfl⟩ := hv
  obtain ⟨fuel, hf⟩ := h
  have e : (Value.slice a len cap).cells.toList = [Value.slice a len cap] := rfl
  rw [e] at hf
  exact open_si hf
end Go.Proofs.YtlmlcnbgdaiaeaaGreatDoor
