/- NWrap, NWrapF, laid together. -/
import Derived.Test.YtfbiinnenlgkfaaGreatDoorR31
import Derived.Test.YtfbiinnenlgkfaaGreatDoorCards
import Derived.Test.YtfbiinnenlgkfaaGreatDoorTie
import Derived.ProofKit
import Derived.ChangeSlices
import Derived.Deep.Strs
import Derived.Deep.Slices
import Derived.OpenShut
import Derived.LaidMore
import Derived.Stop.Joined
import Derived.Stop.LaidErr
import Derived.SevenTiedAt
import Derived.Lib.SmallJoins
import Derived.Lib.LaidTab
import Derived.Test.YtfbiinnenlgkfaaGreatDoorRzNLawO
set_option linter.unusedSimpArgs false
set_option linter.unusedVariables false
set_option maxRecDepth 100000
namespace Go.Proofs.YtfbiinnenlgkfaaGreatDoor
open Go.ChangeShapes Go.WideShapes Go.ChangeAt Go.RowKit Go.Joins Go.Deep

theorem own : ownKnob Tryz.prog.godebug = none := by kernel_rfl
theorem powGType : (Tryz.prog.globals[0]?).map (·.type) = some 246 := by kernel_rfl
theorem cellsPow : Tryz.prog.cellsOf 246 = 20 := by kernel_rfl
theorem cellsU64 : Tryz.prog.cellsOf 99 = 1 := by kernel_rfl
theorem cellsStr : Tryz.prog.cellsOf 9 = 1 := by kernel_rfl
theorem cellsErr : Tryz.prog.cellsOf 257 = 1 := by kernel_rfl
theorem synG : (Tryz.prog.globals[1]?).map (·.type) = some 143 := by kernel_rfl
theorem rngG : (Tryz.prog.globals[2]?).map (·.type) = some 143 := by kernel_rfl
theorem rowErr (u : TypeId) (h : Tryz.prog.typeName? 3 u = Tryz.prog.typeName? 3 255) : u = 255 :=
 typeName_ptr_named (nm := "errors.errorString") (by kernel_rfl) (by kernel_rfl) (by decide) u (h.trans (by kernel_rfl))

theorem lt_of_cell {w : World} {g o : Nat} {v : Value} (h : w.cell? ⟨g, o, none⟩ = some v) : g < w.heap.size := by
 rcases Nat.lt_or_ge g w.heap.size with h1 | h1
 ·exact h1
 ·exfalso
  unfold World.cell? at h
  simp [Array.getElem?_eq_none h1] at h

theorem std_of_laid {w : World} (h0 : laidMetH Tryz.prog Rows.manifestPlaysRow.laid w) : Std w := by
 have h : laidMet Tryz.prog Rows.manifestPlaysRow.laid w := by
  rw [MakeChecks.laidMetH_plain _ _ _ (by kernel_rfl)] at h0
  exact h0
 have hp := h.tail.tail
 have hr := hp.tail
 have hs := hr.tail
 have htab : Lib.TabIs Tryz.prog w powName .u64 Lib.pow10Tab := tab_named (Lib.tabIs_of_head (by kernel_rfl) powGType Tryz.underlying246 Tryz.underlying99 cellsU64 cellsPow hp) (by kernel_rfl)
 obtain ⟨a0, s0, hv0, -, -, -⟩ := laid_sentinel hr (by kernel_rfl) rngG Tryz.underlying143 (fun u h => rowErr u (h.trans (by kernel_rfl))) Tryz.underlying255 Tryz.underlying257 rfl rfl Tryz.underlying9 cellsErr cellsStr
 obtain ⟨a1, s1, hv1, -, -, -⟩ := laid_sentinel hs (by kernel_rfl) synG Tryz.underlying143 (fun u h => rowErr u (h.trans (by kernel_rfl))) Tryz.underlying255 Tryz.underlying257 rfl rfl Tryz.underlying9 cellsErr cellsStr
 have c0 : w.cell? ⟨2, 0, none⟩ = some (.iface 255 (.pointer (some a0))) := by
  have := World.var?_cell (g := 2) (by kernel_rfl) hv0 0
  simpa using this
 have c1 : w.cell? ⟨1, 0, none⟩ = some (.iface 255 (.pointer (some a1))) := by
  have := World.var?_cell (g := 1) (by kernel_rfl) hv1 0
  simpa using this
 have cp := htab.cell powG 0 (by decide)
 exact ⟨htab, ⟨_, _, c1⟩, ⟨_, _, c0⟩, lt_of_cell cp, lt_of_cell c1, lt_of_cell c0⟩

theorem door_met (os : Os) (args : Array Value) : laidMetH Tryz.prog Rows.manifestPlaysRow.laid ((World.doorLaid Tryz.prog 400 os).forCall (fun _ _ => 0) ⟨#[], args, []⟩).memory :=
 laidMetH_of_parts3 (fuel := 8) (laidMet_of_run' 8 (by kernel_rfl) (by kernel_rfl)) (by kernel_rfl) (by kernel_rfl)
section
variable {H : Type} {enc : TypeId × Value → H} {P : Program} {w : World} {base : Nat} {spare : Nat → Bool} {held : Bool}
theorem trodAll_five {t0 t1 t2 t3 t4 : TypeId} {args : Array Value} {ds : List (DataW H)} {ps : List MemPlace} (h : DataW.TrodAll enc P w base spare held [t0, t1, t2, t3, t4] args.toList ds ps) :
  ∃ v0 v1 v2 v3 v4 d0 d1 d2 d3 d4 p0 p1 p2 p3 p4, args = #[v0, v1, v2, v3, v4] ∧ ds = [d0, d1, d2, d3, d4] ∧ ps = p0 ++ p1 ++ p2 ++ p3 ++ p4 ∧ DataW.Trod enc P w base spare held t0 v0 d0 p0 ∧ DataW.Trod enc P w base spare held t1 v1 d1 p1 ∧
   DataW.Trod enc P w base spare held t2 v2 d2 p2 ∧ DataW.Trod enc P w base spare held t3 v3 d3 p3 ∧ DataW.Trod enc P w base spare held t4 v4 d4 p4 := by
 obtain ⟨v0, vs, d0, ds0, p0, q0, hargs, rfl, rfl, hd0, r0⟩ := trodAll_cons h
 obtain ⟨v1, vs1, d1, ds1, p1, q1, rfl, rfl, rfl, hd1, r1⟩ := trodAll_cons r0
 obtain ⟨v2, vs2, d2, ds2, p2, q2, rfl, rfl, rfl, hd2, r2⟩ := trodAll_cons r1
 obtain ⟨v3, vs3, d3, ds3, p3, q3, rfl, rfl, rfl, hd3, r3⟩ := trodAll_cons r2
 obtain ⟨v4, vs4, d4, ds4, p4, q4, rfl, rfl, rfl, hd4, r4⟩ := trodAll_cons r3
 obtain ⟨rfl, rfl, rfl⟩ := trodAll_nil r4
 exact ⟨v0, v1, v2, v3, v4, d0, d1, d2, d3, d4, p0, p1, p2, p3, p4, by cases args; simp_all, rfl, by simp, hd0, hd1, hd2, hd3, hd4⟩
theorem trodAll_mk5 {t0 t1 t2 t3 t4 : TypeId} {v0 v1 v2 v3 v4 : Value} {d0 d1 d2 d3 d4 : DataW H} {p0 p1 p2 p3 p4 : List MemPlace} (h0 : DataW.Trod enc P w base spare held t0 v0 d0 p0) (h1 : DataW.Trod enc P w base spare held t1 v1 d1 p1)
  (h2 : DataW.Trod enc P w base spare held t2 v2 d2 p2) (h3 : DataW.Trod enc P w base spare held t3 v3 d3 p3) (h4 : DataW.Trod enc P w base spare held t4 v4 d4 p4) :
  DataW.TrodAll enc P w base spare held [t0, t1, t2, t3, t4] [v0, v1, v2, v3, v4] [d0, d1, d2, d3, d4] (p0 ++ (p1 ++ (p2 ++ (p3 ++ p4)))) :=
 ⟨p0, _, h0, ⟨p1, _, h1, trodAll_mk3 h2 h3 h4, rfl⟩, rfl⟩
end

section
variable {H : Type} {enc : TypeId × Value → H} {P : Program} {w : World} {base : Nat} {sp : Nat → Bool} {held : Bool}
theorem five_fields {t : TypeId} {f0 f1 f2 f3 f4 : Field} {fuel : Nat} {l : List Value} {x : DataW H × List MemPlace} (hs : P.underlying t = some (.struct #[f0, f1, f2, f3, f4])) (hone : oneCellFields P #[f0, f1, f2, f3, f4] = true) (hl : l.length = 5)
  (h : DataW.trod enc P w base sp held fuel t l = some x) :
  ∃ (c0 c1 c2 c3 c4 : Value) (y0 y1 y2 y3 y4 : DataW H × List MemPlace) (n : Nat), l = [c0, c1, c2, c3, c4] ∧
   DataW.trod enc P w base sp held n f0.type [c0] = some y0 ∧ DataW.trod enc P w base sp held n f1.type [c1] = some y1 ∧ DataW.trod enc P w base sp held n f2.type [c2] = some y2 ∧ DataW.trod enc P w base sp held n f3.type [c3] = some y3 ∧
   DataW.trod enc P w base sp held n f4.type [c4] = some y4 := by
 obtain ⟨ys, n, _, hx, _, hyl, hf⟩ := DataW.trod_struct hs h
 match l, hl with
 | [c0, c1, c2, c3, c4], _ =>
  match ys, hyl with
  | [y0, y1, y2, y3, y4], _ =>
   obtain ⟨o0, k0⟩ := hone_of hone 0 f0 rfl
   obtain ⟨o1, k1⟩ := hone_of hone 1 f1 rfl
   obtain ⟨o2, k2⟩ := hone_of hone 2 f2 rfl
   obtain ⟨o3, k3⟩ := hone_of hone 3 f3 rfl
   obtain ⟨o4, k4⟩ := hone_of hone 4 f4 rfl
   exact ⟨c0, c1, c2, c3, c4, y0, y1, y2, y3, y4, n, rfl, by simpa [o0, k0] using hf 0 f0 rfl, by simpa [o1, k1] using hf 1 f1 rfl, by simpa [o2, k2] using hf 2 f2 rfl,
    by simpa [o3, k3] using hf 3 f3 rfl, by simpa [o4, k4] using hf 4 f4 rfl⟩
theorem two_fields13 {t : TypeId} {f0 f1 : Field} {fuel : Nat} {l : List Value} {x : DataW H × List MemPlace} (hs : P.underlying t = some (.struct #[f0, f1])) (hone : oneCellFields P #[f0, f1] = true) (hl : l.length = 2)
  (h : DataW.trod enc P w base sp held fuel t l = some x) :
  ∃ (c0 c1 : Value) (y0 y1 : DataW H × List MemPlace) (n : Nat), l = [c0, c1] ∧
   DataW.trod enc P w base sp held n f0.type [c0] = some y0 ∧ DataW.trod enc P w base sp held n f1.type [c1] = some y1 := by
 obtain ⟨ys, n, _, hx, _, hyl, hf⟩ := DataW.trod_struct hs h
 match l, hl with
 | [c0, c1], _ =>
  match ys, hyl with
  | [y0, y1], _ =>
   obtain ⟨o0, k0⟩ := hone_of hone 0 f0 rfl
   obtain ⟨o1, k1⟩ := hone_of hone 1 f1 rfl
   exact ⟨c0, c1, y0, y1, n, rfl, by simpa [o0, k0] using hf 0 f0 rfl, by simpa [o1, k1] using hf 1 f1 rfl⟩
end
theorem cellsAct13 : Tryz.prog.cellsOf 54 = 9 := by kernel_rfl
theorem cellsPl13 : Tryz.prog.cellsOf 95 = 2 := by kernel_rfl
theorem cellsInt13 : Tryz.prog.cellsOf 3 = 1 := by kernel_rfl
theorem cellsInts13 : Tryz.prog.cellsOf 52 = 1 := by kernel_rfl
theorem cellsSt13 : Tryz.prog.cellsOf 24 = 5 := by kernel_rfl
theorem open_pls13 {H : Type} {enc : TypeId × Value → H} {W : World} {fuel : Nat} {c : Value} {y : DataW H × List MemPlace}
  (hf : DataW.trod enc Tryz.prog W 0 (fun _ => true) true fuel 22 [c] = some y) : ∃ (p : Option Addr) (k : Nat) (l : List PL), c = .slice p l.length k ∧ PlsAt W p l ∧ (∀ f ∈ l, in64 f.n ∧ in64 f.l) ∧ l.length ≤ maxLen := by
 rcases Go.Deep.open_slice Tryz.underlying22 hf with ⟨hcs, _⟩ | ⟨a, len, cap, m, n, D, Pl, hcs, _, hl, hm, hmm, _, hel⟩
 ·simp at hcs
  subst hcs
  exact ⟨none, 0, [], rfl, (fun i hi => by simp at hi), (fun f hf => by cases hf), by simp⟩
 ·simp at hcs
  subst hcs
  simp only [if_true] at hmm
  have each : ∀ i, i < len → ∃ v : PL, (in64 v.n ∧ in64 v.l) ∧ W.cell? (a.add (i * 2)) = some (.int .i64 v.n) ∧ W.cell? ((a.add (i * 2)).add 1) = some (.int .i64 v.l) := by
   intro i hi
   obtain ⟨cs', hc, ht⟩ := hel i (by omega)
   rw [cellsPl13] at hc
   obtain ⟨_, hcl, hat⟩ := World.cells?_some hc
   obtain ⟨c0, c1, y0, y1, n', rfl, h0, h1⟩ := two_fields13 Tryz.underlying95 (by kernel_rfl) hcl ht
   obtain ⟨z0, e0, _, w0⟩ := DataW.trod_int Tryz.underlying3 h0
   obtain ⟨z1, e1, _, w1⟩ := DataW.trod_int Tryz.underlying3 h1
   simp at e0 e1
   refine ⟨⟨z0, z1⟩, ⟨wf_bounds w0, wf_bounds w1⟩, ?_, ?_⟩
   ·have := hat 0 (by omega)
    rw [show (a.add (i * 2)).add 0 = a.add (i * 2) from rfl] at this
    rw [this, e0]; rfl
   ·rw [hat 1 (by omega), e1]; rfl
  obtain ⟨f, hfv⟩ := @Go.Deep.choose_lt PL ⟨⟨0, 0⟩⟩ len _ each
  refine ⟨some a, cap, (List.range len).map f, by simp, ?_, ?_, by simp; omega⟩
  ·intro i hi
   have hi' : i < len := by simpa using hi
   obtain ⟨_, h0, h1⟩ := hfv i hi'
   refine ⟨a, (a.add (i * 2)).block, (a.add (i * 2)).off, (a.add (i * 2)).spot, rfl, rfl, ?_, ?_⟩
   ·simpa using h0
   ·simpa [Addr.add] using h1
  ·intro e he
   obtain ⟨i, hi, rfl⟩ := List.mem_map.1 he
   exact (hfv i (List.mem_range.1 hi)).1
theorem act_fields {H : Type} {enc : TypeId × Value → H} {W : World} {fuel : Nat} {l : List Value} {x : DataW H × List MemPlace} (hl : l.length = 9)
  (h : DataW.trod enc Tryz.prog W 0 (fun _ => true) true fuel 54 l = some x) :
  ∃ (c0 c1 c2 c3 c4 c5 c6 c7 c8 : Value) (y0 y1 y2 y3 y4 y5 y6 y7 y8 : DataW H × List MemPlace) (n m : Nat), l = [c0, c1, c2, c3, c4, c5, c6, c7, c8] ∧
   DataW.trod enc Tryz.prog W 0 (fun _ => true) true n 3 [c0] = some y0 ∧ DataW.trod enc Tryz.prog W 0 (fun _ => true) true n 3 [c1] = some y1 ∧
   DataW.trod enc Tryz.prog W 0 (fun _ => true) true m 22 [c2] = some y2 ∧ DataW.trod enc Tryz.prog W 0 (fun _ => true) true m 3 [c3] = some y3 ∧ DataW.trod enc Tryz.prog W 0 (fun _ => true) true m 3 [c4] = some y4 ∧
   DataW.trod enc Tryz.prog W 0 (fun _ => true) true m 3 [c5] = some y5 ∧ DataW.trod enc Tryz.prog W 0 (fun _ => true) true m 9 [c6] = some y6 ∧
   DataW.trod enc Tryz.prog W 0 (fun _ => true) true n 52 [c7] = some y7 ∧ DataW.trod enc Tryz.prog W 0 (fun _ => true) true n 52 [c8] = some y8 := by
 obtain ⟨ys, n, _, hx, _, hyl, hf⟩ := DataW.trod_struct Tryz.underlying54 h
 match l, hl with
 | [c0, c1, c2, c3, c4, c5, c6, c7, c8], _ =>
  match ys, hyl with
  | [y0, y1, ys, y7, y8], _ =>
   have g0 : DataW.trod enc Tryz.prog W 0 (fun _ => true) true n 3 [c0] = some y0 := by simpa [cellsInt13] using hf 0 _ rfl
   have g1 : DataW.trod enc Tryz.prog W 0 (fun _ => true) true n 3 [c1] = some y1 := by simpa [cellsInt13] using hf 1 _ rfl
   have g2 : DataW.trod enc Tryz.prog W 0 (fun _ => true) true n 24 [c2, c3, c4, c5, c6] = some ys := by simpa [cellsSt13] using hf 2 _ rfl
   have g3 : DataW.trod enc Tryz.prog W 0 (fun _ => true) true n 52 [c7] = some y7 := by simpa [cellsInts13] using hf 3 _ rfl
   have g4 : DataW.trod enc Tryz.prog W 0 (fun _ => true) true n 52 [c8] = some y8 := by simpa [cellsInts13] using hf 4 _ rfl
   obtain ⟨d0, d1, d2, d3, d4, z0, z1, z2, z3, z4, m, hd, k0, k1, k2, k3, k4⟩ := five_fields Tryz.underlying24 (by kernel_rfl) rfl g2
   simp only [List.cons.injEq, and_true] at hd
   obtain ⟨rfl, rfl, rfl, rfl, rfl⟩ := hd
   exact ⟨_, _, _, _, _, _, _, _, _, y0, y1, z0, z1, z2, z3, z4, y7, y8, n, m, rfl, g0, g1, k0, k1, k2, k3, k4, g3, g4⟩
theorem open_acts13 {H : Type} {enc : TypeId × Value → H} {W : World} {a0 : Option Addr} {len cap : Nat} {d : DataW H} {ps : List MemPlace}
  (h : DataW.Trod enc Tryz.prog W 0 (fun _ => true) true 44 (.slice a0 len cap) d ps) :
  ∃ L : List NV, len = L.length ∧ L.length ≤ maxLen ∧ NActs W a0 L := by
 obtain ⟨fuel, hf⟩ := h
 rcases Go.Deep.open_slice Tryz.underlying44 hf with ⟨hcs, _⟩ | ⟨a, len', cap', m, n, D, Pl, hcs, _, hl, hm, hmm, _, hel⟩
 ·simp [Value.cells] at hcs
  obtain ⟨rfl, rfl, rfl⟩ := hcs
  exact ⟨[], rfl, by simp, fun i hi => by simp at hi⟩
 ·simp [Value.cells] at hcs
  obtain ⟨rfl, rfl, rfl⟩ := hcs
  simp only [if_true] at hmm
  have each : ∀ i, i < len → ∃ x : NV, (∀ j u, x.cells[j]? = some u → W.cell? ((a.add (i * 9)).add j) = some u) ∧ NV.ok W x := by
   intro i hi
   obtain ⟨cs', hc, ht⟩ := hel i (by omega)
   rw [cellsAct13] at hc
   obtain ⟨_, hcl, hat⟩ := World.cells?_some hc
   obtain ⟨c0, c1, c2, c3, c4, c5, c6, c7, c8, y0, y1, y2, y3, y4, y5, y6, y7, y8, n', m', rfl, h0, h1, h2, h3, h4, h5, h6, h7, h8⟩ := act_fields hcl ht
   obtain ⟨z0, e0, _, w0⟩ := DataW.trod_int Tryz.underlying3 h0
   obtain ⟨z1, e1, _, w1⟩ := DataW.trod_int Tryz.underlying3 h1
   obtain ⟨pp, k, l, rfl, hp, hpe, hpl⟩ := open_pls13 h2
   obtain ⟨z3, e3, _, w3⟩ := DataW.trod_int Tryz.underlying3 h3
   obtain ⟨z4, e4, _, w4⟩ := DataW.trod_int Tryz.underlying3 h4
   obtain ⟨z5, e5, _, w5⟩ := DataW.trod_int Tryz.underlying3 h5
   obtain ⟨s6, e6, _, w6⟩ := DataW.trod_string Tryz.underlying9 h6
   obtain ⟨s7, rfl, w7⟩ := open_si h7
   obtain ⟨s8, rfl, w8⟩ := open_si h8
   simp at e0 e1 e3 e4 e5 e6
   subst e0 e1 e3 e4 e5 e6
   refine ⟨⟨z0, z1, pp, k, ⟨l, z3, z4, z5, s6⟩, s7, s8⟩, fun j u hj => ?_, ⟨wf_bounds w0, wf_bounds w1, wf_bounds w3, wf_bounds w4, wf_bounds w5, hp, hpe, hpl, w6, w7, w8⟩⟩
   have hj9 : j < 9 := by
    rcases Nat.lt_or_ge j 9 with h | h
    ·exact h
    ·rw [List.getElem?_eq_none (by exact h)] at hj; cases hj
   rw [hat j hj9]
   exact hj
  obtain ⟨f, hfv⟩ := @Go.Deep.choose_lt NV ⟨⟨0, 0, none, 0, ⟨[], 0, 0, 0, ⟨#[]⟩⟩, ⟨none, 0, []⟩, ⟨none, 0, []⟩⟩⟩ len _ each
  refine ⟨(List.range len).map f, by simp, by simp; omega, ?_⟩
  intro i hi
  have hi' : i < len := by simpa using hi
  obtain ⟨hc, ho⟩ := hfv i hi'
  have hcc : ∀ j u, (f i).cells[j]? = some u → W.cell? ⟨(a.add (i * 9)).block, (a.add (i * 9)).off + j, if j = 0 then (a.add (i * 9)).spot else none⟩ = some u := fun j u hj => by
   have := hc j u hj
   cases j with
   | zero => simpa [Addr.add] using this
   | succ j => simpa [Addr.add] using this
  refine ⟨a, (a.add (i * 9)).block, (a.add (i * 9)).off, (a.add (i * 9)).spot, rfl, rfl, ?_, by simpa using ho⟩
  simp only [List.getElem_map, List.getElem_range]
  exact ⟨hcc 0 _ rfl, hcc 1 _ rfl, hcc 2 _ rfl, hcc 3 _ rfl, hcc 4 _ rfl, hcc 5 _ rfl, hcc 6 _ rfl, hcc 7 _ rfl, hcc 8 _ rfl⟩
theorem again13 {H : Type} {enc : TypeId × Value → H} {W W' : World} {v : Value} {d : DataW H} {ps : List MemPlace} {t : TypeId} (ht : t ∈ [44, 83, 24])
  (h : DataW.Trod enc Tryz.prog W 0 (fun _ => true) true t v d ps) (hb : Bel W W') (hlt : ∀ x ∈ ps, x.block < W.heap.size) :
  DataW.Trod enc Tryz.prog W' 0 (fun b => decide (b < W.heap.size)) true t v d ps := by
 simp only [List.mem_cons, List.not_mem_nil, or_false] at ht
 rcases ht with rfl | rfl | rfl
 ·exact Below.trod laidOut (by kernel_rfl) (of_decide_eq_true (by kernel_rfl)) h hb hlt
 ·exact Below.trod laidOut (by kernel_rfl) (of_decide_eq_true (by kernel_rfl)) h hb hlt
 ·exact Below.trod laidOut (by kernel_rfl) (of_decide_eq_true (by kernel_rfl)) h hb hlt
theorem open_sis13 {H : Type} {enc : TypeId × Value → H} {W : World} {v : Value} {d : DataW H} {ps : List MemPlace} (h : DataW.Trod enc Tryz.prog W 0 (fun _ => true) true 52 v d ps) (hv : ∃ a len cap, v = .slice a len cap := by exact ⟨_, _, _, rfl⟩) : ∃ s : SI, v = s.val ∧ SI.ok W s := by
 obtain ⟨a, len, cap, rfl⟩ := hv
 obtain ⟨fuel, hf⟩ := h
 have e : (Value.slice a len cap).cells.toList = [Value.slice a len cap] := rfl
 rw [e] at hf
 exact open_si hf

theorem cellsFile13 : Tryz.prog.cellsOf 89 = 2 := by kernel_rfl
theorem open_files13 {H : Type} {enc : TypeId × Value → H} {W : World} {a0 : Option Addr} {len cap : Nat} {d : DataW H} {ps : List MemPlace}
  (h : DataW.Trod enc Tryz.prog W 0 (fun _ => true) true 83 (.slice a0 len cap) d ps) :
  ∃ L : List FB, len = L.length ∧ L.length ≤ maxLen ∧ FlsAt W a0 L := by
 obtain ⟨fuel, hf⟩ := h
 rcases Go.Deep.open_slice Tryz.underlying83 hf with ⟨hcs, _⟩ | ⟨a, len', cap', m, n, D, Pl, hcs, _, hl, hm, hmm, _, hel⟩
 ·simp [Value.cells] at hcs
  obtain ⟨rfl, rfl, rfl⟩ := hcs
  exact ⟨[], rfl, by simp, fun i hi => by simp at hi⟩
 ·simp [Value.cells] at hcs
  obtain ⟨rfl, rfl, rfl⟩ := hcs
  simp only [if_true] at hmm
  have each : ∀ i, i < len → ∃ v : FB, (v.name.size ≤ maxLen ∧ v.data.size ≤ maxLen) ∧ W.cell? (a.add (i * 2)) = some (.string v.name) ∧ W.cell? ((a.add (i * 2)).add 1) = some (.string v.data) := by
   intro i hi
   obtain ⟨cs', hc, ht⟩ := hel i (by omega)
   rw [cellsFile13] at hc
   obtain ⟨_, hcl, hat⟩ := World.cells?_some hc
   obtain ⟨c0, c1, y0, y1, n', rfl, h0, h1⟩ := two_fields13 Tryz.underlying89 (by kernel_rfl) hcl ht
   obtain ⟨s0, e0, _, w0⟩ := DataW.trod_string Tryz.underlying9 h0
   obtain ⟨s1, e1, _, w1⟩ := DataW.trod_string Tryz.underlying9 h1
   simp at e0 e1
   refine ⟨⟨s0, s1⟩, ⟨w0, w1⟩, ?_, ?_⟩
   ·have := hat 0 (by omega)
    rw [show (a.add (i * 2)).add 0 = a.add (i * 2) from rfl] at this
    rw [this, e0]; rfl
   ·rw [hat 1 (by omega), e1]; rfl
  obtain ⟨f, hfv⟩ := @Go.Deep.choose_lt FB ⟨⟨⟨#[]⟩, ⟨#[]⟩⟩⟩ len _ each
  refine ⟨(List.range len).map f, by simp, by simp; omega, ?_⟩
  intro i hi
  have hi' : i < len := by simpa using hi
  obtain ⟨hw, h0, h1⟩ := hfv i hi'
  refine ⟨(a.add (i * 2)).block, (a.add (i * 2)).off, (a.add (i * 2)).spot, rfl, ?_, ?_, ?_, ?_⟩
  ·simpa using h0
  ·simpa [Addr.add] using h1
  ·simpa using hw.1
  ·simpa using hw.2
end Go.Proofs.YtfbiinnenlgkfaaGreatDoor
