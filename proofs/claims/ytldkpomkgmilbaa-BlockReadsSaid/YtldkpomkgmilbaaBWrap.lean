/- Small words for chapter 8's rows: a slice of pairs that came in; four arguments. -/
import Derived.Test.YtldkpomkgmilbaaBPair
import Derived.Test.YtldkpomkgmilbaaWrapP
import Derived.OpenShut
import Derived.ChangeSlices
import Derived.Carry
import Derived.Deep.Slices
import Derived.Deep.Fields
set_option linter.unusedSimpArgs false
set_option linter.unusedVariables false
namespace Go.Proofs.Ytldkpomkgmilbaa
open Go.ChangeShapes Go.WideShapes Go.ChangeAt Go.RowKit Go.Joins Go.Deep

section
variable {H : Type} {enc : TypeId × Value → H} {P : Program} {w : World} {base : Nat} {sp : Nat → Bool} {held : Bool}
/-- A struct of two fields of a cell each, out of its cells. -/
theorem two_fields {t : TypeId} {f0 f1 : Field} {fuel : Nat} {l : List Value} {x : DataW H × List MemPlace} (hs : P.underlying t = some (.struct #[f0, f1])) (hone : oneCellFields P #[f0, f1] = true) (hl : l.length = 2)
    (h : DataW.trod enc P w base sp held fuel t l = some x) :
    ∃ (c0 c1 : Value) (y0 y1 : DataW H × List MemPlace) (n : Nat), l = [c0, c1] ∧ x.1 = .agg [y0.1, y1.1] ∧
      DataW.trod enc P w base sp held n f0.type [c0] = some y0 ∧ DataW.trod enc P w base sp held n f1.type [c1] = some y1 := by
  obtain ⟨ys, n, _, hx, _, hyl, hf⟩ := DataW.trod_struct hs h
  match l, hl with
  | [c0, c1], _ =>
    match ys, hyl with
    | [y0, y1], _ =>
      obtain ⟨o0, k0⟩ := hone_of hone 0 f0 rfl
      obtain ⟨o1, k1⟩ := hone_of hone 1 f1 rfl
      exact ⟨c0, c1, y0, y1, n, rfl, by rw [hx]; rfl, by simpa [o0, k0] using hf 0 f0 rfl, by simpa [o1, k1] using hf 1 f1 rfl⟩
end
theorem cellsP : Try.prog.cellsOf 50 = 2 := by kernel_rfl
theorem laidOut8 : laidOutB Try.prog = true := by kernel_rfl
theorem open_pairs {H : Type} {enc : TypeId × Value → H} {W : World} {a0 : Option Addr} {len cap : Nat} {d : DataW H} {ps : List MemPlace}
    (h : DataW.Trod enc Try.prog W 0 (fun _ => true) true 22 (.slice a0 len cap) d ps) :
    ∃ L : List PB, len = L.length ∧ L.length ≤ maxLen ∧ PairsAt W a0 L ∧ smallP maxLen L := by
  obtain ⟨fuel, hf⟩ := h
  rcases Go.Deep.open_slice Try.underlying22 hf with ⟨hcs, _⟩ | ⟨a, len', cap', m, n, D, Pl, hcs, _, hl, hm, hmm, _, hel⟩
  · simp [Value.cells] at hcs
    obtain ⟨rfl, rfl, rfl⟩ := hcs
    exact ⟨[], rfl, by simp, fun i hi => by simp at hi, fun i hi => by simp at hi⟩
  · simp [Value.cells] at hcs
    obtain ⟨rfl, rfl, rfl⟩ := hcs
    simp only [if_true] at hmm
    have each : ∀ i, i < len → ∃ v : PB, (v.k.size ≤ maxLen ∧ v.v.size ≤ maxLen) ∧ W.cell? (a.add (i * 2)) = some (.string v.k) ∧ W.cell? ((a.add (i * 2)).add 1) = some (.string v.v) := by
      intro i hi
      obtain ⟨cs', hc, ht⟩ := hel i (by omega)
      rw [cellsP] at hc
      obtain ⟨_, hcl, hat⟩ := World.cells?_some hc
      obtain ⟨c0, c1, y0, y1, n', rfl, _, h0, h1⟩ := two_fields Try.underlying50 (by kernel_rfl) hcl ht
      obtain ⟨s0, e0, _, w0⟩ := DataW.trod_string Try.underlying9 h0
      obtain ⟨s1, e1, _, w1⟩ := DataW.trod_string Try.underlying9 h1
      simp at e0 e1
      refine ⟨⟨s0, s1⟩, ⟨w0, w1⟩, ?_, ?_⟩
      · have := hat 0 (by omega)
        rw [show (a.add (i * 2)).add 0 = a.add (i * 2) from rfl] at this
        rw [this, e0]; rfl
      · rw [hat 1 (by omega), e1]; rfl
    obtain ⟨f, hfv⟩ := @Go.Deep.choose_lt PB ⟨⟨⟨#[]⟩, ⟨#[]⟩⟩⟩ len _ each
    refine ⟨(List.range len).map f, by simp, by simp; omega, ?_, ?_⟩
    · intro i hi
      have hi' : i < len := by simpa using hi
      obtain ⟨_, h0, h1⟩ := hfv i hi'
      refine ⟨a, (a.add (i * 2)).block, (a.add (i * 2)).off, (a.add (i * 2)).spot, rfl, rfl, ?_, ?_⟩
      · simpa using h0
      · simpa [Addr.add] using h1
    · intro i hi
      have hi' : i < len := by simpa using hi
      have := (hfv i hi').1
      simpa using this
theorem pairs_again {H : Type} {enc : TypeId × Value → H} {W W' : World} {v : Value} {d : DataW H} {ps : List MemPlace}
    (h : DataW.Trod enc Try.prog W 0 (fun _ => true) true 22 v d ps) (hb : Bel W W') (hlt : ∀ x ∈ ps, x.block < W.heap.size) :
    DataW.Trod enc Try.prog W' 0 (fun b => decide (b < W.heap.size)) true 22 v d ps :=
  Below.trod laidOut8 (by kernel_rfl) (of_decide_eq_true (by kernel_rfl)) h hb hlt
section
variable {H : Type} {enc : TypeId × Value → H} {P : Program} {w : World} {base : Nat} {spare : Nat → Bool} {held : Bool}
theorem trodAll_four {t0 t1 t2 t3 : TypeId} {args : Array Value} {ds : List (DataW H)} {ps : List MemPlace} (h : DataW.TrodAll enc P w base spare held [t0, t1, t2, t3] args.toList ds ps) :
    ∃ v0 v1 v2 v3 d0 d1 d2 d3 p0 p1 p2 p3, args = #[v0, v1, v2, v3] ∧ ds = [d0, d1, d2, d3] ∧ ps = p0 ++ p1 ++ p2 ++ p3 ∧ DataW.Trod enc P w base spare held t0 v0 d0 p0 ∧ DataW.Trod enc P w base spare held t1 v1 d1 p1 ∧
      DataW.Trod enc P w base spare held t2 v2 d2 p2 ∧ DataW.Trod enc P w base spare held t3 v3 d3 p3 := by
  obtain ⟨v0, vs, d0, ds0, p0, q0, hargs, rfl, rfl, hd0, r0⟩ := trodAll_cons h
  obtain ⟨v1, vs1, d1, ds1, p1, q1, rfl, rfl, rfl, hd1, r1⟩ := trodAll_cons r0
  obtain ⟨v2, vs2, d2, ds2, p2, q2, rfl, rfl, rfl, hd2, r2⟩ := trodAll_cons r1
  obtain ⟨v3, vs3, d3, ds3, p3, q3, rfl, rfl, rfl, hd3, r3⟩ := trodAll_cons r2
  obtain ⟨rfl, rfl, rfl⟩ := trodAll_nil r3
  exact ⟨v0, v1, v2, v3, d0, d1, d2, d3, p0, p1, p2, p3, by cases args; simp_all, rfl, by simp, hd0, hd1, hd2, hd3⟩
theorem trodAll_mk4 {t0 t1 t2 t3 : TypeId} {v0 v1 v2 v3 : Value} {d0 d1 d2 d3 : DataW H} {p0 p1 p2 p3 : List MemPlace} (h0 : DataW.Trod enc P w base spare held t0 v0 d0 p0) (h1 : DataW.Trod enc P w base spare held t1 v1 d1 p1)
    (h2 : DataW.Trod enc P w base spare held t2 v2 d2 p2) (h3 : DataW.Trod enc P w base spare held t3 v3 d3 p3) :
    DataW.TrodAll enc P w base spare held [t0, t1, t2, t3] [v0, v1, v2, v3] [d0, d1, d2, d3] (p0 ++ (p1 ++ (p2 ++ p3))) :=
  ⟨p0, _, h0, trodAll_mk3 h1 h2 h3, rfl⟩
end
end Go.Proofs.Ytldkpomkgmilbaa
