/- A slice of acts that came in: each act's numbers, texts and slices of ints; it reads so again behind a call that turns nothing. -/
import Derived.Test.YtedopiojidaeiaaFoot
import Derived.ProofKit
import Derived.OpenShut
import Derived.ChangeSlices
import Derived.Carry
import Derived.Lib.SmallJoins
import Derived.Deep.Slices
import Derived.Deep.Fields
set_option linter.unusedSimpArgs false
set_option linter.unusedVariables false
namespace Go.Proofs.Ytedopiojidaeiaa
open Go.ChangeShapes Go.WideShapes Go.ChangeAt Go.RowKit Go.Joins Go.Deep

theorem cellsInt : Try.prog.cellsOf 3 = 1 := by kernel_rfl
theorem cellsAct : Try.prog.cellsOf 39 = 7 := by kernel_rfl
theorem laidOut : laidOutB Try.prog = true := by kernel_rfl
theorem wf_bounds {n : Int} (h : (Lit.int .i64 n).wf = true) : -9223372036854775808 ≤ n ∧ n ≤ 9223372036854775807 := by
  have e1 : IntKind.i64.min = -9223372036854775808 := rfl
  have e2 : IntKind.i64.max = 9223372036854775807 := rfl
  simp [Lit.wf, e1, e2] at h
  exact h
theorem add_block (a : Addr) (i : Nat) : (a.add i).block = a.block := by cases i <;> simp [Addr.add]
def in64 (n : Int) : Prop := -9223372036854775808 ≤ n ∧ n ≤ 9223372036854775807
/-- The slice at p holds L. -/
def IntsAt (w : World) (p : Option Addr) (L : List Int) : Prop := ∀ i (h : i < L.length), ∃ a, p = some a ∧ w.cell? (a.add i) = some (.int .i64 L[i])
theorem IntsAt.bel {w x : World} {p : Option Addr} {L : List Int} (h : IntsAt w p L) (hb : Bel w x) : IntsAt x p L := by
  intro i hi
  obtain ⟨a, ha, hc⟩ := h i hi
  exact ⟨a, ha, (Below.cell hb (block_lt_of_cell hc)).trans hc⟩
/-- A slice of ints as it came in. -/
structure SI where
  p : Option Addr
  cap : Nat
  L : List Int
def SI.val (s : SI) : Value := .slice s.p s.L.length s.cap
def SI.ok (w : World) (s : SI) : Prop := IntsAt w s.p s.L ∧ s.L.length ≤ maxLen ∧ ∀ n ∈ s.L, in64 n
theorem SI.ok.bel {w x : World} {s : SI} (h : SI.ok w s) (hb : Bel w x) : SI.ok x s := ⟨h.1.bel hb, h.2⟩
theorem open_si {H : Type} {enc : TypeId × Value → H} {W : World} {fuel : Nat} {c : Value} {y : DataW H × List MemPlace}
    (hf : DataW.trod enc Try.prog W 0 (fun _ => true) true fuel 37 [c] = some y) : ∃ s : SI, c = s.val ∧ SI.ok W s := by
  rcases open_ints Try.underlying37 Try.underlying3 cellsInt hf with ⟨hcs, hx⟩ | ⟨a, len', cap', zs, hcs, _, hl, hm, hz, hx, hcell, hwz⟩
  · simp at hcs
    subst hcs
    exact ⟨⟨none, 0, []⟩, rfl, fun i hi => by simp at hi, by simp, fun n hn => by simp at hn⟩
  · simp at hcs
    subst hcs
    simp only [if_true] at hz
    have hlen : (zs.take len').length = len' := by rw [List.length_take]; omega
    refine ⟨⟨some a, cap', zs.take len'⟩, by rw [SI.val, hlen], ?_, by show (zs.take len').length ≤ _; omega, ?_⟩
    · intro i hi
      have hi' : i < len' := by rw [← hlen]; exact hi
      refine ⟨a, rfl, ?_⟩
      rw [hcell i (by omega)]
      simp [List.getD, show i < zs.length by omega]
    · intro n hn
      exact wf_bounds (hwz n (List.mem_of_mem_take hn))
/-- An act as it came in. -/
structure AV where
  op : Int
  n : Int
  name : ByteArray
  to : ByteArray
  data : ByteArray
  left : SI
  spoil : SI
structure AV.ok (w : World) (x : AV) : Prop where
  op : in64 x.op
  n : in64 x.n
  name : x.name.size ≤ maxLen
  to : x.to.size ≤ maxLen
  data : x.data.size ≤ maxLen
  left : SI.ok w x.left
  spoil : SI.ok w x.spoil
def AV.cells (x : AV) : List Value := [.int .i64 x.op, .int .i64 x.n, .string x.name, .string x.to, .string x.data, x.left.val, x.spoil.val]
/-- The slice at p holds the acts L. -/
def ActsAt (w : World) (p : Option Addr) (L : List AV) : Prop := ∀ i (h : i < L.length), ∃ B O sp, p.map (fun a => a.add (i * 7)) = some ⟨B, O, sp⟩ ∧
  (∀ j u, L[i].cells[j]? = some u → w.cell? ((⟨B, O, sp⟩ : Addr).add j) = some u) ∧ AV.ok w L[i]
theorem ActsAt.bel {w x : World} {p : Option Addr} {L : List AV} (h : ActsAt w p L) (hb : Bel w x) : ActsAt x p L := by
  intro i hi
  obtain ⟨B, O, sp, hp, hc, ho⟩ := h i hi
  exact ⟨B, O, sp, hp, fun j u hj => (Below.cell hb (block_lt_of_cell (hc j u hj))).trans (hc j u hj), ho.op, ho.n, ho.name, ho.to, ho.data, ho.left.bel hb, ho.spoil.bel hb⟩

section
variable {H : Type} {enc : TypeId × Value → H} {P : Program} {w : World} {base : Nat} {sp : Nat → Bool} {held : Bool}
/-- A struct of seven fields of a cell each, out of its cells. -/
theorem seven_fields {t : TypeId} {f0 f1 f2 f3 f4 f5 f6 : Field} {fuel : Nat} {l : List Value} {x : DataW H × List MemPlace} (hs : P.underlying t = some (.struct #[f0, f1, f2, f3, f4, f5, f6])) (hone : oneCellFields P #[f0, f1, f2, f3, f4, f5, f6] = true) (hl : l.length = 7)
    (h : DataW.trod enc P w base sp held fuel t l = some x) :
    ∃ (c0 c1 c2 c3 c4 c5 c6 : Value) (y0 y1 y2 y3 y4 y5 y6 : DataW H × List MemPlace) (n : Nat), l = [c0, c1, c2, c3, c4, c5, c6] ∧
      DataW.trod enc P w base sp held n f0.type [c0] = some y0 ∧ DataW.trod enc P w base sp held n f1.type [c1] = some y1 ∧ DataW.trod enc P w base sp held n f2.type [c2] = some y2 ∧ DataW.trod enc P w base sp held n f3.type [c3] = some y3 ∧
      DataW.trod enc P w base sp held n f4.type [c4] = some y4 ∧ DataW.trod enc P w base sp held n f5.type [c5] = some y5 ∧ DataW.trod enc P w base sp held n f6.type [c6] = some y6 := by
  obtain ⟨ys, n, _, hx, _, hyl, hf⟩ := DataW.trod_struct hs h
  match l, hl with
  | [c0, c1, c2, c3, c4, c5, c6], _ =>
    match ys, hyl with
    | [y0, y1, y2, y3, y4, y5, y6], _ =>
      obtain ⟨o0, k0⟩ := hone_of hone 0 f0 rfl
      obtain ⟨o1, k1⟩ := hone_of hone 1 f1 rfl
      obtain ⟨o2, k2⟩ := hone_of hone 2 f2 rfl
      obtain ⟨o3, k3⟩ := hone_of hone 3 f3 rfl
      obtain ⟨o4, k4⟩ := hone_of hone 4 f4 rfl
      obtain ⟨o5, k5⟩ := hone_of hone 5 f5 rfl
      obtain ⟨o6, k6⟩ := hone_of hone 6 f6 rfl
      exact ⟨c0, c1, c2, c3, c4, c5, c6, y0, y1, y2, y3, y4, y5, y6, n, rfl, by simpa [o0, k0] using hf 0 f0 rfl, by simpa [o1, k1] using hf 1 f1 rfl, by simpa [o2, k2] using hf 2 f2 rfl,
        by simpa [o3, k3] using hf 3 f3 rfl, by simpa [o4, k4] using hf 4 f4 rfl, by simpa [o5, k5] using hf 5 f5 rfl, by simpa [o6, k6] using hf 6 f6 rfl⟩
end

theorem open_acts {H : Type} {enc : TypeId × Value → H} {W : World} {a0 : Option Addr} {len cap : Nat} {d : DataW H} {ps : List MemPlace}
    (h : DataW.Trod enc Try.prog W 0 (fun _ => true) true 22 (.slice a0 len cap) d ps) :
    ∃ L : List AV, len = L.length ∧ L.length ≤ maxLen ∧ ActsAt W a0 L := by
  obtain ⟨fuel, hf⟩ := h
  rcases Go.Deep.open_slice Try.underlying22 hf with ⟨hcs, _⟩ | ⟨a, len', cap', m, n, D, Pl, hcs, _, hl, hm, hmm, _, hel⟩
  · simp [Value.cells] at hcs
    obtain ⟨rfl, rfl, rfl⟩ := hcs
    exact ⟨[], rfl, by simp, fun i hi => by simp at hi⟩
  · simp [Value.cells] at hcs
    obtain ⟨rfl, rfl, rfl⟩ := hcs
    simp only [if_true] at hmm
    have each : ∀ i, i < len → ∃ x : AV, (∀ j u, x.cells[j]? = some u → W.cell? ((a.add (i * 7)).add j) = some u) ∧ AV.ok W x := by
      intro i hi
      obtain ⟨cs', hc, ht⟩ := hel i (by omega)
      rw [cellsAct] at hc
      obtain ⟨_, hcl, hat⟩ := World.cells?_some hc
      obtain ⟨c0, c1, c2, c3, c4, c5, c6, y0, y1, y2, y3, y4, y5, y6, n', rfl, h0, h1, h2, h3, h4, h5, h6⟩ := seven_fields Try.underlying39 (by kernel_rfl) hcl ht
      obtain ⟨z0, e0, _, w0⟩ := DataW.trod_int Try.underlying3 h0
      obtain ⟨z1, e1, _, w1⟩ := DataW.trod_int Try.underlying3 h1
      obtain ⟨s2, e2, _, w2⟩ := DataW.trod_string Try.underlying9 h2
      obtain ⟨s3, e3, _, w3⟩ := DataW.trod_string Try.underlying9 h3
      obtain ⟨s4, e4, _, w4⟩ := DataW.trod_string Try.underlying9 h4
      obtain ⟨s5, rfl, w5⟩ := open_si h5
      obtain ⟨s6, rfl, w6⟩ := open_si h6
      simp at e0 e1 e2 e3 e4
      subst e0 e1 e2 e3 e4
      refine ⟨⟨z0, z1, s2, s3, s4, s5, s6⟩, fun j u hj => ?_, wf_bounds w0, wf_bounds w1, w2, w3, w4, w5, w6⟩
      have hj7 : j < 7 := by
        rcases Nat.lt_or_ge j 7 with h | h
        · exact h
        · rw [List.getElem?_eq_none (by exact h)] at hj; cases hj
      rw [hat j hj7]
      exact hj
    obtain ⟨f, hfv⟩ := @Go.Deep.choose_lt AV ⟨⟨0, 0, ⟨#[]⟩, ⟨#[]⟩, ⟨#[]⟩, ⟨none, 0, []⟩, ⟨none, 0, []⟩⟩⟩ len _ each
    refine ⟨(List.range len).map f, by simp, by simp; omega, ?_⟩
    intro i hi
    have hi' : i < len := by simpa using hi
    obtain ⟨hc, ho⟩ := hfv i hi'
    refine ⟨(a.add (i * 7)).block, (a.add (i * 7)).off, (a.add (i * 7)).spot, rfl, fun j u hj => ?_, by simpa using ho⟩
    have hj' : (f i).cells[j]? = some u := by simpa using hj
    exact hc j u hj'
theorem acts_again {H : Type} {enc : TypeId × Value → H} {W W' : World} {v : Value} {d : DataW H} {ps : List MemPlace}
    (h : DataW.Trod enc Try.prog W 0 (fun _ => true) true 22 v d ps) (hb : Bel W W') (hlt : ∀ x ∈ ps, x.block < W.heap.size) :
    DataW.Trod enc Try.prog W' 0 (fun b => decide (b < W.heap.size)) true 22 v d ps :=
  Below.trod laidOut (by kernel_rfl) (of_decide_eq_true (by kernel_rfl)) h hb hlt
theorem ints_again {H : Type} {enc : TypeId × Value → H} {W W' : World} {v : Value} {d : DataW H} {ps : List MemPlace}
    (h : DataW.Trod enc Try.prog W 0 (fun _ => true) true 37 v d ps) (hb : Bel W W') (hlt : ∀ x ∈ ps, x.block < W.heap.size) :
    DataW.Trod enc Try.prog W' 0 (fun b => decide (b < W.heap.size)) true 37 v d ps :=
  Below.trod laidOut (by kernel_rfl) (of_decide_eq_true (by kernel_rfl)) h hb hlt
end Go.Proofs.Ytedopiojidaeiaa
