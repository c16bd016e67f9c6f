/- TWrap, GWrap, laid together. -/
import Derived.Test.YtmdkpomgckkllaaP7
import Derived.Test.YtmdkpomgckkllaaP19
import Derived.OpenShut
import Derived.ChangeSlices
import Derived.ChangeArms
import Derived.Carry
import Derived.Lib.SmallJoins
import Derived.Deep.Slices
import Derived.Deep.Fields
set_option linter.unusedSimpArgs false
set_option linter.unusedVariables false
/- Small words for chapter 10's rows: an entry and a slice of entries that came in; four arguments. -/
namespace Go.Proofs.Ytmdkpomgckkllaa
open Go.ChangeShapes Go.WideShapes Go.ChangeAt Go.RowKit Go.Joins Go.Deep

section
variable {H : Type} {enc : TypeId × Value → H} {P : Program} {w : World} {base : Nat} {sp : Nat → Bool} {held : Bool}
/-- A struct of four fields of a cell each, out of its cells. -/
theorem four_fields {t : TypeId} {f0 f1 f2 f3 : Field} {fuel : Nat} {l : List Value} {x : DataW H × List MemPlace} (hs : P.underlying t = some (.struct #[f0, f1, f2, f3])) (hone : oneCellFields P #[f0, f1, f2, f3] = true) (hl : l.length = 4)
    (h : DataW.trod enc P w base sp held fuel t l = some x) :
    ∃ (c0 c1 c2 c3 : Value) (y0 y1 y2 y3 : DataW H × List MemPlace) (n : Nat), l = [c0, c1, c2, c3] ∧ 
      DataW.trod enc P w base sp held n f0.type [c0] = some y0 ∧ DataW.trod enc P w base sp held n f1.type [c1] = some y1 ∧ DataW.trod enc P w base sp held n f2.type [c2] = some y2 ∧ DataW.trod enc P w base sp held n f3.type [c3] = some y3 := by
  obtain ⟨ys, n, _, hx, _, hyl, hf⟩ := DataW.trod_struct hs h
  match l, hl with
  | [c0, c1, c2, c3], _ =>
    match ys, hyl with
    | [y0, y1, y2, y3], _ =>
      obtain ⟨o0, k0⟩ := hone_of hone 0 f0 rfl
      obtain ⟨o1, k1⟩ := hone_of hone 1 f1 rfl
      obtain ⟨o2, k2⟩ := hone_of hone 2 f2 rfl
      obtain ⟨o3, k3⟩ := hone_of hone 3 f3 rfl
      exact ⟨c0, c1, c2, c3, y0, y1, y2, y3, n, rfl, by simpa [o0, k0] using hf 0 f0 rfl, by simpa [o1, k1] using hf 1 f1 rfl, by simpa [o2, k2] using hf 2 f2 rfl, by simpa [o3, k3] using hf 3 f3 rfl⟩
end
theorem int_bounds {n : Int} (h : (Lit.int .i64 n).wf = true) : -9223372036854775808 ≤ n ∧ n ≤ 9223372036854775807 := by
  have e1 : IntKind.i64.min = -9223372036854775808 := rfl
  have e2 : IntKind.i64.max = 9223372036854775807 := rfl
  simp [Lit.wf, e1, e2] at h
  exact h
theorem cellsEnt : Try.prog.cellsOf 36 = 4 := by kernel_rfl
theorem laidOut10 : laidOutB Try.prog = true := by kernel_rfl
set_option maxRecDepth 100000 in
theorem open_ents {H : Type} {enc : TypeId × Value → H} {W : World} {a0 : Option Addr} {len cap : Nat} {d : DataW H} {ps : List MemPlace}
    (h : DataW.Trod enc Try.prog W 0 (fun _ => true) true 27 (.slice a0 len cap) d ps) :
    ∃ L : List EB, len = L.length ∧ L.length ≤ maxLen ∧ EntsAt W a0 L ∧ fitsL L := by
  obtain ⟨fuel, hf⟩ := h
  rcases Go.Deep.open_slice Try.underlying27 hf with ⟨hcs, _⟩ | ⟨a, len', cap', m, n, D, Pl, hcs, _, hl, hm, hmm, _, hel⟩
  · simp [Value.cells] at hcs
    obtain ⟨rfl, rfl, rfl⟩ := hcs
    exact ⟨[], rfl, by simp, fun i hi => by simp at hi, fun e he => by simp at he⟩
  · simp [Value.cells] at hcs
    obtain ⟨rfl, rfl, rfl⟩ := hcs
    simp only [if_true] at hmm
    have each : ∀ i, i < len → ∃ v : EB, v.fits ∧ W.cell? (a.add (i * 4)) = some (.string v.k) ∧ W.cell? ((a.add (i * 4)).add 1) = some (.int .i64 v.q) ∧ W.cell? ((a.add (i * 4)).add 2) = some (.bool v.d) ∧ W.cell? ((a.add (i * 4)).add 3) = some (.string v.v) := by
      intro i hi
      obtain ⟨cs', hc, ht⟩ := hel i (by omega)
      rw [cellsEnt] at hc
      obtain ⟨_, hcl, hat⟩ := World.cells?_some hc
      obtain ⟨c0, c1, c2, c3, y0, y1, y2, y3, n', rfl, h0, h1, h2, h3⟩ := four_fields Try.underlying36 (by kernel_rfl) hcl ht
      obtain ⟨s0, e0, _, w0⟩ := DataW.trod_string Try.underlying9 h0
      obtain ⟨q1, e1, _, w1⟩ := DataW.trod_int Try.underlying3 h1
      obtain ⟨b2, e2, _⟩ := DataW.trod_bool Try.underlying4 h2
      obtain ⟨s3, e3, _, w3⟩ := DataW.trod_string Try.underlying9 h3
      simp at e0 e1 e2 e3
      obtain ⟨m1, m2⟩ := int_bounds w1
      refine ⟨⟨s0, q1, b2, s3⟩, ⟨w0, m1, m2, w3⟩, ?_, ?_, ?_, ?_⟩
      · have := hat 0 (by omega)
        rw [show (a.add (i * 4)).add 0 = a.add (i * 4) from rfl] at this
        rw [this, e0]; rfl
      · rw [hat 1 (by omega), e1]; rfl
      · rw [hat 2 (by omega), e2]; rfl
      · rw [hat 3 (by omega), e3]; rfl
    obtain ⟨f, hfv⟩ := @Go.Deep.choose_lt EB ⟨⟨⟨#[]⟩, 0, false, ⟨#[]⟩⟩⟩ len _ each
    refine ⟨(List.range len).map f, by simp, by simp; omega, ?_, ?_⟩
    · intro i hi
      have hi' : i < len := by simpa using hi
      obtain ⟨_, h0, h1, h2, h3⟩ := hfv i hi'
      refine ⟨a, rfl, (a.add (i * 4)).block, (a.add (i * 4)).off, (a.add (i * 4)).spot, rfl, ?_, ?_, ?_, ?_⟩
      · simpa using h0
      · simpa [Addr.add] using h1
      · simpa [Addr.add] using h2
      · simpa [Addr.add] using h3
    · intro e he
      obtain ⟨i, hi, rfl⟩ := List.mem_map.1 he
      exact (hfv i (List.mem_range.1 hi)).1
set_option maxRecDepth 100000 in
theorem ents_again {H : Type} {enc : TypeId × Value → H} {W W' : World} {v : Value} {d : DataW H} {ps : List MemPlace}
    (h : DataW.Trod enc Try.prog W 0 (fun _ => true) true 27 v d ps) (hb : Bel W W') (hlt : ∀ x ∈ ps, x.block < W.heap.size) :
    DataW.Trod enc Try.prog W' 0 (fun b => decide (b < W.heap.size)) true 27 v d ps :=
  Below.trod laidOut10 (by kernel_rfl) (of_decide_eq_true (by kernel_rfl)) h hb hlt
section
variable {H : Type} {enc : TypeId × Value → H} {P : Program} {w : World} {base : Nat} {spare : Nat → Bool} {held : Bool}
theorem trodAll_four {t0 t1 t2 t3 : TypeId} {args : Array Value} {ds : List (DataW H)} {ps : List MemPlace} (h : DataW.TrodAll enc P w base spare held [t0, t1, t2, t3] args.toList ds ps) :
    ∃ v0 v1 v2 v3 d0 d1 d2 d3 p0 p1 p2 p3, args = #[v0, v1, v2, v3] ∧ ds = [d0, d1, d2, d3] ∧ ps = p0 ++ p1 ++ p2 ++ p3 ∧ DataW.Trod enc P w base spare held t0 v0 d0 p0 ∧ DataW.Trod enc P w base spare held t1 v1 d1 p1 ∧
      DataW.Trod enc P w base spare held t2 v2 d2 p2 ∧ DataW.Trod enc P w base spare held t3 v3 d3 p3 := by
  obtain ⟨v0, vs, d0, ds0, p0, q0, hargs, rfl, rfl, hd0, r0⟩ := trodAll_cons h
  obtain ⟨v1, vs1, d1, ds1, p1, q1, rfl, rfl, rfl, hd1, r1⟩ := trodAll_cons r0
  obtain ⟨v2, vs2, d2, ds2, p2, q2, rfl, rfl, rfl, hd2, r2⟩ := trodAll_cons r1
  obtain ⟨v3, vs3, d3, ds3, p3, q3, rfl, rfl, rfl, hd3, r3⟩ := trodAll_cons r2
  obtain ⟨rfl, rfl, rfl⟩ := trodAll_nil r3
  exact ⟨v0, v1, v2, v3, d0, d1, d2, d3, p0, p1, p2, p3, by cases args; simp_all, rfl, by simp, hd0, hd1, hd2, hd3⟩
theorem trodAll_mk4 {t0 t1 t2 t3 : TypeId} {v0 v1 v2 v3 : Value} {d0 d1 d2 d3 : DataW H} {p0 p1 p2 p3 : List MemPlace} (h0 : DataW.Trod enc P w base spare held t0 v0 d0 p0) (h1 : DataW.Trod enc P w base spare held t1 v1 d1 p1)
    (h2 : DataW.Trod enc P w base spare held t2 v2 d2 p2) (h3 : DataW.Trod enc P w base spare held t3 v3 d3 p3) :
    DataW.TrodAll enc P w base spare held [t0, t1, t2, t3] [v0, v1, v2, v3] [d0, d1, d2, d3] (p0 ++ (p1 ++ (p2 ++ p3))) :=
  ⟨p0, _, h0, trodAll_mk3 h1 h2 h3, rfl⟩
end
end Go.Proofs.Ytmdkpomgckkllaa
/- Rows of entries, and numbers, that came in. -/
namespace Go.Proofs.Ytmdkpomgckkllaa
open Go.ChangeShapes Go.WideShapes Go.ChangeAt Go.RowKit Go.Joins Go.Deep

theorem cellsRow12 : Try.prog.cellsOf 27 = 1 := by kernel_rfl
theorem cellsInt12 : Try.prog.cellsOf 3 = 1 := by kernel_rfl
theorem open_row12 {H : Type} {enc : TypeId × Value → H} {W : World} {fuel : Nat} {c : Value} {y : DataW H × List MemPlace}
    (hf : DataW.trod enc Try.prog W 0 (fun _ => true) true fuel 27 [c] = some y) : ∃ (q : Option Addr) (cap : Nat) (L : List EB), c = .slice q L.length cap ∧ L.length ≤ maxLen ∧ EntsAt W q L ∧ fitsL L ∧ L.length ≤ cap := by
  have hform : ∃ q n cap, c = .slice q n cap ∧ n ≤ cap := by
    rcases Go.Deep.open_slice Try.underlying27 hf with ⟨hcs, _⟩ | ⟨a, len', cap', m, n, D, Pl, hcs, _, hl, hm, hmm, _, hel⟩
    · simp at hcs
      exact ⟨_, _, _, hcs, Nat.le_refl _⟩
    · simp at hcs
      exact ⟨_, _, _, hcs, hl⟩
  obtain ⟨q, n, cap, rfl, hnc⟩ := hform
  obtain ⟨d, ps⟩ := y
  obtain ⟨L, rfl, h1, h2, h3⟩ := open_ents (a0 := q) (len := n) (cap := cap) (d := d) (ps := ps) ⟨fuel, hf⟩
  exact ⟨q, cap, L, rfl, h1, h2, h3, hnc⟩
theorem open_ents12 {H : Type} {enc : TypeId × Value → H} {W : World} {a0 : Option Addr} {len cap : Nat} {d : DataW H} {ps : List MemPlace}
    (h : DataW.Trod enc Try.prog W 0 (fun _ => true) true 27 (.slice a0 len cap) d ps) : ∃ L : List EB, len = L.length ∧ L.length ≤ maxLen ∧ EntsAt W a0 L ∧ fitsL L ∧ L.length ≤ cap := by
  obtain ⟨fuel, hf⟩ := h
  obtain ⟨q, cap', L, hc, h1, h2, h3, h4⟩ := open_row12 (c := .slice a0 len cap) (by simpa [Value.cells] using hf)
  cases hc
  exact ⟨L, rfl, h1, h2, h3, h4⟩
theorem open_rows12 {H : Type} {enc : TypeId × Value → H} {W : World} {a0 : Option Addr} {len cap : Nat} {d : DataW H} {ps : List MemPlace}
    (h : DataW.Trod enc Try.prog W 0 (fun _ => true) true 22 (.slice a0 len cap) d ps) :
    ∃ R : List (List EB), len = R.length ∧ R.length ≤ maxLen ∧ R.length ≤ cap ∧ RowsAt W a0 R ∧ ∀ L ∈ R, L.length ≤ maxLen ∧ fitsL L := by
  obtain ⟨fuel, hf⟩ := h
  rcases Go.Deep.open_slice Try.underlying22 hf with ⟨hcs, _⟩ | ⟨a, len', cap', m, n, D, Pl, hcs, _, hl, hm, hmm, _, hel⟩
  · simp [Value.cells] at hcs
    obtain ⟨rfl, rfl, rfl⟩ := hcs
    exact ⟨[], rfl, by simp, by simp, fun i hi => by simp at hi, fun L hL => by cases hL⟩
  · simp [Value.cells] at hcs
    obtain ⟨rfl, rfl, rfl⟩ := hcs
    simp only [if_true] at hmm
    have each : ∀ i, i < len → ∃ L : List EB, (∃ q c, W.cell? (a.add i) = some (.slice q L.length c) ∧ EntsAt W q L ∧ L.length ≤ c) ∧ L.length ≤ maxLen ∧ fitsL L := by
      intro i hi
      obtain ⟨cs', hc, ht⟩ := hel i (by omega)
      rw [cellsRow12, Nat.mul_one] at hc
      obtain ⟨_, hcl, hat⟩ := World.cells?_some hc
      match cs', hcl with
      | [c], _ =>
        obtain ⟨q, cp, L, rfl, h1, h2, h3, h4⟩ := open_row12 ht
        have := hat 0 (by omega)
        exact ⟨L, ⟨q, cp, by rw [show (a.add i).add 0 = a.add i from rfl] at this; rw [this]; rfl, h2, h4⟩, h1, h3⟩
    obtain ⟨f, hfv⟩ := @Go.Deep.choose_lt (List EB) ⟨[]⟩ len _ each
    refine ⟨(List.range len).map f, by simp, by simp; omega, by simp; omega, ?_, ?_⟩
    · intro i hi
      have hi' : i < len := by simpa using hi
      obtain ⟨⟨q, c, h1, h2, h3⟩, -⟩ := hfv i hi'
      exact ⟨a, q, c, rfl, by simpa using h1, by simpa using h2, by simpa using h3⟩
    · intro L hL
      obtain ⟨i, hi, rfl⟩ := List.mem_map.1 hL
      exact (hfv i (List.mem_range.1 hi)).2
theorem open_ints12 {H : Type} {enc : TypeId × Value → H} {W : World} {a0 : Option Addr} {len cap : Nat} {d : DataW H} {ps : List MemPlace}
    (h : DataW.Trod enc Try.prog W 0 (fun _ => true) true 23 (.slice a0 len cap) d ps) :
    ∃ S : List Int, len = S.length ∧ S.length ≤ maxLen ∧ IntsAt12 W a0 S ∧ ∀ s ∈ S, -9223372036854775808 ≤ s ∧ s ≤ 9223372036854775807 := by
  obtain ⟨fuel, hf⟩ := h
  rcases Go.Deep.open_slice Try.underlying23 hf with ⟨hcs, _⟩ | ⟨a, len', cap', m, n, D, Pl, hcs, _, hl, hm, hmm, _, hel⟩
  · simp [Value.cells] at hcs
    obtain ⟨rfl, rfl, rfl⟩ := hcs
    exact ⟨[], rfl, by simp, fun i hi => by simp at hi, fun L hL => by cases hL⟩
  · simp [Value.cells] at hcs
    obtain ⟨rfl, rfl, rfl⟩ := hcs
    simp only [if_true] at hmm
    have each : ∀ i, i < len → ∃ s : Int, W.cell? (a.add i) = some (.int .i64 s) ∧ -9223372036854775808 ≤ s ∧ s ≤ 9223372036854775807 := by
      intro i hi
      obtain ⟨cs', hc, ht⟩ := hel i (by omega)
      rw [cellsInt12, Nat.mul_one] at hc
      obtain ⟨_, hcl, hat⟩ := World.cells?_some hc
      match cs', hcl with
      | [c], _ =>
        obtain ⟨s, hs, _, hw⟩ := DataW.trod_int Try.underlying3 ht
        simp at hs
        subst hs
        have := hat 0 (by omega)
        exact ⟨s, by rw [show (a.add i).add 0 = a.add i from rfl] at this; rw [this]; rfl, int_bounds hw⟩
    obtain ⟨f, hfv⟩ := @Go.Deep.choose_lt Int ⟨0⟩ len _ each
    refine ⟨(List.range len).map f, by simp, by simp; omega, ?_, ?_⟩
    · intro i hi
      have hi' : i < len := by simpa using hi
      exact ⟨a, rfl, by simpa using (hfv i hi').1⟩
    · intro s hs
      obtain ⟨i, hi, rfl⟩ := List.mem_map.1 hs
      exact (hfv i (List.mem_range.1 hi)).2
set_option maxRecDepth 100000 in
theorem rows_again12 {H : Type} {enc : TypeId × Value → H} {W W' : World} {v : Value} {d : DataW H} {ps : List MemPlace}
    (h : DataW.Trod enc Try.prog W 0 (fun _ => true) true 22 v d ps) (hb : Bel W W') (hlt : ∀ x ∈ ps, x.block < W.heap.size) :
    DataW.Trod enc Try.prog W' 0 (fun b => decide (b < W.heap.size)) true 22 v d ps :=
  Below.trod laidOut10 (by kernel_rfl) (of_decide_eq_true (by kernel_rfl)) h hb hlt
set_option maxRecDepth 100000 in
theorem ints_again12 {H : Type} {enc : TypeId × Value → H} {W W' : World} {v : Value} {d : DataW H} {ps : List MemPlace}
    (h : DataW.Trod enc Try.prog W 0 (fun _ => true) true 23 v d ps) (hb : Bel W W') (hlt : ∀ x ∈ ps, x.block < W.heap.size) :
    DataW.Trod enc Try.prog W' 0 (fun b => decide (b < W.heap.size)) true 23 v d ps :=
  Below.trod laidOut10 (by kernel_rfl) (of_decide_eq_true (by kernel_rfl)) h hb hlt
end Go.Proofs.Ytmdkpomgckkllaa
