/- JWrap, laid together. -/
import Derived.Test.YtedopiojidaeiaaGreatDoorA37
import Derived.Test.YtedopiojidaeiaaGreatDoorCards
import Derived.Test.YtedopiojidaeiaaGreatDoorTie
import Derived.ProofKit
import Derived.ChangeSlices
import Derived.Deep.Strs
import Derived.Deep.Slices
import Derived.OpenShut
import Derived.LaidMore
import Derived.Stop.Joined
import Derived.Stop.LaidErr
import Derived.SevenTiedAt
import Derived.Lib.SmallJoins
import Derived.Lib.LaidTab
/- From the row's list of variables to Std; a world for the witness; slices of texts that came in; five arguments. -/
set_option linter.unusedSimpArgs false
set_option linter.unusedVariables false
namespace Go.Proofs.YtedopiojidaeiaaGreatDoor
open Go.ChangeShapes Go.WideShapes Go.ChangeAt Go.RowKit Go.Joins Go.Deep

theorem own : ownKnob Tryz.prog.godebug = none := by kernel_rfl
theorem powGType : (Tryz.prog.globals[2]?).map (·.type) = some 208 := by kernel_rfl
theorem cellsPow : Tryz.prog.cellsOf 208 = 20 := by kernel_rfl
theorem cellsU64 : Tryz.prog.cellsOf 80 = 1 := by kernel_rfl
theorem cellsStr : Tryz.prog.cellsOf 9 = 1 := by kernel_rfl
theorem cellsErr : Tryz.prog.cellsOf 214 = 1 := by kernel_rfl
theorem synG : (Tryz.prog.globals[0]?).map (·.type) = some 144 := by kernel_rfl
theorem rngG : (Tryz.prog.globals[1]?).map (·.type) = some 144 := by kernel_rfl
theorem rowErr (u : TypeId) (h : Tryz.prog.typeName? 3 u = Tryz.prog.typeName? 3 212) : u = 212 :=
  typeName_ptr_named (nm := "errors.errorString") (by kernel_rfl) (by kernel_rfl) (by decide) u (h.trans (by kernel_rfl))

theorem lt_of_cell {w : World} {g o : Nat} {v : Value} (h : w.cell? ⟨g, o, none⟩ = some v) : g < w.heap.size := by
  rcases Nat.lt_or_ge g w.heap.size with h1 | h1
  · exact h1
  · exfalso
    unfold World.cell? at h
    simp [Array.getElem?_eq_none h1] at h

/-- WHAT THE ROW's LIST GIVES. -/
theorem std_of_laid {w : World} (h0 : laidMetH Tryz.prog Rows.journalBatchesRow.laid w) : Std w := by
  have h : laidMet Tryz.prog Rows.journalBatchesRow.laid w := by
    rw [MakeChecks.laidMetH_plain _ _ _ (by kernel_rfl)] at h0
    exact h0
  have hp := h.tail.tail
  have hr := hp.tail
  have hs := hr.tail
  have htab : Lib.TabIs Tryz.prog w powName .u64 Lib.pow10Tab := tab_named (Lib.tabIs_of_head (by kernel_rfl) powGType Tryz.underlying208 Tryz.underlying80 cellsU64 cellsPow hp) (by kernel_rfl)
  obtain ⟨a0, s0, hv0, -, -, -⟩ := laid_sentinel hr (by kernel_rfl) rngG Tryz.underlying144 (fun u h => rowErr u (h.trans (by kernel_rfl))) Tryz.underlying212 Tryz.underlying214 rfl rfl Tryz.underlying9 cellsErr cellsStr
  obtain ⟨a1, s1, hv1, -, -, -⟩ := laid_sentinel hs (by kernel_rfl) synG Tryz.underlying144 (fun u h => rowErr u (h.trans (by kernel_rfl))) Tryz.underlying212 Tryz.underlying214 rfl rfl Tryz.underlying9 cellsErr cellsStr
  have c0 : w.cell? ⟨1, 0, none⟩ = some (.iface 212 (.pointer (some a0))) := by
    have := World.var?_cell (g := 1) (by kernel_rfl) hv0 0
    simpa using this
  have c1 : w.cell? ⟨0, 0, none⟩ = some (.iface 212 (.pointer (some a1))) := by
    have := World.var?_cell (g := 0) (by kernel_rfl) hv1 0
    simpa using this
  have cp := htab.cell powG 0 (by decide)
  exact ⟨htab, ⟨_, _, c1⟩, ⟨_, _, c0⟩, lt_of_cell cp, lt_of_cell c1, lt_of_cell c0⟩

/-- The door's own heap meets the condition. -/
theorem door_met (os : Os) (args : Array Value) : laidMetH Tryz.prog Rows.journalBatchesRow.laid ((World.doorLaid Tryz.prog 400 os).forCall (fun _ _ => 0) ⟨#[], args, []⟩).memory :=
  laidMetH_of_parts3 (fuel := 8) (laidMet_of_run' 8 (by kernel_rfl) (by kernel_rfl)) (by kernel_rfl) (by kernel_rfl)
theorem range_map {α : Type} (f g : Nat → α) (n : Nat) (h : ∀ i, i < n → f i = g i) : (List.range n).map f = (List.range n).map g :=
  List.map_congr_left fun i hi => h i (List.mem_range.1 hi)
/-- A slice of texts that came in: what it holds, and that it reads so again behind a call that turns nothing. -/
theorem open_list {H : Type} {enc : TypeId × Value → H} {W : World} {a0 : Option Addr} {len cap : Nat} {d : DataW H} {ps : List MemPlace}
    (h : DataW.Trod enc Tryz.prog W 0 (fun _ => true) true 22 (.slice a0 len cap) d ps) :
    ∃ L : List (List UInt8), len = L.length ∧ L.length ≤ maxLen ∧ StrsAt W a0 L ∧ (∀ t ∈ L, t.length ≤ maxLen) ∧
      ∀ W', Bel W W' → ∃ qs, DataW.Trod enc Tryz.prog W' 0 (fun b => decide (b < W.heap.size)) true 22 (.slice a0 len cap) d qs := by
  obtain ⟨fuel, hf⟩ := h
  rcases open_strs Tryz.underlying22 Tryz.underlying9 cellsStr hf with ⟨hcs, hx⟩ | ⟨a, len', cap', m, Sx, hcs, _, hl, hm, hmm, hx, hcell⟩
  · simp [Value.cells] at hcs
    obtain ⟨rfl, rfl, rfl⟩ := hcs
    simp only [Prod.mk.injEq] at hx
    obtain ⟨rfl, rfl⟩ := hx
    exact ⟨[], rfl, by simp, (fun i hi => by simp at hi), (fun t ht => by cases ht), fun W' _ => ⟨_, shut_slice_nil Tryz.underlying22⟩⟩
  · simp [Value.cells] at hcs
    obtain ⟨rfl, rfl, rfl⟩ := hcs
    simp only [Prod.mk.injEq] at hx
    obtain ⟨rfl, rfl⟩ := hx
    simp only [if_true] at hmm
    subst hmm
    refine ⟨(List.range len).map (fun i => (Sx i).data.toList), by simp, by simp; omega, ?_, ?_, ?_⟩
    · intro i hi
      have hi' : i < len := by simpa using hi
      refine ⟨a, rfl, ?_⟩
      rw [(hcell i (by omega)).1]
      simp
    · intro t ht
      rw [List.mem_map] at ht
      obtain ⟨i, hi, rfl⟩ := ht
      exact (hcell i (by have := List.mem_range.1 hi; omega)).2
    · intro W' hb
      have cells : ∀ i, i < m → ∃ cs n, W'.cells? 0 (a.add (i * Tryz.prog.cellsOf 9)) (Tryz.prog.cellsOf 9) = some cs ∧
          DataW.trod enc Tryz.prog W' 0 (fun b => decide (b < W.heap.size)) true n 9 cs = some (.lit (.string (Sx i).data.toList), []) := by
        intro i hi
        obtain ⟨h1, h2⟩ := hcell i hi
        have h3 : W'.cell? (a.add i) = some (.string (Sx i)) := (Below.cell hb (block_lt_of_cell h1)).trans h1
        refine ⟨[.string (Sx i)], 1, ?_, by simp [DataW.trod, Tryz.underlying9, h2]⟩
        rw [cellsStr, Nat.mul_one]
        exact cells?_one (Nat.zero_le _) h3
      by_cases h0 : a.block < W.heap.size
      · obtain ⟨n, hn⟩ := shut_slice_whole_cells (enc := enc) (w := W') (held := true) (base := 0) (spare := fun b => decide (b < W.heap.size)) (a := a) (len := len) (cap := m) Tryz.underlying22 (Nat.zero_le _) hl hm (by simpa using h0)
          (fun i => .lit (.string (Sx i).data.toList)) (fun _ => []) cells
        exact ⟨_, n, hn⟩
      · have hm0 : m = 0 := by
          rcases Nat.eq_zero_or_pos m with h | h
          · exact h
          · have := block_lt_of_cell (hcell 0 h).1
            rw [add_block] at this
            exact absurd this h0
        subst hm0
        obtain rfl : len = 0 := by omega
        obtain ⟨n, hn⟩ := shut_slice_cells (enc := enc) (w := W') (held := true) (base := 0) (spare := fun b => decide (b < W.heap.size)) (a := a) (len := 0) (cap := 0) Tryz.underlying22 (Nat.zero_le _) hl hm (by simpa using h0)
          (fun i => .lit (.string (Sx i).data.toList)) (fun _ => []) (fun i hi => by omega)
        exact ⟨_, n, hn⟩

section
variable {H : Type} {enc : TypeId × Value → H} {P : Program} {w : World} {base : Nat} {spare : Nat → Bool} {held : Bool}
theorem trodAll_five {t0 t1 t2 t3 t4 : TypeId} {args : Array Value} {ds : List (DataW H)} {ps : List MemPlace} (h : DataW.TrodAll enc P w base spare held [t0, t1, t2, t3, t4] args.toList ds ps) :
    ∃ v0 v1 v2 v3 v4 d0 d1 d2 d3 d4 p0 p1 p2 p3 p4, args = #[v0, v1, v2, v3, v4] ∧ ds = [d0, d1, d2, d3, d4] ∧ ps = p0 ++ p1 ++ p2 ++ p3 ++ p4 ∧ DataW.Trod enc P w base spare held t0 v0 d0 p0 ∧ DataW.Trod enc P w base spare held t1 v1 d1 p1 ∧
      DataW.Trod enc P w base spare held t2 v2 d2 p2 ∧ DataW.Trod enc P w base spare held t3 v3 d3 p3 ∧ DataW.Trod enc P w base spare held t4 v4 d4 p4 := by
  obtain ⟨v0, vs, d0, ds0, p0, q0, hargs, rfl, rfl, hd0, r0⟩ := trodAll_cons h
  obtain ⟨v1, vs1, d1, ds1, p1, q1, rfl, rfl, rfl, hd1, r1⟩ := trodAll_cons r0
  obtain ⟨v2, vs2, d2, ds2, p2, q2, rfl, rfl, rfl, hd2, r2⟩ := trodAll_cons r1
  obtain ⟨v3, vs3, d3, ds3, p3, q3, rfl, rfl, rfl, hd3, r3⟩ := trodAll_cons r2
  obtain ⟨v4, vs4, d4, ds4, p4, q4, rfl, rfl, rfl, hd4, r4⟩ := trodAll_cons r3
  obtain ⟨rfl, rfl, rfl⟩ := trodAll_nil r4
  exact ⟨v0, v1, v2, v3, v4, d0, d1, d2, d3, d4, p0, p1, p2, p3, p4, by cases args; simp_all, rfl, by simp, hd0, hd1, hd2, hd3, hd4⟩
theorem trodAll_mk5 {t0 t1 t2 t3 t4 : TypeId} {v0 v1 v2 v3 v4 : Value} {d0 d1 d2 d3 d4 : DataW H} {p0 p1 p2 p3 p4 : List MemPlace} (h0 : DataW.Trod enc P w base spare held t0 v0 d0 p0) (h1 : DataW.Trod enc P w base spare held t1 v1 d1 p1)
    (h2 : DataW.Trod enc P w base spare held t2 v2 d2 p2) (h3 : DataW.Trod enc P w base spare held t3 v3 d3 p3) (h4 : DataW.Trod enc P w base spare held t4 v4 d4 p4) :
    DataW.TrodAll enc P w base spare held [t0, t1, t2, t3, t4] [v0, v1, v2, v3, v4] [d0, d1, d2, d3, d4] (p0 ++ (p1 ++ (p2 ++ (p3 ++ p4)))) :=
  ⟨p0, _, h0, ⟨p1, _, h1, trodAll_mk3 h2 h3 h4, rfl⟩, rfl⟩
end
end Go.Proofs.YtedopiojidaeiaaGreatDoor
