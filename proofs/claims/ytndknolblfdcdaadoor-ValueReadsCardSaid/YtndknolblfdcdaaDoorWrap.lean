/- From the row's list of variables to Std; a world for the witness. -/
import Derived.Test.YtndknolblfdcdaaDoorNum
import Derived.Test.YtndknolblfdcdaaDoorCards
import Derived.Test.YtndknolblfdcdaaDoorTie
import Derived.ProofKit
import Derived.OpenShut
import Derived.LaidMore
import Derived.Stop.Joined
import Derived.Stop.LaidErr
import Derived.SevenTiedAt
import Derived.Lib.SmallJoins
import Derived.Lib.LaidTab
set_option linter.unusedSimpArgs false
set_option linter.unusedVariables false
namespace Go.Proofs.YtndknolblfdcdaaDoor
open Go.ChangeShapes Go.WideShapes Go.ChangeAt Go.RowKit Go.Joins

theorem own : ownKnob Tryd.prog.godebug = none := by kernel_rfl
theorem cellsV : Tryd.prog.cellsOf 23 = 3 := by kernel_rfl
theorem powGType : (Tryd.prog.globals[1]?).map (·.type) = some 70 := by kernel_rfl
theorem cellsPow : Tryd.prog.cellsOf 70 = 20 := by kernel_rfl
theorem cellsU64 : Tryd.prog.cellsOf 60 = 1 := by kernel_rfl
theorem cellsStr : Tryd.prog.cellsOf 9 = 1 := by kernel_rfl
theorem cellsErr : Tryd.prog.cellsOf 90 = 1 := by kernel_rfl
theorem synG : (Tryd.prog.globals[2]?).map (·.type) = some 56 := by kernel_rfl
theorem rngG : (Tryd.prog.globals[3]?).map (·.type) = some 56 := by kernel_rfl
theorem rowErr (u : TypeId) (h : Tryd.prog.typeName? 3 u = Tryd.prog.typeName? 3 88) : u = 88 :=
  typeName_ptr_named (nm := "errors.errorString") (by kernel_rfl) (by kernel_rfl) (by decide) u (h.trans (by kernel_rfl))

theorem lt_of_cell {w : World} {g o : Nat} {v : Value} (h : w.cell? ⟨g, o, none⟩ = some v) : g < w.heap.size := by
  rcases Nat.lt_or_ge g w.heap.size with h1 | h1
  · exact h1
  · exfalso
    unfold World.cell? at h
    simp [Array.getElem?_eq_none h1] at h

/-- WHAT THE ROW's LIST GIVES. -/
theorem std_of_laid {w : World} (h0 : laidMetH Tryd.prog Rows.valueRightsRow.laid w) : Std w := by
  have h : laidMet Tryd.prog Rows.valueRightsRow.laid w := by
    rw [MakeChecks.laidMetH_plain _ _ _ (by kernel_rfl)] at h0
    exact h0
  have hp := h.tail.tail
  have hr := hp.tail
  have hs := hr.tail
  have htab : Lib.TabIs Tryd.prog w powName .u64 Lib.pow10Tab := tab_named (Lib.tabIs_of_head (by kernel_rfl) powGType Tryd.underlying70 Tryd.underlying60 cellsU64 cellsPow hp) (by kernel_rfl)
  obtain ⟨a0, s0, hv0, -, -, -⟩ := laid_sentinel hr (by kernel_rfl) rngG Tryd.underlying56 (fun u h => rowErr u (h.trans (by kernel_rfl))) Tryd.underlying88 Tryd.underlying90 rfl rfl Tryd.underlying9 cellsErr cellsStr
  obtain ⟨a1, s1, hv1, -, -, -⟩ := laid_sentinel hs (by kernel_rfl) synG Tryd.underlying56 (fun u h => rowErr u (h.trans (by kernel_rfl))) Tryd.underlying88 Tryd.underlying90 rfl rfl Tryd.underlying9 cellsErr cellsStr
  have c0 : w.cell? ⟨3, 0, none⟩ = some (.iface 88 (.pointer (some a0))) := by
    have := World.var?_cell (g := 3) (by kernel_rfl) hv0 0
    simpa using this
  have c1 : w.cell? ⟨2, 0, none⟩ = some (.iface 88 (.pointer (some a1))) := by
    have := World.var?_cell (g := 2) (by kernel_rfl) hv1 0
    simpa using this
  have cp := htab.cell powG 0 (by decide)
  exact ⟨htab, ⟨_, _, c1⟩, ⟨_, _, c0⟩, lt_of_cell cp, lt_of_cell c1, lt_of_cell c0⟩

/-- A value handed on reads as it is. -/
theorem shut_value {H : Type} {enc : TypeId × Value → H} (W' : World) (sp : Nat → Bool) {k n : Int} {s : ByteArray} (wk : (Lit.int .i64 k).wf = true) (wn : (Lit.int .i64 n).wf = true) (ws : s.size ≤ maxLen) :
    DataW.Trod enc Tryd.prog W' 0 sp true 23 (.agg #[.int .i64 k, .int .i64 n, .string s]) (.agg [.lit (.int .i64 k), .lit (.int .i64 n), .lit (.string s.data.toList)]) [] :=
  shut_agg3 (y0 := (.lit (.int .i64 k), [])) (y1 := (.lit (.int .i64 n), [])) (y2 := (.lit (.string s.data.toList), [])) Tryd.underlying23 (by kernel_rfl) cellsV
    ⟨1, by simp [DataW.trod, Tryd.underlying3, wk]⟩ ⟨1, by simp [DataW.trod, Tryd.underlying3, wn]⟩ ⟨1, by simp [DataW.trod, Tryd.underlying9, ws]⟩

/-- The door's own heap meets the condition. -/
theorem door_met (os : Os) (args : Array Value) : laidMetH Tryd.prog Rows.valueRightsRow.laid ((World.doorLaid Tryd.prog 400 os).forCall (fun _ _ => 0) ⟨#[], args, []⟩).memory :=
  laidMetH_of_parts3 (fuel := 8) (laidMet_of_run' 8 (by kernel_rfl) (by kernel_rfl)) (by kernel_rfl) (by kernel_rfl)
end Go.Proofs.YtndknolblfdcdaaDoor
