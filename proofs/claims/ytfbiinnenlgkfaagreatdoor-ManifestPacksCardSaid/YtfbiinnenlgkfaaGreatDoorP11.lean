/- FAct, FSmall, laid together. -/
import Derived.Test.YtfbiinnenlgkfaaGreatDoorP4
import Derived.ProofKit
import Derived.OpenShut
import Derived.ChangeSlices
import Derived.Carry
import Derived.Lib.SmallJoins
import Derived.Deep.Slices
import Derived.Deep.Fields
set_option linter.unusedSimpArgs false
set_option linter.unusedVariables false
/- A slice of acts that came in: each act's numbers, texts and slices of ints; it reads so again behind a call that turns nothing. -/
namespace Go.Proofs.YtfbiinnenlgkfaaGreatDoor
open Go.ChangeShapes Go.WideShapes Go.ChangeAt Go.RowKit Go.Joins Go.Deep

theorem laidOut : laidOutB Tryz.prog = true := by kernel_rfl
theorem wf_bounds {n : Int} (h : (Lit.int .i64 n).wf = true) : -9223372036854775808 ≤ n ∧ n ≤ 9223372036854775807 := by
  have e1 : IntKind.i64.min = -9223372036854775808 := rfl
  have e2 : IntKind.i64.max = 9223372036854775807 := rfl
  simp [Lit.wf, e1, e2] at h
  exact h
theorem add_block (a : Addr) (i : Nat) : (a.add i).block = a.block := by cases i <;> simp [Addr.add]
def in64 (n : Int) : Prop := -9223372036854775808 ≤ n ∧ n ≤ 9223372036854775807
def IntsAt (w : World) (p : Option Addr) (L : List Int) : Prop := ∀ i (h : i < L.length), ∃ a, p = some a ∧ w.cell? (a.add i) = some (.int .i64 L[i])
theorem IntsAt.bel {w x : World} {p : Option Addr} {L : List Int} (h : IntsAt w p L) (hb : Bel w x) : IntsAt x p L := by
  intro i hi
  obtain ⟨a, ha, hc⟩ := h i hi
  exact ⟨a, ha, (Below.cell hb (block_lt_of_cell hc)).trans hc⟩
structure SI where
  p : Option Addr
  cap : Nat
  L : List Int
def SI.val (s : SI) : Value := .slice s.p s.L.length s.cap
def SI.ok (w : World) (s : SI) : Prop := IntsAt w s.p s.L ∧ s.L.length ≤ maxLen ∧ ∀ n ∈ s.L, in64 n
theorem SI.ok.bel {w x : World} {s : SI} (h : SI.ok w s) (hb : Bel w x) : SI.ok x s := ⟨h.1.bel hb, h.2⟩
structure AV where
  op : Int
  n : Int
  name : ByteArray
  to : ByteArray
  data : ByteArray
  left : SI
  spoil : SI
structure AV.ok (w : World) (x : AV) : Prop where
  op : in64 x.op
  n : in64 x.n
  name : x.name.size ≤ maxLen
  to : x.to.size ≤ maxLen
  data : x.data.size ≤ maxLen
  left : SI.ok w x.left
  spoil : SI.ok w x.spoil
def AV.cells (x : AV) : List Value := [.int .i64 x.op, .int .i64 x.n, .string x.name, .string x.to, .string x.data, x.left.val, x.spoil.val]
def ActsAt (w : World) (p : Option Addr) (L : List AV) : Prop := ∀ i (h : i < L.length), ∃ B O sp, p.map (fun a => a.add (i * 7)) = some ⟨B, O, sp⟩ ∧
  (∀ j u, L[i].cells[j]? = some u → w.cell? ((⟨B, O, sp⟩ : Addr).add j) = some u) ∧ AV.ok w L[i]
theorem ActsAt.bel {w x : World} {p : Option Addr} {L : List AV} (h : ActsAt w p L) (hb : Bel w x) : ActsAt x p L := by
  intro i hi
  obtain ⟨B, O, sp, hp, hc, ho⟩ := h i hi
  exact ⟨B, O, sp, hp, fun j u hj => (Below.cell hb (block_lt_of_cell (hc j u hj))).trans (hc j u hj), ho.op, ho.n, ho.name, ho.to, ho.data, ho.left.bel hb, ho.spoil.bel hb⟩

section
variable {H : Type} {enc : TypeId × Value → H} {P : Program} {w : World} {base : Nat} {sp : Nat → Bool} {held : Bool}
end

end Go.Proofs.YtfbiinnenlgkfaaGreatDoor
/- moultref6's Get, Limit and at. -/
namespace Go.Proofs.YtfbiinnenlgkfaaGreatDoor
open Go.RowKit Go.Deep

end Go.Proofs.YtfbiinnenlgkfaaGreatDoor
