/- FAct, FSmall, laid together. -/
import Derived.Test.YtfbiinnenlgkfaaGreatDoorR4
import Derived.ProofKit
import Derived.OpenShut
import Derived.ChangeSlices
import Derived.Carry
import Derived.Lib.SmallJoins
import Derived.Deep.Slices
import Derived.Deep.Fields
set_option linter.unusedSimpArgs false
set_option linter.unusedVariables false
namespace Go.Proofs.YtfbiinnenlgkfaaGreatDoor
open Go.ChangeShapes Go.WideShapes Go.ChangeAt Go.RowKit Go.Joins Go.Deep

theorem cellsInt : Tryz.prog.cellsOf 3 = 1 := by kernel_rfl
theorem laidOut : laidOutB Tryz.prog = true := by kernel_rfl
theorem wf_bounds {n : Int} (h : (Lit.int .i64 n).wf = true) : -9223372036854775808 ≤ n ∧ n ≤ 9223372036854775807 := by
 have e1 : IntKind.i64.min = -9223372036854775808 := rfl
 have e2 : IntKind.i64.max = 9223372036854775807 := rfl
 simp [Lit.wf, e1, e2] at h
 exact h
theorem add_block (a : Addr) (i : Nat) : (a.add i).block = a.block := by cases i <;> simp [Addr.add]
def in64 (n : Int) : Prop := -9223372036854775808 ≤ n ∧ n ≤ 9223372036854775807
def IntsAt (w : World) (p : Option Addr) (L : List Int) : Prop := ∀ i (h : i < L.length), ∃ a, p = some a ∧ w.cell? (a.add i) = some (.int .i64 L[i])
theorem IntsAt.bel {w x : World} {p : Option Addr} {L : List Int} (h : IntsAt w p L) (hb : Bel w x) : IntsAt x p L := by
 intro i hi
 obtain ⟨a, ha, hc⟩ := h i hi
 exact ⟨a, ha, (Below.cell hb (block_lt_of_cell hc)).trans hc⟩
structure SI where
 p : Option Addr
 cap : Nat
 L : List Int
def SI.val (s : SI) : Value := .slice s.p s.L.length s.cap
def SI.ok (w : World) (s : SI) : Prop := IntsAt w s.p s.L ∧ s.L.length ≤ maxLen ∧ ∀ n ∈ s.L, in64 n
theorem SI.ok.bel {w x : World} {s : SI} (h : SI.ok w s) (hb : Bel w x) : SI.ok x s := ⟨h.1.bel hb, h.2⟩
theorem open_si {H : Type} {enc : TypeId × Value → H} {W : World} {fuel : Nat} {c : Value} {y : DataW H × List MemPlace}
  (hf : DataW.trod enc Tryz.prog W 0 (fun _ => true) true fuel 52 [c] = some y) : ∃ s : SI, c = s.val ∧ SI.ok W s := by
 rcases open_ints Tryz.underlying52 Tryz.underlying3 cellsInt hf with ⟨hcs, hx⟩ | ⟨a, len', cap', zs, hcs, _, hl, hm, hz, hx, hcell, hwz⟩
 ·simp at hcs
  subst hcs
  exact ⟨⟨none, 0, []⟩, rfl, fun i hi => by simp at hi, by simp, fun n hn => by simp at hn⟩
 ·simp at hcs
  subst hcs
  simp only [if_true] at hz
  have hlen : (zs.take len').length = len' := by rw [List.length_take]; omega
  refine ⟨⟨some a, cap', zs.take len'⟩, by rw [SI.val, hlen], ?_, by show (zs.take len').length ≤ _; omega, ?_⟩
  ·intro i hi
   have hi' : i < len' := by rw [← hlen]; exact hi
   refine ⟨a, rfl, ?_⟩
   rw [hcell i (by omega)]
   simp [List.getD, show i < zs.length by omega]
  ·intro n hn
   exact wf_bounds (hwz n (List.mem_of_mem_take hn))
structure AV where
 op : Int
 n : Int
 name : ByteArray
 to : ByteArray
 data : ByteArray
 left : SI
 spoil : SI
structure AV.ok (w : World) (x : AV) : Prop where
 op : in64 x.op
 n : in64 x.n
 name : x.name.size ≤ maxLen
 to : x.to.size ≤ maxLen
 data : x.data.size ≤ maxLen
 left : SI.ok w x.left
 spoil : SI.ok w x.spoil
def AV.cells (x : AV) : List Value := [.int .i64 x.op, .int .i64 x.n, .string x.name, .string x.to, .string x.data, x.left.val, x.spoil.val]
def ActsAt (w : World) (p : Option Addr) (L : List AV) : Prop := ∀ i (h : i < L.length), ∃ B O sp, p.map (fun a => a.add (i * 7)) = some ⟨B, O, sp⟩ ∧
 (∀ j u, L[i].cells[j]? = some u → w.cell? ((⟨B, O, sp⟩ : Addr).add j) = some u) ∧ AV.ok w L[i]
theorem ActsAt.bel {w x : World} {p : Option Addr} {L : List AV} (h : ActsAt w p L) (hb : Bel w x) : ActsAt x p L := by
 intro i hi
 obtain ⟨B, O, sp, hp, hc, ho⟩ := h i hi
 exact ⟨B, O, sp, hp, fun j u hj => (Below.cell hb (block_lt_of_cell (hc j u hj))).trans (hc j u hj), ho.op, ho.n, ho.name, ho.to, ho.data, ho.left.bel hb, ho.spoil.bel hb⟩

section
variable {H : Type} {enc : TypeId × Value → H} {P : Program} {w : World} {base : Nat} {sp : Nat → Bool} {held : Bool}
end

theorem ints_again {H : Type} {enc : TypeId × Value → H} {W W' : World} {v : Value} {d : DataW H} {ps : List MemPlace}
  (h : DataW.Trod enc Tryz.prog W 0 (fun _ => true) true 52 v d ps) (hb : Bel W W') (hlt : ∀ x ∈ ps, x.block < W.heap.size) :
  DataW.Trod enc Tryz.prog W' 0 (fun b => decide (b < W.heap.size)) true 52 v d ps :=
 Below.trod laidOut (by kernel_rfl) (of_decide_eq_true (by kernel_rfl)) h hb hlt
end Go.Proofs.YtfbiinnenlgkfaaGreatDoor
namespace Go.Proofs.YtfbiinnenlgkfaaGreatDoor
open Go.RowKit Go.Deep

set_option maxHeartbeats 4000000 in
theorem rget_any (n₀ : Nat) (w : World) (b : Nat) (M : RS) (v : Value) (s : ByteArray) (h : RefAt n₀ w b M v) (hL : M.L.length ≤ 1000) :
  Calls Tryz.prog 101 #[.pointer (some ⟨b, 0, none⟩), .string s] w fun e w' =>
   e = .returned (.tuple #[.string ⟨(thereS s.data.toList M).1.bytes.toArray⟩, .int .i64 (thereS s.data.toList M).2]) ∧ Bel w w' := by
 have HR := Lib.hid h; clear h
 go_enter Tryz.func101, Tryz.ntmps101
 go_wp2_with (fail)
 refine (there_any n₀ _ b M v s (by first | exact HR.out | exact HR.out.bel ((Bel.refl w).alloc _)) hL).mono ?_
 rintro e w1 ⟨rfl, hb⟩
 have HB := Lib.hid (show Bel w w1 by first | exact hb | exact ((Bel.refl w).alloc _).trans hb)
 obtain ⟨x, ee, hr⟩ : ∃ x ee, thereS s.data.toList M = (x, ee) := ⟨_, _, rfl⟩
 have HT := Lib.hid hr
 rw [hr]
 clear hr hb
 unfold fileW
 go_wp2_with (fail)
 go_ret2
 exact ⟨by rw [HT.out]; rfl, HB.out.alloc _⟩

def limS (t : Int) (M : RS) : RS := { M with turns := if t < -1 then -1 else t }
def atN (L : List Int) (k : Nat) : Int := (L[k]?).getD 0
end Go.Proofs.YtfbiinnenlgkfaaGreatDoor
