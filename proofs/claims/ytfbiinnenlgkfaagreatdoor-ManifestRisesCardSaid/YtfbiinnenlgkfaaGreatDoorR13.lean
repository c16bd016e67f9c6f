/- Own, laid together. -/
import Derived.Test.YtfbiinnenlgkfaaGreatDoorR1
import Derived.Lib.UnsafeStr
import Derived.Lib.BufferWrite
import Derived.Lib.BufferRead
import Derived.StillTailTactics
import Derived.Deep.RegionLaw
set_option linter.unusedSimpArgs false
set_option linter.unusedVariables false
namespace Go.Proofs.YtfbiinnenlgkfaaGreatDoor
open Go.RowKit

def Own (B : Nat) (w : World) (v : Value) (l : List UInt8) : Prop := w.ownsRow B 5 1 v l.length (Lib.byteCells l)
theorem Own.alloc {B : Nat} {w : World} {v : Value} {l : List UInt8} (h : Own B w v l) (o : Obj) : Own B (w.alloc o) v l := World.ownsRow.alloc h o
theorem Own.drew {B : Nat} {w : World} {v : Value} {l : List UInt8} (h : Own B w v l) : Own B w.drew v l := h
theorem Own.drewN {B : Nat} {w : World} {v : Value} {l : List UInt8} (h : Own B w v l) (n : Nat) : Own B (w.drewN n) v l := h
theorem Own.bel {B : Nat} {w x : World} {v : Value} {l : List UInt8} (h : Own B w v l) (hb : Bel w x) : Own B x v l := by
 obtain ⟨h1, h2⟩ := h
 refine ⟨h1, ?_⟩
 rcases h2 with h2 | ⟨g, cap, cur, hv, hg, hh, r⟩
 ·exact Or.inl h2
 ·refine Or.inr ⟨g, cap, cur, hv, hg, ?_, r⟩
  have hlt : g < w.heap.size := by
   rcases Nat.lt_or_ge g w.heap.size with h | h
   ·exact h
   ·rw [Array.getElem?_eq_none h] at hh; cases hh
  rw [Below.block hb g hlt]; exact hh
theorem Own.nil (B : Nat) (w : World) : Own B w (.slice none 0 0) [] := World.ownsRow_nil _ _ _ _
theorem Own.lt {B : Nat} {w : World} {v : Value} {l : List UInt8} (h : Own B w v l) : ∀ k, v.ownBlock = some k → B ≤ k ∧ k < w.heap.size := World.ownsRow.lt h

theorem infoByte : (Tryz.prog.info? 5).map (fun i => (i.zero, i.size, i.bytes)) = some (some (.int .u8 0), 1, 1) := by kernel_rfl

theorem own_string {B : Nat} {w : World} {v : Value} {l : List UInt8} (h : Own B w v l) : (convert 114 9 v).run Tryz.prog w = .ok (.string ⟨l.toArray⟩) w := by
 rcases h.2 with ⟨rfl, h0⟩ | ⟨g, cap, cur, rfl, _, hg, _, _, _, htk⟩
 ·have : l = [] := List.length_eq_zero_iff.1 h0
  subst this
  exact Lib.run_convert_nil_bytes w _ _ 5 0 Tryz.underlying114 Tryz.underlying5 Tryz.underlying9
 ·exact run_convert_bytes_back w _ _ 5 _ _ l Tryz.underlying114 Tryz.underlying5 Tryz.underlying9 (Lib.bytes_of_row hg (by rw [← htk, Nat.mul_one]))

theorem own_new (B : Nat) (w : World) (arr : Array Value) (l : List UInt8) (h : arr.toList = Lib.byteCells l) (hB : B ≤ w.heap.size) (hl : l.length ≤ 1000) :
  Own B (w.alloc (.cells arr 5)) (.slice (some ⟨w.heap.size, 0, none⟩) l.length l.length) l := by
 refine ⟨by rw [Lib.byteCells_length, Nat.mul_one], Or.inr ⟨w.heap.size, l.length, arr, rfl, hB, heap_alloc_new w _, Nat.le_refl _, by unfold maxLen; omega, ?_, ?_⟩⟩
 ·rw [← Array.length_toList, h, Lib.byteCells_length, Nat.mul_one]
 ·rw [h, Nat.mul_one, ← Lib.byteCells_length l, List.take_length]
end Go.Proofs.YtfbiinnenlgkfaaGreatDoor
