/- Own, laid together. -/
import Derived.Test.YtmdkpomgckkllaaP2
import Derived.Lib.UnsafeStr
import Derived.Lib.BufferWrite
import Derived.Lib.BufferRead
import Derived.StillTailTactics
import Derived.Deep.RegionLaw
set_option linter.unusedSimpArgs false
set_option linter.unusedVariables false
/- A byte slice that the call itself made: what it owns, and append onto it. -/
namespace Go.Proofs.Ytmdkpomgckkllaa
open Go.RowKit

/-- The slice value v, laid from block B on, holds the bytes l. -/
def Own (B : Nat) (w : World) (v : Value) (l : List UInt8) : Prop := w.ownsRow B 5 1 v l.length (Lib.byteCells l)
theorem Own.alloc {B : Nat} {w : World} {v : Value} {l : List UInt8} (h : Own B w v l) (o : Obj) : Own B (w.alloc o) v l := World.ownsRow.alloc h o
theorem Own.drew {B : Nat} {w : World} {v : Value} {l : List UInt8} (h : Own B w v l) : Own B w.drew v l := h
theorem Own.drewN {B : Nat} {w : World} {v : Value} {l : List UInt8} (h : Own B w v l) (n : Nat) : Own B (w.drewN n) v l := h
theorem Own.bel {B : Nat} {w x : World} {v : Value} {l : List UInt8} (h : Own B w v l) (hb : Bel w x) : Own B x v l := by
  obtain ⟨h1, h2⟩ := h
  refine ⟨h1, ?_⟩
  rcases h2 with h2 | ⟨g, cap, cur, hv, hg, hh, r⟩
  · exact Or.inl h2
  · refine Or.inr ⟨g, cap, cur, hv, hg, ?_, r⟩
    have hlt : g < w.heap.size := by
      rcases Nat.lt_or_ge g w.heap.size with h | h
      · exact h
      · rw [Array.getElem?_eq_none h] at hh; cases hh
    rw [Below.block hb g hlt]; exact hh
theorem Own.nil (B : Nat) (w : World) : Own B w (.slice none 0 0) [] := World.ownsRow_nil _ _ _ _
theorem Own.lt {B : Nat} {w : World} {v : Value} {l : List UInt8} (h : Own B w v l) : ∀ k, v.ownBlock = some k → B ≤ k ∧ k < w.heap.size := World.ownsRow.lt h

end Go.Proofs.Ytmdkpomgckkllaa
