/- GRange, QRange, laid together. -/
import Derived.RangeFuncNested
import Derived.RangeFuncBound
import Derived.RangeFuncCalls
import Derived.RangeFuncLeaves
import Derived.Shelf.Abstract
import Derived.WalkKit
import Derived.Test.YtbalkchphijehaaDoorQ2
set_option linter.unusedSimpArgs false
set_option linter.unusedVariables false
/- A range over a function whose iterator keeps a state of its own in a box: the loop's rounds all go on to the end. -/
namespace Go.Proofs.YtbalkchphijehaaDoor
open Go.RowKit

/-- What a round keeps: what lay below n₀, and the iterator's own blocks. -/
def KeepR (n₀ : Nat) (Bx : List Nat) (A B : World) : Prop := Below n₀ A B ∧ ∀ b ∈ Bx, ∀ o : Obj, A.heap[b]? = some o → B.heap[b]? = some o
theorem KeepR.trans {n₀ : Nat} {Bx : List Nat} {A B C : World} (h : KeepR n₀ Bx A B) (k : KeepR n₀ Bx B C) : KeepR n₀ Bx A C := ⟨h.1.trans k.1, fun b hb o ho => k.2 b hb o (h.2 b hb o ho)⟩
theorem KeepR.of_keep {n₀ : Nat} {Bx G : List Nat} {A B : World} (h : Keep G A B) (hn : n₀ ≤ A.heap.size) (hG : ∀ x ∈ G, n₀ ≤ x ∧ x ∉ Bx) : KeepR n₀ Bx A B :=
  ⟨h.below hn (fun x hx => (hG x hx).1), fun b hb o ho => h.at ho (fun hm => (hG b hm).2 hb)⟩
theorem keep_putObj (A : World) (l : Nat) (o : Obj) : Keep [l] A (A.putObj l o) :=
  ⟨rfl, rfl, rfl, by simp, fun k _ hk => World.putObj_heap_other (fun e => hk (by simp [e]))⟩
end Go.Proofs.YtbalkchphijehaaDoor
/- A range over a function whose iterator keeps a state of its own in a box, of whose state at the end something is known: the loop's rounds all go on to the end. -/
namespace Go.Proofs.YtbalkchphijehaaDoor
open Go.RowKit

end Go.Proofs.YtbalkchphijehaaDoor
