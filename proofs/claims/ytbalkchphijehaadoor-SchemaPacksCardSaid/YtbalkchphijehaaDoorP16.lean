/- Strs, laid together. -/
import Derived.Test.YtbalkchphijehaaDoorP4
import Derived.Test.YtbalkchphijehaaDoorP2
import Derived.Lib.ConvBytes
import Derived.Deep.OwnRows
set_option linter.unusedSimpArgs false
set_option linter.unusedVariables false
/- Slices of texts; a row of bytes that a conversion or a make has laid. (Shared: stages 5, 9 and behind.) -/
namespace Go.Proofs.YtbalkchphijehaaDoor
open Go.RowKit Go.Deep

/-- The slice at p holds the texts L. -/
def StrsAt (w : World) (p : Option Addr) (L : List (List UInt8)) : Prop := ∀ i (h : i < L.length), ∃ a, p = some a ∧ w.cell? (a.add i) = some (.string ⟨L[i].toArray⟩)
theorem StrsAt.bel {w x : World} {p : Option Addr} {L : List (List UInt8)} (h : StrsAt w p L) (hb : Bel w x) : StrsAt x p L := by
  intro i hi
  obtain ⟨a, ha, hc⟩ := h i hi
  exact ⟨a, ha, (Below.cell hb (block_lt_of_cell hc)).trans hc⟩
/-- Block b begins with the bytes l, none frozen. -/
def ByteRow (w : World) (b : Nat) (l : List UInt8) : Prop := ∀ j (h : j < l.length), w.cell? ⟨b, j, none⟩ = some (.int .u8 (l[j].toNat : Int)) ∧ w.frozen? ⟨b, j, none⟩ = false
theorem ByteRow.bel {w x : World} {b : Nat} {l : List UInt8} (h : ByteRow w b l) (hb : Bel w x) : ByteRow x b l := by
  intro j hj
  obtain ⟨h1, h2⟩ := h j hj
  have hlt : b < w.heap.size := block_lt_of_cell h1
  exact ⟨(hb.cell b j hlt).trans h1, (hb.frozen b j hlt).trans h2⟩
theorem ByteRow.set {w : World} {b : Nat} {l : List UInt8} (h : ByteRow w b l) (k : Nat) (hk : k < l.length) (x : UInt8) : ByteRow (w.setCell ⟨b, k, none⟩ (.int .u8 (x.toNat : Int))) b (l.set k x) := by
  intro j hj
  rw [List.length_set] at hj
  obtain ⟨h1, h2⟩ := h j hj
  refine ⟨?_, by rw [World.frozen?_setCell]; exact h2⟩
  by_cases e : k = j
  · subst e
    rw [World.cell?_setCell_same _ _ _ h1, List.getElem_set_self]
  · rw [World.cell?_setCell_other _ _ _ _ (by intro h; cases h; exact e rfl), h1, List.getElem_set_ne e]
theorem ByteRow.conv {w : World} {b : Nat} {l : List UInt8} (h : ByteRow w b l) (cap : Nat) :
    (convert 49 9 (.slice (some ⟨b, 0, none⟩) l.length cap)).run Tryd.prog w = .ok (.string ⟨l.toArray⟩) w :=
  run_convert_bytes_back w 49 9 5 ⟨b, 0, none⟩ cap l Tryd.underlying49 Tryd.underlying5 Tryd.underlying9 (fun j hj => by
    have e : (⟨b, 0, none⟩ : Addr).add j = ⟨b, j, none⟩ := by cases j <;> simp [Addr.add]
    rw [e]; exact (h j hj).1)
end Go.Proofs.YtbalkchphijehaaDoor
