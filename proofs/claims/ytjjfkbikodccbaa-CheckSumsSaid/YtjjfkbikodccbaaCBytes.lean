/- A row of bytes that a conversion or a make has laid: its bytes, and a store into it. -/
import Derived.Test.YtjjfkbikodccbaaCShown
import Derived.Lib.ConvBytes
set_option linter.unusedSimpArgs false
set_option linter.unusedVariables false
namespace Go.Proofs.Ytjjfkbikodccbaa
open Go.RowKit Go.Deep

/-- Block b begins with the bytes l, none frozen. -/
def ByteRow (w : World) (b : Nat) (l : List UInt8) : Prop := ∀ j (h : j < l.length), w.cell? ⟨b, j, none⟩ = some (.int .u8 (l[j].toNat : Int)) ∧ w.frozen? ⟨b, j, none⟩ = false
theorem ByteRow.bel {w x : World} {b : Nat} {l : List UInt8} (h : ByteRow w b l) (hb : Bel w x) : ByteRow x b l := by
  intro j hj
  obtain ⟨h1, h2⟩ := h j hj
  have hlt : b < w.heap.size := block_lt_of_cell h1
  exact ⟨(hb.cell b j hlt).trans h1, (hb.frozen b j hlt).trans h2⟩
theorem ByteRow.set {w : World} {b : Nat} {l : List UInt8} (h : ByteRow w b l) (k : Nat) (hk : k < l.length) (x : UInt8) : ByteRow (w.setCell ⟨b, k, none⟩ (.int .u8 (x.toNat : Int))) b (l.set k x) := by
  intro j hj
  rw [List.length_set] at hj
  obtain ⟨h1, h2⟩ := h j hj
  refine ⟨?_, by rw [World.frozen?_setCell]; exact h2⟩
  by_cases e : k = j
  · subst e
    rw [World.cell?_setCell_same _ _ _ h1, List.getElem_set_self]
  · rw [World.cell?_setCell_other _ _ _ _ (by intro h; cases h; exact e rfl), h1, List.getElem_set_ne e]
theorem ByteRow.conv {w : World} {b : Nat} {l : List UInt8} (h : ByteRow w b l) (cap : Nat) :
    (convert 38 9 (.slice (some ⟨b, 0, none⟩) l.length cap)).run Try.prog w = .ok (.string ⟨l.toArray⟩) w :=
  run_convert_bytes_back w 38 9 5 ⟨b, 0, none⟩ cap l Try.underlying38 Try.underlying5 Try.underlying9 (fun j hj => by
    have e : (⟨b, 0, none⟩ : Addr).add j = ⟨b, j, none⟩ := by cases j <;> simp [Addr.add]
    rw [e]; exact (h j hj).1)
/-- []byte(s) lays a row of its own. -/
theorem conv_bytes (w : World) (s : ByteArray) : ∃ w' cap, (convert 9 38 (.string s)).run Try.prog w = .ok (.slice (some ⟨w.heap.size, 0, none⟩) s.size cap) w' ∧
    Bel w w' ∧ ByteRow w' w.heap.size s.data.toList ∧ w.heap.size < w'.heap.size := by
  refine ⟨_, _, run_bytes_of_string w 9 38 5 s Try.underlying9 Try.underlying38 Try.underlying5, (Bel.refl w).drew.alloc _, ?_, by simp⟩
  intro j hj
  have hj' : j < s.data.size := by simpa using hj
  have hsz : w.heap.size = w.drew.heap.size := rfl
  rw [hsz]
  refine ⟨?_, ?_⟩
  · rw [World.cell?_alloc_mark, bytesRow_at s _ j hj']
    simp
  · rw [World.frozen?_alloc_mark]
    have : s.data.size ≤ (bytesRow s (grownCap w s.size 0 5)).size := by unfold bytesRow; simp
    simp; omega
end Go.Proofs.Ytjjfkbikodccbaa
