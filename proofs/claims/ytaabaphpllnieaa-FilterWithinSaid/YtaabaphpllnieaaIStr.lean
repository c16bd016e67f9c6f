/- Slices of texts, of numbers; a row of bytes that a make has laid. -/
import Derived.Test.YtaabaphpllnieaaOwn
import Derived.Test.YtaabaphpllnieaaOwnG
import Derived.Test.YtaabaphpllnieaaFoot
import Derived.Test.YtaabaphpllnieaaIFil
import Derived.Lib.ConvBytes
import Derived.Deep.OwnRows
set_option linter.unusedSimpArgs false
set_option linter.unusedVariables false
namespace Go.Proofs.Ytaabaphpllnieaa
open Go.RowKit Go.Deep

def strEl : El (List UInt8) := ⟨9, 29, 1, fun l => [.string ⟨l.toArray⟩]⟩
theorem strOk : ElOk strEl 16 := ⟨fun _ => rfl, fun a u hu => by simp [strEl] at hu; subst hu; rfl, by kernel_rfl, ⟨.string ⟨#[]⟩, by kernel_rfl, rfl⟩, by decide⟩
/-- The slice at p holds the texts L. -/
def StrsAt (w : World) (p : Option Addr) (L : List (List UInt8)) : Prop := ∀ i (h : i < L.length), ∃ a, p = some a ∧ w.cell? (a.add i) = some (.string ⟨L[i].toArray⟩)
theorem add_block (a : Addr) (i : Nat) : (a.add i).block = a.block := by cases i <;> simp [Addr.add]
theorem StrsAt.bel {w x : World} {p : Option Addr} {L : List (List UInt8)} (h : StrsAt w p L) (hb : Bel w x) : StrsAt x p L := by
  intro i hi
  obtain ⟨a, ha, hc⟩ := h i hi
  exact ⟨a, ha, (Below.cell hb (block_lt_of_cell hc)).trans hc⟩
theorem ownG_strs {B : Nat} {w : World} {v : Value} {L : List (List UInt8)} (h : OwnG strEl B w v L) : ∃ p cap, v = .slice p L.length cap ∧ StrsAt w p L := by
  by_cases hL : L = []
  · subst hL
    obtain ⟨p, cap, hv⟩ := ownG_len h
    exact ⟨p, cap, hv, fun i hi => by simp at hi⟩
  · obtain ⟨g, cap, hv, _, _, _, hc⟩ := ownG_cells strOk h hL
    refine ⟨_, cap, hv, fun i hi => ⟨_, rfl, ?_⟩⟩
    have := hc i L[i] (List.getElem?_eq_getElem hi) 0 _ rfl
    have e : (⟨g, 0, none⟩ : Addr).add i = ⟨g, i * strEl.n + 0, none⟩ := by cases i <;> simp [Addr.add, strEl]
    rw [e]; exact this

/-- Block b begins with the bytes l, none frozen. -/
def ByteRow (w : World) (b : Nat) (l : List UInt8) : Prop := ∀ j (h : j < l.length), w.cell? ⟨b, j, none⟩ = some (.int .u8 (l[j].toNat : Int)) ∧ w.frozen? ⟨b, j, none⟩ = false
theorem ByteRow.bel {w x : World} {b : Nat} {l : List UInt8} (h : ByteRow w b l) (hb : Bel w x) : ByteRow x b l := by
  intro j hj
  obtain ⟨h1, h2⟩ := h j hj
  have hlt : b < w.heap.size := block_lt_of_cell h1
  exact ⟨(hb.cell b j hlt).trans h1, (hb.frozen b j hlt).trans h2⟩
theorem ByteRow.set {w : World} {b : Nat} {l : List UInt8} (h : ByteRow w b l) (k : Nat) (hk : k < l.length) (x : UInt8) : ByteRow (w.setCell ⟨b, k, none⟩ (.int .u8 (x.toNat : Int))) b (l.set k x) := by
  intro j hj
  rw [List.length_set] at hj
  obtain ⟨h1, h2⟩ := h j hj
  refine ⟨?_, by rw [World.frozen?_setCell]; exact h2⟩
  by_cases e : k = j
  · subst e
    rw [World.cell?_setCell_same _ _ _ h1, List.getElem_set_self]
  · rw [World.cell?_setCell_other _ _ _ _ (by intro h; cases h; exact e rfl), h1, List.getElem_set_ne e]
theorem ByteRow.conv {w : World} {b : Nat} {l : List UInt8} (h : ByteRow w b l) (cap : Nat) :
    (convert 37 9 (.slice (some ⟨b, 0, none⟩) l.length cap)).run Try.prog w = .ok (.string ⟨l.toArray⟩) w :=
  run_convert_bytes_back w 37 9 5 ⟨b, 0, none⟩ cap l Try.underlying37 Try.underlying5 Try.underlying9 (fun j hj => by
    have e : (⟨b, 0, none⟩ : Addr).add j = ⟨b, j, none⟩ := by cases j <;> simp [Addr.add]
    rw [e]; exact (h j hj).1)

def intEl9 : El Nat := ⟨3, 26, 1, fun n => [.int .i64 (n : Int)]⟩
theorem intOk9 : ElOk intEl9 8 := ⟨fun _ => rfl, fun a u hu => by simp [intEl9] at hu; subst hu; rfl, by kernel_rfl, ⟨.int .i64 0, by kernel_rfl, rfl⟩, by decide⟩
/-- The slice at p holds the numbers L. -/
def NumsAt (w : World) (p : Option Addr) (L : List Nat) : Prop := ∀ i (h : i < L.length), ∃ a, p = some a ∧ w.cell? (a.add i) = some (.int .i64 (L[i] : Int))
theorem NumsAt.bel {w x : World} {p : Option Addr} {L : List Nat} (h : NumsAt w p L) (hb : Bel w x) : NumsAt x p L := by
  intro i hi
  obtain ⟨a, ha, hc⟩ := h i hi
  exact ⟨a, ha, (Below.cell hb (block_lt_of_cell hc)).trans hc⟩
theorem NumsAt.keep {w x : World} {p : Option Addr} {L : List Nat} {F : List Nat} (h : NumsAt w p L) (hk : Keep F w x) (hF : ∀ a, p = some a → a.block ∉ F) : NumsAt x p L := by
  intro i hi
  obtain ⟨a, ha, hc⟩ := h i hi
  exact ⟨a, ha, hk.cell hc (by rw [add_block]; exact hF a ha)⟩
theorem StrsAt.keep {w x : World} {p : Option Addr} {L : List (List UInt8)} {F : List Nat} (h : StrsAt w p L) (hk : Keep F w x) (hF : ∀ a, p = some a → a.block ∉ F) : StrsAt x p L := by
  intro i hi
  obtain ⟨a, ha, hc⟩ := h i hi
  exact ⟨a, ha, hk.cell hc (by rw [add_block]; exact hF a ha)⟩
theorem ownG_nums {B : Nat} {w : World} {v : Value} {L : List Nat} (h : OwnG intEl9 B w v L) : ∃ p cap, v = .slice p L.length cap ∧ NumsAt w p L := by
  by_cases hL : L = []
  · subst hL
    obtain ⟨p, cap, hv⟩ := ownG_len h
    exact ⟨p, cap, hv, fun i hi => by simp at hi⟩
  · obtain ⟨g, cap, hv, _, _, _, hc⟩ := ownG_cells intOk9 h hL
    refine ⟨_, cap, hv, fun i hi => ⟨_, rfl, ?_⟩⟩
    have := hc i L[i] (List.getElem?_eq_getElem hi) 0 _ rfl
    have e : (⟨g, 0, none⟩ : Addr).add i = ⟨g, i * intEl9.n + 0, none⟩ := by cases i <;> simp [Addr.add, intEl9]
    rw [e]; exact this
theorem ByteRow.made (w : World) (n : Nat) : ByteRow (w.alloc (.cells (madeCells #[.int .u8 0] n) 5)) w.heap.size (zeroL n) := by
  have h := World.rowIs_made w (.int .u8 0) n 5
  intro j hj
  rw [zero_len] at hj
  have h1 := h.cell hj
  have h2 := h.frozen j
  refine ⟨?_, h2⟩
  simp [zeroL] at h1 ⊢
  exact h1
theorem ByteRow.keep {w x : World} {b : Nat} {l : List UInt8} {F : List Nat} (h : ByteRow w b l) (hk : Keep F w x) (hb : b ∉ F) : ByteRow x b l := by
  intro j hj
  obtain ⟨h1, h2⟩ := h j hj
  have hlt : b < w.heap.size := block_lt_of_cell h1
  exact ⟨hk.cell h1 hb, (hk.frozen (p := ⟨b, j, none⟩) hlt hb).trans h2⟩
end Go.Proofs.Ytaabaphpllnieaa
