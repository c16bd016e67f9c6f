/- What a call may write: the blocks of a list; all else that lay there lies as it lay. For objects that a call has made and that others' calls change. -/
import Derived.Test.YtaabaphpllnieaaKit
import Derived.Test.YtaabaphpllnieaaOwnG
set_option linter.unusedSimpArgs false
set_option linter.unusedVariables false
namespace Go.Proofs.Ytaabaphpllnieaa
open Go.RowKit

/-- Of what lay in w nothing has turned in w' but for the blocks of F. -/
structure Keep (F : List Nat) (w w' : World) : Prop where
  os : w'.os = w.os
  tape : w'.tape = w.tape
  output : w'.output = w.output
  size : w.heap.size ≤ w'.heap.size
  block : ∀ k, k < w.heap.size → k ∉ F → w'.heap[k]? = w.heap[k]?
section
variable {F G : List Nat} {a b c w : World}
theorem Keep.refl (F : List Nat) (w : World) : Keep F w w := ⟨rfl, rfl, rfl, Nat.le_refl _, fun _ _ _ => rfl⟩
theorem Keep.of_bel (h : Bel a b) (F : List Nat) : Keep F a b := ⟨Below.os h, Below.tape h, Below.output h, Below.size h, fun k hk _ => Below.block h k hk⟩
theorem Keep.bel (h : Keep F a b) (hF : ∀ k ∈ F, a.heap.size ≤ k) : Bel a b :=
  ⟨h.os, h.tape, h.output, h.size, fun k hk => h.block k hk (fun hm => by have := hF k hm; omega)⟩
theorem Keep.below {n : Nat} (h : Keep F a b) (hn : n ≤ a.heap.size) (hF : ∀ k ∈ F, n ≤ k) : Below n a b :=
  ⟨h.os, h.tape, h.output, h.size, fun k hk => h.block k (by omega) (fun hm => by have := hF k hm; omega)⟩
/-- What is written behind may be of blocks that were laid since. -/
theorem Keep.trans (h : Keep F a b) (k : Keep G b c) (hG : ∀ x ∈ G, x ∈ F ∨ a.heap.size ≤ x) : Keep F a c :=
  ⟨k.os.trans h.os, k.tape.trans h.tape, k.output.trans h.output, Nat.le_trans h.size k.size, fun x hx hF => (k.block x (Nat.lt_of_lt_of_le hx h.size) (fun hm => by
    rcases hG x hm with h1 | h1
    · exact hF h1
    · omega)).trans (h.block x hx hF)⟩
theorem Keep.then (h : Keep F a b) (k : Bel b c) : Keep F a c := h.trans (Keep.of_bel k []) (fun x hx => by cases hx)
theorem Keep.mono (h : Keep F a b) (hG : ∀ x ∈ F, x ∈ G) : Keep G a b := ⟨h.os, h.tape, h.output, h.size, fun k hk hn => h.block k hk (fun hm => hn (hG k hm))⟩
theorem Keep.alloc (h : Keep F a b) (o : Obj) : Keep F a (b.alloc o) := h.then ((Bel.refl b).alloc o)
theorem Keep.drew (h : Keep F a b) : Keep F a b.drew := h.then (Bel.refl b).drew
theorem Keep.drewN (h : Keep F a b) (n : Nat) : Keep F a (b.drewN n) := h.then ((Bel.refl b).drewN n)
theorem Keep.setCell (h : Keep F a b) {p : Addr} (hp : p.block ∈ F ∨ a.heap.size ≤ p.block) (u : Value) : Keep F a (b.setCell p u) :=
  h.trans (G := [p.block]) ⟨rfl, rfl, rfl, by simp [World.setCell], fun k _ hk => Below.heap_setCell _ _ _ _ (by simpa using hk)⟩ (fun x hx => by rw [List.mem_singleton] at hx; rw [hx]; exact hp)
theorem Keep.grown {row : Option Nat} (h : Keep F a b) (hg : b.grownBy c row) (hr : ∀ r, row = some r → r ∈ F ∨ a.heap.size ≤ r) : Keep F a c :=
  h.trans (G := row.toList) ⟨hg.os, hg.tape, hg.output, hg.size, fun k hk hn => hg.block k hk (fun e => hn (by rw [← e]; simp))⟩ (fun x hx => hr x (by simpa using hx))
/-- A block that is not among them lies as it lay. -/
theorem Keep.at (h : Keep F a b) {k : Nat} {o : Obj} (ho : a.heap[k]? = some o) (hk : k ∉ F) : b.heap[k]? = some o :=
  (h.block k (Array.getElem?_eq_some_iff.1 ho).1 hk).trans ho
theorem Keep.cell (h : Keep F a b) {p : Addr} {v : Value} (hc : a.cell? p = some v) (hk : p.block ∉ F) : b.cell? p = some v :=
  (World.cell?_of_block (h.block p.block (block_lt_of_cell hc) hk)).trans hc
theorem Keep.frozen (h : Keep F a b) {p : Addr} (hp : p.block < a.heap.size) (hk : p.block ∉ F) : b.frozen? p = a.frozen? p :=
  World.frozen?_of_block (h.block p.block hp hk)
end
/-- A slice of its own lies as it lay where its block is not written. -/
theorem OwnG.keep {α : Type} {E : El α} {B : Nat} {w x : World} {v : Value} {L : List α} {F : List Nat} (h : OwnG E B w v L) (hk : Keep F w x) (hF : ∀ k, v.ownBlock = some k → k ∉ F) : OwnG E B x v L := by
  obtain ⟨h1, h2⟩ := h
  refine ⟨h1, ?_⟩
  rcases h2 with h2 | ⟨g, cap, cur, rfl, hg, hh, r⟩
  · exact Or.inl h2
  · exact Or.inr ⟨g, cap, cur, rfl, hg, hk.at hh (hF g rfl), r⟩
end Go.Proofs.Ytaabaphpllnieaa
