/- OwnG, Foot, laid together. -/
import Derived.Test.YtbalkchphijehaaDoorP1
import Derived.StillTailTactics
import Derived.Deep.Heap
import Derived.Deep.RegionLaw
set_option linter.unusedSimpArgs false
set_option linter.unusedVariables false
/- A slice that a call itself made, whatever its elements: what it owns, append onto it, and its cells. -/
namespace Go.Proofs.YtbalkchphijehaaDoor
open Go.RowKit

theorem Bel.trans_below {a b c : World} (h : Bel a b) (k : Below a.heap.size b c) : Bel a c := Below.trans h k
/-- A kind of elements: their type, their slices' type, how many cells one has, and which. -/
structure El (α : Type) where
  T : TypeId
  ST : TypeId
  n : Nat
  cells : α → List Value
structure ElOk {α : Type} (E : El α) (bytes : Nat) : Prop where
  len : ∀ a, (E.cells a).length = E.n
  one : ∀ a, ∀ u ∈ E.cells a, u.oneCell' = true
  und : Tryd.prog.underlying E.ST = some (.slice E.T)
  info : ∃ z, (Tryd.prog.info? E.T).map (fun i => (i.zero, i.size, i.bytes)) = some (some z, E.n, bytes) ∧ z.cells.size = E.n
  pos : 0 < E.n
def El.all {α : Type} (E : El α) (L : List α) : List Value := L.flatMap E.cells
theorem El.all_len {α : Type} {E : El α} {b : Nat} (h : ElOk E b) (L : List α) : (E.all L).length = L.length * E.n := by
  induction L with
  | nil => simp [El.all]
  | cons r L ih => simp only [El.all, List.flatMap_cons, List.length_append, List.length_cons] at *; rw [ih, h.len, Nat.add_mul]; omega
theorem El.all_append {α : Type} (E : El α) (L M : List α) : E.all (L ++ M) = E.all L ++ E.all M := by simp [El.all]
theorem El.all_one {α : Type} {E : El α} {b : Nat} (h : ElOk E b) (L : List α) : ∀ u ∈ E.all L, u.oneCell' = true := by
  intro u hu
  simp only [El.all, List.mem_flatMap] at hu
  obtain ⟨r, _, hr⟩ := hu
  exact h.one r u hr
/-- The slice value v, laid from block B on, holds L. -/
def OwnG {α : Type} (E : El α) (B : Nat) (w : World) (v : Value) (L : List α) : Prop := w.ownsRow B E.T E.n v L.length (E.all L)
section
variable {α : Type} {E : El α} {B : Nat} {w x : World} {v : Value} {L : List α}
theorem OwnG.nil (E : El α) (B : Nat) (w : World) : OwnG E B w (.slice none 0 0) [] := World.ownsRow_nil _ _ _ _
theorem OwnG.alloc (h : OwnG E B w v L) (o : Obj) : OwnG E B (w.alloc o) v L := World.ownsRow.alloc h o
theorem OwnG.drew (h : OwnG E B w v L) : OwnG E B w.drew v L := h
theorem OwnG.drewN (h : OwnG E B w v L) (n : Nat) : OwnG E B (w.drewN n) v L := h
theorem OwnG.bel (h : OwnG E B w v L) (hb : Bel w x) : OwnG E B x v L := by
  obtain ⟨h1, h2⟩ := h
  refine ⟨h1, ?_⟩
  rcases h2 with h2 | ⟨g, cap, cur, hv, hg, hh, r⟩
  · exact Or.inl h2
  · refine Or.inr ⟨g, cap, cur, hv, hg, ?_, r⟩
    have hlt : g < w.heap.size := by
      rcases Nat.lt_or_ge g w.heap.size with h | h
      · exact h
      · rw [Array.getElem?_eq_none h] at hh; cases hh
    rw [Below.block hb g hlt]; exact hh
theorem OwnG.low {B' : Nat} (h : OwnG E B w v L) (hB : B' ≤ B) : OwnG E B' w v L := by
  obtain ⟨h1, h2⟩ := h
  refine ⟨h1, ?_⟩
  rcases h2 with h2 | ⟨g, cap, cur, hv, hg, r⟩
  · exact Or.inl h2
  · exact Or.inr ⟨g, cap, cur, hv, Nat.le_trans hB hg, r⟩
theorem OwnG.setCell (h : OwnG E B w v L) {p : Addr} (hp : p.block < B) (u : Value) : OwnG E B (w.setCell p u) v L := by
  obtain ⟨h1, h2⟩ := h
  refine ⟨h1, ?_⟩
  rcases h2 with h2 | ⟨g, cap, cur, hv, hg, hh, r⟩
  · exact Or.inl h2
  · exact Or.inr ⟨g, cap, cur, hv, hg, (Go.Deep.blk_setCell_other w p u g (by omega)).trans hh, r⟩
theorem OwnG.lt (h : OwnG E B w v L) : ∀ k, v.ownBlock = some k → B ≤ k ∧ k < w.heap.size := World.ownsRow.lt h

theorem wp_append_gen {b : Nat} (hE : ElOk E b) {o : Oper} {a : Act} {K : Act → World → Prop} {Q : Exit → Act → World → Prop} (s y : Operand)
    (ho : o.op = .call { callee := .builtin .append, args := #[s, y], argTypes := #[E.ST, E.ST] })
    (hs : a.eval s = v) (hown : OwnG E B w v L)
    (ad : Addr) (m c : Nat) (news : List α) (hx : a.eval y = .slice (some ad) m c) (hm : m = news.length) (hnews : ∀ j u, (E.all news)[j]? = some u → w.cell? (ad.add j) = some u)
    (hl1 : L.length + news.length ≤ maxLen) (hlim : (L.length + news.length) * b ≤ 140737488355328) (hbase : B ≤ w.heap.size)
    (h : ∀ v' w', OwnG E B w' v' (L ++ news) → w.grownBy w' v.ownBlock → Below B w w' → K (a.put o.dst v') w') : o.wp Tryd.prog a w K Q := by
  obtain ⟨z, hz, hzc⟩ := hE.info
  obtain ⟨i0, hi, hz0, hz1, hz2⟩ := info_parts hz
  subst hm
  refine wp_append_own w s y E.ST ho B E.T i0 z E.n b hE.und hi hz0 hz1 hz2 hzc hE.pos v L.length (E.all L) hs hown ad news.length c (E.all news) hx
    (El.all_len hE _) hnews (El.all_one hE _) hl1 hlim hbase ?_
  intro v' w' h1 h2 _
  refine h v' w' ?_ h2 ((Below.refl B w).grown h2 hbase fun k hk => (hown.lt k hk).1)
  unfold OwnG
  rw [List.length_append, El.all_append]
  exact h1
theorem cellsG_new (w : World) (arr : Array Value) (T : TypeId) (news : List α) (h : arr.toList = E.all news) :
    ∀ j u, (E.all news)[j]? = some u → (w.alloc (.cells arr T)).cell? ((⟨w.heap.size, 0, none⟩ : Addr).add j) = some u := by
  intro j u hj
  rw [← h] at hj
  have e : (⟨w.heap.size, 0, none⟩ : Addr).add j = ⟨w.heap.size, j, none⟩ := by cases j <;> simp [Addr.add]
  rw [e, World.cell?_alloc_new]
  simpa using hj
/-- append(v, a literal's elements): the literal has just been laid. -/
theorem wp_append_glit {b : Nat} (hE : ElOk E b) {o : Oper} {a : Act} {K : Act → World → Prop} {Q : Exit → Act → World → Prop} {W : World} {T : TypeId} (s y : Operand)
    (ho : o.op = .call { callee := .builtin .append, args := #[s, y], argTypes := #[E.ST, E.ST] })
    (hs : a.eval s = v) (hown : OwnG E B x v L)
    (arr : Array Value) (m c : Nat) (news : List α) (hx : a.eval y = .slice (some ⟨x.heap.size, 0, none⟩) m c) (hm : m = news.length) (harr : arr.toList = E.all news)
    (hl1 : L.length + news.length ≤ maxLen) (hlim : (L.length + news.length) * b ≤ 140737488355328) (hbase : B ≤ x.heap.size) (hW : W = x.alloc (.cells arr T) ∨ W = (x.alloc (.cells arr T)).drew)
    (h : ∀ v' w', OwnG E B w' v' (L ++ news) → Below B x w' → B ≤ w'.heap.size → K (a.put o.dst v') w') : o.wp Tryd.prog a W K Q := by
  have hsz : W.heap.size = x.heap.size + 1 := by rcases hW with rfl | rfl <;> simp [World.drew]
  have hc : ∀ j u, (E.all news)[j]? = some u → W.cell? ((⟨x.heap.size, 0, none⟩ : Addr).add j) = some u := by rcases hW with rfl | rfl <;> exact cellsG_new x arr T news harr
  have ho' : OwnG E B W v L := by rcases hW with rfl | rfl <;> exact hown.alloc _
  have hb : Below B x W := by
    rcases hW with rfl | rfl
    · exact (Below.refl B x).alloc hbase _
    · exact ((Below.refl B x).alloc hbase _).drew
  refine wp_append_gen hE s y ho hs ho' ⟨x.heap.size, 0, none⟩ m c news hx hm hc hl1 hlim (by omega) ?_
  intro v' w' h1 _ h2
  have h3 := h2.size
  exact h v' w' h1 (hb.trans h2) (by omega)
theorem append_glit {b : Nat} (hE : ElOk E b) {ops : Array Oper} {rest : List Oper} {o : Oper} {a : Act} {Q : Exit → Act → World → Prop} {W : World} {T : TypeId} (hgd : o.guard = none) (s y : Operand)
    (ho : o.op = .call { callee := .builtin .append, args := #[s, y], argTypes := #[E.ST, E.ST] })
    (hs : a.eval s = v) (hown : OwnG E B x v L)
    (arr : Array Value) (m c : Nat) (news : List α) (hx : a.eval y = .slice (some ⟨x.heap.size, 0, none⟩) m c) (hm : m = news.length) (harr : arr.toList = E.all news)
    (hl1 : L.length + news.length ≤ maxLen) (hlim : (L.length + news.length) * b ≤ 140737488355328) (hbase : B ≤ x.heap.size) (hW : W = x.alloc (.cells arr T) ∨ W = (x.alloc (.cells arr T)).drew)
    (h : ∀ v' w', OwnG E B w' v' (L ++ news) → Below B x w' → B ≤ w'.heap.size → wpList Tryd.prog ops Q rest (a.put o.dst v') w') : wpList Tryd.prog ops Q (o :: rest) a W :=
  wpList_plain hgd fun _ hK => wp_append_glit hE s y ho hs hown arr m c news hx hm harr hl1 hlim hbase hW fun v' w' h1 h2 h3 => hK _ _ (h v' w' h1 h2 h3)
/-- A slice that a literal has just made. -/
theorem ownG_new {b : Nat} (hE : ElOk E b) (B : Nat) (w : World) (arr : Array Value) (l : List α) (h : arr.toList = E.all l) (hB : B ≤ w.heap.size) (hl : l.length ≤ maxLen) :
    OwnG E B (w.alloc (.cells arr E.T)) (.slice (some ⟨w.heap.size, 0, none⟩) l.length l.length) l := by
  refine ⟨El.all_len hE l, Or.inr ⟨w.heap.size, l.length, arr, rfl, hB, heap_alloc_new w _, Nat.le_refl _, hl, ?_, ?_⟩⟩
  · rw [← Array.length_toList, h, El.all_len hE]
  · rw [h, ← El.all_len hE l, List.take_length]
theorem El.all_get {b : Nat} (hE : ElOk E b) : ∀ (L : List α) (i : Nat) (r : α), L[i]? = some r → ∀ j, j < E.n → (E.all L)[i * E.n + j]? = (E.cells r)[j]?
  | [], i, r, h => by simp at h
  | y :: L, 0, r, h => by
    intro j hj
    simp at h; subst h
    simp only [El.all, List.flatMap_cons, Nat.zero_mul, Nat.zero_add]
    rw [List.getElem?_append_left (by rw [hE.len]; exact hj)]
  | y :: L, i + 1, r, h => by
    intro j hj
    have := El.all_get hE L i r (by simpa using h) j hj
    simp only [El.all, List.flatMap_cons] at this ⊢
    rw [List.getElem?_append_right (by rw [hE.len, Nat.add_mul]; omega), hE.len, ← this]
    congr 1
    rw [Nat.add_mul]; omega
/-- What a slice's value and its cells are. -/
theorem ownG_cells {b : Nat} (hE : ElOk E b) (h : OwnG E B w v L) (hne : L ≠ []) :
    ∃ g cap, v = .slice (some ⟨g, 0, none⟩) L.length cap ∧ B ≤ g ∧ g < w.heap.size ∧ L.length ≤ cap ∧ ∀ (i : Nat) r, L[i]? = some r → ∀ (j : Nat) u, (E.cells r)[j]? = some u → w.cell? ⟨g, i * E.n + j, none⟩ = some u := by
  obtain ⟨hlen, h2⟩ := h
  rcases h2 with ⟨_, h0⟩ | ⟨g, cap, cur, rfl, hg, hh, hcap, _, hsz, htk⟩
  · exact absurd (List.length_eq_zero_iff.1 h0) hne
  · refine ⟨g, cap, rfl, hg, ?_, hcap, ?_⟩
    · rcases Nat.lt_or_ge g w.heap.size with h | h
      · exact h
      · rw [Array.getElem?_eq_none h] at hh; cases hh
    · intro i r hr j u hu
      have hi : i < L.length := by
        rcases Nat.lt_or_ge i L.length with h | h
        · exact h
        · rw [List.getElem?_eq_none h] at hr; cases hr
      have hj : j < E.n := by
        rcases Nat.lt_or_ge j E.n with h | h
        · exact h
        · rw [List.getElem?_eq_none (by rw [hE.len]; exact h)] at hu; cases hu
      have a0 := El.all_get hE L i r hr j hj
      have hlt : i * E.n + j < L.length * E.n := by
        have : (i + 1) * E.n ≤ L.length * E.n := Nat.mul_le_mul_right _ hi
        rw [Nat.add_mul] at this; omega
      rw [← htk, List.getElem?_take_of_lt hlt, hu] at a0
      simp [World.cell?, hh]
      simpa using a0
/-- The value is a slice of so many. -/
theorem ownG_len (h : OwnG E B w v L) : ∃ p cap, v = .slice p L.length cap := by
  rcases h.2 with ⟨h1, h0⟩ | ⟨g, cap, cur, rfl, hg, hh, _⟩
  · exact ⟨none, 0, by rw [h1, h0]⟩
  · exact ⟨_, _, rfl⟩
end
end Go.Proofs.YtbalkchphijehaaDoor
/- What a call may write: the blocks of a list; all else that lay there lies as it lay. For objects that a call has made and that others' calls change. -/
namespace Go.Proofs.YtbalkchphijehaaDoor
open Go.RowKit

/-- Of what lay in w nothing has turned in w' but for the blocks of F. -/
structure Keep (F : List Nat) (w w' : World) : Prop where
  os : w'.os = w.os
  tape : w'.tape = w.tape
  output : w'.output = w.output
  size : w.heap.size ≤ w'.heap.size
  block : ∀ k, k < w.heap.size → k ∉ F → w'.heap[k]? = w.heap[k]?
section
variable {F G : List Nat} {a b c w : World}
theorem Keep.refl (F : List Nat) (w : World) : Keep F w w := ⟨rfl, rfl, rfl, Nat.le_refl _, fun _ _ _ => rfl⟩
theorem Keep.of_bel (h : Bel a b) (F : List Nat) : Keep F a b := ⟨Below.os h, Below.tape h, Below.output h, Below.size h, fun k hk _ => Below.block h k hk⟩
theorem Keep.bel (h : Keep F a b) (hF : ∀ k ∈ F, a.heap.size ≤ k) : Bel a b :=
  ⟨h.os, h.tape, h.output, h.size, fun k hk => h.block k hk (fun hm => by have := hF k hm; omega)⟩
theorem Keep.below {n : Nat} (h : Keep F a b) (hn : n ≤ a.heap.size) (hF : ∀ k ∈ F, n ≤ k) : Below n a b :=
  ⟨h.os, h.tape, h.output, h.size, fun k hk => h.block k (by omega) (fun hm => by have := hF k hm; omega)⟩
/-- What is written behind may be of blocks that were laid since. -/
theorem Keep.trans (h : Keep F a b) (k : Keep G b c) (hG : ∀ x ∈ G, x ∈ F ∨ a.heap.size ≤ x) : Keep F a c :=
  ⟨k.os.trans h.os, k.tape.trans h.tape, k.output.trans h.output, Nat.le_trans h.size k.size, fun x hx hF => (k.block x (Nat.lt_of_lt_of_le hx h.size) (fun hm => by
    rcases hG x hm with h1 | h1
    · exact hF h1
    · omega)).trans (h.block x hx hF)⟩
theorem Keep.then (h : Keep F a b) (k : Bel b c) : Keep F a c := h.trans (Keep.of_bel k []) (fun x hx => by cases hx)
theorem Keep.mono (h : Keep F a b) (hG : ∀ x ∈ F, x ∈ G) : Keep G a b := ⟨h.os, h.tape, h.output, h.size, fun k hk hn => h.block k hk (fun hm => hn (hG k hm))⟩
theorem Keep.alloc (h : Keep F a b) (o : Obj) : Keep F a (b.alloc o) := h.then ((Bel.refl b).alloc o)
theorem Keep.drew (h : Keep F a b) : Keep F a b.drew := h.then (Bel.refl b).drew
theorem Keep.drewN (h : Keep F a b) (n : Nat) : Keep F a (b.drewN n) := h.then ((Bel.refl b).drewN n)
theorem Keep.setCell (h : Keep F a b) {p : Addr} (hp : p.block ∈ F ∨ a.heap.size ≤ p.block) (u : Value) : Keep F a (b.setCell p u) :=
  h.trans (G := [p.block]) ⟨rfl, rfl, rfl, by simp [World.setCell], fun k _ hk => Below.heap_setCell _ _ _ _ (by simpa using hk)⟩ (fun x hx => by rw [List.mem_singleton] at hx; rw [hx]; exact hp)
theorem Keep.grown {row : Option Nat} (h : Keep F a b) (hg : b.grownBy c row) (hr : ∀ r, row = some r → r ∈ F ∨ a.heap.size ≤ r) : Keep F a c :=
  h.trans (G := row.toList) ⟨hg.os, hg.tape, hg.output, hg.size, fun k hk hn => hg.block k hk (fun e => hn (by rw [← e]; simp))⟩ (fun x hx => hr x (by simpa using hx))
/-- A block that is not among them lies as it lay. -/
theorem Keep.at (h : Keep F a b) {k : Nat} {o : Obj} (ho : a.heap[k]? = some o) (hk : k ∉ F) : b.heap[k]? = some o :=
  (h.block k (Array.getElem?_eq_some_iff.1 ho).1 hk).trans ho
theorem Keep.cell (h : Keep F a b) {p : Addr} {v : Value} (hc : a.cell? p = some v) (hk : p.block ∉ F) : b.cell? p = some v :=
  (World.cell?_of_block (h.block p.block (block_lt_of_cell hc) hk)).trans hc
theorem Keep.frozen (h : Keep F a b) {p : Addr} (hp : p.block < a.heap.size) (hk : p.block ∉ F) : b.frozen? p = a.frozen? p :=
  World.frozen?_of_block (h.block p.block hp hk)
end
/-- A slice of its own lies as it lay where its block is not written. -/
theorem OwnG.keep {α : Type} {E : El α} {B : Nat} {w x : World} {v : Value} {L : List α} {F : List Nat} (h : OwnG E B w v L) (hk : Keep F w x) (hF : ∀ k, v.ownBlock = some k → k ∉ F) : OwnG E B x v L := by
  obtain ⟨h1, h2⟩ := h
  refine ⟨h1, ?_⟩
  rcases h2 with h2 | ⟨g, cap, cur, rfl, hg, hh, r⟩
  · exact Or.inl h2
  · exact Or.inr ⟨g, cap, cur, rfl, hg, hk.at hh (hF g rfl), r⟩
end Go.Proofs.YtbalkchphijehaaDoor
