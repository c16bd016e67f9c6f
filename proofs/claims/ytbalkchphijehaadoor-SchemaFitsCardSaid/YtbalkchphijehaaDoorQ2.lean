/- OwnG, Foot, BOwn, laid together. -/
import Derived.Test.YtbalkchphijehaaDoorQ1
import Derived.StillTailTactics
import Derived.Deep.Heap
import Derived.Deep.RegionLaw
set_option linter.unusedSimpArgs false
set_option linter.unusedVariables false
/- A slice that a call itself made, whatever its elements: what it owns, append onto it, and its cells. -/
namespace Go.Proofs.YtbalkchphijehaaDoor
open Go.RowKit

theorem Bel.trans_below {a b c : World} (h : Bel a b) (k : Below a.heap.size b c) : Bel a c := Below.trans h k
/-- A kind of elements: their type, their slices' type, how many cells one has, and which. -/
structure El (α : Type) where
  T : TypeId
  ST : TypeId
  n : Nat
  cells : α → List Value
structure ElOk {α : Type} (E : El α) (bytes : Nat) : Prop where
  len : ∀ a, (E.cells a).length = E.n
  one : ∀ a, ∀ u ∈ E.cells a, u.oneCell' = true
  und : Tryd.prog.underlying E.ST = some (.slice E.T)
  info : ∃ z, (Tryd.prog.info? E.T).map (fun i => (i.zero, i.size, i.bytes)) = some (some z, E.n, bytes) ∧ z.cells.size = E.n
  pos : 0 < E.n
def El.all {α : Type} (E : El α) (L : List α) : List Value := L.flatMap E.cells
theorem El.all_len {α : Type} {E : El α} {b : Nat} (h : ElOk E b) (L : List α) : (E.all L).length = L.length * E.n := by
  induction L with
  | nil => simp [El.all]
  | cons r L ih => simp only [El.all, List.flatMap_cons, List.length_append, List.length_cons] at *; rw [ih, h.len, Nat.add_mul]; omega
theorem El.all_append {α : Type} (E : El α) (L M : List α) : E.all (L ++ M) = E.all L ++ E.all M := by simp [El.all]
theorem El.all_one {α : Type} {E : El α} {b : Nat} (h : ElOk E b) (L : List α) : ∀ u ∈ E.all L, u.oneCell' = true := by
  intro u hu
  simp only [El.all, List.mem_flatMap] at hu
  obtain ⟨r, _, hr⟩ := hu
  exact h.one r u hr
/-- The slice value v, laid from block B on, holds L. -/
def OwnG {α : Type} (E : El α) (B : Nat) (w : World) (v : Value) (L : List α) : Prop := w.ownsRow B E.T E.n v L.length (E.all L)
section
variable {α : Type} {E : El α} {B : Nat} {w x : World} {v : Value} {L : List α}
theorem OwnG.nil (E : El α) (B : Nat) (w : World) : OwnG E B w (.slice none 0 0) [] := World.ownsRow_nil _ _ _ _
theorem OwnG.alloc (h : OwnG E B w v L) (o : Obj) : OwnG E B (w.alloc o) v L := World.ownsRow.alloc h o
theorem OwnG.drew (h : OwnG E B w v L) : OwnG E B w.drew v L := h
theorem OwnG.drewN (h : OwnG E B w v L) (n : Nat) : OwnG E B (w.drewN n) v L := h
theorem OwnG.bel (h : OwnG E B w v L) (hb : Bel w x) : OwnG E B x v L := by
  obtain ⟨h1, h2⟩ := h
  refine ⟨h1, ?_⟩
  rcases h2 with h2 | ⟨g, cap, cur, hv, hg, hh, r⟩
  · exact Or.inl h2
  · refine Or.inr ⟨g, cap, cur, hv, hg, ?_, r⟩
    have hlt : g < w.heap.size := by
      rcases Nat.lt_or_ge g w.heap.size with h | h
      · exact h
      · rw [Array.getElem?_eq_none h] at hh; cases hh
    rw [Below.block hb g hlt]; exact hh
theorem OwnG.low {B' : Nat} (h : OwnG E B w v L) (hB : B' ≤ B) : OwnG E B' w v L := by
  obtain ⟨h1, h2⟩ := h
  refine ⟨h1, ?_⟩
  rcases h2 with h2 | ⟨g, cap, cur, hv, hg, r⟩
  · exact Or.inl h2
  · exact Or.inr ⟨g, cap, cur, hv, Nat.le_trans hB hg, r⟩
theorem OwnG.setCell (h : OwnG E B w v L) {p : Addr} (hp : p.block < B) (u : Value) : OwnG E B (w.setCell p u) v L := by
  obtain ⟨h1, h2⟩ := h
  refine ⟨h1, ?_⟩
  rcases h2 with h2 | ⟨g, cap, cur, hv, hg, hh, r⟩
  · exact Or.inl h2
  · exact Or.inr ⟨g, cap, cur, hv, hg, (Go.Deep.blk_setCell_other w p u g (by omega)).trans hh, r⟩
theorem OwnG.lt (h : OwnG E B w v L) : ∀ k, v.ownBlock = some k → B ≤ k ∧ k < w.heap.size := World.ownsRow.lt h

theorem wp_append_gen {b : Nat} (hE : ElOk E b) {o : Oper} {a : Act} {K : Act → World → Prop} {Q : Exit → Act → World → Prop} (s y : Operand)
    (ho : o.op = .call { callee := .builtin .append, args := #[s, y], argTypes := #[E.ST, E.ST] })
    (hs : a.eval s = v) (hown : OwnG E B w v L)
    (ad : Addr) (m c : Nat) (news : List α) (hx : a.eval y = .slice (some ad) m c) (hm : m = news.length) (hnews : ∀ j u, (E.all news)[j]? = some u → w.cell? (ad.add j) = some u)
    (hl1 : L.length + news.length ≤ maxLen) (hlim : (L.length + news.length) * b ≤ 140737488355328) (hbase : B ≤ w.heap.size)
    (h : ∀ v' w', OwnG E B w' v' (L ++ news) → w.grownBy w' v.ownBlock → Below B w w' → K (a.put o.dst v') w') : o.wp Tryd.prog a w K Q := by
  obtain ⟨z, hz, hzc⟩ := hE.info
  obtain ⟨i0, hi, hz0, hz1, hz2⟩ := info_parts hz
  subst hm
  refine wp_append_own w s y E.ST ho B E.T i0 z E.n b hE.und hi hz0 hz1 hz2 hzc hE.pos v L.length (E.all L) hs hown ad news.length c (E.all news) hx
    (El.all_len hE _) hnews (El.all_one hE _) hl1 hlim hbase ?_
  intro v' w' h1 h2 _
  refine h v' w' ?_ h2 ((Below.refl B w).grown h2 hbase fun k hk => (hown.lt k hk).1)
  unfold OwnG
  rw [List.length_append, El.all_append]
  exact h1
theorem cellsG_new (w : World) (arr : Array Value) (T : TypeId) (news : List α) (h : arr.toList = E.all news) :
    ∀ j u, (E.all news)[j]? = some u → (w.alloc (.cells arr T)).cell? ((⟨w.heap.size, 0, none⟩ : Addr).add j) = some u := by
  intro j u hj
  rw [← h] at hj
  have e : (⟨w.heap.size, 0, none⟩ : Addr).add j = ⟨w.heap.size, j, none⟩ := by cases j <;> simp [Addr.add]
  rw [e, World.cell?_alloc_new]
  simpa using hj
/-- append(v, a literal's elements): the literal has just been laid. -/
theorem wp_append_glit {b : Nat} (hE : ElOk E b) {o : Oper} {a : Act} {K : Act → World → Prop} {Q : Exit → Act → World → Prop} {W : World} {T : TypeId} (s y : Operand)
    (ho : o.op = .call { callee := .builtin .append, args := #[s, y], argTypes := #[E.ST, E.ST] })
    (hs : a.eval s = v) (hown : OwnG E B x v L)
    (arr : Array Value) (m c : Nat) (news : List α) (hx : a.eval y = .slice (some ⟨x.heap.size, 0, none⟩) m c) (hm : m = news.length) (harr : arr.toList = E.all news)
    (hl1 : L.length + news.length ≤ maxLen) (hlim : (L.length + news.length) * b ≤ 140737488355328) (hbase : B ≤ x.heap.size) (hW : W = x.alloc (.cells arr T) ∨ W = (x.alloc (.cells arr T)).drew)
    (h : ∀ v' w', OwnG E B w' v' (L ++ news) → Below B x w' → B ≤ w'.heap.size → K (a.put o.dst v') w') : o.wp Tryd.prog a W K Q := by
  have hsz : W.heap.size = x.heap.size + 1 := by rcases hW with rfl | rfl <;> simp [World.drew]
  have hc : ∀ j u, (E.all news)[j]? = some u → W.cell? ((⟨x.heap.size, 0, none⟩ : Addr).add j) = some u := by rcases hW with rfl | rfl <;> exact cellsG_new x arr T news harr
  have ho' : OwnG E B W v L := by rcases hW with rfl | rfl <;> exact hown.alloc _
  have hb : Below B x W := by
    rcases hW with rfl | rfl
    · exact (Below.refl B x).alloc hbase _
    · exact ((Below.refl B x).alloc hbase _).drew
  refine wp_append_gen hE s y ho hs ho' ⟨x.heap.size, 0, none⟩ m c news hx hm hc hl1 hlim (by omega) ?_
  intro v' w' h1 _ h2
  have h3 := h2.size
  exact h v' w' h1 (hb.trans h2) (by omega)
theorem append_glit {b : Nat} (hE : ElOk E b) {ops : Array Oper} {rest : List Oper} {o : Oper} {a : Act} {Q : Exit → Act → World → Prop} {W : World} {T : TypeId} (hgd : o.guard = none) (s y : Operand)
    (ho : o.op = .call { callee := .builtin .append, args := #[s, y], argTypes := #[E.ST, E.ST] })
    (hs : a.eval s = v) (hown : OwnG E B x v L)
    (arr : Array Value) (m c : Nat) (news : List α) (hx : a.eval y = .slice (some ⟨x.heap.size, 0, none⟩) m c) (hm : m = news.length) (harr : arr.toList = E.all news)
    (hl1 : L.length + news.length ≤ maxLen) (hlim : (L.length + news.length) * b ≤ 140737488355328) (hbase : B ≤ x.heap.size) (hW : W = x.alloc (.cells arr T) ∨ W = (x.alloc (.cells arr T)).drew)
    (h : ∀ v' w', OwnG E B w' v' (L ++ news) → Below B x w' → B ≤ w'.heap.size → wpList Tryd.prog ops Q rest (a.put o.dst v') w') : wpList Tryd.prog ops Q (o :: rest) a W :=
  wpList_plain hgd fun _ hK => wp_append_glit hE s y ho hs hown arr m c news hx hm harr hl1 hlim hbase hW fun v' w' h1 h2 h3 => hK _ _ (h v' w' h1 h2 h3)
/-- A slice that a literal has just made. -/
theorem ownG_new {b : Nat} (hE : ElOk E b) (B : Nat) (w : World) (arr : Array Value) (l : List α) (h : arr.toList = E.all l) (hB : B ≤ w.heap.size) (hl : l.length ≤ maxLen) :
    OwnG E B (w.alloc (.cells arr E.T)) (.slice (some ⟨w.heap.size, 0, none⟩) l.length l.length) l := by
  refine ⟨El.all_len hE l, Or.inr ⟨w.heap.size, l.length, arr, rfl, hB, heap_alloc_new w _, Nat.le_refl _, hl, ?_, ?_⟩⟩
  · rw [← Array.length_toList, h, El.all_len hE]
  · rw [h, ← El.all_len hE l, List.take_length]
theorem El.all_get {b : Nat} (hE : ElOk E b) : ∀ (L : List α) (i : Nat) (r : α), L[i]? = some r → ∀ j, j < E.n → (E.all L)[i * E.n + j]? = (E.cells r)[j]?
  | [], i, r, h => by simp at h
  | y :: L, 0, r, h => by
    intro j hj
    simp at h; subst h
    simp only [El.all, List.flatMap_cons, Nat.zero_mul, Nat.zero_add]
    rw [List.getElem?_append_left (by rw [hE.len]; exact hj)]
  | y :: L, i + 1, r, h => by
    intro j hj
    have := El.all_get hE L i r (by simpa using h) j hj
    simp only [El.all, List.flatMap_cons] at this ⊢
    rw [List.getElem?_append_right (by rw [hE.len, Nat.add_mul]; omega), hE.len, ← this]
    congr 1
    rw [Nat.add_mul]; omega
/-- What a slice's value and its cells are. -/
theorem ownG_cells {b : Nat} (hE : ElOk E b) (h : OwnG E B w v L) (hne : L ≠ []) :
    ∃ g cap, v = .slice (some ⟨g, 0, none⟩) L.length cap ∧ B ≤ g ∧ g < w.heap.size ∧ L.length ≤ cap ∧ ∀ (i : Nat) r, L[i]? = some r → ∀ (j : Nat) u, (E.cells r)[j]? = some u → w.cell? ⟨g, i * E.n + j, none⟩ = some u := by
  obtain ⟨hlen, h2⟩ := h
  rcases h2 with ⟨_, h0⟩ | ⟨g, cap, cur, rfl, hg, hh, hcap, _, hsz, htk⟩
  · exact absurd (List.length_eq_zero_iff.1 h0) hne
  · refine ⟨g, cap, rfl, hg, ?_, hcap, ?_⟩
    · rcases Nat.lt_or_ge g w.heap.size with h | h
      · exact h
      · rw [Array.getElem?_eq_none h] at hh; cases hh
    · intro i r hr j u hu
      have hi : i < L.length := by
        rcases Nat.lt_or_ge i L.length with h | h
        · exact h
        · rw [List.getElem?_eq_none h] at hr; cases hr
      have hj : j < E.n := by
        rcases Nat.lt_or_ge j E.n with h | h
        · exact h
        · rw [List.getElem?_eq_none (by rw [hE.len]; exact h)] at hu; cases hu
      have a0 := El.all_get hE L i r hr j hj
      have hlt : i * E.n + j < L.length * E.n := by
        have : (i + 1) * E.n ≤ L.length * E.n := Nat.mul_le_mul_right _ hi
        rw [Nat.add_mul] at this; omega
      rw [← htk, List.getElem?_take_of_lt hlt, hu] at a0
      simp [World.cell?, hh]
      simpa using a0
/-- The value is a slice of so many. -/
theorem ownG_len (h : OwnG E B w v L) : ∃ p cap, v = .slice p L.length cap := by
  rcases h.2 with ⟨h1, h0⟩ | ⟨g, cap, cur, rfl, hg, hh, _⟩
  · exact ⟨none, 0, by rw [h1, h0]⟩
  · exact ⟨_, _, rfl⟩
end
end Go.Proofs.YtbalkchphijehaaDoor
/- What a call may write: the blocks of a list; all else that lay there lies as it lay. For objects that a call has made and that others' calls change. -/
namespace Go.Proofs.YtbalkchphijehaaDoor
open Go.RowKit

/-- Of what lay in w nothing has turned in w' but for the blocks of F. -/
structure Keep (F : List Nat) (w w' : World) : Prop where
  os : w'.os = w.os
  tape : w'.tape = w.tape
  output : w'.output = w.output
  size : w.heap.size ≤ w'.heap.size
  block : ∀ k, k < w.heap.size → k ∉ F → w'.heap[k]? = w.heap[k]?
section
variable {F G : List Nat} {a b c w : World}
theorem Keep.refl (F : List Nat) (w : World) : Keep F w w := ⟨rfl, rfl, rfl, Nat.le_refl _, fun _ _ _ => rfl⟩
theorem Keep.of_bel (h : Bel a b) (F : List Nat) : Keep F a b := ⟨Below.os h, Below.tape h, Below.output h, Below.size h, fun k hk _ => Below.block h k hk⟩
theorem Keep.bel (h : Keep F a b) (hF : ∀ k ∈ F, a.heap.size ≤ k) : Bel a b :=
  ⟨h.os, h.tape, h.output, h.size, fun k hk => h.block k hk (fun hm => by have := hF k hm; omega)⟩
theorem Keep.below {n : Nat} (h : Keep F a b) (hn : n ≤ a.heap.size) (hF : ∀ k ∈ F, n ≤ k) : Below n a b :=
  ⟨h.os, h.tape, h.output, h.size, fun k hk => h.block k (by omega) (fun hm => by have := hF k hm; omega)⟩
/-- What is written behind may be of blocks that were laid since. -/
theorem Keep.trans (h : Keep F a b) (k : Keep G b c) (hG : ∀ x ∈ G, x ∈ F ∨ a.heap.size ≤ x) : Keep F a c :=
  ⟨k.os.trans h.os, k.tape.trans h.tape, k.output.trans h.output, Nat.le_trans h.size k.size, fun x hx hF => (k.block x (Nat.lt_of_lt_of_le hx h.size) (fun hm => by
    rcases hG x hm with h1 | h1
    · exact hF h1
    · omega)).trans (h.block x hx hF)⟩
theorem Keep.then (h : Keep F a b) (k : Bel b c) : Keep F a c := h.trans (Keep.of_bel k []) (fun x hx => by cases hx)
theorem Keep.mono (h : Keep F a b) (hG : ∀ x ∈ F, x ∈ G) : Keep G a b := ⟨h.os, h.tape, h.output, h.size, fun k hk hn => h.block k hk (fun hm => hn (hG k hm))⟩
theorem Keep.alloc (h : Keep F a b) (o : Obj) : Keep F a (b.alloc o) := h.then ((Bel.refl b).alloc o)
theorem Keep.drew (h : Keep F a b) : Keep F a b.drew := h.then (Bel.refl b).drew
theorem Keep.drewN (h : Keep F a b) (n : Nat) : Keep F a (b.drewN n) := h.then ((Bel.refl b).drewN n)
theorem Keep.setCell (h : Keep F a b) {p : Addr} (hp : p.block ∈ F ∨ a.heap.size ≤ p.block) (u : Value) : Keep F a (b.setCell p u) :=
  h.trans (G := [p.block]) ⟨rfl, rfl, rfl, by simp [World.setCell], fun k _ hk => Below.heap_setCell _ _ _ _ (by simpa using hk)⟩ (fun x hx => by rw [List.mem_singleton] at hx; rw [hx]; exact hp)
theorem Keep.grown {row : Option Nat} (h : Keep F a b) (hg : b.grownBy c row) (hr : ∀ r, row = some r → r ∈ F ∨ a.heap.size ≤ r) : Keep F a c :=
  h.trans (G := row.toList) ⟨hg.os, hg.tape, hg.output, hg.size, fun k hk hn => hg.block k hk (fun e => hn (by rw [← e]; simp))⟩ (fun x hx => hr x (by simpa using hx))
/-- A block that is not among them lies as it lay. -/
theorem Keep.at (h : Keep F a b) {k : Nat} {o : Obj} (ho : a.heap[k]? = some o) (hk : k ∉ F) : b.heap[k]? = some o :=
  (h.block k (Array.getElem?_eq_some_iff.1 ho).1 hk).trans ho
theorem Keep.cell (h : Keep F a b) {p : Addr} {v : Value} (hc : a.cell? p = some v) (hk : p.block ∉ F) : b.cell? p = some v :=
  (World.cell?_of_block (h.block p.block (block_lt_of_cell hc) hk)).trans hc
theorem Keep.frozen (h : Keep F a b) {p : Addr} (hp : p.block < a.heap.size) (hk : p.block ∉ F) : b.frozen? p = a.frozen? p :=
  World.frozen?_of_block (h.block p.block hp hk)
end
/-- A slice of its own lies as it lay where its block is not written. -/
theorem OwnG.keep {α : Type} {E : El α} {B : Nat} {w x : World} {v : Value} {L : List α} {F : List Nat} (h : OwnG E B w v L) (hk : Keep F w x) (hF : ∀ k, v.ownBlock = some k → k ∉ F) : OwnG E B x v L := by
  obtain ⟨h1, h2⟩ := h
  refine ⟨h1, ?_⟩
  rcases h2 with h2 | ⟨g, cap, cur, rfl, hg, hh, r⟩
  · exact Or.inl h2
  · exact Or.inr ⟨g, cap, cur, rfl, hg, hk.at hh (hF g rfl), r⟩
end Go.Proofs.YtbalkchphijehaaDoor
/- Append onto a slice of one's own, whatever its elements: what else is written (nothing but its own block), and where it lies behind it. Rows of slices. -/
namespace Go.Proofs.YtbalkchphijehaaDoor
open Go.RowKit Go.Deep

/-- A slice whose elements are to be appended. -/
def SrcAt {α : Type} (E : El α) (x : World) (y : Value) (news : List α) : Prop :=
  (y = .slice none 0 0 ∧ news = []) ∨ ∃ ad c, y = .slice (some ad) news.length c ∧ ∀ j u, (E.all news)[j]? = some u → x.cell? (ad.add j) = some u
/-- Where the row lies behind an append: where it lay, or behind all that there was. -/
theorem append_where {α : Type} {E : El α} {B b : Nat} {x : World} {v : Value} {L : List α} (hE : ElOk E b) (hown : OwnG E B x v L) (ty : TypeId) (ad : Addr) (c : Nat) (news : List α) (hnews : ∀ j u, (E.all news)[j]? = some u → x.cell? (ad.add j) = some u)
    (hl1 : L.length + news.length ≤ maxLen) (hlim : (L.length + news.length) * b ≤ 140737488355328) {v' : Value} {w' : World}
    (hr : (Builtin.append_ #[E.ST, E.ST] ty #[v, .slice (some ad) news.length c]).run Tryd.prog x = .ok v' w') : v'.ownBlock = v.ownBlock ∨ v'.ownBlock = some x.heap.size := by
  obtain ⟨z, hz, hzc⟩ := hE.info
  obtain ⟨i, hi, hz0, hz1, hz2⟩ := info_parts hz
  have hsmall : L.length + news.length ≤ 9223372036854775807 := by unfold maxLen at hl1; omega
  have hln : (E.all news).length = news.length * i.size := by rw [El.all_len hE, hz1]
  rcases hown.2 with ⟨rfl, h0⟩ | ⟨g, cap, cur, rfl, hbg, hg, hnc, hcm, hcs, htake⟩
  · by_cases hm : news.length = 0
    · have hr2 : (Builtin.append_ #[E.ST, E.ST] ty #[.slice none 0 0, .slice (some ad) news.length c]).run Tryd.prog x = .ok (.slice none 0 0) x := by
        rw [hm]
        simp [Builtin.append_, run_underlying hE.und, sizeOf, typeInfo, hi, Builtin.lenOf, Builtin.firstCells, loadCells, loadCellsFrom]
      rw [hr2] at hr
      simp only [Result.ok.injEq] at hr
      exact Or.inl (by rw [← hr.1])
    · have hr2 := run_append_nil (P := Tryd.prog) x E.ST ty E.T i z hE.und hi hz0 ad news.length c (E.all news) hln hnews (by omega) (by omega) (by rw [hz2]; have : news.length * b ≤ (L.length + news.length) * b := Nat.mul_le_mul_right _ (by omega); omega)
      rw [hr2] at hr
      simp only [Result.ok.injEq] at hr
      exact Or.inr (by rw [← hr.1]; rfl)
  · by_cases hroom : L.length + news.length ≤ cap
    · have hfit : L.length * i.size + (E.all news).length ≤ cur.size := by rw [hln, hcs, hz1, ← Nat.add_mul]; exact Nat.mul_le_mul_right _ hroom
      have hr2 := run_append_room (P := Tryd.prog) x E.ST ty E.T i hE.und hi g L.length cap cur hg ad news.length c (E.all news) hln hnews (El.all_one hE _) hroom hfit
      rw [hr2] at hr
      simp only [Result.ok.injEq] at hr
      exact Or.inl (by rw [← hr.1]; rfl)
    · have holds : ∀ j u, (E.all L)[j]? = some u → x.cell? ((⟨g, 0, none⟩ : Addr).add j) = some u := World.ownsRow.cells hown rfl
      have hr2 := run_append_grow (P := Tryd.prog) x E.ST ty E.T i z hE.und hi hz0 ⟨g, 0, none⟩ L.length cap (E.all L) (by rw [El.all_len hE, hz1]) holds ad news.length c (E.all news) hln hnews (by omega) (by omega) (growslice_fits (by omega) (by rw [hz2]; exact hlim))
      rw [hr2] at hr
      simp only [Result.ok.injEq] at hr
      exact Or.inr (by rw [← hr.1]; rfl)

theorem run_append_all {α : Type} {E : El α} {n b : Nat} (hE : ElOk E b) {x : World} {v yv : Value} {L : List α} (ty : TypeId) (hown : OwnG E n x v L) (news : List α) (hsrc : SrcAt E x yv news)
    (hl1 : L.length + news.length ≤ maxLen) (hlim : (L.length + news.length) * b ≤ 140737488355328) (hbase : n ≤ x.heap.size) :
    ∃ v' w', (Builtin.append_ #[E.ST, E.ST] ty #[v, yv]).run Tryd.prog x = .ok v' w' ∧ OwnG E n w' v' (L ++ news) ∧ Keep v.ownBlock.toList x w' ∧ (v'.ownBlock = v.ownBlock ∨ v'.ownBlock = some x.heap.size) := by
  obtain ⟨z, hz, hzc⟩ := hE.info
  obtain ⟨i0, hi, hz0, hz1, hz2⟩ := info_parts hz
  rcases hsrc with ⟨rfl, rfl⟩ | ⟨ad, c, rfl, hc⟩
  · have hr := run_append_owned_none (P := Tryd.prog) (w := x) n E.ST ty E.T i0 E.n hE.und hi v L.length (E.all L) hown
    exact ⟨v, x, hr, by simpa using hown, Keep.refl _ _, Or.inl rfl⟩
  · obtain ⟨v', w', hr, h1, h2, h3⟩ := run_append_own (P := Tryd.prog) x n E.ST ty E.T i0 z E.n b hE.und hi hz0 hz1 hz2 hzc hE.pos v L.length (E.all L) hown ad news.length c (E.all news) (El.all_len hE _) hc (El.all_one hE _) hl1 hlim hbase
    have hw := append_where hE hown ty ad c news hc hl1 hlim hr
    refine ⟨v', w', hr, ?_, (Keep.refl _ x).grown h2 (fun r hr => Or.inl (by rw [hr]; simp)), hw⟩
    unfold OwnG
    rw [List.length_append, El.all_append]
    exact h1
theorem wp_append_all {α : Type} {E : El α} {n b : Nat} (hE : ElOk E b) {o : Oper} {a : Act} {K : Act → World → Prop} {Q : Exit → Act → World → Prop} {x : World} (s y : Operand)
    (ho : o.op = .call { callee := .builtin .append, args := #[s, y], argTypes := #[E.ST, E.ST] }) {v yv : Value} {L : List α}
    (hs : a.eval s = v) (hown : OwnG E n x v L) (news : List α) (hy : a.eval y = yv) (hsrc : SrcAt E x yv news)
    (hl1 : L.length + news.length ≤ maxLen) (hlim : (L.length + news.length) * b ≤ 140737488355328) (hbase : n ≤ x.heap.size)
    (h : ∀ v' w', OwnG E n w' v' (L ++ news) → Keep v.ownBlock.toList x w' → (v'.ownBlock = v.ownBlock ∨ v'.ownBlock = some x.heap.size) → K (a.put o.dst v') w') : o.wp Tryd.prog a x K Q := by
  obtain ⟨v', w', hr, h1, h2, h3⟩ := run_append_all hE o.type hown news hsrc hl1 hlim hbase
  unfold Oper.wp execOp
  simp only [ho, resolve, invoke, builtin, Sem.run_bind, Sem.run_pure, Result.andThen_ok, List.map_toArray, List.map_cons, List.map_nil, hs, hy, hr]
  exact h v' w' h1 h2 h3
/-- A literal's elements lie in the block that has just been laid. -/
theorem src_at {α : Type} {E : El α} {W : World} {B c m : Nat} {arr : Array Value} {T : TypeId} (news : List α) (h : W.heap[B]? = some (.cells arr T (0, 0))) (harr : arr.toList = E.all news) (hm : m = news.length) : SrcAt E W (.slice (some ⟨B, 0, none⟩) m c) news := by
  subst hm
  refine Or.inr ⟨_, c, rfl, fun j u hj => ?_⟩
  have e : (⟨B, 0, none⟩ : Addr).add j = ⟨B, j, none⟩ := by cases j <;> simp [Addr.add]
  rw [e]
  rw [← harr] at hj
  simp [World.cell?, h]
  simpa using hj
theorem src_own {α : Type} {E : El α} {n : Nat} {W : World} {v : Value} {L : List α} (h : OwnG E n W v L) : SrcAt E W v L := by
  rcases h.2 with ⟨h1, h0⟩ | ⟨g, cap, cur, rfl, hg, hh, r⟩
  · exact Or.inl ⟨h1, List.length_eq_zero_iff.1 h0⟩
  · exact Or.inr ⟨_, cap, rfl, World.ownsRow.cells h rfl⟩
theorem Keep.own {w x : World} {v : Value} {n : Nat} (h : Keep v.ownBlock.toList w x) (hn : n ≤ w.heap.size) (hv : ∀ k, v.ownBlock = some k → n ≤ k) : Below n w x :=
  h.below hn (fun k hk => hv k (by rwa [Option.mem_toList] at hk))
/-- A slice of no elements that a literal has made. -/
theorem ownG_empty {α : Type} {E : El α} {W : World} {n B : Nat} (h : W.heap[B]? = some (.cells #[] E.T (0, 0))) (hn : n ≤ B) : OwnG E n W (.slice (some ⟨B, 0, none⟩) 0 0) [] := by
  refine ⟨by simp [El.all], Or.inr ⟨B, 0, #[], rfl, hn, h, Nat.le_refl _, by unfold maxLen; omega, by simp, by simp [El.all]⟩⟩
/-- A slice as a row's element. -/
structure SL where
  p : Option Addr
  len : Nat
  cap : Nat
def SL.val (s : SL) : Value := .slice s.p s.len s.cap
/-- Rows, and a row that is begun: each lies in blocks of its own. -/
structure RowsInv {α : Type} (E : El α) (R : El SL) (n : Nat) (x : World) (rv cv : Value) (H : List SL) (rows : List (List α)) (row : List α) : Prop where
  own : OwnG R n x rv H
  len : H.length = rows.length
  els : ∀ (i : Nat) (s : SL) (l : List α), H[i]? = some s → rows[i]? = some l → OwnG E n x s.val l
  apart : ∀ (i : Nat) (s : SL), H[i]? = some s → ∀ k, s.val.ownBlock = some k → cv.ownBlock ≠ some k
  cur : OwnG E n x cv row
section
variable {α : Type} {E : El α} {R : El SL} {n : Nat} {x y : World} {rv cv cv' : Value} {H : List SL} {rows : List (List α)} {row : List α}
theorem RowsInv.bel (h : RowsInv E R n x rv cv H rows row) (hb : Bel x y) : RowsInv E R n y rv cv H rows row := by
  obtain ⟨h1, h2, h3, h4, h5⟩ := h
  exact ⟨h1.bel hb, h2, fun i s l hs hl => (h3 i s l hs hl).bel hb, h4, h5.bel hb⟩
theorem RowsInv.nil (E : El α) (R : El SL) (n : Nat) (x : World) : RowsInv E R n x (.slice none 0 0) (.slice none 0 0) [] [] [] :=
  ⟨OwnG.nil _ _ _, rfl, fun i s l h => by simp at h, fun i s h => by simp at h, OwnG.nil _ _ _⟩
end
end Go.Proofs.YtbalkchphijehaaDoor
