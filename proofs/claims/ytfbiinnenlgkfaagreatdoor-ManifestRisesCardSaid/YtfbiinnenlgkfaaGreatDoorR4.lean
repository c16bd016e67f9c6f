/- OwnG, Foot, FRef, FThere, laid together. -/
import Derived.Test.YtfbiinnenlgkfaaGreatDoorR1
import Derived.StillTailTactics
import Derived.Deep.Heap
import Derived.Deep.RegionLaw
import Derived.Lib.Hide
set_option linter.unusedSimpArgs false
set_option linter.unusedVariables false
namespace Go.Proofs.YtfbiinnenlgkfaaGreatDoor
open Go.RowKit

theorem Bel.trans_below {a b c : World} (h : Bel a b) (k : Below a.heap.size b c) : Bel a c := Below.trans h k
structure El (α : Type) where
 T : TypeId
 ST : TypeId
 n : Nat
 cells : α → List Value
structure ElOk {α : Type} (E : El α) (bytes : Nat) : Prop where
 len : ∀ a, (E.cells a).length = E.n
 one : ∀ a, ∀ u ∈ E.cells a, u.oneCell' = true
 und : Tryz.prog.underlying E.ST = some (.slice E.T)
 info : ∃ z, (Tryz.prog.info? E.T).map (fun i => (i.zero, i.size, i.bytes)) = some (some z, E.n, bytes) ∧ z.cells.size = E.n
 pos : 0 < E.n
def El.all {α : Type} (E : El α) (L : List α) : List Value := L.flatMap E.cells
theorem El.all_len {α : Type} {E : El α} {b : Nat} (h : ElOk E b) (L : List α) : (E.all L).length = L.length * E.n := by
 induction L with
 | nil => simp [El.all]
 | cons r L ih => simp only [El.all, List.flatMap_cons, List.length_append, List.length_cons] at *; rw [ih, h.len, Nat.add_mul]; omega
theorem El.all_append {α : Type} (E : El α) (L M : List α) : E.all (L ++ M) = E.all L ++ E.all M := by simp [El.all]
theorem El.all_one {α : Type} {E : El α} {b : Nat} (h : ElOk E b) (L : List α) : ∀ u ∈ E.all L, u.oneCell' = true := by
 intro u hu
 simp only [El.all, List.mem_flatMap] at hu
 obtain ⟨r, _, hr⟩ := hu
 exact h.one r u hr
def OwnG {α : Type} (E : El α) (B : Nat) (w : World) (v : Value) (L : List α) : Prop := w.ownsRow B E.T E.n v L.length (E.all L)
section
variable {α : Type} {E : El α} {B : Nat} {w x : World} {v : Value} {L : List α}
theorem OwnG.nil (E : El α) (B : Nat) (w : World) : OwnG E B w (.slice none 0 0) [] := World.ownsRow_nil _ _ _ _
theorem OwnG.alloc (h : OwnG E B w v L) (o : Obj) : OwnG E B (w.alloc o) v L := World.ownsRow.alloc h o
theorem OwnG.drew (h : OwnG E B w v L) : OwnG E B w.drew v L := h
theorem OwnG.drewN (h : OwnG E B w v L) (n : Nat) : OwnG E B (w.drewN n) v L := h
theorem OwnG.bel (h : OwnG E B w v L) (hb : Bel w x) : OwnG E B x v L := by
 obtain ⟨h1, h2⟩ := h
 refine ⟨h1, ?_⟩
 rcases h2 with h2 | ⟨g, cap, cur, hv, hg, hh, r⟩
 ·exact Or.inl h2
 ·refine Or.inr ⟨g, cap, cur, hv, hg, ?_, r⟩
  have hlt : g < w.heap.size := by
   rcases Nat.lt_or_ge g w.heap.size with h | h
   ·exact h
   ·rw [Array.getElem?_eq_none h] at hh; cases hh
  rw [Below.block hb g hlt]; exact hh
theorem OwnG.low {B' : Nat} (h : OwnG E B w v L) (hB : B' ≤ B) : OwnG E B' w v L := by
 obtain ⟨h1, h2⟩ := h
 refine ⟨h1, ?_⟩
 rcases h2 with h2 | ⟨g, cap, cur, hv, hg, r⟩
 ·exact Or.inl h2
 ·exact Or.inr ⟨g, cap, cur, hv, Nat.le_trans hB hg, r⟩
theorem OwnG.setCell (h : OwnG E B w v L) {p : Addr} (hp : p.block < B) (u : Value) : OwnG E B (w.setCell p u) v L := by
 obtain ⟨h1, h2⟩ := h
 refine ⟨h1, ?_⟩
 rcases h2 with h2 | ⟨g, cap, cur, hv, hg, hh, r⟩
 ·exact Or.inl h2
 ·exact Or.inr ⟨g, cap, cur, hv, hg, (Go.Deep.blk_setCell_other w p u g (by omega)).trans hh, r⟩
theorem OwnG.lt (h : OwnG E B w v L) : ∀ k, v.ownBlock = some k → B ≤ k ∧ k < w.heap.size := World.ownsRow.lt h

theorem wp_append_gen {b : Nat} (hE : ElOk E b) {o : Oper} {a : Act} {K : Act → World → Prop} {Q : Exit → Act → World → Prop} (s y : Operand)
  (ho : o.op = .call { callee := .builtin .append, args := #[s, y], argTypes := #[E.ST, E.ST] })
  (hs : a.eval s = v) (hown : OwnG E B w v L)
  (ad : Addr) (m c : Nat) (news : List α) (hx : a.eval y = .slice (some ad) m c) (hm : m = news.length) (hnews : ∀ j u, (E.all news)[j]? = some u → w.cell? (ad.add j) = some u)
  (hl1 : L.length + news.length ≤ maxLen) (hlim : (L.length + news.length) * b ≤ 140737488355328) (hbase : B ≤ w.heap.size)
  (h : ∀ v' w', OwnG E B w' v' (L ++ news) → w.grownBy w' v.ownBlock → Below B w w' → K (a.put o.dst v') w') : o.wp Tryz.prog a w K Q := by
 obtain ⟨z, hz, hzc⟩ := hE.info
 obtain ⟨i0, hi, hz0, hz1, hz2⟩ := info_parts hz
 subst hm
 refine wp_append_own w s y E.ST ho B E.T i0 z E.n b hE.und hi hz0 hz1 hz2 hzc hE.pos v L.length (E.all L) hs hown ad news.length c (E.all news) hx
  (El.all_len hE _) hnews (El.all_one hE _) hl1 hlim hbase ?_
 intro v' w' h1 h2 _
 refine h v' w' ?_ h2 ((Below.refl B w).grown h2 hbase fun k hk => (hown.lt k hk).1)
 unfold OwnG
 rw [List.length_append, El.all_append]
 exact h1
theorem cellsG_new (w : World) (arr : Array Value) (T : TypeId) (news : List α) (h : arr.toList = E.all news) :
  ∀ j u, (E.all news)[j]? = some u → (w.alloc (.cells arr T)).cell? ((⟨w.heap.size, 0, none⟩ : Addr).add j) = some u := by
 intro j u hj
 rw [← h] at hj
 have e : (⟨w.heap.size, 0, none⟩ : Addr).add j = ⟨w.heap.size, j, none⟩ := by cases j <;> simp [Addr.add]
 rw [e, World.cell?_alloc_new]
 simpa using hj
theorem wp_append_glit {b : Nat} (hE : ElOk E b) {o : Oper} {a : Act} {K : Act → World → Prop} {Q : Exit → Act → World → Prop} {W : World} {T : TypeId} (s y : Operand)
  (ho : o.op = .call { callee := .builtin .append, args := #[s, y], argTypes := #[E.ST, E.ST] })
  (hs : a.eval s = v) (hown : OwnG E B x v L)
  (arr : Array Value) (m c : Nat) (news : List α) (hx : a.eval y = .slice (some ⟨x.heap.size, 0, none⟩) m c) (hm : m = news.length) (harr : arr.toList = E.all news)
  (hl1 : L.length + news.length ≤ maxLen) (hlim : (L.length + news.length) * b ≤ 140737488355328) (hbase : B ≤ x.heap.size) (hW : W = x.alloc (.cells arr T) ∨ W = (x.alloc (.cells arr T)).drew)
  (h : ∀ v' w', OwnG E B w' v' (L ++ news) → Below B x w' → B ≤ w'.heap.size → K (a.put o.dst v') w') : o.wp Tryz.prog a W K Q := by
 have hsz : W.heap.size = x.heap.size + 1 := by rcases hW with rfl | rfl <;> simp [World.drew]
 have hc : ∀ j u, (E.all news)[j]? = some u → W.cell? ((⟨x.heap.size, 0, none⟩ : Addr).add j) = some u := by rcases hW with rfl | rfl <;> exact cellsG_new x arr T news harr
 have ho' : OwnG E B W v L := by rcases hW with rfl | rfl <;> exact hown.alloc _
 have hb : Below B x W := by
  rcases hW with rfl | rfl
  ·exact (Below.refl B x).alloc hbase _
  ·exact ((Below.refl B x).alloc hbase _).drew
 refine wp_append_gen hE s y ho hs ho' ⟨x.heap.size, 0, none⟩ m c news hx hm hc hl1 hlim (by omega) ?_
 intro v' w' h1 _ h2
 have h3 := h2.size
 exact h v' w' h1 (hb.trans h2) (by omega)
theorem append_glit {b : Nat} (hE : ElOk E b) {ops : Array Oper} {rest : List Oper} {o : Oper} {a : Act} {Q : Exit → Act → World → Prop} {W : World} {T : TypeId} (hgd : o.guard = none) (s y : Operand)
  (ho : o.op = .call { callee := .builtin .append, args := #[s, y], argTypes := #[E.ST, E.ST] })
  (hs : a.eval s = v) (hown : OwnG E B x v L)
  (arr : Array Value) (m c : Nat) (news : List α) (hx : a.eval y = .slice (some ⟨x.heap.size, 0, none⟩) m c) (hm : m = news.length) (harr : arr.toList = E.all news)
  (hl1 : L.length + news.length ≤ maxLen) (hlim : (L.length + news.length) * b ≤ 140737488355328) (hbase : B ≤ x.heap.size) (hW : W = x.alloc (.cells arr T) ∨ W = (x.alloc (.cells arr T)).drew)
  (h : ∀ v' w', OwnG E B w' v' (L ++ news) → Below B x w' → B ≤ w'.heap.size → wpList Tryz.prog ops Q rest (a.put o.dst v') w') : wpList Tryz.prog ops Q (o :: rest) a W :=
 wpList_plain hgd fun _ hK => wp_append_glit hE s y ho hs hown arr m c news hx hm harr hl1 hlim hbase hW fun v' w' h1 h2 h3 => hK _ _ (h v' w' h1 h2 h3)
theorem ownG_new {b : Nat} (hE : ElOk E b) (B : Nat) (w : World) (arr : Array Value) (l : List α) (h : arr.toList = E.all l) (hB : B ≤ w.heap.size) (hl : l.length ≤ maxLen) :
  OwnG E B (w.alloc (.cells arr E.T)) (.slice (some ⟨w.heap.size, 0, none⟩) l.length l.length) l := by
 refine ⟨El.all_len hE l, Or.inr ⟨w.heap.size, l.length, arr, rfl, hB, heap_alloc_new w _, Nat.le_refl _, hl, ?_, ?_⟩⟩
 ·rw [← Array.length_toList, h, El.all_len hE]
 ·rw [h, ← El.all_len hE l, List.take_length]
theorem El.all_get {b : Nat} (hE : ElOk E b) : ∀ (L : List α) (i : Nat) (r : α), L[i]? = some r → ∀ j, j < E.n → (E.all L)[i * E.n + j]? = (E.cells r)[j]?
 | [], i, r, h => by simp at h
 | y :: L, 0, r, h => by
  intro j hj
  simp at h; subst h
  simp only [El.all, List.flatMap_cons, Nat.zero_mul, Nat.zero_add]
  rw [List.getElem?_append_left (by rw [hE.len]; exact hj)]
 | y :: L, i + 1, r, h => by
  intro j hj
  have := El.all_get hE L i r (by simpa using h) j hj
  simp only [El.all, List.flatMap_cons] at this ⊢
  rw [List.getElem?_append_right (by rw [hE.len, Nat.add_mul]; omega), hE.len, ← this]
  congr 1
  rw [Nat.add_mul]; omega
theorem ownG_cells {b : Nat} (hE : ElOk E b) (h : OwnG E B w v L) (hne : L ≠ []) :
  ∃ g cap, v = .slice (some ⟨g, 0, none⟩) L.length cap ∧ B ≤ g ∧ g < w.heap.size ∧ L.length ≤ cap ∧ ∀ (i : Nat) r, L[i]? = some r → ∀ (j : Nat) u, (E.cells r)[j]? = some u → w.cell? ⟨g, i * E.n + j, none⟩ = some u := by
 obtain ⟨hlen, h2⟩ := h
 rcases h2 with ⟨_, h0⟩ | ⟨g, cap, cur, rfl, hg, hh, hcap, _, hsz, htk⟩
 ·exact absurd (List.length_eq_zero_iff.1 h0) hne
 ·refine ⟨g, cap, rfl, hg, ?_, hcap, ?_⟩
  ·rcases Nat.lt_or_ge g w.heap.size with h | h
   ·exact h
   ·rw [Array.getElem?_eq_none h] at hh; cases hh
  ·intro i r hr j u hu
   have hi : i < L.length := by
    rcases Nat.lt_or_ge i L.length with h | h
    ·exact h
    ·rw [List.getElem?_eq_none h] at hr; cases hr
   have hj : j < E.n := by
    rcases Nat.lt_or_ge j E.n with h | h
    ·exact h
    ·rw [List.getElem?_eq_none (by rw [hE.len]; exact h)] at hu; cases hu
   have a0 := El.all_get hE L i r hr j hj
   have hlt : i * E.n + j < L.length * E.n := by
    have : (i + 1) * E.n ≤ L.length * E.n := Nat.mul_le_mul_right _ hi
    rw [Nat.add_mul] at this; omega
   rw [← htk, List.getElem?_take_of_lt hlt, hu] at a0
   simp [World.cell?, hh]
   simpa using a0
theorem ownG_len (h : OwnG E B w v L) : ∃ p cap, v = .slice p L.length cap := by
 rcases h.2 with ⟨h1, h0⟩ | ⟨g, cap, cur, rfl, hg, hh, _⟩
 ·exact ⟨none, 0, by rw [h1, h0]⟩
 ·exact ⟨_, _, rfl⟩
end

structure Keep (F : List Nat) (w w' : World) : Prop where
 os : w'.os = w.os
 tape : w'.tape = w.tape
 output : w'.output = w.output
 size : w.heap.size ≤ w'.heap.size
 block : ∀ k, k < w.heap.size → k ∉ F → w'.heap[k]? = w.heap[k]?
section
variable {F G : List Nat} {a b c w : World}
theorem Keep.refl (F : List Nat) (w : World) : Keep F w w := ⟨rfl, rfl, rfl, Nat.le_refl _, fun _ _ _ => rfl⟩
theorem Keep.of_bel (h : Bel a b) (F : List Nat) : Keep F a b := ⟨Below.os h, Below.tape h, Below.output h, Below.size h, fun k hk _ => Below.block h k hk⟩
theorem Keep.bel (h : Keep F a b) (hF : ∀ k ∈ F, a.heap.size ≤ k) : Bel a b :=
 ⟨h.os, h.tape, h.output, h.size, fun k hk => h.block k hk (fun hm => by have := hF k hm; omega)⟩
theorem Keep.trans (h : Keep F a b) (k : Keep G b c) (hG : ∀ x ∈ G, x ∈ F ∨ a.heap.size ≤ x) : Keep F a c :=
 ⟨k.os.trans h.os, k.tape.trans h.tape, k.output.trans h.output, Nat.le_trans h.size k.size, fun x hx hF => (k.block x (Nat.lt_of_lt_of_le hx h.size) (fun hm => by
  rcases hG x hm with h1 | h1
  ·exact hF h1
  ·omega)).trans (h.block x hx hF)⟩
theorem Keep.then (h : Keep F a b) (k : Bel b c) : Keep F a c := h.trans (Keep.of_bel k []) (fun x hx => by cases hx)
theorem Keep.mono (h : Keep F a b) (hG : ∀ x ∈ F, x ∈ G) : Keep G a b := ⟨h.os, h.tape, h.output, h.size, fun k hk hn => h.block k hk (fun hm => hn (hG k hm))⟩
theorem Keep.alloc (h : Keep F a b) (o : Obj) : Keep F a (b.alloc o) := h.then ((Bel.refl b).alloc o)
theorem Keep.drew (h : Keep F a b) : Keep F a b.drew := h.then (Bel.refl b).drew
theorem Keep.drewN (h : Keep F a b) (n : Nat) : Keep F a (b.drewN n) := h.then ((Bel.refl b).drewN n)
theorem Keep.setCell (h : Keep F a b) {p : Addr} (hp : p.block ∈ F ∨ a.heap.size ≤ p.block) (u : Value) : Keep F a (b.setCell p u) :=
 h.trans (G := [p.block]) ⟨rfl, rfl, rfl, by simp [World.setCell], fun k _ hk => Below.heap_setCell _ _ _ _ (by simpa using hk)⟩ (fun x hx => by rw [List.mem_singleton] at hx; rw [hx]; exact hp)
theorem Keep.grown {row : Option Nat} (h : Keep F a b) (hg : b.grownBy c row) (hr : ∀ r, row = some r → r ∈ F ∨ a.heap.size ≤ r) : Keep F a c :=
 h.trans (G := row.toList) ⟨hg.os, hg.tape, hg.output, hg.size, fun k hk hn => hg.block k hk (fun e => hn (by rw [← e]; simp))⟩ (fun x hx => hr x (by simpa using hx))
theorem Keep.at (h : Keep F a b) {k : Nat} {o : Obj} (ho : a.heap[k]? = some o) (hk : k ∉ F) : b.heap[k]? = some o :=
 (h.block k (Array.getElem?_eq_some_iff.1 ho).1 hk).trans ho
theorem Keep.cell (h : Keep F a b) {p : Addr} {v : Value} (hc : a.cell? p = some v) (hk : p.block ∉ F) : b.cell? p = some v :=
 (World.cell?_of_block (h.block p.block (block_lt_of_cell hc) hk)).trans hc
theorem Keep.frozen (h : Keep F a b) {p : Addr} (hp : p.block < a.heap.size) (hk : p.block ∉ F) : b.frozen? p = a.frozen? p :=
 World.frozen?_of_block (h.block p.block hp hk)
end
theorem OwnG.keep {α : Type} {E : El α} {B : Nat} {w x : World} {v : Value} {L : List α} {F : List Nat} (h : OwnG E B w v L) (hk : Keep F w x) (hF : ∀ k, v.ownBlock = some k → k ∉ F) : OwnG E B x v L := by
 obtain ⟨h1, h2⟩ := h
 refine ⟨h1, ?_⟩
 rcases h2 with h2 | ⟨g, cap, cur, rfl, hg, hh, r⟩
 ·exact Or.inl h2
 ·exact Or.inr ⟨g, cap, cur, rfl, hg, hk.at hh (hF g rfl), r⟩
end Go.Proofs.YtfbiinnenlgkfaaGreatDoor
namespace Go.Proofs.YtfbiinnenlgkfaaGreatDoor
open Go.RowKit Go.Deep

structure FI where
 name : List UInt8
 bytes : List UInt8
 safe : Nat
def fileEl : El FI := ⟨74, 68, 3, fun x => [.string ⟨x.name.toArray⟩, .string ⟨x.bytes.toArray⟩, .int .i64 x.safe]⟩
theorem fileOk : ElOk fileEl 40 := ⟨fun _ => rfl, fun a u hu => by simp [fileEl] at hu; rcases hu with rfl | rfl | rfl <;> rfl, by kernel_rfl, ⟨.agg #[.string ⟨#[]⟩, .string ⟨#[]⟩, .int .i64 0], by kernel_rfl, rfl⟩, by decide⟩
structure RS where
 L : List FI
 room : Int
 turns : Int
 gone : Bool
structure RefAt (n₀ : Nat) (w : World) (b : Nat) (M : RS) (v : Value) : Prop where
 blk : w.heap[b]? = some (.cells #[v, .int .i64 M.room, .int .i64 M.turns, .bool M.gone] 70 (0, 0))
 own : OwnG fileEl n₀ w v M.L
 low : n₀ ≤ b
theorem RefAt.cells {n₀ : Nat} {w : World} {b : Nat} {M : RS} {v : Value} (h : RefAt n₀ w b M v) :
  w.cell? ⟨b, 0, none⟩ = some v ∧ w.cell? ⟨b, 1, none⟩ = some (.int .i64 M.room) ∧ w.cell? ⟨b, 2, none⟩ = some (.int .i64 M.turns) ∧ w.cell? ⟨b, 3, none⟩ = some (.bool M.gone) := by
 have := h.blk
 refine ⟨?_, ?_, ?_, ?_⟩ <;> simp [World.cell?, this]
theorem RefAt.frozen {n₀ : Nat} {w : World} {b : Nat} {M : RS} {v : Value} (h : RefAt n₀ w b M v) (i : Nat) : w.frozen? ⟨b, i, none⟩ = false := by
 simp [World.frozen?, h.blk]

theorem blk_set {w : World} {b : Nat} {arr : Array Value} {T : TypeId} (h : w.heap[b]? = some (.cells arr T (0, 0))) (i : Nat) (u : Value) :
  (w.setCell ⟨b, i, none⟩ u).heap[b]? = some (.cells (arr.setIfInBounds i u) T (0, 0)) := by
 obtain ⟨hlt, hk⟩ := Array.getElem?_eq_some_iff.1 h
 show (w.heap.modify b _)[b]? = _
 rw [Array.getElem?_eq_getElem (by rw [Array.size_modify]; exact hlt), Array.getElem_modify_self, hk]
 rfl
section
variable {n₀ : Nat} {w x : World} {b : Nat} {M : RS} {v : Value}
theorem RefAt.own_ne (h : RefAt n₀ w b M v) {L : List FI} {v' : Value} (ho : OwnG fileEl n₀ w v' L) : ∀ k, v'.ownBlock = some k → k ≠ b := by
 intro k hk e
 subst e
 rcases ho.2 with ⟨rfl, _⟩ | ⟨g, cap, cur, rfl, _, hgb, _⟩
 ·simp [Value.ownBlock] at hk
 ·obtain rfl : g = k := by simpa [Value.ownBlock] using hk
  have := h.blk.symm.trans hgb
  simp [fileEl] at this
theorem RefAt.lt (h : RefAt n₀ w b M v) : b < w.heap.size := (Array.getElem?_eq_some_iff.1 h.blk).1
theorem RefAt.keep {F : List Nat} (h : RefAt n₀ w b M v) (hk : Keep F w x) (hb : b ∉ F) (hv : ∀ k, v.ownBlock = some k → k ∉ F) : RefAt n₀ x b M v :=
 ⟨hk.at h.blk hb, h.own.keep hk hv, h.low⟩
theorem RefAt.bel (h : RefAt n₀ w b M v) (hk : Bel w x) : RefAt n₀ x b M v := h.keep (Keep.of_bel hk []) (by simp) (fun k _ => by simp)
theorem keep_set (w : World) (b i : Nat) (u : Value) : Keep [b] w (w.setCell ⟨b, i, none⟩ u) := (Keep.refl _ w).setCell (p := ⟨b, i, none⟩) (Or.inl (by simp)) u
theorem RefAt.put_gone (h : RefAt n₀ w b M v) (g : Bool) : RefAt n₀ (w.setCell ⟨b, 3, none⟩ (.bool g)) b { M with gone := g } v :=
 ⟨blk_set h.blk 3 _, h.own.keep (keep_set w b 3 _) (fun k hk => by simpa using h.own_ne h.own k hk), h.low⟩
theorem RefAt.put_turns (h : RefAt n₀ w b M v) (t : Int) : RefAt n₀ (w.setCell ⟨b, 2, none⟩ (.int .i64 t)) b { M with turns := t } v :=
 ⟨blk_set h.blk 2 _, h.own.keep (keep_set w b 2 _) (fun k hk => by simpa using h.own_ne h.own k hk), h.low⟩
theorem RefAt.put_files (h : RefAt n₀ w b M v) {v' : Value} {L' : List FI} (ho : OwnG fileEl n₀ w v' L') : RefAt n₀ (w.setCell ⟨b, 0, none⟩ v') b { M with L := L' } v' :=
 ⟨blk_set h.blk 0 _, ho.keep (keep_set w b 0 _) (fun k hk => by simpa using h.own_ne ho k hk), h.low⟩
end

def findN (name : List UInt8) : List FI → Nat
 | [] => 0
 | x :: L => if Op.bytesLess x.name name = true then findN name L + 1 else 0
def isN (name : List UInt8) (L : List FI) : Bool := match L[findN name L]? with
 | some x => x.name == name
 | none => false
theorem find_le (name : List UInt8) : ∀ L, findN name L ≤ L.length
 | [] => Nat.le_refl _
 | x :: L => by rw [findN, List.length_cons]; have := find_le name L; split <;> omega
theorem find_less (name : List UInt8) : ∀ (L : List FI) (k : Nat) (h : k < L.length), k < findN name L → Op.bytesLess L[k].name name = true
 | [], k, h, _ => by simp at h
 | x :: L, 0, h, hk => by
  rw [findN] at hk
  split at hk
  ·assumption
  ·omega
 | x :: L, k + 1, h, hk => by
  rw [findN] at hk
  split at hk
  ·exact find_less name L k (by simpa using h) (by omega)
  ·omega
theorem find_stop (name : List UInt8) : ∀ (L : List FI) (h : findN name L < L.length), Op.bytesLess L[findN name L].name name = false
 | [], h => by simp at h
 | x :: L, h => by
  by_cases hx : Op.bytesLess x.name name = true
  ·have e : findN name (x :: L) = findN name L + 1 := by rw [findN, if_pos hx]
   simp only [e, List.getElem_cons_succ]
   exact find_stop name L (by rw [e] at h; simpa using h)
  ·have e : findN name (x :: L) = 0 := by rw [findN, if_neg hx]
   simp only [e, List.getElem_cons_zero]
   simpa using hx
theorem is_at (name : List UInt8) (L : List FI) (h : findN name L < L.length) : isN name L = (L[findN name L].name == name) := by
 rw [isN, List.getElem?_eq_getElem h]
theorem is_end (name : List UInt8) (L : List FI) (h : ¬ findN name L < L.length) : isN name L = false := by
 rw [isN, List.getElem?_eq_none (by omega)]
def FdRel (fn : Nat) (i : Value) : Prop := ∃ k : Nat, i = .int .i64 k ∧ k ≤ fn

set_option maxHeartbeats 4000000 in
theorem find_any (n₀ : Nat) (w : World) (b : Nat) (M : RS) (v : Value) (s : ByteArray) (h : RefAt n₀ w b M v) (hL : M.L.length ≤ 1000) :
  Calls Tryz.prog 64 #[.pointer (some ⟨b, 0, none⟩), .string s] w fun e w' =>
   e = .returned (.tuple #[.int .i64 (findN s.data.toList M.L : Nat), .bool (isN s.data.toList M.L)]) ∧ Drw w w' := by
 obtain ⟨c0, -, -, -⟩ := h.cells
 obtain ⟨pp, cap, rfl⟩ := ownG_len h.own
 obtain ⟨fn, hfn⟩ : ∃ fn, fn = findN s.data.toList M.L := ⟨_, rfl⟩
 obtain ⟨is, his⟩ : ∃ is, is = isN s.data.toList M.L := ⟨_, rfl⟩
 have hle : fn ≤ M.L.length := by rw [hfn]; exact find_le _ _
 have F1 := Lib.hid (show ∀ k (h : k < M.L.length), k < fn → Op.bytesLess M.L[k].name s.toList = true by
  rw [ByteArray.toList_eq, hfn]; exact find_less _ _)
 have F2 := Lib.hid (show ∀ k (h : k < M.L.length), k = fn → Op.bytesLess M.L[k].name s.toList = false ∧ (M.L[k].name == s.toList) = is by
  rw [ByteArray.toList_eq, his]
  rintro k h rfl
  subst hfn
  exact ⟨find_stop _ _ h, (is_at _ _ h).symm⟩)
 have F3 := Lib.hid (show ¬ fn < M.L.length → is = false by rw [hfn, his]; exact is_end _ _)
 rw [← hfn, ← his]
 clear hfn his
 have HR := Lib.hid h
 clear h
 go_enter Tryz.func64, Tryz.ntmps64
 go_wp2_with (fail)
 go_loopw [6] (fun i x => FdRel fn i ∧ Drw w x) (fun i _ => M.L.length - (intOf i).toNat)
 case atStart => exact ⟨⟨0, rfl, Nat.zero_le _⟩, Drw.refl w⟩
 case round =>
  obtain ⟨⟨k, rfl, hk⟩, hw⟩ := hrel
  have HW := Lib.hid hw; clear hw
  have c0' := (bcell HW.out.bel).1 b 0 (block_lt_of_cell c0)
  rw [c0] at c0'
  by_cases hlt : k < M.L.length
  ·have hne : M.L ≠ [] := by intro e; rw [e] at hlt; simp at hlt
   obtain ⟨g, cap', hv, _, hgl, _, hcs⟩ := ownG_cells fileOk HR.out.own hne
   cases hv
   obtain ⟨y, hy⟩ : ∃ y, y = M.L[k] := ⟨_, rfl⟩
   have d0 := hcs k M.L[k] (List.getElem?_eq_getElem hlt) 0 _ rfl
   rw [← hy] at d0
   have d0' := ((bcell HW.out.bel).1 g (k * 3 + 0) hgl).trans d0
   simp only [Nat.add_zero] at d0'
   clear d0 hcs hne
   by_cases hkf : k < fn
   ·have hb := F1.out k hlt hkf
    rw [← hy] at hb
    clear hy
    go_wp2_with (fail)
    go_roundw
    case rel => exact ⟨⟨k + 1, by go_num, by omega⟩, HW.out⟩
    case measure => simp [intOf]; omega
   ·obtain rfl : k = fn := by omega
    obtain ⟨hb, hi⟩ := F2.out k hlt rfl
    rw [← hy] at hb hi
    clear hy
    go_wp2_with (fail)
    go_quiet (fail)
    go_wp2_with (fail)
    go_ret2
    exact ⟨rfl, HW.out.drewN _⟩
  ·obtain rfl : k = fn := by omega
   have hi := F3.out hlt
   go_wp2_with (fail)
   go_quiet (fail)
   go_wp2_with (fail)
   go_ret2
   exact ⟨by rw [hi]; rfl, HW.out.drewN _⟩

def turnS (M : RS) : Int × RS := if M.turns = 0 then (7, { M with gone := true }) else if 0 < M.turns then (0, { M with turns := M.turns - 1 }) else (0, M)
set_option maxHeartbeats 2000000 in
theorem turn_any (n₀ : Nat) (w : World) (b : Nat) (M : RS) (v : Value) (h : RefAt n₀ w b M v) (ht : -1 ≤ M.turns ∧ M.turns ≤ 9223372036854775807) :
  Calls Tryz.prog 66 #[.pointer (some ⟨b, 0, none⟩)] w fun e w' =>
   e = .returned (.int .i64 (turnS M).1) ∧ RefAt n₀ w' b (turnS M).2 v ∧ Keep [b] w w' := by
 obtain ⟨c0, c1, c2, c3⟩ := h.cells
 have f2 := h.frozen 2
 have f3 := h.frozen 3
 obtain ⟨ht1, ht2⟩ := ht
 have HR := Lib.hid h; clear h
 by_cases h0 : M.turns = 0
 ·have hb0 : (M.turns == 0) = true := by rw [beq_iff_eq]; exact h0
  have HT := Lib.hid (show turnS M = (7, { M with gone := true }) by unfold turnS; rw [if_pos h0])
  clear h0
  go_enter Tryz.func66, Tryz.ntmps66
  go_wp2_with (fail)
  go_ret
  rw [HT.out]
  exact ⟨rfl, HR.out.put_gone true, keep_set w b 3 _⟩
 ·have hb0 : (M.turns == 0) = false := by rw [beq_eq_false_iff_ne]; exact h0
  by_cases h1 : 0 < M.turns
  ·have HT := Lib.hid (show turnS M = (0, { M with turns := M.turns - 1 }) by unfold turnS; rw [if_neg h0, if_pos h1])
   go_enter Tryz.func66, Tryz.ntmps66
   go_wp2_with (fail)
   go_ret
   rw [HT.out]
   exact ⟨rfl, HR.out.put_turns _, keep_set w b 2 _⟩
  ·have HT := Lib.hid (show turnS M = (0, M) by unfold turnS; rw [if_neg h0, if_neg h1])
   go_enter Tryz.func66, Tryz.ntmps66
   go_wp2_with (fail)
   go_ret
   rw [HT.out]
   exact ⟨rfl, HR.out, Keep.refl _ w⟩

def bytesN : List FI → Nat
 | [] => 0
 | x :: L => x.bytes.length + bytesN L
theorem bytes_take (L : List FI) (k : Nat) (h : k < L.length) : bytesN (L.take (k + 1)) = bytesN (L.take k) + L[k].bytes.length := by
 induction L generalizing k with
 | nil => simp at h
 | cons x L ih =>
  cases k with
  | zero => simp [bytesN]
  | succ k =>
   have := ih k (by simpa using h)
   simp only [List.take_succ_cons, bytesN, List.getElem_cons_succ]
   omega
theorem bytes_le (L : List FI) (k : Nat) : bytesN (L.take k) ≤ bytesN L := by
 induction L generalizing k with
 | nil => simp [bytesN]
 | cons x L ih =>
  cases k with
  | zero => simp [bytesN]
  | succ k =>
   have := ih k
   simp only [List.take_succ_cons, bytesN]
   omega
def UsRel (L : List FI) (n i : Value) : Prop := ∃ k : Nat, i = .int .i64 k ∧ k ≤ L.length ∧ n = .int .i64 (bytesN (L.take k) : Nat)
set_option maxHeartbeats 2000000 in
theorem used_any (n₀ : Nat) (w : World) (b : Nat) (M : RS) (v : Value) (h : RefAt n₀ w b M v) (hL : M.L.length ≤ 1000) (hB : bytesN M.L ≤ 1000000000) :
  Calls Tryz.prog 25 #[.pointer (some ⟨b, 0, none⟩)] w fun e w' => e = .returned (.int .i64 (bytesN M.L : Nat)) ∧ Drw w w' := by
 obtain ⟨c0, -, -, -⟩ := h.cells
 obtain ⟨pp, cap, rfl⟩ := ownG_len h.own
 have HR := Lib.hid h; clear h
 go_enter Tryz.func25, Tryz.ntmps25
 go_wp2_with (fail)
 go_loopw [3, 4] (fun n i x => UsRel M.L n i ∧ Drw w x) (fun _ i _ => M.L.length - (intOf i).toNat)
 case atStart => exact ⟨⟨0, rfl, Nat.zero_le _, rfl⟩, Drw.refl w⟩
 case round =>
  obtain ⟨⟨k, rfl, hk, rfl⟩, hw⟩ := hrel
  have HW := Lib.hid hw; clear hw
  have c0' := (bcell HW.out.bel).1 b 0 (block_lt_of_cell c0)
  rw [c0] at c0'
  by_cases hlt : k < M.L.length
  ·have hne : M.L ≠ [] := by intro e; rw [e] at hlt; simp at hlt
   obtain ⟨g, cap', hv, _, hgl, _, hcs⟩ := ownG_cells fileOk HR.out.own hne
   cases hv
   have HT := Lib.hid (bytes_take M.L k hlt)
   have hle := bytes_le M.L (k + 1)
   rw [HT.out] at hle
   obtain ⟨y, hy⟩ : ∃ y, y = M.L[k] := ⟨_, rfl⟩
   have d0 := hcs k M.L[k] (List.getElem?_eq_getElem hlt) 1 _ rfl
   rw [← hy] at d0 HT hle
   have d0' := ((bcell HW.out.bel).1 g (k * 3 + 1) hgl).trans d0
   clear d0 hcs hne hy
   have hys : (⟨y.bytes.toArray⟩ : ByteArray).size = y.bytes.length := by show y.bytes.toArray.size = _; simp
   generalize bytesN (M.L.take k) = z at *
   go_wp2_with (fail)
   go_roundw
   case rel => exact ⟨⟨k + 1, by go_num, by omega, by rw [HT.out]; go_num⟩, HW.out⟩
   case measure => simp [intOf]; omega
  ·obtain rfl : k = M.L.length := by omega
   have HT := Lib.hid (show M.L.take M.L.length = M.L from List.take_length ..)
   go_wp2_with (fail)
   go_ret
   exact ⟨ret_int (by rw [HT.out]), HW.out⟩

def newS (room : Int) : RS := ⟨[], room, -1, false⟩
set_option maxHeartbeats 2000000 in
theorem rnew_any (room : Int) (w : World) (h : 0 ≤ room ∧ room ≤ 10000000) :
  Calls Tryz.prog 34 #[.int .i64 room] w fun e w' => e = .returned (.tuple #[.pointer (some ⟨w.heap.size, 0, none⟩), .int .i64 0]) ∧
   RefAt w.heap.size w' w.heap.size (newS room) (.slice none 0 0) ∧ Bel w w' := by
 obtain ⟨h1, h2⟩ := h
 go_enter Tryz.func34, Tryz.ntmps34
 go_wp2_with (fail)
 go_ret2
 exact ⟨rfl, ⟨heap_alloc_new w _, OwnG.nil _ _ _, Nat.le_refl _⟩, (Bel.refl w).alloc _⟩

def fileW (x : FI) : Value := .agg #[.string ⟨x.name.toArray⟩, .string ⟨x.bytes.toArray⟩, .int .i64 x.safe]
def noFile : FI := ⟨[], [], 0⟩
def thereS (name : List UInt8) (M : RS) : FI × Int := if M.gone then (noFile, 7) else if isN name M.L then ((M.L[findN name M.L]?).getD noFile, 0) else (noFile, 4)

set_option maxHeartbeats 4000000 in
theorem there_any (n₀ : Nat) (w : World) (b : Nat) (M : RS) (v : Value) (s : ByteArray) (h : RefAt n₀ w b M v) (hL : M.L.length ≤ 1000) :
  Calls Tryz.prog 128 #[.pointer (some ⟨b, 0, none⟩), .string s] w fun e w' =>
   e = .returned (.tuple #[fileW (thereS s.data.toList M).1, .int .i64 (thereS s.data.toList M).2]) ∧ Bel w w' := by
 obtain ⟨c0, -, -, c3⟩ := h.cells
 have hbl := h.lt
 have HR := Lib.hid h; clear h
 cases hg : M.gone with
 | true =>
  have HT := Lib.hid (show thereS s.data.toList M = (noFile, 7) by unfold thereS; rw [if_pos hg])
  rw [hg] at c3
  clear hg
  go_enter Tryz.func128, Tryz.ntmps128
  go_wp2_with (fail)
  rw [HT.out]
  exact bodyPost_ret (v := .tuple #[.agg #[.string ⟨#[]⟩, .string ⟨#[]⟩, .int .i64 0], .int .i64 7]) (by simp [results, Tryz.results128, go_sem]) rfl ⟨rfl, (Bel.refl w).alloc _⟩
 | false =>
  rw [hg] at c3
  have HB0 := Lib.hid ((Bel.refl w).alloc (.cells #[.string ⟨#[]⟩, .string ⟨#[]⟩, .int .i64 0] 74))
  cases hI : isN s.data.toList M.L with
  | true =>
   have hfl : findN s.data.toList M.L < M.L.length := by
    rcases Nat.lt_or_ge (findN s.data.toList M.L) M.L.length with h | h
    ·exact h
    ·rw [is_end _ _ (by omega)] at hI; cases hI
   obtain ⟨x, hx⟩ : ∃ x, x = M.L[findN s.data.toList M.L] := ⟨_, rfl⟩
   have HT := Lib.hid (show thereS s.data.toList M = (x, 0) by
    unfold thereS
    rw [hg, hI, List.getElem?_eq_getElem hfl, hx]; rfl)
   have hne : M.L ≠ [] := by intro e; rw [e] at hfl; simp at hfl
   have HI := Lib.hid hI
   obtain ⟨g, cap, rfl, _, hgl, _, hcs⟩ := ownG_cells fileOk HR.out.own hne
   clear hg hI
   go_enter Tryz.func128, Tryz.ntmps128
   go_wp2_with (fail)
   refine (find_any n₀ _ b M _ s (HR.out.bel HB0.out) hL).mono ?_
   rintro e w1 ⟨rfl, hd⟩
   rw [HI.out]
   have HB := Lib.hid (HB0.out.trans hd.bel)
   have hz1 : w.heap.size < w1.heap.size := by have := hd.bel.size; simp at this; omega
   have p0 : w1.cell? ⟨w.heap.size, 0, none⟩ = some (.string ⟨#[]⟩) := cell_later hd.bel (by go_simp)
   have p1 : w1.cell? ⟨w.heap.size, 1, none⟩ = some (.string ⟨#[]⟩) := cell_later hd.bel (by go_simp)
   have p2 : w1.cell? ⟨w.heap.size, 2, none⟩ = some (.int .i64 0) := cell_later hd.bel (by go_simp)
   have pf : ∀ i, w1.frozen? ⟨w.heap.size, i, none⟩ = false := fun i => (hd.bel.frozen _ _ (by simp)).trans (by simp)
   have d0 := cell_later HB.out (hcs _ _ (List.getElem?_eq_getElem hfl) 0 _ rfl)
   have d1 := cell_later HB.out (hcs _ _ (List.getElem?_eq_getElem hfl) 1 _ rfl)
   have d2 := cell_later HB.out (hcs _ _ (List.getElem?_eq_getElem hfl) 2 _ rfl)
   have c0' := cell_later HB.out c0
   rw [← hx] at d0 d1 d2
   simp only [fileEl, Nat.add_zero] at d0 d1 d2
   clear hd hcs hx
   generalize findN s.data.toList M.L = fn at *
   go_wp2_with (fail)
   rw [HT.out]
   exact bodyPost_ret (v := .tuple #[fileW x, .int .i64 0]) (by simp [results, fileW, Tryz.results128, go_sem, p0, p1, p2, World.cell?_setCell_other]) rfl ⟨rfl, ((HB.out.setCell (p := ⟨w.heap.size, 0, none⟩) (Nat.le_refl _) _).setCell (p := ⟨w.heap.size, 1, none⟩) (Nat.le_refl _) _).setCell (p := ⟨w.heap.size, 2, none⟩) (Nat.le_refl _) _⟩
  | false =>
   have HT := Lib.hid (show thereS s.data.toList M = (noFile, 4) by
    unfold thereS
    rw [hg, hI]; rfl)
   have HI := Lib.hid hI
   clear hg hI
   go_enter Tryz.func128, Tryz.ntmps128
   go_wp2_with (fail)
   refine (find_any n₀ _ b M _ s (HR.out.bel HB0.out) hL).mono ?_
   rintro e w1 ⟨rfl, hd⟩
   rw [HI.out]
   have HB := Lib.hid (HB0.out.trans hd.bel)
   have p0 : w1.cell? ⟨w.heap.size, 0, none⟩ = some (.string ⟨#[]⟩) := cell_later hd.bel (by go_simp)
   have p1 : w1.cell? ⟨w.heap.size, 1, none⟩ = some (.string ⟨#[]⟩) := cell_later hd.bel (by go_simp)
   have p2 : w1.cell? ⟨w.heap.size, 2, none⟩ = some (.int .i64 0) := cell_later hd.bel (by go_simp)
   have pf : ∀ i, w1.frozen? ⟨w.heap.size, i, none⟩ = false := fun i => (hd.bel.frozen _ _ (by simp)).trans (by simp)
   clear hd
   go_wp2_with (fail)
   rw [HT.out]
   exact bodyPost_ret (v := .tuple #[fileW noFile, .int .i64 4]) (by simp [results, fileW, noFile, Tryz.results128, go_sem, p0, p1, p2, World.cell?_setCell_other]) rfl ⟨rfl, ((HB.out.setCell (p := ⟨w.heap.size, 0, none⟩) (Nat.le_refl _) _).setCell (p := ⟨w.heap.size, 1, none⟩) (Nat.le_refl _) _).setCell (p := ⟨w.heap.size, 2, none⟩) (Nat.le_refl _) _⟩
end Go.Proofs.YtfbiinnenlgkfaaGreatDoor
