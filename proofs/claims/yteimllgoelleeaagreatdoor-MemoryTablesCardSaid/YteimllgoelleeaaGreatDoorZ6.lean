/- OwnG, Foot, BOwn, MTT, laid together. -/
import Derived.Test.YteimllgoelleeaaGreatDoorZ1
import Derived.StillTailTactics
import Derived.Deep.Heap
import Derived.Deep.RegionLaw
set_option linter.unusedSimpArgs false
set_option linter.unusedVariables false
/- A slice that a call itself made, whatever its elements: what it owns, append onto it, and its cells. -/
namespace Go.Proofs.YteimllgoelleeaaGreatDoor
open Go.RowKit

theorem Bel.trans_below {a b c : World} (h : Bel a b) (k : Below a.heap.size b c) : Bel a c := Below.trans h k
structure El (α : Type) where
  T : TypeId
  ST : TypeId
  n : Nat
  cells : α → List Value
structure ElOk {α : Type} (E : El α) (bytes : Nat) : Prop where
  len : ∀ a, (E.cells a).length = E.n
  one : ∀ a, ∀ u ∈ E.cells a, u.oneCell' = true
  und : Tryz.prog.underlying E.ST = some (.slice E.T)
  info : ∃ z, (Tryz.prog.info? E.T).map (fun i => (i.zero, i.size, i.bytes)) = some (some z, E.n, bytes) ∧ z.cells.size = E.n
  pos : 0 < E.n
def El.all {α : Type} (E : El α) (L : List α) : List Value := L.flatMap E.cells
theorem El.all_len {α : Type} {E : El α} {b : Nat} (h : ElOk E b) (L : List α) : (E.all L).length = L.length * E.n := by
  induction L with
  | nil => simp [El.all]
  | cons r L ih => simp only [El.all, List.flatMap_cons, List.length_append, List.length_cons] at *; rw [ih, h.len, Nat.add_mul]; omega
theorem El.all_append {α : Type} (E : El α) (L M : List α) : E.all (L ++ M) = E.all L ++ E.all M := by simp [El.all]
theorem El.all_one {α : Type} {E : El α} {b : Nat} (h : ElOk E b) (L : List α) : ∀ u ∈ E.all L, u.oneCell' = true := by
  intro u hu
  simp only [El.all, List.mem_flatMap] at hu
  obtain ⟨r, _, hr⟩ := hu
  exact h.one r u hr
def OwnG {α : Type} (E : El α) (B : Nat) (w : World) (v : Value) (L : List α) : Prop := w.ownsRow B E.T E.n v L.length (E.all L)
section
variable {α : Type} {E : El α} {B : Nat} {w x : World} {v : Value} {L : List α}
theorem OwnG.nil (E : El α) (B : Nat) (w : World) : OwnG E B w (.slice none 0 0) [] := World.ownsRow_nil _ _ _ _
theorem OwnG.alloc (h : OwnG E B w v L) (o : Obj) : OwnG E B (w.alloc o) v L := World.ownsRow.alloc h o
theorem OwnG.drew (h : OwnG E B w v L) : OwnG E B w.drew v L := h
theorem OwnG.drewN (h : OwnG E B w v L) (n : Nat) : OwnG E B (w.drewN n) v L := h
theorem OwnG.bel (h : OwnG E B w v L) (hb : Bel w x) : OwnG E B x v L := by
  obtain ⟨h1, h2⟩ := h
  refine ⟨h1, ?_⟩
  rcases h2 with h2 | ⟨g, cap, cur, hv, hg, hh, r⟩
  · exact Or.inl h2
  · refine Or.inr ⟨g, cap, cur, hv, hg, ?_, r⟩
    have hlt : g < w.heap.size := by
      rcases Nat.lt_or_ge g w.heap.size with h | h
      · exact h
      · rw [Array.getElem?_eq_none h] at hh; cases hh
    rw [Below.block hb g hlt]; exact hh
theorem OwnG.setCell (h : OwnG E B w v L) {p : Addr} (hp : p.block < B) (u : Value) : OwnG E B (w.setCell p u) v L := by
  obtain ⟨h1, h2⟩ := h
  refine ⟨h1, ?_⟩
  rcases h2 with h2 | ⟨g, cap, cur, hv, hg, hh, r⟩
  · exact Or.inl h2
  · exact Or.inr ⟨g, cap, cur, hv, hg, (Go.Deep.blk_setCell_other w p u g (by omega)).trans hh, r⟩
theorem OwnG.lt (h : OwnG E B w v L) : ∀ k, v.ownBlock = some k → B ≤ k ∧ k < w.heap.size := World.ownsRow.lt h

theorem El.all_get {b : Nat} (hE : ElOk E b) : ∀ (L : List α) (i : Nat) (r : α), L[i]? = some r → ∀ j, j < E.n → (E.all L)[i * E.n + j]? = (E.cells r)[j]?
  | [], i, r, h => by simp at h
  | y :: L, 0, r, h => by
    intro j hj
    simp at h; subst h
    simp only [El.all, List.flatMap_cons, Nat.zero_mul, Nat.zero_add]
    rw [List.getElem?_append_left (by rw [hE.len]; exact hj)]
  | y :: L, i + 1, r, h => by
    intro j hj
    have := El.all_get hE L i r (by simpa using h) j hj
    simp only [El.all, List.flatMap_cons] at this ⊢
    rw [List.getElem?_append_right (by rw [hE.len, Nat.add_mul]; omega), hE.len, ← this]
    congr 1
    rw [Nat.add_mul]; omega
theorem ownG_cells {b : Nat} (hE : ElOk E b) (h : OwnG E B w v L) (hne : L ≠ []) :
    ∃ g cap, v = .slice (some ⟨g, 0, none⟩) L.length cap ∧ B ≤ g ∧ g < w.heap.size ∧ L.length ≤ cap ∧ ∀ (i : Nat) r, L[i]? = some r → ∀ (j : Nat) u, (E.cells r)[j]? = some u → w.cell? ⟨g, i * E.n + j, none⟩ = some u := by
  obtain ⟨hlen, h2⟩ := h
  rcases h2 with ⟨_, h0⟩ | ⟨g, cap, cur, rfl, hg, hh, hcap, _, hsz, htk⟩
  · exact absurd (List.length_eq_zero_iff.1 h0) hne
  · refine ⟨g, cap, rfl, hg, ?_, hcap, ?_⟩
    · rcases Nat.lt_or_ge g w.heap.size with h | h
      · exact h
      · rw [Array.getElem?_eq_none h] at hh; cases hh
    · intro i r hr j u hu
      have hi : i < L.length := by
        rcases Nat.lt_or_ge i L.length with h | h
        · exact h
        · rw [List.getElem?_eq_none h] at hr; cases hr
      have hj : j < E.n := by
        rcases Nat.lt_or_ge j E.n with h | h
        · exact h
        · rw [List.getElem?_eq_none (by rw [hE.len]; exact h)] at hu; cases hu
      have a0 := El.all_get hE L i r hr j hj
      have hlt : i * E.n + j < L.length * E.n := by
        have : (i + 1) * E.n ≤ L.length * E.n := Nat.mul_le_mul_right _ hi
        rw [Nat.add_mul] at this; omega
      rw [← htk, List.getElem?_take_of_lt hlt, hu] at a0
      simp [World.cell?, hh]
      simpa using a0
theorem ownG_len (h : OwnG E B w v L) : ∃ p cap, v = .slice p L.length cap := by
  rcases h.2 with ⟨h1, h0⟩ | ⟨g, cap, cur, rfl, hg, hh, _⟩
  · exact ⟨none, 0, by rw [h1, h0]⟩
  · exact ⟨_, _, rfl⟩
end
end Go.Proofs.YteimllgoelleeaaGreatDoor
/- What a call may write: the blocks of a list; all else that lay there lies as it lay. For objects that a call has made and that others' calls change. -/
namespace Go.Proofs.YteimllgoelleeaaGreatDoor
open Go.RowKit

structure Keep (F : List Nat) (w w' : World) : Prop where
  os : w'.os = w.os
  tape : w'.tape = w.tape
  output : w'.output = w.output
  size : w.heap.size ≤ w'.heap.size
  block : ∀ k, k < w.heap.size → k ∉ F → w'.heap[k]? = w.heap[k]?
section
variable {F G : List Nat} {a b c w : World}
theorem Keep.refl (F : List Nat) (w : World) : Keep F w w := ⟨rfl, rfl, rfl, Nat.le_refl _, fun _ _ _ => rfl⟩
theorem Keep.of_bel (h : Bel a b) (F : List Nat) : Keep F a b := ⟨Below.os h, Below.tape h, Below.output h, Below.size h, fun k hk _ => Below.block h k hk⟩
theorem Keep.bel (h : Keep F a b) (hF : ∀ k ∈ F, a.heap.size ≤ k) : Bel a b :=
  ⟨h.os, h.tape, h.output, h.size, fun k hk => h.block k hk (fun hm => by have := hF k hm; omega)⟩
theorem Keep.below {n : Nat} (h : Keep F a b) (hn : n ≤ a.heap.size) (hF : ∀ k ∈ F, n ≤ k) : Below n a b :=
  ⟨h.os, h.tape, h.output, h.size, fun k hk => h.block k (by omega) (fun hm => by have := hF k hm; omega)⟩
theorem Keep.trans (h : Keep F a b) (k : Keep G b c) (hG : ∀ x ∈ G, x ∈ F ∨ a.heap.size ≤ x) : Keep F a c :=
  ⟨k.os.trans h.os, k.tape.trans h.tape, k.output.trans h.output, Nat.le_trans h.size k.size, fun x hx hF => (k.block x (Nat.lt_of_lt_of_le hx h.size) (fun hm => by
    rcases hG x hm with h1 | h1
    · exact hF h1
    · omega)).trans (h.block x hx hF)⟩
theorem Keep.then (h : Keep F a b) (k : Bel b c) : Keep F a c := h.trans (Keep.of_bel k []) (fun x hx => by cases hx)
theorem Keep.mono (h : Keep F a b) (hG : ∀ x ∈ F, x ∈ G) : Keep G a b := ⟨h.os, h.tape, h.output, h.size, fun k hk hn => h.block k hk (fun hm => hn (hG k hm))⟩
theorem Keep.alloc (h : Keep F a b) (o : Obj) : Keep F a (b.alloc o) := h.then ((Bel.refl b).alloc o)
theorem Keep.drew (h : Keep F a b) : Keep F a b.drew := h.then (Bel.refl b).drew
theorem Keep.drewN (h : Keep F a b) (n : Nat) : Keep F a (b.drewN n) := h.then ((Bel.refl b).drewN n)
theorem Keep.setCell (h : Keep F a b) {p : Addr} (hp : p.block ∈ F ∨ a.heap.size ≤ p.block) (u : Value) : Keep F a (b.setCell p u) :=
  h.trans (G := [p.block]) ⟨rfl, rfl, rfl, by simp [World.setCell], fun k _ hk => Below.heap_setCell _ _ _ _ (by simpa using hk)⟩ (fun x hx => by rw [List.mem_singleton] at hx; rw [hx]; exact hp)
theorem Keep.grown {row : Option Nat} (h : Keep F a b) (hg : b.grownBy c row) (hr : ∀ r, row = some r → r ∈ F ∨ a.heap.size ≤ r) : Keep F a c :=
  h.trans (G := row.toList) ⟨hg.os, hg.tape, hg.output, hg.size, fun k hk hn => hg.block k hk (fun e => hn (by rw [← e]; simp))⟩ (fun x hx => hr x (by simpa using hx))
theorem Keep.at (h : Keep F a b) {k : Nat} {o : Obj} (ho : a.heap[k]? = some o) (hk : k ∉ F) : b.heap[k]? = some o :=
  (h.block k (Array.getElem?_eq_some_iff.1 ho).1 hk).trans ho
theorem Keep.cell (h : Keep F a b) {p : Addr} {v : Value} (hc : a.cell? p = some v) (hk : p.block ∉ F) : b.cell? p = some v :=
  (World.cell?_of_block (h.block p.block (block_lt_of_cell hc) hk)).trans hc
theorem Keep.frozen (h : Keep F a b) {p : Addr} (hp : p.block < a.heap.size) (hk : p.block ∉ F) : b.frozen? p = a.frozen? p :=
  World.frozen?_of_block (h.block p.block hp hk)
end
theorem OwnG.keep {α : Type} {E : El α} {B : Nat} {w x : World} {v : Value} {L : List α} {F : List Nat} (h : OwnG E B w v L) (hk : Keep F w x) (hF : ∀ k, v.ownBlock = some k → k ∉ F) : OwnG E B x v L := by
  obtain ⟨h1, h2⟩ := h
  refine ⟨h1, ?_⟩
  rcases h2 with h2 | ⟨g, cap, cur, rfl, hg, hh, r⟩
  · exact Or.inl h2
  · exact Or.inr ⟨g, cap, cur, rfl, hg, hk.at hh (hF g rfl), r⟩
end Go.Proofs.YteimllgoelleeaaGreatDoor
/- Append onto a slice of one's own, whatever its elements: what else is written (nothing but its own block), and where it lies behind it. Rows of slices. -/
namespace Go.Proofs.YteimllgoelleeaaGreatDoor
open Go.RowKit Go.Deep

def SrcAt {α : Type} (E : El α) (x : World) (y : Value) (news : List α) : Prop :=
  (y = .slice none 0 0 ∧ news = []) ∨ ∃ ad c, y = .slice (some ad) news.length c ∧ ∀ j u, (E.all news)[j]? = some u → x.cell? (ad.add j) = some u
theorem append_where {α : Type} {E : El α} {B b : Nat} {x : World} {v : Value} {L : List α} (hE : ElOk E b) (hown : OwnG E B x v L) (ty : TypeId) (ad : Addr) (c : Nat) (news : List α) (hnews : ∀ j u, (E.all news)[j]? = some u → x.cell? (ad.add j) = some u)
    (hl1 : L.length + news.length ≤ maxLen) (hlim : (L.length + news.length) * b ≤ 140737488355328) {v' : Value} {w' : World}
    (hr : (Builtin.append_ #[E.ST, E.ST] ty #[v, .slice (some ad) news.length c]).run Tryz.prog x = .ok v' w') : v'.ownBlock = v.ownBlock ∨ v'.ownBlock = some x.heap.size := by
  obtain ⟨z, hz, hzc⟩ := hE.info
  obtain ⟨i, hi, hz0, hz1, hz2⟩ := info_parts hz
  have hsmall : L.length + news.length ≤ 9223372036854775807 := by unfold maxLen at hl1; omega
  have hln : (E.all news).length = news.length * i.size := by rw [El.all_len hE, hz1]
  rcases hown.2 with ⟨rfl, h0⟩ | ⟨g, cap, cur, rfl, hbg, hg, hnc, hcm, hcs, htake⟩
  · by_cases hm : news.length = 0
    · have hr2 : (Builtin.append_ #[E.ST, E.ST] ty #[.slice none 0 0, .slice (some ad) news.length c]).run Tryz.prog x = .ok (.slice none 0 0) x := by
        rw [hm]
        simp [Builtin.append_, run_underlying hE.und, sizeOf, typeInfo, hi, Builtin.lenOf, Builtin.firstCells, loadCells, loadCellsFrom]
      rw [hr2] at hr
      simp only [Result.ok.injEq] at hr
      exact Or.inl (by rw [← hr.1])
    · have hr2 := run_append_nil (P := Tryz.prog) x E.ST ty E.T i z hE.und hi hz0 ad news.length c (E.all news) hln hnews (by omega) (by omega) (by rw [hz2]; have : news.length * b ≤ (L.length + news.length) * b := Nat.mul_le_mul_right _ (by omega); omega)
      rw [hr2] at hr
      simp only [Result.ok.injEq] at hr
      exact Or.inr (by rw [← hr.1]; rfl)
  · by_cases hroom : L.length + news.length ≤ cap
    · have hfit : L.length * i.size + (E.all news).length ≤ cur.size := by rw [hln, hcs, hz1, ← Nat.add_mul]; exact Nat.mul_le_mul_right _ hroom
      have hr2 := run_append_room (P := Tryz.prog) x E.ST ty E.T i hE.und hi g L.length cap cur hg ad news.length c (E.all news) hln hnews (El.all_one hE _) hroom hfit
      rw [hr2] at hr
      simp only [Result.ok.injEq] at hr
      exact Or.inl (by rw [← hr.1]; rfl)
    · have holds : ∀ j u, (E.all L)[j]? = some u → x.cell? ((⟨g, 0, none⟩ : Addr).add j) = some u := World.ownsRow.cells hown rfl
      have hr2 := run_append_grow (P := Tryz.prog) x E.ST ty E.T i z hE.und hi hz0 ⟨g, 0, none⟩ L.length cap (E.all L) (by rw [El.all_len hE, hz1]) holds ad news.length c (E.all news) hln hnews (by omega) (by omega) (growslice_fits (by omega) (by rw [hz2]; exact hlim))
      rw [hr2] at hr
      simp only [Result.ok.injEq] at hr
      exact Or.inr (by rw [← hr.1]; rfl)

theorem run_append_all {α : Type} {E : El α} {n b : Nat} (hE : ElOk E b) {x : World} {v yv : Value} {L : List α} (ty : TypeId) (hown : OwnG E n x v L) (news : List α) (hsrc : SrcAt E x yv news)
    (hl1 : L.length + news.length ≤ maxLen) (hlim : (L.length + news.length) * b ≤ 140737488355328) (hbase : n ≤ x.heap.size) :
    ∃ v' w', (Builtin.append_ #[E.ST, E.ST] ty #[v, yv]).run Tryz.prog x = .ok v' w' ∧ OwnG E n w' v' (L ++ news) ∧ Keep v.ownBlock.toList x w' ∧ (v'.ownBlock = v.ownBlock ∨ v'.ownBlock = some x.heap.size) := by
  obtain ⟨z, hz, hzc⟩ := hE.info
  obtain ⟨i0, hi, hz0, hz1, hz2⟩ := info_parts hz
  rcases hsrc with ⟨rfl, rfl⟩ | ⟨ad, c, rfl, hc⟩
  · have hr := run_append_owned_none (P := Tryz.prog) (w := x) n E.ST ty E.T i0 E.n hE.und hi v L.length (E.all L) hown
    exact ⟨v, x, hr, by simpa using hown, Keep.refl _ _, Or.inl rfl⟩
  · obtain ⟨v', w', hr, h1, h2, h3⟩ := run_append_own (P := Tryz.prog) x n E.ST ty E.T i0 z E.n b hE.und hi hz0 hz1 hz2 hzc hE.pos v L.length (E.all L) hown ad news.length c (E.all news) (El.all_len hE _) hc (El.all_one hE _) hl1 hlim hbase
    have hw := append_where hE hown ty ad c news hc hl1 hlim hr
    refine ⟨v', w', hr, ?_, (Keep.refl _ x).grown h2 (fun r hr => Or.inl (by rw [hr]; simp)), hw⟩
    unfold OwnG
    rw [List.length_append, El.all_append]
    exact h1
theorem wp_append_all {α : Type} {E : El α} {n b : Nat} (hE : ElOk E b) {o : Oper} {a : Act} {K : Act → World → Prop} {Q : Exit → Act → World → Prop} {x : World} (s y : Operand)
    (ho : o.op = .call { callee := .builtin .append, args := #[s, y], argTypes := #[E.ST, E.ST] }) {v yv : Value} {L : List α}
    (hs : a.eval s = v) (hown : OwnG E n x v L) (news : List α) (hy : a.eval y = yv) (hsrc : SrcAt E x yv news)
    (hl1 : L.length + news.length ≤ maxLen) (hlim : (L.length + news.length) * b ≤ 140737488355328) (hbase : n ≤ x.heap.size)
    (h : ∀ v' w', OwnG E n w' v' (L ++ news) → Keep v.ownBlock.toList x w' → (v'.ownBlock = v.ownBlock ∨ v'.ownBlock = some x.heap.size) → K (a.put o.dst v') w') : o.wp Tryz.prog a x K Q := by
  obtain ⟨v', w', hr, h1, h2, h3⟩ := run_append_all hE o.type hown news hsrc hl1 hlim hbase
  unfold Oper.wp execOp
  simp only [ho, resolve, invoke, builtin, Sem.run_bind, Sem.run_pure, Result.andThen_ok, List.map_toArray, List.map_cons, List.map_nil, hs, hy, hr]
  exact h v' w' h1 h2 h3
theorem append_all {α : Type} {E : El α} {n b : Nat} (hE : ElOk E b) {ops : Array Oper} {rest : List Oper} {o : Oper} {a : Act} {Q : Exit → Act → World → Prop} {x : World} (hgd : o.guard = none) (s y : Operand)
    (ho : o.op = .call { callee := .builtin .append, args := #[s, y], argTypes := #[E.ST, E.ST] }) {v yv : Value} {L : List α}
    (hs : a.eval s = v) (hown : OwnG E n x v L) (news : List α) (hy : a.eval y = yv) (hsrc : SrcAt E x yv news)
    (hl1 : L.length + news.length ≤ maxLen) (hlim : (L.length + news.length) * b ≤ 140737488355328) (hbase : n ≤ x.heap.size)
    (h : ∀ v' w', OwnG E n w' v' (L ++ news) → Keep v.ownBlock.toList x w' → (v'.ownBlock = v.ownBlock ∨ v'.ownBlock = some x.heap.size) → wpList Tryz.prog ops Q rest (a.put o.dst v') w') : wpList Tryz.prog ops Q (o :: rest) a x :=
  wpList_plain hgd fun _ hK => wp_append_all hE s y ho hs hown news hy hsrc hl1 hlim hbase fun v' w' h1 h2 h3 => hK _ _ (h v' w' h1 h2 h3)
theorem step_append_all {α : Type} {E : El α} {n b : Nat} (hE : ElOk E b) {ops : Array Oper} {o : Oper} {a : Act} {K : Act → World → Prop} {Q : Exit → Act → World → Prop} {F : Prop} {x : World} (hgd : o.guard = none) (s y : Operand)
    (ho : o.op = .call { callee := .builtin .append, args := #[s, y], argTypes := #[E.ST, E.ST] }) {v yv : Value} {L : List α}
    (hs : a.eval s = v) (hown : OwnG E n x v L) (news : List α) (hy : a.eval y = yv) (hsrc : SrcAt E x yv news)
    (hl1 : L.length + news.length ≤ maxLen) (hlim : (L.length + news.length) * b ≤ 140737488355328) (hbase : n ≤ x.heap.size)
    (h : ∀ v' w', OwnG E n w' v' (L ++ news) → Keep v.ownBlock.toList x w' → (v'.ownBlock = v.ownBlock ∨ v'.ownBlock = some x.heap.size) → K (a.put o.dst v') w') : if Region.wanted o (yielded ops a.tmps) = true then o.wp Tryz.prog a x K Q else F := by
  rw [if_pos (by simp [Region.wanted, hgd])]
  exact wp_append_all hE s y ho hs hown news hy hsrc hl1 hlim hbase h
theorem src_at {α : Type} {E : El α} {W : World} {B c m : Nat} {arr : Array Value} {T : TypeId} (news : List α) (h : W.heap[B]? = some (.cells arr T (0, 0))) (harr : arr.toList = E.all news) (hm : m = news.length) : SrcAt E W (.slice (some ⟨B, 0, none⟩) m c) news := by
  subst hm
  refine Or.inr ⟨_, c, rfl, fun j u hj => ?_⟩
  have e : (⟨B, 0, none⟩ : Addr).add j = ⟨B, j, none⟩ := by cases j <;> simp [Addr.add]
  rw [e]
  rw [← harr] at hj
  simp [World.cell?, h]
  simpa using hj
theorem Keep.own {w x : World} {v : Value} {n : Nat} (h : Keep v.ownBlock.toList w x) (hn : n ≤ w.heap.size) (hv : ∀ k, v.ownBlock = some k → n ≤ k) : Below n w x :=
  h.below hn (fun k hk => hv k (by rwa [Option.mem_toList] at hk))
theorem own_apart {α β : Type} {E : El α} {R : El β} {n m : Nat} {x : World} {v u : Value} {L : List α} {M : List β} (h : OwnG E n x v L) (h' : OwnG R m x u M) (hne : E.T ≠ R.T) : ∀ k, v.ownBlock = some k → u.ownBlock ≠ some k := by
  intro k hk hu
  rcases h.2 with ⟨rfl, _⟩ | ⟨g, cap, cur, rfl, _, hg, _⟩
  · cases hk
  · rcases h'.2 with ⟨rfl, _⟩ | ⟨g', cap', cur', rfl, _, hg', _⟩
    · cases hu
    · simp only [Value.ownBlock, Option.some.injEq] at hk hu
      subst hk
      subst hu
      rw [hg] at hg'
      simp only [Option.some.injEq, Obj.cells.injEq] at hg'
      exact hne hg'.2.1

structure SL where
  p : Option Addr
  len : Nat
  cap : Nat
def SL.val (s : SL) : Value := .slice s.p s.len s.cap
structure RowsInv {α : Type} (E : El α) (R : El SL) (n : Nat) (x : World) (rv cv : Value) (H : List SL) (rows : List (List α)) (row : List α) : Prop where
  own : OwnG R n x rv H
  len : H.length = rows.length
  els : ∀ (i : Nat) (s : SL) (l : List α), H[i]? = some s → rows[i]? = some l → OwnG E n x s.val l
  apart : ∀ (i : Nat) (s : SL), H[i]? = some s → ∀ k, s.val.ownBlock = some k → cv.ownBlock ≠ some k
  cur : OwnG E n x cv row
section
variable {α : Type} {E : El α} {R : El SL} {n : Nat} {x y : World} {rv cv cv' : Value} {H : List SL} {rows : List (List α)} {row : List α}
theorem RowsInv.bel (h : RowsInv E R n x rv cv H rows row) (hb : Bel x y) : RowsInv E R n y rv cv H rows row := by
  obtain ⟨h1, h2, h3, h4, h5⟩ := h
  exact ⟨h1.bel hb, h2, fun i s l hs hl => (h3 i s l hs hl).bel hb, h4, h5.bel hb⟩
theorem RowsInv.nil (E : El α) (R : El SL) (n : Nat) (x : World) : RowsInv E R n x (.slice none 0 0) (.slice none 0 0) [] [] [] :=
  ⟨OwnG.nil _ _ _, rfl, fun i s l h => by simp at h, fun i s h => by simp at h, OwnG.nil _ _ _⟩
theorem RowsInv.grow (h : RowsInv E R n x rv cv H rows row) (hER : E.T ≠ R.T) {row' : List α} (hown : OwnG E n y cv' row') (hk : Keep cv.ownBlock.toList x y) (hv : cv'.ownBlock = cv.ownBlock ∨ ∀ k, cv'.ownBlock = some k → x.heap.size ≤ k) : RowsInv E R n y rv cv' H rows row' := by
  obtain ⟨h1, h2, h3, h4, h5⟩ := h
  refine ⟨h1.keep hk (fun k hk' hm => ?_), h2, fun i s l hs hl => (h3 i s l hs hl).keep hk (fun k hk' hm => ?_), fun i s hs k hk' => ?_, hown⟩
  · rw [Option.mem_toList] at hm; exact own_apart h5 h1 hER k hm hk'
  · rw [Option.mem_toList] at hm; exact h4 i s hs k hk' hm
  · rcases hv with e | e
    · rw [e]; exact h4 i s hs k hk'
    · intro e2
      have := e k e2
      obtain ⟨l, hl⟩ : ∃ l, rows[i]? = some l := by
        have : i < H.length := (List.getElem?_eq_some_iff.1 hs).1
        exact ⟨rows[i]'(by omega), List.getElem?_eq_getElem _⟩
      have := ((h3 i s l hs hl).lt k hk').2
      omega
theorem RowsInv.push (h : RowsInv E R n x rv cv H rows row) (hER : E.T ≠ R.T) {s : SL} (hs : cv = s.val) {rv' : Value} (hown : OwnG R n y rv' (H ++ [s])) (hk : Keep rv.ownBlock.toList x y) :
    RowsInv E R n y rv' (.slice none 0 0) (H ++ [s]) (rows ++ [row]) [] := by
  obtain ⟨h1, h2, h3, h4, h5⟩ := h
  refine ⟨hown, by simp [h2], fun i t l ht hl => ?_, (fun i t ht k hk' e => by cases e), OwnG.nil _ _ _⟩
  by_cases hi : i < H.length
  · rw [List.getElem?_append_left hi] at ht
    rw [List.getElem?_append_left (by omega)] at hl
    refine (h3 i t l ht hl).keep hk (fun k hk' hm => ?_)
    rw [Option.mem_toList] at hm
    exact own_apart (h3 i t l ht hl) h1 hER k hk' hm
  · rw [List.getElem?_append_right (by omega)] at ht
    rw [List.getElem?_append_right (by omega)] at hl
    have e1 : i - H.length = 0 := by
      have := (List.getElem?_eq_some_iff.1 ht).1
      simp at this; omega
    rw [e1] at ht
    rw [show i - rows.length = 0 by omega] at hl
    simp at ht hl
    subst ht hl
    refine OwnG.keep (hs ▸ h5) hk (fun k hk' hm => ?_)
    rw [Option.mem_toList] at hm
    exact own_apart h5 h1 hER k (by rw [hs]; exact hk') hm
end
end Go.Proofs.YteimllgoelleeaaGreatDoor
/- Trees in memory: nodes of an element, a level, and two pointers; what a put does to the list of its nodes in order. No program. -/
namespace Go.Proofs.YteimllgoelleeaaGreatDoor
open Go.RowKit

inductive TT (α : Type) where
  | nil
  | node (b : Nat) (x : α) (v : Int) (l r : TT α)
variable {α : Type}
def TT.ptr : TT α → Option Addr
  | .nil => none
  | .node b _ _ _ _ => some ⟨b, 0, none⟩
def TT.nodes : TT α → List (Nat × α)
  | .nil => []
  | .node b x _ l r => l.nodes ++ (b, x) :: r.nodes
def TT.bs (t : TT α) : List Nat := t.nodes.map Prod.fst
def TT.flat (t : TT α) : List α := t.nodes.map Prod.snd
theorem TT.bs_node (b : Nat) (x : α) (v : Int) (l r : TT α) : (TT.node b x v l r).bs = l.bs ++ b :: r.bs := by simp [TT.bs, TT.nodes]
theorem TT.flat_node (b : Nat) (x : α) (v : Int) (l r : TT α) : (TT.node b x v l r).flat = l.flat ++ x :: r.flat := by simp [TT.flat, TT.nodes]
structure NL (α : Type) where
  nd : α → Int → Option Addr → Option Addr → Array Value
  T : TypeId
  n : Nat
  setv : ∀ x v p q v', (nd x v p q).setIfInBounds n (.int .i64 v') = nd x v' p q
  setl : ∀ x v p q p', (nd x v p q).setIfInBounds (n + 1) (.pointer p') = nd x v p' q
  setr : ∀ x v p q p', (nd x v p q).setIfInBounds (n + 2) (.pointer p') = nd x v p p'
def TAt (E : NL α) (w : World) : TT α → Prop
  | .nil => True
  | .node b x v l r => w.heap[b]? = some (.cells (E.nd x v l.ptr r.ptr) E.T (0, 0)) ∧ TAt E w l ∧ TAt E w r
section
variable {E : NL α} {w x : World} {F G : List Nat}
theorem TAt.lt : ∀ {t : TT α}, TAt E w t → ∀ k ∈ t.bs, k < w.heap.size
  | .nil, _, k, hk => by simp [TT.bs, TT.nodes] at hk
  | .node b y v l r, h, k, hk => by
    obtain ⟨h0, hl, hr⟩ := h
    rw [TT.bs_node, List.mem_append, List.mem_cons] at hk
    rcases hk with hk | rfl | hk
    · exact TAt.lt hl k hk
    · exact (Array.getElem?_eq_some_iff.1 h0).1
    · exact TAt.lt hr k hk
theorem TAt.keep (hk : Keep G w x) : ∀ {t : TT α}, TAt E w t → (∀ k ∈ t.bs, k ∉ G) → TAt E x t
  | .nil, _, _ => trivial
  | .node b y v l r, h, hG => by
    obtain ⟨h0, hl, hr⟩ := h
    rw [TT.bs_node] at hG
    exact ⟨hk.at h0 (hG b (by simp)), TAt.keep hk hl (fun k hm => hG k (by simp [hm])), TAt.keep hk hr (fun k hm => hG k (by simp [hm]))⟩
theorem TAt.below {n : Nat} (hb : Below n w x) : ∀ {t : TT α}, TAt E w t → (∀ k ∈ t.bs, k < n) → TAt E x t
  | .nil, _, _ => trivial
  | .node b y v l r, h, hG => by
    obtain ⟨h0, hl, hr⟩ := h
    rw [TT.bs_node] at hG
    exact ⟨(hb.block b (hG b (by simp))).trans h0, TAt.below hb hl (fun k hm => hG k (by simp [hm])), TAt.below hb hr (fun k hm => hG k (by simp [hm]))⟩
theorem TAt.bel {t : TT α} (h : TAt E w t) (hb : Bel w x) : TAt E x t := h.keep (Keep.of_bel hb []) (fun _ _ hm => by cases hm)
theorem TAt.grown {row : Option Nat} (hg : w.grownBy x row) : ∀ {t : TT α}, TAt E w t → (∀ k ∈ t.bs, some k ≠ row) → TAt E x t
  | .nil, _, _ => trivial
  | .node b y v l r, h, hG => by
    obtain ⟨h0, hl, hr⟩ := h
    rw [TT.bs_node] at hG
    exact ⟨(hg.block b (Array.getElem?_eq_some_iff.1 h0).1 (hG b (by simp))).trans h0, TAt.grown hg hl (fun k hm => hG k (by simp [hm])), TAt.grown hg hr (fun k hm => hG k (by simp [hm]))⟩
theorem TAt.look : ∀ {t : TT α}, TAt E w t → ∀ {g : Nat} {y : α}, (g, y) ∈ t.nodes → ∃ v p q, w.heap[g]? = some (.cells (E.nd y v p q) E.T (0, 0))
  | .nil, _, _, _, hk => by simp [TT.nodes] at hk
  | .node b z v l r, h, g, y, hk => by
    obtain ⟨h0, hl, hr⟩ := h
    rw [TT.nodes, List.mem_append, List.mem_cons] at hk
    rcases hk with hk | hk | hk
    · exact TAt.look hl hk
    · cases hk; exact ⟨_, _, _, h0⟩
    · exact TAt.look hr hk
theorem tblk_set {w : World} {b : Nat} {arr : Array Value} {T : TypeId} (h : w.heap[b]? = some (.cells arr T (0, 0))) (i : Nat) (u : Value) :
    (w.setCell ⟨b, i, none⟩ u).heap[b]? = some (.cells (arr.setIfInBounds i u) T (0, 0)) := by
  obtain ⟨hlt, hk⟩ := Array.getElem?_eq_some_iff.1 h
  show (w.heap.modify b _)[b]? = _
  rw [Array.getElem?_eq_getElem (by rw [Array.size_modify]; exact hlt), Array.getElem_modify_self, hk]
  rfl
theorem tnew (w : World) (o : Obj) : (w.alloc o).heap[w.heap.size]? = some o := by
  show (w.heap.push o)[w.heap.size]? = some o
  simp
theorem tkeep_set (w : World) (b i : Nat) (u : Value) : Keep [b] w (w.setCell ⟨b, i, none⟩ u) := (Keep.refl _ w).setCell (p := ⟨b, i, none⟩) (Or.inl (by simp)) u
theorem tblk_cell {w : World} {b : Nat} {arr : Array Value} {T : TypeId} (h : w.heap[b]? = some (.cells arr T (0, 0))) (i : Nat) : w.cell? ⟨b, i, none⟩ = arr[i]? := by simp [World.cell?, h]
theorem cell_at_later {w x : World} {b : Nat} {cs : Array Value} {T : TypeId} (h : w.heap[b]? = some (.cells cs T (0, 0))) (hb : Bel w x) (i : Nat) : x.cell? ⟨b, i, none⟩ = cs[i]? := tblk_cell ((Keep.of_bel hb []).at h (by simp)) i
theorem tblk_frozen {w : World} {b : Nat} {arr : Array Value} {T : TypeId} (h : w.heap[b]? = some (.cells arr T (0, 0))) (i : Nat) : w.frozen? ⟨b, i, none⟩ = false := by simp [World.frozen?, h]
theorem not_one {k b : Nat} (h : k ≠ b) : k ∉ [b] := by simpa using h
theorem TAt.lean_right {w1 : World} {b c : Nat} {y z : α} {u v : Int} {ll lr r : TT α} (h : TAt E w (.node b y v (.node c z u ll lr) r)) (hn : (TT.node b y v (.node c z u ll lr) r).bs.Nodup) (hk : Bel w w1) :
    TAt E ((w1.setCell ⟨b, E.n + 1, none⟩ (.pointer lr.ptr)).setCell ⟨c, E.n + 2, none⟩ (.pointer (some ⟨b, 0, none⟩))) (.node c z u ll (.node b y v lr r)) ∧
      Keep (TT.node b y v (.node c z u ll lr) r).bs w ((w1.setCell ⟨b, E.n + 1, none⟩ (.pointer lr.ptr)).setCell ⟨c, E.n + 2, none⟩ (.pointer (some ⟨b, 0, none⟩))) := by
  obtain ⟨h0, ⟨h1, hll, hlr⟩, hr⟩ := h
  rw [TT.bs_node, TT.bs_node, List.append_assoc, List.cons_append, List.nodup_append, List.nodup_cons, List.nodup_append, List.nodup_cons] at hn
  obtain ⟨n1, ⟨n2, n3, n4, n5⟩, n6⟩ := hn
  have hbc : c ≠ b := fun e => n2 (by simp [e])
  have hK : Keep [b, c] w ((w1.setCell ⟨b, E.n + 1, none⟩ (.pointer lr.ptr)).setCell ⟨c, E.n + 2, none⟩ (.pointer (some ⟨b, 0, none⟩))) :=
    ((Keep.of_bel hk _).setCell (p := ⟨b, E.n + 1, none⟩) (Or.inl (by simp)) _).setCell (p := ⟨c, E.n + 2, none⟩) (Or.inl (by simp)) _
  have k0 := (Keep.of_bel hk []).at h0 (by simp)
  have k1 := (Keep.of_bel hk []).at h1 (by simp)
  refine ⟨⟨?_, ?_, ?_, ?_, ?_⟩, hK.mono (fun k hk => ?_)⟩
  · have := tblk_set ((tkeep_set w1 b (E.n + 1) (.pointer lr.ptr)).at k1 (not_one hbc)) (E.n + 2) (.pointer (some ⟨b, 0, none⟩))
    rw [E.setr] at this
    exact this
  · exact hll.keep hK (fun k hm hh => by
      simp only [List.mem_cons, List.not_mem_nil, or_false] at hh
      rcases hh with rfl | rfl
      · exact n6 k hm k (by simp) rfl
      · exact n6 k hm k (by simp) rfl)
  · have := (tkeep_set (w1.setCell ⟨b, E.n + 1, none⟩ (.pointer lr.ptr)) c (E.n + 2) (.pointer (some ⟨b, 0, none⟩))).at (tblk_set k0 (E.n + 1) (.pointer lr.ptr)) (not_one (Ne.symm hbc))
    rw [E.setl] at this
    exact this
  · exact hlr.keep hK (fun k hm hh => by
      simp only [List.mem_cons, List.not_mem_nil, or_false] at hh
      rcases hh with rfl | rfl
      · exact n5 k hm k (by simp) rfl
      · exact n2 (by simp [hm]))
  · exact hr.keep hK (fun k hm hh => by
      simp only [List.mem_cons, List.not_mem_nil, or_false] at hh
      rcases hh with rfl | rfl
      · exact n4.1 hm
      · exact n2 (by simp [hm]))
  · simp only [List.mem_cons, List.not_mem_nil, or_false] at hk
    rcases hk with rfl | rfl <;> simp [TT.bs_node]
theorem TAt.lift_left {w1 : World} {b c : Nat} {y z : α} {u v : Int} {l rl rr : TT α} (u' : Int) (h : TAt E w (.node b y v l (.node c z u rl rr))) (hn : (TT.node b y v l (.node c z u rl rr)).bs.Nodup) (hk : Bel w w1) :
    TAt E (((w1.setCell ⟨b, E.n + 2, none⟩ (.pointer rl.ptr)).setCell ⟨c, E.n + 1, none⟩ (.pointer (some ⟨b, 0, none⟩))).setCell ⟨c, E.n, none⟩ (.int .i64 u')) (.node c z u' (.node b y v l rl) rr) ∧
      Keep (TT.node b y v l (.node c z u rl rr)).bs w (((w1.setCell ⟨b, E.n + 2, none⟩ (.pointer rl.ptr)).setCell ⟨c, E.n + 1, none⟩ (.pointer (some ⟨b, 0, none⟩))).setCell ⟨c, E.n, none⟩ (.int .i64 u')) := by
  obtain ⟨h0, hl, h1, hrl, hrr⟩ := h
  rw [TT.bs_node, TT.bs_node, List.nodup_append, List.nodup_cons, List.nodup_append, List.nodup_cons] at hn
  obtain ⟨n1, ⟨n2, n3, n4, n5⟩, n6⟩ := hn
  have hbc : c ≠ b := fun e => n2 (by simp [e])
  have hK : Keep [b, c] w (((w1.setCell ⟨b, E.n + 2, none⟩ (.pointer rl.ptr)).setCell ⟨c, E.n + 1, none⟩ (.pointer (some ⟨b, 0, none⟩))).setCell ⟨c, E.n, none⟩ (.int .i64 u')) :=
    (((Keep.of_bel hk _).setCell (p := ⟨b, E.n + 2, none⟩) (Or.inl (by simp)) _).setCell (p := ⟨c, E.n + 1, none⟩) (Or.inl (by simp)) _).setCell (p := ⟨c, E.n, none⟩) (Or.inl (by simp)) _
  have k0 := (Keep.of_bel hk []).at h0 (by simp)
  have k1 := (Keep.of_bel hk []).at h1 (by simp)
  refine ⟨⟨?_, ⟨?_, ?_, ?_⟩, ?_⟩, hK.mono (fun k hk => ?_)⟩
  · have := tblk_set (tblk_set ((tkeep_set w1 b (E.n + 2) (.pointer rl.ptr)).at k1 (not_one hbc)) (E.n + 1) (.pointer (some ⟨b, 0, none⟩))) E.n (.int .i64 u')
    rw [E.setl, E.setv] at this
    exact this
  · have := (tkeep_set ((w1.setCell ⟨b, E.n + 2, none⟩ (.pointer rl.ptr)).setCell ⟨c, E.n + 1, none⟩ (.pointer (some ⟨b, 0, none⟩))) c E.n (.int .i64 u')).at ((tkeep_set (w1.setCell ⟨b, E.n + 2, none⟩ (.pointer rl.ptr)) c (E.n + 1) (.pointer (some ⟨b, 0, none⟩))).at (tblk_set k0 (E.n + 2) (.pointer rl.ptr)) (not_one (Ne.symm hbc))) (not_one (Ne.symm hbc))
    rw [E.setr] at this
    exact this
  · exact hl.keep hK (fun k hm hh => by
      simp only [List.mem_cons, List.not_mem_nil, or_false] at hh
      rcases hh with rfl | rfl
      · exact n6 k hm k (by simp) rfl
      · exact n6 k hm k (by simp) rfl)
  · exact hrl.keep hK (fun k hm hh => by
      simp only [List.mem_cons, List.not_mem_nil, or_false] at hh
      rcases hh with rfl | rfl
      · exact n2 (by simp [hm])
      · exact n5 k hm k (by simp) rfl)
  · exact hrr.keep hK (fun k hm hh => by
      simp only [List.mem_cons, List.not_mem_nil, or_false] at hh
      rcases hh with rfl | rfl
      · exact n2 (by simp [hm])
      · exact n4.1 hm)
  · simp only [List.mem_cons, List.not_mem_nil, or_false] at hk
    rcases hk with rfl | rfl <;> simp [TT.bs_node]
theorem TAt.set_left {w1 : World} {b : Nat} {y : α} {v : Int} {l l' r : TT α} (h : TAt E w (.node b y v l r)) (hk : Keep G w w1) (hb : b ∉ G) (hr : ∀ k ∈ r.bs, k ∉ G) (hbr : b ∉ r.bs) (hl : TAt E w1 l') (hbl : b ∉ l'.bs) :
    TAt E (w1.setCell ⟨b, E.n + 1, none⟩ (.pointer l'.ptr)) (.node b y v l' r) := by
  obtain ⟨h0, -, h2⟩ := h
  refine ⟨?_, hl.keep (tkeep_set w1 b _ _) (fun k hm hh => hbl (by rw [List.mem_singleton] at hh; exact hh ▸ hm)), (h2.keep hk hr).keep (tkeep_set w1 b _ _) (fun k hm hh => hbr (by rw [List.mem_singleton] at hh; exact hh ▸ hm))⟩
  have := tblk_set (hk.at h0 hb) (E.n + 1) (.pointer l'.ptr)
  rw [E.setl] at this
  exact this
theorem TAt.set_right {w1 : World} {b : Nat} {y : α} {v : Int} {l r r' : TT α} (h : TAt E w (.node b y v l r)) (hk : Keep G w w1) (hb : b ∉ G) (hl : ∀ k ∈ l.bs, k ∉ G) (hbl : b ∉ l.bs) (hr : TAt E w1 r') (hbr : b ∉ r'.bs) :
    TAt E (w1.setCell ⟨b, E.n + 2, none⟩ (.pointer r'.ptr)) (.node b y v l r') := by
  obtain ⟨h0, h1, -⟩ := h
  refine ⟨?_, (h1.keep hk hl).keep (tkeep_set w1 b _ _) (fun k hm hh => hbl (by rw [List.mem_singleton] at hh; exact hh ▸ hm)), hr.keep (tkeep_set w1 b _ _) (fun k hm hh => hbr (by rw [List.mem_singleton] at hh; exact hh ▸ hm))⟩
  have := tblk_set (hk.at h0 hb) (E.n + 2) (.pointer r'.ptr)
  rw [E.setr] at this
  exact this
def TT.put (g : Nat) (y : α) : TT α → TT α
  | .nil => .nil
  | .node b x v l r => .node b (if b = g then y else x) v (l.put g y) (r.put g y)
theorem TT.put_ptr (g : Nat) (y : α) (t : TT α) : (t.put g y).ptr = t.ptr := by cases t <;> rfl
theorem TT.put_nodes (g : Nat) (y : α) : ∀ t : TT α, (t.put g y).nodes = t.nodes.map (fun p => if p.1 = g then (g, y) else p)
  | .nil => rfl
  | .node b x v l r => by
    rw [TT.put, TT.nodes, TT.nodes, TT.put_nodes g y l, TT.put_nodes g y r, List.map_append, List.map_cons]
    by_cases h : b = g
    · subst h; simp
    · simp [h]
theorem TT.put_out {g : Nat} {y : α} : ∀ {t : TT α}, g ∉ t.bs → t.put g y = t
  | .nil, _ => rfl
  | .node b x v l r, h => by
    rw [TT.bs_node] at h
    simp only [List.mem_append, List.mem_cons, not_or] at h
    rw [TT.put, TT.put_out h.1, TT.put_out h.2.2, if_neg (fun e => h.2.1 e.symm)]
theorem TAt.put {g : Nat} {y : α} : ∀ {t : TT α}, TAt E w t → t.bs.Nodup → g ∈ t.bs → Keep [g] w x → (∀ z v p q, (g, z) ∈ t.nodes → w.heap[g]? = some (.cells (E.nd z v p q) E.T (0, 0)) → x.heap[g]? = some (.cells (E.nd y v p q) E.T (0, 0))) → TAt E x (t.put g y)
  | .nil, _, _, hg, _, _ => by simp [TT.bs, TT.nodes] at hg
  | .node b z v l r, h, hn, hg, hk, hx => by
    obtain ⟨h0, hl, hr⟩ := h
    rw [TT.bs_node] at hn hg
    rw [List.nodup_append] at hn
    obtain ⟨n1, n2, n3⟩ := hn
    rw [List.nodup_cons] at n2
    rw [TT.put]
    by_cases hb : b = g
    · subst hb
      have hgl : b ∉ l.bs := fun hm => n3 b hm b (by simp) rfl
      rw [TT.put_out hgl, TT.put_out n2.1, if_pos rfl]
      exact ⟨hx z v _ _ (by simp [TT.nodes]) h0, hl.keep hk (fun k hm hh => by rw [List.mem_singleton] at hh; exact hgl (hh ▸ hm)), hr.keep hk (fun k hm hh => by rw [List.mem_singleton] at hh; exact n2.1 (hh ▸ hm))⟩
    · rw [if_neg hb]
      refine ⟨by rw [TT.put_ptr, TT.put_ptr]; exact hk.at h0 (by simpa using hb), ?_, ?_⟩
      · by_cases hm : g ∈ l.bs
        · exact TAt.put hl n1 hm hk (fun z v p q hz => hx z v p q (by simp [TT.nodes, hz]))
        · rw [TT.put_out hm]
          exact hl.keep hk (fun k hm' hh => by rw [List.mem_singleton] at hh; exact hm (hh ▸ hm'))
      · by_cases hm : g ∈ r.bs
        · exact TAt.put hr n2.2 hm hk (fun z v p q hz => hx z v p q (by simp [TT.nodes, hz]))
        · rw [TT.put_out hm]
          exact hr.keep hk (fun k hm' hh => by rw [List.mem_singleton] at hh; exact hm (hh ▸ hm'))
end
def Put (lt : α → α → Bool) (N N' : List (Nat × α)) (e : α) (fb g : Nat) : Prop :=
  (g = fb ∧ ∃ l r, N = l ++ r ∧ N' = l ++ (fb, e) :: r ∧ (∀ p ∈ l, lt p.2 e = true) ∧ (∀ p ∈ r, lt e p.2 = true)) ∨ (N' = N ∧ ∃ x, (g, x) ∈ N ∧ lt x e = false ∧ lt e x = false)
section
variable {lt : α → α → Bool} {N N' L R : List (Nat × α)} {e x : α} {fb g b : Nat}
theorem Put.nil : Put lt [] [(fb, e)] e fb fb := .inl ⟨rfl, [], [], rfl, rfl, fun _ h => by simp at h, fun _ h => by simp at h⟩
theorem Put.here (h : lt x e = false) (h' : lt e x = false) : Put lt (L ++ (b, x) :: R) (L ++ (b, x) :: R) e fb b := .inr ⟨rfl, x, by simp, h, h'⟩
theorem Put.left (ht : ∀ a b c, lt a b = true → lt b c = true → lt a c = true) (h : lt e x = true) (hR : ∀ p ∈ R, lt x p.2 = true) (hp : Put lt N N' e fb g) : Put lt (N ++ (b, x) :: R) (N' ++ (b, x) :: R) e fb g := by
  rcases hp with ⟨rfl, l, r, rfl, rfl, h1, h2⟩ | ⟨rfl, y, h1, h2, h3⟩
  · refine .inl ⟨rfl, l, r ++ (b, x) :: R, by simp, by simp, h1, fun p hp => ?_⟩
    rcases List.mem_append.1 hp with hp | hp
    · exact h2 p hp
    · rcases List.mem_cons.1 hp with rfl | hp
      · exact h
      · exact ht _ _ _ h (hR p hp)
  · exact .inr ⟨rfl, y, by simp [h1], h2, h3⟩
theorem Put.right (ht : ∀ a b c, lt a b = true → lt b c = true → lt a c = true) (h : lt x e = true) (hL : ∀ p ∈ L, lt p.2 x = true) (hp : Put lt N N' e fb g) : Put lt (L ++ (b, x) :: N) (L ++ (b, x) :: N') e fb g := by
  rcases hp with ⟨rfl, l, r, rfl, rfl, h1, h2⟩ | ⟨rfl, y, h1, h2, h3⟩
  · refine .inl ⟨rfl, L ++ (b, x) :: l, r, by simp, by simp, fun p hp => ?_, h2⟩
    rcases List.mem_append.1 hp with hp | hp
    · exact ht _ _ _ (hL p hp) h
    · rcases List.mem_cons.1 hp with rfl | hp
      · exact h
      · exact h1 p hp
  · exact .inr ⟨rfl, y, by simp [h1], h2, h3⟩
theorem Put.mem (hp : Put lt N N' e fb g) : ∀ k ∈ N'.map Prod.fst, k = fb ∨ k ∈ N.map Prod.fst := by
  intro k hk
  rcases hp with ⟨rfl, l, r, rfl, rfl, h1, h2⟩ | ⟨rfl, y, h1, h2, h3⟩
  · simp only [List.map_append, List.map_cons, List.mem_append, List.mem_cons] at hk ⊢
    rcases hk with h | h | h
    · exact .inr (.inl h)
    · exact .inl h
    · exact .inr (.inr h)
  · exact .inr hk
theorem Put.nodup (hp : Put lt N N' e fb g) (hn : (N.map Prod.fst).Nodup) (hf : fb ∉ N.map Prod.fst) : (N'.map Prod.fst).Nodup := by
  rcases hp with ⟨rfl, l, r, rfl, rfl, h1, h2⟩ | ⟨rfl, y, h1, h2, h3⟩
  · have hpm : (List.map Prod.fst (l ++ (g, e) :: r)).Perm (g :: List.map Prod.fst (l ++ r)) := by
      simp only [List.map_append, List.map_cons]
      exact List.perm_middle
    exact (hpm.nodup_iff).2 (List.nodup_cons.2 ⟨hf, hn⟩)
  · exact hn
theorem Put.old (hp : Put lt N N' e fb g) (hf : fb ∉ N.map Prod.fst) (hg : g ≠ fb) : N' = N ∧ ∃ x, (g, x) ∈ N ∧ lt x e = false ∧ lt e x = false := by
  rcases hp with ⟨rfl, -⟩ | h
  · exact absurd rfl hg
  · exact h
theorem Put.new (hp : Put lt N N' e fb fb) (hf : fb ∉ N.map Prod.fst) : ∃ l r, N = l ++ r ∧ N' = l ++ (fb, e) :: r ∧ (∀ p ∈ l, lt p.2 e = true) ∧ (∀ p ∈ r, lt e p.2 = true) := by
  rcases hp with ⟨_, h⟩ | ⟨_, y, h1, _⟩
  · exact h
  · exact absurd (List.mem_map_of_mem (f := Prod.fst) h1) hf
theorem Put.in (hp : Put lt N N' e fb g) : g ∈ N'.map Prod.fst := by
  rcases hp with ⟨rfl, l, r, rfl, rfl, h1, h2⟩ | ⟨rfl, y, h1, h2, h3⟩
  · simp
  · exact List.mem_map_of_mem (f := Prod.fst) h1
theorem geq_right {c : α} (hp : (L ++ (b, x) :: R).Pairwise (fun p q => lt p.2 q.2 = true)) (ht : ∀ a b c, lt a b = true → lt b c = true → lt a c = true) (h : lt x c = true) : (L ++ (b, x) :: R).filter (fun p => !lt p.2 c) = R.filter (fun p => !lt p.2 c) := by
  rw [List.filter_append, List.filter_cons_of_neg (by simp [h]), List.filter_eq_nil_iff.2 (fun p hm => ?_), List.nil_append]
  have := (List.pairwise_append.1 hp).2.2 p hm (b, x) (by simp)
  simp [ht _ _ _ this h]
theorem geq_left {c : α} (hp : (L ++ (b, x) :: R).Pairwise (fun p q => lt p.2 q.2 = true)) (ht : ∀ a b c, lt a b = true → lt b c = true → lt a c = true) (h : lt x c = false) : (L ++ (b, x) :: R).filter (fun p => !lt p.2 c) = L.filter (fun p => !lt p.2 c) ++ (b, x) :: R ∧ R.filter (fun p => !lt p.2 c) = R := by
  have h1 : R.filter (fun p => !lt p.2 c) = R := by
    rw [List.filter_eq_self]
    intro p hm
    have hx := (List.pairwise_cons.1 (List.pairwise_append.1 hp).2.1).1 p hm
    cases hl : lt p.2 c with
    | false => rfl
    | true => rw [ht _ _ _ hx hl] at h; cases h
  exact ⟨by rw [List.filter_append, List.filter_cons_of_pos (by simp [h]), h1], h1⟩
theorem TT.parts {b : Nat} {v : Int} {l r : TT α} (hn : (TT.node b x v l r).bs.Nodup) : l.bs.Nodup ∧ b ∉ l.bs ∧ b ∉ r.bs ∧ r.bs.Nodup ∧ (∀ k ∈ l.bs, k ∉ r.bs) := by
  rw [TT.bs_node, List.nodup_append, List.nodup_cons] at hn
  obtain ⟨h1, ⟨h2, h3⟩, h4⟩ := hn
  exact ⟨h1, fun h => h4 b h b (by simp) rfl, h2, h3, fun k hk hr => h4 k hk k (by simp [hr]) rfl⟩
theorem TT.notin {b : Nat} {v : Int} {l r : TT α} (hf : fb ∉ (TT.node b x v l r).bs) : fb ∉ l.bs ∧ b ≠ fb ∧ fb ∉ r.bs := by
  rw [TT.bs_node] at hf
  simp only [List.mem_append, List.mem_cons, not_or] at hf
  exact ⟨hf.1, fun e => hf.2.1 e.symm, hf.2.2⟩
theorem TT.order {b : Nat} {v : Int} {l r : TT α} (hp : (TT.node b x v l r).nodes.Pairwise (fun p q => lt p.2 q.2 = true)) : l.nodes.Pairwise (fun p q => lt p.2 q.2 = true) ∧ r.nodes.Pairwise (fun p q => lt p.2 q.2 = true) ∧ (∀ p ∈ l.nodes, lt p.2 x = true) ∧ (∀ p ∈ r.nodes, lt x p.2 = true) := by
  rw [TT.nodes, List.pairwise_append, List.pairwise_cons] at hp
  obtain ⟨h1, ⟨h2, h3⟩, h4⟩ := hp
  exact ⟨h1, h3, fun p hp => h4 p hp (b, x) (by simp), fun p hp => h2 p hp⟩
def Cel (w : World) (b : Nat) : Prop := ∃ ca ta, w.heap[b]? = some (.cells ca ta (0, 0))
theorem Cel.keep {F : List Nat} {w w' : World} (h : Cel w b) (hk : Keep F w w') (hb : b ∉ F) : Cel w' b := by
  obtain ⟨ca, ta, h⟩ := h
  exact ⟨ca, ta, hk.at h hb⟩
theorem TAt.cel {E : NL α} {w : World} {t : TT α} (h : TAt E w t) (hb : b ∈ t.bs) : Cel w b := by
  unfold TT.bs at hb
  obtain ⟨⟨k, y⟩, hm, rfl⟩ := List.mem_map.1 hb
  obtain ⟨v, p, q, hh⟩ := h.look hm
  exact ⟨_, _, hh⟩
def Wound (E : NL α) (lt : α → α → Bool) (e : α) (fb : Nat) (t t' : TT α) (g : Nat) (w w' : World) : Prop :=
  TAt E w' t' ∧ t'.bs.Nodup ∧ Put lt t.nodes t'.nodes e fb g ∧ Keep (fb :: t.bs) w w' ∧ (∀ k ∈ t'.bs, k ∈ fb :: t.bs) ∧ Cel w' fb
variable {E : NL α} {w w1 w2 : World}
theorem wound_left {v : Int} {l r l' : TT α} (ht : ∀ a b c, lt a b = true → lt b c = true → lt a c = true) (h : TAt E w (.node b x v l r)) (hn : (TT.node b x v l r).bs.Nodup) (hf : fb ∉ (TT.node b x v l r).bs) (hp : (TT.node b x v l r).nodes.Pairwise (fun p q => lt p.2 q.2 = true)) (hlt : lt e x = true) (hB : Bel w w1)
    (hT : TAt E w2 l') (hP : Put lt l.nodes l'.nodes e fb g) (hK : Keep (fb :: l.bs) w1 w2) (hC : Cel w2 fb) : Wound E lt e fb (.node b x v l r) (.node b x v l' r) g w (w2.setCell ⟨b, E.n + 1, none⟩ (.pointer l'.ptr)) := by
  obtain ⟨n1, n2, n3, n4, n5⟩ := TT.parts hn
  obtain ⟨f1, f2, f3⟩ := TT.notin hf
  obtain ⟨p1, p2, p3, p4⟩ := TT.order hp
  have hPut := Put.left (b := b) (R := r.nodes) ht hlt p4 hP
  have hbl : b ∉ l'.bs := fun hm => by rcases hP.mem b hm with h | h; exact f2 h; exact n2 h
  have hKw : Keep (fb :: l.bs) w w2 := (Keep.of_bel hB _).trans hK (fun k hk => Or.inl hk)
  have hsub : ∀ k ∈ fb :: l.bs, k ∈ fb :: (TT.node b x v l r).bs := fun k hk => by
    rw [TT.bs_node]; rcases List.mem_cons.1 hk with rfl | hk
    · simp
    · simp [hk]
  refine ⟨h.set_left hKw (fun hm => ?_) (fun k hk hm => ?_) n3 hT hbl, hPut.nodup hn hf, hPut, (hKw.mono hsub).setCell (p := ⟨b, E.n + 1, none⟩) (Or.inl (by rw [TT.bs_node]; simp)) _, fun k hk => ?_, hC.keep (tkeep_set w2 b _ _) (not_one (Ne.symm f2))⟩
  · rcases List.mem_cons.1 hm with h | h
    · exact f2 h
    · exact n2 h
  · rcases List.mem_cons.1 hm with h | h
    · exact f3 (h ▸ hk)
    · exact n5 k h hk
  · rcases hPut.mem k hk with h | h
    · simp [h]
    · exact List.mem_cons_of_mem _ h
theorem wound_right {v : Int} {l r r' : TT α} (ht : ∀ a b c, lt a b = true → lt b c = true → lt a c = true) (h : TAt E w (.node b x v l r)) (hn : (TT.node b x v l r).bs.Nodup) (hf : fb ∉ (TT.node b x v l r).bs) (hp : (TT.node b x v l r).nodes.Pairwise (fun p q => lt p.2 q.2 = true)) (hlt : lt x e = true) (hB : Bel w w1)
    (hT : TAt E w2 r') (hP : Put lt r.nodes r'.nodes e fb g) (hK : Keep (fb :: r.bs) w1 w2) (hC : Cel w2 fb) : Wound E lt e fb (.node b x v l r) (.node b x v l r') g w (w2.setCell ⟨b, E.n + 2, none⟩ (.pointer r'.ptr)) := by
  obtain ⟨n1, n2, n3, n4, n5⟩ := TT.parts hn
  obtain ⟨f1, f2, f3⟩ := TT.notin hf
  obtain ⟨p1, p2, p3, p4⟩ := TT.order hp
  have hPut := Put.right (b := b) (L := l.nodes) ht hlt p3 hP
  have hbr : b ∉ r'.bs := fun hm => by rcases hP.mem b hm with h | h; exact f2 h; exact n3 h
  have hKw : Keep (fb :: r.bs) w w2 := (Keep.of_bel hB _).trans hK (fun k hk => Or.inl hk)
  have hsub : ∀ k ∈ fb :: r.bs, k ∈ fb :: (TT.node b x v l r).bs := fun k hk => by
    rw [TT.bs_node]; rcases List.mem_cons.1 hk with rfl | hk
    · simp
    · simp [hk]
  refine ⟨h.set_right hKw (fun hm => ?_) (fun k hk hm => ?_) n2 hT hbr, hPut.nodup hn hf, hPut, (hKw.mono hsub).setCell (p := ⟨b, E.n + 2, none⟩) (Or.inl (by rw [TT.bs_node]; simp)) _, fun k hk => ?_, hC.keep (tkeep_set w2 b _ _) (not_one (Ne.symm f2))⟩
  · rcases List.mem_cons.1 hm with h | h
    · exact f2 h
    · exact n3 h
  · rcases List.mem_cons.1 hm with h | h
    · exact f1 (h ▸ hk)
    · exact n5 k hk h
  · rcases hPut.mem k hk with h | h
    · simp [h]
    · exact List.mem_cons_of_mem _ h
theorem wound_here {v : Int} {l r : TT α} (h : TAt E w (.node b x v l r)) (hn : (TT.node b x v l r).bs.Nodup) (h1 : lt x e = false) (h2 : lt e x = false) (hB : Bel w w1) (hC : Cel w1 fb) : Wound E lt e fb (.node b x v l r) (.node b x v l r) b w w1 :=
  ⟨h.bel hB, hn, Put.here h1 h2, Keep.of_bel hB _, fun k hk => List.mem_cons_of_mem _ hk, hC⟩
theorem Wound.turn {t t' t2 : TT α} (h : Wound E lt e fb t t' g w w1) (h2 : TAt E w2 t2) (hN : t2.nodes = t'.nodes) (hk : Keep t'.bs w1 w2) : Wound E lt e fb t t2 g w w2 := by
  obtain ⟨a1, a2, a3, a4, a5, a6⟩ := h
  have e : t2.bs = t'.bs := by unfold TT.bs; rw [hN]
  exact ⟨h2, e ▸ a2, hN ▸ a3, a4.trans hk (fun k hk => Or.inl (a5 k hk)), e ▸ a5, by
    by_cases hm : fb ∈ t2.bs
    · exact h2.cel hm
    · exact a6.keep hk (e ▸ hm)⟩
end
end Go.Proofs.YteimllgoelleeaaGreatDoor
