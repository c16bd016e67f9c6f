/- A slice of values that the call itself made: what it owns, and append onto it. -/
import Derived.Test.YtndknolblfdcdaaDoorRefRd4
import Derived.Test.YtndknolblfdcdaaDoorShown
set_option linter.unusedSimpArgs false
set_option linter.unusedVariables false
namespace Go.Proofs.YtndknolblfdcdaaDoor
open Go.RowKit

/-- The cells of one api.Value. -/
def vCells (r : Int × Int × ByteArray) : List Value := [.int .i64 r.1, .int .i64 r.2.1, .string r.2.2]
def vAll (L : List (Int × Int × ByteArray)) : List Value := L.flatMap vCells
theorem vAll_len (L : List (Int × Int × ByteArray)) : (vAll L).length = L.length * 3 := by
  induction L with
  | nil => rfl
  | cons r L ih => simp only [vAll, List.flatMap_cons, List.length_append, List.length_cons] at *; rw [ih]; simp [vCells]; omega
theorem vAll_append (L M : List (Int × Int × ByteArray)) : vAll (L ++ M) = vAll L ++ vAll M := by simp [vAll]
theorem vAll_one (L : List (Int × Int × ByteArray)) : ∀ u ∈ vAll L, u.oneCell' = true := by
  intro u hu
  simp only [vAll, List.mem_flatMap, vCells] at hu
  obtain ⟨r, _, h⟩ := hu
  simp at h
  rcases h with rfl | rfl | rfl <;> rfl
/-- The slice value v, laid from block B on, holds the values L. -/
def OwnV (B : Nat) (w : World) (v : Value) (L : List (Int × Int × ByteArray)) : Prop := w.ownsRow B 23 3 v L.length (vAll L)
theorem OwnV.bel {B : Nat} {w x : World} {v : Value} {l : List (Int × Int × ByteArray)} (h : OwnV B w v l) (hb : Bel w x) : OwnV B x v l := by
  obtain ⟨h1, h2⟩ := h
  refine ⟨h1, ?_⟩
  rcases h2 with h2 | ⟨g, cap, cur, hv, hg, hh, r⟩
  · exact Or.inl h2
  · refine Or.inr ⟨g, cap, cur, hv, hg, ?_, r⟩
    have hlt : g < w.heap.size := by
      rcases Nat.lt_or_ge g w.heap.size with h | h
      · exact h
      · rw [Array.getElem?_eq_none h] at hh; cases hh
    rw [Below.block hb g hlt]; exact hh
theorem infoV : (Tryd.prog.info? 23).map (fun i => (i.zero, i.size, i.bytes)) = some (some (.agg #[.int .i64 0, .int .i64 0, .string ⟨#[]⟩]), 3, 32) := by kernel_rfl
theorem wp_append_vals {o : Oper} {a : Act} {K : Act → World → Prop} {Q : Exit → Act → World → Prop} {w : World} (s x : Operand)
    (ho : o.op = .call { callee := .builtin .append, args := #[s, x], argTypes := #[46, 46] })
    (B : Nat) (v : Value) (l : List (Int × Int × ByteArray)) (hs : a.eval s = v) (hown : OwnV B w v l)
    (ad : Addr) (m c : Nat) (news : List (Int × Int × ByteArray)) (hx : a.eval x = .slice (some ad) m c) (hm : m = news.length) (hnews : ∀ j u, (vAll news)[j]? = some u → w.cell? (ad.add j) = some u)
    (hlim : l.length + news.length ≤ 1000) (hbase : B ≤ w.heap.size)
    (h : ∀ v' w', OwnV B w' v' (l ++ news) → Below B w w' → K (a.put o.dst v') w') : o.wp Tryd.prog a w K Q := by
  obtain ⟨i0, hi, hz0, hz1, hz2⟩ := info_parts infoV
  subst hm
  refine wp_append_own w s x 46 ho B 23 i0 _ 3 32 Tryd.underlying46 hi hz0 hz1 hz2 rfl (by decide) v l.length (vAll l) hs hown ad news.length c (vAll news) hx
    (vAll_len _) hnews (vAll_one _) (by unfold maxLen; omega) (by omega) hbase ?_
  intro v' w' h1 h2 _
  refine h v' w' ?_ ((Below.refl B w).grown h2 hbase fun k hk => (World.ownsRow.lt hown k hk).1)
  unfold OwnV
  rw [List.length_append, vAll_append]
  exact h1
theorem vcells_new (w : World) (arr : Array Value) (T : TypeId) (news : List (Int × Int × ByteArray)) (h : arr.toList = vAll news) :
    ∀ j u, (vAll news)[j]? = some u → (w.alloc (.cells arr T)).cell? ((⟨w.heap.size, 0, none⟩ : Addr).add j) = some u := by
  intro j u hj
  rw [← h] at hj
  have e : (⟨w.heap.size, 0, none⟩ : Addr).add j = ⟨w.heap.size, j, none⟩ := by cases j <;> simp [Addr.add]
  rw [e, World.cell?_alloc_new]
  simpa using hj
theorem OwnV.alloc {B : Nat} {w : World} {v : Value} {l : List (Int × Int × ByteArray)} (h : OwnV B w v l) (o : Obj) : OwnV B (w.alloc o) v l := World.ownsRow.alloc h o
/-- append(v, a literal's values): the literal has just been laid. -/
theorem wp_append_vlit {o : Oper} {a : Act} {K : Act → World → Prop} {Q : Exit → Act → World → Prop} {x W : World} {T : TypeId} (s y : Operand)
    (ho : o.op = .call { callee := .builtin .append, args := #[s, y], argTypes := #[46, 46] })
    (B : Nat) (v : Value) (l : List (Int × Int × ByteArray)) (hs : a.eval s = v) (hown : OwnV B x v l)
    (arr : Array Value) (m c : Nat) (news : List (Int × Int × ByteArray)) (hx : a.eval y = .slice (some ⟨x.heap.size, 0, none⟩) m c) (hm : m = news.length) (harr : arr.toList = vAll news)
    (hlim : l.length + news.length ≤ 1000) (hbase : B ≤ x.heap.size) (hW : W = x.alloc (.cells arr T) ∨ W = (x.alloc (.cells arr T)).drew)
    (h : ∀ v' w', OwnV B w' v' (l ++ news) → Below B x w' → B ≤ w'.heap.size → K (a.put o.dst v') w') : o.wp Tryd.prog a W K Q := by
  have hsz : W.heap.size = x.heap.size + 1 := by rcases hW with rfl | rfl <;> simp [World.drew]
  have hc : ∀ j u, (vAll news)[j]? = some u → W.cell? ((⟨x.heap.size, 0, none⟩ : Addr).add j) = some u := by rcases hW with rfl | rfl <;> exact vcells_new x arr T news harr
  have ho' : OwnV B W v l := by rcases hW with rfl | rfl <;> exact hown.alloc _
  have hb : Below B x W := by
    rcases hW with rfl | rfl
    · exact (Below.refl B x).alloc hbase _
    · exact ((Below.refl B x).alloc hbase _).drew
  refine wp_append_vals s y ho B v l hs ho' ⟨x.heap.size, 0, none⟩ m c news hx hm hc hlim (by omega) ?_
  intro v' w' h1 h2
  have h3 := h2.size
  exact h v' w' h1 (hb.trans h2) (by omega)
theorem append_vlit {ops : Array Oper} {rest : List Oper} {o : Oper} {a : Act} {Q : Exit → Act → World → Prop} {x W : World} {T : TypeId} (hgd : o.guard = none) (s y : Operand)
    (ho : o.op = .call { callee := .builtin .append, args := #[s, y], argTypes := #[46, 46] })
    (B : Nat) (v : Value) (l : List (Int × Int × ByteArray)) (hs : a.eval s = v) (hown : OwnV B x v l)
    (arr : Array Value) (m c : Nat) (news : List (Int × Int × ByteArray)) (hx : a.eval y = .slice (some ⟨x.heap.size, 0, none⟩) m c) (hm : m = news.length) (harr : arr.toList = vAll news)
    (hlim : l.length + news.length ≤ 1000) (hbase : B ≤ x.heap.size) (hW : W = x.alloc (.cells arr T) ∨ W = (x.alloc (.cells arr T)).drew)
    (h : ∀ v' w', OwnV B w' v' (l ++ news) → Below B x w' → B ≤ w'.heap.size → wpList Tryd.prog ops Q rest (a.put o.dst v') w') : wpList Tryd.prog ops Q (o :: rest) a W :=
  wpList_plain hgd fun _ hK => wp_append_vlit s y ho B v l hs hown arr m c news hx hm harr hlim hbase hW fun v' w' h1 h2 h3 => hK _ _ (h v' w' h1 h2 h3)
/-- A slice that a literal has just made. -/
theorem ownV_new (B : Nat) (w : World) (arr : Array Value) (l : List (Int × Int × ByteArray)) (h : arr.toList = vAll l) (hB : B ≤ w.heap.size) (hl : l.length ≤ 1000) :
    OwnV B (w.alloc (.cells arr 23)) (.slice (some ⟨w.heap.size, 0, none⟩) l.length l.length) l := by
  refine ⟨vAll_len l, Or.inr ⟨w.heap.size, l.length, arr, rfl, hB, heap_alloc_new w _, Nat.le_refl _, by unfold maxLen; omega, ?_, ?_⟩⟩
  · rw [← Array.length_toList, h, vAll_len]
  · rw [h, ← vAll_len l, List.take_length]
theorem vAll_get : ∀ (L : List (Int × Int × ByteArray)) (i : Nat) (r : Int × Int × ByteArray), L[i]? = some r → (vAll L)[i * 3]? = some (.int .i64 r.1) ∧ (vAll L)[i * 3 + 1]? = some (.int .i64 r.2.1) ∧ (vAll L)[i * 3 + 2]? = some (.string r.2.2)
  | [], i, r, h => by simp at h
  | x :: L, 0, r, h => by simp at h; subst h; simp [vAll, vCells]
  | x :: L, i + 1, r, h => by
    have := vAll_get L i r (by simpa using h)
    simp only [vAll, List.flatMap_cons, vCells, show (i + 1) * 3 = i * 3 + 3 by omega, show i * 3 + 3 + 1 = i * 3 + 1 + 3 by omega, show i * 3 + 3 + 2 = i * 3 + 2 + 3 by omega]
    simpa [vAll] using this
/-- What an element's cells are. -/
theorem ownV_cells {B : Nat} {w : World} {v : Value} {L : List (Int × Int × ByteArray)} (h : OwnV B w v L) (hne : L ≠ []) :
    ∃ g cap, v = .slice (some ⟨g, 0, none⟩) L.length cap ∧ B ≤ g ∧ g < w.heap.size ∧ L.length ≤ cap ∧ ∀ (i : Nat) r, L[i]? = some r → w.cell? ⟨g, i * 3, none⟩ = some (.int .i64 r.1) ∧ w.cell? ⟨g, i * 3 + 1, none⟩ = some (.int .i64 r.2.1) ∧ w.cell? ⟨g, i * 3 + 2, none⟩ = some (.string r.2.2) := by
  obtain ⟨hlen, h2⟩ := h
  rcases h2 with ⟨_, h0⟩ | ⟨g, cap, cur, rfl, hg, hh, hcap, _, hsz, htk⟩
  · exact absurd (List.length_eq_zero_iff.1 h0) hne
  · refine ⟨g, cap, rfl, hg, ?_, hcap, ?_⟩
    · rcases Nat.lt_or_ge g w.heap.size with h | h
      · exact h
      · rw [Array.getElem?_eq_none h] at hh; cases hh
    · intro i r hr
      have hi : i < L.length := by
        rcases Nat.lt_or_ge i L.length with h | h
        · exact h
        · rw [List.getElem?_eq_none h] at hr; cases hr
      obtain ⟨a0, a1, a2⟩ := vAll_get L i r hr
      rw [← htk, List.getElem?_take_of_lt (by omega)] at a0 a1 a2
      simp [World.cell?, hh]
      simp at a0 a1 a2
      exact ⟨a0, a1, a2⟩
end Go.Proofs.YtndknolblfdcdaaDoor
