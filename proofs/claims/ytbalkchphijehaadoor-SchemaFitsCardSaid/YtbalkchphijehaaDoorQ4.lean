/- Own, laid together. -/
import Derived.Test.YtbalkchphijehaaDoorQ1
import Derived.Lib.UnsafeStr
import Derived.Lib.BufferWrite
import Derived.Lib.BufferRead
import Derived.StillTailTactics
import Derived.Deep.RegionLaw
set_option linter.unusedSimpArgs false
set_option linter.unusedVariables false
/- A byte slice that the call itself made: what it owns, and append onto it. -/
namespace Go.Proofs.YtbalkchphijehaaDoor
open Go.RowKit

/-- The slice value v, laid from block B on, holds the bytes l. -/
def Own (B : Nat) (w : World) (v : Value) (l : List UInt8) : Prop := w.ownsRow B 5 1 v l.length (Lib.byteCells l)
theorem Own.alloc {B : Nat} {w : World} {v : Value} {l : List UInt8} (h : Own B w v l) (o : Obj) : Own B (w.alloc o) v l := World.ownsRow.alloc h o
theorem Own.drew {B : Nat} {w : World} {v : Value} {l : List UInt8} (h : Own B w v l) : Own B w.drew v l := h
theorem Own.drewN {B : Nat} {w : World} {v : Value} {l : List UInt8} (h : Own B w v l) (n : Nat) : Own B (w.drewN n) v l := h
theorem Own.bel {B : Nat} {w x : World} {v : Value} {l : List UInt8} (h : Own B w v l) (hb : Bel w x) : Own B x v l := by
  obtain ⟨h1, h2⟩ := h
  refine ⟨h1, ?_⟩
  rcases h2 with h2 | ⟨g, cap, cur, hv, hg, hh, r⟩
  · exact Or.inl h2
  · refine Or.inr ⟨g, cap, cur, hv, hg, ?_, r⟩
    have hlt : g < w.heap.size := by
      rcases Nat.lt_or_ge g w.heap.size with h | h
      · exact h
      · rw [Array.getElem?_eq_none h] at hh; cases hh
    rw [Below.block hb g hlt]; exact hh
theorem Own.nil (B : Nat) (w : World) : Own B w (.slice none 0 0) [] := World.ownsRow_nil _ _ _ _
theorem Own.lt {B : Nat} {w : World} {v : Value} {l : List UInt8} (h : Own B w v l) : ∀ k, v.ownBlock = some k → B ≤ k ∧ k < w.heap.size := World.ownsRow.lt h

theorem infoByte : (Tryd.prog.info? 5).map (fun i => (i.zero, i.size, i.bytes)) = some (some (.int .u8 0), 1, 1) := by kernel_rfl

theorem wp_append_bytes {o : Oper} {a : Act} {K : Act → World → Prop} {Q : Exit → Act → World → Prop} {w : World} (s x : Operand)
    (ho : o.op = .call { callee := .builtin .append, args := #[s, x], argTypes := #[49, 49] })
    (B : Nat) (v : Value) (l : List UInt8) (hs : a.eval s = v) (hown : Own B w v l)
    (ad : Addr) (m c : Nat) (news : List UInt8) (hx : a.eval x = .slice (some ad) m c) (hm : m = news.length) (hnews : ∀ j u, (Lib.byteCells news)[j]? = some u → w.cell? (ad.add j) = some u)
    (hlim : l.length + news.length ≤ 140737488355328) (hbase : B ≤ w.heap.size)
    (h : ∀ v' w', Own B w' v' (l ++ news) → w.grownBy w' v.ownBlock → Below B w w' → K (a.put o.dst v') w') : o.wp Tryd.prog a w K Q := by
  obtain ⟨i0, hi, hz0, hz1, hz2⟩ := info_parts infoByte
  subst hm
  refine wp_append_own w s x 49 ho B 5 i0 (.int .u8 0) 1 1 Tryd.underlying49 hi hz0 hz1 hz2 rfl (by decide) v l.length (Lib.byteCells l) hs hown ad news.length c (Lib.byteCells news) hx
    (by rw [Lib.byteCells_length, Nat.mul_one]) hnews (Lib.byteCells_one _) (by unfold maxLen; omega) (by omega) hbase ?_
  intro v' w' h1 h2 _
  refine h v' w' ?_ h2 ((Below.refl B w).grown h2 hbase fun k hk => (hown.lt k hk).1)
  unfold Own
  rw [List.length_append, Lib.byteCells_append]
  exact h1

/-- The cells of a block that has just been laid. -/
theorem cells_new (w : World) (arr : Array Value) (T : TypeId) (news : List UInt8) (h : arr.toList = Lib.byteCells news) :
    ∀ j u, (Lib.byteCells news)[j]? = some u → (w.alloc (.cells arr T)).cell? ((⟨w.heap.size, 0, none⟩ : Addr).add j) = some u := by
  intro j u hj
  rw [← h] at hj
  have e : (⟨w.heap.size, 0, none⟩ : Addr).add j = ⟨w.heap.size, j, none⟩ := by cases j <;> simp [Addr.add]
  rw [e, World.cell?_alloc_new]
  simpa using hj

/-- append(v, a literal's bytes): the literal has just been laid. -/
theorem wp_append_lit {o : Oper} {a : Act} {K : Act → World → Prop} {Q : Exit → Act → World → Prop} {x W : World} {T : TypeId} (s y : Operand)
    (ho : o.op = .call { callee := .builtin .append, args := #[s, y], argTypes := #[49, 49] })
    (B : Nat) (v : Value) (l : List UInt8) (hs : a.eval s = v) (hown : Own B x v l)
    (arr : Array Value) (m c : Nat) (news : List UInt8) (hx : a.eval y = .slice (some ⟨x.heap.size, 0, none⟩) m c) (hm : m = news.length) (harr : arr.toList = Lib.byteCells news)
    (hlim : l.length + news.length ≤ 140737488355328) (hbase : B ≤ x.heap.size) (hW : W = x.alloc (.cells arr T) ∨ W = (x.alloc (.cells arr T)).drew)
    (h : ∀ v' w', Own B w' v' (l ++ news) → Below B x w' → B ≤ w'.heap.size → K (a.put o.dst v') w') : o.wp Tryd.prog a W K Q := by
  have hsz : W.heap.size = x.heap.size + 1 := by rcases hW with rfl | rfl <;> simp [World.drew]
  have hc : ∀ j u, (Lib.byteCells news)[j]? = some u → W.cell? ((⟨x.heap.size, 0, none⟩ : Addr).add j) = some u := by rcases hW with rfl | rfl <;> exact cells_new x arr T news harr
  have ho' : Own B W v l := by rcases hW with rfl | rfl <;> exact hown.alloc _
  have hb : Below B x W := by
    rcases hW with rfl | rfl
    · exact (Below.refl B x).alloc hbase _
    · exact ((Below.refl B x).alloc hbase _).drew
  refine wp_append_bytes s y ho B v l hs ho' ⟨x.heap.size, 0, none⟩ m c news hx hm hc hlim (by omega) ?_
  intro v' w' h1 _ h2
  have h3 := h2.size
  exact h v' w' h1 (hb.trans h2) (by omega)
theorem append_lit {ops : Array Oper} {rest : List Oper} {o : Oper} {a : Act} {Q : Exit → Act → World → Prop} {x W : World} {T : TypeId} (hgd : o.guard = none) (s y : Operand)
    (ho : o.op = .call { callee := .builtin .append, args := #[s, y], argTypes := #[49, 49] })
    (B : Nat) (v : Value) (l : List UInt8) (hs : a.eval s = v) (hown : Own B x v l)
    (arr : Array Value) (m c : Nat) (news : List UInt8) (hx : a.eval y = .slice (some ⟨x.heap.size, 0, none⟩) m c) (hm : m = news.length) (harr : arr.toList = Lib.byteCells news)
    (hlim : l.length + news.length ≤ 140737488355328) (hbase : B ≤ x.heap.size) (hW : W = x.alloc (.cells arr T) ∨ W = (x.alloc (.cells arr T)).drew)
    (h : ∀ v' w', Own B w' v' (l ++ news) → Below B x w' → B ≤ w'.heap.size → wpList Tryd.prog ops Q rest (a.put o.dst v') w') : wpList Tryd.prog ops Q (o :: rest) a W :=
  wpList_plain hgd fun _ hK => wp_append_lit s y ho B v l hs hown arr m c news hx hm harr hlim hbase hW fun v' w' h1 h2 h3 => hK _ _ (h v' w' h1 h2 h3)
/-- string(v) of what the call's own slice holds. -/
theorem own_string {B : Nat} {w : World} {v : Value} {l : List UInt8} (h : Own B w v l) : (convert 49 9 v).run Tryd.prog w = .ok (.string ⟨l.toArray⟩) w := by
  rcases h.2 with ⟨rfl, h0⟩ | ⟨g, cap, cur, rfl, _, hg, _, _, _, htk⟩
  · have : l = [] := List.length_eq_zero_iff.1 h0
    subst this
    exact Lib.run_convert_nil_bytes w _ _ 5 0 Tryd.underlying49 Tryd.underlying5 Tryd.underlying9
  · exact run_convert_bytes_back w _ _ 5 _ _ l Tryd.underlying49 Tryd.underlying5 Tryd.underlying9 (Lib.bytes_of_row hg (by rw [← htk, Nat.mul_one]))

end Go.Proofs.YtbalkchphijehaaDoor
