/- GAppIn, laid together. -/
import Derived.Test.YtmdkpomgckkllaaP5
import Derived.OwnWalkIn
import Derived.OrdersIn
import Derived.TacticsIn
set_option linter.unusedSimpArgs false
set_option linter.unusedVariables false
/- Append onto a slice of one's own, within a fence: as XBOwn has it outside. -/
namespace Go.Proofs.Ytmdkpomgckkllaa
open Go.RowKit

theorem wpIn_append_all {α : Type} {E : El α} {n b m : Nat} {F : Fence} (hE : ElOk E b) {o : Oper} {a : Act} {K : Act → World → Prop} {Q : Exit → Act → World → Prop} {x : World} (s y : Operand)
    (ho : o.op = .call { callee := .builtin .append, args := #[s, y], argTypes := #[E.ST, E.ST] }) {v yv : Value} {L : List α}
    (hs : a.eval s = v) (hown : OwnG E n x v L) (news : List α) (hy : a.eval y = yv) (hsrc : SrcAt E x yv news)
    (hl1 : L.length + news.length ≤ maxLen) (hlim : (L.length + news.length) * b ≤ 140737488355328) (hbase : n ≤ x.heap.size)
    (h : ∀ v' w', OwnG E n w' v' (L ++ news) → Keep v.ownBlock.toList x w' → (v'.ownBlock = v.ownBlock ∨ v'.ownBlock = some x.heap.size) → K (a.put o.dst v') w') : o.wpIn F m Try.prog a x K Q := by
  obtain ⟨v', w', hr, h1, h2, h3⟩ := run_append_all hE o.type hown news hsrc hl1 hlim hbase
  refine ⟨by simp [Oper.about, ho, resolve, Target.leads, Sem.run_pure], ?_⟩
  rw [Oper.semAt_plain F _ _ (by rw [ho]; intro c hc; cases hc)]
  simp only [execOp, ho, resolve, invoke, builtin, Sem.run_bind, Sem.run_pure, Result.andThen_ok, List.map_toArray, List.map_cons, List.map_nil, hs, hy, hr]
  exact h v' w' h1 h2 h3
theorem appendIn_all {α : Type} {E : El α} {n b m : Nat} {F : Fence} (hE : ElOk E b) {ops : Array Oper} {rest : List Oper} {o : Oper} {a : Act} {Q : Exit → Act → World → Prop} {x : World} (hgd : o.guard = none) (s y : Operand)
    (ho : o.op = .call { callee := .builtin .append, args := #[s, y], argTypes := #[E.ST, E.ST] }) {v yv : Value} {L : List α}
    (hs : a.eval s = v) (hown : OwnG E n x v L) (news : List α) (hy : a.eval y = yv) (hsrc : SrcAt E x yv news)
    (hl1 : L.length + news.length ≤ maxLen) (hlim : (L.length + news.length) * b ≤ 140737488355328) (hbase : n ≤ x.heap.size)
    (h : ∀ v' w', OwnG E n w' v' (L ++ news) → Keep v.ownBlock.toList x w' → (v'.ownBlock = v.ownBlock ∨ v'.ownBlock = some x.heap.size) → wpListIn F m Try.prog ops Q rest (a.put o.dst v') w') : wpListIn F m Try.prog ops Q (o :: rest) a x :=
  wpListIn_plain hgd fun _ hK => wpIn_append_all hE s y ho hs hown news hy hsrc hl1 hlim hbase fun v' w' h1 h2 h3 => hK _ _ (h v' w' h1 h2 h3)
theorem stepIn_append_all {α : Type} {E : El α} {n b m : Nat} {F : Fence} (hE : ElOk E b) {ops : Array Oper} {o : Oper} {a : Act} {K : Act → World → Prop} {Q : Exit → Act → World → Prop} {G : Prop} {x : World} (hgd : o.guard = none) (s y : Operand)
    (ho : o.op = .call { callee := .builtin .append, args := #[s, y], argTypes := #[E.ST, E.ST] }) {v yv : Value} {L : List α}
    (hs : a.eval s = v) (hown : OwnG E n x v L) (news : List α) (hy : a.eval y = yv) (hsrc : SrcAt E x yv news)
    (hl1 : L.length + news.length ≤ maxLen) (hlim : (L.length + news.length) * b ≤ 140737488355328) (hbase : n ≤ x.heap.size)
    (h : ∀ v' w', OwnG E n w' v' (L ++ news) → Keep v.ownBlock.toList x w' → (v'.ownBlock = v.ownBlock ∨ v'.ownBlock = some x.heap.size) → K (a.put o.dst v') w') : if Region.wanted o (yielded ops a.tmps) = true then o.wpIn F m Try.prog a x K Q else G := by
  rw [if_pos (by simp [Region.wanted, hgd])]
  exact wpIn_append_all hE s y ho hs hown news hy hsrc hl1 hlim hbase h
/-- No operation of these puts a call off. -/
def noDefer (ops : Array Oper) : Bool := ops.all (fun o => match o.op with
  | .defer _ => false
  | _ => true)
theorem noDefer_at {ops : Array Oper} (h : noDefer ops = true) {i : Nat} {o : Oper} (hi : ops[i]? = some o) : ∀ c, o.op ≠ .defer c := by
  intro c hc
  obtain ⟨hlt, he⟩ := Array.getElem?_eq_some_iff.1 hi
  have := Array.all_eq_true.1 h i hlt
  rw [he, hc] at this
  cases this
/-- A region that draws its order, in a round of a loop over a function: as outside. -/
theorem wpAnyIn_round {F : Fence} {n : Nat} {P : Program} {md : Region.Mode} {ops : Array Oper} {Q : Exit → Act → World → Prop} {l : Nat} (hro : F.round = none) (hd : noDefer ops = true) :
    ∀ (fuel : Nat) (listed : Array Bool) (a : Act) (w : World), wpAnyIn F n P md ops Q fuel listed a w → wpAnyIn (F.inRound l) n P md ops Q fuel listed a w
  | 0, _, _, _, h => h
  | fuel + 1, listed, a, w, h => by
    refine ⟨h.1, fun i hi => ?_⟩
    have h1 := h.2 i hi
    cases ho : ops[i]? with
    | none =>
      simp only [wpOpIn, ho] at h1 ⊢
      exact wpAnyIn_round hro hd fuel _ _ _ h1
    | some o =>
      simp only [wpOpIn, ho] at h1 ⊢
      cases hw : Region.wanted o (yielded ops a.tmps) with
      | true =>
        rw [hw, if_pos rfl] at h1
        rw [if_pos rfl]
        have h2 := Oper.wpIn_mono (fun a w h => wpAnyIn_round hro hd (l := l) fuel (listed.setIfInBounds i true) a w h) h1
        refine ⟨h2.1, ?_⟩
        have h3 := h2.2
        rw [hro, Oper.semAt_none] at h3
        rw [show (F.inRound l).round = some l from rfl, Oper.semAt_some l _ _ (noDefer_at hd ho)]
        exact h3
      | false =>
        rw [hw, if_neg (by simp)] at h1
        rw [if_neg (by simp)]
        exact ⟨h1.1, wpAnyIn_round hro hd fuel _ _ _ h1.2⟩
end Go.Proofs.Ytmdkpomgckkllaa
