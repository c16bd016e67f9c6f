/- QHeld, laid together. -/
import Derived.Test.YtbalkchphijehaaDoorP13
import Derived.OrdersIn
import Derived.TacticsIn
set_option linter.unusedSimpArgs false
set_option linter.unusedVariables false
/- A region that draws its order, within a wide fence and within a round: walked as outside any fence, by a condition on the world that holds till the last operation. -/
namespace Go.Proofs.YtbalkchphijehaaDoor
open Go Go.RowKit

theorem rows_wide14 {n : Nat} {P : Program} {row : String} {args : Array Value} {w : World} {R : Value → World → Prop} (h : Rows P row args w R) : RowsIn Fence.wide n P row args w R :=
  fun c cs _ => let ⟨v, w', r, s⟩ := h c cs; ⟨v, w', r, stepsIn_wide.2 s⟩
theorem wp_wide14 {n : Nat} {P : Program} {o : Oper} {a : Act} {w : World} {K : Act → World → Prop} {Q : Exit → Act → World → Prop} (h : o.wp P a w K Q) : o.wpIn Fence.wide n P a w K Q := by
  refine ⟨fun _ _ => trivial, ?_⟩
  show o.uponIn Fence.wide n P a K Q ((execOp a.eval o).run P w)
  unfold Oper.wp at h
  revert h
  generalize (execOp a.eval o).run P w = r
  intro h
  cases r with
  | ok x w' =>
    cases x with
    | value v => exact h
    | skip => exact h
    | defer d => exact h
    | enter f args => exact ⟨fun hd => (by cases hd), callsIn_wide.2 h⟩
    | row r args => exact ⟨fun hd => (by cases hd), rows_wide14 h⟩
    | _ => exact h.elim
  | halt x w' => cases x <;> first | exact h | exact h.elim
theorem wpAny_wide14 {n : Nat} {P : Program} {md : Region.Mode} {ops : Array Oper} {Q : Exit → Act → World → Prop} (hQ : ¬ LetsOut Q) : ∀ (fuel : Nat) (listed : Array Bool) (a : Act) (w : World), wpAny P md ops Q fuel listed a w → wpAnyIn Fence.wide n P md ops Q fuel listed a w
  | 0, _, _, _, h => h
  | fuel + 1, listed, a, w, h => by
    refine ⟨h.1, fun i hi => ?_⟩
    have h1 := h.2 i hi
    cases ho : ops[i]? with
    | none =>
      simp only [wpOp, wpOpIn, ho] at h1 ⊢
      exact wpAny_wide14 hQ fuel _ _ _ h1
    | some o =>
      simp only [wpOp, wpOpIn, ho] at h1 ⊢
      cases hw : Region.wanted o (yielded ops a.tmps) with
      | true =>
        rw [hw, if_pos rfl] at h1
        rw [if_pos rfl]
        rcases h1 with h1 | h1
        · exact wp_wide14 (Oper.wp_mono (fun a w h => wpAny_wide14 hQ fuel (listed.setIfInBounds i true) a w h) h1)
        · exact absurd h1.2 hQ
      | false =>
        rw [hw, if_neg (by simp)] at h1
        rw [if_neg (by simp)]
        exact ⟨fun _ _ => trivial, wpAny_wide14 hQ fuel _ _ _ h1⟩
/-- No operation of these puts a call off. -/
def noDefer14 (ops : Array Oper) : Bool := ops.all (fun o => match o.op with
  | .defer _ => false
  | _ => true)
theorem noDefer14_at {ops : Array Oper} (h : noDefer14 ops = true) {i : Nat} {o : Oper} (hi : ops[i]? = some o) : ∀ c, o.op ≠ .defer c := by
  intro c hc
  obtain ⟨hlt, he⟩ := Array.getElem?_eq_some_iff.1 hi
  have := Array.all_eq_true.1 h i hlt
  rw [he, hc] at this
  cases this
theorem wpAnyIn_round14 {F : Fence} {n : Nat} {P : Program} {md : Region.Mode} {ops : Array Oper} {Q : Exit → Act → World → Prop} {l : Nat} (hro : F.round = none) (hd : noDefer14 ops = true) :
    ∀ (fuel : Nat) (listed : Array Bool) (a : Act) (w : World), wpAnyIn F n P md ops Q fuel listed a w → wpAnyIn (F.inRound l) n P md ops Q fuel listed a w
  | 0, _, _, _, h => h
  | fuel + 1, listed, a, w, h => by
    refine ⟨h.1, fun i hi => ?_⟩
    have h1 := h.2 i hi
    cases ho : ops[i]? with
    | none =>
      simp only [wpOpIn, ho] at h1 ⊢
      exact wpAnyIn_round14 hro hd fuel _ _ _ h1
    | some o =>
      simp only [wpOpIn, ho] at h1 ⊢
      cases hw : Region.wanted o (yielded ops a.tmps) with
      | true =>
        rw [hw, if_pos rfl] at h1
        rw [if_pos rfl]
        have h2 := Oper.wpIn_mono (fun a w h => wpAnyIn_round14 hro hd (l := l) fuel (listed.setIfInBounds i true) a w h) h1
        refine ⟨h2.1, ?_⟩
        have h3 := h2.2
        rw [hro, Oper.semAt_none] at h3
        rw [show (F.inRound l).round = some l from rfl, Oper.semAt_some l _ _ (noDefer14_at hd ho)]
        exact h3
      | false =>
        rw [hw, if_neg (by simp)] at h1
        rw [if_neg (by simp)]
        exact ⟨h1.1, wpAnyIn_round14 hro hd fuel _ _ _ h1.2⟩
theorem notOut14 {K : Act → World → Prop} : ¬ LetsOut (Exit.then K (fun _ _ _ => False)) := fun ⟨_, _, h⟩ => h
/-- In a round. -/
theorem regionR_L {P : Program} {ops : Array Oper} {K : Act → World → Prop} {S : World → Prop} {n l id : Nat} {a : Act} {w : World} (m : Nat) (hm : P.follows .mixedOrders = true) (hd : noDefer14 ops = true) (hS : S w.drew)
    (h : S w.drew → AnyL P .any ops (Exit.then K (fun _ _ _ => False)) S m ops.size (Array.replicate ops.size false) a w.drew) : (Code.region id ops true).wpIn (Fence.wide.inRound l) n P (Exit.then K (fun _ _ _ => False)) a w :=
  wpIn_region_any hm (wpAnyIn_round14 rfl hd _ _ _ _ (wpAny_wide14 notOut14 _ _ _ _ (AnyL.any _ _ _ _ (h hS))))
theorem regionW_H {P : Program} {ops : Array Oper} {K : Act → World → Prop} {S : World → Prop} {n id : Nat} {a : Act} {w : World} (hm : P.follows .mixedOrders = true) (hS : S w.drew)
    (h : S w.drew → wpAnyH P .any ops (Exit.then K (fun _ _ _ => False)) S ops.size (Array.replicate ops.size false) a w.drew) : (Code.region id ops true).wpIn Fence.wide n P (Exit.then K (fun _ _ _ => False)) a w :=
  wpIn_region_any hm (wpAny_wide14 notOut14 _ _ _ _ (wpAny_of_held _ _ _ _ (h hS)))
end Go.Proofs.YtbalkchphijehaaDoor
