/- GRange, QRange, laid together. -/
import Derived.RangeFuncNested
import Derived.RangeFuncBound
import Derived.RangeFuncCalls
import Derived.RangeFuncLeaves
import Derived.Shelf.Abstract
import Derived.WalkKit
import Derived.Test.YtbalkchphijehaaDoorP2
set_option linter.unusedSimpArgs false
set_option linter.unusedVariables false
/- A range over a function whose iterator keeps a state of its own in a box: the loop's rounds all go on to the end. -/
namespace Go.Proofs.YtbalkchphijehaaDoor
open Go.RowKit

/-- What a round keeps: what lay below n₀, and the iterator's own blocks. -/
def KeepR (n₀ : Nat) (Bx : List Nat) (A B : World) : Prop := Below n₀ A B ∧ ∀ b ∈ Bx, ∀ o : Obj, A.heap[b]? = some o → B.heap[b]? = some o
theorem KeepR.trans {n₀ : Nat} {Bx : List Nat} {A B C : World} (h : KeepR n₀ Bx A B) (k : KeepR n₀ Bx B C) : KeepR n₀ Bx A C := ⟨h.1.trans k.1, fun b hb o ho => k.2 b hb o (h.2 b hb o ho)⟩
theorem KeepR.of_keep {n₀ : Nat} {Bx G : List Nat} {A B : World} (h : Keep G A B) (hn : n₀ ≤ A.heap.size) (hG : ∀ x ∈ G, n₀ ≤ x ∧ x ∉ Bx) : KeepR n₀ Bx A B :=
  ⟨h.below hn (fun x hx => (hG x hx).1), fun b hb o ho => h.at ho (fun hm => (hG b hm).2 hb)⟩
theorem keep_putObj (A : World) (l : Nat) (o : Obj) : Keep [l] A (A.putObj l o) :=
  ⟨rfl, rfl, rfl, by simp, fun k _ hk => World.putObj_heap_other (fun e => hk (by simp [e]))⟩
/-- How a round's body must be left: off its end, some blocks G written that are neither the loop's nor the iterator's. -/
def RoundEnd (D n₀ : Nat) (Bx : List Nat) (A : World) (I : World → Prop) : Exit → Act → World → Prop
  | .normal, _, B => (∃ G, Keep G A B ∧ ∀ x ∈ G, n₀ ≤ x ∧ x ∉ Bx ∧ x ≠ D ∧ x ≠ D + 1) ∧ I B
  | _, _, _ => False
end Go.Proofs.YtbalkchphijehaaDoor
/- A range over a function whose iterator keeps a state of its own in a box, of whose state at the end something is known: the loop's rounds all go on to the end. -/
namespace Go.Proofs.YtbalkchphijehaaDoor
open Go.RowKit

/-- The iterator g (with what it has captured) hands these on, one after the other, and writes its own blocks alone. -/
def Tells14 (n : Nat) (P : Program) (g : Nat) (lb : Array Value) (args : List (Array Value)) (Bx : List Nat) (n₀ : Nat) (E : World → Prop) (w : World) : Prop :=
  ∀ (l : Nat) (J : Nat → World → Prop) (W : World), Bel w W → (∀ k A B, J k A → Keep Bx A B → J k B) →
    (∀ k (h : k < args.length) A, J k A → YieldAt Fence.wide (n - 1) P l args[k] A fun e B => e = .returned (.bool true) ∧ J (k + 1) B ∧ KeepR n₀ Bx A B) →
    J 0 W → CallsIn Fence.wide n P g (#[.func (.yield l) #[] #[]] ++ lb) W fun e B => (∃ v, e = .returned v) ∧ J args.length B ∧ E B
theorem range14 {P : Program} {n : Nat} {g : Operand} {ps : Array Tmp} {assign body : Code} {Q : Exit → Act → World → Prop} {a : Act} {w w0 : World}
    (h1 : 1 ≤ n) {gf : Nat} {lb : Array Value} (hg : a.eval g = .func (.func gf) #[] lb) (eg : ∀ args w, (callFunc gf args).run P w = .ok (.enter gf args) w)
    {args : List (Array Value)} {Bx : List Nat} {n₀ : Nat} {E : World → Prop} (hE : ∀ A B, E A → Keep [w.heap.size, w.heap.size + 1] A B → E B) (ht : Tells14 (n - 1) P gf lb args Bx n₀ E w0) (hb0 : Bel w0 w) (hBx : ∀ b ∈ Bx, b < w.heap.size) (hn : n₀ ≤ w.heap.size)
    (hps : ∀ k (h : k < args.length), args[k].size = ps.size) (I : Nat → World → Prop)
    (hI : ∀ k A B, I k A → Keep (w.heap.size :: (w.heap.size + 1) :: Bx) A B → I k B) (h0 : ∀ W1, Bel w W1 → w.heap.size + 2 ≤ W1.heap.size → I 0 W1)
    (hround : ∀ (l k : Nat) (h : k < args.length) (A : World), I k A → w.heap.size + 2 ≤ A.heap.size →
      assign.wpIn (Fence.wide.inRound l) (n - 1 - 1) P (Exit.then (fun a1 A1 => Bel A A1 ∧ ∀ A2, Keep [w.heap.size + 1] A1 A2 → body.wpIn (Fence.wide.inRound l) (n - 1 - 1) P (RoundEnd w.heap.size n₀ Bx A2 (I (k + 1))) a1 A2) (fun _ _ _ => False))
        { tmps := (ps.zip args[k]).foldl (fun t (p, v) => t.setIfInBounds p v) a.tmps, defers := [] } A)
    (hdone : ∀ W, I args.length W → E W → W.heap[w.heap.size]? = some (.deferred (some [])) → Q .normal { a with defers := { target := .collected w.heap.size, args := #[] } :: a.defers } W) :
    (Code.rangeFunc g ps assign body).wpIn Fence.wide n P Q a w := by
  refine wpIn_rangeFunc fun fn hfn => ?_
  obtain ⟨lp, hlp⟩ : ∃ lp : LoopState → Option Code → Loop, lp = fun st pe => { state := st, pending := pe, fn := fn, tmps := a.tmps, params := ps, assign := assign, body := body, defers := w.heap.size } := ⟨_, rfl⟩
  obtain ⟨V, hV⟩ : ∃ V, V = (w.alloc (.deferred (some []))).alloc (.loop (lp .ready none)) := ⟨_, rfl⟩
  have hsz : V.heap.size = w.heap.size + 2 := by rw [hV]; simp
  have hbV : Bel w V := by rw [hV]; exact ((Bel.refl w).alloc _).alloc _
  have hl0 : V.heap[w.heap.size + 1]? = some (.loop (lp .ready none)) := by
    rw [hV]
    have h := World.alloc_heap_new (w.alloc (.deferred (some []))) (.loop (lp .ready none))
    rw [World.size_alloc] at h
    exact h
  have hd0 : V.heap[w.heap.size]? = some (.deferred (some [])) := by
    rw [hV]
    exact (Below.block ((Bel.refl (w.alloc (.deferred (some [])))).alloc _) _ (by simp)).trans (World.alloc_heap_new w _)
  have hent : (Instr.enterLoop fn a.tmps ps assign body Fence.wide.round).run P w = .ok (w.heap.size + 1, [{ target := .collected w.heap.size, args := #[] }]) V := by
    have h := run_enterLoop_outer (P := P) (w := w) fn a.tmps ps assign body
    rw [hV, hlp]
    exact h
  -- a round hands back 'go on'
  have hstep : ∀ k (h : k < args.length) A, (I k A ∧ w.heap.size + 2 ≤ A.heap.size ∧ A.heap[w.heap.size + 1]? = some (.loop (lp .ready none)) ∧ A.heap[w.heap.size]? = some (.deferred (some []))) →
      YieldAt Fence.wide (n - 1 - 1) P (w.heap.size + 1) args[k] A fun e B => e = .returned (.bool true) ∧ (I (k + 1) B ∧ w.heap.size + 2 ≤ B.heap.size ∧ B.heap[w.heap.size + 1]? = some (.loop (lp .ready none)) ∧ B.heap[w.heap.size]? = some (.deferred (some []))) ∧ KeepR n₀ Bx A B := by
    rintro k h A ⟨hi, hA, hl, hd⟩
    have hy := run_yield (P := P) (args := args[k]) hl (by rw [hlp]; exact hps k h)
    rw [hlp] at hy
    refine ⟨fn, _, assign, body, hy, roundIn_of_wpIn hfn (wpIn_mono (hround (w.heap.size + 1) k h A hi hA) ?_)⟩
    intro e a1 A1 he
    cases e with
    | normal =>
      obtain ⟨hb, hbody⟩ := he
      have hl1 : A1.heap[w.heap.size + 1]? = some (.loop (lp .ready none)) := (Below.block hb _ (by omega)).trans hl
      have hd1 : A1.heap[w.heap.size]? = some (.deferred (some [])) := (Below.block hb _ (by omega)).trans hd
      have hlt1 : w.heap.size + 1 < A1.heap.size := (Array.getElem?_eq_some_iff.1 hl1).1
      obtain ⟨o1, ho1⟩ : ∃ o1, o1 = Obj.loop { lp .ready none with state := .busy } := ⟨_, rfl⟩
      have hbeg := run_beginRound (P := P) hl1 (by rw [hlp])
      rw [← ho1] at hbeg
      refine ⟨_, hbeg, wpIn_mono (hbody _ (keep_putObj A1 _ o1)) ?_⟩
      have hk1 := keep_putObj A1 (w.heap.size + 1) o1
      have hl2 : (A1.putObj (w.heap.size + 1) o1).heap[w.heap.size + 1]? = some o1 := World.putObj_heap_same hlt1
      have hd2 : (A1.putObj (w.heap.size + 1) o1).heap[w.heap.size]? = some (.deferred (some [])) := hk1.at hd1 (by simp)
      generalize A1.putObj (w.heap.size + 1) o1 = A2 at *
      rintro e3 a3 A3 he3
      cases e3 with
      | normal =>
        obtain ⟨⟨G, hk3, hG⟩, hi3⟩ := he3
        have hl3 : A3.heap[w.heap.size + 1]? = some o1 := hk3.at hl2 (fun hm => (hG _ hm).2.2.2 rfl)
        have hd3 : A3.heap[w.heap.size]? = some (.deferred (some [])) := hk3.at hd2 (fun hm => (hG _ hm).2.2.1 rfl)
        have hlt3 : w.heap.size + 1 < A3.heap.size := (Array.getElem?_eq_some_iff.1 hl3).1
        rw [ho1] at hl3
        have hend := run_endRound (P := P) none hl3
        have hk4 := keep_putObj A3 (w.heap.size + 1) (.loop (lp .ready none))
        refine ⟨.bool true, A3.putObj (w.heap.size + 1) (.loop (lp .ready none)), by rw [hlp] at hend ⊢; exact hend, rfl, ⟨hI _ _ _ hi3 (hk4.mono (fun x hx => by rw [List.mem_singleton] at hx; subst hx; simp)), ?_, World.putObj_heap_same hlt3, hk4.at hd3 (by simp)⟩, ?_⟩
        · simp; omega
        · have r1 : KeepR n₀ Bx A A1 := ⟨Below.mono hb (by omega), fun b hb' o ho => (Below.block hb b (Array.getElem?_eq_some_iff.1 ho).1).trans ho⟩
          have hne : ∀ b ∈ Bx, b ≠ w.heap.size + 1 := fun b hb' e => by have := hBx b hb'; omega
          have r2 : KeepR n₀ Bx A1 A2 := KeepR.of_keep hk1 (Nat.le_trans (by omega) hb.size) (fun x hx => by rw [List.mem_singleton] at hx; subst hx; exact ⟨by omega, fun hm => hne _ hm rfl⟩)
          have r3 : KeepR n₀ Bx A2 A3 := KeepR.of_keep hk3 (Nat.le_trans (by omega) (Nat.le_trans hb.size hk1.size)) (fun x hx => ⟨(hG x hx).1, (hG x hx).2.1⟩)
          have r4 : KeepR n₀ Bx A3 (A3.putObj (w.heap.size + 1) (.loop (lp .ready none))) := KeepR.of_keep hk4 (by omega) (fun x hx => by rw [List.mem_singleton] at hx; subst hx; exact ⟨by omega, fun hm => hne _ hm rfl⟩)
          exact ((r1.trans r2).trans r3).trans r4
      | ret => exact he3.elim
      | exit id => exact he3.elim
      | goto t => exact he3.elim
      | panic ch => exact he3.elim
      | outgrown => exact he3.elim
    | ret => exact he.elim
    | exit id => exact he.elim
    | goto t => exact he.elim
    | panic ch => exact he.elim
    | outgrown => exact he.elim
  have hcall := ht (w.heap.size + 1) (fun k W => I k W ∧ w.heap.size + 2 ≤ W.heap.size ∧ W.heap[w.heap.size + 1]? = some (.loop (lp .ready none)) ∧ W.heap[w.heap.size]? = some (.deferred (some []))) V (hb0.trans hbV)
    (by
      rintro k A B ⟨hi, hA, hl, hd⟩ hk
      refine ⟨hI k A B hi (hk.mono (fun x hx => by simp [hx])), Nat.le_trans hA hk.size, hk.at hl (fun hm => ?_), hk.at hd (fun hm => ?_)⟩
      · have := hBx _ hm; omega
      · have := hBx _ hm; omega) hstep ⟨h0 V hbV (by omega), by omega, hl0, hd0⟩
  refine ⟨w.heap.size + 1, [{ target := .collected w.heap.size, args := #[] }], V, { target := .fn (.func gf) lb, args := #[.func (.yield (w.heap.size + 1)) #[] #[]] }, V, gf, #[.func (.yield (w.heap.size + 1)) #[] #[]] ++ lb, V, hent, ?_, ?_, ?_, fun _ => h1, ?_⟩
  · simp only [resolve, hg]
    simp [go_sem]
  · intro _ _; trivial
  · simp [invoke, go_sem, eg]
  · refine hcall.mono ?_
    rintro e W2 ⟨⟨v, rfl⟩, ⟨hi, hW2, hl, hd⟩, he⟩
    obtain ⟨r0, hr0⟩ : ∃ r0, r0 = lp .ready none := ⟨_, rfl⟩
    rw [← hr0] at hl
    have hst : r0.state ≠ .busy := by rw [hr0, hlp]; simp
    have hpe : r0.pending = none := by rw [hr0, hlp]
    have hend := run_endLoop (P := P) hl hst
    rw [hpe] at hend
    have hk := keep_putObj W2 (w.heap.size + 1) (.loop { r0 with state := .exhausted, pending := none })
    have hk2 := hI _ _ _ hi (hk.mono (G := w.heap.size :: (w.heap.size + 1) :: Bx) (fun x hx => by rw [List.mem_singleton] at hx; subst hx; simp))
    have he2 := hE _ _ he (hk.mono (G := [w.heap.size, w.heap.size + 1]) (fun x hx => by rw [List.mem_singleton] at hx; subst hx; simp))
    refine ⟨none, _, hend, hdone _ hk2 he2 ?_⟩
    exact hk.at hd (by simp)
end Go.Proofs.YtbalkchphijehaaDoor
