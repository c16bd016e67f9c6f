/- HeldL, laid together. -/
import Derived.Test.YtbalkchphijehaaDoorQ1
import Derived.Deep.RegionHeld
import Derived.Lib.Hide
set_option linter.unusedSimpArgs false
set_option linter.unusedVariables false
/- A region that draws its order, whose one last operation may turn what the others read: a condition on the world that holds till then. -/
namespace Go.Proofs.YtbalkchphijehaaDoor
open Go

section
variable {P : Program} {ops : Array Oper} {Q : Exit → Act → World → Prop} {md : Region.Mode} {S : World → Prop} {m : Nat}
/-- Whatever order is picked from here on; S holds behind every operation but number m. -/
def AnyL (P : Program) (md : Region.Mode) (ops : Array Oper) (Q : Exit → Act → World → Prop) (S : World → Prop) (m : Nat) : Nat → Array Bool → Act → World → Prop
  | 0, ls, a, w => Region.ready md ops ls = [] ∧ Q .normal a w
  | n + 1, ls, a, w => (Region.ready md ops ls = [] → Q .normal a w) ∧ ∀ i ∈ Region.ready md ops ls, wpOp P ops Q i (fun a' w' => (i ≠ m → S w') ∧ AnyL P md ops Q S m n (ls.setIfInBounds i true) a' w') a w
theorem AnyL.any : ∀ (n : Nat) (ls : Array Bool) (a : Act) (w : World), AnyL P md ops Q S m n ls a w → wpAny P md ops Q n ls a w
  | 0, _, _, _, h => h
  | n + 1, _, _, _, h => ⟨h.1, fun i hi => wpOp_mono (fun a' w' k => AnyL.any n _ a' w' k.2) (h.2 i hi)⟩
/-- The operation m waits for number i. -/
def waitsFor (md : Region.Mode) (ops : Array Oper) (m i : Nat) : Bool := match ops[m]? with
  | some o => o.after.any fun e => Region.binds md e && e.on == i
  | none => false
theorem not_yet {ls : Array Bool} {i j : Nat} (hw : waitsFor md ops m i = true) (hu : ls.getD i true = false) (hj : j ∈ Region.ready md ops ls) : j ≠ m := by
  rintro rfl
  obtain ⟨_, o, ho, hall⟩ := mem_ready.1 hj
  unfold waitsFor at hw
  rw [ho] at hw
  simp only [Array.any_eq_true'] at hw
  obtain ⟨e, he, hb⟩ := hw
  rw [Bool.and_eq_true, beq_iff_eq] at hb
  have h1 := hall e he hb.1
  rw [hb.2] at h1
  rcases Nat.lt_or_ge i ls.size with h | h
  · simp [h] at h1 hu
    rw [hu] at h1; cases h1
  · simp [Array.getElem?_eq_none h] at h1
theorem AnyL.first {i : Nat} {oi : Oper} {v : Value} (hi : ops[i]? = some oi) (him : i ≠ m) (hwt : waitsFor md ops m i = true) (hsel : ∀ (j : Nat) (o : Oper) cs b, ops[j]? = some o → o.op ≠ .select cs b)
    (hQ : ∀ c a w, Q (.panic c) (a.put oi.dst v) w → Q (.panic c) a w) :
    ∀ (n : Nat) (ls : Array Bool) (a : Act) (w : World),
      (∀ j oj, ops[j]? = some oj → j ≠ i → ls.getD j true = false → (∀ e ∈ oj.after, Region.binds md e = true → e.on ≠ i) → oi.apart ops oj = true) →
      i ∈ Region.ready md ops ls → YieldsIf P ops S oi v a → S w → AnyL P md ops Q S m n (ls.setIfInBounds i true) (a.put oi.dst v) w → AnyL P md ops Q S m (n + 1) ls a w := by
  intro n
  induction n with
  | zero =>
    intro ls a w _ hr hy hS h
    refine ⟨fun h0 => (by rw [h0] at hr; cases hr), fun j hj => ?_⟩
    by_cases hji : j = i
    · subst hji
      exact hy.wpOp hi hS ⟨fun _ => hS, h⟩
    · have := ready_mono hj hji
      rw [h.1] at this
      cases this
  | succ n ih =>
    intro ls a w hfree hr hy hS h
    refine ⟨fun h0 => (by rw [h0] at hr; cases hr), fun j hj => ?_⟩
    by_cases hji : j = i
    · subst hji
      exact hy.wpOp hi hS ⟨fun _ => hS, h⟩
    obtain ⟨hun, oj, hoj, hall⟩ := mem_ready.1 hj
    have hiu := (mem_ready.1 hr).1
    have hno : ∀ e ∈ oj.after, Region.binds md e = true → e.on ≠ i := fun e he hb heq => by
      have h1 := hall e he hb
      rw [heq] at h1
      rcases Nat.lt_or_ge i ls.size with k | k
      · simp [k] at hiu h1
        rw [hiu] at h1; cases h1
      · simp [Array.getElem?_eq_none k] at h1
    have hjm := not_yet hwt hiu hj
    have step := wpOp_putIf hoj (hfree j oj hoj hji hun hno) (fun cs b => hsel i oi cs b hi) (fun cs b => hsel j oj cs b hoj) hQ hy (h.2 j (ready_mono hj hji))
    refine wpOp_mono (fun a' w' k => ⟨k.2.1, ih (ls.setIfInBounds j true) a' w' (fun q oq hq hqi hqu hqn => ?_) (ready_mono hr (Ne.symm hji)) k.1 (k.2.1 hjm) ?_⟩) step
    · refine hfree q oq hq hqi ?_ hqn
      by_cases hjq : j = q
      · subst hjq; exact hun
      · rwa [getD_set_ne true hjq] at hqu
    · rw [Array.setIfInBounds_comm _ _ hji]
      exact k.2.2
theorem AnyL.take {i : Nat} {oi : Oper} {v : Value} {n : Nat} {ls : Array Bool} {a : Act} {w : World} (hi : ops[i]? = some oi) (him : i ≠ m) (hwt : waitsFor md ops m i = true)
    (hs : Region.noSelect ops = true) (hf : Region.free md ops ls i = true) (hr : (Region.ready md ops ls).contains i = true)
    (hQ : ∀ c a w, Q (.panic c) (a.put oi.dst v) w → Q (.panic c) a w) (hy : YieldsIf P ops S oi v a) (hS : S w)
    (h : AnyL P md ops Q S m n (ls.setIfInBounds i true) (a.put oi.dst v) w) : AnyL P md ops Q S m (n + 1) ls a w :=
  AnyL.first hi him hwt (Region.noSelect_spec hs) hQ n ls a w (Region.free_spec hi hf) (by simpa using hr) hy hS h
/-- Each of these comes up next. -/
def AllL (P : Program) (md : Region.Mode) (ops : Array Oper) (Q : Exit → Act → World → Prop) (S : World → Prop) (m n : Nat) (ls : Array Bool) (a : Act) (w : World) (rs : List Nat) : Prop :=
  ∀ i ∈ rs, wpOp P ops Q i (fun a' w' => (i ≠ m → S w') ∧ AnyL P md ops Q S m n (ls.setIfInBounds i true) a' w') a w
theorem AllL.nil {n : Nat} {ls : Array Bool} {a : Act} {w : World} : AllL P md ops Q S m n ls a w [] := fun _ h => by cases h
theorem AllL.cons {n : Nat} {ls : Array Bool} {a : Act} {w : World} {i : Nat} {o : Oper} {rs : List Nat} (ho : ops[i]? = some o)
    (h : ∀ K : Act → World → Prop, RowKit.Hid (∀ a w, (i ≠ m → S w) → AnyL P md ops Q S m n (ls.setIfInBounds i true) a w → K a w) → if Region.wanted o (yielded ops a.tmps) = true then Oper.wp P o a w K Q else K (a.put o.dst undef) w)
    (hs : AllL P md ops Q S m n ls a w rs) : AllL P md ops Q S m n ls a w (i :: rs) := fun j hj => by
  rcases List.mem_cons.1 hj with rfl | hj
  · exact wpOp_step ho (fun K hK => h K (Lib.hid fun a w h1 h2 => hK a w ⟨h1, h2⟩))
  · exact hs j hj
theorem AnyL.ready {rs : List Nat} {n : Nat} {ls : Array Bool} {a : Act} {w : World} (hr : Region.ready md ops ls = rs) (hne : rs ≠ []) (h : AllL P md ops Q S m n ls a w rs) : AnyL P md ops Q S m (n + 1) ls a w :=
  ⟨fun h0 => absurd (hr ▸ h0) hne, fun i hi => h i (hr ▸ hi)⟩
theorem AnyL.done {ls : Array Bool} {a : Act} {w : World} (hr : Region.ready md ops ls = []) (h : Q .normal a w) : ∀ n, AnyL P md ops Q S m n ls a w
  | 0 => ⟨hr, h⟩
  | _ + 1 => ⟨fun _ => h, by rw [hr]; simp⟩
end
end Go.Proofs.YtbalkchphijehaaDoor
