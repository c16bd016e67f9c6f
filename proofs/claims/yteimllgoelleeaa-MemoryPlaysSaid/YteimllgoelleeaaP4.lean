/- TEnt, TFile, TAsk, MMath, TBack, MTree, laid together. -/
import Derived.Test.YteimllgoelleeaaP3
import Derived.Test.YteimllgoelleeaaP1
set_option linter.unusedSimpArgs false
set_option linter.unusedVariables false
/- Mathematics of chapter 10, second part: entries (EB), what data cite, which entries are right and how they stand, cites, a table file; no program. -/
namespace Go.Proofs.Yteimllgoelleeaa

structure EB where
  k : ByteArray
  q : Int
  d : Bool
  v : ByteArray
def EB.fits (e : EB) : Prop := e.k.size ≤ 9223372036854775807 ∧ -9223372036854775808 ≤ e.q ∧ e.q ≤ 9223372036854775807 ∧ e.v.size ≤ 9223372036854775807

def citeL (s : List UInt8) : Option (Nat × Nat) :=
  if (takeL s).2.2 = true ∧ (takeL (takeL s).2.1).2.2 = true ∧ (takeL s).1 ≤ 1000000 ∧ (takeL (takeL s).2.1).1 ≤ 1000000 then some ((takeL s).1, (takeL (takeL s).2.1).1) else none
theorem cite_le {s : List UInt8} {a b : Nat} (h : citeL s = some (a, b)) : a ≤ 1000000 ∧ b ≤ 1000000 := by
  unfold citeL at h
  split at h
  · rename_i h1
    cases h
    exact ⟨h1.2.2.1, h1.2.2.2⟩
  · cases h
def rightB (e : EB) : Bool := decide (e.k.size ≤ 1200) && decide (1 ≤ e.q) && decide (e.q ≤ 1099511627776) && decide (e.v.size ≤ 25000) && (if e.d then decide (e.v.size = 0) else (citeL e.v.data.toList).isSome)
def lessB (a b : EB) : Bool := Op.bytesLess a.k.data.toList b.k.data.toList || (a.k.data.toList == b.k.data.toList && decide (b.q < a.q))
theorem lessB_irrefl (a : EB) : lessB a a = false := by
  unfold lessB
  rw [less_irrefl]
  simp
theorem lessB_trans {a b c : EB} (h : lessB a b = true) (h' : lessB b c = true) : lessB a c = true := by
  unfold lessB at h h' ⊢
  rw [Bool.or_eq_true, Bool.and_eq_true, beq_iff_eq, decide_eq_true_iff] at h h' ⊢
  rcases h with h | ⟨h1, h2⟩
  · rcases h' with h' | ⟨h3, h4⟩
    · exact Or.inl (less_trans h h')
    · exact Or.inl (by rw [← h3]; exact h)
  · rcases h' with h' | ⟨h3, h4⟩
    · exact Or.inl (by rw [h1]; exact h')
    · exact Or.inr ⟨h1.trans h3, by omega⟩
theorem lessB_asymm {a b : EB} (h : lessB a b = true) : lessB b a = false := by
  cases h' : lessB b a with
  | false => rfl
  | true => have := lessB_trans h h'; rw [lessB_irrefl] at this; cases this
theorem lessB_same {a b : EB} (h : lessB a b = false) (h' : lessB b a = false) : a.k.data.toList = b.k.data.toList ∧ a.q = b.q := by
  unfold lessB at h h'
  rw [Bool.or_eq_false_iff, Bool.and_eq_false_iff] at h h'
  obtain ⟨h1, h2⟩ := h
  obtain ⟨h3, h4⟩ := h'
  have hk : a.k.data.toList = b.k.data.toList := by
    rcases less_tri a.k.data.toList b.k.data.toList with e | e | e
    · rw [h1] at e; cases e
    · exact e
    · rw [h3] at e; cases e
  rw [hk] at h2 h4
  have e2 : (b.k.data.toList == b.k.data.toList) = true := beq_self_eq_true _
  rw [e2] at h2 h4
  have h5 : ¬ b.q < a.q := by
    rcases h2 with h | h
    · cases h
    · exact of_decide_eq_false h
  have h6 : ¬ a.q < b.q := by
    rcases h4 with h | h
    · cases h
    · exact of_decide_eq_false h
  exact ⟨hk, by omega⟩
def standF : EB → List EB → Bool
  | _, [] => true
  | a, b :: l => rightB b && lessB a b && standF b l
def standB : List EB → Bool
  | [] => true
  | a :: l => rightB a && standF a l
theorem standF_right : ∀ (l : List EB) (a : EB), standF a l = true → ∀ e ∈ l, rightB e = true ∧ lessB a e = true
  | [], a, _, e, he => by cases he
  | b :: l, a, h, e, he => by
    rw [standF, Bool.and_eq_true, Bool.and_eq_true] at h
    obtain ⟨⟨h1, h2⟩, h3⟩ := h
    rcases List.mem_cons.1 he with rfl | he
    · exact ⟨h1, h2⟩
    · obtain ⟨h4, h5⟩ := standF_right l b h3 e he
      exact ⟨h4, lessB_trans h2 h5⟩
theorem stand_right {l : List EB} (h : standB l = true) : ∀ e ∈ l, rightB e = true := by
  intro e he
  cases l with
  | nil => cases he
  | cons a l =>
    rw [standB, Bool.and_eq_true] at h
    rcases List.mem_cons.1 he with rfl | he
    · exact h.1
    · exact (standF_right l a h.2 e he).1
theorem stand_pair {l : List EB} (h : standB l = true) : l.Pairwise (fun a b => lessB a b = true) := by
  have go : ∀ (l : List EB) (a : EB), standF a l = true → l.Pairwise (fun a b => lessB a b = true) := by
    intro l
    induction l with
    | nil => intro a _; exact List.Pairwise.nil
    | cons b l ih =>
      intro a h
      rw [standF, Bool.and_eq_true, Bool.and_eq_true] at h
      exact List.Pairwise.cons (fun e he => (standF_right l b h.2 e he).2) (ih b h.2)
  cases l with
  | nil => exact List.Pairwise.nil
  | cons a l =>
    rw [standB, Bool.and_eq_true] at h
    exact List.Pairwise.cons (fun e he => (standF_right l a h.2 e he).2) (go l a h.2)
theorem stand_of : ∀ (l : List EB), (∀ e ∈ l, rightB e = true) → l.Pairwise (fun a b => lessB a b = true) → standB l = true := by
  have go : ∀ (l : List EB) (a : EB), (∀ e ∈ l, rightB e = true) → (a :: l).Pairwise (fun a b => lessB a b = true) → standF a l = true := by
    intro l
    induction l with
    | nil => intro a _ _; rfl
    | cons b l ih =>
      intro a hr hp
      rw [List.pairwise_cons] at hp
      rw [standF, hr b (by simp), hp.1 b (by simp), Bool.true_and, Bool.true_and]
      exact ih b (fun e he => hr e (by simp [he])) hp.2
  intro l hr hp
  cases l with
  | nil => rfl
  | cons a l =>
    rw [standB, hr a (by simp), Bool.true_and]
    exact go l a (fun e he => hr e (by simp [he])) hp

-- cites
structure CT where
  t : Nat
  v : Nat
  n : Nat
def ctLess (c : CT) (a b : Nat) : Bool := decide (c.t < a) || (decide (c.t = a) && decide (c.v < b))
def addC (a b : Nat) : List CT → List CT
  | [] => [⟨a, b, 1⟩]
  | c :: l => if ctLess c a b = true then c :: addC a b l else if c.t = a ∧ c.v = b then ⟨a, b, c.n + 1⟩ :: l else ⟨a, b, 1⟩ :: c :: l
def citeE (e : EB) : Option (Nat × Nat) := if e.d then none else citeL e.v.data.toList
def stepC (out : List CT) (e : EB) : List CT := match citeE e with
  | none => out
  | some (a, b) => addC a b out
def citesB (l : List EB) : List CT := l.foldl stepC []
theorem cites_snoc (l : List EB) (e : EB) : citesB (l ++ [e]) = stepC (citesB l) e := by unfold citesB; rw [List.foldl_append]; rfl
theorem add_len (a b : Nat) : ∀ l : List CT, (addC a b l).length ≤ l.length + 1
  | [] => Nat.le_refl _
  | c :: l => by
    unfold addC
    split
    · have := add_len a b l
      rw [List.length_cons, List.length_cons]; omega
    · split
      · simp only [List.length_cons]; omega
      · simp only [List.length_cons]; omega
theorem step_len (out : List CT) (e : EB) : (stepC out e).length ≤ out.length + 1 := by
  unfold stepC
  split
  · omega
  · exact add_len _ _ _
theorem cites_len (l : List EB) : (citesB l).length ≤ l.length := by
  have go : ∀ (l : List EB) (out : List CT), (l.foldl stepC out).length ≤ out.length + l.length := by
    intro l
    induction l with
    | nil => intro out; exact Nat.le_refl _
    | cons e l ih =>
      intro out
      rw [List.foldl_cons, List.length_cons]
      have h1 := ih (stepC out e)
      have h2 := step_len out e
      omega
  have := go l []
  simpa [citesB] using this
def smallC (m : Nat) (l : List CT) : Prop := ∀ c ∈ l, c.t ≤ 1000000 ∧ c.v ≤ 1000000 ∧ c.n ≤ m
theorem add_small {a b m : Nat} (ha : a ≤ 1000000) (hb : b ≤ 1000000) : ∀ {l : List CT}, smallC m l → smallC (m + 1) (addC a b l)
  | [], h => fun c hc => by
    simp only [addC, List.mem_singleton] at hc
    subst hc
    exact ⟨ha, hb, by show 1 ≤ m + 1; omega⟩
  | d :: l, h => fun c hc => by
    have hd := h d (by simp)
    have hl : smallC m l := fun x hx => h x (by simp [hx])
    unfold addC at hc
    split at hc
    · rcases List.mem_cons.1 hc with rfl | hc
      · exact ⟨hd.1, hd.2.1, by have := hd.2.2; omega⟩
      · exact add_small ha hb hl c hc
    · split at hc
      · rcases List.mem_cons.1 hc with rfl | hc
        · exact ⟨ha, hb, by have := hd.2.2; show d.n + 1 ≤ m + 1; omega⟩
        · have := hl c hc; exact ⟨this.1, this.2.1, by omega⟩
      · rcases List.mem_cons.1 hc with rfl | hc
        · exact ⟨ha, hb, by show 1 ≤ m + 1; omega⟩
        · have := h c hc; exact ⟨this.1, this.2.1, by omega⟩
theorem step_small {m : Nat} {out : List CT} (h : smallC m out) (e : EB) : smallC (m + 1) (stepC out e) := by
  unfold stepC
  cases hc : citeE e with
  | none => exact fun c hc => by have := h c hc; exact ⟨this.1, this.2.1, by omega⟩
  | some p =>
    obtain ⟨a, b⟩ := p
    unfold citeE at hc
    split at hc
    · cases hc
    · obtain ⟨h1, h2⟩ := cite_le hc
      exact add_small h1 h2 h
theorem cites_small (l : List EB) : smallC l.length (citesB l) := by
  have go : ∀ (l : List EB) (m : Nat) (out : List CT), smallC m out → smallC (m + l.length) (l.foldl stepC out) := by
    intro l
    induction l with
    | nil => intro m out h; exact h
    | cons e l ih =>
      intro m out h
      have := ih (m + 1) (stepC out e) (step_small h e)
      rw [List.foldl_cons, List.length_cons]
      rw [show m + (l.length + 1) = m + 1 + l.length by omega]
      exact this
  have := go l 0 [] (fun c hc => by cases hc)
  simpa [citesB] using this
end Go.Proofs.Yteimllgoelleeaa
/- Mathematics of chapter 10, third part: where an entry is put in, where a cite is counted, the table file's bytes, and what they are made of; no program. -/
namespace Go.Proofs.Yteimllgoelleeaa

-- an entry put where it belongs
def insE (e : EB) : List EB → List EB
  | [] => [e]
  | c :: l => if lessB c e = true then c :: insE e l else if lessB e c = true then e :: c :: l else c :: l
def stepS (out : List EB) (e : EB) : List EB := if rightB e then insE e out else out
def standingB (l : List EB) : List EB := l.foldl stepS []
theorem standing_snoc (l : List EB) (e : EB) : standingB (l ++ [e]) = stepS (standingB l) e := by unfold standingB; rw [List.foldl_append]; rfl
theorem ins_mem (e : EB) : ∀ (l : List EB) (x : EB), x ∈ insE e l → x = e ∨ x ∈ l
  | [], x, h => by simp [insE] at h; exact Or.inl h
  | c :: l, x, h => by
    unfold insE at h
    split at h
    · rcases List.mem_cons.1 h with rfl | h
      · exact Or.inr (by simp)
      · rcases ins_mem e l x h with h | h
        · exact Or.inl h
        · exact Or.inr (by simp [h])
    · split at h
      · rcases List.mem_cons.1 h with rfl | h
        · exact Or.inl rfl
        · exact Or.inr h
      · exact Or.inr h
theorem ins_pair (e : EB) : ∀ l : List EB, l.Pairwise (fun a b => lessB a b = true) → (insE e l).Pairwise (fun a b => lessB a b = true)
  | [], h => by simp [insE]
  | c :: l, h => by
    rw [List.pairwise_cons] at h
    unfold insE
    split
    · rename_i h1
      refine List.Pairwise.cons (fun x hx => ?_) (ins_pair e l h.2)
      rcases ins_mem e l x hx with rfl | hx
      · exact h1
      · exact h.1 x hx
    · split
      · rename_i h1 h2
        refine List.Pairwise.cons (fun x hx => ?_) (List.Pairwise.cons h.1 h.2)
        rcases List.mem_cons.1 hx with rfl | hx
        · exact h2
        · exact lessB_trans h2 (h.1 x hx)
      · exact List.Pairwise.cons h.1 h.2
theorem ins_len (e : EB) : ∀ l : List EB, (insE e l).length ≤ l.length + 1
  | [] => Nat.le_refl _
  | c :: l => by
    unfold insE
    split
    · have := ins_len e l
      simp only [List.length_cons]; omega
    · split <;> simp only [List.length_cons] <;> omega
theorem ins_at (e : EB) : ∀ (l : List EB) (k : Nat), k ≤ l.length → (∀ j (h : j < l.length), j < k → lessB l[j] e = true) → (∀ h : k < l.length, lessB l[k] e = false) →
    insE e l = if k = l.length ∨ (∃ h : k < l.length, lessB e l[k] = true) then l.take k ++ e :: l.drop k else l
  | [], k, hk, h1, h2 => by
    obtain rfl : k = 0 := by simpa using hk
    simp [insE]
  | c :: l, 0, hk, h1, h2 => by
    have hc : lessB c e = false := h2 (by simp)
    unfold insE
    rw [if_neg (by rw [hc]; simp)]
    by_cases he : lessB e c = true
    · rw [if_pos he, if_pos (Or.inr ⟨by simp, he⟩)]; rfl
    · rw [if_neg he, if_neg]
      rintro (h | ⟨_, h⟩)
      · simp at h
      · exact he h
  | c :: l, k + 1, hk, h1, h2 => by
    have hc : lessB c e = true := h1 0 (by simp) (by omega)
    unfold insE
    rw [if_pos hc, ins_at e l k (by simpa using hk) (fun j hj hjk => h1 (j + 1) (by simpa using hj) (by omega)) (fun h => h2 (by simpa using h))]
    by_cases hh : k = l.length ∨ (∃ h : k < l.length, lessB e l[k] = true)
    · rw [if_pos hh, if_pos]
      · rfl
      · rcases hh with h | ⟨h, h'⟩
        · exact Or.inl (by simp [h])
        · exact Or.inr ⟨by simpa using h, h'⟩
    · rw [if_neg hh, if_neg]
      rintro (h | ⟨h, h'⟩)
      · exact hh (Or.inl (by simpa using h))
      · exact hh (Or.inr ⟨by simpa using h, h'⟩)
theorem standing_all : ∀ (l out : List EB), (∀ e ∈ out, rightB e = true) → out.Pairwise (fun a b => lessB a b = true) →
    (∀ e ∈ l.foldl stepS out, rightB e = true) ∧ (l.foldl stepS out).Pairwise (fun a b => lessB a b = true) ∧ (∀ e ∈ l.foldl stepS out, e ∈ out ∨ e ∈ l) ∧ (l.foldl stepS out).length ≤ out.length + l.length
  | [], out, h1, h2 => ⟨h1, h2, fun e h => Or.inl h, Nat.le_refl _⟩
  | x :: l, out, h1, h2 => by
    have hs : (∀ e ∈ stepS out x, rightB e = true) ∧ (stepS out x).Pairwise (fun a b => lessB a b = true) ∧ (∀ e ∈ stepS out x, e ∈ out ∨ e = x) ∧ (stepS out x).length ≤ out.length + 1 := by
      unfold stepS
      split
      · rename_i hr
        refine ⟨fun e he => ?_, ins_pair x out h2, fun e he => (ins_mem x out e he).symm, ins_len x out⟩
        rcases ins_mem x out e he with rfl | he
        · exact hr
        · exact h1 e he
      · exact ⟨h1, h2, fun e he => Or.inl he, by omega⟩
    obtain ⟨a1, a2, a3, a4⟩ := hs
    obtain ⟨b1, b2, b3, b4⟩ := standing_all l (stepS out x) a1 a2
    rw [List.foldl_cons]
    refine ⟨b1, b2, fun e he => ?_, by rw [List.length_cons]; omega⟩
    rcases b3 e he with h | h
    · rcases a3 e h with h | rfl
      · exact Or.inl h
      · exact Or.inr (by simp)
    · exact Or.inr (by simp [h])
theorem standing_stand (l : List EB) : standB (standingB l) = true := by
  obtain ⟨h1, h2, -, -⟩ := standing_all l [] (fun e h => by cases h) List.Pairwise.nil
  exact stand_of _ h1 h2
theorem standing_len (l : List EB) : (standingB l).length ≤ l.length := by
  obtain ⟨-, -, -, h4⟩ := standing_all l [] (fun e h => by cases h) List.Pairwise.nil
  simpa [standingB] using h4

-- where a cite is counted
theorem add_at (a b : Nat) : ∀ (l : List CT) (k : Nat), k ≤ l.length → (∀ j (h : j < l.length), j < k → ctLess l[j] a b = true) → (∀ h : k < l.length, ctLess l[k] a b = false) →
    addC a b l = if h : k < l.length then (if l[k].t = a ∧ l[k].v = b then l.set k ⟨a, b, l[k].n + 1⟩ else l.take k ++ ⟨a, b, 1⟩ :: l.drop k) else l.take k ++ ⟨a, b, 1⟩ :: l.drop k
  | [], k, hk, h1, h2 => by
    obtain rfl : k = 0 := by simpa using hk
    simp [addC]
  | c :: l, 0, hk, h1, h2 => by
    have hc : ctLess c a b = false := h2 (by simp)
    unfold addC
    rw [if_neg (by rw [hc]; simp), dif_pos (by simp)]
    rfl
  | c :: l, k + 1, hk, h1, h2 => by
    have hc : ctLess c a b = true := h1 0 (by simp) (by omega)
    unfold addC
    rw [if_pos hc, add_at a b l k (by simpa using hk) (fun j hj hjk => h1 (j + 1) (by simpa using hj) (by omega)) (fun h => h2 (by simpa using h))]
    by_cases hh : k < l.length
    · rw [dif_pos hh, dif_pos (by simpa using hh)]
      simp only [List.getElem_cons_succ]
      split <;> rfl
    · rw [dif_neg hh, dif_neg (by simpa using hh)]
      rfl

-- the table file
end Go.Proofs.Yteimllgoelleeaa
/- Mathematics of chapter 10, fifth part: what a table is asked: entries between two keys, an entry at a number; no program. -/
namespace Go.Proofs.Yteimllgoelleeaa

def inB (f t : List UInt8) (e : EB) : Bool := !(Op.bytesLess e.k.data.toList f) && (t == [] || Op.bytesLess e.k.data.toList t)
def betE (f t : List UInt8) (l : List EB) : List EB := l.filter (inB f t)
def hitB (key : List UInt8) (seq : Int) (e : EB) : Bool := e.k.data.toList == key && decide (e.q ≤ seq)
def getE (key : List UInt8) (seq : Int) (l : List EB) : Option EB := l.find? (hitB key seq)
theorem bet_all (l : List EB) : betE [] [] l = l := by
  unfold betE
  refine List.filter_eq_self.2 fun e _ => ?_
  unfold inB
  have : Op.bytesLess e.k.data.toList [] = false := by cases e.k.data.toList <;> rfl
  rw [this]; rfl
theorem cmp_two : ∀ a b : List UInt8, Lib.compareBytes a b = if Op.bytesLess a b = true then -1 else if Op.bytesLess b a = true then 1 else 0
  | [], [] => by simp [Op.bytesLess, Lib.compareBytes]
  | [], _ :: _ => by simp [Op.bytesLess, Lib.compareBytes]
  | _ :: _, [] => by simp [Op.bytesLess, Lib.compareBytes]
  | a :: x, b :: y => by
    have ih := cmp_two x y
    unfold Op.bytesLess Lib.compareBytes
    by_cases h1 : a < b
    · simp [h1]
    · by_cases h2 : b < a
      · have : ¬ a = b := by rintro rfl; exact h1 h2
        simp [h1, h2, this]
      · have : a = b := by rw [UInt8.lt_iff_toNat_lt] at h1 h2; exact UInt8.toNat_inj.1 (by omega)
        subst this
        simp [h1, ih]
end Go.Proofs.Yteimllgoelleeaa
/- Mathematics of chapter 11: what a memory holds is the standing entries of all that were added, in whatever order; what an Add answers; no program. -/
namespace Go.Proofs.Yteimllgoelleeaa

def sameB (a b : EB) : Prop := a.k.data.toList = b.k.data.toList ∧ a.q = b.q
instance (a b : EB) : Decidable (sameB a b) := by unfold sameB; infer_instance
theorem sameB_symm {a b : EB} (h : sameB a b) : sameB b a := ⟨h.1.symm, h.2.symm⟩
theorem less_same_l {a b c : EB} (h : sameB a b) : lessB a c = lessB b c := by unfold lessB; rw [h.1, h.2]
theorem less_same_r {a b c : EB} (h : sameB a b) : lessB c a = lessB c b := by unfold lessB; rw [h.1, h.2]
theorem same_less {a b : EB} (h : sameB a b) : lessB a b = false := by rw [less_same_l h]; exact lessB_irrefl b
theorem less_or (a b : EB) : lessB a b = true ∨ sameB a b ∨ lessB b a = true := by
  cases h : lessB a b with
  | true => exact Or.inl rfl
  | false => cases h' : lessB b a with
    | true => exact Or.inr (Or.inr rfl)
    | false => exact Or.inr (Or.inl (lessB_same h h'))
theorem ins_old {e : EB} : ∀ {l : List EB}, l.Pairwise (fun a b => lessB a b = true) → (∃ c ∈ l, sameB c e) → insE e l = l
  | [], _, ⟨c, hc, _⟩ => by cases hc
  | d :: l, hp, ⟨c, hc, hs⟩ => by
    rw [List.pairwise_cons] at hp
    unfold insE
    rcases List.mem_cons.1 hc with rfl | hc
    · rw [if_neg (by rw [same_less hs]; simp), if_neg (by rw [same_less (sameB_symm hs)]; simp)]
    · have hd : lessB d e = true := by rw [← less_same_r hs]; exact hp.1 c hc
      rw [if_pos hd, ins_old hp.2 ⟨c, hc, hs⟩]
def errM (C : List EB) (e : EB) : Int := if rightB e = false then 1 else if ∃ c ∈ C, sameB c e then 5 else 0
theorem err_arg {C : List EB} {e : EB} (h : rightB e = false) : errM C e = 1 ∧ stepS C e = C := ⟨if_pos h, by unfold stepS; rw [h]; rfl⟩
theorem err_there {C : List EB} {e : EB} (hp : C.Pairwise (fun a b => lessB a b = true)) (h : rightB e = true) (h' : ∃ c ∈ C, sameB c e) : errM C e = 5 ∧ stepS C e = C := by
  refine ⟨?_, ?_⟩
  · unfold errM; rw [if_neg (by rw [h]; simp), if_pos h']
  · unfold stepS; rw [h]; exact ins_old hp h'
theorem err_ok {C : List EB} {e : EB} (h : rightB e = true) (h' : ¬ ∃ c ∈ C, sameB c e) : errM C e = 0 ∧ stepS C e = insE e C := by
  refine ⟨?_, ?_⟩
  · unfold errM; rw [if_neg (by rw [h]; simp), if_neg h']
  · unfold stepS; rw [h]; rfl
def sizeM : List EB → Nat
  | [] => 0
  | e :: l => e.k.size + e.v.size + sizeM l
theorem size_snoc : ∀ (l : List EB) (e : EB), sizeM (l ++ [e]) = sizeM l + e.k.size + e.v.size
  | [], e => by simp [sizeM]
  | c :: l, e => by rw [List.cons_append, sizeM, sizeM, size_snoc l e]; omega
theorem size_le {m : Nat} : ∀ {l : List EB}, (∀ e ∈ l, e.k.size + e.v.size ≤ m) → sizeM l ≤ l.length * m
  | [], _ => by simp [sizeM]
  | e :: l, h => by
    have h1 := h e (by simp)
    have h2 := size_le (l := l) fun x hx => h x (by simp [hx])
    rw [sizeM, List.length_cons, Nat.add_mul]
    omega
end Go.Proofs.Yteimllgoelleeaa
/- Mathematics of chapter 10, fourth part: what a table file's bytes tell again; a byte turned; no program. -/
namespace Go.Proofs.Yteimllgoelleeaa

theorem ba_ext {a b : ByteArray} (h : a.data.toList = b.data.toList) : a = b := by
  apply ByteArray.ext
  exact Array.toList_inj.1 h
theorem right_parts {e : EB} (h : rightB e = true) : e.k.size ≤ 1200 ∧ 1 ≤ e.q ∧ e.q ≤ 1099511627776 ∧ e.v.size ≤ 25000 ∧ (e.d = true → e.v.size = 0) ∧ (e.d = false → (citeL e.v.data.toList).isSome = true) := by
  unfold rightB at h
  simp only [Bool.and_eq_true, decide_eq_true_iff] at h
  obtain ⟨⟨⟨⟨h1, h2⟩, h3⟩, h4⟩, h5⟩ := h
  refine ⟨h1, h2, h3, h4, fun hd => ?_, fun hd => ?_⟩
  · rw [hd] at h5; simpa using h5
  · rw [hd] at h5; simpa using h5
theorem right_dead {e : EB} (h : rightB e = true) (hd : e.d = true) : e.v = ⟨#[]⟩ := by
  have := (right_parts h).2.2.2.2.1 hd
  exact ByteArray.ext (Array.eq_empty_of_size_eq_zero this)
end Go.Proofs.Yteimllgoelleeaa
/- Mathematics for a memory that is a tree: what stands left of an entry, the entry, and what stands right of it; no program. -/
namespace Go.Proofs.Yteimllgoelleeaa

theorem size_app : ∀ (l m : List EB), sizeM (l ++ m) = sizeM l + sizeM m
  | [], m => by simp [sizeM]
  | c :: l, m => by rw [List.cons_append, sizeM, sizeM, size_app l m]; omega
end Go.Proofs.Yteimllgoelleeaa
