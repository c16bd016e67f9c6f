/- TEnt, TFile, TAsk, MMath, TBack, MTree, laid together. -/
import Derived.Test.YteimllgoelleeaaQ3
import Derived.Test.YteimllgoelleeaaQ1
set_option linter.unusedSimpArgs false
set_option linter.unusedVariables false
/- Mathematics of chapter 10, second part: entries (EB), what data cite, which entries are right and how they stand, cites, a table file; no program. -/
namespace Go.Proofs.Yteimllgoelleeaa

structure EB where
  k : ByteArray
  q : Int
  d : Bool
  v : ByteArray
def EB.fits (e : EB) : Prop := e.k.size ≤ 9223372036854775807 ∧ -9223372036854775808 ≤ e.q ∧ e.q ≤ 9223372036854775807 ∧ e.v.size ≤ 9223372036854775807

def citeL (s : List UInt8) : Option (Nat × Nat) :=
  if (takeL s).2.2 = true ∧ (takeL (takeL s).2.1).2.2 = true ∧ (takeL s).1 ≤ 1000000 ∧ (takeL (takeL s).2.1).1 ≤ 1000000 then some ((takeL s).1, (takeL (takeL s).2.1).1) else none
theorem cite_le {s : List UInt8} {a b : Nat} (h : citeL s = some (a, b)) : a ≤ 1000000 ∧ b ≤ 1000000 := by
  unfold citeL at h
  split at h
  · rename_i h1
    cases h
    exact ⟨h1.2.2.1, h1.2.2.2⟩
  · cases h
def rightB (e : EB) : Bool := decide (e.k.size ≤ 1200) && decide (1 ≤ e.q) && decide (e.q ≤ 1099511627776) && decide (e.v.size ≤ 25000) && (if e.d then decide (e.v.size = 0) else (citeL e.v.data.toList).isSome)
def lessB (a b : EB) : Bool := Op.bytesLess a.k.data.toList b.k.data.toList || (a.k.data.toList == b.k.data.toList && decide (b.q < a.q))
theorem lessB_irrefl (a : EB) : lessB a a = false := by
  unfold lessB
  rw [less_irrefl]
  simp
theorem lessB_trans {a b c : EB} (h : lessB a b = true) (h' : lessB b c = true) : lessB a c = true := by
  unfold lessB at h h' ⊢
  rw [Bool.or_eq_true, Bool.and_eq_true, beq_iff_eq, decide_eq_true_iff] at h h' ⊢
  rcases h with h | ⟨h1, h2⟩
  · rcases h' with h' | ⟨h3, h4⟩
    · exact Or.inl (less_trans h h')
    · exact Or.inl (by rw [← h3]; exact h)
  · rcases h' with h' | ⟨h3, h4⟩
    · exact Or.inl (by rw [h1]; exact h')
    · exact Or.inr ⟨h1.trans h3, by omega⟩
theorem lessB_asymm {a b : EB} (h : lessB a b = true) : lessB b a = false := by
  cases h' : lessB b a with
  | false => rfl
  | true => have := lessB_trans h h'; rw [lessB_irrefl] at this; cases this
theorem lessB_same {a b : EB} (h : lessB a b = false) (h' : lessB b a = false) : a.k.data.toList = b.k.data.toList ∧ a.q = b.q := by
  unfold lessB at h h'
  rw [Bool.or_eq_false_iff, Bool.and_eq_false_iff] at h h'
  obtain ⟨h1, h2⟩ := h
  obtain ⟨h3, h4⟩ := h'
  have hk : a.k.data.toList = b.k.data.toList := by
    rcases less_tri a.k.data.toList b.k.data.toList with e | e | e
    · rw [h1] at e; cases e
    · exact e
    · rw [h3] at e; cases e
  rw [hk] at h2 h4
  have e2 : (b.k.data.toList == b.k.data.toList) = true := beq_self_eq_true _
  rw [e2] at h2 h4
  have h5 : ¬ b.q < a.q := by
    rcases h2 with h | h
    · cases h
    · exact of_decide_eq_false h
  have h6 : ¬ a.q < b.q := by
    rcases h4 with h | h
    · cases h
    · exact of_decide_eq_false h
  exact ⟨hk, by omega⟩
def standF : EB → List EB → Bool
  | _, [] => true
  | a, b :: l => rightB b && lessB a b && standF b l
def standB : List EB → Bool
  | [] => true
  | a :: l => rightB a && standF a l
theorem standF_right : ∀ (l : List EB) (a : EB), standF a l = true → ∀ e ∈ l, rightB e = true ∧ lessB a e = true
  | [], a, _, e, he => by cases he
  | b :: l, a, h, e, he => by
    rw [standF, Bool.and_eq_true, Bool.and_eq_true] at h
    obtain ⟨⟨h1, h2⟩, h3⟩ := h
    rcases List.mem_cons.1 he with rfl | he
    · exact ⟨h1, h2⟩
    · obtain ⟨h4, h5⟩ := standF_right l b h3 e he
      exact ⟨h4, lessB_trans h2 h5⟩
theorem stand_right {l : List EB} (h : standB l = true) : ∀ e ∈ l, rightB e = true := by
  intro e he
  cases l with
  | nil => cases he
  | cons a l =>
    rw [standB, Bool.and_eq_true] at h
    rcases List.mem_cons.1 he with rfl | he
    · exact h.1
    · exact (standF_right l a h.2 e he).1
theorem stand_pair {l : List EB} (h : standB l = true) : l.Pairwise (fun a b => lessB a b = true) := by
  have go : ∀ (l : List EB) (a : EB), standF a l = true → l.Pairwise (fun a b => lessB a b = true) := by
    intro l
    induction l with
    | nil => intro a _; exact List.Pairwise.nil
    | cons b l ih =>
      intro a h
      rw [standF, Bool.and_eq_true, Bool.and_eq_true] at h
      exact List.Pairwise.cons (fun e he => (standF_right l b h.2 e he).2) (ih b h.2)
  cases l with
  | nil => exact List.Pairwise.nil
  | cons a l =>
    rw [standB, Bool.and_eq_true] at h
    exact List.Pairwise.cons (fun e he => (standF_right l a h.2 e he).2) (go l a h.2)
theorem stand_of : ∀ (l : List EB), (∀ e ∈ l, rightB e = true) → l.Pairwise (fun a b => lessB a b = true) → standB l = true := by
  have go : ∀ (l : List EB) (a : EB), (∀ e ∈ l, rightB e = true) → (a :: l).Pairwise (fun a b => lessB a b = true) → standF a l = true := by
    intro l
    induction l with
    | nil => intro a _ _; rfl
    | cons b l ih =>
      intro a hr hp
      rw [List.pairwise_cons] at hp
      rw [standF, hr b (by simp), hp.1 b (by simp), Bool.true_and, Bool.true_and]
      exact ih b (fun e he => hr e (by simp [he])) hp.2
  intro l hr hp
  cases l with
  | nil => rfl
  | cons a l =>
    rw [standB, hr a (by simp), Bool.true_and]
    exact go l a (fun e he => hr e (by simp [he])) hp

-- cites
structure CT where
  t : Nat
  v : Nat
  n : Nat
def ctLess (c : CT) (a b : Nat) : Bool := decide (c.t < a) || (decide (c.t = a) && decide (c.v < b))
def addC (a b : Nat) : List CT → List CT
  | [] => [⟨a, b, 1⟩]
  | c :: l => if ctLess c a b = true then c :: addC a b l else if c.t = a ∧ c.v = b then ⟨a, b, c.n + 1⟩ :: l else ⟨a, b, 1⟩ :: c :: l
def citeE (e : EB) : Option (Nat × Nat) := if e.d then none else citeL e.v.data.toList
def stepC (out : List CT) (e : EB) : List CT := match citeE e with
  | none => out
  | some (a, b) => addC a b out
def citesB (l : List EB) : List CT := l.foldl stepC []
theorem cites_snoc (l : List EB) (e : EB) : citesB (l ++ [e]) = stepC (citesB l) e := by unfold citesB; rw [List.foldl_append]; rfl
theorem add_len (a b : Nat) : ∀ l : List CT, (addC a b l).length ≤ l.length + 1
  | [] => Nat.le_refl _
  | c :: l => by
    unfold addC
    split
    · have := add_len a b l
      rw [List.length_cons, List.length_cons]; omega
    · split
      · simp only [List.length_cons]; omega
      · simp only [List.length_cons]; omega
theorem step_len (out : List CT) (e : EB) : (stepC out e).length ≤ out.length + 1 := by
  unfold stepC
  split
  · omega
  · exact add_len _ _ _
theorem cites_len (l : List EB) : (citesB l).length ≤ l.length := by
  have go : ∀ (l : List EB) (out : List CT), (l.foldl stepC out).length ≤ out.length + l.length := by
    intro l
    induction l with
    | nil => intro out; exact Nat.le_refl _
    | cons e l ih =>
      intro out
      rw [List.foldl_cons, List.length_cons]
      have h1 := ih (stepC out e)
      have h2 := step_len out e
      omega
  have := go l []
  simpa [citesB] using this
def smallC (m : Nat) (l : List CT) : Prop := ∀ c ∈ l, c.t ≤ 1000000 ∧ c.v ≤ 1000000 ∧ c.n ≤ m
theorem add_small {a b m : Nat} (ha : a ≤ 1000000) (hb : b ≤ 1000000) : ∀ {l : List CT}, smallC m l → smallC (m + 1) (addC a b l)
  | [], h => fun c hc => by
    simp only [addC, List.mem_singleton] at hc
    subst hc
    exact ⟨ha, hb, by show 1 ≤ m + 1; omega⟩
  | d :: l, h => fun c hc => by
    have hd := h d (by simp)
    have hl : smallC m l := fun x hx => h x (by simp [hx])
    unfold addC at hc
    split at hc
    · rcases List.mem_cons.1 hc with rfl | hc
      · exact ⟨hd.1, hd.2.1, by have := hd.2.2; omega⟩
      · exact add_small ha hb hl c hc
    · split at hc
      · rcases List.mem_cons.1 hc with rfl | hc
        · exact ⟨ha, hb, by have := hd.2.2; show d.n + 1 ≤ m + 1; omega⟩
        · have := hl c hc; exact ⟨this.1, this.2.1, by omega⟩
      · rcases List.mem_cons.1 hc with rfl | hc
        · exact ⟨ha, hb, by show 1 ≤ m + 1; omega⟩
        · have := h c hc; exact ⟨this.1, this.2.1, by omega⟩
end Go.Proofs.Yteimllgoelleeaa
/- Mathematics of chapter 10, third part: where an entry is put in, where a cite is counted, the table file's bytes, and what they are made of; no program. -/
namespace Go.Proofs.Yteimllgoelleeaa

-- an entry put where it belongs
def insE (e : EB) : List EB → List EB
  | [] => [e]
  | c :: l => if lessB c e = true then c :: insE e l else if lessB e c = true then e :: c :: l else c :: l
def stepS (out : List EB) (e : EB) : List EB := if rightB e then insE e out else out
def standingB (l : List EB) : List EB := l.foldl stepS []
theorem standing_snoc (l : List EB) (e : EB) : standingB (l ++ [e]) = stepS (standingB l) e := by unfold standingB; rw [List.foldl_append]; rfl
theorem ins_mem (e : EB) : ∀ (l : List EB) (x : EB), x ∈ insE e l → x = e ∨ x ∈ l
  | [], x, h => by simp [insE] at h; exact Or.inl h
  | c :: l, x, h => by
    unfold insE at h
    split at h
    · rcases List.mem_cons.1 h with rfl | h
      · exact Or.inr (by simp)
      · rcases ins_mem e l x h with h | h
        · exact Or.inl h
        · exact Or.inr (by simp [h])
    · split at h
      · rcases List.mem_cons.1 h with rfl | h
        · exact Or.inl rfl
        · exact Or.inr h
      · exact Or.inr h
theorem ins_pair (e : EB) : ∀ l : List EB, l.Pairwise (fun a b => lessB a b = true) → (insE e l).Pairwise (fun a b => lessB a b = true)
  | [], h => by simp [insE]
  | c :: l, h => by
    rw [List.pairwise_cons] at h
    unfold insE
    split
    · rename_i h1
      refine List.Pairwise.cons (fun x hx => ?_) (ins_pair e l h.2)
      rcases ins_mem e l x hx with rfl | hx
      · exact h1
      · exact h.1 x hx
    · split
      · rename_i h1 h2
        refine List.Pairwise.cons (fun x hx => ?_) (List.Pairwise.cons h.1 h.2)
        rcases List.mem_cons.1 hx with rfl | hx
        · exact h2
        · exact lessB_trans h2 (h.1 x hx)
      · exact List.Pairwise.cons h.1 h.2
theorem ins_len (e : EB) : ∀ l : List EB, (insE e l).length ≤ l.length + 1
  | [] => Nat.le_refl _
  | c :: l => by
    unfold insE
    split
    · have := ins_len e l
      simp only [List.length_cons]; omega
    · split <;> simp only [List.length_cons] <;> omega
theorem standing_all : ∀ (l out : List EB), (∀ e ∈ out, rightB e = true) → out.Pairwise (fun a b => lessB a b = true) →
    (∀ e ∈ l.foldl stepS out, rightB e = true) ∧ (l.foldl stepS out).Pairwise (fun a b => lessB a b = true) ∧ (∀ e ∈ l.foldl stepS out, e ∈ out ∨ e ∈ l) ∧ (l.foldl stepS out).length ≤ out.length + l.length
  | [], out, h1, h2 => ⟨h1, h2, fun e h => Or.inl h, Nat.le_refl _⟩
  | x :: l, out, h1, h2 => by
    have hs : (∀ e ∈ stepS out x, rightB e = true) ∧ (stepS out x).Pairwise (fun a b => lessB a b = true) ∧ (∀ e ∈ stepS out x, e ∈ out ∨ e = x) ∧ (stepS out x).length ≤ out.length + 1 := by
      unfold stepS
      split
      · rename_i hr
        refine ⟨fun e he => ?_, ins_pair x out h2, fun e he => (ins_mem x out e he).symm, ins_len x out⟩
        rcases ins_mem x out e he with rfl | he
        · exact hr
        · exact h1 e he
      · exact ⟨h1, h2, fun e he => Or.inl he, by omega⟩
    obtain ⟨a1, a2, a3, a4⟩ := hs
    obtain ⟨b1, b2, b3, b4⟩ := standing_all l (stepS out x) a1 a2
    rw [List.foldl_cons]
    refine ⟨b1, b2, fun e he => ?_, by rw [List.length_cons]; omega⟩
    rcases b3 e he with h | h
    · rcases a3 e h with h | rfl
      · exact Or.inl h
      · exact Or.inr (by simp)
    · exact Or.inr (by simp [h])
theorem standing_stand (l : List EB) : standB (standingB l) = true := by
  obtain ⟨h1, h2, -, -⟩ := standing_all l [] (fun e h => by cases h) List.Pairwise.nil
  exact stand_of _ h1 h2
theorem standing_mem {l : List EB} {e : EB} (h : e ∈ standingB l) : e ∈ l := by
  obtain ⟨-, -, h3, -⟩ := standing_all l [] (fun e h => by cases h) List.Pairwise.nil
  rcases h3 e h with h | h
  · cases h
  · exact h
theorem standing_len (l : List EB) : (standingB l).length ≤ l.length := by
  obtain ⟨-, -, -, h4⟩ := standing_all l [] (fun e h => by cases h) List.Pairwise.nil
  simpa [standingB] using h4

-- where a cite is counted
end Go.Proofs.Yteimllgoelleeaa
/- Mathematics of chapter 10, fifth part: what a table is asked: entries between two keys, an entry at a number; no program. -/
namespace Go.Proofs.Yteimllgoelleeaa

def inB (f t : List UInt8) (e : EB) : Bool := !(Op.bytesLess e.k.data.toList f) && (t == [] || Op.bytesLess e.k.data.toList t)
def betE (f t : List UInt8) (l : List EB) : List EB := l.filter (inB f t)
def hitB (key : List UInt8) (seq : Int) (e : EB) : Bool := e.k.data.toList == key && decide (e.q ≤ seq)
def getE (key : List UInt8) (seq : Int) (l : List EB) : Option EB := l.find? (hitB key seq)
theorem filter_cut {α : Type} (p q r : α → Bool) : ∀ l : List α, (∀ x ∈ l, r x = (p x || q x)) → (∀ x ∈ l, q x = true → p x = false) → l.Pairwise (fun a b => q a = true → p b = false) →
    l.filter p ++ l.filter q = l.filter r
  | [], _, _, _ => rfl
  | x :: l, h1, h2, h3 => by
    rw [List.pairwise_cons] at h3
    have ih := filter_cut p q r l (fun y hy => h1 y (by simp [hy])) (fun y hy => h2 y (by simp [hy])) h3.2
    have e1 := h1 x (by simp)
    cases hq : q x with
    | true =>
      have hp := h2 x (by simp) hq
      have hall : l.filter p = [] := List.filter_eq_nil_iff.2 fun y hy => by rw [h3.1 y hy hq]; simp
      rw [hall, List.nil_append] at ih
      rw [List.filter_cons, List.filter_cons, List.filter_cons, hp, hq, e1, hp, hq, hall, ih]
      rfl
    | false =>
      cases hp : p x with
      | true => rw [List.filter_cons, List.filter_cons, List.filter_cons, hp, hq, e1, hp, hq, ← ih]; rfl
      | false => rw [List.filter_cons, List.filter_cons, List.filter_cons, hp, hq, e1, hp, hq, ← ih]; rfl
theorem lessB_key {a b : EB} (h : lessB a b = true) : Op.bytesLess b.k.data.toList a.k.data.toList = false := by
  unfold lessB at h
  rw [Bool.or_eq_true, Bool.and_eq_true, beq_iff_eq] at h
  rcases h with h | ⟨h, _⟩
  · exact less_asymm h
  · rw [h]; exact less_irrefl _
theorem less_le {a b c : List UInt8} (h : Op.bytesLess b a = false) (h' : Op.bytesLess b c = true) : Op.bytesLess a c = true := by
  rcases less_tri a b with e | e | e
  · exact less_trans e h'
  · rw [e]; exact h'
  · rw [h] at e; cases e
theorem le_less {a b c : List UInt8} (h : Op.bytesLess a b = true) (h' : Op.bytesLess c b = false) : Op.bytesLess a c = true := by
  rcases less_tri b c with e | e | e
  · exact less_trans h e
  · rw [← e]; exact h
  · rw [h'] at e; cases e
theorem bet_parts {l : List EB} (hs : standB l = true) {f t : List UInt8} (hft : Op.bytesLess t f = false) (ht : t ≠ []) : betE f t l ++ betE t [] l = betE f [] l := by
  have hp := stand_pair hs
  have ht' : (t == []) = false := by rw [beq_eq_false_iff_ne]; exact ht
  have hn : (([] : List UInt8) == []) = true := rfl
  refine filter_cut _ _ _ l (fun x _ => ?_) (fun x _ hq => ?_) (hp.imp fun {a b} hab hq => ?_)
  · unfold inB
    rw [ht', hn, Bool.false_or, Bool.true_or, Bool.and_true, Bool.and_true]
    cases h1 : Op.bytesLess x.k.data.toList f with
    | true => rw [le_less h1 hft]; rfl
    | false => cases h2 : Op.bytesLess x.k.data.toList t <;> rfl
  · unfold inB at hq ⊢
    rw [hn, Bool.true_or, Bool.and_true, Bool.not_eq_true'] at hq
    rw [ht', hq]; simp
  · unfold inB at hq ⊢
    rw [hn, Bool.true_or, Bool.and_true, Bool.not_eq_true'] at hq
    have h1 : Op.bytesLess b.k.data.toList t = false := by
      cases h : Op.bytesLess b.k.data.toList t with
      | false => rfl
      | true => rw [less_le (lessB_key hab) h] at hq; cases hq
    rw [ht', h1]; simp
theorem between_one (a k : List UInt8) : (!(Op.bytesLess k a) && Op.bytesLess k (a ++ [0])) = (k == a) := by
  induction a generalizing k with
  | nil =>
    cases k with
    | nil => rfl
    | cons x k => simp [Op.bytesLess]
  | cons y a ih =>
    cases k with
    | nil => simp [Op.bytesLess]
    | cons x k =>
      have ih := ih k
      simp only [Op.bytesLess, List.cons_append] at ih ⊢
      rcases Nat.lt_trichotomy x.toNat y.toNat with h | h | h
      · have hxy : x < y := h
        have hne : ¬ x = y := fun e => by rw [e] at h; omega
        simp [hxy, hne]
      · have e : x = y := by exact UInt8.toNat_inj.1 h
        subst e
        simpa using ih
      · have hxy : y < x := h
        have hyx : ¬ x < y := fun h' : x.toNat < y.toNat => by omega
        have hne : ¬ x = y := fun e => by rw [e] at h; omega
        have hne' : ¬ y = x := fun e => hne e.symm
        have hb : (x == y) = false := by rw [beq_eq_false_iff_ne]; exact hne
        simp [hxy, hyx, hne, hne', hb]
theorem right_top {e : EB} (h : rightB e = true) : 1 ≤ e.q ∧ e.q ≤ 1099511627776 := by
  unfold rightB at h
  simp only [Bool.and_eq_true, decide_eq_true_iff] at h
  exact ⟨h.1.1.1.2, h.1.1.2⟩
theorem get_head {l : List EB} (hs : standB l = true) (f : List UInt8) : getE f 1099511627776 l = (betE f (f ++ [0]) l).head? := by
  unfold getE betE
  rw [List.head?_filter]
  have hr := stand_right hs
  clear hs
  induction l with
  | nil => rfl
  | cons e l ih =>
    have h1 : hitB f 1099511627776 e = inB f (f ++ [0]) e := by
      unfold hitB inB
      have hq := right_top (hr e (by simp))
      have hne : ((f ++ [0]) == []) = false := by rw [beq_eq_false_iff_ne]; simp
      rw [hne, Bool.false_or, between_one, decide_eq_true hq.2, Bool.and_true]
    rw [List.find?_cons, List.find?_cons, h1, ih (fun x hx => hr x (by simp [hx]))]
theorem get_own {l : List EB} (hp : l.Pairwise (fun a b => lessB a b = true)) {e : EB} (he : e ∈ l) : getE e.k.data.toList e.q l = some e := by
  unfold getE
  induction l with
  | nil => cases he
  | cons a l ih =>
    rw [List.pairwise_cons] at hp
    rw [List.find?_cons]
    rcases List.mem_cons.1 he with rfl | he
    · have : hitB e.k.data.toList e.q e = true := by unfold hitB; simp
      rw [this]
    · have hl := hp.1 e he
      have : hitB e.k.data.toList e.q a = false := by
        unfold hitB
        unfold lessB at hl
        rw [Bool.or_eq_true, Bool.and_eq_true, beq_iff_eq, decide_eq_true_iff] at hl
        rw [Bool.and_eq_false_iff]
        rcases hl with h | ⟨h, h'⟩
        · refine Or.inl ?_
          rw [beq_eq_false_iff_ne]
          intro e9
          rw [e9, less_irrefl] at h; cases h
        · exact Or.inr (decide_eq_false (by omega))
      rw [this]
      exact ih hp.2 he
theorem get_next {l : List EB} {k : List UInt8} {q : Int} {x : EB} (h : getE k q l = some x) : x.k.data.toList = k ∧ x.q ≤ q ∧ x ∈ l := by
  unfold getE at h
  have h1 := List.find?_some h
  unfold hitB at h1
  rw [Bool.and_eq_true, beq_iff_eq, decide_eq_true_iff] at h1
  exact ⟨h1.1, h1.2, List.mem_of_find?_eq_some h⟩
theorem bet_all (l : List EB) : betE [] [] l = l := by
  unfold betE
  refine List.filter_eq_self.2 fun e _ => ?_
  unfold inB
  have : Op.bytesLess e.k.data.toList [] = false := by cases e.k.data.toList <;> rfl
  rw [this]; rfl
end Go.Proofs.Yteimllgoelleeaa
/- Mathematics of chapter 11: what a memory holds is the standing entries of all that were added, in whatever order; what an Add answers; no program. -/
namespace Go.Proofs.Yteimllgoelleeaa

def sameB (a b : EB) : Prop := a.k.data.toList = b.k.data.toList ∧ a.q = b.q
instance (a b : EB) : Decidable (sameB a b) := by unfold sameB; infer_instance
theorem sameB_symm {a b : EB} (h : sameB a b) : sameB b a := ⟨h.1.symm, h.2.symm⟩
theorem less_same_l {a b c : EB} (h : sameB a b) : lessB a c = lessB b c := by unfold lessB; rw [h.1, h.2]
theorem less_same_r {a b c : EB} (h : sameB a b) : lessB c a = lessB c b := by unfold lessB; rw [h.1, h.2]
theorem same_less {a b : EB} (h : sameB a b) : lessB a b = false := by rw [less_same_l h]; exact lessB_irrefl b
theorem less_or (a b : EB) : lessB a b = true ∨ sameB a b ∨ lessB b a = true := by
  cases h : lessB a b with
  | true => exact Or.inl rfl
  | false => cases h' : lessB b a with
    | true => exact Or.inr (Or.inr rfl)
    | false => exact Or.inr (Or.inl (lessB_same h h'))
theorem ins_old {e : EB} : ∀ {l : List EB}, l.Pairwise (fun a b => lessB a b = true) → (∃ c ∈ l, sameB c e) → insE e l = l
  | [], _, ⟨c, hc, _⟩ => by cases hc
  | d :: l, hp, ⟨c, hc, hs⟩ => by
    rw [List.pairwise_cons] at hp
    unfold insE
    rcases List.mem_cons.1 hc with rfl | hc
    · rw [if_neg (by rw [same_less hs]; simp), if_neg (by rw [same_less (sameB_symm hs)]; simp)]
    · have hd : lessB d e = true := by rw [← less_same_r hs]; exact hp.1 c hc
      rw [if_pos hd, ins_old hp.2 ⟨c, hc, hs⟩]
theorem ins_new {e : EB} : ∀ {l : List EB}, (∀ c ∈ l, ¬ sameB c e) → (insE e l).length = l.length + 1 ∧ (∀ x, x ∈ insE e l ↔ x = e ∨ x ∈ l)
  | [], _ => ⟨rfl, fun x => by simp [insE]⟩
  | d :: l, h => by
    have hd := h d (by simp)
    unfold insE
    rcases less_or d e with h1 | h1 | h1
    · obtain ⟨i1, i2⟩ := ins_new (e := e) (l := l) (fun c hc => h c (by simp [hc]))
      rw [if_pos h1]
      refine ⟨by rw [List.length_cons, List.length_cons, i1], fun x => ?_⟩
      rw [List.mem_cons, List.mem_cons, i2]
      constructor
      · rintro (h | h | h)
        · exact Or.inr (Or.inl h)
        · exact Or.inl h
        · exact Or.inr (Or.inr h)
      · rintro (h | h | h)
        · exact Or.inr (Or.inl h)
        · exact Or.inl h
        · exact Or.inr (Or.inr h)
    · exact absurd h1 hd
    · rw [if_neg (by rw [lessB_asymm h1]; simp), if_pos h1]
      exact ⟨rfl, fun x => by rw [List.mem_cons]⟩
def errM (C : List EB) (e : EB) : Int := if rightB e = false then 1 else if ∃ c ∈ C, sameB c e then 5 else 0
theorem err_arg {C : List EB} {e : EB} (h : rightB e = false) : errM C e = 1 ∧ stepS C e = C := ⟨if_pos h, by unfold stepS; rw [h]; rfl⟩
theorem err_there {C : List EB} {e : EB} (hp : C.Pairwise (fun a b => lessB a b = true)) (h : rightB e = true) (h' : ∃ c ∈ C, sameB c e) : errM C e = 5 ∧ stepS C e = C := by
  refine ⟨?_, ?_⟩
  · unfold errM; rw [if_neg (by rw [h]; simp), if_pos h']
  · unfold stepS; rw [h]; exact ins_old hp h'
theorem err_ok {C : List EB} {e : EB} (h : rightB e = true) (h' : ¬ ∃ c ∈ C, sameB c e) : errM C e = 0 ∧ stepS C e = insE e C := by
  refine ⟨?_, ?_⟩
  · unfold errM; rw [if_neg (by rw [h]; simp), if_neg h']
  · unfold stepS; rw [h]; rfl
theorem pair_eq : ∀ {l m : List EB}, l.Pairwise (fun a b => lessB a b = true) → m.Pairwise (fun a b => lessB a b = true) → (∀ x, x ∈ l ↔ x ∈ m) → l = m
  | [], [], _, _, _ => rfl
  | [], d :: m, _, _, h => by have := (h d).2 (by simp); cases this
  | c :: l, [], _, _, h => by have := (h c).1 (by simp); cases this
  | c :: l, d :: m, hl, hm, h => by
    rw [List.pairwise_cons] at hl hm
    have hcd : c = d := by
      rcases List.mem_cons.1 ((h c).1 (by simp)) with e | e
      · exact e
      · rcases List.mem_cons.1 ((h d).2 (by simp)) with e' | e'
        · exact e'.symm
        · have h1 := hm.1 c e
          rw [lessB_asymm (hl.1 d e')] at h1
          cases h1
    subst hcd
    rw [pair_eq hl.2 hm.2 fun x => ?_]
    constructor
    · intro hx
      rcases List.mem_cons.1 ((h x).1 (by simp [hx])) with e | e
      · subst e
        have := hl.1 _ hx
        rw [lessB_irrefl] at this; cases this
      · exact e
    · intro hx
      rcases List.mem_cons.1 ((h x).2 (by simp [hx])) with e | e
      · subst e
        have := hm.1 _ hx
        rw [lessB_irrefl] at this; cases this
      · exact e
theorem standing_pair (l : List EB) : (standingB l).Pairwise (fun a b => lessB a b = true) := stand_pair (standing_stand l)
theorem fold_has : ∀ (l out : List EB), out.Pairwise (fun a b => lessB a b = true) → ∀ e, ((e ∈ l ∧ rightB e = true) ∨ ∃ c ∈ out, sameB c e) → ∃ c ∈ l.foldl stepS out, sameB c e
  | [], out, _, e, h => by
    rcases h with ⟨h, _⟩ | h
    · cases h
    · exact h
  | x :: l, out, hp, e, h => by
    rw [List.foldl_cons]
    have hs : (stepS out x).Pairwise (fun a b => lessB a b = true) ∧ (∀ c ∈ out, c ∈ stepS out x) ∧ (rightB x = true → ∃ c ∈ stepS out x, sameB c x) := by
      unfold stepS
      cases hr : rightB x with
      | false => exact ⟨hp, fun c hc => hc, fun h => by cases h⟩
      | true =>
        refine ⟨ins_pair x out hp, fun c hc => ?_, fun _ => ?_⟩
        · by_cases hh : ∃ c ∈ out, sameB c x
          · simp only [if_true]; rw [ins_old hp hh]; exact hc
          · simp only [if_true]; exact ((ins_new (fun c hc hs => hh ⟨c, hc, hs⟩)).2 c).2 (Or.inr hc)
        · by_cases hh : ∃ c ∈ out, sameB c x
          · simp only [if_true]; rw [ins_old hp hh]; exact hh
          · simp only [if_true]; exact ⟨x, ((ins_new (fun c hc hs => hh ⟨c, hc, hs⟩)).2 x).2 (Or.inl rfl), rfl, rfl⟩
    refine fold_has l _ hs.1 e ?_
    rcases h with ⟨h, hr⟩ | ⟨c, hc, h⟩
    · rcases List.mem_cons.1 h with rfl | h
      · exact Or.inr (hs.2.2 hr)
      · exact Or.inl ⟨h, hr⟩
    · exact Or.inr ⟨c, hs.2.1 c hc, h⟩
theorem standing_has {l : List EB} {e : EB} (h : e ∈ l) (hr : rightB e = true) : ∃ c ∈ standingB l, sameB c e :=
  fold_has l [] List.Pairwise.nil e (Or.inl ⟨h, hr⟩)
theorem standing_alone {l : List EB} (hn : ∀ a ∈ l, ∀ b ∈ l, sameB a b → a = b) (e : EB) : e ∈ standingB l ↔ e ∈ l ∧ rightB e = true := by
  constructor
  · intro h
    exact ⟨standing_mem h, stand_right (standing_stand l) e h⟩
  · rintro ⟨h, hr⟩
    obtain ⟨c, hc, hs⟩ := standing_has h hr
    rw [← hn c (standing_mem hc) e h hs]
    exact hc
theorem standing_turned {l m : List EB} (hn : ∀ a ∈ l, ∀ b ∈ l, sameB a b → a = b) (h : ∀ x, x ∈ m ↔ x ∈ l) : standingB m = standingB l := by
  refine pair_eq (standing_pair m) (standing_pair l) fun x => ?_
  rw [standing_alone (fun a ha b hb hs => hn a ((h a).1 ha) b ((h b).1 hb) hs), standing_alone hn, h]
theorem turn_mem {l m : List EB} {n : Nat} (hn : n < l.length) (hl : m.length = l.length) (h : ∀ i (hi : i < m.length) (hj : (n + l.length - 1 - i) % l.length < l.length), m[i] = l[(n + l.length - 1 - i) % l.length]) : ∀ x, x ∈ m ↔ x ∈ l := by
  intro x
  have h0 : 0 < l.length := by omega
  constructor
  · intro hx
    obtain ⟨i, hi, rfl⟩ := List.mem_iff_getElem.1 hx
    rw [h i hi (Nat.mod_lt _ h0)]
    exact List.getElem_mem _
  · intro hx
    obtain ⟨j, hj, rfl⟩ := List.mem_iff_getElem.1 hx
    obtain ⟨i, hi, hij⟩ : ∃ i, i < l.length ∧ (n + l.length - 1 - i) % l.length = j := by
      by_cases hjn : n ≤ j
      · refine ⟨n + l.length - 1 - j, by omega, ?_⟩
        rw [show n + l.length - 1 - (n + l.length - 1 - j) = j by omega]
        exact Nat.mod_eq_of_lt hj
      · refine ⟨n - 1 - j, by omega, ?_⟩
        rw [show n + l.length - 1 - (n - 1 - j) = j + l.length by omega, Nat.add_mod_right]
        exact Nat.mod_eq_of_lt hj
    have := h i (by omega) (by rw [hij]; exact hj)
    have e : l[(n + l.length - 1 - i) % l.length]'(by rw [hij]; exact hj) = l[j] := by congr 1
    rw [← e, ← this]
    exact List.getElem_mem _
def sizeM : List EB → Nat
  | [] => 0
  | e :: l => e.k.size + e.v.size + sizeM l
theorem size_ins {e : EB} : ∀ {l : List EB}, (∀ c ∈ l, ¬ sameB c e) → sizeM (insE e l) = sizeM l + e.k.size + e.v.size
  | [], _ => by simp [insE, sizeM]
  | d :: l, h => by
    unfold insE
    rcases less_or d e with h1 | h1 | h1
    · rw [if_pos h1, sizeM, sizeM, size_ins fun c hc => h c (by simp [hc])]; omega
    · exact absurd h1 (h d (by simp))
    · rw [if_neg (by rw [lessB_asymm h1]; simp), if_pos h1, sizeM, sizeM]; omega
theorem size_le {m : Nat} : ∀ {l : List EB}, (∀ e ∈ l, e.k.size + e.v.size ≤ m) → sizeM l ≤ l.length * m
  | [], _ => by simp [sizeM]
  | e :: l, h => by
    have h1 := h e (by simp)
    have h2 := size_le (l := l) fun x hx => h x (by simp [hx])
    rw [sizeM, List.length_cons, Nat.add_mul]
    omega
theorem get_top {l : List EB} (hp : l.Pairwise (fun a b => lessB a b = true)) {key : List UInt8} {q : Int} {x : EB} (h : getE key q l = some x) : ∀ c ∈ l, c.k.data.toList = key → c.q ≤ q → c.q ≤ x.q := by
  unfold getE at h
  induction l with
  | nil => cases h
  | cons d l ih =>
    rw [List.pairwise_cons] at hp
    rw [List.find?_cons] at h
    intro c hc hk hq
    cases hd : hitB key q d with
    | true =>
      rw [hd] at h
      cases h
      rcases List.mem_cons.1 hc with rfl | hc
      · exact Int.le_refl _
      · have hl := hp.1 c hc
        unfold hitB at hd
        rw [Bool.and_eq_true, beq_iff_eq, decide_eq_true_iff] at hd
        unfold lessB at hl
        rw [Bool.or_eq_true, Bool.and_eq_true, decide_eq_true_iff] at hl
        rcases hl with hl | ⟨_, hl⟩
        · rw [hd.1, hk, less_irrefl] at hl; cases hl
        · omega
    | false =>
      rw [hd] at h
      rcases List.mem_cons.1 hc with rfl | hc
      · unfold hitB at hd
        rw [hk, Bool.and_eq_false_iff] at hd
        rcases hd with hd | hd
        · rw [beq_self_eq_true] at hd; cases hd
        · rw [decide_eq_true hq] at hd; cases hd
      · exact ih hp.2 h c hc hk hq
theorem get_nothing {l : List EB} {key : List UInt8} {q : Int} (h : getE key q l = none) : ∀ c ∈ l, c.k.data.toList = key → ¬ c.q ≤ q := by
  intro c hc hk hq
  unfold getE at h
  have := List.find?_eq_none.1 h c hc
  unfold hitB at this
  rw [hk, beq_self_eq_true, decide_eq_true hq] at this
  simp at this
end Go.Proofs.Yteimllgoelleeaa
/- Mathematics of chapter 10, fourth part: what a table file's bytes tell again; a byte turned; no program. -/
namespace Go.Proofs.Yteimllgoelleeaa

theorem ba_ext {a b : ByteArray} (h : a.data.toList = b.data.toList) : a = b := by
  apply ByteArray.ext
  exact Array.toList_inj.1 h
theorem right_parts {e : EB} (h : rightB e = true) : e.k.size ≤ 1200 ∧ 1 ≤ e.q ∧ e.q ≤ 1099511627776 ∧ e.v.size ≤ 25000 ∧ (e.d = true → e.v.size = 0) ∧ (e.d = false → (citeL e.v.data.toList).isSome = true) := by
  unfold rightB at h
  simp only [Bool.and_eq_true, decide_eq_true_iff] at h
  obtain ⟨⟨⟨⟨h1, h2⟩, h3⟩, h4⟩, h5⟩ := h
  refine ⟨h1, h2, h3, h4, fun hd => ?_, fun hd => ?_⟩
  · rw [hd] at h5; simpa using h5
  · rw [hd] at h5; simpa using h5
theorem right_dead {e : EB} (h : rightB e = true) (hd : e.d = true) : e.v = ⟨#[]⟩ := by
  have := (right_parts h).2.2.2.2.1 hd
  exact ByteArray.ext (Array.eq_empty_of_size_eq_zero this)
end Go.Proofs.Yteimllgoelleeaa
/- Mathematics for a memory that is a tree: what stands left of an entry, the entry, and what stands right of it; no program. -/
namespace Go.Proofs.Yteimllgoelleeaa

theorem size_app : ∀ (l m : List EB), sizeM (l ++ m) = sizeM l + sizeM m
  | [], m => by simp [sizeM]
  | c :: l, m => by rw [List.cons_append, sizeM, sizeM, size_app l m]; omega
end Go.Proofs.Yteimllgoelleeaa
