/- TEnt, TFile, TAsk, MMath, TBack, TOpenM, MTree, laid together. -/
import Derived.Test.YteimllgoelleeaaGreatDoorZ3
import Derived.Test.YteimllgoelleeaaGreatDoorZ1
set_option linter.unusedSimpArgs false
set_option linter.unusedVariables false
/- Mathematics of chapter 10, second part: entries (EB), what data cite, which entries are right and how they stand, cites, a table file; no program. -/
namespace Go.Proofs.YteimllgoelleeaaGreatDoor

structure EB where
  k : ByteArray
  q : Int
  d : Bool
  v : ByteArray
def EB.fits (e : EB) : Prop := e.k.size ≤ 9223372036854775807 ∧ -9223372036854775808 ≤ e.q ∧ e.q ≤ 9223372036854775807 ∧ e.v.size ≤ 9223372036854775807

def citeL (s : List UInt8) : Option (Nat × Nat) :=
  if (takeL s).2.2 = true ∧ (takeL (takeL s).2.1).2.2 = true ∧ (takeL s).1 ≤ 1000000 ∧ (takeL (takeL s).2.1).1 ≤ 1000000 then some ((takeL s).1, (takeL (takeL s).2.1).1) else none
theorem cite_le {s : List UInt8} {a b : Nat} (h : citeL s = some (a, b)) : a ≤ 1000000 ∧ b ≤ 1000000 := by
  unfold citeL at h
  split at h
  · rename_i h1
    cases h
    exact ⟨h1.2.2.1, h1.2.2.2⟩
  · cases h
def rightB (e : EB) : Bool := decide (e.k.size ≤ 1200) && decide (1 ≤ e.q) && decide (e.q ≤ 1099511627776) && decide (e.v.size ≤ 25000) && (if e.d then decide (e.v.size = 0) else (citeL e.v.data.toList).isSome)
def lessB (a b : EB) : Bool := Op.bytesLess a.k.data.toList b.k.data.toList || (a.k.data.toList == b.k.data.toList && decide (b.q < a.q))
theorem lessB_irrefl (a : EB) : lessB a a = false := by
  unfold lessB
  rw [less_irrefl]
  simp
theorem lessB_trans {a b c : EB} (h : lessB a b = true) (h' : lessB b c = true) : lessB a c = true := by
  unfold lessB at h h' ⊢
  rw [Bool.or_eq_true, Bool.and_eq_true, beq_iff_eq, decide_eq_true_iff] at h h' ⊢
  rcases h with h | ⟨h1, h2⟩
  · rcases h' with h' | ⟨h3, h4⟩
    · exact Or.inl (less_trans h h')
    · exact Or.inl (by rw [← h3]; exact h)
  · rcases h' with h' | ⟨h3, h4⟩
    · exact Or.inl (by rw [h1]; exact h')
    · exact Or.inr ⟨h1.trans h3, by omega⟩
theorem lessB_asymm {a b : EB} (h : lessB a b = true) : lessB b a = false := by
  cases h' : lessB b a with
  | false => rfl
  | true => have := lessB_trans h h'; rw [lessB_irrefl] at this; cases this
theorem lessB_same {a b : EB} (h : lessB a b = false) (h' : lessB b a = false) : a.k.data.toList = b.k.data.toList ∧ a.q = b.q := by
  unfold lessB at h h'
  rw [Bool.or_eq_false_iff, Bool.and_eq_false_iff] at h h'
  obtain ⟨h1, h2⟩ := h
  obtain ⟨h3, h4⟩ := h'
  have hk : a.k.data.toList = b.k.data.toList := by
    rcases less_tri a.k.data.toList b.k.data.toList with e | e | e
    · rw [h1] at e; cases e
    · exact e
    · rw [h3] at e; cases e
  rw [hk] at h2 h4
  have e2 : (b.k.data.toList == b.k.data.toList) = true := beq_self_eq_true _
  rw [e2] at h2 h4
  have h5 : ¬ b.q < a.q := by
    rcases h2 with h | h
    · cases h
    · exact of_decide_eq_false h
  have h6 : ¬ a.q < b.q := by
    rcases h4 with h | h
    · cases h
    · exact of_decide_eq_false h
  exact ⟨hk, by omega⟩
def standF : EB → List EB → Bool
  | _, [] => true
  | a, b :: l => rightB b && lessB a b && standF b l
def standB : List EB → Bool
  | [] => true
  | a :: l => rightB a && standF a l
theorem standF_snoc : ∀ (l : List EB) (a b : EB), standF a (l ++ [b]) = (standF a l && rightB b && lessB ((a :: l).getLast (by simp)) b)
  | [], a, b => by simp [standF]
  | c :: l, a, b => by
    rw [List.cons_append, standF, standF, standF_snoc l c b]
    have e : (a :: c :: l).getLast (by simp) = (c :: l).getLast (by simp) := List.getLast_cons (by simp)
    rw [e]
    simp only [Bool.and_assoc]
theorem stand_snoc (l : List EB) (b : EB) : standB (l ++ [b]) = (standB l && rightB b && (match l.getLast? with | none => true | some a => lessB a b)) := by
  cases l with
  | nil => simp [standB, standF]
  | cons a l =>
    rw [List.cons_append, standB, standB, standF_snoc]
    rw [List.getLast?_eq_some_getLast (by simp)]
    simp only [Bool.and_assoc]
theorem standF_right : ∀ (l : List EB) (a : EB), standF a l = true → ∀ e ∈ l, rightB e = true ∧ lessB a e = true
  | [], a, _, e, he => by cases he
  | b :: l, a, h, e, he => by
    rw [standF, Bool.and_eq_true, Bool.and_eq_true] at h
    obtain ⟨⟨h1, h2⟩, h3⟩ := h
    rcases List.mem_cons.1 he with rfl | he
    · exact ⟨h1, h2⟩
    · obtain ⟨h4, h5⟩ := standF_right l b h3 e he
      exact ⟨h4, lessB_trans h2 h5⟩
theorem stand_right {l : List EB} (h : standB l = true) : ∀ e ∈ l, rightB e = true := by
  intro e he
  cases l with
  | nil => cases he
  | cons a l =>
    rw [standB, Bool.and_eq_true] at h
    rcases List.mem_cons.1 he with rfl | he
    · exact h.1
    · exact (standF_right l a h.2 e he).1
theorem stand_pair {l : List EB} (h : standB l = true) : l.Pairwise (fun a b => lessB a b = true) := by
  have go : ∀ (l : List EB) (a : EB), standF a l = true → l.Pairwise (fun a b => lessB a b = true) := by
    intro l
    induction l with
    | nil => intro a _; exact List.Pairwise.nil
    | cons b l ih =>
      intro a h
      rw [standF, Bool.and_eq_true, Bool.and_eq_true] at h
      exact List.Pairwise.cons (fun e he => (standF_right l b h.2 e he).2) (ih b h.2)
  cases l with
  | nil => exact List.Pairwise.nil
  | cons a l =>
    rw [standB, Bool.and_eq_true] at h
    exact List.Pairwise.cons (fun e he => (standF_right l a h.2 e he).2) (go l a h.2)
theorem stand_of : ∀ (l : List EB), (∀ e ∈ l, rightB e = true) → l.Pairwise (fun a b => lessB a b = true) → standB l = true := by
  have go : ∀ (l : List EB) (a : EB), (∀ e ∈ l, rightB e = true) → (a :: l).Pairwise (fun a b => lessB a b = true) → standF a l = true := by
    intro l
    induction l with
    | nil => intro a _ _; rfl
    | cons b l ih =>
      intro a hr hp
      rw [List.pairwise_cons] at hp
      rw [standF, hr b (by simp), hp.1 b (by simp), Bool.true_and, Bool.true_and]
      exact ih b (fun e he => hr e (by simp [he])) hp.2
  intro l hr hp
  cases l with
  | nil => rfl
  | cons a l =>
    rw [standB, hr a (by simp), Bool.true_and]
    exact go l a (fun e he => hr e (by simp [he])) hp

-- cites
structure CT where
  t : Nat
  v : Nat
  n : Nat
def ctLess (c : CT) (a b : Nat) : Bool := decide (c.t < a) || (decide (c.t = a) && decide (c.v < b))
def addC (a b : Nat) : List CT → List CT
  | [] => [⟨a, b, 1⟩]
  | c :: l => if ctLess c a b = true then c :: addC a b l else if c.t = a ∧ c.v = b then ⟨a, b, c.n + 1⟩ :: l else ⟨a, b, 1⟩ :: c :: l
def citeE (e : EB) : Option (Nat × Nat) := if e.d then none else citeL e.v.data.toList
def stepC (out : List CT) (e : EB) : List CT := match citeE e with
  | none => out
  | some (a, b) => addC a b out
def citesB (l : List EB) : List CT := l.foldl stepC []
theorem cites_snoc (l : List EB) (e : EB) : citesB (l ++ [e]) = stepC (citesB l) e := by unfold citesB; rw [List.foldl_append]; rfl
theorem add_len (a b : Nat) : ∀ l : List CT, (addC a b l).length ≤ l.length + 1
  | [] => Nat.le_refl _
  | c :: l => by
    unfold addC
    split
    · have := add_len a b l
      rw [List.length_cons, List.length_cons]; omega
    · split
      · simp only [List.length_cons]; omega
      · simp only [List.length_cons]; omega
theorem step_len (out : List CT) (e : EB) : (stepC out e).length ≤ out.length + 1 := by
  unfold stepC
  split
  · omega
  · exact add_len _ _ _
theorem cites_len (l : List EB) : (citesB l).length ≤ l.length := by
  have go : ∀ (l : List EB) (out : List CT), (l.foldl stepC out).length ≤ out.length + l.length := by
    intro l
    induction l with
    | nil => intro out; exact Nat.le_refl _
    | cons e l ih =>
      intro out
      rw [List.foldl_cons, List.length_cons]
      have h1 := ih (stepC out e)
      have h2 := step_len out e
      omega
  have := go l []
  simpa [citesB] using this
def smallC (m : Nat) (l : List CT) : Prop := ∀ c ∈ l, c.t ≤ 1000000 ∧ c.v ≤ 1000000 ∧ c.n ≤ m
theorem add_small {a b m : Nat} (ha : a ≤ 1000000) (hb : b ≤ 1000000) : ∀ {l : List CT}, smallC m l → smallC (m + 1) (addC a b l)
  | [], h => fun c hc => by
    simp only [addC, List.mem_singleton] at hc
    subst hc
    exact ⟨ha, hb, by show 1 ≤ m + 1; omega⟩
  | d :: l, h => fun c hc => by
    have hd := h d (by simp)
    have hl : smallC m l := fun x hx => h x (by simp [hx])
    unfold addC at hc
    split at hc
    · rcases List.mem_cons.1 hc with rfl | hc
      · exact ⟨hd.1, hd.2.1, by have := hd.2.2; omega⟩
      · exact add_small ha hb hl c hc
    · split at hc
      · rcases List.mem_cons.1 hc with rfl | hc
        · exact ⟨ha, hb, by have := hd.2.2; show d.n + 1 ≤ m + 1; omega⟩
        · have := hl c hc; exact ⟨this.1, this.2.1, by omega⟩
      · rcases List.mem_cons.1 hc with rfl | hc
        · exact ⟨ha, hb, by show 1 ≤ m + 1; omega⟩
        · have := h c hc; exact ⟨this.1, this.2.1, by omega⟩
theorem step_small {m : Nat} {out : List CT} (h : smallC m out) (e : EB) : smallC (m + 1) (stepC out e) := by
  unfold stepC
  cases hc : citeE e with
  | none => exact fun c hc => by have := h c hc; exact ⟨this.1, this.2.1, by omega⟩
  | some p =>
    obtain ⟨a, b⟩ := p
    unfold citeE at hc
    split at hc
    · cases hc
    · obtain ⟨h1, h2⟩ := cite_le hc
      exact add_small h1 h2 h
theorem cites_small (l : List EB) : smallC l.length (citesB l) := by
  have go : ∀ (l : List EB) (m : Nat) (out : List CT), smallC m out → smallC (m + l.length) (l.foldl stepC out) := by
    intro l
    induction l with
    | nil => intro m out h; exact h
    | cons e l ih =>
      intro m out h
      have := ih (m + 1) (stepC out e) (step_small h e)
      rw [List.foldl_cons, List.length_cons]
      rw [show m + (l.length + 1) = m + 1 + l.length by omega]
      exact this
  have := go l 0 [] (fun c hc => by cases hc)
  simpa [citesB] using this
end Go.Proofs.YteimllgoelleeaaGreatDoor
/- Mathematics of chapter 10, third part: where an entry is put in, where a cite is counted, the table file's bytes, and what they are made of; no program. -/
namespace Go.Proofs.YteimllgoelleeaaGreatDoor

-- an entry put where it belongs
def insE (e : EB) : List EB → List EB
  | [] => [e]
  | c :: l => if lessB c e = true then c :: insE e l else if lessB e c = true then e :: c :: l else c :: l
def stepS (out : List EB) (e : EB) : List EB := if rightB e then insE e out else out
def standingB (l : List EB) : List EB := l.foldl stepS []
theorem standing_snoc (l : List EB) (e : EB) : standingB (l ++ [e]) = stepS (standingB l) e := by unfold standingB; rw [List.foldl_append]; rfl
theorem ins_mem (e : EB) : ∀ (l : List EB) (x : EB), x ∈ insE e l → x = e ∨ x ∈ l
  | [], x, h => by simp [insE] at h; exact Or.inl h
  | c :: l, x, h => by
    unfold insE at h
    split at h
    · rcases List.mem_cons.1 h with rfl | h
      · exact Or.inr (by simp)
      · rcases ins_mem e l x h with h | h
        · exact Or.inl h
        · exact Or.inr (by simp [h])
    · split at h
      · rcases List.mem_cons.1 h with rfl | h
        · exact Or.inl rfl
        · exact Or.inr h
      · exact Or.inr h
theorem ins_pair (e : EB) : ∀ l : List EB, l.Pairwise (fun a b => lessB a b = true) → (insE e l).Pairwise (fun a b => lessB a b = true)
  | [], h => by simp [insE]
  | c :: l, h => by
    rw [List.pairwise_cons] at h
    unfold insE
    split
    · rename_i h1
      refine List.Pairwise.cons (fun x hx => ?_) (ins_pair e l h.2)
      rcases ins_mem e l x hx with rfl | hx
      · exact h1
      · exact h.1 x hx
    · split
      · rename_i h1 h2
        refine List.Pairwise.cons (fun x hx => ?_) (List.Pairwise.cons h.1 h.2)
        rcases List.mem_cons.1 hx with rfl | hx
        · exact h2
        · exact lessB_trans h2 (h.1 x hx)
      · exact List.Pairwise.cons h.1 h.2
theorem ins_len (e : EB) : ∀ l : List EB, (insE e l).length ≤ l.length + 1
  | [] => Nat.le_refl _
  | c :: l => by
    unfold insE
    split
    · have := ins_len e l
      simp only [List.length_cons]; omega
    · split <;> simp only [List.length_cons] <;> omega
theorem standing_all : ∀ (l out : List EB), (∀ e ∈ out, rightB e = true) → out.Pairwise (fun a b => lessB a b = true) →
    (∀ e ∈ l.foldl stepS out, rightB e = true) ∧ (l.foldl stepS out).Pairwise (fun a b => lessB a b = true) ∧ (∀ e ∈ l.foldl stepS out, e ∈ out ∨ e ∈ l) ∧ (l.foldl stepS out).length ≤ out.length + l.length
  | [], out, h1, h2 => ⟨h1, h2, fun e h => Or.inl h, Nat.le_refl _⟩
  | x :: l, out, h1, h2 => by
    have hs : (∀ e ∈ stepS out x, rightB e = true) ∧ (stepS out x).Pairwise (fun a b => lessB a b = true) ∧ (∀ e ∈ stepS out x, e ∈ out ∨ e = x) ∧ (stepS out x).length ≤ out.length + 1 := by
      unfold stepS
      split
      · rename_i hr
        refine ⟨fun e he => ?_, ins_pair x out h2, fun e he => (ins_mem x out e he).symm, ins_len x out⟩
        rcases ins_mem x out e he with rfl | he
        · exact hr
        · exact h1 e he
      · exact ⟨h1, h2, fun e he => Or.inl he, by omega⟩
    obtain ⟨a1, a2, a3, a4⟩ := hs
    obtain ⟨b1, b2, b3, b4⟩ := standing_all l (stepS out x) a1 a2
    rw [List.foldl_cons]
    refine ⟨b1, b2, fun e he => ?_, by rw [List.length_cons]; omega⟩
    rcases b3 e he with h | h
    · rcases a3 e h with h | rfl
      · exact Or.inl h
      · exact Or.inr (by simp)
    · exact Or.inr (by simp [h])
theorem standing_stand (l : List EB) : standB (standingB l) = true := by
  obtain ⟨h1, h2, -, -⟩ := standing_all l [] (fun e h => by cases h) List.Pairwise.nil
  exact stand_of _ h1 h2
theorem standing_mem {l : List EB} {e : EB} (h : e ∈ standingB l) : e ∈ l := by
  obtain ⟨-, -, h3, -⟩ := standing_all l [] (fun e h => by cases h) List.Pairwise.nil
  rcases h3 e h with h | h
  · cases h
  · exact h
theorem standing_len (l : List EB) : (standingB l).length ≤ l.length := by
  obtain ⟨-, -, -, h4⟩ := standing_all l [] (fun e h => by cases h) List.Pairwise.nil
  simpa [standingB] using h4

-- where a cite is counted
def recL (e : EB) : List UInt8 := if e.d then [0] else 1 :: e.v.data.toList
def pairL (e : EB) : PR := ⟨innerL e.k.data.toList e.q.toNat, recL e⟩
def pairsL (l : List EB) : List PR := l.map pairL
def keysF (prev : List UInt8) : List EB → List (List UInt8)
  | [] => []
  | e :: l => if e.k.data.toList = prev then keysF prev l else e.k.data.toList :: keysF e.k.data.toList l
def keysL : List EB → List (List UInt8)
  | [] => []
  | e :: l => e.k.data.toList :: keysF e.k.data.toList l
theorem keysF_snoc (e : EB) : ∀ (l : List EB) (a : EB), keysF a.k.data.toList (l ++ [e]) = keysF a.k.data.toList l ++ if e.k.data.toList = ((a :: l).getLast (by simp)).k.data.toList then [] else [e.k.data.toList]
  | [], a => by
    show keysF a.k.data.toList [e] = [] ++ if e.k.data.toList = a.k.data.toList then [] else [e.k.data.toList]
    rw [List.nil_append]
    rfl
  | c :: l, a => by
    rw [List.cons_append, keysF, keysF]
    have e1 : (a :: c :: l).getLast (by simp) = (c :: l).getLast (by simp) := List.getLast_cons (by simp)
    have ih := keysF_snoc e l c
    rw [e1]
    by_cases h : c.k.data.toList = a.k.data.toList
    · rw [if_pos h, if_pos h, ← h, ih]
    · rw [if_neg h, if_neg h, ih, List.cons_append]
theorem keys_snoc (l : List EB) (e : EB) : keysL (l ++ [e]) = keysL l ++ (match l.getLast? with | none => [e.k.data.toList] | some a => if e.k.data.toList = a.k.data.toList then [] else [e.k.data.toList]) := by
  cases l with
  | nil => rfl
  | cons a l =>
    rw [List.cons_append, keysL, keysL, keysF_snoc, List.getLast?_eq_some_getLast (by simp), List.cons_append]
theorem keysF_len : ∀ (l : List EB) (p : List UInt8), (keysF p l).length ≤ l.length
  | [], _ => Nat.le_refl _
  | e :: l, p => by
    unfold keysF
    split
    · have := keysF_len l p; rw [List.length_cons]; omega
    · have := keysF_len l e.k.data.toList; rw [List.length_cons, List.length_cons]; omega
theorem keys_len (l : List EB) : (keysL l).length ≤ l.length := by
  cases l with
  | nil => exact Nat.le_refl _
  | cons e l => have := keysF_len l e.k.data.toList; rw [keysL, List.length_cons, List.length_cons]; omega
theorem keysF_mem : ∀ (l : List EB) (p : List UInt8), ∀ k ∈ keysF p l, ∃ e ∈ l, k = e.k.data.toList
  | [], _, k, h => by cases h
  | e :: l, p, k, h => by
    unfold keysF at h
    split at h
    · obtain ⟨x, hx, hk⟩ := keysF_mem l p k h
      exact ⟨x, by simp [hx], hk⟩
    · rcases List.mem_cons.1 h with rfl | h
      · exact ⟨e, by simp, rfl⟩
      · obtain ⟨x, hx, hk⟩ := keysF_mem l _ k h
        exact ⟨x, by simp [hx], hk⟩
theorem keys_mem {l : List EB} {k : List UInt8} (h : k ∈ keysL l) : ∃ e ∈ l, k = e.k.data.toList := by
  cases l with
  | nil => cases h
  | cons e l =>
    rcases List.mem_cons.1 h with rfl | h
    · exact ⟨e, by simp, rfl⟩
    · obtain ⟨x, hx, hk⟩ := keysF_mem l _ k h
      exact ⟨x, by simp [hx], hk⟩
def citeBytes (c : CT) : List UInt8 := putL c.t ++ putL c.v ++ putL c.n
def footL (l : List EB) : List UInt8 := putL l.length ++ putL (citesB l).length ++ (citesB l).flatMap citeBytes
def rowsErr : List (List PR) → Int
  | [] => 0
  | r :: l => if (buildL r).2 ≠ 0 then (buildL r).2 else rowsErr l
def rowsOf (l : List EB) : List (List PR) := splitF 600 (pairsL l) []
def blocksL (l : List EB) : List (List UInt8) := (rowsOf l).map fun r => (buildL r).1
def fileL (l : List EB) : List UInt8 := framesL (blocksL l ++ [buildF (keysL l), footL l])
def buildT (l : List EB) : List UInt8 × Int :=
  if l = [] ∨ standB l = false then ([], 1) else if 500 < l.length then ([], 11) else if rowsErr (rowsOf l) ≠ 0 then ([], rowsErr (rowsOf l)) else (fileL l, 0)
theorem file_parts (l : List EB) : fileL l = framesL (blocksL l) ++ frameL (buildF (keysL l)) ++ frameL (footL l) := by
  unfold fileL framesL
  rw [List.flatMap_append]
  simp
theorem rows_flat (l : List EB) : (rowsOf l).flatten = pairsL l := by unfold rowsOf; rw [split_join]; rfl
theorem buildT_arg {l : List EB} (h : l = [] ∨ standB l = false) : buildT l = ([], 1) := if_pos h
theorem buildT_many {l : List EB} (h : l ≠ []) (hs : standB l = true) (hl : 500 < l.length) : buildT l = ([], 11) := by
  unfold buildT
  rw [if_neg (by rw [hs]; simp [h]), if_pos hl]
theorem buildT_err {l : List EB} (h : l ≠ []) (hs : standB l = true) (hl : l.length ≤ 500) (he : rowsErr (rowsOf l) ≠ 0) : buildT l = ([], rowsErr (rowsOf l)) := by
  unfold buildT
  rw [if_neg (by rw [hs]; simp [h]), if_neg (by omega), if_pos he]
theorem buildT_ok {l : List EB} (h : l ≠ []) (hs : standB l = true) (hl : l.length ≤ 500) (he : rowsErr (rowsOf l) = 0) : buildT l = (fileL l, 0) := by
  unfold buildT
  rw [if_neg (by rw [hs]; simp [h]), if_neg (by omega), if_neg (by rw [he]; simp)]
theorem err_take : ∀ (R : List (List PR)) (k : Nat), (∀ r ∈ R.take k, (buildL r).2 = 0) → rowsErr R = rowsErr (R.drop k)
  | [], k, _ => by simp
  | r :: R, 0, _ => rfl
  | r :: R, k + 1, h => by
    rw [List.drop_succ_cons, rowsErr, if_neg (by rw [h r (by simp)]; simp)]
    exact err_take R k (fun x hx => h x (by simp [hx]))
theorem err_first {R : List (List PR)} {k : Nat} (h : k < R.length) (hk : ∀ r ∈ R.take k, (buildL r).2 = 0) (he : (buildL R[k]).2 ≠ 0) : rowsErr R = (buildL R[k]).2 := by
  rw [err_take R k hk, List.drop_eq_getElem_cons h, rowsErr, if_pos he]
theorem err_none {R : List (List PR)} (h : ∀ r ∈ R, (buildL r).2 = 0) : rowsErr R = 0 := by
  rw [err_take R R.length (by rw [List.take_length]; exact h), List.drop_length]
  rfl
theorem err_all {R : List (List PR)} (h : rowsErr R = 0) : ∀ r ∈ R, (buildL r).2 = 0 := by
  induction R with
  | nil => intro r hr; cases hr
  | cons x R ih =>
    unfold rowsErr at h
    split at h
    · rename_i h1; exact absurd h h1
    · rename_i h1
      intro r hr
      rcases List.mem_cons.1 hr with rfl | hr
      · exact Decidable.of_not_not h1
      · exact ih h r hr
end Go.Proofs.YteimllgoelleeaaGreatDoor
/- Mathematics of chapter 10, fifth part: what a table is asked: entries between two keys, an entry at a number; no program. -/
namespace Go.Proofs.YteimllgoelleeaaGreatDoor

def inB (f t : List UInt8) (e : EB) : Bool := !(Op.bytesLess e.k.data.toList f) && (t == [] || Op.bytesLess e.k.data.toList t)
def betE (f t : List UInt8) (l : List EB) : List EB := l.filter (inB f t)
def hitB (key : List UInt8) (seq : Int) (e : EB) : Bool := e.k.data.toList == key && decide (e.q ≤ seq)
def getE (key : List UInt8) (seq : Int) (l : List EB) : Option EB := l.find? (hitB key seq)
theorem lessB_key {a b : EB} (h : lessB a b = true) : Op.bytesLess b.k.data.toList a.k.data.toList = false := by
  unfold lessB at h
  rw [Bool.or_eq_true, Bool.and_eq_true, beq_iff_eq] at h
  rcases h with h | ⟨h, _⟩
  · exact less_asymm h
  · rw [h]; exact less_irrefl _
theorem less_le {a b c : List UInt8} (h : Op.bytesLess b a = false) (h' : Op.bytesLess b c = true) : Op.bytesLess a c = true := by
  rcases less_tri a b with e | e | e
  · exact less_trans e h'
  · rw [e]; exact h'
  · rw [h] at e; cases e
theorem bet_all (l : List EB) : betE [] [] l = l := by
  unfold betE
  refine List.filter_eq_self.2 fun e _ => ?_
  unfold inB
  have : Op.bytesLess e.k.data.toList [] = false := by cases e.k.data.toList <;> rfl
  rw [this]; rfl
end Go.Proofs.YteimllgoelleeaaGreatDoor
/- Mathematics of chapter 11: what a memory holds is the standing entries of all that were added, in whatever order; what an Add answers; no program. -/
namespace Go.Proofs.YteimllgoelleeaaGreatDoor

def sameB (a b : EB) : Prop := a.k.data.toList = b.k.data.toList ∧ a.q = b.q
instance (a b : EB) : Decidable (sameB a b) := by unfold sameB; infer_instance
theorem sameB_symm {a b : EB} (h : sameB a b) : sameB b a := ⟨h.1.symm, h.2.symm⟩
theorem less_same_l {a b c : EB} (h : sameB a b) : lessB a c = lessB b c := by unfold lessB; rw [h.1, h.2]
theorem less_same_r {a b c : EB} (h : sameB a b) : lessB c a = lessB c b := by unfold lessB; rw [h.1, h.2]
theorem same_less {a b : EB} (h : sameB a b) : lessB a b = false := by rw [less_same_l h]; exact lessB_irrefl b
theorem less_or (a b : EB) : lessB a b = true ∨ sameB a b ∨ lessB b a = true := by
  cases h : lessB a b with
  | true => exact Or.inl rfl
  | false => cases h' : lessB b a with
    | true => exact Or.inr (Or.inr rfl)
    | false => exact Or.inr (Or.inl (lessB_same h h'))
theorem ins_old {e : EB} : ∀ {l : List EB}, l.Pairwise (fun a b => lessB a b = true) → (∃ c ∈ l, sameB c e) → insE e l = l
  | [], _, ⟨c, hc, _⟩ => by cases hc
  | d :: l, hp, ⟨c, hc, hs⟩ => by
    rw [List.pairwise_cons] at hp
    unfold insE
    rcases List.mem_cons.1 hc with rfl | hc
    · rw [if_neg (by rw [same_less hs]; simp), if_neg (by rw [same_less (sameB_symm hs)]; simp)]
    · have hd : lessB d e = true := by rw [← less_same_r hs]; exact hp.1 c hc
      rw [if_pos hd, ins_old hp.2 ⟨c, hc, hs⟩]
def errM (C : List EB) (e : EB) : Int := if rightB e = false then 1 else if ∃ c ∈ C, sameB c e then 5 else 0
theorem err_arg {C : List EB} {e : EB} (h : rightB e = false) : errM C e = 1 ∧ stepS C e = C := ⟨if_pos h, by unfold stepS; rw [h]; rfl⟩
theorem err_there {C : List EB} {e : EB} (hp : C.Pairwise (fun a b => lessB a b = true)) (h : rightB e = true) (h' : ∃ c ∈ C, sameB c e) : errM C e = 5 ∧ stepS C e = C := by
  refine ⟨?_, ?_⟩
  · unfold errM; rw [if_neg (by rw [h]; simp), if_pos h']
  · unfold stepS; rw [h]; exact ins_old hp h'
theorem err_ok {C : List EB} {e : EB} (h : rightB e = true) (h' : ¬ ∃ c ∈ C, sameB c e) : errM C e = 0 ∧ stepS C e = insE e C := by
  refine ⟨?_, ?_⟩
  · unfold errM; rw [if_neg (by rw [h]; simp), if_neg h']
  · unfold stepS; rw [h]; rfl
theorem standing_pair (l : List EB) : (standingB l).Pairwise (fun a b => lessB a b = true) := stand_pair (standing_stand l)
def sizeM : List EB → Nat
  | [] => 0
  | e :: l => e.k.size + e.v.size + sizeM l
theorem size_le {m : Nat} : ∀ {l : List EB}, (∀ e ∈ l, e.k.size + e.v.size ≤ m) → sizeM l ≤ l.length * m
  | [], _ => by simp [sizeM]
  | e :: l, h => by
    have h1 := h e (by simp)
    have h2 := size_le (l := l) fun x hx => h x (by simp [hx])
    rw [sizeM, List.length_cons, Nat.add_mul]
    omega
end Go.Proofs.YteimllgoelleeaaGreatDoor
/- Mathematics of chapter 10, fourth part: what a table file's bytes tell again; a byte turned; no program. -/
namespace Go.Proofs.YteimllgoelleeaaGreatDoor

theorem ba_ext {a b : ByteArray} (h : a.data.toList = b.data.toList) : a = b := by
  apply ByteArray.ext
  exact Array.toList_inj.1 h
theorem right_parts {e : EB} (h : rightB e = true) : e.k.size ≤ 1200 ∧ 1 ≤ e.q ∧ e.q ≤ 1099511627776 ∧ e.v.size ≤ 25000 ∧ (e.d = true → e.v.size = 0) ∧ (e.d = false → (citeL e.v.data.toList).isSome = true) := by
  unfold rightB at h
  simp only [Bool.and_eq_true, decide_eq_true_iff] at h
  obtain ⟨⟨⟨⟨h1, h2⟩, h3⟩, h4⟩, h5⟩ := h
  refine ⟨h1, h2, h3, h4, fun hd => ?_, fun hd => ?_⟩
  · rw [hd] at h5; simpa using h5
  · rw [hd] at h5; simpa using h5
theorem right_dead {e : EB} (h : rightB e = true) (hd : e.d = true) : e.v = ⟨#[]⟩ := by
  have := (right_parts h).2.2.2.2.1 hd
  exact ByteArray.ext (Array.eq_empty_of_size_eq_zero this)
theorem less_inner {a b : EB} (ha : rightB a = true) (hb : rightB b = true) : Op.bytesLess (pairL a).k (pairL b).k = lessB a b := by
  obtain ⟨-, h1, h2, -⟩ := right_parts ha
  obtain ⟨-, h3, h4, -⟩ := right_parts hb
  show Op.bytesLess (innerL a.k.data.toList a.q.toNat) (innerL b.k.data.toList b.q.toNat) = _
  rw [inner_less (by omega) (by omega)]
  unfold lessB
  congr 2
  by_cases h : b.q < a.q
  · rw [decide_eq_true h, decide_eq_true (by omega)]
  · rw [decide_eq_false h, decide_eq_false (by omega)]
theorem pairs_less {l : List EB} (h : standB l = true) : (pairsL l).Pairwise (fun p q => Op.bytesLess p.k q.k = true) := by
  have hr := stand_right h
  have hp := stand_pair h
  unfold pairsL
  rw [List.pairwise_map]
  refine List.Pairwise.imp_of_mem (fun {a b} ha hb hab => ?_) hp
  rw [less_inner (hr a ha) (hr b hb)]; exact hab
theorem incF_of : ∀ (L : List PR) (prev : List UInt8), (∀ p ∈ L, Op.bytesLess prev p.k = true) → L.Pairwise (fun p q => Op.bytesLess p.k q.k = true) → incF prev L = true
  | [], _, _, _ => rfl
  | p :: L, prev, h, hp => by
    rw [List.pairwise_cons] at hp
    unfold incF
    rw [h p (by simp), Bool.true_and]
    exact incF_of L p.k hp.1 hp.2
theorem incB_of {L : List PR} (hp : L.Pairwise (fun p q => Op.bytesLess p.k q.k = true)) : incB L = true := by
  cases L with
  | nil => rfl
  | cons p L =>
    rw [List.pairwise_cons] at hp
    exact incF_of L p.k hp.1 hp.2
theorem rows_inc {l : List EB} (h : standB l = true) : ∀ r ∈ rowsOf l, incB r = true := by
  intro r hr
  refine incB_of ?_
  have hp := pairs_less h
  rw [← rows_flat, List.pairwise_flatten] at hp
  exact hp.1 r hr
theorem build_err2 {L : List PR} (h : incB L = true) : (buildL L).2 = 0 ∨ (buildL L).2 = 10 := by
  unfold buildL
  rw [if_neg (by rw [h]; simp)]
  split
  · exact Or.inr rfl
  · exact Or.inl rfl
theorem rows_err {l : List EB} (h : standB l = true) : rowsErr (rowsOf l) = 0 ∨ rowsErr (rowsOf l) = 10 := by
  have hi := rows_inc h
  generalize rowsOf l = R at hi
  induction R with
  | nil => exact Or.inl rfl
  | cons r R ih =>
    unfold rowsErr
    split
    · rcases build_err2 (hi r (by simp)) with h1 | h1
      · exact Or.inl h1
      · exact Or.inr h1
    · exact ih (fun x hx => hi x (by simp [hx]))
theorem pair_small {e : EB} (h : rightB e = true) : (pairL e).k.length ≤ 2410 ∧ (pairL e).v.length ≤ 25001 := by
  obtain ⟨h1, -, -, h4, -, -⟩ := right_parts h
  have hk := (esc_len e.k.data.toList).2
  have e1 : e.k.data.toList.length = e.k.size := rfl
  have e2 : e.v.data.toList.length = e.v.size := rfl
  constructor
  · show (innerL e.k.data.toList e.q.toNat).length ≤ _
    rw [inner_len]; omega
  · show (recL e).length ≤ _
    unfold recL
    split
    · simp
    · rw [List.length_cons]; omega
theorem rows_small {l : List EB} (h : standB l = true) : ∀ r ∈ rowsOf l, ∀ p ∈ r, p.k.length ≤ 2410 ∧ p.v.length ≤ 25001 := by
  intro r hr p hp
  have hm : p ∈ (rowsOf l).flatten := List.mem_flatten.2 ⟨r, hr, hp⟩
  rw [rows_flat] at hm
  obtain ⟨e, he, rfl⟩ := List.mem_map.1 hm
  exact pair_small (stand_right h e he)
theorem block_read {l : List EB} (h : standB l = true) (he : rowsErr (rowsOf l) = 0) : ∀ r ∈ rowsOf l, readL (buildL r).1 = some r ∧ (buildL r).1.length ≤ 40000 := by
  intro r hr
  have h0 := err_all he r hr
  obtain ⟨s, hs⟩ : ∃ s, s = (buildL r).1 := ⟨_, rfl⟩
  have hb : buildL r = (s, 0) := by rw [hs, ← h0]
  obtain ⟨h1, h2, h3⟩ := build_ok hb
  rw [← hs, ← h2]
  refine ⟨read_build r (fun p hp => ?_) h1, by rw [h2]; exact h3⟩
  have := rows_small h r hr p hp
  omega
theorem foot_len {l : List EB} (hl : l.length ≤ 500) : (footL l).length ≤ 40000 := by
  have h1 := put_le9 l.length
  have h2 := put_le9 (citesB l).length
  have h3 := cites_len l
  have h4 : ∀ c : List CT, (c.flatMap citeBytes).length ≤ 27 * c.length := by
    intro c
    induction c with
    | nil => simp
    | cons x c ih =>
      rw [List.flatMap_cons, List.length_append, List.length_cons]
      have : (citeBytes x).length ≤ 27 := by
        unfold citeBytes
        rw [List.length_append, List.length_append]
        have a := put_le9 x.t
        have b := put_le9 x.v
        have c := put_le9 x.n
        omega
      omega
  have h5 := h4 (citesB l)
  unfold footL
  rw [List.length_append, List.length_append]
  omega
theorem filter_len {l : List EB} (hl : l.length ≤ 500) : (buildF (keysL l)).length ≤ 40000 := by
  by_cases h : keysL l = []
  · rw [h]; simp [buildF]
  · rw [build_len h]
    have := keys_len l
    unfold sizeF
    omega
theorem file_frames {l : List EB} (h : standB l = true) (hl : l.length ≤ 500) (he : rowsErr (rowsOf l) = 0) : ∀ t ∈ blocksL l ++ [buildF (keysL l), footL l], t.length ≤ 40000 := by
  intro t ht
  rcases List.mem_append.1 ht with ht | ht
  · obtain ⟨r, hr, rfl⟩ := List.mem_map.1 ht
    exact (block_read h he r hr).2
  · simp only [List.mem_cons, List.not_mem_nil, or_false] at ht
    rcases ht with rfl | rfl
    · exact filter_len hl
    · exact foot_len hl
theorem scan_file {l : List EB} (h : standB l = true) (hl : l.length ≤ 500) (he : rowsErr (rowsOf l) = 0) : scanL (fileL l) = (blocksL l ++ [buildF (keysL l), footL l], (fileL l).length, 0) := by
  have := scan_frames (blocksL l ++ [buildF (keysL l), footL l]) [] (file_frames h hl he)
  rw [List.append_nil, scan_nil] at this
  unfold fileL
  rw [this]
  simp
theorem rows_not_nil {l : List EB} (h : l ≠ []) : rowsOf l ≠ [] := fun e => by
  have := rows_flat l
  rw [e] at this
  have : pairsL l = [] := this.symm
  exact h (List.map_eq_nil_iff.1 this)
end Go.Proofs.YteimllgoelleeaaGreatDoor
/- Mathematics of chapter 10, seventh part: how long a small file is; which entry a row's pair is of; where a search stops; no program. -/
namespace Go.Proofs.YteimllgoelleeaaGreatDoor

def pszF (L : List PR) : Nat := (L.map fun p => 27 + p.k.length + p.v.length).sum
theorem psz_cons (p : PR) (L : List PR) : pszF (p :: L) = 27 + p.k.length + p.v.length + pszF L := by unfold pszF; rw [List.map_cons, List.sum_cons]
theorem psz_app (L M : List PR) : pszF (L ++ M) = pszF L + pszF M := by unfold pszF; rw [List.map_append, List.sum_append]
theorem enc_psz : ∀ (L : List PR) (prev : List UInt8), (encL prev L).length ≤ pszF L
  | [], _ => by simp [encL]
  | p :: L, prev => by
    rw [encL, List.length_append, psz_cons]
    have h1 := one_le prev p
    have h2 := enc_psz L p.k
    omega
theorem build_psz (L : List PR) : (buildL L).1.length ≤ pszF L := by
  unfold buildL
  split
  · simp
  · split
    · simp
    · exact enc_psz L []
theorem frames_psz : ∀ R : List (List PR), (framesL (R.map fun r => (buildL r).1)).length ≤ 13 * R.length + pszF R.flatten
  | [] => by simp [framesL]
  | r :: R => by
    have ih := frames_psz R
    have h1 := build_psz r
    have h2 := frame_len (buildL r).1
    have h3 := szN_le (buildL r).1.length
    unfold framesL at ih ⊢
    rw [List.map_cons, List.flatMap_cons, List.length_append, List.flatten_cons, psz_app, List.length_cons]
    omega
theorem psz_le {m : Nat} : ∀ L : List PR, (∀ p ∈ L, p.k.length + p.v.length ≤ m) → pszF L ≤ (27 + m) * L.length
  | [], _ => by simp [pszF]
  | p :: L, h => by
    have ih := psz_le L (fun x hx => h x (by simp [hx]))
    have := h p (by simp)
    rw [psz_cons, List.length_cons, Nat.mul_add]
    omega
theorem file_small {L : List EB} (hs : standB L = true) (hl : L.length ≤ 100) (hv : ∀ e ∈ L, e.v.size ≤ 2000) : (fileL L).length ≤ 1000000 := by
  rw [file_parts, List.length_append, List.length_append]
  have h1 := frames_psz (rowsOf L)
  rw [rows_flat] at h1
  have h2 := psz_le (m := 4411) (pairsL L) (fun p hp => by
    obtain ⟨e, he, rfl⟩ := List.mem_map.1 hp
    have hr := stand_right hs e he
    have h3 := (pair_small hr).1
    have h4 : (pairL e).v.length ≤ 2001 := by
      show (recL e).length ≤ 2001
      unfold recL
      have h5 := hv e he
      have h6 : e.v.data.toList.length = e.v.size := rfl
      split
      · simp
      · rw [List.length_cons]; omega
    omega)
  have h3 : (pairsL L).length = L.length := List.length_map ..
  have h4 : (rowsOf L).length ≤ L.length + 1 := by
    unfold rowsOf
    have := split_len 600 (pairsL L) []
    omega
  have h5 := filter_len (l := L) (by omega)
  have h6 := foot_len (l := L) (by omega)
  have h7 := frame_len (buildF (keysL L))
  have h8 := frame_len (footL L)
  have h9 := szN_le (buildF (keysL L)).length
  have h10 := szN_le (footL L).length
  have h11 : framesL (blocksL L) = framesL ((rowsOf L).map fun r => (buildL r).1) := rfl
  rw [h11]
  rw [h3] at h2
  have h12 : (27 + 4411) * L.length ≤ (27 + 4411) * 100 := Nat.mul_le_mul_left _ hl
  omega

-- rows and entries
def upN (L : List EB) (k : Nat) : Nat := ((rowsOf L).take k).flatten.length
theorem up_zero (L : List EB) : upN L 0 = 0 := rfl
theorem up_next {L : List EB} {k : Nat} (h : k < (rowsOf L).length) : upN L (k + 1) = upN L k + (rowsOf L)[k].length := by
  unfold upN
  rw [List.take_add_one, List.getElem?_eq_getElem h, Option.toList_some, List.flatten_append, List.length_append]
  simp
theorem up_all (L : List EB) : upN L (rowsOf L).length = L.length := by
  unfold upN
  rw [List.take_length, rows_flat]
  exact List.length_map ..
theorem up_pair {L : List EB} {k j : Nat} (h : k < (rowsOf L).length) (hj : j < (rowsOf L)[k].length) : ∃ hl : upN L k + j < L.length, (rowsOf L)[k][j] = pairL L[upN L k + j] := by
  have e : (rowsOf L).flatten = ((rowsOf L).take k).flatten ++ ((rowsOf L)[k] ++ ((rowsOf L).drop (k + 1)).flatten) := by
    conv => lhs; rw [← List.take_append_drop k (rowsOf L), List.drop_eq_getElem_cons h]
    rw [List.flatten_append, List.flatten_cons]
  rw [rows_flat] at e
  have hlen : (pairsL L).length = L.length := List.length_map ..
  have hl : upN L k + j < L.length := by
    have := congrArg List.length e
    rw [hlen, List.length_append, List.length_append] at this
    unfold upN; omega
  refine ⟨hl, ?_⟩
  have h1 : (pairsL L)[upN L k + j]? = some (pairL L[upN L k + j]) := by
    unfold pairsL
    rw [List.getElem?_map, List.getElem?_eq_getElem hl]; rfl
  have h2 : (pairsL L)[upN L k + j]? = some (rowsOf L)[k][j] := by
    rw [e, List.getElem?_append_right (by unfold upN; omega)]
    rw [show upN L k + j - ((rowsOf L).take k).flatten.length = j by unfold upN; omega]
    rw [List.getElem?_append_left hj, List.getElem?_eq_getElem hj]
  rw [h1] at h2
  exact (Option.some.inj h2).symm

-- where a search stops
theorem get_at {L : List EB} (hp : L.Pairwise (fun a b => lessB a b = true)) (key : ByteArray) (q : Int) (i : Nat) (hi : i ≤ L.length)
    (h1 : ∀ j (h : j < L.length), j < i → lessB L[j] ⟨key, q, false, ⟨#[]⟩⟩ = true) (h2 : ∀ h : i < L.length, lessB L[i] ⟨key, q, false, ⟨#[]⟩⟩ = false) :
    getE key.data.toList q L = if h : i < L.length then (if L[i].k = key then some L[i] else none) else none := by
  unfold getE
  have hno : ∀ j (h : j < L.length), j < i → hitB key.data.toList q L[j] = false := fun j h hj => by
    have := h1 j h hj
    unfold lessB at this
    unfold hitB
    rw [Bool.or_eq_true, Bool.and_eq_true, beq_iff_eq, decide_eq_true_iff] at this
    rw [Bool.and_eq_false_iff]
    rcases this with g | ⟨g, g'⟩
    · refine Or.inl ?_
      rw [beq_eq_false_iff_ne]
      intro e; rw [e] at g; rw [less_irrefl] at g; cases g
    · exact Or.inr (decide_eq_false (by simp only at g'; omega))
  by_cases hl : i < L.length
  · rw [dif_pos hl]
    have hs : L = L.take i ++ L[i] :: L.drop (i + 1) := by rw [List.getElem_cons_drop hl, List.take_append_drop]
    have h3 := h2 hl
    unfold lessB at h3
    rw [Bool.or_eq_false_iff, Bool.and_eq_false_iff] at h3
    obtain ⟨g1, g2⟩ := h3
    have hfront : (L.take i).find? (hitB key.data.toList q) = none := by
      rw [List.find?_eq_none]
      intro x hx
      obtain ⟨j, hj, rfl⟩ := List.mem_iff_getElem.1 hx
      rw [List.length_take] at hj
      rw [List.getElem_take]
      rw [hno j (by omega) (by omega)]; simp
    have e : L.find? (hitB key.data.toList q) = (L[i] :: L.drop (i + 1)).find? (hitB key.data.toList q) := by
      conv => lhs; rw [hs]
      rw [List.find?_append, hfront, Option.none_or]
    rw [e]
    by_cases hk : L[i].k = key
    · rw [if_pos hk, List.find?_cons]
      have : hitB key.data.toList q L[i] = true := by
        unfold hitB
        rw [hk]
        rw [hk] at g2
        simp at g2 ⊢
        exact g2
      rw [this]
    · rw [if_neg hk]
      rw [List.find?_eq_none]
      have hgt : Op.bytesLess key.data.toList L[i].k.data.toList = true := by
        rcases less_tri key.data.toList L[i].k.data.toList with g | g | g
        · exact g
        · exact absurd (ba_ext g.symm) hk
        · rw [g1] at g; cases g
      intro x hx
      have hnx : x.k.data.toList ≠ key.data.toList := by
        rcases List.mem_cons.1 hx with rfl | hx
        · intro e9; rw [e9, less_irrefl] at hgt; cases hgt
        · have hpw : lessB L[i] x = true := by
            rw [hs, List.pairwise_append] at hp
            exact (List.pairwise_cons.1 hp.2.1).1 x hx
          have := lessB_key hpw
          intro e9
          rw [e9] at this
          rw [this] at hgt; cases hgt
      unfold hitB
      rw [beq_eq_false_iff_ne.2 hnx]; simp
  · rw [dif_neg hl, List.find?_eq_none]
    intro x hx
    obtain ⟨j, hj, rfl⟩ := List.mem_iff_getElem.1 hx
    rw [hno j hj (by omega)]; simp
theorem filter_all_false {α : Type} {p : α → Bool} {l : List α} (h : ∀ x ∈ l, p x = false) : l.filter p = [] := List.filter_eq_nil_iff.2 fun x hx => by rw [h x hx]; simp
theorem bet_at {L : List EB} (f t : ByteArray) (b e : Nat) (hb : b ≤ L.length) (he : e ≤ L.length)
    (h1 : ∀ j (h : j < L.length), j < b → Op.bytesLess L[j].k.data.toList f.data.toList = true) (h2 : ∀ j (h : j < L.length), b ≤ j → Op.bytesLess L[j].k.data.toList f.data.toList = false)
    (ht : (t.data.toList = [] ∧ e = L.length) ∨ (t.data.toList ≠ [] ∧ (∀ j (h : j < L.length), j < e → Op.bytesLess L[j].k.data.toList t.data.toList = true) ∧ (∀ j (h : j < L.length), e ≤ j → Op.bytesLess L[j].k.data.toList t.data.toList = false))) :
    betE f.data.toList t.data.toList L = (L.drop b).take (max b e - b) := by
  have hin : ∀ j (h : j < L.length), inB f.data.toList t.data.toList L[j] = decide (b ≤ j ∧ j < e) := fun j h => by
    unfold inB
    have ef : (!(Op.bytesLess L[j].k.data.toList f.data.toList)) = decide (b ≤ j) := by
      by_cases hj : b ≤ j
      · rw [h2 j h hj, decide_eq_true hj]; rfl
      · rw [h1 j h (by omega), decide_eq_false hj]; rfl
    have et : ((t.data.toList == []) || Op.bytesLess L[j].k.data.toList t.data.toList) = decide (j < e) := by
      rcases ht with ⟨g1, g2⟩ | ⟨g1, g2, g3⟩
      · rw [g1, g2, decide_eq_true h]; simp
      · rw [beq_eq_false_iff_ne.2 g1, Bool.false_or]
        by_cases hj : j < e
        · rw [g2 j h hj, decide_eq_true hj]
        · rw [g3 j h (by omega), decide_eq_false hj]
    rw [ef, et]
    simp [Bool.decide_and]
  unfold betE
  have hs : L = L.take b ++ ((L.drop b).take (max b e - b) ++ (L.drop b).drop (max b e - b)) := by rw [List.take_append_drop, List.take_append_drop]
  have p1 : (L.take b).filter (inB f.data.toList t.data.toList) = [] := filter_all_false fun x hx => by
    obtain ⟨j, hj, rfl⟩ := List.mem_iff_getElem.1 hx
    rw [List.length_take] at hj
    rw [List.getElem_take, hin j (by omega), decide_eq_false (by omega)]
  have p3 : ((L.drop b).drop (max b e - b)).filter (inB f.data.toList t.data.toList) = [] := filter_all_false fun x hx => by
    rw [List.drop_drop] at hx
    obtain ⟨j, hj, rfl⟩ := List.mem_iff_getElem.1 hx
    rw [List.length_drop] at hj
    rw [List.getElem_drop, hin _ (by omega), decide_eq_false (by omega)]
  have p2 : ((L.drop b).take (max b e - b)).filter (inB f.data.toList t.data.toList) = (L.drop b).take (max b e - b) := List.filter_eq_self.2 fun x hx => by
    obtain ⟨j, hj, rfl⟩ := List.mem_iff_getElem.1 hx
    rw [List.length_take, List.length_drop] at hj
    rw [List.getElem_take, List.getElem_drop, hin _ (by omega), decide_eq_true (by omega)]
  conv => lhs; rw [hs]
  rw [List.filter_append, List.filter_append, p1, p2, p3]
  simp
end Go.Proofs.YteimllgoelleeaaGreatDoor
/- Mathematics for a memory that is a tree: what stands left of an entry, the entry, and what stands right of it; no program. -/
namespace Go.Proofs.YteimllgoelleeaaGreatDoor

theorem size_app : ∀ (l m : List EB), sizeM (l ++ m) = sizeM l + sizeM m
  | [], m => by simp [sizeM]
  | c :: l, m => by rw [List.cons_append, sizeM, sizeM, size_app l m]; omega
end Go.Proofs.YteimllgoelleeaaGreatDoor
