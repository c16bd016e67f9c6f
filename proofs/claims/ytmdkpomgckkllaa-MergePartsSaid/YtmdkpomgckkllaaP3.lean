/- TEnt, TFile, TAsk, MMath, GMath, GMath2, TBack, GBoth, laid together. -/
import Derived.Test.YtmdkpomgckkllaaP1
import Derived.Test.YtmdkpomgckkllaaP2
set_option linter.unusedSimpArgs false
set_option linter.unusedVariables false
/- Mathematics of chapter 10, second part: entries (EB), what data cite, which entries are right and how they stand, cites, a table file; no program. -/
namespace Go.Proofs.Ytmdkpomgckkllaa

structure EB where
  k : ByteArray
  q : Int
  d : Bool
  v : ByteArray
/-- Entries as they lie in Go: each number within 64 bits, no text too long. -/
def EB.fits (e : EB) : Prop := e.k.size ≤ 9223372036854775807 ∧ -9223372036854775808 ≤ e.q ∧ e.q ≤ 9223372036854775807 ∧ e.v.size ≤ 9223372036854775807

def lessB (a b : EB) : Bool := Op.bytesLess a.k.data.toList b.k.data.toList || (a.k.data.toList == b.k.data.toList && decide (b.q < a.q))
theorem lessB_irrefl (a : EB) : lessB a a = false := by
  unfold lessB
  rw [less_irrefl]
  simp
theorem lessB_trans {a b c : EB} (h : lessB a b = true) (h' : lessB b c = true) : lessB a c = true := by
  unfold lessB at h h' ⊢
  rw [Bool.or_eq_true, Bool.and_eq_true, beq_iff_eq, decide_eq_true_iff] at h h' ⊢
  rcases h with h | ⟨h1, h2⟩
  · rcases h' with h' | ⟨h3, h4⟩
    · exact Or.inl (less_trans h h')
    · exact Or.inl (by rw [← h3]; exact h)
  · rcases h' with h' | ⟨h3, h4⟩
    · exact Or.inl (by rw [h1]; exact h')
    · exact Or.inr ⟨h1.trans h3, by omega⟩
theorem lessB_asymm {a b : EB} (h : lessB a b = true) : lessB b a = false := by
  cases h' : lessB b a with
  | false => rfl
  | true => have := lessB_trans h h'; rw [lessB_irrefl] at this; cases this
/-- Entries of which neither stands ahead of the other have one key and one number. -/
theorem lessB_same {a b : EB} (h : lessB a b = false) (h' : lessB b a = false) : a.k.data.toList = b.k.data.toList ∧ a.q = b.q := by
  unfold lessB at h h'
  rw [Bool.or_eq_false_iff, Bool.and_eq_false_iff] at h h'
  obtain ⟨h1, h2⟩ := h
  obtain ⟨h3, h4⟩ := h'
  have hk : a.k.data.toList = b.k.data.toList := by
    rcases less_tri a.k.data.toList b.k.data.toList with e | e | e
    · rw [h1] at e; cases e
    · exact e
    · rw [h3] at e; cases e
  rw [hk] at h2 h4
  have e2 : (b.k.data.toList == b.k.data.toList) = true := beq_self_eq_true _
  rw [e2] at h2 h4
  have h5 : ¬ b.q < a.q := by
    rcases h2 with h | h
    · cases h
    · exact of_decide_eq_false h
  have h6 : ¬ a.q < b.q := by
    rcases h4 with h | h
    · cases h
    · exact of_decide_eq_false h
  exact ⟨hk, by omega⟩
structure CT where
  t : Nat
  v : Nat
  n : Nat
end Go.Proofs.Ytmdkpomgckkllaa
/- Mathematics of chapter 10, third part: where an entry is put in, where a cite is counted, the table file's bytes, and what they are made of; no program. -/
namespace Go.Proofs.Ytmdkpomgckkllaa

-- an entry put where it belongs
def insE (e : EB) : List EB → List EB
  | [] => [e]
  | c :: l => if lessB c e = true then c :: insE e l else if lessB e c = true then e :: c :: l else c :: l
theorem ins_mem (e : EB) : ∀ (l : List EB) (x : EB), x ∈ insE e l → x = e ∨ x ∈ l
  | [], x, h => by simp [insE] at h; exact Or.inl h
  | c :: l, x, h => by
    unfold insE at h
    split at h
    · rcases List.mem_cons.1 h with rfl | h
      · exact Or.inr (by simp)
      · rcases ins_mem e l x h with h | h
        · exact Or.inl h
        · exact Or.inr (by simp [h])
    · split at h
      · rcases List.mem_cons.1 h with rfl | h
        · exact Or.inl rfl
        · exact Or.inr h
      · exact Or.inr h
theorem ins_pair (e : EB) : ∀ l : List EB, l.Pairwise (fun a b => lessB a b = true) → (insE e l).Pairwise (fun a b => lessB a b = true)
  | [], h => by simp [insE]
  | c :: l, h => by
    rw [List.pairwise_cons] at h
    unfold insE
    split
    · rename_i h1
      refine List.Pairwise.cons (fun x hx => ?_) (ins_pair e l h.2)
      rcases ins_mem e l x hx with rfl | hx
      · exact h1
      · exact h.1 x hx
    · split
      · rename_i h1 h2
        refine List.Pairwise.cons (fun x hx => ?_) (List.Pairwise.cons h.1 h.2)
        rcases List.mem_cons.1 hx with rfl | hx
        · exact h2
        · exact lessB_trans h2 (h.1 x hx)
      · exact List.Pairwise.cons h.1 h.2
theorem ins_len (e : EB) : ∀ l : List EB, (insE e l).length ≤ l.length + 1
  | [] => Nat.le_refl _
  | c :: l => by
    unfold insE
    split
    · have := ins_len e l
      simp only [List.length_cons]; omega
    · split <;> simp only [List.length_cons] <;> omega
/-- The same by the place: the first one that is not less. -/
theorem ins_at (e : EB) : ∀ (l : List EB) (k : Nat), k ≤ l.length → (∀ j (h : j < l.length), j < k → lessB l[j] e = true) → (∀ h : k < l.length, lessB l[k] e = false) →
    insE e l = if k = l.length ∨ (∃ h : k < l.length, lessB e l[k] = true) then l.take k ++ e :: l.drop k else l
  | [], k, hk, h1, h2 => by
    obtain rfl : k = 0 := by simpa using hk
    simp [insE]
  | c :: l, 0, hk, h1, h2 => by
    have hc : lessB c e = false := h2 (by simp)
    unfold insE
    rw [if_neg (by rw [hc]; simp)]
    by_cases he : lessB e c = true
    · rw [if_pos he, if_pos (Or.inr ⟨by simp, he⟩)]; rfl
    · rw [if_neg he, if_neg]
      rintro (h | ⟨_, h⟩)
      · simp at h
      · exact he h
  | c :: l, k + 1, hk, h1, h2 => by
    have hc : lessB c e = true := h1 0 (by simp) (by omega)
    unfold insE
    rw [if_pos hc, ins_at e l k (by simpa using hk) (fun j hj hjk => h1 (j + 1) (by simpa using hj) (by omega)) (fun h => h2 (by simpa using h))]
    by_cases hh : k = l.length ∨ (∃ h : k < l.length, lessB e l[k] = true)
    · rw [if_pos hh, if_pos]
      · rfl
      · rcases hh with h | ⟨h, h'⟩
        · exact Or.inl (by simp [h])
        · exact Or.inr ⟨by simpa using h, h'⟩
    · rw [if_neg hh, if_neg]
      rintro (h | ⟨h, h'⟩)
      · exact hh (Or.inl (by simpa using h))
      · exact hh (Or.inr ⟨by simpa using h, h'⟩)
end Go.Proofs.Ytmdkpomgckkllaa
/- Mathematics of chapter 10, fifth part: what a table is asked: entries between two keys, an entry at a number; no program. -/
namespace Go.Proofs.Ytmdkpomgckkllaa

end Go.Proofs.Ytmdkpomgckkllaa
/- Mathematics of chapter 11: what a memory holds is the standing entries of all that were added, in whatever order; what an Add answers; no program. -/
namespace Go.Proofs.Ytmdkpomgckkllaa

/-- Of one key and one number. -/
def sameB (a b : EB) : Prop := a.k.data.toList = b.k.data.toList ∧ a.q = b.q
instance (a b : EB) : Decidable (sameB a b) := by unfold sameB; infer_instance
theorem sameB_symm {a b : EB} (h : sameB a b) : sameB b a := ⟨h.1.symm, h.2.symm⟩
theorem sameB_trans {a b c : EB} (h : sameB a b) (h' : sameB b c) : sameB a c := ⟨h.1.trans h'.1, h.2.trans h'.2⟩
theorem less_same_l {a b c : EB} (h : sameB a b) : lessB a c = lessB b c := by unfold lessB; rw [h.1, h.2]
theorem less_same_r {a b c : EB} (h : sameB a b) : lessB c a = lessB c b := by unfold lessB; rw [h.1, h.2]
theorem same_less {a b : EB} (h : sameB a b) : lessB a b = false := by rw [less_same_l h]; exact lessB_irrefl b
theorem less_or (a b : EB) : lessB a b = true ∨ sameB a b ∨ lessB b a = true := by
  cases h : lessB a b with
  | true => exact Or.inl rfl
  | false => cases h' : lessB b a with
    | true => exact Or.inr (Or.inr rfl)
    | false => exact Or.inr (Or.inl (lessB_same h h'))
/-- An entry of a key and a number that are there already is not put in. -/
theorem ins_old {e : EB} : ∀ {l : List EB}, l.Pairwise (fun a b => lessB a b = true) → (∃ c ∈ l, sameB c e) → insE e l = l
  | [], _, ⟨c, hc, _⟩ => by cases hc
  | d :: l, hp, ⟨c, hc, hs⟩ => by
    rw [List.pairwise_cons] at hp
    unfold insE
    rcases List.mem_cons.1 hc with rfl | hc
    · rw [if_neg (by rw [same_less hs]; simp), if_neg (by rw [same_less (sameB_symm hs)]; simp)]
    · have hd : lessB d e = true := by rw [← less_same_r hs]; exact hp.1 c hc
      rw [if_pos hd, ins_old hp.2 ⟨c, hc, hs⟩]
/-- Another one is. -/
theorem ins_new {e : EB} : ∀ {l : List EB}, (∀ c ∈ l, ¬ sameB c e) → (insE e l).length = l.length + 1 ∧ (∀ x, x ∈ insE e l ↔ x = e ∨ x ∈ l)
  | [], _ => ⟨rfl, fun x => by simp [insE]⟩
  | d :: l, h => by
    have hd := h d (by simp)
    unfold insE
    rcases less_or d e with h1 | h1 | h1
    · obtain ⟨i1, i2⟩ := ins_new (e := e) (l := l) (fun c hc => h c (by simp [hc]))
      rw [if_pos h1]
      refine ⟨by rw [List.length_cons, List.length_cons, i1], fun x => ?_⟩
      rw [List.mem_cons, List.mem_cons, i2]
      constructor
      · rintro (h | h | h)
        · exact Or.inr (Or.inl h)
        · exact Or.inl h
        · exact Or.inr (Or.inr h)
      · rintro (h | h | h)
        · exact Or.inr (Or.inl h)
        · exact Or.inl h
        · exact Or.inr (Or.inr h)
    · exact absurd h1 hd
    · rw [if_neg (by rw [lessB_asymm h1]; simp), if_pos h1]
      exact ⟨rfl, fun x => by rw [List.mem_cons]⟩
/-- Lists that stand, of the same entries, are one. -/
theorem pair_eq : ∀ {l m : List EB}, l.Pairwise (fun a b => lessB a b = true) → m.Pairwise (fun a b => lessB a b = true) → (∀ x, x ∈ l ↔ x ∈ m) → l = m
  | [], [], _, _, _ => rfl
  | [], d :: m, _, _, h => by have := (h d).2 (by simp); cases this
  | c :: l, [], _, _, h => by have := (h c).1 (by simp); cases this
  | c :: l, d :: m, hl, hm, h => by
    rw [List.pairwise_cons] at hl hm
    have hcd : c = d := by
      rcases List.mem_cons.1 ((h c).1 (by simp)) with e | e
      · exact e
      · rcases List.mem_cons.1 ((h d).2 (by simp)) with e' | e'
        · exact e'.symm
        · have h1 := hm.1 c e
          rw [lessB_asymm (hl.1 d e')] at h1
          cases h1
    subst hcd
    rw [pair_eq hl.2 hm.2 fun x => ?_]
    constructor
    · intro hx
      rcases List.mem_cons.1 ((h x).1 (by simp [hx])) with e | e
      · subst e
        have := hl.1 _ hx
        rw [lessB_irrefl] at this; cases this
      · exact e
    · intro hx
      rcases List.mem_cons.1 ((h x).2 (by simp [hx])) with e | e
      · subst e
        have := hm.1 _ hx
        rw [lessB_irrefl] at this; cases this
      · exact e
end Go.Proofs.Ytmdkpomgckkllaa
/- Mathematics of chapter 12: entries merged, what is seen of them at a number, what is needed of them; no program. -/
namespace Go.Proofs.Ytmdkpomgckkllaa

abbrev Srt (l : List EB) : Prop := l.Pairwise (fun a b => lessB a b = true)
def mergeB (l : List EB) : List EB := l.foldl (fun out e => insE e out) []
/-- Of a sorted list two of one key and number are one. -/
theorem srt_alone {l : List EB} (h : Srt l) {a b : EB} (ha : a ∈ l) (hb : b ∈ l) (hs : sameB a b) : a = b := by
  induction l with
  | nil => cases ha
  | cons c l ih =>
    rw [Srt, List.pairwise_cons] at h
    rcases List.mem_cons.1 ha with ea | ha'
    · rcases List.mem_cons.1 hb with eb | hb'
      · rw [ea, eb]
      · have := h.1 b hb'; rw [← ea, same_less hs] at this; cases this
    · rcases List.mem_cons.1 hb with eb | hb'
      · have := h.1 a ha'; rw [← eb, same_less (sameB_symm hs)] at this; cases this
      · exact ih h.2 ha' hb'
theorem fold_pair : ∀ (l out : List EB), Srt out → Srt (l.foldl (fun out e => insE e out) out)
  | [], _, h => h
  | x :: l, out, h => fold_pair l _ (ins_pair x out h)
theorem merge_pair (l : List EB) : Srt (mergeB l) := fold_pair l [] List.Pairwise.nil
def sameP (e c : EB) : Bool := decide (sameB c e)
theorem fold_find (e : EB) : ∀ (l out : List EB), Srt out → (e ∈ l.foldl (fun out e => insE e out) out ↔ e ∈ out ∨ ((∀ c ∈ out, ¬ sameB c e) ∧ l.find? (sameP e) = some e))
  | [], out, _ => by simp
  | x :: l, out, h => by
    rw [List.foldl_cons, fold_find e l _ (ins_pair x out h)]
    by_cases hh : ∃ c ∈ out, sameB c x
    · rw [ins_old h hh]
      obtain ⟨c, hc, hs⟩ := hh
      by_cases hx : sameB x e
      · have hno : ¬ ∀ c ∈ out, ¬ sameB c e := fun h2 => h2 c hc (sameB_trans hs hx)
        simp [hno]
      · rw [List.find?_cons_of_neg (by unfold sameP; simpa using hx)]
    · have hm := (ins_new (e := x) (l := out) (fun c hc hs => hh ⟨c, hc, hs⟩)).2
      by_cases hx : sameB x e
      · rw [List.find?_cons_of_pos (by unfold sameP; simpa using hx)]
        constructor
        · rintro (h1 | ⟨h1, -⟩)
          · rcases (hm e).1 h1 with rfl | h1
            · exact .inr ⟨fun c hc hs => hh ⟨c, hc, hs⟩, rfl⟩
            · exact .inl h1
          · exact absurd hx (h1 x ((hm x).2 (.inl rfl)))
        · rintro (h1 | ⟨h1, h2⟩)
          · exact .inl ((hm e).2 (.inr h1))
          · injection h2 with h2
            exact .inl ((hm e).2 (.inl h2.symm))
      · rw [List.find?_cons_of_neg (by unfold sameP; simpa using hx)]
        constructor
        · rintro (h1 | ⟨h1, h2⟩)
          · rcases (hm e).1 h1 with rfl | h1
            · exact absurd ⟨rfl, rfl⟩ hx
            · exact .inl h1
          · exact .inr ⟨fun c hc => h1 c ((hm c).2 (.inr hc)), h2⟩
        · rintro (h1 | ⟨h1, h2⟩)
          · exact .inl ((hm e).2 (.inr h1))
          · refine .inr ⟨fun c hc => ?_, h2⟩
            rcases (hm c).1 hc with rfl | hc
            · exact hx
            · exact h1 c hc
theorem merge_find (l : List EB) (e : EB) : e ∈ mergeB l ↔ l.find? (sameP e) = some e := by
  unfold mergeB
  rw [fold_find e l [] List.Pairwise.nil]
  simp
theorem merge_mem {l : List EB} {e : EB} (h : e ∈ mergeB l) : e ∈ l := List.mem_of_find?_eq_some ((merge_find l e).1 h)
theorem sameP_congr {a b : EB} (h : sameB a b) : sameP a = sameP b := by
  funext c
  unfold sameP
  refine decide_eq_decide.2 ⟨fun h1 => sameB_trans h1 h, fun h1 => sameB_trans h1 (sameB_symm h)⟩
/-- Of each key and number the first one is there. -/
theorem merge_first {l : List EB} {e c : EB} (h : l.find? (sameP e) = some c) : c ∈ mergeB l ∧ sameB c e := by
  have hs : sameB c e := by have := List.find?_some h; unfold sameP at this; simpa using this
  refine ⟨(merge_find l c).2 ?_, hs⟩
  rw [sameP_congr hs, h]
theorem merge_has {l : List EB} {e : EB} (h : e ∈ l) : ∃ c ∈ mergeB l, sameB c e := by
  have : (l.find? (sameP e)).isSome = true := by
    rw [List.find?_isSome]
    exact ⟨e, h, by unfold sameP; simp [sameB]⟩
  obtain ⟨c, hc⟩ := Option.isSome_iff_exists.1 this
  exact ⟨c, merge_first hc⟩
theorem merge_find_eq (l : List EB) (e : EB) : (mergeB l).find? (sameP e) = l.find? (sameP e) := by
  cases h : l.find? (sameP e) with
  | none =>
    rw [List.find?_eq_none] at h ⊢
    exact fun x hx => h x (merge_mem hx)
  | some c =>
    obtain ⟨h1, h2⟩ := merge_first h
    have hi : ((mergeB l).find? (sameP e)).isSome = true := by
      rw [List.find?_isSome]
      exact ⟨c, h1, by unfold sameP; simpa using h2⟩
    obtain ⟨d, hd⟩ := Option.isSome_iff_exists.1 hi
    have hds : sameB d e := by have := List.find?_some hd; unfold sameP at this; simpa using this
    rw [hd, srt_alone (merge_pair l) (List.mem_of_find?_eq_some hd) h1 (sameB_trans hds (sameB_symm h2))]
theorem merge_eq {l m : List EB} (h : ∀ e, l.find? (sameP e) = m.find? (sameP e)) : mergeB l = mergeB m :=
  pair_eq (merge_pair l) (merge_pair m) fun x => by rw [merge_find, merge_find, h]
theorem merge_parts (x y : List EB) : mergeB (mergeB x ++ mergeB y) = mergeB (x ++ y) :=
  merge_eq fun e => by rw [List.find?_append, List.find?_append, merge_find_eq, merge_find_eq]
theorem merge_self {l : List EB} (h : Srt l) : mergeB l = l :=
  pair_eq (merge_pair l) h fun x => by
    rw [merge_find]
    constructor
    · exact List.mem_of_find?_eq_some
    · intro hx
      have hi : (l.find? (sameP x)).isSome = true := by
        rw [List.find?_isSome]
        exact ⟨x, hx, by unfold sameP; simp [sameB]⟩
      obtain ⟨d, hd⟩ := Option.isSome_iff_exists.1 hi
      have hds : sameB d x := by have := List.find?_some hd; unfold sameP at this; simpa using this
      rw [hd, srt_alone h (List.mem_of_find?_eq_some hd) hx hds]
theorem merge_twice {l : List EB} (h : Srt l) : mergeB (l ++ l) = l := by
  have := merge_parts l l
  rw [merge_self h] at this
  rw [← merge_self h, ← merge_self h]
  refine merge_eq fun e => ?_
  rw [merge_self h, merge_self h, List.find?_append]
  cases l.find? (sameP e) <;> rfl
def keyB (a b : EB) : Bool := a.k.data.toList == b.k.data.toList
/-- Of its key the one with the greatest number that is at most s. -/
def newB (L : List EB) (s : Int) (e : EB) : Bool := decide (e.q ≤ s) && L.all (fun c => !(keyB c e && decide (c.q ≤ s) && decide (e.q < c.q)))
def visL (s : Int) (L : List EB) : List EB := L.filter (fun e => newB L s e && !e.d)
def needB (L : List EB) (S : List Int) (e : EB) : Bool := newB L 4611686018427387904 e || S.any (fun s => newB L s e)
/-- Dead, as all of its key that are behind it. -/
def endsB (L : List EB) (e : EB) : Bool := e.d && L.all (fun c => !(keyB c e && decide (c.q < e.q)) || c.d)
def thinL (S : List Int) (last : Bool) (L : List EB) : List EB := if last then (L.filter (needB L S)).filter (fun e => !endsB (L.filter (needB L S)) e) else L.filter (needB L S)
theorem newB_iff {L : List EB} {s : Int} {e : EB} : newB L s e = true ↔ e.q ≤ s ∧ ∀ c ∈ L, c.k.data.toList = e.k.data.toList → c.q ≤ s → c.q ≤ e.q := by
  unfold newB keyB
  rw [Bool.and_eq_true, decide_eq_true_iff, List.all_eq_true]
  constructor
  · rintro ⟨h1, h2⟩
    refine ⟨h1, fun c hc hk hq => ?_⟩
    have := h2 c hc
    rw [hk, beq_self_eq_true, decide_eq_true hq] at this
    simp at this
    omega
  · rintro ⟨h1, h2⟩
    refine ⟨h1, fun c hc => ?_⟩
    cases hk : (c.k.data.toList == e.k.data.toList) with
    | false => rfl
    | true =>
      rw [beq_iff_eq] at hk
      by_cases hq : c.q ≤ s
      · have := h2 c hc hk hq
        simp [hq]; omega
      · simp [hq]
/-- There is one such. -/
theorem new_there {L : List EB} {s : Int} {c : EB} (hc : c ∈ L) (hq : c.q ≤ s) : ∃ e ∈ L, e.k.data.toList = c.k.data.toList ∧ c.q ≤ e.q ∧ newB L s e = true := by
  have key : ∀ M : List EB, ∃ e, (e = c ∨ e ∈ M) ∧ e.k.data.toList = c.k.data.toList ∧ c.q ≤ e.q ∧ e.q ≤ s ∧ ∀ d ∈ M, d.k.data.toList = c.k.data.toList → d.q ≤ s → d.q ≤ e.q := by
    intro M
    induction M with
    | nil => exact ⟨c, .inl rfl, rfl, Int.le_refl _, hq, fun d hd => by cases hd⟩
    | cons x M ih =>
      obtain ⟨e, h1, h2, h3, h4, h5⟩ := ih
      by_cases hx : x.k.data.toList = c.k.data.toList ∧ x.q ≤ s ∧ e.q < x.q
      · refine ⟨x, .inr (by simp), hx.1, by omega, hx.2.1, fun d hd hk hds => ?_⟩
        rcases List.mem_cons.1 hd with rfl | hd
        · exact Int.le_refl _
        · have := h5 d hd hk hds; omega
      · refine ⟨e, h1.imp id (fun h => by simp [h]), h2, h3, h4, fun d hd hk hds => ?_⟩
        rcases List.mem_cons.1 hd with rfl | hd
        · apply Int.not_lt.1; intro hlt; exact hx ⟨hk, hds, hlt⟩
        · exact h5 d hd hk hds
  obtain ⟨e, h1, h2, h3, h4, h5⟩ := key L
  refine ⟨e, by rcases h1 with rfl | h1; exact hc; exact h1, h2, h3, newB_iff.2 ⟨h4, fun d hd hk hds => h5 d hd (hk.trans h2) hds⟩⟩
theorem thin_sub {S : List Int} {last : Bool} {L : List EB} : ∀ e ∈ thinL S last L, e ∈ L ∧ needB L S e = true := by
  intro e he
  unfold thinL at he
  cases last with
  | false => simpa using he
  | true =>
    simp only [if_true] at he
    exact List.mem_filter.1 (List.mem_filter.1 he).1
theorem thin_sublist (S : List Int) (last : Bool) (L : List EB) : (thinL S last L).Sublist L := by
  unfold thinL
  cases last with
  | false => exact List.filter_sublist
  | true => exact List.filter_sublist.trans List.filter_sublist
theorem ends_iff {L : List EB} {e : EB} : endsB L e = true ↔ e.d = true ∧ ∀ c ∈ L, c.k.data.toList = e.k.data.toList → c.q < e.q → c.d = true := by
  unfold endsB keyB
  rw [Bool.and_eq_true, List.all_eq_true]
  refine and_congr Iff.rfl ⟨fun h c hc hk hq => ?_, fun h c hc => ?_⟩
  · have := h c hc
    rw [hk, beq_self_eq_true, decide_eq_true hq] at this
    simpa using this
  · cases hk : (c.k.data.toList == e.k.data.toList) with
    | false => rfl
    | true =>
      rw [beq_iff_eq] at hk
      by_cases hq : c.q < e.q
      · rw [h c hc hk hq]; simp
      · simp [hq]
/-- What of a row stays: needed, and not at a dead end. -/
theorem thin_iff {S : List Int} {last : Bool} {L : List EB} {e : EB} : e ∈ thinL S last L ↔ (e ∈ L ∧ needB L S e = true) ∧ (last = true → endsB (L.filter (needB L S)) e = false) := by
  unfold thinL
  cases last with
  | false => simp
  | true =>
    simp only [if_true, List.mem_filter, forall_const]
    rw [Bool.not_eq_true']
/-- What is seen at a number for which it was thinned is as before. -/
theorem vis_thin {S : List Int} {last : Bool} {L : List EB} {s : Int} (hs : s ∈ S ∨ ∀ e ∈ L, e.q ≤ s ∧ e.q ≤ 4611686018427387904) : visL s (thinL S last L) = visL s L := by
  have hneed : ∀ e ∈ L, newB L s e = true → needB L S e = true := by
    intro e he hn
    unfold needB
    rcases hs with hs | hs
    · rw [Bool.or_eq_true]; right
      rw [List.any_eq_true]
      exact ⟨s, hs, hn⟩
    · rw [Bool.or_eq_true]; left
      rw [newB_iff] at hn ⊢
      exact ⟨(hs e he).2, fun c hc hk _ => hn.2 c hc hk (hs c hc).1⟩
  have hT : visL s (thinL S last L) = (thinL S last L).filter (fun e => newB L s e && !e.d) := by
    unfold visL
    apply List.filter_congr
    intro e he
    cases hd : e.d with
    | true => simp
    | false =>
      have hiff : newB (thinL S last L) s e = true ↔ newB L s e = true := by
        rw [newB_iff, newB_iff]
        refine and_congr Iff.rfl ⟨fun h c hc hk hq => ?_, fun h c hc hk hq => h c (thin_sub c hc).1 hk hq⟩
        obtain ⟨m, hm, hmk, hmq, hmn⟩ := new_there hc hq
        have hmT : m ∈ thinL S last L ∨ m.q ≤ e.q := by
          by_cases hle : m.q ≤ e.q
          · exact .inr hle
          · left
            rw [thin_iff]
            refine ⟨⟨hm, hneed m hm hmn⟩, fun hl => ?_⟩
            cases hE : endsB (L.filter (needB L S)) m with
            | false => rfl
            | true =>
              rw [ends_iff] at hE
              have heo : e ∈ L.filter (needB L S) := List.mem_filter.2 (thin_sub e he)
              have := hE.2 e heo (by rw [hmk, hk]) (by omega)
              rw [hd] at this; cases this
        rcases hmT with hmT | hmT
        · have := h m hmT (by rw [hmk, hk]) (newB_iff.1 hmn).1
          omega
        · omega
      have : newB (thinL S last L) s e = newB L s e := by
        cases h1 : newB L s e with
        | true => exact hiff.2 h1
        | false =>
          cases h2 : newB (thinL S last L) s e with
          | false => rfl
          | true => rw [hiff.1 h2] at h1; cases h1
      rw [this]
  rw [hT]
  have hall : ∀ e ∈ L, (newB L s e && !e.d) = true → e ∈ thinL S last L := by
    intro e he hh
    rw [Bool.and_eq_true, Bool.not_eq_true'] at hh
    rw [thin_iff]
    refine ⟨⟨he, hneed e he hh.1⟩, fun _ => ?_⟩
    unfold endsB
    rw [hh.2]; rfl
  unfold visL
  generalize hp : (fun e => newB L s e && !e.d) = p at *
  have key : ∀ (q : EB → Bool) (M : List EB), (∀ e ∈ M, p e = true → q e = true) → (M.filter q).filter p = M.filter p := by
    intro q M h
    rw [List.filter_filter]
    apply List.filter_congr
    intro e he
    cases hpe : p e with
    | false => rw [Bool.and_comm]; simp
    | true => rw [h e he hpe]; rfl
  have hall' : ∀ e ∈ L, p e = true → needB L S e = true ∧ (last = true → endsB (L.filter (needB L S)) e = false) := by
    intro e he hpe
    have := (thin_iff.1 (hall e he (by rw [← hp] at hpe; exact hpe)))
    exact ⟨this.1.2, this.2⟩
  unfold thinL
  cases last with
  | false => exact key _ L (fun e he hpe => (hall' e he hpe).1)
  | true =>
    simp only [if_true]
    rw [key (fun e => !endsB (L.filter (needB L S)) e) _ (fun e he hpe => by rw [(hall' e (List.mem_filter.1 he).1 hpe).2 rfl]; rfl)]
    exact key _ L (fun e he hpe => (hall' e he hpe).1)
/-- Thinned again it is as it is. -/
theorem thin_twice (S : List Int) (last : Bool) (L : List EB) : thinL S last (thinL S last L) = thinL S last L := by
  have hneed : ∀ e ∈ thinL S last L, needB (thinL S last L) S e = true := by
    intro e he
    have hn := (thin_sub e he).2
    have hmono : ∀ s, newB L s e = true → newB (thinL S last L) s e = true := fun s h => by
      rw [newB_iff] at h ⊢
      exact ⟨h.1, fun c hc => h.2 c (thin_sub c hc).1⟩
    unfold needB at hn ⊢
    rw [Bool.or_eq_true] at hn ⊢
    rcases hn with h | h
    · exact .inl (hmono _ h)
    · right
      rw [List.any_eq_true] at h ⊢
      obtain ⟨s, h1, h2⟩ := h
      exact ⟨s, h1, hmono _ h2⟩
  have hf : (thinL S last L).filter (needB (thinL S last L) S) = thinL S last L := List.filter_eq_self.2 hneed
  show (if last then ((thinL S last L).filter (needB (thinL S last L) S)).filter _ else _) = _
  rw [hf]
  cases last with
  | false => rfl
  | true =>
    simp only [if_true]
    rw [List.filter_eq_self]
    intro e he
    rw [Bool.not_eq_true']
    have h2 := (thin_iff.1 he).2 rfl
    cases hE : endsB (thinL S true L) e with
    | false => rfl
    | true =>
      exfalso
      rw [ends_iff] at hE
      have hno : ¬ endsB (L.filter (needB L S)) e = true := by rw [h2]; simp
      apply hno
      rw [ends_iff]
      refine ⟨hE.1, fun c hc hk hq => ?_⟩
      cases hd : c.d with
      | true => rfl
      | false =>
        have hcT : c ∈ thinL S true L := by
          rw [thin_iff]
          refine ⟨List.mem_filter.1 hc, fun _ => ?_⟩
          unfold endsB
          rw [hd]; rfl
        have := hE.2 c hcT hk hq
        rw [hd] at this; cases this
theorem thin_nil (S : List Int) (last : Bool) : thinL S last [] = [] := by unfold thinL; cases last <;> rfl
theorem thin_srt {S : List Int} {last : Bool} {L : List EB} (h : Srt L) : Srt (thinL S last L) := h.sublist (thin_sublist S last L)
theorem vis_srt {s : Int} {L : List EB} (h : Srt L) : Srt (visL s L) := List.Pairwise.filter _ h
/-- What is seen has each key once. -/
theorem vis_keys {s : Int} {L : List EB} (h : Srt L) : (visL s L).Pairwise (fun a b => Op.bytesLess a.k.data.toList b.k.data.toList = true) := by
  have h2 := vis_srt (s := s) h
  refine List.Pairwise.imp_of_mem (fun {a b} ha hb hab => ?_) h2
  obtain ⟨ha1, ha2⟩ := List.mem_filter.1 ha
  obtain ⟨hb1, hb2⟩ := List.mem_filter.1 hb
  rw [Bool.and_eq_true] at ha2 hb2
  have na := newB_iff.1 ha2.1
  have nb := newB_iff.1 hb2.1
  unfold lessB at hab
  rw [Bool.or_eq_true, Bool.and_eq_true, beq_iff_eq, decide_eq_true_iff] at hab
  rcases hab with h | ⟨h, hq⟩
  · exact h
  · have := nb.2 a ha1 h na.1
    omega
theorem vis_twice {s : Int} {L : List EB} : visL s (visL s L) = visL s L := by
  show (visL s L).filter (fun e => newB (visL s L) s e && !e.d) = visL s L
  rw [List.filter_eq_self]
  intro e he
  obtain ⟨h1, h2⟩ := List.mem_filter.1 he
  rw [Bool.and_eq_true] at h2 ⊢
  refine ⟨?_, h2.2⟩
  have := newB_iff.1 h2.1
  exact newB_iff.2 ⟨this.1, fun c hc => this.2 c (List.mem_filter.1 hc).1⟩
theorem vis_none {s : Int} {L : List EB} (h : ∀ e ∈ L, s < e.q) : visL s L = [] := by
  unfold visL
  rw [List.filter_eq_nil_iff]
  intro e he hh
  rw [Bool.and_eq_true] at hh
  have := (newB_iff.1 hh.1).1
  have := h e he
  omega
end Go.Proofs.Ytmdkpomgckkllaa
/- Mathematics of chapter 12, second part: the reference's places, and what the laws ask of what is merged, seen and needed; no program. -/
namespace Go.Proofs.Ytmdkpomgckkllaa

/-- An entry of this key at or below this number. -/
def hitN (key : List UInt8) (s : Int) (e : EB) : Prop := e.k.data.toList = key ∧ e.q ≤ s
/-- b is the place of the one with the greatest number among the first n (the first such), or there is none. -/
def Best (L : List EB) (key : List UInt8) (s : Int) (n : Nat) : Option Nat → Prop
  | none => ∀ m (h : m < L.length), m < n → ¬ hitN key s L[m]
  | some j => ∃ h : j < L.length, j < n ∧ hitN key s L[j] ∧ ∀ m (h' : m < L.length), m < n → hitN key s L[m] → L[m].q ≤ L[j].q
theorem best_zero (L : List EB) (key : List UInt8) (s : Int) : Best L key s 0 none := fun m _ h => by omega
theorem best_miss {L : List EB} {key : List UInt8} {s : Int} {n : Nat} {b : Option Nat} (hn : n < L.length) (h : Best L key s n b) (hm : ¬ hitN key s L[n]) : Best L key s (n + 1) b := by
  cases b with
  | none =>
    intro m h1 h2
    by_cases e : m = n
    · subst e; exact hm
    · exact h m h1 (by omega)
  | some j =>
    obtain ⟨h1, h2, h3, h4⟩ := h
    refine ⟨h1, by omega, h3, fun m h5 h6 h7 => ?_⟩
    by_cases e : m = n
    · subst e; exact absurd h7 hm
    · exact h4 m h5 (by omega) h7
theorem best_keep {L : List EB} {key : List UInt8} {s : Int} {n j : Nat} (hn : n < L.length) (h : Best L key s n (some j)) (hj : j < L.length) (hq : L[n].q ≤ L[j].q) : Best L key s (n + 1) (some j) := by
  obtain ⟨h1, h2, h3, h4⟩ := h
  refine ⟨h1, by omega, h3, fun m h5 h6 h7 => ?_⟩
  by_cases e : m = n
  · subst e; exact hq
  · exact h4 m h5 (by omega) h7
theorem best_take {L : List EB} {key : List UInt8} {s : Int} {n : Nat} {b : Option Nat} (hn : n < L.length) (h : Best L key s n b) (hm : hitN key s L[n]) (hb : ∀ j, b = some j → ∀ hj : j < L.length, L[j].q < L[n].q) : Best L key s (n + 1) (some n) := by
  refine ⟨hn, by omega, hm, fun m h5 h6 h7 => ?_⟩
  by_cases e : m = n
  · subst e; exact Int.le_refl _
  · cases b with
    | none => exact absurd h7 (h m h5 (by omega))
    | some j =>
      obtain ⟨h1, h2, h3, h4⟩ := h
      have := h4 m h5 (by omega) h7
      have := hb j rfl h1
      omega
theorem srt_at {L : List EB} (h : Srt L) {i j : Nat} (hi : i < L.length) (hj : j < L.length) (hk : L[i].k.data.toList = L[j].k.data.toList) (hq : L[i].q = L[j].q) : i = j := by
  have hp := List.pairwise_iff_getElem.1 h
  rcases Nat.lt_trichotomy i j with hlt | rfl | hlt
  · have := hp i j hi hj hlt
    rw [same_less ⟨hk, hq⟩] at this; cases this
  · rfl
  · have := hp j i hj hi hlt
    rw [same_less ⟨hk.symm, hq.symm⟩] at this; cases this
/-- An entry is its key's newest one just where its place comes out. -/
theorem best_new {L : List EB} (h : Srt L) {s : Int} {i : Nat} {b : Option Nat} (hi : i < L.length) (hb : Best L L[i].k.data.toList s L.length b) : b = some i ↔ newB L s L[i] = true := by
  rw [newB_iff]
  constructor
  · rintro rfl
    obtain ⟨h1, h2, h3, h4⟩ := hb
    refine ⟨h3.2, fun c hc hk hq => ?_⟩
    obtain ⟨m, hm, rfl⟩ := List.mem_iff_getElem.1 hc
    exact h4 m hm hm ⟨hk, hq⟩
  · rintro ⟨h1, h2⟩
    cases b with
    | none => exact absurd ⟨rfl, h1⟩ (hb i hi hi)
    | some j =>
      obtain ⟨g1, g2, g3, g4⟩ := hb
      have e1 := g4 i hi hi ⟨rfl, h1⟩
      have e2 := h2 L[j] (List.getElem_mem g1) g3.1 g3.2
      rw [srt_at h g1 hi g3.1 (by omega)]
/-- Dead as long as the key is this one. -/
def runDead (key : List UInt8) : List EB → Bool
  | [] => true
  | c :: l => if c.k.data.toList = key then c.d && runDead key l else true
theorem run_dead {key : List UInt8} : ∀ {l : List EB}, Srt l → (∀ c ∈ l, Op.bytesLess c.k.data.toList key = false) → runDead key l = l.all (fun c => !(c.k.data.toList == key) || c.d)
  | [], _, _ => rfl
  | c :: l, hs, h => by
    rw [Srt, List.pairwise_cons] at hs
    rw [runDead, List.all_cons]
    by_cases hk : c.k.data.toList = key
    · rw [if_pos hk, run_dead hs.2 (fun x hx => h x (by simp [hx])), hk, beq_self_eq_true]; simp
    · rw [if_neg hk]
      have h1 : (c.k.data.toList == key) = false := by rw [beq_eq_false_iff_ne]; exact hk
      rw [h1]
      have h2 : l.all (fun c => !(c.k.data.toList == key) || c.d) = true := by
        rw [List.all_eq_true]
        intro x hx
        have hcx := hs.1 x hx
        have hne : ¬ x.k.data.toList = key := fun e => by
          unfold lessB at hcx
          rw [e, h c (by simp), Bool.false_or, Bool.and_eq_true, beq_iff_eq] at hcx
          exact hk hcx.1
        have : (x.k.data.toList == key) = false := by rw [beq_eq_false_iff_ne]; exact hne
        rw [this]; rfl
      rw [h2]; rfl
theorem run_ends {p r : List EB} {e : EB} (h : Srt (p ++ e :: r)) : runDead e.k.data.toList (e :: r) = endsB (p ++ e :: r) e := by
  have h0 := h
  rw [Srt, List.pairwise_append, List.pairwise_cons] at h
  obtain ⟨h1, ⟨h2, h3⟩, h4⟩ := h
  have hr : ∀ c ∈ r, Op.bytesLess c.k.data.toList e.k.data.toList = false := fun c hc => by
    have := h2 c hc
    unfold lessB at this
    rw [Bool.or_eq_true, Bool.and_eq_true, beq_iff_eq] at this
    rcases this with hh | ⟨hh, _⟩
    · exact less_asymm hh
    · rw [hh]; exact less_irrefl _
  rw [runDead, if_pos rfl, run_dead h3 hr]
  cases he : e.d with
  | false => unfold endsB; rw [he]; rfl
  | true =>
    rw [Bool.true_and]
    have hiff : r.all (fun c => !(c.k.data.toList == e.k.data.toList) || c.d) = true ↔ endsB (p ++ e :: r) e = true := by
      rw [ends_iff, List.all_eq_true]
      constructor
      · intro hh
        refine ⟨he, fun c hc hk hq => ?_⟩
        rcases List.mem_append.1 hc with hc | hc
        · have := h4 c hc e (by simp)
          unfold lessB at this
          rw [hk, less_irrefl, Bool.false_or, Bool.and_eq_true, decide_eq_true_iff] at this
          omega
        · rcases List.mem_cons.1 hc with rfl | hc
          · omega
          · have := hh c hc
            rw [hk, beq_self_eq_true] at this
            simpa using this
      · rintro ⟨-, hh⟩ c hc
        cases hk : (c.k.data.toList == e.k.data.toList) with
        | false => rfl
        | true =>
          rw [beq_iff_eq] at hk
          have hl := h2 c hc
          unfold lessB at hl
          rw [hk, less_irrefl, Bool.false_or, Bool.and_eq_true, decide_eq_true_iff] at hl
          rw [hh c (by simp [hc]) hk hl.2]; rfl
    cases ha : r.all (fun c => !(c.k.data.toList == e.k.data.toList) || c.d) with
    | true => exact (hiff.1 ha).symm
    | false =>
      cases hb : endsB (p ++ e :: r) e with
      | false => rfl
      | true => rw [hiff.2 hb] at ha; cases ha
/-- The last of a key's that are left is not dead, where the last are asked for. -/
theorem thin_end {S : List Int} {L p r : List EB} {e : EB} (hL : Srt L) (h : thinL S true L = p ++ e :: r) (hend : ∀ c ∈ r, c.k.data.toList ≠ e.k.data.toList) : e.d = false := by
  cases he : e.d with
  | false => rfl
  | true =>
    exfalso
    have hs := thin_srt (S := S) (last := true) hL
    have heT : e ∈ thinL S true L := by rw [h]; simp
    have h2 := (thin_iff.1 heT).2 rfl
    have hno : endsB (L.filter (needB L S)) e = true := by
      rw [ends_iff]
      refine ⟨he, fun c hc hk hq => ?_⟩
      cases hd : c.d with
      | true => rfl
      | false =>
        exfalso
        have hcT : c ∈ thinL S true L := by
          rw [thin_iff]
          refine ⟨List.mem_filter.1 hc, fun _ => ?_⟩
          unfold endsB
          rw [hd]; rfl
        rw [h] at hcT hs
        rw [Srt, List.pairwise_append] at hs
        rcases List.mem_append.1 hcT with hc | hc
        · have := hs.2.2 c hc e (by simp)
          unfold lessB at this
          rw [hk, less_irrefl, Bool.false_or, Bool.and_eq_true, decide_eq_true_iff] at this
          omega
        · rcases List.mem_cons.1 hc with rfl | hc
          · omega
          · exact hend c hc hk
    rw [hno] at h2; cases h2
end Go.Proofs.Ytmdkpomgckkllaa
/- Mathematics of chapter 10, fourth part: what a table file's bytes tell again; a byte turned; no program. -/
namespace Go.Proofs.Ytmdkpomgckkllaa

theorem ba_ext {a b : ByteArray} (h : a.data.toList = b.data.toList) : a = b := by
  apply ByteArray.ext
  exact Array.toList_inj.1 h
end Go.Proofs.Ytmdkpomgckkllaa
/- Mathematics: two sorted rows made one. -/
namespace Go.Proofs.Ytmdkpomgckkllaa

def bothL : List EB → List EB → List EB
  | [], b => b
  | x :: a, [] => x :: a
  | x :: a, y :: b => if lessB x y = true then x :: bothL a (y :: b) else if lessB y x = true then y :: bothL (x :: a) b else bothL (x :: a) b
termination_by a b => a.length + b.length
theorem both_nil_r : ∀ a : List EB, bothL a [] = a
  | [] => by rw [bothL]
  | x :: a => by rw [bothL]
theorem both_nil_l (b : List EB) : bothL [] b = b := by rw [bothL]
theorem both_left {x y : EB} {a b : List EB} (h : lessB x y = true) : bothL (x :: a) (y :: b) = x :: bothL a (y :: b) := by rw [bothL, if_pos h]
theorem both_right {x y : EB} {a b : List EB} (h : lessB x y = false) (h' : lessB y x = true) : bothL (x :: a) (y :: b) = y :: bothL (x :: a) b := by rw [bothL, if_neg (by rw [h]; simp), if_pos h']
theorem both_drop {x y : EB} {a b : List EB} (h : lessB x y = false) (h' : lessB y x = false) : bothL (x :: a) (y :: b) = bothL (x :: a) b := by rw [bothL, if_neg (by rw [h]; simp), if_neg (by rw [h']; simp)]
theorem both_mem : ∀ (n : Nat) (a b : List EB), a.length + b.length ≤ n → ∀ e, e ∈ bothL a b → e ∈ a ∨ e ∈ b
  | _, [], b, _, e, he => by rw [both_nil_l] at he; exact .inr he
  | _, x :: a, [], _, e, he => by rw [both_nil_r] at he; exact .inl he
  | 0, x :: a, y :: b, h, _, _ => by simp at h
  | n + 1, x :: a, y :: b, h, e, he => by
    simp only [List.length_cons] at h
    cases h1 : lessB x y with
    | true =>
      rw [both_left h1, List.mem_cons] at he
      rcases he with rfl | he
      · exact .inl (by simp)
      · rcases both_mem n a (y :: b) (by simp; omega) e he with h | h
        · exact .inl (by simp [h])
        · exact .inr h
    | false =>
      cases h2 : lessB y x with
      | true =>
        rw [both_right h1 h2, List.mem_cons] at he
        rcases he with rfl | he
        · exact .inr (by simp)
        · rcases both_mem n (x :: a) b (by simp; omega) e he with h | h
          · exact .inl h
          · exact .inr (by simp [h])
      | false =>
        rw [both_drop h1 h2] at he
        rcases both_mem n (x :: a) b (by simp; omega) e he with h | h
        · exact .inl h
        · exact .inr (by simp [h])
theorem both_merge : ∀ (n : Nat) (a b : List EB), a.length + b.length ≤ n → Srt a → Srt b → Srt (bothL a b) ∧ ∀ e, e ∈ bothL a b ↔ e ∈ a ∨ (e ∈ b ∧ ∀ c ∈ a, ¬ sameB c e)
  | _, [], b, _, _, hb => by rw [both_nil_l]; exact ⟨hb, fun e => by simp⟩
  | _, x :: a, [], _, ha, _ => by rw [both_nil_r]; exact ⟨ha, fun e => by simp⟩
  | 0, x :: a, y :: b, h, _, _ => by simp at h
  | n + 1, x :: a, y :: b, h, ha, hb => by
    simp only [List.length_cons] at h
    have hxa := (List.pairwise_cons.1 ha).1
    have ha' := (List.pairwise_cons.1 ha).2
    have hyb := (List.pairwise_cons.1 hb).1
    have hb' := (List.pairwise_cons.1 hb).2
    cases h1 : lessB x y with
    | true =>
      rw [both_left h1]
      obtain ⟨i1, i2⟩ := both_merge n a (y :: b) (by simp; omega) ha' hb
      have hall : ∀ c ∈ y :: b, lessB x c = true := fun c hc => by
        rcases List.mem_cons.1 hc with rfl | hc
        · exact h1
        · exact lessB_trans h1 (hyb c hc)
      refine ⟨List.pairwise_cons.2 ⟨fun c hc => ?_, i1⟩, fun e => ?_⟩
      · rcases both_mem _ a (y :: b) (Nat.le_refl _) c hc with h | h
        · exact hxa c h
        · exact hall c h
      · rw [List.mem_cons, i2]
        constructor
        · rintro (g | g | ⟨g, g'⟩)
          · exact .inl (by simp [g])
          · exact .inl (by simp [g])
          · refine .inr ⟨g, fun c hc => ?_⟩
            rcases List.mem_cons.1 hc with rfl | hc
            · intro hs
              have := hall e g
              rw [same_less hs] at this; cases this
            · exact g' c hc
        · rintro (g | ⟨g, g'⟩)
          · rcases List.mem_cons.1 g with g | g
            · exact .inl g
            · exact .inr (.inl g)
          · exact .inr (.inr ⟨g, fun c hc => g' c (by simp [hc])⟩)
    | false =>
      cases h2 : lessB y x with
      | true =>
        rw [both_right h1 h2]
        obtain ⟨i1, i2⟩ := both_merge n (x :: a) b (by simp; omega) ha hb'
        have hall : ∀ c ∈ x :: a, lessB y c = true := fun c hc => by
          rcases List.mem_cons.1 hc with rfl | hc
          · exact h2
          · exact lessB_trans h2 (hxa c hc)
        refine ⟨List.pairwise_cons.2 ⟨fun c hc => ?_, i1⟩, fun e => ?_⟩
        · rcases both_mem _ (x :: a) b (Nat.le_refl _) c hc with h | h
          · exact hall c h
          · exact hyb c h
        · rw [List.mem_cons, i2]
          constructor
          · rintro (h | h | ⟨h, h'⟩)
            · subst h
              refine .inr ⟨by simp, fun c hc hs => ?_⟩
              have := hall c hc
              rw [same_less (sameB_symm hs)] at this; cases this
            · exact .inl h
            · exact .inr ⟨by simp [h], h'⟩
          · rintro (h | ⟨h, h'⟩)
            · exact .inr (.inl h)
            · rcases List.mem_cons.1 h with h | h
              · exact .inl h
              · exact .inr (.inr ⟨h, h'⟩)
      | false =>
        rw [both_drop h1 h2]
        obtain ⟨i1, i2⟩ := both_merge n (x :: a) b (by simp; omega) ha hb'
        refine ⟨i1, fun e => ?_⟩
        rw [i2]
        have hxy : sameB x y := lessB_same h1 h2
        constructor
        · rintro (h | ⟨h, h'⟩)
          · exact .inl h
          · exact .inr ⟨by simp [h], h'⟩
        · rintro (h | ⟨h, h'⟩)
          · exact .inl h
          · rcases List.mem_cons.1 h with h | h
            · subst h
              exact absurd hxy (h' x (by simp))
            · exact .inr ⟨h, h'⟩
theorem both_is {a b : List EB} (ha : Srt a) (hb : Srt b) : bothL a b = mergeB (a ++ b) := by
  obtain ⟨h1, h2⟩ := both_merge _ a b (Nat.le_refl _) ha hb
  refine pair_eq h1 (merge_pair _) fun e => ?_
  rw [h2, merge_find, List.find?_append]
  have hfa : ∀ {l : List EB}, Srt l → (e ∈ l ↔ l.find? (sameP e) = some e) := fun hl => by
    rw [← merge_find, merge_self hl]
  constructor
  · rintro (h | ⟨h, h'⟩)
    · rw [(hfa ha).1 h]; rfl
    · have : a.find? (sameP e) = none := by
        rw [List.find?_eq_none]
        intro c hc
        unfold sameP
        simpa using h' c hc
      rw [this, (hfa hb).1 h]; rfl
  · intro h
    cases hf : a.find? (sameP e) with
    | some c =>
      rw [hf] at h
      have : c = e := by simpa using h
      subst this
      exact .inl ((hfa ha).2 hf)
    | none =>
      rw [hf] at h
      refine .inr ⟨(hfa hb).2 (by simpa using h), fun c hc hs => ?_⟩
      rw [List.find?_eq_none] at hf
      have := hf c hc
      unfold sameP at this
      simp [hs] at this
end Go.Proofs.Ytmdkpomgckkllaa
