/- TSum, laid together. -/
import Derived.Test.YteimllgoelleeaaGreatDoorZ4
import Derived.Lib.SlicesCompact
set_option linter.unusedSimpArgs false
set_option linter.unusedVariables false
/- Mathematics of chapter 10, sixth part: cites counted by sorting; keys without their doubles; what an escaped text was; no program. -/
namespace Go.Proofs.YteimllgoelleeaaGreatDoor

def cntC : List CT → Nat → Nat → Nat
  | [], _, _ => 0
  | c :: l, x, y => (if c.t = x ∧ c.v = y then c.n else 0) + cntC l x y
theorem cnt_cons (c : CT) (l : List CT) (x y : Nat) : cntC (c :: l) x y = (if c.t = x ∧ c.v = y then c.n else 0) + cntC l x y := rfl
def risesC (l : List CT) : Prop := l.Pairwise (fun c d => ctLess c d.t d.v = true)
def posC (l : List CT) : Prop := ∀ c ∈ l, 1 ≤ c.n
theorem ctLess_iff (c : CT) (a b : Nat) : ctLess c a b = true ↔ c.t < a ∨ (c.t = a ∧ c.v < b) := by unfold ctLess; simp
theorem ctLess_not (c : CT) (a b : Nat) : ctLess c a b = false ↔ ¬ (c.t < a ∨ (c.t = a ∧ c.v < b)) := by
  rw [← ctLess_iff]; cases ctLess c a b <;> simp
theorem cnt_none {l : List CT} {x y : Nat} (h : ∀ c ∈ l, ¬ (c.t = x ∧ c.v = y)) : cntC l x y = 0 := by
  induction l with
  | nil => rfl
  | cons c l ih =>
    unfold cntC
    rw [if_neg (h c (by simp)), ih (fun d hd => h d (by simp [hd]))]
theorem cnt_app (l m : List CT) (x y : Nat) : cntC (l ++ m) x y = cntC l x y + cntC m x y := by
  induction l with
  | nil => simp [cntC]
  | cons c l ih => rw [List.cons_append, cntC, cntC, ih]; omega
theorem cnt_perm {l m : List CT} (h : l.Perm m) (x y : Nat) : cntC l x y = cntC m x y := by
  induction h with
  | nil => rfl
  | cons c _ ih => rw [cntC, cntC, ih]
  | swap a b l => simp only [cntC]; omega
  | trans _ _ h1 h2 => rw [h1, h2]
theorem rises_eq : ∀ l m : List CT, risesC l → risesC m → posC l → posC m → (∀ x y, cntC l x y = cntC m x y) → l = m
  | [], [], _, _, _, _, _ => rfl
  | [], d :: m, _, _, _, hp, h => by
    have := h d.t d.v
    have h1 := hp d (by simp)
    simp only [cntC] at this
    simp at this
    omega
  | c :: l, [], _, _, hp, _, h => by
    have := h c.t c.v
    have h1 := hp c (by simp)
    simp only [cntC] at this
    simp at this
    omega
  | c :: l, d :: m, hl, hm, pl, pm, h => by
    have hl' := List.pairwise_cons.1 hl
    have hm' := List.pairwise_cons.1 hm
    have hc := pl c (by simp)
    have hd := pm d (by simp)
    have lc : cntC l c.t c.v = 0 := cnt_none fun e he => by
      have := (ctLess_iff ..).1 (hl'.1 e he); omega
    have md : cntC m d.t d.v = 0 := cnt_none fun e he => by
      have := (ctLess_iff ..).1 (hm'.1 e he); omega
    have key : c.t = d.t ∧ c.v = d.v := by
      rcases Decidable.em (c.t = d.t ∧ c.v = d.v) with e | e
      · exact e
      · exfalso
        have h1 := h c.t c.v
        have h2 := h d.t d.v
        rw [cnt_cons, cnt_cons] at h1 h2
        rw [lc] at h1
        rw [md] at h2
        have e' : ¬ (d.t = c.t ∧ d.v = c.v) := fun g => e ⟨g.1.symm, g.2.symm⟩
        rw [if_pos ⟨rfl, rfl⟩, if_neg e'] at h1
        rw [if_neg e, if_pos ⟨rfl, rfl⟩] at h2
        have : ctLess c d.t d.v = true ∨ ctLess d c.t c.v = true := by
          rw [ctLess_iff, ctLess_iff]; omega
        rcases this with g | g
        · have : cntC m c.t c.v = 0 := cnt_none fun e he => by
            have := (ctLess_iff ..).1 (hm'.1 e he)
            rw [ctLess_iff] at g; omega
          omega
        · have : cntC l d.t d.v = 0 := cnt_none fun e he => by
            have := (ctLess_iff ..).1 (hl'.1 e he)
            rw [ctLess_iff] at g; omega
          omega
    obtain ⟨k1, k2⟩ := key
    have hn : c.n = d.n := by
      have h1 := h c.t c.v
      rw [cnt_cons, cnt_cons] at h1
      rw [lc, if_pos ⟨rfl, rfl⟩, if_pos ⟨k1.symm, k2.symm⟩, k1, k2, md] at h1
      omega
    have ecd : c = d := by
      cases c; cases d
      simp only at k1 k2 hn
      subst k1 k2 hn
      rfl
    subst ecd
    congr 1
    refine rises_eq l m hl'.2 hm'.2 (fun e he => pl e (by simp [he])) (fun e he => pm e (by simp [he])) fun x y => ?_
    have := h x y
    rw [cnt_cons, cnt_cons] at this
    omega
theorem add_mem {a b : Nat} {c : CT} : ∀ {l : List CT}, c ∈ addC a b l → (c.t = a ∧ c.v = b) ∨ c ∈ l
  | [], h => by simp [addC] at h; subst h; exact Or.inl ⟨rfl, rfl⟩
  | d :: l, h => by
    unfold addC at h
    split at h
    · rcases List.mem_cons.1 h with rfl | h
      · exact Or.inr (by simp)
      · rcases add_mem h with g | g
        · exact Or.inl g
        · exact Or.inr (by simp [g])
    · split at h
      · rcases List.mem_cons.1 h with rfl | h
        · exact Or.inl ⟨rfl, rfl⟩
        · exact Or.inr (by simp [h])
      · rcases List.mem_cons.1 h with rfl | h
        · exact Or.inl ⟨rfl, rfl⟩
        · exact Or.inr h
theorem add_rises (a b : Nat) : ∀ {l : List CT}, risesC l → risesC (addC a b l)
  | [], _ => by simp [addC, risesC]
  | d :: l, h => by
    have h' := List.pairwise_cons.1 h
    unfold addC
    split
    · rename_i hd
      refine List.Pairwise.cons (fun e he => ?_) (add_rises a b h'.2)
      rcases add_mem he with ⟨g1, g2⟩ | g
      · rw [g1, g2]; exact hd
      · exact h'.1 e g
    · rename_i hd
      have hd' := (ctLess_not ..).1 (Bool.eq_false_iff.2 hd)
      split
      · rename_i g
        refine List.Pairwise.cons (fun e he => ?_) h'.2
        have := h'.1 e he
        rw [ctLess_iff] at this ⊢
        simp only
        omega
      · rename_i g
        refine List.Pairwise.cons (fun e he => ?_) h
        rw [ctLess_iff]
        simp only
        rcases List.mem_cons.1 he with rfl | he
        · omega
        · have := (ctLess_iff ..).1 (h'.1 e he)
          omega
theorem add_pos (a b : Nat) : ∀ {l : List CT}, posC l → posC (addC a b l)
  | [], _ => fun c hc => by simp [addC] at hc; subst hc; exact Nat.le_refl _
  | d :: l, h => fun c hc => by
    have hl : posC l := fun e he => h e (by simp [he])
    unfold addC at hc
    split at hc
    · rcases List.mem_cons.1 hc with rfl | hc
      · exact h _ (by simp)
      · exact add_pos a b hl c hc
    · split at hc
      · rcases List.mem_cons.1 hc with rfl | hc
        · show 1 ≤ d.n + 1; omega
        · exact hl c hc
      · rcases List.mem_cons.1 hc with rfl | hc
        · exact Nat.le_refl _
        · exact h c hc
theorem add_cnt (a b x y : Nat) : ∀ l : List CT, cntC (addC a b l) x y = cntC l x y + if a = x ∧ b = y then 1 else 0
  | [] => by simp [addC, cntC]
  | d :: l => by
    unfold addC
    split
    · rw [cntC, cntC, add_cnt a b x y l]; omega
    · split
      · rename_i g
        rw [cnt_cons, cnt_cons]
        show (if a = x ∧ b = y then d.n + 1 else 0) + _ = _
        by_cases e : a = x ∧ b = y
        · rw [if_pos e, if_pos ⟨g.1.trans e.1, g.2.trans e.2⟩, if_pos e]; omega
        · rw [if_neg e, if_neg (fun f => e ⟨g.1.symm.trans f.1, g.2.symm.trans f.2⟩), if_neg e]
          omega
      · rw [cnt_cons, cnt_cons]
        show (if a = x ∧ b = y then 1 else 0) + _ = _
        omega
def citeCT (e : EB) : Option CT := (citeE e).map fun p => ⟨p.1, p.2, 1⟩
theorem cites_all (L : List EB) : risesC (citesB L) ∧ posC (citesB L) ∧ ∀ x y, cntC (citesB L) x y = cntC (L.filterMap citeCT) x y := by
  have go : ∀ (L : List EB) (out : List CT), risesC out → posC out → risesC (L.foldl stepC out) ∧ posC (L.foldl stepC out) ∧ ∀ x y, cntC (L.foldl stepC out) x y = cntC out x y + cntC (L.filterMap citeCT) x y := by
    intro L
    induction L with
    | nil => intro out h1 h2; exact ⟨h1, h2, fun x y => by simp [cntC]⟩
    | cons e L ih =>
      intro out h1 h2
      rw [List.foldl_cons]
      cases h : citeE e with
      | none =>
        have e1 : stepC out e = out := by unfold stepC; rw [h]
        have e2 : citeCT e = none := by unfold citeCT; rw [h]; rfl
        rw [e1, List.filterMap_cons_none e2]
        exact ih out h1 h2
      | some p =>
        obtain ⟨a, b⟩ := p
        have e1 : stepC out e = addC a b out := by unfold stepC; rw [h]
        have e2 : citeCT e = some ⟨a, b, 1⟩ := by unfold citeCT; rw [h]; rfl
        obtain ⟨g1, g2, g3⟩ := ih (addC a b out) (add_rises a b h1) (add_pos a b h2)
        rw [e1, List.filterMap_cons_some e2]
        refine ⟨g1, g2, fun x y => ?_⟩
        rw [g3, add_cnt, cnt_cons]
        show _ + (if a = x ∧ b = y then 1 else 0) + _ = _ + ((if a = x ∧ b = y then 1 else 0) + _)
        omega
  obtain ⟨h1, h2, h3⟩ := go L [] List.Pairwise.nil (fun c hc => by cases hc)
  refine ⟨h1, h2, fun x y => ?_⟩
  unfold citesB
  rw [h3]
  simp [cntC]
def stepQ (out : List CT) (c : CT) : List CT := match out.getLast? with
  | some d => if d.t = c.t ∧ d.v = c.v then out.dropLast ++ [⟨d.t, d.v, d.n + 1⟩] else out ++ [c]
  | none => [c]
def sumC (l : List CT) : List CT := l.foldl stepQ []
theorem stepQ_nil (c : CT) : stepQ [] c = [c] := rfl
theorem stepQ_snoc (out : List CT) (d c : CT) : stepQ (out ++ [d]) c = if d.t = c.t ∧ d.v = c.v then out ++ [⟨d.t, d.v, d.n + 1⟩] else out ++ [d] ++ [c] := by
  unfold stepQ
  rw [List.getLast?_concat]
  simp only [List.dropLast_concat]
theorem snoc_cases {α : Type} (l : List α) : l = [] ∨ ∃ m x, l = m ++ [x] := by
  rcases List.eq_nil_or_concat l with h | ⟨m, x, h⟩
  · exact Or.inl h
  · exact Or.inr ⟨m, x, by rw [h, List.concat_eq_append]⟩
theorem stepQ_all (out : List CT) (c : CT) (h1 : risesC out) (h2 : posC out) (h3 : c.n = 1) (h4 : ∀ d ∈ out, ctLess c d.t d.v = false) :
    risesC (stepQ out c) ∧ posC (stepQ out c) ∧ (∀ x y, cntC (stepQ out c) x y = cntC out x y + cntC [c] x y) ∧ ∀ d ∈ stepQ out c, (d.t = c.t ∧ d.v = c.v) ∨ d ∈ out := by
  rcases snoc_cases out with rfl | ⟨m, d, rfl⟩
  · rw [stepQ_nil]
    exact ⟨by simp [risesC], fun e he => by simp at he; subst he; omega, fun x y => by simp [cntC], fun e he => by simp at he; subst he; exact Or.inl ⟨rfl, rfl⟩⟩
  · rw [stepQ_snoc]
    unfold risesC at h1
    rw [List.pairwise_append] at h1
    obtain ⟨g1, -, g2⟩ := h1
    split
    · rename_i e
      refine ⟨?_, fun x hx => ?_, fun x y => ?_, fun x hx => ?_⟩
      · unfold risesC
        rw [List.pairwise_append]
        refine ⟨g1, by simp, fun x hx z hz => ?_⟩
        simp at hz; subst hz
        exact g2 x hx d (by simp)
      · rcases List.mem_append.1 hx with hx | hx
        · exact h2 x (by simp [hx])
        · simp at hx; subst hx; show 1 ≤ d.n + 1; omega
      · rw [cnt_app, cnt_app]
        simp only [cntC]
        rw [h3, e.1, e.2]
        split <;> omega
      · rcases List.mem_append.1 hx with hx | hx
        · exact Or.inr (by simp [hx])
        · simp at hx; subst hx; exact Or.inl e
    · rename_i e
      have hd := h4 d (by simp)
      refine ⟨?_, fun x hx => ?_, fun x y => by rw [cnt_app], fun x hx => ?_⟩
      · unfold risesC
        rw [List.pairwise_append]
        refine ⟨by rw [List.pairwise_append]; exact ⟨g1, by simp, g2⟩, by simp, fun x hx z hz => ?_⟩
        simp at hz; subst hz
        have h5 := h4 x hx
        rw [ctLess_not] at h5
        rw [ctLess_iff]
        rcases List.mem_append.1 hx with hx | hx
        · have g3 := (ctLess_iff ..).1 (g2 x hx d (by simp))
          rw [ctLess_not] at hd
          omega
        · simp at hx; subst hx
          omega
      · rcases List.mem_append.1 hx with hx | hx
        · exact h2 x hx
        · simp at hx; subst hx; omega
      · rcases List.mem_append.1 hx with hx | hx
        · exact Or.inr hx
        · simp at hx; subst hx; exact Or.inl ⟨rfl, rfl⟩
theorem sum_all : ∀ (l out : List CT), risesC out → posC out → (∀ c ∈ l, c.n = 1) → l.Pairwise (fun c d => ctLess d c.t c.v = false) → (∀ c ∈ l, ∀ d ∈ out, ctLess c d.t d.v = false) →
    risesC (l.foldl stepQ out) ∧ posC (l.foldl stepQ out) ∧ ∀ x y, cntC (l.foldl stepQ out) x y = cntC out x y + cntC l x y
  | [], out, h1, h2, _, _, _ => ⟨h1, h2, fun x y => by simp [cntC]⟩
  | c :: l, out, h1, h2, h3, h4, h5 => by
    rw [List.pairwise_cons] at h4
    obtain ⟨a1, a2, a3, a4⟩ := stepQ_all out c h1 h2 (h3 c (by simp)) (h5 c (by simp))
    obtain ⟨b1, b2, b3⟩ := sum_all l (stepQ out c) a1 a2 (fun x hx => h3 x (by simp [hx])) h4.2 (fun x hx d hd => by
      rcases a4 d hd with ⟨e1, e2⟩ | hd
      · rw [e1, e2]; exact h4.1 x hx
      · exact h5 x (by simp [hx]) d hd)
    rw [List.foldl_cons]
    refine ⟨b1, b2, fun x y => ?_⟩
    rw [b3, a3]
    simp only [cntC]
    omega
theorem cites_sorted {L : List EB} {P : List CT} (hp : P.Perm (L.filterMap citeCT)) (hs : P.Pairwise (fun c d => ctLess d c.t c.v = false)) : sumC P = citesB L := by
  have h1 : ∀ c ∈ P, c.n = 1 := fun c hc => by
    obtain ⟨e, -, he⟩ := List.mem_filterMap.1 (hp.mem_iff.1 hc)
    unfold citeCT at he
    cases h : citeE e with
    | none => rw [h] at he; cases he
    | some p => rw [h] at he; cases he; rfl
  obtain ⟨a1, a2, a3⟩ := sum_all P [] List.Pairwise.nil (fun c hc => by cases hc) h1 hs (fun _ _ _ hd => by cases hd)
  obtain ⟨b1, b2, b3⟩ := cites_all L
  refine rises_eq _ _ a1 b1 a2 b2 fun x y => ?_
  unfold sumC
  rw [a3, b3, ← cnt_perm hp]
  simp [cntC]
theorem stepQ_len (out : List CT) (c : CT) : (stepQ out c).length ≤ out.length + 1 := by
  rcases snoc_cases out with rfl | ⟨m, d, rfl⟩
  · simp [stepQ_nil]
  · rw [stepQ_snoc]; split <;> simp
theorem sum_snoc (l : List CT) (c : CT) : sumC (l ++ [c]) = stepQ (sumC l) c := by unfold sumC; rw [List.foldl_append]; rfl
theorem sum_len (l : List CT) : (sumC l).length ≤ l.length := by
  have go : ∀ (l out : List CT), (l.foldl stepQ out).length ≤ out.length + l.length := by
    intro l
    induction l with
    | nil => intro out; exact Nat.le_refl _
    | cons c l ih =>
      intro out
      have := ih (stepQ out c)
      have := stepQ_len out c
      rw [List.foldl_cons, List.length_cons]; omega
  have := go l []
  simpa [sumC] using this

-- keys without their doubles
theorem upTo_congr {d e : Array (List UInt8)} {m : Nat} (h : ∀ j, j < m → d[j]! = e[j]!) : Lib.compactUpTo d m = Lib.compactUpTo e m := by
  induction m with
  | zero => rfl
  | succ m ih =>
    rw [Lib.compactUpTo_succ, Lib.compactUpTo_succ, ih (fun j hj => h j (by omega)), h m (by omega)]
    have : Lib.keeps d m = Lib.keeps e m := by
      unfold Lib.keeps
      cases m with
      | zero => simp
      | succ m => rw [h (m + 1) (by omega), show m + 1 - 1 = m by omega, h m (by omega)]
    rw [this]
theorem compact_snoc (l : List (List UInt8)) (x : List UInt8) : Lib.compact (l ++ [x]) = Lib.compact l ++ (match l.getLast? with | none => [x] | some y => if x = y then [] else [x]) := by
  unfold Lib.compact
  rw [List.length_append, List.length_singleton, Lib.compactUpTo_succ]
  congr 1
  · refine upTo_congr fun j hj => ?_
    rw [getElem!_pos _ j (by simp; omega), getElem!_pos _ j (by simpa using hj)]
    simp [List.getElem_append_left hj]
  · have hx : (l ++ [x]).toArray[l.length]! = x := by
      rw [getElem!_pos _ l.length (by simp)]; simp
    rw [hx]
    rcases snoc_cases l with rfl | ⟨m, y, rfl⟩
    · simp [Lib.keeps]
    · have hy : (m ++ [y] ++ [x]).toArray[(m ++ [y]).length - 1]! = y := by
        rw [getElem!_pos _ _ (by simp)]
        simp
      rw [List.getLast?_concat]
      unfold Lib.keeps
      rw [hx, hy]
      by_cases e : x = y
      · simp [e]
      · simp [e]
theorem keys_compact (l : List EB) : Lib.compact (l.map fun e => e.k.data.toList) = keysL l := by
  have go : ∀ n, ∀ l : List EB, l.length = n → Lib.compact (l.map fun e => e.k.data.toList) = keysL l := by
    intro n
    induction n with
    | zero => intro l h; rw [List.length_eq_zero_iff.1 h]; rfl
    | succ n ih =>
      intro l h
      rcases snoc_cases l with rfl | ⟨m, e, rfl⟩
      · simp at h
      · rw [List.map_append, List.map_singleton, compact_snoc, keys_snoc, ih m (by simpa using h)]
        congr 1
        rw [List.getLast?_map]
        cases m.getLast? <;> rfl
  exact go _ l rfl
end Go.Proofs.YteimllgoelleeaaGreatDoor
