/- Mathematics of layer 8: the encoding of a block (encL), what some bytes are read as (readW), the document's own reading (refRead), that the two are one, and rows (splitF). -/
import Derived.Test.YtldkpomkgmilbaaVMath
set_option linter.unusedSimpArgs false
set_option linter.unusedVariables false
namespace Go.Proofs.Ytldkpomkgmilbaa

structure PR where
  k : List UInt8
  v : List UInt8
theorem PR.eq {p q : PR} (h : p.k = q.k) (h' : p.v = q.v) : p = q := by cases p; cases q; simp_all

-- the order of texts
theorem less_cmp : ∀ a b : List UInt8, Op.bytesLess a b = decide (Lib.compareBytes a b < 0)
  | [], [] => by simp [Op.bytesLess, Lib.compareBytes]
  | [], _ :: _ => by simp [Op.bytesLess, Lib.compareBytes]
  | _ :: _, [] => by simp [Op.bytesLess, Lib.compareBytes]
  | a :: x, b :: y => by
    unfold Op.bytesLess Lib.compareBytes
    by_cases h1 : a < b
    · simp [h1]
    · by_cases h2 : b < a
      · have : ¬ a = b := by rintro rfl; exact h1 h2
        simp [h1, h2, this]
      · have : a = b := by rw [UInt8.lt_iff_toNat_lt] at h1 h2; exact UInt8.toNat_inj.1 (by omega)
        subst this
        simp [h1, less_cmp x y]
theorem less_irrefl : ∀ a : List UInt8, Op.bytesLess a a = false
  | [] => rfl
  | a :: x => by unfold Op.bytesLess; simp [less_irrefl x, UInt8.lt_iff_toNat_lt]
theorem less_trans : ∀ {a b c : List UInt8}, Op.bytesLess a b = true → Op.bytesLess b c = true → Op.bytesLess a c = true
  | _, [], [], h, _ => by simp [Op.bytesLess] at h
  | _, [], _ :: _, h, _ => by unfold Op.bytesLess at h; simp at h
  | _, _ :: _, [], _, h => by unfold Op.bytesLess at h; simp at h
  | [], _ :: _, _ :: _, _, _ => rfl
  | a :: x, b :: y, c :: z, h, k => by
    unfold Op.bytesLess at h k ⊢
    simp only [Bool.or_eq_true, decide_eq_true_eq, Bool.and_eq_true, beq_iff_eq, UInt8.lt_iff_toNat_lt] at h k ⊢
    rcases h with h | ⟨rfl, h⟩
    · rcases k with k | ⟨rfl, k⟩
      · exact Or.inl (by omega)
      · exact Or.inl h
    · rcases k with k | ⟨rfl, k⟩
      · exact Or.inl k
      · exact Or.inr ⟨rfl, less_trans h k⟩
theorem less_tri : ∀ a b : List UInt8, Op.bytesLess a b = true ∨ a = b ∨ Op.bytesLess b a = true
  | [], [] => Or.inr (Or.inl rfl)
  | [], _ :: _ => Or.inl rfl
  | _ :: _, [] => Or.inr (Or.inr rfl)
  | a :: x, b :: y => by
    unfold Op.bytesLess
    simp only [Bool.or_eq_true, decide_eq_true_eq, Bool.and_eq_true, beq_iff_eq, UInt8.lt_iff_toNat_lt, List.cons.injEq]
    by_cases h1 : a.toNat < b.toNat
    · exact Or.inl (Or.inl h1)
    by_cases h2 : b.toNat < a.toNat
    · exact Or.inr (Or.inr (Or.inl h2))
    obtain rfl : a = b := UInt8.toNat_inj.1 (by omega)
    rcases less_tri x y with h | h | h
    · exact Or.inl (Or.inr ⟨rfl, h⟩)
    · exact Or.inr (Or.inl ⟨rfl, h⟩)
    · exact Or.inr (Or.inr (Or.inr ⟨rfl, h⟩))
theorem less_asymm {a b : List UInt8} (h : Op.bytesLess a b = true) : Op.bytesLess b a = false := by
  cases hb : Op.bytesLess b a with
  | false => rfl
  | true => have := less_trans h hb; rw [less_irrefl] at this; cases this
theorem less_app (a : List UInt8) (b : UInt8) (r : List UInt8) : Op.bytesLess a (a ++ b :: r) = true := by
  induction a with
  | nil => rfl
  | cons c a ih => rw [List.cons_append]; unfold Op.bytesLess; simp [ih]
theorem less_at (p : List UInt8) (a b : UInt8) (x y : List UInt8) (h : a.toNat < b.toNat) : Op.bytesLess (p ++ a :: x) (p ++ b :: y) = true := by
  induction p with
  | nil => unfold Op.bytesLess; simp [UInt8.lt_iff_toNat_lt, h]
  | cons c p ih => rw [List.cons_append, List.cons_append]; unfold Op.bytesLess; simp [ih]
/-- Not greater: less, or the same. -/
theorem less_not {a b : List UInt8} : (Op.bytesLess a b || a == b) = !(Op.bytesLess b a) := by
  rcases less_tri a b with h | h | h
  · rw [h, less_asymm h]; rfl
  · subst h; simp [less_irrefl]
  · rw [h, less_asymm h]
    have : (a == b) = false := by rw [beq_eq_false_iff_ne]; rintro rfl; rw [less_irrefl] at h; cases h
    rw [this]; rfl
theorem cmp_less (a b : List UInt8) : (Lib.compareBytes a b < 0) ↔ Op.bytesLess a b = true := by rw [less_cmp]; simp
theorem cmp_geq (a b : List UInt8) : (0 ≤ Lib.compareBytes a b) ↔ Op.bytesLess a b = false := by rw [less_cmp]; simp

-- what two texts begin with alike
def comL : List UInt8 → List UInt8 → Nat
  | a :: x, b :: y => if a = b then comL x y + 1 else 0
  | [], _ => 0
  | _ :: _, [] => 0
theorem com_nil (a : List UInt8) : comL a [] = 0 := by cases a <;> rfl
theorem com_comm : ∀ a b : List UInt8, comL a b = comL b a
  | [], [] => rfl
  | [], _ :: _ => rfl
  | _ :: _, [] => rfl
  | a :: x, b :: y => by
    unfold comL
    by_cases h : a = b
    · rw [if_pos h, if_pos h.symm, com_comm x y]
    · rw [if_neg h, if_neg (fun e => h e.symm)]
theorem com_left : ∀ a b : List UInt8, comL a b ≤ a.length
  | [], _ => Nat.le_refl _
  | _ :: _, [] => Nat.zero_le _
  | a :: x, b :: y => by
    unfold comL
    have := com_left x y
    split <;> simp <;> omega
theorem com_right (a b : List UInt8) : comL a b ≤ b.length := by rw [com_comm]; exact com_left b a
theorem com_take : ∀ a b : List UInt8, a.take (comL a b) = b.take (comL a b)
  | [], _ => by simp [comL]
  | _ :: _, [] => by simp [comL]
  | a :: x, b :: y => by
    unfold comL
    by_cases h : a = b
    · subst h; rw [if_pos rfl, List.take_succ_cons, List.take_succ_cons, com_take x y]
    · rw [if_neg h]; rfl
theorem com_step (a b : List UInt8) (k : Nat) (hk : k ≤ comL a b) (ha : k < a.length) (hb : k < b.length) (h : a[k] = b[k]) : k < comL a b := by
  induction k generalizing a b with
  | zero =>
    cases a with
    | nil => simp at ha
    | cons x a =>
      cases b with
      | nil => simp at hb
      | cons y b =>
        unfold comL; rw [if_pos (by simpa using h)]; omega
  | succ k ih =>
    cases a with
    | nil => simp at ha
    | cons x a =>
      cases b with
      | nil => simp at hb
      | cons y b =>
        unfold comL at hk ⊢
        by_cases e : x = y
        · rw [if_pos e] at hk ⊢
          have := ih a b (by omega) (by simpa using ha) (by simpa using hb) (by simpa using h)
          omega
        · rw [if_neg e] at hk; omega
theorem com_stop (a b : List UInt8) (k : Nat) (hk : k ≤ comL a b) (h : k = a.length ∨ k = b.length ∨ ∃ (ha : k < a.length) (hb : k < b.length), a[k] ≠ b[k]) : k = comL a b := by
  rcases h with h | h | ⟨ha, hb, h⟩
  · have := com_left a b; omega
  · have := com_right a b; omega
  · rcases Nat.lt_or_ge k (comL a b) with hlt | hge
    · exfalso
      have e := com_take a b
      have e1 : (a.take (comL a b))[k]? = (b.take (comL a b))[k]? := by rw [e]
      rw [List.getElem?_take_of_lt hlt, List.getElem?_take_of_lt hlt, List.getElem?_eq_getElem ha, List.getElem?_eq_getElem hb] at e1
      exact h (Option.some.inj e1)
    · omega
theorem com_app (p r : List UInt8) : comL (p ++ r) p = p.length := by
  induction p with
  | nil => exact com_nil _
  | cons a p ih => rw [List.cons_append]; unfold comL; rw [if_pos rfl, ih]; rfl
theorem com_at (p x y : List UInt8) (a b : UInt8) (h : a ≠ b) : comL (p ++ a :: x) (p ++ b :: y) = p.length := by
  induction p with
  | nil => rw [List.nil_append, List.nil_append]; unfold comL; rw [if_neg h]; rfl
  | cons c p ih => rw [List.cons_append, List.cons_append]; unfold comL; rw [if_pos rfl, ih]; rfl
/-- A lesser text: it is the other's beginning, or differs from it where it ends being alike. -/
theorem less_parts : ∀ a b : List UInt8, Op.bytesLess a b = true → ∃ (c : UInt8) (r : List UInt8), b.drop (comL b a) = c :: r ∧ (comL b a = a.length ∨ ∃ d, a[comL b a]? = some d ∧ d.toNat < c.toNat)
  | _, [], h => by unfold Op.bytesLess at h; simp at h
  | [], b :: y, _ => ⟨b, y, by simp [comL], Or.inl (by simp [comL])⟩
  | a :: x, b :: y, h => by
    unfold Op.bytesLess at h
    simp only [Bool.or_eq_true, decide_eq_true_eq, Bool.and_eq_true, beq_iff_eq, UInt8.lt_iff_toNat_lt] at h
    unfold comL
    by_cases e : b = a
    · subst e
      rw [if_pos rfl]
      obtain ⟨c, r, h1, h2⟩ := less_parts x y (by rcases h with h | h; · omega
                                                  · exact h.2)
      refine ⟨c, r, by rw [List.drop_succ_cons]; exact h1, ?_⟩
      rcases h2 with h2 | ⟨h2, h3⟩
      · exact Or.inl (by rw [h2]; rfl)
      · exact Or.inr ⟨h2, by simpa using h3⟩
    · rw [if_neg e]
      refine ⟨b, y, rfl, Or.inr ⟨a, rfl, ?_⟩⟩
      rcases h with h | h
      · exact h
      · exact absurd h.1.symm e

-- the encoding
def headL (prev : List UInt8) (p : PR) : List UInt8 := putL (comL p.k prev) ++ putL (p.k.length - comL p.k prev) ++ putL p.v.length
def restL (prev : List UInt8) (p : PR) : List UInt8 := p.k.drop (comL p.k prev)
def oneL (prev : List UInt8) (p : PR) : List UInt8 := headL prev p ++ restL prev p ++ p.v
def encL : List UInt8 → List PR → List UInt8
  | _, [] => []
  | prev, p :: L => oneL prev p ++ encL p.k L
def lastK : List UInt8 → List PR → List UInt8
  | prev, [] => prev
  | _, p :: L => lastK p.k L
theorem lastK_snoc : ∀ (prev : List UInt8) (L : List PR) (p : PR), lastK prev (L ++ [p]) = p.k
  | _, [], _ => rfl
  | _, q :: L, p => lastK_snoc q.k L p
theorem enc_app : ∀ (prev : List UInt8) (L M : List PR), encL prev (L ++ M) = encL prev L ++ encL (lastK prev L) M
  | _, [], _ => rfl
  | prev, p :: L, M => by rw [List.cons_append, encL, encL, enc_app p.k L M, List.append_assoc]; rfl
theorem enc_snoc (prev : List UInt8) (L : List PR) (p : PR) : encL prev (L ++ [p]) = encL prev L ++ oneL (lastK prev L) p := by
  rw [enc_app]; simp [encL]
def incF : List UInt8 → List PR → Bool
  | _, [] => true
  | prev, p :: L => Op.bytesLess prev p.k && incF p.k L
def incB : List PR → Bool
  | [] => true
  | p :: L => incF p.k L
/-- Build's answer: the bytes, and an error. -/
def buildL (L : List PR) : List UInt8 × Int := if incB L = false then ([], 1) else if 40000 < (encL [] L).length then ([], 10) else (encL [] L, 0)
theorem put_pos (n : Nat) : 1 ≤ (putL n).length := by rw [putL_len]; exact szN_pos n
theorem put_le9 (n : Nat) : (putL n).length ≤ 9 := by rw [putL_len]; exact szN_le n
theorem head_len (prev : List UInt8) (p : PR) : 3 ≤ (headL prev p).length := by
  have h1 := put_pos (comL p.k prev)
  have h2 := put_pos (p.k.length - comL p.k prev)
  have h3 := put_pos p.v.length
  simp only [headL, List.length_append]; omega
theorem head_le (prev : List UInt8) (p : PR) : (headL prev p).length ≤ 27 := by
  have h1 := put_le9 (comL p.k prev)
  have h2 := put_le9 (p.k.length - comL p.k prev)
  have h3 := put_le9 p.v.length
  simp only [headL, List.length_append]; omega
theorem rest_len (prev : List UInt8) (p : PR) : (restL prev p).length = p.k.length - comL p.k prev := by simp [restL]
theorem one_len (prev : List UInt8) (p : PR) : (oneL prev p).length = (headL prev p).length + (p.k.length - comL p.k prev) + p.v.length := by
  simp only [oneL, List.length_append, rest_len]
theorem one_le (prev : List UInt8) (p : PR) : (oneL prev p).length ≤ 27 + p.k.length + p.v.length := by
  have := head_le prev p
  rw [one_len]; omega
theorem one_pos (prev : List UInt8) (p : PR) : 3 ≤ (oneL prev p).length := by
  have := head_len prev p
  rw [one_len]; omega
/-- Keys and values are at most as long as what came before and the encoding are together. -/
theorem enc_small : ∀ (prev : List UInt8) (L : List PR) (p : PR), p ∈ L → p.k.length ≤ prev.length + (encL prev L).length ∧ p.v.length ≤ (encL prev L).length
  | _, [], _, h => by simp at h
  | prev, q :: L, p, h => by
    have h1 := one_len prev q
    have h2 := com_right q.k prev
    rw [encL, List.length_append]
    rcases List.mem_cons.1 h with rfl | h
    · omega
    · have := enc_small q.k L p h
      omega
def allP (n : Nat) (L : List PR) : Prop := ∀ p ∈ L, p.k.length ≤ n ∧ p.v.length ≤ n

-- reading
def threeL (s : List UInt8) : Option (Nat × Nat × Nat × List UInt8) :=
  if (takeL s).2.2 = true then
    if (takeL (takeL s).2.1).2.2 = true then
      if (takeL (takeL (takeL s).2.1).2.1).2.2 = true then some ((takeL s).1, (takeL (takeL s).2.1).1, (takeL (takeL (takeL s).2.1).2.1).1, (takeL (takeL (takeL s).2.1).2.1).2.1) else none
    else none
  else none
theorem three_put (a b c : Nat) (x : List UInt8) (ha : a < 18446744073709551616) (hb : b < 18446744073709551616) (hc : c < 18446744073709551616) : threeL (putL a ++ putL b ++ putL c ++ x) = some (a, b, c, x) := by
  have e1 : takeL (putL a ++ putL b ++ putL c ++ x) = (a, putL b ++ (putL c ++ x), true) := by rw [List.append_assoc, List.append_assoc]; exact take_put a ha _
  have e2 : takeL (putL b ++ (putL c ++ x)) = (b, putL c ++ x, true) := take_put b hb _
  have e3 : takeL (putL c ++ x) = (c, x, true) := take_put c hc _
  unfold threeL
  rw [e1]; simp only [if_true]
  rw [e2]; simp only [if_true]
  rw [e3]; simp only [if_true]
theorem three_back {s : List UInt8} {a b c : Nat} {r : List UInt8} (h : threeL s = some (a, b, c, r)) : s = putL a ++ putL b ++ putL c ++ r := by
  unfold threeL at h
  split at h
  · next h1 =>
    split at h
    · next h2 =>
      split at h
      · next h3 =>
        simp only [Option.some.injEq, Prod.mk.injEq] at h
        obtain ⟨rfl, rfl, rfl, rfl⟩ := h
        have e3 := take_back _ _ _ (show takeL (takeL (takeL s).2.1).2.1 = (_, _, true) from by rw [← h3])
        have e2 := take_back _ _ _ (show takeL (takeL s).2.1 = (_, _, true) from by rw [← h2])
        have e1 := take_back _ _ _ (show takeL s = (_, _, true) from by rw [← h1])
        rw [List.append_assoc, List.append_assoc, e3, e2, e1]
      · simp at h
    · simp at h
  · simp at h
def firstL (s : List UInt8) : Option (Nat × List UInt8 × List UInt8 × List UInt8) :=
  match threeL s with
  | none => none
  | some (a, b, c, r) => if b + c ≤ r.length then some (a, r.take b, (r.drop b).take c, r.drop (b + c)) else none
theorem first_of (a : Nat) (rest v x : List UInt8) (ha : a < 18446744073709551616) (hb : rest.length < 18446744073709551616) (hc : v.length < 18446744073709551616) :
    firstL (putL a ++ putL rest.length ++ putL v.length ++ (rest ++ (v ++ x))) = some (a, rest, v, x) := by
  unfold firstL
  rw [three_put a _ _ _ ha hb hc]
  simp only [List.length_append]
  rw [if_pos (by omega), List.take_left', List.drop_left', List.take_left', ← List.append_assoc, List.drop_left'] <;> simp
theorem first_back {s : List UInt8} {a : Nat} {rest v x : List UInt8} (h : firstL s = some (a, rest, v, x)) : s = putL a ++ putL rest.length ++ putL v.length ++ (rest ++ (v ++ x)) := by
  unfold firstL at h
  split at h
  · simp at h
  · next b c r ht =>
    split at h
    · next hl =>
      simp only [Option.some.injEq, Prod.mk.injEq] at h
      obtain ⟨rfl, rfl, rfl, rfl⟩ := h
      have e := three_back ht
      have h1 : (r.take b).length = b := by rw [List.length_take]; omega
      have h2 : ((r.drop b).take c).length = c := by rw [List.length_take, List.length_drop]; omega
      rw [h1, h2, ← List.drop_drop, List.take_append_drop, List.take_append_drop]
      exact e
    · simp at h
theorem first_less {s : List UInt8} {a : Nat} {rest v x : List UInt8} (h : firstL s = some (a, rest, v, x)) : x.length + rest.length + v.length + 3 ≤ s.length := by
  have e := first_back h
  have h1 := put_pos a
  have h2 := put_pos rest.length
  have h3 := put_pos v.length
  rw [e]; simp only [List.length_append]; omega
theorem first_one (prev : List UInt8) (p : PR) (x : List UInt8) (hk : p.k.length < 18446744073709551616) (hv : p.v.length < 18446744073709551616) :
    firstL (oneL prev p ++ x) = some (comL p.k prev, restL prev p, p.v, x) := by
  have e : oneL prev p ++ x = putL (comL p.k prev) ++ putL (restL prev p).length ++ putL p.v.length ++ (restL prev p ++ (p.v ++ x)) := by
    rw [oneL, headL, rest_len, List.append_assoc, List.append_assoc]
  have h1 := com_left p.k prev
  rw [e]
  exact first_of _ _ _ _ (by omega) (by rw [rest_len]; omega) hv
theorem getD_at (l : List UInt8) (a : Nat) (h : a < l.length) : l.getD a 0 = l[a] := by rw [List.getD_eq_getElem?_getD, List.getElem?_eq_getElem h]; rfl
/-- Does a pair follow the key ahead of it? -/
def followsB (a : Nat) (rest key : List UInt8) (fst : Bool) : Bool :=
  if key.length < a then false else match rest with
  | [] => fst
  | c :: _ => decide (a = key.length) || decide ((key.getD a 0).toNat < c.toNat)
theorem follows_first (p : PR) : followsB (comL p.k []) (restL [] p) [] true = true := by
  unfold followsB restL
  rw [com_nil, if_neg (by simp)]
  split <;> simp
theorem follows_less {prev : List UInt8} {p : PR} (h : Op.bytesLess prev p.k = true) : followsB (comL p.k prev) (restL prev p) prev false = true := by
  obtain ⟨c, r, h1, h2⟩ := less_parts prev p.k h
  unfold followsB restL
  rw [if_neg (by have := com_right p.k prev; omega), h1]
  simp only []
  rcases h2 with h2 | ⟨d, h2, h3⟩
  · rw [decide_eq_true h2]; rfl
  · have : (prev.getD (comL p.k prev) 0).toNat < c.toNat := by rw [List.getD_eq_getElem?_getD, h2]; exact h3
    rw [decide_eq_true this]; simp
theorem follows_back {a : Nat} {rest key : List UInt8} {fst : Bool} (h : followsB a rest key fst = true) (hf : fst = true → key = []) :
    comL (key.take a ++ rest) key = a ∧ (key.take a ++ rest).drop a = rest ∧ a ≤ key.length ∧ (fst = false → Op.bytesLess key (key.take a ++ rest) = true) := by
  unfold followsB at h
  split at h
  · cases h
  · next ha =>
    have hl : (key.take a).length = a := by rw [List.length_take]; omega
    have hd : (key.take a ++ rest).drop a = rest := by rw [List.drop_left' hl]
    split at h
    · have := hf h
      subst this
      simp at ha
      subst ha
      exact ⟨by simp [com_nil], hd, by simp, fun e => by rw [h] at e; cases e⟩
    · next c r =>
      rw [Bool.or_eq_true, decide_eq_true_eq, decide_eq_true_eq] at h
      by_cases e : a = key.length
      · have hk : key.take a = key := by rw [e, List.take_length]
        rw [hk]
        exact ⟨by rw [com_app, e], by rw [e, List.drop_left'] ; rfl, by omega, fun _ => less_app _ _ _⟩
      · have hlt : a < key.length := by omega
        have hc : key[a].toNat < c.toNat := by
          rcases h with h | h
          · exact absurd h e
          · rwa [getD_at _ _ hlt] at h
        have hk : key = key.take a ++ key[a] :: key.drop (a + 1) := by rw [← List.drop_eq_getElem_cons hlt, List.take_append_drop]
        refine ⟨?_, hd, by omega, fun _ => ?_⟩
        · have := com_at (key.take a) r (key.drop (a + 1)) c key[a] (by rintro rfl; omega)
          rw [← hk, hl] at this
          exact this
        · have := less_at (key.take a) key[a] c (key.drop (a + 1)) r hc
          rwa [← hk] at this
def readW (key : List UInt8) (fst : Bool) (s : List UInt8) : Option (List PR) :=
  if hs : s = [] then some [] else
  match h : firstL s with
  | none => none
  | some (a, rest, v, x) => if followsB a rest key fst = true then (readW (key.take a ++ rest) false x).map (fun l => ⟨key.take a ++ rest, v⟩ :: l) else none
termination_by s.length
decreasing_by have := first_less h; omega
theorem readW_nil (key : List UInt8) (fst : Bool) : readW key fst [] = some [] := by rw [readW]; simp
theorem readW_none {key : List UInt8} {fst : Bool} {s : List UInt8} (hs : s ≠ []) (h : firstL s = none) : readW key fst s = none := by
  rw [readW, dif_neg hs]; split
  · rfl
  · next e => rw [h] at e; cases e
theorem readW_not {key : List UInt8} {fst : Bool} {s : List UInt8} {a : Nat} {rest v x : List UInt8} (hs : s ≠ []) (h : firstL s = some (a, rest, v, x)) (hf : followsB a rest key fst = false) : readW key fst s = none := by
  rw [readW, dif_neg hs]; split
  · rfl
  · next e => rw [h] at e; cases e; rw [if_neg (by rw [hf]; simp)]
theorem readW_next {key : List UInt8} {fst : Bool} {s : List UInt8} {a : Nat} {rest v x : List UInt8} (hs : s ≠ []) (h : firstL s = some (a, rest, v, x)) (hf : followsB a rest key fst = true) :
    readW key fst s = (readW (key.take a ++ rest) false x).map (fun l => ⟨key.take a ++ rest, v⟩ :: l) := by
  rw [readW, dif_neg hs]; split
  · next e => rw [h] at e; cases e
  · next e => rw [h] at e; cases e; rw [if_pos hf]
/-- What is read was built so. -/
theorem read_back : ∀ (n : Nat) (s : List UInt8) (key : List UInt8) (fst : Bool) (L : List PR), s.length ≤ n → (fst = true → key = []) → readW key fst s = some L →
    encL key L = s ∧ (if fst = true then incB L = true else incF key L = true) := by
  intro n
  induction n with
  | zero =>
    intro s key fst L hn hf h
    obtain rfl : s = [] := List.eq_nil_of_length_eq_zero (by omega)
    rw [readW_nil] at h
    cases h
    cases fst <;> simp [encL, incB, incF]
  | succ n ih =>
    intro s key fst L hn hf h
    by_cases hs : s = []
    · subst hs
      rw [readW_nil] at h
      cases h
      cases fst <;> simp [encL, incB, incF]
    cases hq : firstL s with
    | none => rw [readW_none hs hq] at h; cases h
    | some q =>
      obtain ⟨a, rest, v, x⟩ := q
      cases hw : followsB a rest key fst with
      | false => rw [readW_not hs hq hw] at h; cases h
      | true =>
        rw [readW_next hs hq hw] at h
        cases hr : readW (key.take a ++ rest) false x with
        | none => rw [hr] at h; cases h
        | some M =>
          rw [hr] at h
          simp only [Option.map_some, Option.some.injEq] at h
          subst h
          have hl := first_less hq
          obtain ⟨h1, h2⟩ := ih x _ false M (by omega) (by simp) hr
          obtain ⟨f1, f2, f3, f4⟩ := follows_back hw hf
          have e := first_back hq
          simp only [Bool.false_eq_true, if_false] at h2
          constructor
          · rw [encL, h1, oneL, headL, restL]
            simp only []
            rw [f1, f2, e]
            have : (key.take a ++ rest).length - a = rest.length := by rw [List.length_append, List.length_take]; omega
            rw [this]; simp [List.append_assoc]
          · cases fst with
            | true => simpa [incB] using h2
            | false => simp [incF, f4 rfl, h2]
/-- Pairs that rise are read as they were built. -/
theorem read_enc : ∀ (L : List PR) (key : List UInt8), (∀ p ∈ L, p.k.length < 18446744073709551616 ∧ p.v.length < 18446744073709551616) → incF key L = true → readW key false (encL key L) = some L
  | [], _, _, _ => readW_nil _ _
  | p :: L, key, hs, hi => by
    simp only [incF, Bool.and_eq_true] at hi
    have h1 := hs p (by simp)
    have hone := one_pos key p
    have hne : encL key (p :: L) ≠ [] := by
      intro e
      have := congrArg List.length e
      rw [encL, List.length_append] at this
      rw [List.length_nil] at this; omega
    have hq : firstL (encL key (p :: L)) = _ := first_one key p (encL p.k L) h1.1 h1.2
    rw [readW_next hne hq (follows_less hi.1)]
    have e : key.take (comL p.k key) ++ restL key p = p.k := by rw [← com_take, restL, List.take_append_drop]
    rw [e, read_enc L p.k (fun q hq => hs q (by simp [hq])) hi.2]
    rfl
theorem read_build (L : List PR) (hs : ∀ p ∈ L, p.k.length < 18446744073709551616 ∧ p.v.length < 18446744073709551616) (hi : incB L = true) : readW [] true (encL [] L) = some L := by
  cases L with
  | nil => exact readW_nil _ _
  | cons p L =>
    have h1 := hs p (by simp)
    have hone := one_pos [] p
    have hne : encL [] (p :: L) ≠ [] := by
      intro e
      have := congrArg List.length e
      rw [encL, List.length_append] at this
      rw [List.length_nil] at this; omega
    have hq : firstL (encL [] (p :: L)) = _ := first_one [] p (encL p.k L) h1.1 h1.2
    rw [readW_next hne hq (follows_first p)]
    have e : ([] : List UInt8).take (comL p.k []) ++ restL [] p = p.k := by rw [← com_take, restL, List.take_append_drop]
    rw [e, read_enc L p.k (fun q hq => hs q (by simp [hq])) hi]
    rfl
def readL (s : List UInt8) : Option (List PR) := readW [] true s
theorem readL_back {s : List UInt8} {L : List PR} (h : readL s = some L) : encL [] L = s ∧ incB L = true := by
  have := read_back s.length s [] true L (Nat.le_refl _) (fun _ => rfl) h
  simpa using this

-- the document's reading
def three4 (s : List UInt8) : Option (Nat × Nat × Nat × List UInt8) :=
  match threeL s with
  | none => none
  | some (a, b, c, r) => if a ≤ 40000 ∧ b ≤ 40000 ∧ c ≤ 40000 then some (a, b, c, r) else none
theorem three_less {s : List UInt8} {a b c : Nat} {r : List UInt8} (h : threeL s = some (a, b, c, r)) : r.length + 3 ≤ s.length := by
  have e := three_back h
  have h1 := put_pos a
  have h2 := put_pos b
  have h3 := put_pos c
  rw [e]; simp only [List.length_append]; omega
theorem three4_some {s : List UInt8} {a b c : Nat} {r : List UInt8} : three4 s = some (a, b, c, r) ↔ threeL s = some (a, b, c, r) ∧ a ≤ 40000 ∧ b ≤ 40000 ∧ c ≤ 40000 := by
  unfold three4
  constructor
  · intro h
    split at h
    · cases h
    · next a' b' c' r' e =>
      split at h
      · next hl => cases h; exact ⟨e, hl⟩
      · cases h
  · rintro ⟨e, hl⟩
    rw [e]; simp only []
    rw [if_pos hl]
def parseW (last : List UInt8) (s : List UInt8) : Option (List PR) :=
  if hs : s = [] then some [] else
  match h : three4 s with
  | none => none
  | some (a, b, c, r) => if a ≤ last.length ∧ b + c ≤ r.length then (parseW (last.take a ++ r.take b) (r.drop (b + c))).map (fun l => ⟨last.take a ++ r.take b, (r.drop b).take c⟩ :: l) else none
termination_by s.length
decreasing_by have := three_less (three4_some.1 h).1; rw [List.length_drop]; omega
theorem parse_nil (key : List UInt8) : parseW key [] = some [] := by rw [parseW]; simp
theorem parse_none {last s : List UInt8} (hs : s ≠ []) (h : three4 s = none) : parseW last s = none := by
  rw [parseW, dif_neg hs]; split
  · rfl
  · next e => rw [h] at e; cases e
theorem parse_not {last s : List UInt8} {a b c : Nat} {r : List UInt8} (hs : s ≠ []) (h : three4 s = some (a, b, c, r)) (hf : ¬ (a ≤ last.length ∧ b + c ≤ r.length)) : parseW last s = none := by
  rw [parseW, dif_neg hs]; split
  · rfl
  · next e => rw [h] at e; cases e; rw [if_neg hf]
theorem parse_next {last s : List UInt8} {a b c : Nat} {r : List UInt8} (hs : s ≠ []) (h : three4 s = some (a, b, c, r)) (hf : a ≤ last.length ∧ b + c ≤ r.length) :
    parseW last s = (parseW (last.take a ++ r.take b) (r.drop (b + c))).map (fun l => ⟨last.take a ++ r.take b, (r.drop b).take c⟩ :: l) := by
  rw [parseW, dif_neg hs]; split
  · next e => rw [h] at e; cases e
  · next e => rw [h] at e; cases e; rw [if_pos hf]
theorem parse_enc : ∀ (L : List PR) (key : List UInt8), allP 40000 L → parseW key (encL key L) = some L
  | [], _, _ => parse_nil _
  | p :: L, key, hs => by
    have h1 := hs p (by simp)
    have hone := one_pos key p
    have hne : encL key (p :: L) ≠ [] := by
      intro e
      have := congrArg List.length e
      rw [encL, List.length_append] at this
      rw [List.length_nil] at this; omega
    have hc1 := com_left p.k key
    have hc2 := com_right p.k key
    have e : encL key (p :: L) = putL (comL p.k key) ++ putL (restL key p).length ++ putL p.v.length ++ (restL key p ++ (p.v ++ encL p.k L)) := by
      rw [encL, oneL, headL, rest_len, List.append_assoc, List.append_assoc]
    have ht : three4 (encL key (p :: L)) = some (comL p.k key, (restL key p).length, p.v.length, restL key p ++ (p.v ++ encL p.k L)) := by
      rw [three4_some, e]
      exact ⟨three_put _ _ _ _ (by omega) (by rw [rest_len]; omega) (by omega), by omega, by rw [rest_len]; omega, by omega⟩
    rw [parse_next hne ht ⟨hc2, by simp only [List.length_append]; omega⟩]
    have e1 : key.take (comL p.k key) ++ restL key p = p.k := by rw [← com_take, restL, List.take_append_drop]
    rw [List.take_left', List.drop_left', List.take_left', ← List.append_assoc, List.drop_left', e1, parse_enc L p.k (fun q hq => hs q (by simp [hq]))]
    all_goals simp
def refRead (s : List UInt8) : Option (List PR) :=
  match parseW [] s with
  | none => none
  | some L => if buildL L = (s, 0) then some L else none
theorem build_ok {L : List PR} {s : List UInt8} (h : buildL L = (s, 0)) : incB L = true ∧ encL [] L = s ∧ s.length ≤ 40000 := by
  unfold buildL at h
  cases hi : incB L with
  | false => rw [hi, if_pos rfl] at h; simp at h
  | true =>
    rw [hi, if_neg (by simp)] at h
    split at h
    · simp at h
    · simp only [Prod.mk.injEq, and_true] at h; exact ⟨rfl, h, by rw [← h]; omega⟩
theorem build_of {L : List PR} (hi : incB L = true) (hl : (encL [] L).length ≤ 40000) : buildL L = (encL [] L, 0) := by
  unfold buildL; rw [if_neg (by rw [hi]; simp), if_neg (by omega)]
theorem ref_read (s : List UInt8) (hs : s.length ≤ 40000) : refRead s = readL s := by
  cases h : readL s with
  | some L =>
    obtain ⟨h1, h2⟩ := readL_back h
    have ha : allP 40000 L := fun p hp => by
      have := enc_small [] L p hp
      rw [h1] at this
      simp at this; omega
    have hp := parse_enc L [] ha
    rw [h1] at hp
    unfold refRead
    rw [hp]; simp only []
    rw [if_pos (by rw [build_of h2 (by rw [h1]; exact hs), h1])]
  | none =>
    unfold refRead
    cases hp : parseW [] s with
    | none => rfl
    | some L =>
      simp only []
      rw [if_neg]
      intro hb
      obtain ⟨h1, h2, h3⟩ := build_ok hb
      have := read_build L (fun p hp => by
        have := enc_small [] L p hp
        rw [h2] at this
        simp at this; omega) h1
      rw [h2] at this
      rw [readL, this] at h; cases h
/-- Built bytes that begin with others: the pairs do. -/
theorem enc_prefix : ∀ (m r : List PR) (prev x : List UInt8), (∀ p ∈ m, p.k.length < 18446744073709551616 ∧ p.v.length < 18446744073709551616) → (∀ p ∈ r, p.k.length < 18446744073709551616 ∧ p.v.length < 18446744073709551616) →
    encL prev m ++ x = encL prev r → ∃ r', r = m ++ r' ∧ x = encL (lastK prev m) r'
  | [], r, prev, x, _, _, h => ⟨r, rfl, by simpa [encL, lastK] using h⟩
  | p :: m, r, prev, x, hm, hr, h => by
    cases r with
    | nil =>
      exfalso
      have := congrArg List.length h
      have h3 := one_pos prev p
      simp only [encL, List.length_append, List.length_nil] at this; omega
    | cons q r =>
      rw [encL, encL, List.append_assoc] at h
      have h1 := hm p (by simp)
      have h2 := hr q (by simp)
      have f1 := first_one prev p (encL p.k m ++ x) h1.1 h1.2
      rw [h, first_one prev q (encL q.k r) h2.1 h2.2] at f1
      simp only [Option.some.injEq, Prod.mk.injEq] at f1
      obtain ⟨g1, g2, g3, g4⟩ := f1
      have hk : q.k = p.k := by
        have e1 : prev.take (comL p.k prev) ++ restL prev p = p.k := by rw [← com_take, restL, List.take_append_drop]
        have e2 : prev.take (comL q.k prev) ++ restL prev q = q.k := by rw [← com_take, restL, List.take_append_drop]
        rw [← e1, ← e2, g1, g2]
      have hpq : q = p := PR.eq hk g3
      subst hpq
      obtain ⟨r', hr', hx⟩ := enc_prefix m r q.k x (fun p hp => hm p (by simp [hp])) (fun p hp => hr p (by simp [hp])) g4.symm
      exact ⟨r', by rw [hr']; rfl, hx⟩

-- rows
def tot : List PR → Nat
  | [] => 0
  | p :: L => p.k.length + p.v.length + tot L
theorem tot_app : ∀ L M : List PR, tot (L ++ M) = tot L + tot M
  | [], M => by simp [tot]
  | p :: L, M => by rw [List.cons_append, tot, tot, tot_app L M]; omega
theorem tot_snoc (L : List PR) (p : PR) : tot (L ++ [p]) = tot L + p.k.length + p.v.length := by rw [tot_app]; simp [tot]; omega
theorem tot_take (L : List PR) (k : Nat) : tot (L.take k) ≤ tot L := by
  have := tot_app (L.take k) (L.drop k)
  rw [List.take_append_drop] at this; omega
def splitF (most : Int) : List PR → List PR → List (List PR)
  | [], row => if row = [] then [] else [row]
  | p :: L, row => if most ≤ (tot (row ++ [p]) : Nat) then (row ++ [p]) :: splitF most L [] else splitF most L (row ++ [p])
theorem split_join (most : Int) : ∀ (L row : List PR), (splitF most L row).flatten = row ++ L
  | [], row => by
    unfold splitF
    by_cases h : row = []
    · rw [if_pos h, h]; rfl
    · rw [if_neg h]; simp
  | p :: L, row => by
    unfold splitF
    split
    · rw [List.flatten_cons, split_join most L []]; simp
    · rw [split_join most L (row ++ [p])]; simp
theorem split_full (most : Int) : ∀ (L row : List PR), (∀ k, 0 < k → k ≤ row.length → ((tot (row.take k) : Nat) : Int) < most) →
    (∀ r ∈ splitF most L row, r ≠ [] ∧ ∀ k, 0 < k → k < r.length → ((tot (r.take k) : Nat) : Int) < most) ∧ (∀ r ∈ (splitF most L row).dropLast, most ≤ ((tot r : Nat) : Int))
  | [], row, h => by
    unfold splitF
    by_cases h0 : row = []
    · rw [if_pos h0]; simp
    · rw [if_neg h0]
      refine ⟨fun r hr => ?_, by simp⟩
      rw [List.mem_singleton] at hr
      subst hr
      exact ⟨h0, fun k h1 h2 => h k h1 (by omega)⟩
  | p :: L, row, h => by
    have hin : ∀ k, 0 < k → k < (row ++ [p]).length → ((tot ((row ++ [p]).take k) : Nat) : Int) < most := fun k h1 h2 => by
      rw [List.length_append, List.length_singleton] at h2
      rw [List.take_append_of_le_length (by omega)]
      exact h k h1 (by omega)
    unfold splitF
    split
    · next hf =>
      obtain ⟨i1, i2⟩ := split_full most L [] (by intro k h1 h2; simp at h2; omega)
      refine ⟨fun r hr => ?_, fun r hr => ?_⟩
      · rcases List.mem_cons.1 hr with rfl | hr
        · exact ⟨by simp, hin⟩
        · exact i1 r hr
      · by_cases he : splitF most L [] = []
        · rw [he] at hr; simp at hr
        · rw [List.dropLast_cons_of_ne_nil he] at hr
          rcases List.mem_cons.1 hr with rfl | hr
          · exact hf
          · exact i2 r hr
    · next hf =>
      refine split_full most L (row ++ [p]) fun k h1 h2 => ?_
      by_cases hk : k = (row ++ [p]).length
      · rw [hk, List.take_length]; omega
      · exact hin k h1 (by omega)
theorem split_len (most : Int) : ∀ (L row : List PR), (splitF most L row).length ≤ L.length + 1
  | [], row => by unfold splitF; split <;> simp
  | p :: L, row => by
    unfold splitF
    split
    · have := split_len most L []; simp; omega
    · have := split_len most L (row ++ [p]); simp; omega

-- of some pairs those that rise
def risF : List PR → List PR → List PR
  | out, [] => out
  | out, p :: L => risF (if out = [] ∨ Op.bytesLess (lastK [] out) p.k = true then out ++ [p] else out) L
theorem incF_snoc : ∀ (prev : List UInt8) (L : List PR) (p : PR), incF prev (L ++ [p]) = (incF prev L && Op.bytesLess (lastK prev L) p.k)
  | _, [], p => by simp [incF, lastK]
  | prev, q :: L, p => by rw [List.cons_append, incF, incF_snoc q.k L p, incF, lastK, Bool.and_assoc]
theorem incB_snoc (L : List PR) (p : PR) (h : incB L = true) (h' : L = [] ∨ Op.bytesLess (lastK [] L) p.k = true) : incB (L ++ [p]) = true := by
  cases L with
  | nil => rfl
  | cons q L =>
    rcases h' with h' | h'
    · cases h'
    · show incF q.k (L ++ [p]) = true
      rw [incF_snoc]
      simp only [incB] at h
      rw [h]; exact h'
theorem ris_inc : ∀ (L out : List PR), incB out = true → incB (risF out L) = true
  | [], _, h => h
  | p :: L, out, h => by
    unfold risF
    split
    · next h' => exact ris_inc L _ (incB_snoc out p h h')
    · exact ris_inc L _ h
theorem ris_mem : ∀ (L out : List PR) (q : PR), q ∈ risF out L → q ∈ out ∨ q ∈ L
  | [], _, _, h => Or.inl h
  | p :: L, out, q, h => by
    unfold risF at h
    rcases ris_mem L _ q h with h | h
    · split at h
      · rcases List.mem_append.1 h with h | h
        · exact Or.inl h
        · exact Or.inr (by simp at h; simp [h])
      · exact Or.inl h
    · exact Or.inr (by simp [h])
theorem ris_len : ∀ (L out : List PR), (risF out L).length ≤ out.length + L.length
  | [], _ => by simp [risF]
  | p :: L, out => by
    unfold risF
    have := ris_len L (if out = [] ∨ Op.bytesLess (lastK [] out) p.k = true then out ++ [p] else out)
    split at this <;> split <;> simp_all <;> omega
/-- Of pairs that rise each one's key is less than those of all behind it. -/
theorem incF_all : ∀ (L : List PR) (prev : List UInt8), incF prev L = true → ∀ p ∈ L, Op.bytesLess prev p.k = true
  | [], _, _, _, h => by simp at h
  | q :: L, prev, h, p, hp => by
    simp only [incF, Bool.and_eq_true] at h
    rcases List.mem_cons.1 hp with rfl | hp
    · exact h.1
    · exact less_trans h.1 (incF_all L q.k h.2 p hp)
theorem incF_pair : ∀ (L : List PR) (prev : List UInt8), incF prev L = true → L.Pairwise (fun a b => Op.bytesLess a.k b.k = true)
  | [], _, _ => List.Pairwise.nil
  | q :: L, prev, h => by
    simp only [incF, Bool.and_eq_true] at h
    exact List.Pairwise.cons (fun p hp => incF_all L q.k h.2 p hp) (incF_pair L q.k h.2)
theorem incB_pair (L : List PR) (h : incB L = true) : L.Pairwise (fun a b => Op.bytesLess a.k b.k = true) := by
  cases L with
  | nil => exact List.Pairwise.nil
  | cons q L => exact List.Pairwise.cons (fun p hp => incF_all L q.k h p hp) (incF_pair L q.k h)
/-- The value of a key. -/
def findL (key : List UInt8) (L : List PR) : Option (List UInt8) := (L.find? (fun p => p.k == key)).map PR.v
theorem find_at {L : List PR} (h : L.Pairwise (fun a b => Op.bytesLess a.k b.k = true)) : ∀ {p : PR}, p ∈ L → L.filter (fun q => q.k == p.k) = [p] := by
  induction h with
  | nil => intro p hp; simp at hp
  | @cons q L hq hL ih =>
    intro p hp
    rcases List.mem_cons.1 hp with rfl | hp
    · rw [List.filter_cons_of_pos (by simp)]
      congr 1
      rw [List.filter_eq_nil_iff]
      intro r hr
      have := hq r hr
      intro e
      rw [beq_iff_eq] at e
      rw [e, less_irrefl] at this; cases this
    · have := hq p hp
      rw [List.filter_cons_of_neg (by rw [beq_iff_eq]; intro e; rw [e, less_irrefl] at this; cases this)]
      exact ih hp
/-- Is a key wanted? -/
def betB (lo hi : List UInt8) (k : List UInt8) : Bool := !(Op.bytesLess k lo) && (hi == [] || Op.bytesLess k hi)
theorem parts_all {lo hi : List UInt8} (hlh : Op.bytesLess hi lo = false) (hne : hi ≠ []) : ∀ (L : List PR), L.Pairwise (fun a b => Op.bytesLess a.k b.k = true) →
    L.filter (fun p => betB lo hi p.k) ++ L.filter (fun p => betB hi [] p.k) = L.filter (fun p => betB lo [] p.k) := by
  intro L h
  have e1 : ∀ k, betB lo [] k = !(Op.bytesLess k lo) := fun k => by simp [betB]
  have e2 : ∀ k, betB hi [] k = !(Op.bytesLess k hi) := fun k => by simp [betB]
  have e3 : ∀ k, betB lo hi k = (!(Op.bytesLess k lo) && Op.bytesLess k hi) := fun k => by
    have : (hi == []) = false := by rw [beq_eq_false_iff_ne]; exact hne
    simp [betB, this]
  simp only [e1, e2, e3]
  induction h with
  | nil => rfl
  | @cons q L hq hL ih =>
    by_cases h1 : Op.bytesLess q.k hi = true
    · cases h2 : Op.bytesLess q.k lo with
      | false =>
        rw [List.filter_cons_of_pos (by simp [h1, h2]), List.filter_cons_of_neg (by simp [h1]), List.filter_cons_of_pos (by simp [h2]), List.cons_append, ih]
      | true =>
        rw [List.filter_cons_of_neg (by simp [h2]), List.filter_cons_of_neg (by simp [h1]), List.filter_cons_of_neg (by simp [h2]), ih]
    · -- from here on all are at or above hi
      have h0 : Op.bytesLess q.k hi = false := by simpa using h1
      have hall : ∀ p ∈ q :: L, Op.bytesLess p.k hi = false ∧ Op.bytesLess p.k lo = false := by
        intro p hp
        have hp1 : Op.bytesLess p.k hi = false := by
          rcases List.mem_cons.1 hp with rfl | hp
          · exact h0
          · cases hx : Op.bytesLess p.k hi with
            | false => rfl
            | true => rw [less_trans (hq p hp) hx] at h0; cases h0
        refine ⟨hp1, ?_⟩
        cases hx : Op.bytesLess p.k lo with
        | false => rfl
        | true =>
          rcases less_tri lo hi with h | h | h
          · rw [less_trans hx h] at hp1; cases hp1
          · rw [h, hp1] at hx; cases hx
          · rw [h] at hlh; cases hlh
      rw [List.filter_eq_nil_iff.2 (fun p hp => by rw [(hall p hp).1]; simp), List.nil_append]
      apply List.filter_congr
      intro p hp
      rw [(hall p hp).1, (hall p hp).2]
end Go.Proofs.Ytldkpomkgmilbaa
