/- VMath, BMath, TMath, CMath, CFrame, laid together. -/
import Derived.Lib.Bytealg
set_option linter.unusedSimpArgs false
set_option linter.unusedVariables false
/- Mathematics of layer 3: a number's bytes (putL), what bytes tell (takeL), and that their order is the numbers'. -/
namespace Go.Proofs.YteimllgoelleeaaGreatDoor

def bigL (n : Nat) : Nat → List UInt8
  | 0 => []
  | k + 1 => bigL (n / 256) k ++ [UInt8.ofNat (n % 256)]
def sumL (l : List UInt8) : Nat := l.foldl (fun a b => a * 256 + b.toNat) 0
theorem sumL_snoc (l : List UInt8) (b : UInt8) : sumL (l ++ [b]) = sumL l * 256 + b.toNat := by simp [sumL]
theorem foldl_from (l : List UInt8) : ∀ a : Nat, l.foldl (fun a b => a * 256 + b.toNat) a = a * 256 ^ l.length + sumL l := by
  induction l with
  | nil => intro a; simp [sumL]
  | cons b l ih =>
    intro a
    simp only [List.foldl_cons, List.length_cons, sumL, Nat.zero_mul, Nat.zero_add]
    rw [ih, ih b.toNat, Nat.pow_succ, Nat.add_mul, Nat.mul_assoc, Nat.mul_comm 256, Nat.add_assoc]
theorem sumL_cons (b : UInt8) (l : List UInt8) : sumL (b :: l) = b.toNat * 256 ^ l.length + sumL l := by
  show (b :: l).foldl _ 0 = _
  rw [List.foldl_cons, foldl_from]; simp
theorem sumL_lt (l : List UInt8) : sumL l < 256 ^ l.length := by
  induction l with
  | nil => simp [sumL]
  | cons b l ih =>
    rw [sumL_cons, List.length_cons, Nat.pow_succ]
    have := b.toNat_lt
    have h2 : b.toNat * 256 ^ l.length ≤ 255 * 256 ^ l.length := Nat.mul_le_mul_right _ (by omega)
    omega
theorem bigL_len (k : Nat) : ∀ n, (bigL n k).length = k := by
  induction k with
  | zero => intro n; rfl
  | succ k ih => intro n; simp [bigL, ih]
theorem sum_big (k : Nat) : ∀ n, sumL (bigL n k) = n % 256 ^ k := by
  induction k with
  | zero => intro n; simp [bigL, sumL, Nat.mod_one]
  | succ k ih =>
    intro n
    rw [bigL, sumL_snoc, ih]
    have h1 : (UInt8.ofNat (n % 256)).toNat = n % 256 := by simp
    rw [h1, Nat.pow_succ, Nat.mul_comm (256 ^ k) 256, Nat.mod_mul]
    omega
theorem bigL_cons (k : Nat) : ∀ n, bigL n (k + 1) = UInt8.ofNat (n / 256 ^ k % 256) :: bigL n k := by
  induction k with
  | zero => intro n; simp [bigL]
  | succ k ih =>
    intro n
    rw [bigL, ih, bigL, List.cons_append, Nat.div_div_eq_div_mul, Nat.pow_succ, Nat.mul_comm 256]

def szN (n : Nat) : Nat :=
  if n < 241 then 1 else if n < 2288 then 2 else if n < 67824 then 3 else if n < 16777216 then 4 else if n < 4294967296 then 5 else
  if n < 1099511627776 then 6 else if n < 281474976710656 then 7 else if n < 72057594037927936 then 8 else 9
theorem szN_le (n : Nat) : szN n ≤ 9 := by unfold szN; (repeat' split) <;> omega
theorem szN_pos (n : Nat) : 1 ≤ szN n := by unfold szN; (repeat' split) <;> omega
def putL (n : Nat) : List UInt8 :=
  if n < 241 then bigL n 1 else if n < 2288 then bigL (61456 + n) 2 else if n < 67824 then bigL (16316176 + n) 3 else UInt8.ofNat (246 + szN n) :: bigL n (szN n - 1)
theorem putL_len (n : Nat) : (putL n).length = szN n := by
  unfold putL
  by_cases h1 : n < 241
  · rw [if_pos h1, bigL_len]; simp [szN, h1]
  by_cases h2 : n < 2288
  · rw [if_neg h1, if_pos h2, bigL_len]; simp [szN, h1, h2]
  by_cases h3 : n < 67824
  · rw [if_neg h1, if_neg h2, if_pos h3, bigL_len]; simp [szN, h1, h2, h3]
  · rw [if_neg h1, if_neg h2, if_neg h3, List.length_cons, bigL_len]
    have := szN_pos n; omega
def kOf (b : UInt8) : Nat := if b.toNat < 241 then 1 else if b.toNat < 249 then 2 else if b.toNat = 249 then 3 else b.toNat - 246
theorem kOf_pos (b : UInt8) : 1 ≤ kOf b := by unfold kOf; (repeat' split) <;> omega
theorem kOf_le (b : UInt8) : kOf b ≤ 9 := by unfold kOf; have := b.toNat_lt; (repeat' split) <;> omega
def valL (l : List UInt8) : Nat := if l.length = 1 then sumL l else if l.length = 2 then sumL l - 61456 else if l.length = 3 then sumL (l.drop 1) + 2288 else sumL (l.drop 1)
def takeL : List UInt8 → Nat × List UInt8 × Bool
  | [] => (0, [], false)
  | b :: r => if (b :: r).length < kOf b then (0, [], false) else
    if putL (valL ((b :: r).take (kOf b))) = (b :: r).take (kOf b) then (valL ((b :: r).take (kOf b)), (b :: r).drop (kOf b), true) else (0, [], false)
theorem takeL_cons (b : UInt8) (r : List UInt8) : takeL (b :: r) = if (b :: r).length < kOf b then (0, [], false) else
    if putL (valL ((b :: r).take (kOf b))) = (b :: r).take (kOf b) then (valL ((b :: r).take (kOf b)), (b :: r).drop (kOf b), true) else (0, [], false) := rfl

theorem put_parts (n : Nat) (hn : n < 18446744073709551616) : ∃ b r, putL n = b :: r ∧ kOf b = szN n ∧ valL (b :: r) = n ∧
    b.toNat = (if n < 241 then n else if n < 2288 then (61456 + n) / 256 else if n < 67824 then 249 else 246 + szN n) ∧
    sumL (b :: r) = (if n < 241 then n else if n < 2288 then 61456 + n else if n < 67824 then 16316176 + n else (246 + szN n) * 256 ^ (szN n - 1) + n) := by
  unfold putL
  by_cases h1 : n < 241
  · refine ⟨UInt8.ofNat (n % 256), [], by rw [if_pos h1]; rfl, ?_, ?_, ?_, ?_⟩
    all_goals have e : (UInt8.ofNat (n % 256)).toNat = n := by simp; omega
    · unfold kOf szN; rw [e, if_pos h1, if_pos h1]
    · rw [valL, if_pos (by rfl), sumL_cons, e]; simp [sumL]
    · rw [e, if_pos h1]
    · rw [if_pos h1, sumL_cons, e]; simp [sumL]
  by_cases h2 : n < 2288
  · have e : ∃ b c, bigL (61456 + n) 2 = [b, c] ∧ b.toNat = (61456 + n) / 256 ∧ c.toNat = (61456 + n) % 256 :=
      ⟨_, _, rfl, by simp; omega, by simp⟩
    obtain ⟨b, c, e1, e2, e3⟩ := e
    have es : sumL [b, c] = 61456 + n := by rw [sumL_cons, sumL_cons, e2, e3]; simp [sumL]; omega
    refine ⟨b, [c], by rw [if_neg h1, if_pos h2, e1], ?_, ?_, ?_, ?_⟩
    · unfold kOf szN; rw [e2, if_neg h1, if_pos h2, if_neg (by omega), if_pos (by omega)]
    · rw [valL, if_neg (by simp), if_pos (by rfl), es]; omega
    · rw [e2, if_neg h1, if_pos h2]
    · rw [es, if_neg h1, if_pos h2]
  by_cases h3 : n < 67824
  · have e : bigL (16316176 + n) 3 = UInt8.ofNat ((16316176 + n) / 256 ^ 2 % 256) :: bigL (16316176 + n) 2 := bigL_cons 2 _
    have e2 : (UInt8.ofNat ((16316176 + n) / 256 ^ 2 % 256)).toNat = 249 := by simp; omega
    have es : sumL (UInt8.ofNat ((16316176 + n) / 256 ^ 2 % 256) :: bigL (16316176 + n) 2) = 16316176 + n := by rw [← e, sum_big]; omega
    refine ⟨_, _, by rw [if_neg h1, if_neg h2, if_pos h3, e], ?_, ?_, ?_, ?_⟩
    · unfold kOf szN; rw [e2, if_neg h1, if_neg h2, if_pos h3]; rfl
    · have hl : (UInt8.ofNat ((16316176 + n) / 256 ^ 2 % 256) :: bigL (16316176 + n) 2).length = 3 := by simp [bigL_len]
      rw [valL, hl, if_neg (by omega), if_neg (by omega), if_pos rfl, List.drop_succ_cons, List.drop_zero, sum_big]; omega
    · rw [e2, if_neg h1, if_neg h2, if_pos h3]
    · rw [es, if_neg h1, if_neg h2, if_pos h3]
  · have hz : szN n = 4 ∧ n < 256 ^ 3 ∨ szN n = 5 ∧ n < 256 ^ 4 ∨ szN n = 6 ∧ n < 256 ^ 5 ∨ szN n = 7 ∧ n < 256 ^ 6 ∨ szN n = 8 ∧ n < 256 ^ 7 ∨ szN n = 9 ∧ n < 256 ^ 8 := by
      unfold szN
      rw [if_neg h1, if_neg h2, if_neg h3]
      repeat' split
      all_goals omega
    have e2 : (UInt8.ofNat (246 + szN n)).toNat = 246 + szN n := by simp; omega
    have em : n % 256 ^ (szN n - 1) = n := by
      apply Nat.mod_eq_of_lt
      rcases hz with h | h | h | h | h | h <;> rw [h.1] <;> exact h.2
    refine ⟨_, _, by rw [if_neg h1, if_neg h2, if_neg h3], ?_, ?_, ?_, ?_⟩
    · unfold kOf; rw [e2, if_neg (by omega), if_neg (by omega), if_neg (by omega)]; omega
    · have hl : (UInt8.ofNat (246 + szN n) :: bigL n (szN n - 1)).length = szN n := by rw [List.length_cons, bigL_len]; omega
      rw [valL, hl, if_neg (by omega), if_neg (by omega), if_neg (by omega), List.drop_succ_cons, List.drop_zero, sum_big, em]
    · rw [e2, if_neg h1, if_neg h2, if_neg h3]
    · rw [sumL_cons, e2, bigL_len, sum_big, em, if_neg h1, if_neg h2, if_neg h3]

theorem take_put (n : Nat) (hn : n < 18446744073709551616) (s : List UInt8) : takeL (putL n ++ s) = (n, s, true) := by
  obtain ⟨b, r, e, hk, hv, _, _⟩ := put_parts n hn
  have hl := putL_len n
  rw [e] at hl ⊢
  have ht : ((b :: r) ++ s).take (szN n) = b :: r := by rw [← hl, List.take_left']; rfl
  have hd : ((b :: r) ++ s).drop (szN n) = s := by rw [← hl, List.drop_left']; rfl
  rw [List.cons_append, takeL, ← List.cons_append, hk, if_neg (by rw [List.length_append]; omega), ht, hd, hv, if_pos e]
theorem take_back (s : List UInt8) (k : Nat) (behind : List UInt8) (h : takeL s = (k, behind, true)) : putL k ++ behind = s := by
  cases s with
  | nil => simp [takeL] at h
  | cons b r =>
    rw [takeL_cons] at h
    split at h
    · simp at h
    · split at h
      · next h1 h2 =>
        simp only [Prod.mk.injEq, and_true] at h
        rw [← h.1, ← h.2, h2, List.take_append_drop]
      · simp at h
theorem valL_lt (b : UInt8) (r : List UInt8) (h : (b :: r).length = kOf b) : valL (b :: r) < 18446744073709551616 := by
  unfold valL
  have h1 := sumL_lt (b :: r)
  have h2 := sumL_lt ((b :: r).drop 1)
  simp only [List.drop_succ_cons, List.drop_zero] at *
  have h3 := kOf_le b
  rw [h] at h1 ⊢
  split
  · next e => rw [e] at h1; omega
  split
  · next e => rw [e] at h1; omega
  split
  · next e => have : r.length = 2 := by simp at h; omega
              rw [this] at h2; omega
  · have h4 : (256 : Nat) ^ r.length ≤ 256 ^ 8 := Nat.pow_le_pow_right (by omega) (by simp at h; omega)
    have e8 : (256 : Nat) ^ 8 = 18446744073709551616 := by decide
    omega
theorem take_lt (s : List UInt8) : (takeL s).1 < 18446744073709551616 := by
  cases s with
  | nil => simp [takeL]
  | cons b r =>
    rw [takeL_cons]
    split
    · simp
    · next h =>
      split
      · have hk := kOf_pos b
        show valL ((b :: r).take (kOf b)) < _
        obtain ⟨k, hk'⟩ : ∃ k, kOf b = k + 1 := ⟨kOf b - 1, by omega⟩
        rw [hk', List.take_succ_cons]
        exact valL_lt b _ (by rw [hk']; simp at h ⊢; omega)
      · simp
theorem take_rest (s : List UInt8) : (takeL s).2.1.length ≤ s.length := by
  cases s with
  | nil => simp [takeL]
  | cons b r =>
    rw [takeL_cons]
    split
    · simp
    · split
      · simp [List.length_drop]
      · simp
end Go.Proofs.YteimllgoelleeaaGreatDoor
/- Mathematics of layer 8: the encoding of a block (encL), what some bytes are read as (readW), the document's own reading (refRead), that the two are one, and rows (splitF). -/
namespace Go.Proofs.YteimllgoelleeaaGreatDoor

structure PR where
  k : List UInt8
  v : List UInt8
theorem less_irrefl : ∀ a : List UInt8, Op.bytesLess a a = false
  | [] => rfl
  | a :: x => by unfold Op.bytesLess; simp [less_irrefl x, UInt8.lt_iff_toNat_lt]
theorem less_trans : ∀ {a b c : List UInt8}, Op.bytesLess a b = true → Op.bytesLess b c = true → Op.bytesLess a c = true
  | _, [], [], h, _ => by simp [Op.bytesLess] at h
  | _, [], _ :: _, h, _ => by unfold Op.bytesLess at h; simp at h
  | _, _ :: _, [], _, h => by unfold Op.bytesLess at h; simp at h
  | [], _ :: _, _ :: _, _, _ => rfl
  | a :: x, b :: y, c :: z, h, k => by
    unfold Op.bytesLess at h k ⊢
    simp only [Bool.or_eq_true, decide_eq_true_eq, Bool.and_eq_true, beq_iff_eq, UInt8.lt_iff_toNat_lt] at h k ⊢
    rcases h with h | ⟨rfl, h⟩
    · rcases k with k | ⟨rfl, k⟩
      · exact Or.inl (by omega)
      · exact Or.inl h
    · rcases k with k | ⟨rfl, k⟩
      · exact Or.inl k
      · exact Or.inr ⟨rfl, less_trans h k⟩
theorem less_tri : ∀ a b : List UInt8, Op.bytesLess a b = true ∨ a = b ∨ Op.bytesLess b a = true
  | [], [] => Or.inr (Or.inl rfl)
  | [], _ :: _ => Or.inl rfl
  | _ :: _, [] => Or.inr (Or.inr rfl)
  | a :: x, b :: y => by
    unfold Op.bytesLess
    simp only [Bool.or_eq_true, decide_eq_true_eq, Bool.and_eq_true, beq_iff_eq, UInt8.lt_iff_toNat_lt, List.cons.injEq]
    by_cases h1 : a.toNat < b.toNat
    · exact Or.inl (Or.inl h1)
    by_cases h2 : b.toNat < a.toNat
    · exact Or.inr (Or.inr (Or.inl h2))
    obtain rfl : a = b := UInt8.toNat_inj.1 (by omega)
    rcases less_tri x y with h | h | h
    · exact Or.inl (Or.inr ⟨rfl, h⟩)
    · exact Or.inr (Or.inl ⟨rfl, h⟩)
    · exact Or.inr (Or.inr (Or.inr ⟨rfl, h⟩))
theorem less_asymm {a b : List UInt8} (h : Op.bytesLess a b = true) : Op.bytesLess b a = false := by
  cases hb : Op.bytesLess b a with
  | false => rfl
  | true => have := less_trans h hb; rw [less_irrefl] at this; cases this
theorem less_at (p : List UInt8) (a b : UInt8) (x y : List UInt8) (h : a.toNat < b.toNat) : Op.bytesLess (p ++ a :: x) (p ++ b :: y) = true := by
  induction p with
  | nil => unfold Op.bytesLess; simp [UInt8.lt_iff_toNat_lt, h]
  | cons c p ih => rw [List.cons_append, List.cons_append]; unfold Op.bytesLess; simp [ih]
theorem less_not {a b : List UInt8} : (Op.bytesLess a b || a == b) = !(Op.bytesLess b a) := by
  rcases less_tri a b with h | h | h
  · rw [h, less_asymm h]; rfl
  · subst h; simp [less_irrefl]
  · rw [h, less_asymm h]
    have : (a == b) = false := by rw [beq_eq_false_iff_ne]; rintro rfl; rw [less_irrefl] at h; cases h
    rw [this]; rfl
def comL : List UInt8 → List UInt8 → Nat
  | a :: x, b :: y => if a = b then comL x y + 1 else 0
  | [], _ => 0
  | _ :: _, [] => 0
theorem com_nil (a : List UInt8) : comL a [] = 0 := by cases a <;> rfl
theorem com_comm : ∀ a b : List UInt8, comL a b = comL b a
  | [], [] => rfl
  | [], _ :: _ => rfl
  | _ :: _, [] => rfl
  | a :: x, b :: y => by
    unfold comL
    by_cases h : a = b
    · rw [if_pos h, if_pos h.symm, com_comm x y]
    · rw [if_neg h, if_neg (fun e => h e.symm)]
theorem com_left : ∀ a b : List UInt8, comL a b ≤ a.length
  | [], _ => Nat.le_refl _
  | _ :: _, [] => Nat.zero_le _
  | a :: x, b :: y => by
    unfold comL
    have := com_left x y
    split <;> simp <;> omega
theorem com_right (a b : List UInt8) : comL a b ≤ b.length := by rw [com_comm]; exact com_left b a
theorem com_take : ∀ a b : List UInt8, a.take (comL a b) = b.take (comL a b)
  | [], _ => by simp [comL]
  | _ :: _, [] => by simp [comL]
  | a :: x, b :: y => by
    unfold comL
    by_cases h : a = b
    · subst h; rw [if_pos rfl, List.take_succ_cons, List.take_succ_cons, com_take x y]
    · rw [if_neg h]; rfl
theorem com_step (a b : List UInt8) (k : Nat) (hk : k ≤ comL a b) (ha : k < a.length) (hb : k < b.length) (h : a[k] = b[k]) : k < comL a b := by
  induction k generalizing a b with
  | zero =>
    cases a with
    | nil => simp at ha
    | cons x a =>
      cases b with
      | nil => simp at hb
      | cons y b =>
        unfold comL; rw [if_pos (by simpa using h)]; omega
  | succ k ih =>
    cases a with
    | nil => simp at ha
    | cons x a =>
      cases b with
      | nil => simp at hb
      | cons y b =>
        unfold comL at hk ⊢
        by_cases e : x = y
        · rw [if_pos e] at hk ⊢
          have := ih a b (by omega) (by simpa using ha) (by simpa using hb) (by simpa using h)
          omega
        · rw [if_neg e] at hk; omega
theorem com_stop (a b : List UInt8) (k : Nat) (hk : k ≤ comL a b) (h : k = a.length ∨ k = b.length ∨ ∃ (ha : k < a.length) (hb : k < b.length), a[k] ≠ b[k]) : k = comL a b := by
  rcases h with h | h | ⟨ha, hb, h⟩
  · have := com_left a b; omega
  · have := com_right a b; omega
  · rcases Nat.lt_or_ge k (comL a b) with hlt | hge
    · exfalso
      have e := com_take a b
      have e1 : (a.take (comL a b))[k]? = (b.take (comL a b))[k]? := by rw [e]
      rw [List.getElem?_take_of_lt hlt, List.getElem?_take_of_lt hlt, List.getElem?_eq_getElem ha, List.getElem?_eq_getElem hb] at e1
      exact h (Option.some.inj e1)
    · omega
theorem less_parts : ∀ a b : List UInt8, Op.bytesLess a b = true → ∃ (c : UInt8) (r : List UInt8), b.drop (comL b a) = c :: r ∧ (comL b a = a.length ∨ ∃ d, a[comL b a]? = some d ∧ d.toNat < c.toNat)
  | _, [], h => by unfold Op.bytesLess at h; simp at h
  | [], b :: y, _ => ⟨b, y, by simp [comL], Or.inl (by simp [comL])⟩
  | a :: x, b :: y, h => by
    unfold Op.bytesLess at h
    simp only [Bool.or_eq_true, decide_eq_true_eq, Bool.and_eq_true, beq_iff_eq, UInt8.lt_iff_toNat_lt] at h
    unfold comL
    by_cases e : b = a
    · subst e
      rw [if_pos rfl]
      obtain ⟨c, r, h1, h2⟩ := less_parts x y (by rcases h with h | h; · omega
                                                  · exact h.2)
      refine ⟨c, r, by rw [List.drop_succ_cons]; exact h1, ?_⟩
      rcases h2 with h2 | ⟨h2, h3⟩
      · exact Or.inl (by rw [h2]; rfl)
      · exact Or.inr ⟨h2, by simpa using h3⟩
    · rw [if_neg e]
      refine ⟨b, y, rfl, Or.inr ⟨a, rfl, ?_⟩⟩
      rcases h with h | h
      · exact h
      · exact absurd h.1.symm e

-- the encoding
def headL (prev : List UInt8) (p : PR) : List UInt8 := putL (comL p.k prev) ++ putL (p.k.length - comL p.k prev) ++ putL p.v.length
def restL (prev : List UInt8) (p : PR) : List UInt8 := p.k.drop (comL p.k prev)
def oneL (prev : List UInt8) (p : PR) : List UInt8 := headL prev p ++ restL prev p ++ p.v
def encL : List UInt8 → List PR → List UInt8
  | _, [] => []
  | prev, p :: L => oneL prev p ++ encL p.k L
def lastK : List UInt8 → List PR → List UInt8
  | prev, [] => prev
  | _, p :: L => lastK p.k L
theorem lastK_snoc : ∀ (prev : List UInt8) (L : List PR) (p : PR), lastK prev (L ++ [p]) = p.k
  | _, [], _ => rfl
  | _, q :: L, p => lastK_snoc q.k L p
theorem enc_app : ∀ (prev : List UInt8) (L M : List PR), encL prev (L ++ M) = encL prev L ++ encL (lastK prev L) M
  | _, [], _ => rfl
  | prev, p :: L, M => by rw [List.cons_append, encL, encL, enc_app p.k L M, List.append_assoc]; rfl
theorem enc_snoc (prev : List UInt8) (L : List PR) (p : PR) : encL prev (L ++ [p]) = encL prev L ++ oneL (lastK prev L) p := by
  rw [enc_app]; simp [encL]
def incF : List UInt8 → List PR → Bool
  | _, [] => true
  | prev, p :: L => Op.bytesLess prev p.k && incF p.k L
def incB : List PR → Bool
  | [] => true
  | p :: L => incF p.k L
def buildL (L : List PR) : List UInt8 × Int := if incB L = false then ([], 1) else if 40000 < (encL [] L).length then ([], 10) else (encL [] L, 0)
theorem put_pos (n : Nat) : 1 ≤ (putL n).length := by rw [putL_len]; exact szN_pos n
theorem put_le9 (n : Nat) : (putL n).length ≤ 9 := by rw [putL_len]; exact szN_le n
theorem head_len (prev : List UInt8) (p : PR) : 3 ≤ (headL prev p).length := by
  have h1 := put_pos (comL p.k prev)
  have h2 := put_pos (p.k.length - comL p.k prev)
  have h3 := put_pos p.v.length
  simp only [headL, List.length_append]; omega
theorem head_le (prev : List UInt8) (p : PR) : (headL prev p).length ≤ 27 := by
  have h1 := put_le9 (comL p.k prev)
  have h2 := put_le9 (p.k.length - comL p.k prev)
  have h3 := put_le9 p.v.length
  simp only [headL, List.length_append]; omega
theorem rest_len (prev : List UInt8) (p : PR) : (restL prev p).length = p.k.length - comL p.k prev := by simp [restL]
theorem one_len (prev : List UInt8) (p : PR) : (oneL prev p).length = (headL prev p).length + (p.k.length - comL p.k prev) + p.v.length := by
  simp only [oneL, List.length_append, rest_len]
theorem one_le (prev : List UInt8) (p : PR) : (oneL prev p).length ≤ 27 + p.k.length + p.v.length := by
  have := head_le prev p
  rw [one_len]; omega
theorem one_pos (prev : List UInt8) (p : PR) : 3 ≤ (oneL prev p).length := by
  have := head_len prev p
  rw [one_len]; omega
def threeL (s : List UInt8) : Option (Nat × Nat × Nat × List UInt8) :=
  if (takeL s).2.2 = true then
    if (takeL (takeL s).2.1).2.2 = true then
      if (takeL (takeL (takeL s).2.1).2.1).2.2 = true then some ((takeL s).1, (takeL (takeL s).2.1).1, (takeL (takeL (takeL s).2.1).2.1).1, (takeL (takeL (takeL s).2.1).2.1).2.1) else none
    else none
  else none
theorem three_put (a b c : Nat) (x : List UInt8) (ha : a < 18446744073709551616) (hb : b < 18446744073709551616) (hc : c < 18446744073709551616) : threeL (putL a ++ putL b ++ putL c ++ x) = some (a, b, c, x) := by
  have e1 : takeL (putL a ++ putL b ++ putL c ++ x) = (a, putL b ++ (putL c ++ x), true) := by rw [List.append_assoc, List.append_assoc]; exact take_put a ha _
  have e2 : takeL (putL b ++ (putL c ++ x)) = (b, putL c ++ x, true) := take_put b hb _
  have e3 : takeL (putL c ++ x) = (c, x, true) := take_put c hc _
  unfold threeL
  rw [e1]; simp only [if_true]
  rw [e2]; simp only [if_true]
  rw [e3]; simp only [if_true]
theorem three_back {s : List UInt8} {a b c : Nat} {r : List UInt8} (h : threeL s = some (a, b, c, r)) : s = putL a ++ putL b ++ putL c ++ r := by
  unfold threeL at h
  split at h
  · next h1 =>
    split at h
    · next h2 =>
      split at h
      · next h3 =>
        simp only [Option.some.injEq, Prod.mk.injEq] at h
        obtain ⟨rfl, rfl, rfl, rfl⟩ := h
        have e3 := take_back _ _ _ (show takeL (takeL (takeL s).2.1).2.1 = (_, _, true) from by rw [← h3])
        have e2 := take_back _ _ _ (show takeL (takeL s).2.1 = (_, _, true) from by rw [← h2])
        have e1 := take_back _ _ _ (show takeL s = (_, _, true) from by rw [← h1])
        rw [List.append_assoc, List.append_assoc, e3, e2, e1]
      · simp at h
    · simp at h
  · simp at h
def firstL (s : List UInt8) : Option (Nat × List UInt8 × List UInt8 × List UInt8) :=
  match threeL s with
  | none => none
  | some (a, b, c, r) => if b + c ≤ r.length then some (a, r.take b, (r.drop b).take c, r.drop (b + c)) else none
theorem first_of (a : Nat) (rest v x : List UInt8) (ha : a < 18446744073709551616) (hb : rest.length < 18446744073709551616) (hc : v.length < 18446744073709551616) :
    firstL (putL a ++ putL rest.length ++ putL v.length ++ (rest ++ (v ++ x))) = some (a, rest, v, x) := by
  unfold firstL
  rw [three_put a _ _ _ ha hb hc]
  simp only [List.length_append]
  rw [if_pos (by omega), List.take_left', List.drop_left', List.take_left', ← List.append_assoc, List.drop_left'] <;> simp
theorem first_back {s : List UInt8} {a : Nat} {rest v x : List UInt8} (h : firstL s = some (a, rest, v, x)) : s = putL a ++ putL rest.length ++ putL v.length ++ (rest ++ (v ++ x)) := by
  unfold firstL at h
  split at h
  · simp at h
  · next b c r ht =>
    split at h
    · next hl =>
      simp only [Option.some.injEq, Prod.mk.injEq] at h
      obtain ⟨rfl, rfl, rfl, rfl⟩ := h
      have e := three_back ht
      have h1 : (r.take b).length = b := by rw [List.length_take]; omega
      have h2 : ((r.drop b).take c).length = c := by rw [List.length_take, List.length_drop]; omega
      rw [h1, h2, ← List.drop_drop, List.take_append_drop, List.take_append_drop]
      exact e
    · simp at h
theorem first_less {s : List UInt8} {a : Nat} {rest v x : List UInt8} (h : firstL s = some (a, rest, v, x)) : x.length + rest.length + v.length + 3 ≤ s.length := by
  have e := first_back h
  have h1 := put_pos a
  have h2 := put_pos rest.length
  have h3 := put_pos v.length
  rw [e]; simp only [List.length_append]; omega
theorem first_one (prev : List UInt8) (p : PR) (x : List UInt8) (hk : p.k.length < 18446744073709551616) (hv : p.v.length < 18446744073709551616) :
    firstL (oneL prev p ++ x) = some (comL p.k prev, restL prev p, p.v, x) := by
  have e : oneL prev p ++ x = putL (comL p.k prev) ++ putL (restL prev p).length ++ putL p.v.length ++ (restL prev p ++ (p.v ++ x)) := by
    rw [oneL, headL, rest_len, List.append_assoc, List.append_assoc]
  have h1 := com_left p.k prev
  rw [e]
  exact first_of _ _ _ _ (by omega) (by rw [rest_len]; omega) hv
theorem getD_at (l : List UInt8) (a : Nat) (h : a < l.length) : l.getD a 0 = l[a] := by rw [List.getD_eq_getElem?_getD, List.getElem?_eq_getElem h]; rfl
def followsB (a : Nat) (rest key : List UInt8) (fst : Bool) : Bool :=
  if key.length < a then false else match rest with
  | [] => fst
  | c :: _ => decide (a = key.length) || decide ((key.getD a 0).toNat < c.toNat)
theorem follows_first (p : PR) : followsB (comL p.k []) (restL [] p) [] true = true := by
  unfold followsB restL
  rw [com_nil, if_neg (by simp)]
  split <;> simp
theorem follows_less {prev : List UInt8} {p : PR} (h : Op.bytesLess prev p.k = true) : followsB (comL p.k prev) (restL prev p) prev false = true := by
  obtain ⟨c, r, h1, h2⟩ := less_parts prev p.k h
  unfold followsB restL
  rw [if_neg (by have := com_right p.k prev; omega), h1]
  simp only []
  rcases h2 with h2 | ⟨d, h2, h3⟩
  · rw [decide_eq_true h2]; rfl
  · have : (prev.getD (comL p.k prev) 0).toNat < c.toNat := by rw [List.getD_eq_getElem?_getD, h2]; exact h3
    rw [decide_eq_true this]; simp
def readW (key : List UInt8) (fst : Bool) (s : List UInt8) : Option (List PR) :=
  if hs : s = [] then some [] else
  match h : firstL s with
  | none => none
  | some (a, rest, v, x) => if followsB a rest key fst = true then (readW (key.take a ++ rest) false x).map (fun l => ⟨key.take a ++ rest, v⟩ :: l) else none
termination_by s.length
decreasing_by have := first_less h; omega
theorem readW_nil (key : List UInt8) (fst : Bool) : readW key fst [] = some [] := by rw [readW]; simp
theorem readW_none {key : List UInt8} {fst : Bool} {s : List UInt8} (hs : s ≠ []) (h : firstL s = none) : readW key fst s = none := by
  rw [readW, dif_neg hs]; split
  · rfl
  · next e => rw [h] at e; cases e
theorem readW_not {key : List UInt8} {fst : Bool} {s : List UInt8} {a : Nat} {rest v x : List UInt8} (hs : s ≠ []) (h : firstL s = some (a, rest, v, x)) (hf : followsB a rest key fst = false) : readW key fst s = none := by
  rw [readW, dif_neg hs]; split
  · rfl
  · next e => rw [h] at e; cases e; rw [if_neg (by rw [hf]; simp)]
theorem readW_next {key : List UInt8} {fst : Bool} {s : List UInt8} {a : Nat} {rest v x : List UInt8} (hs : s ≠ []) (h : firstL s = some (a, rest, v, x)) (hf : followsB a rest key fst = true) :
    readW key fst s = (readW (key.take a ++ rest) false x).map (fun l => ⟨key.take a ++ rest, v⟩ :: l) := by
  rw [readW, dif_neg hs]; split
  · next e => rw [h] at e; cases e
  · next e => rw [h] at e; cases e; rw [if_pos hf]
theorem read_enc : ∀ (L : List PR) (key : List UInt8), (∀ p ∈ L, p.k.length < 18446744073709551616 ∧ p.v.length < 18446744073709551616) → incF key L = true → readW key false (encL key L) = some L
  | [], _, _, _ => readW_nil _ _
  | p :: L, key, hs, hi => by
    simp only [incF, Bool.and_eq_true] at hi
    have h1 := hs p (by simp)
    have hone := one_pos key p
    have hne : encL key (p :: L) ≠ [] := by
      intro e
      have := congrArg List.length e
      rw [encL, List.length_append] at this
      rw [List.length_nil] at this; omega
    have hq : firstL (encL key (p :: L)) = _ := first_one key p (encL p.k L) h1.1 h1.2
    rw [readW_next hne hq (follows_less hi.1)]
    have e : key.take (comL p.k key) ++ restL key p = p.k := by rw [← com_take, restL, List.take_append_drop]
    rw [e, read_enc L p.k (fun q hq => hs q (by simp [hq])) hi.2]
    rfl
theorem read_build (L : List PR) (hs : ∀ p ∈ L, p.k.length < 18446744073709551616 ∧ p.v.length < 18446744073709551616) (hi : incB L = true) : readW [] true (encL [] L) = some L := by
  cases L with
  | nil => exact readW_nil _ _
  | cons p L =>
    have h1 := hs p (by simp)
    have hone := one_pos [] p
    have hne : encL [] (p :: L) ≠ [] := by
      intro e
      have := congrArg List.length e
      rw [encL, List.length_append] at this
      rw [List.length_nil] at this; omega
    have hq : firstL (encL [] (p :: L)) = _ := first_one [] p (encL p.k L) h1.1 h1.2
    rw [readW_next hne hq (follows_first p)]
    have e : ([] : List UInt8).take (comL p.k []) ++ restL [] p = p.k := by rw [← com_take, restL, List.take_append_drop]
    rw [e, read_enc L p.k (fun q hq => hs q (by simp [hq])) hi]
    rfl
def readL (s : List UInt8) : Option (List PR) := readW [] true s
def three4 (s : List UInt8) : Option (Nat × Nat × Nat × List UInt8) :=
  match threeL s with
  | none => none
  | some (a, b, c, r) => if a ≤ 40000 ∧ b ≤ 40000 ∧ c ≤ 40000 then some (a, b, c, r) else none
theorem three_less {s : List UInt8} {a b c : Nat} {r : List UInt8} (h : threeL s = some (a, b, c, r)) : r.length + 3 ≤ s.length := by
  have e := three_back h
  have h1 := put_pos a
  have h2 := put_pos b
  have h3 := put_pos c
  rw [e]; simp only [List.length_append]; omega
theorem three4_some {s : List UInt8} {a b c : Nat} {r : List UInt8} : three4 s = some (a, b, c, r) ↔ threeL s = some (a, b, c, r) ∧ a ≤ 40000 ∧ b ≤ 40000 ∧ c ≤ 40000 := by
  unfold three4
  constructor
  · intro h
    split at h
    · cases h
    · next a' b' c' r' e =>
      split at h
      · next hl => cases h; exact ⟨e, hl⟩
      · cases h
  · rintro ⟨e, hl⟩
    rw [e]; simp only []
    rw [if_pos hl]
def parseW (last : List UInt8) (s : List UInt8) : Option (List PR) :=
  if hs : s = [] then some [] else
  match h : three4 s with
  | none => none
  | some (a, b, c, r) => if a ≤ last.length ∧ b + c ≤ r.length then (parseW (last.take a ++ r.take b) (r.drop (b + c))).map (fun l => ⟨last.take a ++ r.take b, (r.drop b).take c⟩ :: l) else none
termination_by s.length
decreasing_by have := three_less (three4_some.1 h).1; rw [List.length_drop]; omega
def refRead (s : List UInt8) : Option (List PR) :=
  match parseW [] s with
  | none => none
  | some L => if buildL L = (s, 0) then some L else none
theorem build_ok {L : List PR} {s : List UInt8} (h : buildL L = (s, 0)) : incB L = true ∧ encL [] L = s ∧ s.length ≤ 40000 := by
  unfold buildL at h
  cases hi : incB L with
  | false => rw [hi, if_pos rfl] at h; simp at h
  | true =>
    rw [hi, if_neg (by simp)] at h
    split at h
    · simp at h
    · simp only [Prod.mk.injEq, and_true] at h; exact ⟨rfl, h, by rw [← h]; omega⟩
theorem build_of {L : List PR} (hi : incB L = true) (hl : (encL [] L).length ≤ 40000) : buildL L = (encL [] L, 0) := by
  unfold buildL; rw [if_neg (by rw [hi]; simp), if_neg (by omega)]
def tot : List PR → Nat
  | [] => 0
  | p :: L => p.k.length + p.v.length + tot L
theorem tot_app : ∀ L M : List PR, tot (L ++ M) = tot L + tot M
  | [], M => by simp [tot]
  | p :: L, M => by rw [List.cons_append, tot, tot, tot_app L M]; omega
theorem tot_snoc (L : List PR) (p : PR) : tot (L ++ [p]) = tot L + p.k.length + p.v.length := by rw [tot_app]; simp [tot]; omega
def splitF (most : Int) : List PR → List PR → List (List PR)
  | [], row => if row = [] then [] else [row]
  | p :: L, row => if most ≤ (tot (row ++ [p]) : Nat) then (row ++ [p]) :: splitF most L [] else splitF most L (row ++ [p])
theorem split_join (most : Int) : ∀ (L row : List PR), (splitF most L row).flatten = row ++ L
  | [], row => by
    unfold splitF
    by_cases h : row = []
    · rw [if_pos h, h]; rfl
    · rw [if_neg h]; simp
  | p :: L, row => by
    unfold splitF
    split
    · rw [List.flatten_cons, split_join most L []]; simp
    · rw [split_join most L (row ++ [p])]; simp
theorem split_len (most : Int) : ∀ (L row : List PR), (splitF most L row).length ≤ L.length + 1
  | [], row => by unfold splitF; split <;> simp
  | p :: L, row => by
    unfold splitF
    split
    · have := split_len most L []; simp; omega
    · have := split_len most L (row ++ [p]); simp; omega

-- of some pairs those that rise
theorem incF_all : ∀ (L : List PR) (prev : List UInt8), incF prev L = true → ∀ p ∈ L, Op.bytesLess prev p.k = true
  | [], _, _, _, h => by simp at h
  | q :: L, prev, h, p, hp => by
    simp only [incF, Bool.and_eq_true] at h
    rcases List.mem_cons.1 hp with rfl | hp
    · exact h.1
    · exact less_trans h.1 (incF_all L q.k h.2 p hp)
theorem incF_pair : ∀ (L : List PR) (prev : List UInt8), incF prev L = true → L.Pairwise (fun a b => Op.bytesLess a.k b.k = true)
  | [], _, _ => List.Pairwise.nil
  | q :: L, prev, h => by
    simp only [incF, Bool.and_eq_true] at h
    exact List.Pairwise.cons (fun p hp => incF_all L q.k h.2 p hp) (incF_pair L q.k h.2)
theorem incB_pair (L : List PR) (h : incB L = true) : L.Pairwise (fun a b => Op.bytesLess a.k b.k = true) := by
  cases L with
  | nil => exact List.Pairwise.nil
  | cons q L => exact List.Pairwise.cons (fun p hp => incF_all L q.k h p hp) (incF_pair L q.k h)
end Go.Proofs.YteimllgoelleeaaGreatDoor
/- Mathematics of chapter 10, first part: inner keys: their order, that none begins another one, and what they say; what data cite; entries that are right, and their order; no program. -/
namespace Go.Proofs.YteimllgoelleeaaGreatDoor

def escL : List UInt8 → List UInt8
  | [] => []
  | b :: l => if b = 0 then 0 :: 255 :: escL l else b :: escL l
def innerL (k : List UInt8) (q : Nat) : List UInt8 := escL k ++ 0 :: 0 :: bigL (9223372036854775807 - q) 8
theorem esc_zero (l : List UInt8) : escL (0 :: l) = 0 :: 255 :: escL l := by rw [escL, if_pos rfl]
theorem esc_other {b : UInt8} (h : b ≠ 0) (l : List UInt8) : escL (b :: l) = b :: escL l := by rw [escL, if_neg h]
theorem esc_app : ∀ a b : List UInt8, escL (a ++ b) = escL a ++ escL b
  | [], b => rfl
  | c :: a, b => by
    rw [List.cons_append]
    by_cases h : c = 0
    · subst h; rw [esc_zero, esc_zero, esc_app a b]; rfl
    · rw [esc_other h, esc_other h, esc_app a b]; rfl
theorem esc_len (k : List UInt8) : k.length ≤ (escL k).length ∧ (escL k).length ≤ 2 * k.length := by
  induction k with
  | nil => exact ⟨Nat.le_refl _, Nat.le_refl _⟩
  | cons b l ih =>
    by_cases h : b = 0
    · subst h; rw [esc_zero]; simp only [List.length_cons]; omega
    · rw [esc_other h]; simp only [List.length_cons]; omega
theorem inner_len (k : List UInt8) (q : Nat) : (innerL k q).length = (escL k).length + 10 := by
  unfold innerL
  rw [List.length_append, List.length_cons, List.length_cons, bigL_len]
theorem big_inj {k : Nat} : ∀ {a b : Nat}, a < 256 ^ k → b < 256 ^ k → bigL a k = bigL b k → a = b := fun {a b} ha hb h => by
  have := congrArg sumL h
  rw [sum_big, sum_big, Nat.mod_eq_of_lt ha, Nat.mod_eq_of_lt hb] at this
  exact this
theorem less_cons (x : UInt8) (a b : List UInt8) : Op.bytesLess (x :: a) (x :: b) = Op.bytesLess a b := by simp [Op.bytesLess]
theorem less_head {x y : UInt8} (h : x.toNat < y.toNat) (a b : List UInt8) : Op.bytesLess (x :: a) (y :: b) = true := less_at [] x y a b h
theorem less_head_not {x y : UInt8} (h : x.toNat < y.toNat) (a b : List UInt8) : Op.bytesLess (y :: b) (x :: a) = false := less_asymm (less_head h a b)
theorem sum_less : ∀ (a b : List UInt8), a.length = b.length → Op.bytesLess a b = decide (sumL a < sumL b)
  | [], [], _ => by simp [Op.bytesLess, sumL]
  | [], _ :: _, h => by simp at h
  | _ :: _, [], h => by simp at h
  | x :: a, y :: b, h => by
    have hl : a.length = b.length := by simpa using h
    have h1 := sumL_lt a
    have h2 := sumL_lt b
    rw [sumL_cons, sumL_cons, hl]
    rw [hl] at h1
    rcases Nat.lt_trichotomy x.toNat y.toNat with e | e | e
    · rw [less_head e]
      have : (x.toNat + 1) * 256 ^ b.length ≤ y.toNat * 256 ^ b.length := Nat.mul_le_mul_right _ e
      rw [Nat.add_mul, Nat.one_mul] at this
      exact (decide_eq_true (by omega)).symm
    · obtain rfl : x = y := UInt8.toNat_inj.1 e
      rw [less_cons, sum_less a b hl]
      congr 1
      simp
    · rw [less_head_not e]
      have : (y.toNat + 1) * 256 ^ b.length ≤ x.toNat * 256 ^ b.length := Nat.mul_le_mul_right _ e
      rw [Nat.add_mul, Nat.one_mul] at this
      exact (decide_eq_false (by omega)).symm
theorem big_less {k a b : Nat} (ha : a < 256 ^ k) (hb : b < 256 ^ k) : Op.bytesLess (bigL a k) (bigL b k) = decide (a < b) := by
  rw [sum_less _ _ (by rw [bigL_len, bigL_len]), sum_big, sum_big, Nat.mod_eq_of_lt ha, Nat.mod_eq_of_lt hb]
theorem pow8_256 : (256 : Nat) ^ 8 = 18446744073709551616 := by decide
theorem uz {b : UInt8} (h : b ≠ 0) : (0 : UInt8).toNat < b.toNat := by
  have h1 : b.toNat ≠ 0 := fun e => h (UInt8.toNat_inj.1 (by rw [e]; rfl))
  show 0 < b.toNat
  omega
theorem inner_less {x y : Nat} (hx : x ≤ 1099511627776) (hy : y ≤ 1099511627776) : ∀ (k m : List UInt8), Op.bytesLess (innerL k x) (innerL m y) = (Op.bytesLess k m || (k == m && decide (y < x)))
  | [], [] => by
    show Op.bytesLess (0 :: 0 :: bigL _ 8) (0 :: 0 :: bigL _ 8) = _
    rw [less_cons, less_cons, big_less (by rw [pow8_256]; omega) (by rw [pow8_256]; omega)]
    have : Op.bytesLess [] [] = false := rfl
    rw [this]
    simp
    omega
  | [], b :: m => by
    have e : Op.bytesLess ([] : List UInt8) (b :: m) = true := rfl
    rw [e, Bool.true_or]
    unfold innerL
    by_cases h : b = 0
    · subst h
      rw [esc_zero]
      show Op.bytesLess (0 :: 0 :: _) (0 :: 255 :: _) = true
      rw [less_cons]
      exact less_head (by decide) _ _
    · rw [esc_other h]
      show Op.bytesLess (0 :: 0 :: _) (b :: _) = true
      exact less_head (uz h) _ _
  | a :: k, [] => by
    have e : Op.bytesLess (a :: k) ([] : List UInt8) = false := rfl
    have e2 : ((a :: k) == ([] : List UInt8)) = false := rfl
    rw [e, e2, Bool.false_and, Bool.or_false]
    unfold innerL
    by_cases h : a = 0
    · subst h
      rw [esc_zero]
      show Op.bytesLess (0 :: 255 :: _) (0 :: 0 :: _) = false
      rw [less_cons]
      exact less_head_not (by decide) _ _
    · rw [esc_other h]
      show Op.bytesLess (a :: _) (0 :: 0 :: _) = false
      exact less_head_not (uz h) _ _
  | a :: k, b :: m => by
    have ih := inner_less hx hy k m
    unfold innerL at ih ⊢
    rcases Nat.lt_trichotomy a.toNat b.toNat with e | e | e
    · rw [less_head e, Bool.true_or]
      have hb0 : b ≠ 0 := fun h => by subst h; simp at e
      rw [esc_other hb0]
      by_cases h : a = 0
      · subst h; rw [esc_zero]; exact less_head e _ _
      · rw [esc_other h]; exact less_head e _ _
    · obtain rfl : a = b := UInt8.toNat_inj.1 e
      have e3 : ((a :: k) == (a :: m)) = (k == m) := by simp
      rw [less_cons, e3, ← ih]
      by_cases h : a = 0
      · subst h
        rw [esc_zero, esc_zero]
        show Op.bytesLess (0 :: 255 :: _) (0 :: 255 :: _) = _
        rw [less_cons, less_cons]; rfl
      · rw [esc_other h, esc_other h]
        show Op.bytesLess (a :: _) (a :: _) = _
        rw [less_cons]; rfl
    · have hne : ((a :: k) == (b :: m)) = false := by
        rw [beq_eq_false_iff_ne]
        intro h
        cases h
        omega
      rw [less_head_not e, hne, Bool.false_and, Bool.or_false]
      have ha0 : a ≠ 0 := fun h => by subst h; simp at e
      rw [esc_other ha0]
      by_cases h : b = 0
      · subst h; rw [esc_zero]; exact less_head_not e _ _
      · rw [esc_other h]; exact less_head_not e _ _
theorem inner_prefix : ∀ (k m : List UInt8) (x y : Nat) (r : List UInt8), innerL k x ++ r = innerL m y → k = m ∧ r = [] ∧ bigL (9223372036854775807 - x) 8 = bigL (9223372036854775807 - y) 8
  | [], [], x, y, r, h => by
    have h1 : bigL (9223372036854775807 - x) 8 ++ r = bigL (9223372036854775807 - y) 8 := by
      have : (0 : UInt8) :: 0 :: (bigL (9223372036854775807 - x) 8 ++ r) = 0 :: 0 :: bigL (9223372036854775807 - y) 8 := h
      simpa using this
    have hr : r = [] := by
      have := congrArg List.length h1
      rw [List.length_append, bigL_len, bigL_len] at this
      exact List.length_eq_zero_iff.1 (by omega)
    subst hr
    rw [List.append_nil] at h1
    exact ⟨rfl, rfl, h1⟩
  | [], b :: m, x, y, r, h => by
    exfalso
    unfold innerL at h
    by_cases hb : b = 0
    · subst hb
      rw [esc_zero] at h
      have : (0 : UInt8) :: 0 :: (bigL (9223372036854775807 - x) 8 ++ r) = 0 :: 255 :: (escL m ++ 0 :: 0 :: bigL (9223372036854775807 - y) 8) := h
      simp at this
    · rw [esc_other hb] at h
      have : (0 : UInt8) :: (0 :: (bigL (9223372036854775807 - x) 8 ++ r)) = b :: (escL m ++ 0 :: 0 :: bigL (9223372036854775807 - y) 8) := h
      simp at this
      exact hb this.1.symm
  | a :: k, [], x, y, r, h => by
    exfalso
    unfold innerL at h
    by_cases ha : a = 0
    · subst ha
      rw [esc_zero] at h
      have : (0 : UInt8) :: 255 :: (escL k ++ 0 :: 0 :: bigL (9223372036854775807 - x) 8 ++ r) = 0 :: 0 :: bigL (9223372036854775807 - y) 8 := h
      simp at this
    · rw [esc_other ha] at h
      have : a :: (escL k ++ 0 :: 0 :: bigL (9223372036854775807 - x) 8 ++ r) = 0 :: 0 :: bigL (9223372036854775807 - y) 8 := h
      simp at this
      exact ha this.1
  | a :: k, b :: m, x, y, r, h => by
    have ih := inner_prefix k m x y r
    unfold innerL at h ih
    by_cases ha : a = 0
    · subst ha
      rw [esc_zero] at h
      by_cases hb : b = 0
      · subst hb
        rw [esc_zero] at h
        have h2 : (0 : UInt8) :: 255 :: (escL k ++ 0 :: 0 :: bigL (9223372036854775807 - x) 8 ++ r) = 0 :: 255 :: (escL m ++ 0 :: 0 :: bigL (9223372036854775807 - y) 8) := h
        simp only [List.cons.injEq, true_and] at h2
        obtain ⟨h3, h4, h5⟩ := ih h2
        exact ⟨by rw [h3], h4, h5⟩
      · rw [esc_other hb] at h
        have h2 : (0 : UInt8) :: 255 :: (escL k ++ 0 :: 0 :: bigL (9223372036854775807 - x) 8 ++ r) = b :: (escL m ++ 0 :: 0 :: bigL (9223372036854775807 - y) 8) := h
        simp only [List.cons.injEq] at h2
        exact absurd h2.1.symm hb
    · rw [esc_other ha] at h
      by_cases hb : b = 0
      · subst hb
        rw [esc_zero] at h
        have h2 : a :: (escL k ++ 0 :: 0 :: bigL (9223372036854775807 - x) 8 ++ r) = 0 :: 255 :: (escL m ++ 0 :: 0 :: bigL (9223372036854775807 - y) 8) := h
        simp only [List.cons.injEq] at h2
        exact absurd h2.1 ha
      · rw [esc_other hb] at h
        have h2 : a :: (escL k ++ 0 :: 0 :: bigL (9223372036854775807 - x) 8 ++ r) = b :: (escL m ++ 0 :: 0 :: bigL (9223372036854775807 - y) 8) := h
        simp only [List.cons.injEq] at h2
        obtain ⟨h0, h2⟩ := h2
        obtain ⟨h3, h4, h5⟩ := ih h2
        exact ⟨by rw [h0, h3], h4, h5⟩
theorem seq_inj {x y : Nat} (hx : x ≤ 1099511627776) (hy : y ≤ 1099511627776) (h : bigL (9223372036854775807 - x) 8 = bigL (9223372036854775807 - y) 8) : x = y := by
  have := big_inj (by rw [pow8_256]; omega) (by rw [pow8_256]; omega) h
  omega
theorem inner_inj {k m : List UInt8} {x y : Nat} (hx : x ≤ 1099511627776) (hy : y ≤ 1099511627776) (h : innerL k x = innerL m y) : k = m ∧ x = y := by
  obtain ⟨h1, -, h3⟩ := inner_prefix k m x y [] (by rw [List.append_nil]; exact h)
  exact ⟨h1, seq_inj hx hy h3⟩
def OuterIs (s k : List UInt8) (q : Nat) : Prop := q ≤ 1099511627776 ∧ innerL k q = s
theorem outer_one {s k m : List UInt8} {x y : Nat} (h : OuterIs s k x) (h' : OuterIs s m y) : k = m ∧ x = y := inner_inj h.1 h'.1 (h.2.trans h'.2.symm)
end Go.Proofs.YteimllgoelleeaaGreatDoor
/- Mathematics of layer 5: a text's sum (sumN: bit by bit), that it is affine and that one byte turned turns it; frames (frameL), and what bytes tell of them (unframeL, scanL). -/
namespace Go.Proofs.YteimllgoelleeaaGreatDoor

def turnN (n : Nat) : Nat := if n % 2 = 1 then n / 2 ^^^ 3988292384 else n / 2
def turnsN (n : Nat) : Nat → Nat
  | 0 => n
  | k + 1 => turnN (turnsN n k)
def feedN (n b : Nat) : Nat := turnsN (n ^^^ b) 8
def runN (n : Nat) (l : List UInt8) : Nat := l.foldl (fun n b => feedN n b.toNat) n
def crcN (l : List UInt8) : Nat := 4294967295 - runN 4294967295 l

theorem turn_lt {n : Nat} (h : n < 4294967296) : turnN n < 4294967296 := by
  unfold turnN
  split
  · exact Nat.xor_lt_two_pow (n := 32) (by omega) (by omega)
  · omega
theorem turns_lt {n : Nat} (h : n < 4294967296) : ∀ k, turnsN n k < 4294967296
  | 0 => h
  | k + 1 => turn_lt (turns_lt h k)
theorem byte_lt (b : UInt8) : b.toNat < 4294967296 := by have := b.toNat_lt; omega
theorem feed_lt {n b : Nat} (hn : n < 4294967296) (hb : b < 4294967296) : feedN n b < 4294967296 := turns_lt (Nat.xor_lt_two_pow (n := 32) hn hb) 8
theorem run_snoc (n : Nat) (l : List UInt8) (b : UInt8) : runN n (l ++ [b]) = feedN (runN n l) b.toNat := by simp [runN]
theorem run_lt : ∀ (l : List UInt8) {n : Nat}, n < 4294967296 → runN n l < 4294967296
  | [], _, h => h
  | b :: l, _, h => run_lt l (feed_lt h (byte_lt b))
theorem crc_lt (l : List UInt8) : crcN l < 4294967296 := by unfold crcN; omega
theorem compl_xor {n : Nat} (h : n < 4294967296) : 4294967295 - n = n ^^^ 4294967295 := by
  rw [Nat.xor_comm]
  refine Nat.eq_of_testBit_eq fun i => ?_
  have := Nat.testBit_two_pow_sub_succ (n := 32) h i
  rw [show (2 : Nat) ^ 32 - (n + 1) = 4294967295 - n by omega] at this
  rw [this, Nat.testBit_xor, show (4294967295 : Nat) = 2 ^ 32 - 1 from rfl, Nat.testBit_two_pow_sub_one]
  by_cases hi : i < 32
  · simp [hi]
  · have : n.testBit i = false := Nat.testBit_lt_two_pow (Nat.lt_of_lt_of_le h (by show 2 ^ 32 ≤ 2 ^ i; exact Nat.pow_le_pow_right (by omega) (by omega)))
    simp [hi, this]
end Go.Proofs.YteimllgoelleeaaGreatDoor
/- Mathematics of layer 5: a text's frame (frameL), what bytes tell of one (unframeL) and of some (scanL), and that a frame cut short, or with a byte of its payload or its sum turned, is refused. -/
namespace Go.Proofs.YteimllgoelleeaaGreatDoor

def frameL (l : List UInt8) : List UInt8 := putL l.length ++ (l ++ bigL (crcN l) 4)
def unframeL (s : List UInt8) : List UInt8 × List UInt8 × Int :=
  if (takeL s).2.2 = false then ([], [], 8) else if 40000 < (takeL s).1 then ([], [], 10) else
  if (takeL s).2.1.length < (takeL s).1 + 4 then ([], [], 8) else
  if bigL (crcN ((takeL s).2.1.take (takeL s).1)) 4 = ((takeL s).2.1.drop (takeL s).1).take 4 then ((takeL s).2.1.take (takeL s).1, (takeL s).2.1.drop ((takeL s).1 + 4), 0) else ([], [], 9)
theorem frame_len (l : List UInt8) : (frameL l).length = szN l.length + l.length + 4 := by
  rw [frameL, List.length_append, List.length_append, putL_len, bigL_len]; omega
theorem unframe_of {n : Nat} {rest : List UInt8} {s : List UInt8} (h : takeL s = (n, rest, true)) (hn : n ≤ 40000) :
    unframeL s = if rest.length < n + 4 then ([], [], 8) else if bigL (crcN (rest.take n)) 4 = (rest.drop n).take 4 then (rest.take n, rest.drop (n + 4), 0) else ([], [], 9) := by
  rw [unframeL, h, if_neg (by simp), if_neg (by show ¬ 40000 < n; omega)]
theorem unframe_frame (l s : List UInt8) (hl : l.length ≤ 40000) : unframeL (frameL l ++ s) = (l, s, 0) := by
  have ht : takeL (frameL l ++ s) = (l.length, l ++ (bigL (crcN l) 4 ++ s), true) := by
    rw [frameL, List.append_assoc, List.append_assoc, take_put _ (by omega)]
  have h4 := bigL_len 4 (crcN l)
  rw [unframe_of ht hl, if_neg (by rw [List.length_append, List.length_append]; omega), List.take_left' rfl, List.drop_left' rfl, List.take_left' h4, if_pos rfl,
    ← List.drop_drop, List.drop_left' rfl, List.drop_left' h4]
theorem unframe_rest {s t r : List UInt8} (hs : unframeL s = (t, r, 0)) : r.length < s.length := by
  have h1 := take_rest s
  unfold unframeL at hs
  repeat' split at hs
  all_goals first
    | (simp at hs; done)
    | (have e : r = (takeL s).2.1.drop ((takeL s).1 + 4) := by
        have := congrArg (fun p => p.2.1) hs
        exact this.symm
       rw [e, List.length_drop]
       omega)
def scanF : Nat → List UInt8 → List (List UInt8) × Nat × Int
  | 0, _ => ([], 0, 0)
  | f + 1, s => if s = [] then ([], 0, 0) else if (unframeL s).2.2 = 0 then
      ((unframeL s).1 :: (scanF f (unframeL s).2.1).1, s.length - (unframeL s).2.1.length + (scanF f (unframeL s).2.1).2.1, (scanF f (unframeL s).2.1).2.2) else ([], 0, (unframeL s).2.2)
def scanL (s : List UInt8) : List (List UInt8) × Nat × Int := scanF s.length s
theorem scan_fuel : ∀ (f g : Nat) (s : List UInt8), s.length ≤ f → s.length ≤ g → scanF f s = scanF g s
  | 0, 0, _, _, _ => rfl
  | 0, g + 1, s, h, _ => by
    obtain rfl : s = [] := List.eq_nil_of_length_eq_zero (by omega)
    rfl
  | f + 1, 0, s, _, h => by
    obtain rfl : s = [] := List.eq_nil_of_length_eq_zero (by omega)
    rfl
  | f + 1, g + 1, s, h, h' => by
    rw [scanF, scanF]
    by_cases h0 : (unframeL s).2.2 = 0
    · have := unframe_rest (s := s) (t := (unframeL s).1) (r := (unframeL s).2.1) (by rw [← h0])
      rw [scan_fuel f g (unframeL s).2.1 (by omega) (by omega)]
    · rw [if_neg h0, if_neg h0]
theorem scan_nil : scanL [] = ([], 0, 0) := rfl
theorem scan_next {s t r : List UInt8} (h : unframeL s = (t, r, 0)) : scanL s = (t :: (scanL r).1, s.length - r.length + (scanL r).2.1, (scanL r).2.2) := by
  have hr := unframe_rest h
  have hs : s ≠ [] := by rintro rfl; simp at hr
  rw [scanL, show s.length = (s.length - 1) + 1 by omega, scanF, if_neg hs, h, if_pos rfl]
  simp only []
  rw [scan_fuel (s.length - 1) r.length r (by omega) (by omega), show s.length - 1 + 1 = s.length by omega]
  rfl
theorem scan_end {s t r : List UInt8} {e : Int} (hs : s ≠ []) (h : unframeL s = (t, r, e)) (he : e ≠ 0) : scanL s = ([], 0, e) := by
  have : 0 < s.length := List.length_pos_iff.2 hs
  rw [scanL, show s.length = (s.length - 1) + 1 by omega, scanF, if_neg hs, h, if_neg he]
def framesL (l : List (List UInt8)) : List UInt8 := l.flatMap frameL
theorem scan_frames : ∀ (l : List (List UInt8)) (s : List UInt8), (∀ t ∈ l, t.length ≤ 40000) → scanL (framesL l ++ s) = (l ++ (scanL s).1, (framesL l).length + (scanL s).2.1, (scanL s).2.2)
  | [], s, _ => by simp [framesL]
  | t :: l, s, h => by
    have e : framesL (t :: l) ++ s = frameL t ++ (framesL l ++ s) := by simp [framesL]
    have e2 : (framesL (t :: l)).length = (frameL t).length + (framesL l).length := by simp [framesL]
    rw [e, scan_next (unframe_frame t _ (h t (List.mem_cons_self ..))), scan_frames l s (fun t ht => h t (List.mem_cons_of_mem _ ht)), e2]
    simp only [List.length_append, List.cons_append, Prod.mk.injEq, true_and, and_true]
    omega
end Go.Proofs.YteimllgoelleeaaGreatDoor
