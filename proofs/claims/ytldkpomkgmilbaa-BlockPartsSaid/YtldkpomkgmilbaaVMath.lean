/- Mathematics of layer 3: a number's bytes (putL), what bytes tell (takeL), and that their order is the numbers'. -/
import Derived.Lib.Bytealg
set_option linter.unusedSimpArgs false
set_option linter.unusedVariables false
namespace Go.Proofs.Ytldkpomkgmilbaa

/-- The lowest k bytes of a number, the highest one first. -/
def bigL (n : Nat) : Nat → List UInt8
  | 0 => []
  | k + 1 => bigL (n / 256) k ++ [UInt8.ofNat (n % 256)]
def sumL (l : List UInt8) : Nat := l.foldl (fun a b => a * 256 + b.toNat) 0
theorem sumL_nil : sumL [] = 0 := rfl
theorem sumL_snoc (l : List UInt8) (b : UInt8) : sumL (l ++ [b]) = sumL l * 256 + b.toNat := by simp [sumL]
theorem foldl_from (l : List UInt8) : ∀ a : Nat, l.foldl (fun a b => a * 256 + b.toNat) a = a * 256 ^ l.length + sumL l := by
  induction l with
  | nil => intro a; simp [sumL]
  | cons b l ih =>
    intro a
    simp only [List.foldl_cons, List.length_cons, sumL, Nat.zero_mul, Nat.zero_add]
    rw [ih, ih b.toNat, Nat.pow_succ, Nat.add_mul, Nat.mul_assoc, Nat.mul_comm 256, Nat.add_assoc]
theorem sumL_cons (b : UInt8) (l : List UInt8) : sumL (b :: l) = b.toNat * 256 ^ l.length + sumL l := by
  show (b :: l).foldl _ 0 = _
  rw [List.foldl_cons, foldl_from]; simp
theorem sumL_lt (l : List UInt8) : sumL l < 256 ^ l.length := by
  induction l with
  | nil => simp [sumL]
  | cons b l ih =>
    rw [sumL_cons, List.length_cons, Nat.pow_succ]
    have := b.toNat_lt
    have h2 : b.toNat * 256 ^ l.length ≤ 255 * 256 ^ l.length := Nat.mul_le_mul_right _ (by omega)
    omega
theorem bigL_len (k : Nat) : ∀ n, (bigL n k).length = k := by
  induction k with
  | zero => intro n; rfl
  | succ k ih => intro n; simp [bigL, ih]
theorem sum_big (k : Nat) : ∀ n, sumL (bigL n k) = n % 256 ^ k := by
  induction k with
  | zero => intro n; simp [bigL, sumL, Nat.mod_one]
  | succ k ih =>
    intro n
    rw [bigL, sumL_snoc, ih]
    have h1 : (UInt8.ofNat (n % 256)).toNat = n % 256 := by simp
    rw [h1, Nat.pow_succ, Nat.mul_comm (256 ^ k) 256, Nat.mod_mul]
    omega
theorem bigL_cons (k : Nat) : ∀ n, bigL n (k + 1) = UInt8.ofNat (n / 256 ^ k % 256) :: bigL n k := by
  induction k with
  | zero => intro n; simp [bigL]
  | succ k ih =>
    intro n
    rw [bigL, ih, bigL, List.cons_append, Nat.div_div_eq_div_mul, Nat.pow_succ, Nat.mul_comm 256]

def szN (n : Nat) : Nat :=
  if n < 241 then 1 else if n < 2288 then 2 else if n < 67824 then 3 else if n < 16777216 then 4 else if n < 4294967296 then 5 else
  if n < 1099511627776 then 6 else if n < 281474976710656 then 7 else if n < 72057594037927936 then 8 else 9
theorem szN_le (n : Nat) : szN n ≤ 9 := by unfold szN; (repeat' split) <;> omega
theorem szN_pos (n : Nat) : 1 ≤ szN n := by unfold szN; (repeat' split) <;> omega
def putL (n : Nat) : List UInt8 :=
  if n < 241 then bigL n 1 else if n < 2288 then bigL (61456 + n) 2 else if n < 67824 then bigL (16316176 + n) 3 else UInt8.ofNat (246 + szN n) :: bigL n (szN n - 1)
theorem putL_len (n : Nat) : (putL n).length = szN n := by
  unfold putL
  by_cases h1 : n < 241
  · rw [if_pos h1, bigL_len]; simp [szN, h1]
  by_cases h2 : n < 2288
  · rw [if_neg h1, if_pos h2, bigL_len]; simp [szN, h1, h2]
  by_cases h3 : n < 67824
  · rw [if_neg h1, if_neg h2, if_pos h3, bigL_len]; simp [szN, h1, h2, h3]
  · rw [if_neg h1, if_neg h2, if_neg h3, List.length_cons, bigL_len]
    have := szN_pos n; omega
/-- How many bytes a number has that begins with this one. -/
def kOf (b : UInt8) : Nat := if b.toNat < 241 then 1 else if b.toNat < 249 then 2 else if b.toNat = 249 then 3 else b.toNat - 246
theorem kOf_pos (b : UInt8) : 1 ≤ kOf b := by unfold kOf; (repeat' split) <;> omega
theorem kOf_le (b : UInt8) : kOf b ≤ 9 := by unfold kOf; have := b.toNat_lt; (repeat' split) <;> omega
/-- What so many bytes tell. -/
def valL (l : List UInt8) : Nat := if l.length = 1 then sumL l else if l.length = 2 then sumL l - 61456 else if l.length = 3 then sumL (l.drop 1) + 2288 else sumL (l.drop 1)
def takeL : List UInt8 → Nat × List UInt8 × Bool
  | [] => (0, [], false)
  | b :: r => if (b :: r).length < kOf b then (0, [], false) else
    if putL (valL ((b :: r).take (kOf b))) = (b :: r).take (kOf b) then (valL ((b :: r).take (kOf b)), (b :: r).drop (kOf b), true) else (0, [], false)
theorem takeL_cons (b : UInt8) (r : List UInt8) : takeL (b :: r) = if (b :: r).length < kOf b then (0, [], false) else
    if putL (valL ((b :: r).take (kOf b))) = (b :: r).take (kOf b) then (valL ((b :: r).take (kOf b)), (b :: r).drop (kOf b), true) else (0, [], false) := rfl

/-- The first byte of a number, the rest of them, and what all of them are together: by the number of bytes. -/
theorem put_parts (n : Nat) (hn : n < 18446744073709551616) : ∃ b r, putL n = b :: r ∧ kOf b = szN n ∧ valL (b :: r) = n ∧
    b.toNat = (if n < 241 then n else if n < 2288 then (61456 + n) / 256 else if n < 67824 then 249 else 246 + szN n) ∧
    sumL (b :: r) = (if n < 241 then n else if n < 2288 then 61456 + n else if n < 67824 then 16316176 + n else (246 + szN n) * 256 ^ (szN n - 1) + n) := by
  unfold putL
  by_cases h1 : n < 241
  · refine ⟨UInt8.ofNat (n % 256), [], by rw [if_pos h1]; rfl, ?_, ?_, ?_, ?_⟩
    all_goals have e : (UInt8.ofNat (n % 256)).toNat = n := by simp; omega
    · unfold kOf szN; rw [e, if_pos h1, if_pos h1]
    · rw [valL, if_pos (by rfl), sumL_cons, e]; simp [sumL]
    · rw [e, if_pos h1]
    · rw [if_pos h1, sumL_cons, e]; simp [sumL]
  by_cases h2 : n < 2288
  · have e : ∃ b c, bigL (61456 + n) 2 = [b, c] ∧ b.toNat = (61456 + n) / 256 ∧ c.toNat = (61456 + n) % 256 :=
      ⟨_, _, rfl, by simp; omega, by simp⟩
    obtain ⟨b, c, e1, e2, e3⟩ := e
    have es : sumL [b, c] = 61456 + n := by rw [sumL_cons, sumL_cons, e2, e3]; simp [sumL]; omega
    refine ⟨b, [c], by rw [if_neg h1, if_pos h2, e1], ?_, ?_, ?_, ?_⟩
    · unfold kOf szN; rw [e2, if_neg h1, if_pos h2, if_neg (by omega), if_pos (by omega)]
    · rw [valL, if_neg (by simp), if_pos (by rfl), es]; omega
    · rw [e2, if_neg h1, if_pos h2]
    · rw [es, if_neg h1, if_pos h2]
  by_cases h3 : n < 67824
  · have e : bigL (16316176 + n) 3 = UInt8.ofNat ((16316176 + n) / 256 ^ 2 % 256) :: bigL (16316176 + n) 2 := bigL_cons 2 _
    have e2 : (UInt8.ofNat ((16316176 + n) / 256 ^ 2 % 256)).toNat = 249 := by simp; omega
    have es : sumL (UInt8.ofNat ((16316176 + n) / 256 ^ 2 % 256) :: bigL (16316176 + n) 2) = 16316176 + n := by rw [← e, sum_big]; omega
    refine ⟨_, _, by rw [if_neg h1, if_neg h2, if_pos h3, e], ?_, ?_, ?_, ?_⟩
    · unfold kOf szN; rw [e2, if_neg h1, if_neg h2, if_pos h3]; rfl
    · have hl : (UInt8.ofNat ((16316176 + n) / 256 ^ 2 % 256) :: bigL (16316176 + n) 2).length = 3 := by simp [bigL_len]
      rw [valL, hl, if_neg (by omega), if_neg (by omega), if_pos rfl, List.drop_succ_cons, List.drop_zero, sum_big]; omega
    · rw [e2, if_neg h1, if_neg h2, if_pos h3]
    · rw [es, if_neg h1, if_neg h2, if_pos h3]
  · have hz : szN n = 4 ∧ n < 256 ^ 3 ∨ szN n = 5 ∧ n < 256 ^ 4 ∨ szN n = 6 ∧ n < 256 ^ 5 ∨ szN n = 7 ∧ n < 256 ^ 6 ∨ szN n = 8 ∧ n < 256 ^ 7 ∨ szN n = 9 ∧ n < 256 ^ 8 := by
      unfold szN
      rw [if_neg h1, if_neg h2, if_neg h3]
      repeat' split
      all_goals omega
    have e2 : (UInt8.ofNat (246 + szN n)).toNat = 246 + szN n := by simp; omega
    have em : n % 256 ^ (szN n - 1) = n := by
      apply Nat.mod_eq_of_lt
      rcases hz with h | h | h | h | h | h <;> rw [h.1] <;> exact h.2
    refine ⟨_, _, by rw [if_neg h1, if_neg h2, if_neg h3], ?_, ?_, ?_, ?_⟩
    · unfold kOf; rw [e2, if_neg (by omega), if_neg (by omega), if_neg (by omega)]; omega
    · have hl : (UInt8.ofNat (246 + szN n) :: bigL n (szN n - 1)).length = szN n := by rw [List.length_cons, bigL_len]; omega
      rw [valL, hl, if_neg (by omega), if_neg (by omega), if_neg (by omega), List.drop_succ_cons, List.drop_zero, sum_big, em]
    · rw [e2, if_neg h1, if_neg h2, if_neg h3]
    · rw [sumL_cons, e2, bigL_len, sum_big, em, if_neg h1, if_neg h2, if_neg h3]

theorem take_put (n : Nat) (hn : n < 18446744073709551616) (s : List UInt8) : takeL (putL n ++ s) = (n, s, true) := by
  obtain ⟨b, r, e, hk, hv, _, _⟩ := put_parts n hn
  have hl := putL_len n
  rw [e] at hl ⊢
  have ht : ((b :: r) ++ s).take (szN n) = b :: r := by rw [← hl, List.take_left']; rfl
  have hd : ((b :: r) ++ s).drop (szN n) = s := by rw [← hl, List.drop_left']; rfl
  rw [List.cons_append, takeL, ← List.cons_append, hk, if_neg (by rw [List.length_append]; omega), ht, hd, hv, if_pos e]
theorem take_cut (n : Nat) (hn : n < 18446744073709551616) (i : Nat) (hi : i < (putL n).length) : takeL ((putL n).take i) = (0, [], false) := by
  obtain ⟨b, r, e, hk, _, _, _⟩ := put_parts n hn
  have hl := putL_len n
  rw [e] at hl hi ⊢
  cases i with
  | zero => rfl
  | succ i => rw [List.take_succ_cons, takeL, if_pos]; rw [List.length_cons, List.length_take]; simp at hi hl; omega
theorem take_back (s : List UInt8) (k : Nat) (behind : List UInt8) (h : takeL s = (k, behind, true)) : putL k ++ behind = s := by
  cases s with
  | nil => simp [takeL] at h
  | cons b r =>
    rw [takeL_cons] at h
    split at h
    · simp at h
    · split at h
      · next h1 h2 =>
        simp only [Prod.mk.injEq, and_true] at h
        rw [← h.1, ← h.2, h2, List.take_append_drop]
      · simp at h
theorem valL_lt (b : UInt8) (r : List UInt8) (h : (b :: r).length = kOf b) : valL (b :: r) < 18446744073709551616 := by
  unfold valL
  have h1 := sumL_lt (b :: r)
  have h2 := sumL_lt ((b :: r).drop 1)
  simp only [List.drop_succ_cons, List.drop_zero] at *
  have h3 := kOf_le b
  rw [h] at h1 ⊢
  split
  · next e => rw [e] at h1; omega
  split
  · next e => rw [e] at h1; omega
  split
  · next e => have : r.length = 2 := by simp at h; omega
              rw [this] at h2; omega
  · have h4 : (256 : Nat) ^ r.length ≤ 256 ^ 8 := Nat.pow_le_pow_right (by omega) (by simp at h; omega)
    have e8 : (256 : Nat) ^ 8 = 18446744073709551616 := by decide
    omega
theorem take_lt (s : List UInt8) : (takeL s).1 < 18446744073709551616 := by
  cases s with
  | nil => simp [takeL]
  | cons b r =>
    rw [takeL_cons]
    split
    · simp
    · next h =>
      split
      · have hk := kOf_pos b
        show valL ((b :: r).take (kOf b)) < _
        obtain ⟨k, hk'⟩ : ∃ k, kOf b = k + 1 := ⟨kOf b - 1, by omega⟩
        rw [hk', List.take_succ_cons]
        exact valL_lt b _ (by rw [hk']; simp at h ⊢; omega)
      · simp
theorem take_rest (s : List UInt8) : (takeL s).2.1.length ≤ s.length := by
  cases s with
  | nil => simp [takeL]
  | cons b r =>
    rw [takeL_cons]
    split
    · simp
    · split
      · simp [List.length_drop]
      · simp
theorem take_rest_mem (s : List UInt8) (h : (takeL s).2.2 = false) : takeL s = (0, [], false) := by
  cases s with
  | nil => rfl
  | cons b r =>
    rw [takeL_cons] at h ⊢
    split
    · rfl
    · next h1 =>
      rw [if_neg h1] at h
      split
      · next h2 => rw [if_pos h2] at h; simp at h
      · rfl

-- the order
theorem cmp_head (a b : UInt8) (l m : List UInt8) (h : a.toNat < b.toNat) : Lib.compareBytes (a :: l) (b :: m) = -1 := by
  rw [Lib.compareBytes, if_pos (UInt8.lt_iff_toNat_lt.2 h)]
theorem cmp_sum : ∀ (l m : List UInt8), l.length = m.length → sumL l < sumL m → Lib.compareBytes l m = -1
  | [], [], _, h => by simp [sumL] at h
  | [], _ :: _, h, _ => by simp at h
  | _ :: _, [], h, _ => by simp at h
  | a :: l, b :: m, hl, h => by
    simp at hl
    rw [sumL_cons, sumL_cons, hl] at h
    have h1 := sumL_lt l
    have h2 := sumL_lt m
    rw [hl] at h1
    rw [Lib.compareBytes]
    by_cases c1 : a < b
    · rw [if_pos c1]
    by_cases c2 : b < a
    · exfalso
      have c3 := UInt8.lt_iff_toNat_lt.1 c2
      have : (b.toNat + 1) * 256 ^ m.length ≤ a.toNat * 256 ^ m.length := Nat.mul_le_mul_right _ c3
      rw [Nat.add_mul] at this
      omega
    · rw [if_neg c1, if_neg c2]
      have e : a.toNat = b.toNat := by rw [UInt8.lt_iff_toNat_lt] at c1 c2; omega
      rw [e] at h
      exact cmp_sum l m hl (by omega)
/-- The lesser number's bytes are less, not more, and no beginning of the other's. -/
theorem put_less (a b : Nat) (hb : b < 18446744073709551616) (h : a < b) :
    Lib.compareBytes (putL a) (putL b) = -1 ∧ szN a ≤ szN b ∧ (putL a).take (szN a) ≠ (putL b).take (szN a) := by
  obtain ⟨x, r, ea, ka, _, xa, sa⟩ := put_parts a (by omega)
  obtain ⟨y, q, eb, kb, _, yb, sb⟩ := put_parts b hb
  have la := putL_len a
  have lb := putL_len b
  rw [ea] at la
  rw [eb] at lb
  have hzz : szN a < szN b ∧ x.toNat < y.toNat ∨ szN a = szN b ∧ sumL (x :: r) < sumL (y :: q) := by
    rw [xa, yb, sa, sb]
    by_cases a1 : a < 241
    · by_cases b1 : b < 241
      · right; simp [szN, a1, b1, h]
      · left
        rw [if_pos a1, if_neg b1]
        have : 2 ≤ szN b := by unfold szN; rw [if_neg b1]; (repeat' split) <;> omega
        refine ⟨by simp [szN, a1]; exact this, ?_⟩
        repeat' split
        all_goals omega
    by_cases a2 : a < 2288
    · rw [if_neg a1, if_pos a2, if_neg (show ¬ b < 241 by omega)]
      by_cases b2 : b < 2288
      · right; simp [szN, a1, a2, b2, h, show ¬ b < 241 by omega]
      · left
        rw [if_neg b2]
        have : 3 ≤ szN b := by unfold szN; rw [if_neg (by omega), if_neg b2]; (repeat' split) <;> omega
        refine ⟨by simp [szN, a1, a2]; exact this, ?_⟩
        split <;> omega
    by_cases a3 : a < 67824
    · rw [if_neg a1, if_neg a2, if_pos a3, if_neg (show ¬ b < 241 by omega), if_neg (show ¬ b < 2288 by omega)]
      by_cases b3 : b < 67824
      · right; simp [szN, a1, a2, a3, b3, h, show ¬ b < 241 by omega, show ¬ b < 2288 by omega]
      · left
        rw [if_neg b3]
        have : 4 ≤ szN b := by unfold szN; rw [if_neg (by omega), if_neg (by omega), if_neg b3]; (repeat' split) <;> omega
        refine ⟨by simp [szN, a1, a2, a3]; exact this, by omega⟩
    · simp only [a1, a2, a3, show ¬ b < 241 by omega, show ¬ b < 2288 by omega, show ¬ b < 67824 by omega, ↓reduceIte]
      have hm : szN a ≤ szN b := by
        unfold szN
        rw [if_neg a1, if_neg a2, if_neg a3, if_neg (show ¬ b < 241 by omega), if_neg (show ¬ b < 2288 by omega), if_neg (show ¬ b < 67824 by omega)]
        repeat' split
        all_goals omega
      by_cases he : szN a = szN b
      · right; rw [he]; exact ⟨rfl, by omega⟩
      · left; omega
  rcases hzz with ⟨h1, h2⟩ | ⟨h1, h2⟩
  · refine ⟨by rw [ea, eb]; exact cmp_head _ _ _ _ h2, by omega, ?_⟩
    rw [ea, eb]
    have hp := szN_pos a
    obtain ⟨k, hk⟩ : ∃ k, szN a = k + 1 := ⟨szN a - 1, by omega⟩
    rw [hk, List.take_succ_cons, List.take_succ_cons]
    intro e
    have e1 := (List.cons.inj e).1
    rw [e1] at h2; omega
  · refine ⟨by rw [ea, eb]; exact cmp_sum _ _ (by omega) h2, by omega, ?_⟩
    rw [ea, eb, ← la, List.take_length, la, h1, ← lb, List.take_length]
    intro e
    rw [e] at h2; omega
theorem cmp_swap : ∀ (l m : List UInt8), Lib.compareBytes l m = -1 → Lib.compareBytes m l = 1
  | [], [], h => by simp [Lib.compareBytes] at h
  | [], _ :: _, _ => by simp [Lib.compareBytes]
  | _ :: _, [], h => by simp [Lib.compareBytes] at h
  | a :: l, b :: m, h => by
    rw [Lib.compareBytes] at h ⊢
    by_cases c1 : a < b
    · have c3 : ¬ b < a := by rw [UInt8.lt_iff_toNat_lt] at *; omega
      rw [if_neg c3, if_pos c1]
    · by_cases c2 : b < a
      · rw [if_neg c1, if_pos c2] at h; simp at h
      · rw [if_neg c1, if_neg c2] at h
        rw [if_neg c2, if_neg c1]
        exact cmp_swap l m h
theorem cmp_self : ∀ l : List UInt8, Lib.compareBytes l l = 0
  | [] => rfl
  | a :: l => by
    rw [Lib.compareBytes, if_neg (by rw [UInt8.lt_iff_toNat_lt]; omega), if_neg (by rw [UInt8.lt_iff_toNat_lt]; omega)]
    exact cmp_self l
/-- The document's answer's way of writing two bytes. -/
theorem two_bytes (n : Nat) (h : 241 ≤ n) (h' : n < 2288) : bigL (241 + (n - 240) / 256) 1 ++ bigL ((n - 240) % 256) 1 = bigL (61456 + n) 2 := by
  simp only [bigL, List.nil_append]
  have e1 : (61456 + n) / 256 % 256 = (241 + (n - 240) / 256) % 256 := by omega
  have e2 : (61456 + n) % 256 = (n - 240) % 256 % 256 := by omega
  rw [e1, e2]
theorem three_bytes (n : Nat) (h : 2288 ≤ n) (h' : n < 67824) : bigL 249 1 ++ bigL (n - 2288) 2 = bigL (16316176 + n) 3 := by
  simp only [bigL, List.nil_append]
  have e1 : (16316176 + n) / 256 / 256 % 256 = 249 % 256 := by omega
  have e2 : (16316176 + n) / 256 % 256 = (n - 2288) / 256 % 256 := by omega
  have e3 : (16316176 + n) % 256 = (n - 2288) % 256 := by omega
  rw [e1, e2, e3]
  rfl

-- folding
def foldN (n : Int) : Nat := if n < 0 then (-2 * n - 1).toNat else (2 * n).toNat
def unfoldZ (u : Nat) : Int := if u % 2 = 1 then -(u / 2 : Nat) - 1 else (u / 2 : Nat)
theorem unfold_fold (n : Int) : unfoldZ (foldN n) = n := by unfold unfoldZ foldN; (repeat' split) <;> omega
theorem fold_unfold (u : Nat) : foldN (unfoldZ u) = u := by unfold unfoldZ foldN; (repeat' split) <;> omega
theorem foldN_lt (n : Int) (h : -9223372036854775808 ≤ n ∧ n ≤ 9223372036854775807) : foldN n < 18446744073709551616 := by unfold foldN; split <;> omega
theorem unfoldZ_in (u : Nat) (h : u < 18446744073709551616) : -9223372036854775808 ≤ unfoldZ u ∧ unfoldZ u ≤ 9223372036854775807 := by unfold unfoldZ; split <;> omega
theorem fold_less (n m : Int) (hn : 0 ≤ n) (hm : 0 ≤ m) : (foldN n < foldN m ↔ n < m) ∧ foldN (-n) ≤ foldN n := by unfold foldN; (repeat' split) <;> omega

-- ints
def intsL (l : List Int) : List UInt8 := l.flatMap fun n => putL (foldN n)
theorem intsL_snoc (l : List Int) (n : Int) : intsL (l ++ [n]) = intsL l ++ putL (foldN n) := by simp [intsL]
theorem intsL_len (l : List Int) : (intsL l).length ≤ 9 * l.length := by
  induction l with
  | nil => simp [intsL]
  | cons n l ih =>
    simp only [intsL, List.flatMap_cons, List.length_append, List.length_cons] at *
    rw [putL_len]
    have := szN_le (foldN n); omega
/-- So many ints from the front, onto what was read; none if there are not so many. -/
def toL : Nat → List Int → List UInt8 → Option (List Int × List UInt8)
  | 0, acc, s => some (acc, s)
  | k + 1, acc, s => if (takeL s).2.2 = true then toL k (acc ++ [unfoldZ (takeL s).1]) (takeL s).2.1 else none
theorem toL_ints : ∀ (l acc : List Int) (s : List UInt8), (∀ n ∈ l, -9223372036854775808 ≤ n ∧ n ≤ 9223372036854775807) → toL l.length acc (intsL l ++ s) = some (acc ++ l, s)
  | [], acc, s, _ => by simp [toL, intsL]
  | n :: l, acc, s, h => by
    rw [List.length_cons, toL]
    have e : intsL (n :: l) ++ s = putL (foldN n) ++ (intsL l ++ s) := by simp [intsL]
    rw [e, take_put _ (foldN_lt n (h n (by simp)))]
    simp only [if_true]
    rw [unfold_fold, toL_ints l _ s fun m hm => h m (by simp [hm])]
    simp
end Go.Proofs.Ytldkpomkgmilbaa
