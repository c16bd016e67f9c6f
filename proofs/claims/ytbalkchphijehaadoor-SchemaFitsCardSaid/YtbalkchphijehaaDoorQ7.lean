/- VMath, KMath, QMath, QMath2, QMath3, laid together. -/
import Derived.Lib.Bytealg
set_option linter.unusedSimpArgs false
set_option linter.unusedVariables false
/- Mathematics of layer 3: a number's bytes (putL), what bytes tell (takeL), and that their order is the numbers'. -/
namespace Go.Proofs.YtbalkchphijehaaDoor

/-- The lowest k bytes of a number, the highest one first. -/
def bigL (n : Nat) : Nat → List UInt8
  | 0 => []
  | k + 1 => bigL (n / 256) k ++ [UInt8.ofNat (n % 256)]
def sumL (l : List UInt8) : Nat := l.foldl (fun a b => a * 256 + b.toNat) 0
theorem sumL_snoc (l : List UInt8) (b : UInt8) : sumL (l ++ [b]) = sumL l * 256 + b.toNat := by simp [sumL]
theorem foldl_from (l : List UInt8) : ∀ a : Nat, l.foldl (fun a b => a * 256 + b.toNat) a = a * 256 ^ l.length + sumL l := by
  induction l with
  | nil => intro a; simp [sumL]
  | cons b l ih =>
    intro a
    simp only [List.foldl_cons, List.length_cons, sumL, Nat.zero_mul, Nat.zero_add]
    rw [ih, ih b.toNat, Nat.pow_succ, Nat.add_mul, Nat.mul_assoc, Nat.mul_comm 256, Nat.add_assoc]
theorem sumL_cons (b : UInt8) (l : List UInt8) : sumL (b :: l) = b.toNat * 256 ^ l.length + sumL l := by
  show (b :: l).foldl _ 0 = _
  rw [List.foldl_cons, foldl_from]; simp
theorem sumL_lt (l : List UInt8) : sumL l < 256 ^ l.length := by
  induction l with
  | nil => simp [sumL]
  | cons b l ih =>
    rw [sumL_cons, List.length_cons, Nat.pow_succ]
    have := b.toNat_lt
    have h2 : b.toNat * 256 ^ l.length ≤ 255 * 256 ^ l.length := Nat.mul_le_mul_right _ (by omega)
    omega
theorem bigL_len (k : Nat) : ∀ n, (bigL n k).length = k := by
  induction k with
  | zero => intro n; rfl
  | succ k ih => intro n; simp [bigL, ih]
theorem sum_big (k : Nat) : ∀ n, sumL (bigL n k) = n % 256 ^ k := by
  induction k with
  | zero => intro n; simp [bigL, sumL, Nat.mod_one]
  | succ k ih =>
    intro n
    rw [bigL, sumL_snoc, ih]
    have h1 : (UInt8.ofNat (n % 256)).toNat = n % 256 := by simp
    rw [h1, Nat.pow_succ, Nat.mul_comm (256 ^ k) 256, Nat.mod_mul]
    omega
theorem bigL_cons (k : Nat) : ∀ n, bigL n (k + 1) = UInt8.ofNat (n / 256 ^ k % 256) :: bigL n k := by
  induction k with
  | zero => intro n; simp [bigL]
  | succ k ih =>
    intro n
    rw [bigL, ih, bigL, List.cons_append, Nat.div_div_eq_div_mul, Nat.pow_succ, Nat.mul_comm 256]

def szN (n : Nat) : Nat :=
  if n < 241 then 1 else if n < 2288 then 2 else if n < 67824 then 3 else if n < 16777216 then 4 else if n < 4294967296 then 5 else
  if n < 1099511627776 then 6 else if n < 281474976710656 then 7 else if n < 72057594037927936 then 8 else 9
theorem szN_le (n : Nat) : szN n ≤ 9 := by unfold szN; (repeat' split) <;> omega
theorem szN_pos (n : Nat) : 1 ≤ szN n := by unfold szN; (repeat' split) <;> omega
def putL (n : Nat) : List UInt8 :=
  if n < 241 then bigL n 1 else if n < 2288 then bigL (61456 + n) 2 else if n < 67824 then bigL (16316176 + n) 3 else UInt8.ofNat (246 + szN n) :: bigL n (szN n - 1)
theorem putL_len (n : Nat) : (putL n).length = szN n := by
  unfold putL
  by_cases h1 : n < 241
  · rw [if_pos h1, bigL_len]; simp [szN, h1]
  by_cases h2 : n < 2288
  · rw [if_neg h1, if_pos h2, bigL_len]; simp [szN, h1, h2]
  by_cases h3 : n < 67824
  · rw [if_neg h1, if_neg h2, if_pos h3, bigL_len]; simp [szN, h1, h2, h3]
  · rw [if_neg h1, if_neg h2, if_neg h3, List.length_cons, bigL_len]
    have := szN_pos n; omega
/-- How many bytes a number has that begins with this one. -/
def kOf (b : UInt8) : Nat := if b.toNat < 241 then 1 else if b.toNat < 249 then 2 else if b.toNat = 249 then 3 else b.toNat - 246
theorem kOf_pos (b : UInt8) : 1 ≤ kOf b := by unfold kOf; (repeat' split) <;> omega
theorem kOf_le (b : UInt8) : kOf b ≤ 9 := by unfold kOf; have := b.toNat_lt; (repeat' split) <;> omega
/-- What so many bytes tell. -/
def valL (l : List UInt8) : Nat := if l.length = 1 then sumL l else if l.length = 2 then sumL l - 61456 else if l.length = 3 then sumL (l.drop 1) + 2288 else sumL (l.drop 1)
def takeL : List UInt8 → Nat × List UInt8 × Bool
  | [] => (0, [], false)
  | b :: r => if (b :: r).length < kOf b then (0, [], false) else
    if putL (valL ((b :: r).take (kOf b))) = (b :: r).take (kOf b) then (valL ((b :: r).take (kOf b)), (b :: r).drop (kOf b), true) else (0, [], false)
theorem takeL_cons (b : UInt8) (r : List UInt8) : takeL (b :: r) = if (b :: r).length < kOf b then (0, [], false) else
    if putL (valL ((b :: r).take (kOf b))) = (b :: r).take (kOf b) then (valL ((b :: r).take (kOf b)), (b :: r).drop (kOf b), true) else (0, [], false) := rfl

/-- The first byte of a number, the rest of them, and what all of them are together: by the number of bytes. -/
theorem put_parts (n : Nat) (hn : n < 18446744073709551616) : ∃ b r, putL n = b :: r ∧ kOf b = szN n ∧ valL (b :: r) = n ∧
    b.toNat = (if n < 241 then n else if n < 2288 then (61456 + n) / 256 else if n < 67824 then 249 else 246 + szN n) ∧
    sumL (b :: r) = (if n < 241 then n else if n < 2288 then 61456 + n else if n < 67824 then 16316176 + n else (246 + szN n) * 256 ^ (szN n - 1) + n) := by
  unfold putL
  by_cases h1 : n < 241
  · refine ⟨UInt8.ofNat (n % 256), [], by rw [if_pos h1]; rfl, ?_, ?_, ?_, ?_⟩
    all_goals have e : (UInt8.ofNat (n % 256)).toNat = n := by simp; omega
    · unfold kOf szN; rw [e, if_pos h1, if_pos h1]
    · rw [valL, if_pos (by rfl), sumL_cons, e]; simp [sumL]
    · rw [e, if_pos h1]
    · rw [if_pos h1, sumL_cons, e]; simp [sumL]
  by_cases h2 : n < 2288
  · have e : ∃ b c, bigL (61456 + n) 2 = [b, c] ∧ b.toNat = (61456 + n) / 256 ∧ c.toNat = (61456 + n) % 256 :=
      ⟨_, _, rfl, by simp; omega, by simp⟩
    obtain ⟨b, c, e1, e2, e3⟩ := e
    have es : sumL [b, c] = 61456 + n := by rw [sumL_cons, sumL_cons, e2, e3]; simp [sumL]; omega
    refine ⟨b, [c], by rw [if_neg h1, if_pos h2, e1], ?_, ?_, ?_, ?_⟩
    · unfold kOf szN; rw [e2, if_neg h1, if_pos h2, if_neg (by omega), if_pos (by omega)]
    · rw [valL, if_neg (by simp), if_pos (by rfl), es]; omega
    · rw [e2, if_neg h1, if_pos h2]
    · rw [es, if_neg h1, if_pos h2]
  by_cases h3 : n < 67824
  · have e : bigL (16316176 + n) 3 = UInt8.ofNat ((16316176 + n) / 256 ^ 2 % 256) :: bigL (16316176 + n) 2 := bigL_cons 2 _
    have e2 : (UInt8.ofNat ((16316176 + n) / 256 ^ 2 % 256)).toNat = 249 := by simp; omega
    have es : sumL (UInt8.ofNat ((16316176 + n) / 256 ^ 2 % 256) :: bigL (16316176 + n) 2) = 16316176 + n := by rw [← e, sum_big]; omega
    refine ⟨_, _, by rw [if_neg h1, if_neg h2, if_pos h3, e], ?_, ?_, ?_, ?_⟩
    · unfold kOf szN; rw [e2, if_neg h1, if_neg h2, if_pos h3]; rfl
    · have hl : (UInt8.ofNat ((16316176 + n) / 256 ^ 2 % 256) :: bigL (16316176 + n) 2).length = 3 := by simp [bigL_len]
      rw [valL, hl, if_neg (by omega), if_neg (by omega), if_pos rfl, List.drop_succ_cons, List.drop_zero, sum_big]; omega
    · rw [e2, if_neg h1, if_neg h2, if_pos h3]
    · rw [es, if_neg h1, if_neg h2, if_pos h3]
  · have hz : szN n = 4 ∧ n < 256 ^ 3 ∨ szN n = 5 ∧ n < 256 ^ 4 ∨ szN n = 6 ∧ n < 256 ^ 5 ∨ szN n = 7 ∧ n < 256 ^ 6 ∨ szN n = 8 ∧ n < 256 ^ 7 ∨ szN n = 9 ∧ n < 256 ^ 8 := by
      unfold szN
      rw [if_neg h1, if_neg h2, if_neg h3]
      repeat' split
      all_goals omega
    have e2 : (UInt8.ofNat (246 + szN n)).toNat = 246 + szN n := by simp; omega
    have em : n % 256 ^ (szN n - 1) = n := by
      apply Nat.mod_eq_of_lt
      rcases hz with h | h | h | h | h | h <;> rw [h.1] <;> exact h.2
    refine ⟨_, _, by rw [if_neg h1, if_neg h2, if_neg h3], ?_, ?_, ?_, ?_⟩
    · unfold kOf; rw [e2, if_neg (by omega), if_neg (by omega), if_neg (by omega)]; omega
    · have hl : (UInt8.ofNat (246 + szN n) :: bigL n (szN n - 1)).length = szN n := by rw [List.length_cons, bigL_len]; omega
      rw [valL, hl, if_neg (by omega), if_neg (by omega), if_neg (by omega), List.drop_succ_cons, List.drop_zero, sum_big, em]
    · rw [e2, if_neg h1, if_neg h2, if_neg h3]
    · rw [sumL_cons, e2, bigL_len, sum_big, em, if_neg h1, if_neg h2, if_neg h3]

theorem take_put (n : Nat) (hn : n < 18446744073709551616) (s : List UInt8) : takeL (putL n ++ s) = (n, s, true) := by
  obtain ⟨b, r, e, hk, hv, _, _⟩ := put_parts n hn
  have hl := putL_len n
  rw [e] at hl ⊢
  have ht : ((b :: r) ++ s).take (szN n) = b :: r := by rw [← hl, List.take_left']; rfl
  have hd : ((b :: r) ++ s).drop (szN n) = s := by rw [← hl, List.drop_left']; rfl
  rw [List.cons_append, takeL, ← List.cons_append, hk, if_neg (by rw [List.length_append]; omega), ht, hd, hv, if_pos e]
theorem take_back (s : List UInt8) (k : Nat) (behind : List UInt8) (h : takeL s = (k, behind, true)) : putL k ++ behind = s := by
  cases s with
  | nil => simp [takeL] at h
  | cons b r =>
    rw [takeL_cons] at h
    split at h
    · simp at h
    · split at h
      · next h1 h2 =>
        simp only [Prod.mk.injEq, and_true] at h
        rw [← h.1, ← h.2, h2, List.take_append_drop]
      · simp at h
theorem valL_lt (b : UInt8) (r : List UInt8) (h : (b :: r).length = kOf b) : valL (b :: r) < 18446744073709551616 := by
  unfold valL
  have h1 := sumL_lt (b :: r)
  have h2 := sumL_lt ((b :: r).drop 1)
  simp only [List.drop_succ_cons, List.drop_zero] at *
  have h3 := kOf_le b
  rw [h] at h1 ⊢
  split
  · next e => rw [e] at h1; omega
  split
  · next e => rw [e] at h1; omega
  split
  · next e => have : r.length = 2 := by simp at h; omega
              rw [this] at h2; omega
  · have h4 : (256 : Nat) ^ r.length ≤ 256 ^ 8 := Nat.pow_le_pow_right (by omega) (by simp at h; omega)
    have e8 : (256 : Nat) ^ 8 = 18446744073709551616 := by decide
    omega
theorem take_lt (s : List UInt8) : (takeL s).1 < 18446744073709551616 := by
  cases s with
  | nil => simp [takeL]
  | cons b r =>
    rw [takeL_cons]
    split
    · simp
    · next h =>
      split
      · have hk := kOf_pos b
        show valL ((b :: r).take (kOf b)) < _
        obtain ⟨k, hk'⟩ : ∃ k, kOf b = k + 1 := ⟨kOf b - 1, by omega⟩
        rw [hk', List.take_succ_cons]
        exact valL_lt b _ (by rw [hk']; simp at h ⊢; omega)
      · simp
theorem take_rest (s : List UInt8) : (takeL s).2.1.length ≤ s.length := by
  cases s with
  | nil => simp [takeL]
  | cons b r =>
    rw [takeL_cons]
    split
    · simp
    · split
      · simp [List.length_drop]
      · simp
end Go.Proofs.YtbalkchphijehaaDoor
/- Mathematics of layer 4: a value's bytes (encL), what bytes are read as (readL), rows of values, and what stands behind a text (afterL). -/
set_option maxRecDepth 20000
namespace Go.Proofs.YtbalkchphijehaaDoor

def rightB (k n : Int) (s : List UInt8) : Bool :=
  if k = 1 then (n = 0 || n = 1) && s.isEmpty
  else if k = 2 then (-32768 ≤ n && n ≤ 32767) && s.isEmpty
  else if k = 3 then (-2147483648 ≤ n && n ≤ 2147483647) && s.isEmpty
  else if k = 4 then s.isEmpty
  else if k = 5 then n = 0 && s.length ≤ 32
  else if k = 6 then n = 0 && s.length ≤ 1000
  else false

/-- A value: its kind, its number, its text. -/
structure KV where
  k : Int
  n : Int
  s : ByteArray
def KV.t (v : KV) : List UInt8 := v.s.data.toList
def KV.in64 (v : KV) : Prop := -9223372036854775808 ≤ v.n ∧ v.n ≤ 9223372036854775807
def KV.right (v : KV) : Bool := rightB v.k v.n v.t
theorem KV.eq {v u : KV} (h1 : v.k = u.k) (h2 : v.n = u.n) (h3 : v.t = u.t) : v = u := by
  cases v; cases u
  simp only [KV.t] at h1 h2 h3
  subst h1; subst h2
  congr 1
  apply ByteArray.ext
  exact Array.toList_inj.1 h3

/-- A text's bytes but for its end: behind each 0 a 255. -/
def escL (l : List UInt8) : List UInt8 := l.flatMap fun b => if b = 0 then [0, 255] else [b]
theorem escL_cons (b : UInt8) (l : List UInt8) : escL (b :: l) = (if b = 0 then [0, 255] else [b]) ++ escL l := rfl
theorem escL_zero (l : List UInt8) : escL (0 :: l) = 0 :: 255 :: escL l := rfl
theorem escL_other (b : UInt8) (l : List UInt8) (h : b ≠ 0) : escL (b :: l) = b :: escL l := by rw [escL_cons, if_neg h]; rfl
theorem escL_append (l m : List UInt8) : escL (l ++ m) = escL l ++ escL m := by simp [escL]
theorem escL_len (l : List UInt8) : (escL l).length ≤ 2 * l.length := by
  induction l with
  | nil => simp [escL]
  | cons b l ih =>
    by_cases h : b = 0
    · subst h; rw [escL_zero]; simp; omega
    · rw [escL_other b l h]; simp; omega
/-- How many bytes a kind's number has; 0: it is none. -/
def widK (k : Int) : Nat := if k = 1 then 1 else if k = 2 then 2 else if k = 3 then 4 else if k = 4 then 8 else 0
def biasK (k : Int) : Nat := if k = 2 then 32768 else if k = 3 then 2147483648 else if k = 4 then 9223372036854775808 else 0
def bodyL (k n : Int) (s : List UInt8) : List UInt8 := if widK k = 0 then escL s ++ [0, 0] else bigL (n + biasK k).toNat (widK k)
/-- A right value's bytes. -/
def encL (v : KV) : List UInt8 := UInt8.ofNat v.k.toNat :: bodyL v.k v.n v.t
theorem widK_le (k : Int) : widK k ≤ 8 := by unfold widK; (repeat' split) <;> omega

/-- A text's bytes ahead: the text, and what is behind its end. -/
def unescL : List UInt8 → Option (List UInt8 × List UInt8)
  | [] => none
  | [_] => none
  | b :: c :: r => if b ≠ 0 then (unescL (c :: r)).map fun p => (b :: p.1, p.2) else if c = 0 then some ([], r) else if c = 255 then (unescL r).map fun p => (0 :: p.1, p.2) else none
theorem unesc_other (b : UInt8) (l : List UInt8) (h : b ≠ 0) : unescL (b :: l) = (unescL l).map fun p => (b :: p.1, p.2) := by
  cases l with
  | nil => rfl
  | cons c r => rw [unescL, if_pos h]
theorem unesc_end (r : List UInt8) : unescL (0 :: 0 :: r) = some ([], r) := rfl
theorem unesc_mark (r : List UInt8) : unescL (0 :: 255 :: r) = (unescL r).map fun p => (0 :: p.1, p.2) := by rw [unescL, if_neg (by simp), if_neg (by decide), if_pos rfl]
theorem unesc_bad (c : UInt8) (r : List UInt8) (h : c ≠ 0) (h2 : c ≠ 255) : unescL (0 :: c :: r) = none := by rw [unescL, if_neg (by simp), if_neg h, if_neg h2]
theorem unesc_short (l : List UInt8) (h : l.length ≤ 1) : unescL l = none := by
  match l, h with
  | [], _ => rfl
  | [_], _ => rfl
  | _ :: _ :: _, h => simp at h
theorem unesc_esc (r : List UInt8) : ∀ t : List UInt8, unescL (escL t ++ 0 :: 0 :: r) = some (t, r)
  | [] => rfl
  | b :: t => by
    by_cases h : b = 0
    · subst h
      rw [escL_zero, List.cons_append, List.cons_append, unesc_mark, unesc_esc r t]; rfl
    · rw [escL_other b t h, List.cons_append, unesc_other b _ h, unesc_esc r t]; rfl
theorem unesc_some : ∀ (l t r : List UInt8), unescL l = some (t, r) → l = escL t ++ 0 :: 0 :: r
  | [], t, r, h => by cases h
  | [_], t, r, h => by cases h
  | b :: c :: l, t, r, h => by
    by_cases hb : b = 0
    · subst hb
      by_cases hc : c = 0
      · subst hc
        rw [unesc_end] at h
        cases h; rfl
      by_cases h2 : c = 255
      · subst h2
        rw [unesc_mark] at h
        obtain ⟨⟨t', r'⟩, h1, h3⟩ := Option.map_eq_some_iff.1 h
        cases h3
        have := unesc_some l t' _ h1
        rw [escL_zero, this]; rfl
      · rw [unesc_bad c l hc h2] at h; cases h
    · rw [unesc_other b _ hb] at h
      obtain ⟨⟨t', r'⟩, h1, h3⟩ := Option.map_eq_some_iff.1 h
      cases h3
      have := unesc_some (c :: l) t' _ h1
      rw [escL_other b t' hb, this]; rfl

/-- What stands ahead of some bytes: a right value, and what is behind it. -/
def readL : List UInt8 → Option (KV × List UInt8)
  | [] => none
  | b :: r =>
    if widK b.toNat = 0 then
      match unescL r with
      | none => none
      | some (t, rest) => if rightB b.toNat 0 t = true then some (⟨b.toNat, 0, ⟨t.toArray⟩⟩, rest) else none
    else if r.length < widK b.toNat then none
    else if rightB b.toNat ((sumL (r.take (widK b.toNat)) : Int) - biasK b.toNat) [] = true then some (⟨b.toNat, (sumL (r.take (widK b.toNat)) : Int) - biasK b.toNat, ⟨#[]⟩⟩, r.drop (widK b.toNat)) else none

/-- What being right says. -/
theorem right_cases (v : KV) (h : v.right = true) :
    (1 ≤ v.k ∧ v.k ≤ 4 ∧ v.t = [] ∧ 0 < widK v.k ∧ (v.k ≠ 4 → 0 ≤ v.n + biasK v.k ∧ v.n + biasK v.k < (256 : Int) ^ widK v.k)) ∨ (5 ≤ v.k ∧ v.k ≤ 6 ∧ v.n = 0 ∧ v.t.length ≤ 1000 ∧ widK v.k = 0) := by
  obtain ⟨k, n, s⟩ := v
  unfold KV.right rightB at h
  simp only at h ⊢
  by_cases h1 : k = 1
  · subst h1; left; simp at h; refine ⟨by omega, by omega, ?_, by decide, fun _ => ?_⟩
    · exact h.2
    · simp [biasK, widK]; rcases h.1 with h | h <;> omega
  by_cases h2 : k = 2
  · subst h2; left; simp at h; refine ⟨by omega, by omega, h.2, by decide, fun _ => ?_⟩
    simp [biasK, widK]; omega
  by_cases h3 : k = 3
  · subst h3; left; simp at h; refine ⟨by omega, by omega, h.2, by decide, fun _ => ?_⟩
    simp [biasK, widK]; omega
  by_cases h4 : k = 4
  · subst h4; left; simp at h; exact ⟨by omega, by omega, h, by decide, fun hh => absurd rfl hh⟩
  right
  by_cases h5 : k = 5
  · subst h5; simp at h; exact ⟨by omega, by omega, h.1, by have := h.2; simp only [KV.t] at *; omega, by decide⟩
  by_cases h6 : k = 6
  · subst h6; simp at h; exact ⟨by omega, by omega, h.1, h.2, by decide⟩
  · simp [h1, h2, h3, h4, h5, h6] at h
/-- A right value's number, laid up, lies within its bytes. -/
theorem right_num (v : KV) (h : v.right = true) (hi : v.in64) (hw : 0 < widK v.k) : 0 ≤ v.n + biasK v.k ∧ v.n + biasK v.k < (256 : Int) ^ widK v.k := by
  rcases right_cases v h with ⟨h1, h2, _, _, h5⟩ | ⟨_, _, _, _, h5⟩
  · by_cases h4 : v.k = 4
    · obtain ⟨a, b⟩ := hi
      rw [h4]; simp [biasK, widK]; omega
    · exact h5 h4
  · omega
theorem kind_byte (v : KV) (h : v.right = true) : ((UInt8.ofNat v.k.toNat).toNat : Int) = v.k ∧ 1 ≤ v.k ∧ v.k ≤ 6 := by
  have : 1 ≤ v.k ∧ v.k ≤ 6 := by rcases right_cases v h with h | h <;> omega
  refine ⟨?_, this⟩
  simp; omega
theorem body_len (v : KV) (h : v.right = true) : (bodyL v.k v.n v.t).length ≤ 2002 := by
  unfold bodyL
  split
  · next hw =>
    rcases right_cases v h with h | h
    · omega
    · have := escL_len v.t; simp; omega
  · rw [bigL_len]; have := widK_le v.k; omega
theorem enc_len (v : KV) (h : v.right = true) : (encL v).length ≤ 2003 := by have := body_len v h; simp [encL]; omega

theorem read_enc (v : KV) (h : v.right = true) (hi : v.in64) (r : List UInt8) : readL (encL v ++ r) = some (v, r) := by
  obtain ⟨hk, h1, h6⟩ := kind_byte v h
  unfold encL
  rw [List.cons_append, readL, hk]
  unfold bodyL
  by_cases hw : widK v.k = 0
  · rw [if_pos hw, if_pos hw]
    have e : escL v.t ++ [0, 0] ++ r = escL v.t ++ 0 :: 0 :: r := by simp
    rw [e, unesc_esc r v.t]
    have hn : v.n = 0 := by rcases right_cases v h with h | h <;> omega
    have hr : rightB v.k 0 v.t = true := by rw [← hn]; exact h
    simp only
    rw [if_pos hr]
    congr 2
    exact KV.eq rfl hn.symm rfl
  · rw [if_neg hw, if_neg hw]
    obtain ⟨b1, b2⟩ := right_num v h hi (by omega)
    have hl : (bigL (v.n + biasK v.k).toNat (widK v.k) ++ r).length ≥ widK v.k := by rw [List.length_append, bigL_len]; omega
    have ht : (bigL (v.n + biasK v.k).toNat (widK v.k) ++ r).take (widK v.k) = bigL (v.n + biasK v.k).toNat (widK v.k) := List.take_left' (bigL_len _ _)
    have hd : (bigL (v.n + biasK v.k).toNat (widK v.k) ++ r).drop (widK v.k) = r := List.drop_left' (bigL_len _ _)
    have hs : ((sumL (bigL (v.n + biasK v.k).toNat (widK v.k)) : Nat) : Int) - biasK v.k = v.n := by
      rw [sum_big, Nat.mod_eq_of_lt]
      · omega
      · have : ((v.n + biasK v.k).toNat : Int) < ((256 ^ widK v.k : Nat) : Int) := by rw [Int.natCast_pow]; have : ((256 : Nat) : Int) = 256 := rfl; rw [this]; omega
        omega
    rw [if_neg (by omega), ht, hd, hs]
    have htt : v.t = [] := by rcases right_cases v h with h | h
                              · exact h.2.2.1
                              · omega
    have hr : rightB v.k v.n [] = true := by rw [← htt]; exact h
    rw [if_pos hr]
    congr 2
    exact KV.eq rfl rfl htt.symm

theorem big_sum : ∀ l : List UInt8, bigL (sumL l) l.length = l := by
  intro l
  induction l with
  | nil => rfl
  | cons b l ih =>
    rw [List.length_cons, bigL_cons, sumL_cons]
    have hlt := sumL_lt l
    have e1 : (b.toNat * 256 ^ l.length + sumL l) / 256 ^ l.length % 256 = b.toNat := by
      rw [Nat.mul_comm, Nat.mul_add_div (Nat.pow_pos (by decide)), Nat.div_eq_of_lt hlt]
      have := b.toNat_lt; omega
    have e2 : ∀ (k a m : Nat), bigL (a * 256 ^ k + m) k = bigL m k := by
      intro k
      induction k with
      | zero => intro a m; rfl
      | succ k ihk =>
        intro a m
        rw [bigL, bigL, Nat.pow_succ, ← Nat.mul_assoc]
        have h1 : (a * 256 ^ k * 256 + m) / 256 = a * 256 ^ k + m / 256 := by omega
        have h2 : (a * 256 ^ k * 256 + m) % 256 = m % 256 := by omega
        rw [h1, h2, ihk]
    rw [e1, e2, ih]
    simp

theorem read_some (l r : List UInt8) (v : KV) (h : readL l = some (v, r)) : v.right = true ∧ v.in64 ∧ encL v ++ r = l := by
  cases l with
  | nil => cases h
  | cons b l =>
    rw [readL] at h
    have hbl := b.toNat_lt
    by_cases hw : widK b.toNat = 0
    · rw [if_pos hw] at h
      cases hu : unescL l with
      | none => rw [hu] at h; cases h
      | some p =>
        obtain ⟨t, rest⟩ := p
        rw [hu] at h
        simp only at h
        by_cases hr : rightB b.toNat 0 t = true
        · rw [if_pos hr] at h
          cases h
          refine ⟨hr, ⟨by simp, by simp⟩, ?_⟩
          have := unesc_some l t r hu
          rw [this]
          show UInt8.ofNat ((b.toNat : Int).toNat) :: bodyL _ _ _ ++ r = _
          unfold bodyL
          rw [if_pos hw]
          simp [KV.t]
        · rw [if_neg hr] at h; cases h
    · rw [if_neg hw] at h
      by_cases hl : l.length < widK b.toNat
      · rw [if_pos hl] at h; cases h
      · rw [if_neg hl] at h
        by_cases hr : rightB b.toNat ((sumL (l.take (widK b.toNat)) : Int) - biasK b.toNat) [] = true
        · rw [if_pos hr] at h
          cases h
          have htl : (l.take (widK b.toNat)).length = widK b.toNat := by rw [List.length_take]; omega
          have hsl := sumL_lt (l.take (widK b.toNat))
          rw [htl] at hsl
          refine ⟨hr, ?_, ?_⟩
          · have h8 := widK_le b.toNat
            have hb8 : biasK b.toNat ≤ 9223372036854775808 := by unfold biasK; (repeat' split) <;> omega
            refine ⟨by simp only; omega, ?_⟩
            simp only
            have hcase : widK b.toNat = 8 ∧ biasK b.toNat = 9223372036854775808 ∨ 256 ^ widK b.toNat ≤ 256 ^ 4 := by
              unfold widK biasK
              by_cases c1 : (b.toNat : Int) = 1
              · right; simp [c1]
              by_cases c2 : (b.toNat : Int) = 2
              · right; simp [c2]
              by_cases c3 : (b.toNat : Int) = 3
              · right; simp [c3]
              by_cases c4 : (b.toNat : Int) = 4
              · left; simp [c4]
              · right; simp [c1, c2, c3, c4]
            rcases hcase with ⟨e1, e2⟩ | hc
            · rw [e1] at hsl ⊢; rw [e2]; omega
            · omega
          · show UInt8.ofNat ((b.toNat : Int).toNat) :: bodyL _ _ _ ++ _ = _
            unfold bodyL
            rw [if_neg hw]
            have e : ((sumL (l.take (widK b.toNat)) : Int) - biasK b.toNat + biasK b.toNat).toNat = sumL (l.take (widK b.toNat)) := by omega
            simp only
            rw [e]
            have e3 := big_sum (l.take (widK b.toNat))
            rw [htl] at e3
            rw [e3, List.cons_append, List.take_append_drop]
            simp
        · rw [if_neg hr] at h; cases h

theorem ext_data (s : ByteArray) (i j : Nat) : (s.extract i j).data.toList = (s.data.toList.take j).drop i := by
  simp [ByteArray.data_extract, List.extract_eq_take_drop, List.drop_take]
theorem ext_end (s : ByteArray) (i : Nat) : (s.extract i s.size).data.toList = s.data.toList.drop i := by
  rw [ext_data, List.take_of_length_le (by exact Nat.le_refl _)]
theorem ext_mid (s : ByteArray) (i j : Nat) : (s.extract i (i + j)).data.toList = (s.data.toList.drop i).take j := by
  rw [ext_data, List.drop_take]; congr 1; omega
theorem ba_list (s : ByteArray) : (⟨s.data.toList.toArray⟩ : ByteArray) = s := by apply ByteArray.ext; simp
theorem ba_append (a b : List UInt8) : (⟨a.toArray⟩ ++ ⟨b.toArray⟩ : ByteArray) = ⟨(a ++ b).toArray⟩ := by apply ByteArray.ext; simp
theorem ba_eq {s : ByteArray} {l : List UInt8} (h : s.data.toList = l) : s = ⟨l.toArray⟩ := by rw [← h, ba_list]

end Go.Proofs.YtbalkchphijehaaDoor
/- Mathematics of chapter 14: names, schemas, rows, their bytes; no program. -/
namespace Go.Proofs.YtbalkchphijehaaDoor

/-- So many numbers, none above a million, read off the front. -/
def rdN : Nat → List UInt8 → Option (List Nat × List UInt8)
  | 0, s => some ([], s)
  | k + 1, s => if (takeL s).2.2 = true ∧ (takeL s).1 ≤ 1000000 then (rdN k (takeL s).2.1).map (fun x => ((takeL s).1 :: x.1, x.2)) else none
def putsN (l : List Nat) : List UInt8 := l.flatMap putL
theorem putsN_cons (n : Nat) (l : List Nat) : putsN (n :: l) = putL n ++ putsN l := by simp [putsN]
theorem rdN_puts : ∀ (l : List Nat) (rest : List UInt8), (∀ n ∈ l, n ≤ 1000000) → rdN l.length (putsN l ++ rest) = some (l, rest)
  | [], rest, _ => rfl
  | n :: l, rest, h => by
    have hn := h n (by simp)
    have ht : takeL (putsN (n :: l) ++ rest) = (n, putsN l ++ rest, true) := by
      rw [putsN_cons, List.append_assoc]
      exact take_put n (by omega) _
    show rdN (l.length + 1) _ = _
    rw [rdN, ht, if_pos ⟨rfl, hn⟩, rdN_puts l rest (fun m hm => h m (by simp [hm]))]
    rfl
theorem rdN_back : ∀ (k : Nat) (s : List UInt8) (l : List Nat) (rest : List UInt8), rdN k s = some (l, rest) → l.length = k ∧ putsN l ++ rest = s ∧ ∀ n ∈ l, n ≤ 1000000
  | 0, s, l, rest, h => by
    simp only [rdN, Option.some.injEq, Prod.mk.injEq] at h
    obtain ⟨rfl, rfl⟩ := h
    exact ⟨rfl, rfl, fun n hn => by cases hn⟩
  | k + 1, s, l, rest, h => by
    rw [rdN] at h
    split at h
    · rename_i hc
      cases hr : rdN k (takeL s).2.1 with
      | none => rw [hr] at h; cases h
      | some x =>
        rw [hr] at h
        simp only [Option.map_some, Option.some.injEq, Prod.mk.injEq] at h
        obtain ⟨rfl, rfl⟩ := h
        obtain ⟨h1, h2, h3⟩ := rdN_back k _ x.1 x.2 (by rw [hr])
        refine ⟨by simp [h1], ?_, fun n hn => ?_⟩
        · rw [putsN_cons, List.append_assoc, h2]
          exact take_back s _ _ (by rw [← hc.1])
        · rcases List.mem_cons.1 hn with rfl | hn
          · exact hc.2
          · exact h3 n hn
    · cases h
/-- Values, one behind the other. -/
def valsL (L : List KV) : List UInt8 := L.flatMap encL
theorem valsL_cons (L : List KV) (v : KV) : valsL (v :: L) = encL v ++ valsL L := rfl
theorem vals_len (L : List KV) (hr : ∀ v ∈ L, v.right = true) : (valsL L).length ≤ 2003 * L.length := by
  induction L with
  | nil => simp [valsL]
  | cons v L ih =>
    have h1 := enc_len v (hr v (by simp))
    have h2 := ih (fun u hu => hr u (by simp [hu]))
    rw [valsL_cons, List.length_append, List.length_cons]
    omega
/-- So many values, read off the front. -/
def rdV : Nat → List UInt8 → Option (List KV × List UInt8)
  | 0, s => some ([], s)
  | k + 1, s => match readL s with
    | some (v, r) => (rdV k r).map (fun x => (v :: x.1, x.2))
    | none => none
theorem rdV_vals : ∀ (L : List KV) (r : List UInt8), (∀ v ∈ L, v.right = true ∧ v.in64) → rdV L.length (valsL L ++ r) = some (L, r)
  | [], r, _ => rfl
  | v :: L, r, h => by
    have hv := h v (by simp)
    show rdV (L.length + 1) _ = _
    rw [rdV, valsL_cons, List.append_assoc, read_enc v hv.1 hv.2]
    simp only
    rw [rdV_vals L r (fun u hu => h u (by simp [hu]))]
    rfl
theorem rdV_back : ∀ (k : Nat) (s : List UInt8) (L : List KV) (r : List UInt8), rdV k s = some (L, r) → L.length = k ∧ valsL L ++ r = s ∧ ∀ v ∈ L, v.right = true ∧ v.in64
  | 0, s, L, r, h => by
    simp only [rdV, Option.some.injEq, Prod.mk.injEq] at h
    obtain ⟨rfl, rfl⟩ := h
    exact ⟨rfl, rfl, fun n hn => by cases hn⟩
  | k + 1, s, L, r, h => by
    rw [rdV] at h
    cases hv : readL s with
    | none => rw [hv] at h; cases h
    | some x =>
      obtain ⟨v, s1⟩ := x
      rw [hv] at h
      simp only at h
      cases hr : rdV k s1 with
      | none => rw [hr] at h; cases h
      | some y =>
        rw [hr] at h
        simp only [Option.map_some, Option.some.injEq, Prod.mk.injEq] at h
        obtain ⟨rfl, rfl⟩ := h
        obtain ⟨h1, h2, h3⟩ := rdV_back k s1 y.1 y.2 (by rw [hr])
        obtain ⟨g1, g2, g3⟩ := read_some s s1 v hv
        refine ⟨by simp [h1], ?_, fun u hu => ?_⟩
        · rw [valsL_cons, List.append_assoc, h2]; exact g3
        · rcases List.mem_cons.1 hu with rfl | hu
          · exact ⟨g1, g2⟩
          · exact h3 u hu
/-- A ROW: may it be put; its bytes; what bytes are read as. -/
def rowB (t ver : Int) (L : List KV) : Bool := decide (0 ≤ t) && decide (t ≤ 1000000) && (decide (0 ≤ ver) && decide (ver ≤ 1000000)) && (decide (L.length ≤ 12) && L.all KV.right)
theorem rowB_parts {t ver : Int} {L : List KV} (h : rowB t ver L = true) : (0 ≤ t ∧ t ≤ 1000000) ∧ (0 ≤ ver ∧ ver ≤ 1000000) ∧ L.length ≤ 12 ∧ ∀ v ∈ L, v.right = true := by
  simp only [rowB, Bool.and_eq_true, decide_eq_true_eq, List.all_eq_true] at h
  exact ⟨h.1.1, h.1.2, h.2.1, h.2.2⟩
theorem rowB_mk {t ver : Int} {L : List KV} (h1 : 0 ≤ t ∧ t ≤ 1000000) (h2 : 0 ≤ ver ∧ ver ≤ 1000000) (h3 : L.length ≤ 12) (h4 : ∀ v ∈ L, v.right = true) : rowB t ver L = true := by
  simp only [rowB, Bool.and_eq_true, decide_eq_true_eq, List.all_eq_true]
  exact ⟨⟨h1, h2⟩, h3, h4⟩
def encRow (t ver : Nat) (L : List KV) : List UInt8 := putsN [t, ver, L.length] ++ valsL L
def readRow (s : List UInt8) : Option (Nat × Nat × List KV) := match rdN 3 s with
  | some ([a, b, c], r) => if c ≤ 12 then (match rdV c r with | some (L, []) => some (a, b, L) | _ => none) else none
  | _ => none
theorem row_enc {t ver : Nat} {L : List KV} (h : rowB t ver L = true) (hi : ∀ v ∈ L, v.in64) : readRow (encRow t ver L) = some (t, ver, L) := by
  obtain ⟨h1, h2, h3, h4⟩ := rowB_parts h
  unfold readRow encRow
  rw [show (3 : Nat) = [t, ver, L.length].length from rfl, rdN_puts _ _ (fun n hn => by
    simp only [List.mem_cons, List.not_mem_nil, or_false] at hn
    rcases hn with rfl | rfl | rfl <;> omega)]
  simp only
  rw [if_pos h3, show valsL L = valsL L ++ [] by simp, rdV_vals L [] (fun v hv => ⟨h4 v hv, hi v hv⟩)]
theorem three_of {α : Type} {l : List α} (h : l.length = 3) : ∃ a b c, l = [a, b, c] := by
  match l, h with
  | [a, b, c], _ => exact ⟨a, b, c, rfl⟩
theorem row_back {s : List UInt8} {t ver : Nat} {L : List KV} (h : readRow s = some (t, ver, L)) : rowB t ver L = true ∧ (∀ v ∈ L, v.in64) ∧ encRow t ver L = s := by
  unfold readRow at h
  cases hn : rdN 3 s with
  | none => rw [hn] at h; cases h
  | some x =>
    obtain ⟨l, r⟩ := x
    obtain ⟨h1, h2, h3⟩ := rdN_back 3 s l r hn
    obtain ⟨a, b, c, rfl⟩ := three_of h1
    rw [hn] at h
    simp only at h
    split at h
    · rename_i hc
      cases hv : rdV c r with
      | none => rw [hv] at h; cases h
      | some y =>
        obtain ⟨M, z⟩ := y
        rw [hv] at h
        cases z with
        | cons q z => cases h
        | nil =>
          simp only [Option.some.injEq, Prod.mk.injEq] at h
          obtain ⟨rfl, rfl, rfl⟩ := h
          obtain ⟨g1, g2, g3⟩ := rdV_back c r M [] hv
          have ha := h3 a (by simp)
          have hb := h3 b (by simp)
          refine ⟨rowB_mk ⟨by omega, by omega⟩ ⟨by omega, by omega⟩ (by omega) (fun v hv => (g3 v hv).1), fun v hv => (g3 v hv).2, ?_⟩
          unfold encRow
          rw [g1, ← h2, ← g2]
          simp
    · cases h
/-- A FIELD, A SCHEMA. -/
structure FV where
  id : Int
  kind : Int
  name : ByteArray
  d : KV
structure SV where
  ver : Int
  next : Int
  fs : List FV
def FV.t (f : FV) : List UInt8 := f.name.data.toList
def FV.fits (f : FV) : Prop := (-9223372036854775808 ≤ f.id ∧ f.id ≤ 9223372036854775807) ∧ (-9223372036854775808 ≤ f.kind ∧ f.kind ≤ 9223372036854775807) ∧ f.d.in64
theorem FV.eq {f g : FV} (h1 : f.id = g.id) (h2 : f.kind = g.kind) (h3 : f.t = g.t) (h4 : f.d = g.d) : f = g := by
  cases f with | mk a b c d => cases g with | mk a' b' c' d' =>
  simp only [FV.t] at h1 h2 h3 h4
  subst h1 h2 h4
  have : c = c' := by apply ByteArray.ext; exact Array.toList_inj.1 h3
  rw [this]
def letB (b : UInt8) : Bool := decide (97 ≤ b.toNat) && decide (b.toNat ≤ 122)
def nameL : List UInt8 → Bool
  | [] => false
  | b :: l => letB b && l.all (fun c => letB c || (decide (48 ≤ c.toNat) && decide (c.toNat ≤ 57) || decide (c.toNat = 95))) && decide (l.length ≤ 23)
def fieldB (next : Int) (f : FV) : Bool := decide (1 ≤ f.id) && decide (f.id < next) && nameL f.t && f.d.right && decide (f.d.k = f.kind)
theorem field_parts {next : Int} {f : FV} (h : fieldB next f = true) : 1 ≤ f.id ∧ f.id < next ∧ nameL f.t = true ∧ f.d.right = true ∧ f.d.k = f.kind := by
  simp only [fieldB, Bool.and_eq_true, decide_eq_true_eq] at h
  exact ⟨h.1.1.1.1, h.1.1.1.2, h.1.1.2, h.1.2, h.2⟩
def freshB (seen : List FV) (f : FV) : Bool := seen.all fun g => !(decide (g.id = f.id) || decide (g.t = f.t))
def fieldsB (next : Int) : List FV → List FV → Bool
  | _, [] => true
  | seen, f :: l => fieldB next f && freshB seen f && fieldsB next (seen ++ [f]) l
def rightS (s : SV) : Bool := fieldsB s.next [] s.fs && (decide (1 ≤ s.ver) && decide (s.ver ≤ 1000000)) && (decide (1 ≤ s.next) && decide (s.next ≤ 1000)) && (decide (1 ≤ s.fs.length) && decide (s.fs.length ≤ 12))
theorem rightS_parts {s : SV} (h : rightS s = true) : fieldsB s.next [] s.fs = true ∧ (1 ≤ s.ver ∧ s.ver ≤ 1000000) ∧ (1 ≤ s.next ∧ s.next ≤ 1000) ∧ 1 ≤ s.fs.length ∧ s.fs.length ≤ 12 := by
  simp only [rightS, Bool.and_eq_true, decide_eq_true_eq] at h
  exact ⟨h.1.1.1, h.1.1.2, h.1.2, h.2⟩
theorem fieldsB_mem {next : Int} : ∀ {l seen : List FV}, fieldsB next seen l = true → ∀ f ∈ l, fieldB next f = true
  | [], _, _, f, hf => by cases hf
  | g :: l, seen, h, f, hf => by
    simp only [fieldsB, Bool.and_eq_true] at h
    rcases List.mem_cons.1 hf with rfl | hf
    · exact h.1.1
    · exact fieldsB_mem h.2 f hf
/-- FITS. -/
def fitsL : List FV → List KV → Int
  | f :: F, v :: L => if v.right = false then 13 else if v.k ≠ f.kind then 12 else fitsL F L
  | _, _ => 0
def fitsE (F : List FV) (L : List KV) : Int := if L.length = F.length then fitsL F L else 13
theorem fitsL_ok : ∀ {F : List FV} {L : List KV}, L.length = F.length → fitsL F L = 0 → ∀ v ∈ L, v.right = true
  | [], [], _, _, v, hv => by cases hv
  | f :: F, u :: L, hl, h, v, hv => by
    simp only [fitsL] at h
    split at h
    · cases h
    · rename_i h1
      split at h
      · cases h
      · rcases List.mem_cons.1 hv with rfl | hv
        · simpa using h1
        · exact fitsL_ok (by simpa using hl) h v hv
theorem fits_row {s : SV} (hr : rightS s = true) {L : List KV} (h : fitsE s.fs L = 0) : L.length = s.fs.length ∧ rowB 1 s.ver L = true := by
  unfold fitsE at h
  split at h
  · rename_i hl
    obtain ⟨-, h2, -, h4⟩ := rightS_parts hr
    exact ⟨hl, rowB_mk ⟨by omega, by omega⟩ ⟨by omega, by omega⟩ (by omega) (fitsL_ok hl h)⟩
  · cases h
theorem fits_defs {next : Int} : ∀ {F : List FV}, (∀ f ∈ F, fieldB next f = true) → fitsL F (F.map (·.d)) = 0
  | [], _ => rfl
  | f :: F, h => by
    obtain ⟨-, -, -, h4, h5⟩ := field_parts (h f (by simp))
    show (if f.d.right = false then (13 : Int) else if f.d.k ≠ f.kind then 12 else fitsL F (F.map (·.d))) = 0
    rw [if_neg (by rw [h4]; simp), if_neg (by rw [h5]; simp)]
    exact fits_defs (fun g hg => h g (by simp [hg]))
end Go.Proofs.YtbalkchphijehaaDoor
/- Mathematics of chapter 14: how loops go through names, fields, values and bytes; no program. -/
namespace Go.Proofs.YtbalkchphijehaaDoor

/-- NAMES. -/
def othB (c : UInt8) : Bool := decide (48 ≤ c.toNat) && decide (c.toNat ≤ 57) || decide (c.toNat = 95)
/-- FIELDS. -/
theorem take_succ14 {α : Type} {l : List α} {i : Nat} (h : i < l.length) : l.take (i + 1) = l.take i ++ [l[i]] := by rw [List.take_add_one, List.getElem?_eq_getElem h]; rfl
end Go.Proofs.YtbalkchphijehaaDoor
/- Mathematics of chapter 14: how a reader with a mark of its own (it is bad from the first thing on that can't be read) goes through bytes; no program. -/
namespace Go.Proofs.YtbalkchphijehaaDoor

/-- What is left to read, and the mark. -/
abbrev IB := List UInt8 × Bool
def numS (most : Nat) (st : IB) : Nat × IB := if (takeL st.1).2.2 = true ∧ (takeL st.1).1 ≤ most then ((takeL st.1).1, ((takeL st.1).2.1, st.2)) else (0, (st.1, true))
theorem numS_yes {most : Nat} {st : IB} (h : (takeL st.1).2.2 = true) (h1 : (takeL st.1).1 ≤ most) : numS most st = ((takeL st.1).1, ((takeL st.1).2.1, st.2)) := by unfold numS; rw [if_pos ⟨h, h1⟩]
theorem numS_no {most : Nat} {st : IB} (h : (takeL st.1).2.2 = false ∨ ¬ (takeL st.1).1 ≤ most) : numS most st = (0, (st.1, true)) := by
  unfold numS
  rw [if_neg (by rintro ⟨a, b⟩; rcases h with h | h; { rw [a] at h; cases h }; { exact h b })]
theorem numS_le (most : Nat) (st : IB) : (numS most st).1 ≤ most := by
  unfold numS; split
  · rename_i h; exact h.2
  · exact Nat.zero_le _
theorem numS_len (most : Nat) (st : IB) : (numS most st).2.1.length ≤ st.1.length := by
  unfold numS; split
  · exact take_rest _
  · exact Nat.le_refl _
theorem numS_bad {most : Nat} {st : IB} (h : st.2 = true) : (numS most st).2.2 = true := by unfold numS; split <;> simp [h]
theorem numS_good {most : Nat} {s : List UInt8} (h : (numS most (s, false)).2.2 = false) : (takeL s).2.2 = true ∧ (takeL s).1 ≤ most ∧ numS most (s, false) = ((takeL s).1, ((takeL s).2.1, false)) := by
  unfold numS at h ⊢
  split at h
  · rename_i hc; exact ⟨hc.1, hc.2, by rw [if_pos hc]⟩
  · cases h
theorem rdN3 {s : List UInt8} (h1 : (takeL s).2.2 = true) (l1 : (takeL s).1 ≤ 1000000) (h2 : (takeL (takeL s).2.1).2.2 = true) (l2 : (takeL (takeL s).2.1).1 ≤ 1000000) (h3 : (takeL (takeL (takeL s).2.1).2.1).2.2 = true) (l3 : (takeL (takeL (takeL s).2.1).2.1).1 ≤ 1000000) :
    rdN 3 s = some ([(takeL s).1, (takeL (takeL s).2.1).1, (takeL (takeL (takeL s).2.1).2.1).1], (takeL (takeL (takeL s).2.1).2.1).2.1) := by
  rw [rdN, if_pos ⟨h1, l1⟩, rdN, if_pos ⟨h2, l2⟩, rdN, if_pos ⟨h3, l3⟩]; rfl
/-- What three numbers are, if they are there. -/
theorem rdN3_of {s r : List UInt8} {a b c : Nat} (h : rdN 3 s = some ([a, b, c], r)) :
    (takeL s).2.2 = true ∧ (takeL s).1 = a ∧ (takeL (takeL s).2.1).2.2 = true ∧ (takeL (takeL s).2.1).1 = b ∧ (takeL (takeL (takeL s).2.1).2.1).2.2 = true ∧ (takeL (takeL (takeL s).2.1).2.1).1 = c ∧ (takeL (takeL (takeL s).2.1).2.1).2.1 = r := by
  by_cases h1 : (takeL s).2.2 = true ∧ (takeL s).1 ≤ 1000000
  · by_cases h2 : (takeL (takeL s).2.1).2.2 = true ∧ (takeL (takeL s).2.1).1 ≤ 1000000
    · by_cases h3 : (takeL (takeL (takeL s).2.1).2.1).2.2 = true ∧ (takeL (takeL (takeL s).2.1).2.1).1 ≤ 1000000
      · rw [rdN3 h1.1 h1.2 h2.1 h2.2 h3.1 h3.2] at h
        simp only [Option.some.injEq, Prod.mk.injEq, List.cons.injEq, and_true] at h
        exact ⟨h1.1, h.1.1, h2.1, h.1.2.1, h3.1, h.1.2.2, h.2⟩
      · rw [rdN, if_pos h1, rdN, if_pos h2, rdN, if_neg h3] at h; cases h
    · rw [rdN, if_pos h1, rdN, if_neg h2] at h; cases h
  · rw [rdN, if_neg h1] at h; cases h
/-- UNPACK: the numbers, the fields, what is left. -/
def unpA (s : List UInt8) : Nat × IB := numS 1000000 (s, false)
/-- TAKE: the numbers, and what is left. -/
def tkB (s : List UInt8) : Nat × IB := numS 1000000 (unpA s).2
def tkC (s : List UInt8) : Nat × IB := numS 12 (tkB s).2
end Go.Proofs.YtbalkchphijehaaDoor
