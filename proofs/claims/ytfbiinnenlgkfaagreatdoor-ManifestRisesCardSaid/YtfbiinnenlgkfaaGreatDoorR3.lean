/- VMath, NMath, CMath, CFrame, JMath, laid together. -/
import Derived.Lib.Bytealg
set_option linter.unusedSimpArgs false
set_option linter.unusedVariables false
namespace Go.Proofs.YtfbiinnenlgkfaaGreatDoor

def bigL (n : Nat) : Nat → List UInt8
 | 0 => []
 | k + 1 => bigL (n / 256) k ++ [UInt8.ofNat (n % 256)]
def sumL (l : List UInt8) : Nat := l.foldl (fun a b => a * 256 + b.toNat) 0
theorem sumL_snoc (l : List UInt8) (b : UInt8) : sumL (l ++ [b]) = sumL l * 256 + b.toNat := by simp [sumL]
theorem foldl_from (l : List UInt8) : ∀ a : Nat, l.foldl (fun a b => a * 256 + b.toNat) a = a * 256 ^ l.length + sumL l := by
 induction l with
 | nil => intro a; simp [sumL]
 | cons b l ih =>
  intro a
  simp only [List.foldl_cons, List.length_cons, sumL, Nat.zero_mul, Nat.zero_add]
  rw [ih, ih b.toNat, Nat.pow_succ, Nat.add_mul, Nat.mul_assoc, Nat.mul_comm 256, Nat.add_assoc]
theorem sumL_cons (b : UInt8) (l : List UInt8) : sumL (b :: l) = b.toNat * 256 ^ l.length + sumL l := by
 show (b :: l).foldl _ 0 = _
 rw [List.foldl_cons, foldl_from]; simp
theorem sumL_lt (l : List UInt8) : sumL l < 256 ^ l.length := by
 induction l with
 | nil => simp [sumL]
 | cons b l ih =>
  rw [sumL_cons, List.length_cons, Nat.pow_succ]
  have := b.toNat_lt
  have h2 : b.toNat * 256 ^ l.length ≤ 255 * 256 ^ l.length := Nat.mul_le_mul_right _ (by omega)
  omega
theorem bigL_len (k : Nat) : ∀ n, (bigL n k).length = k := by
 induction k with
 | zero => intro n; rfl
 | succ k ih => intro n; simp [bigL, ih]
theorem sum_big (k : Nat) : ∀ n, sumL (bigL n k) = n % 256 ^ k := by
 induction k with
 | zero => intro n; simp [bigL, sumL, Nat.mod_one]
 | succ k ih =>
  intro n
  rw [bigL, sumL_snoc, ih]
  have h1 : (UInt8.ofNat (n % 256)).toNat = n % 256 := by simp
  rw [h1, Nat.pow_succ, Nat.mul_comm (256 ^ k) 256, Nat.mod_mul]
  omega
theorem bigL_cons (k : Nat) : ∀ n, bigL n (k + 1) = UInt8.ofNat (n / 256 ^ k % 256) :: bigL n k := by
 induction k with
 | zero => intro n; simp [bigL]
 | succ k ih =>
  intro n
  rw [bigL, ih, bigL, List.cons_append, Nat.div_div_eq_div_mul, Nat.pow_succ, Nat.mul_comm 256]

def szN (n : Nat) : Nat :=
 if n < 241 then 1 else if n < 2288 then 2 else if n < 67824 then 3 else if n < 16777216 then 4 else if n < 4294967296 then 5 else
 if n < 1099511627776 then 6 else if n < 281474976710656 then 7 else if n < 72057594037927936 then 8 else 9
theorem szN_le (n : Nat) : szN n ≤ 9 := by unfold szN; (repeat' split) <;> omega
theorem szN_pos (n : Nat) : 1 ≤ szN n := by unfold szN; (repeat' split) <;> omega
def putL (n : Nat) : List UInt8 :=
 if n < 241 then bigL n 1 else if n < 2288 then bigL (61456 + n) 2 else if n < 67824 then bigL (16316176 + n) 3 else UInt8.ofNat (246 + szN n) :: bigL n (szN n - 1)
theorem putL_len (n : Nat) : (putL n).length = szN n := by
 unfold putL
 by_cases h1 : n < 241
 ·rw [if_pos h1, bigL_len]; simp [szN, h1]
 by_cases h2 : n < 2288
 ·rw [if_neg h1, if_pos h2, bigL_len]; simp [szN, h1, h2]
 by_cases h3 : n < 67824
 ·rw [if_neg h1, if_neg h2, if_pos h3, bigL_len]; simp [szN, h1, h2, h3]
 ·rw [if_neg h1, if_neg h2, if_neg h3, List.length_cons, bigL_len]
  have := szN_pos n; omega
def kOf (b : UInt8) : Nat := if b.toNat < 241 then 1 else if b.toNat < 249 then 2 else if b.toNat = 249 then 3 else b.toNat - 246
theorem kOf_pos (b : UInt8) : 1 ≤ kOf b := by unfold kOf; (repeat' split) <;> omega
theorem kOf_le (b : UInt8) : kOf b ≤ 9 := by unfold kOf; have := b.toNat_lt; (repeat' split) <;> omega
def valL (l : List UInt8) : Nat := if l.length = 1 then sumL l else if l.length = 2 then sumL l - 61456 else if l.length = 3 then sumL (l.drop 1) + 2288 else sumL (l.drop 1)
def takeL : List UInt8 → Nat × List UInt8 × Bool
 | [] => (0, [], false)
 | b :: r => if (b :: r).length < kOf b then (0, [], false) else
  if putL (valL ((b :: r).take (kOf b))) = (b :: r).take (kOf b) then (valL ((b :: r).take (kOf b)), (b :: r).drop (kOf b), true) else (0, [], false)
theorem takeL_cons (b : UInt8) (r : List UInt8) : takeL (b :: r) = if (b :: r).length < kOf b then (0, [], false) else
  if putL (valL ((b :: r).take (kOf b))) = (b :: r).take (kOf b) then (valL ((b :: r).take (kOf b)), (b :: r).drop (kOf b), true) else (0, [], false) := rfl

theorem put_parts (n : Nat) (hn : n < 18446744073709551616) : ∃ b r, putL n = b :: r ∧ kOf b = szN n ∧ valL (b :: r) = n ∧
  b.toNat = (if n < 241 then n else if n < 2288 then (61456 + n) / 256 else if n < 67824 then 249 else 246 + szN n) ∧
  sumL (b :: r) = (if n < 241 then n else if n < 2288 then 61456 + n else if n < 67824 then 16316176 + n else (246 + szN n) * 256 ^ (szN n - 1) + n) := by
 unfold putL
 by_cases h1 : n < 241
 ·refine ⟨UInt8.ofNat (n % 256), [], by rw [if_pos h1]; rfl, ?_, ?_, ?_, ?_⟩
  all_goals have e : (UInt8.ofNat (n % 256)).toNat = n := by simp; omega
  ·unfold kOf szN; rw [e, if_pos h1, if_pos h1]
  ·rw [valL, if_pos (by rfl), sumL_cons, e]; simp [sumL]
  ·rw [e, if_pos h1]
  ·rw [if_pos h1, sumL_cons, e]; simp [sumL]
 by_cases h2 : n < 2288
 ·have e : ∃ b c, bigL (61456 + n) 2 = [b, c] ∧ b.toNat = (61456 + n) / 256 ∧ c.toNat = (61456 + n) % 256 :=
   ⟨_, _, rfl, by simp; omega, by simp⟩
  obtain ⟨b, c, e1, e2, e3⟩ := e
  have es : sumL [b, c] = 61456 + n := by rw [sumL_cons, sumL_cons, e2, e3]; simp [sumL]; omega
  refine ⟨b, [c], by rw [if_neg h1, if_pos h2, e1], ?_, ?_, ?_, ?_⟩
  ·unfold kOf szN; rw [e2, if_neg h1, if_pos h2, if_neg (by omega), if_pos (by omega)]
  ·rw [valL, if_neg (by simp), if_pos (by rfl), es]; omega
  ·rw [e2, if_neg h1, if_pos h2]
  ·rw [es, if_neg h1, if_pos h2]
 by_cases h3 : n < 67824
 ·have e : bigL (16316176 + n) 3 = UInt8.ofNat ((16316176 + n) / 256 ^ 2 % 256) :: bigL (16316176 + n) 2 := bigL_cons 2 _
  have e2 : (UInt8.ofNat ((16316176 + n) / 256 ^ 2 % 256)).toNat = 249 := by simp; omega
  have es : sumL (UInt8.ofNat ((16316176 + n) / 256 ^ 2 % 256) :: bigL (16316176 + n) 2) = 16316176 + n := by rw [← e, sum_big]; omega
  refine ⟨_, _, by rw [if_neg h1, if_neg h2, if_pos h3, e], ?_, ?_, ?_, ?_⟩
  ·unfold kOf szN; rw [e2, if_neg h1, if_neg h2, if_pos h3]; rfl
  ·have hl : (UInt8.ofNat ((16316176 + n) / 256 ^ 2 % 256) :: bigL (16316176 + n) 2).length = 3 := by simp [bigL_len]
   rw [valL, hl, if_neg (by omega), if_neg (by omega), if_pos rfl, List.drop_succ_cons, List.drop_zero, sum_big]; omega
  ·rw [e2, if_neg h1, if_neg h2, if_pos h3]
  ·rw [es, if_neg h1, if_neg h2, if_pos h3]
 ·have hz : szN n = 4 ∧ n < 256 ^ 3 ∨ szN n = 5 ∧ n < 256 ^ 4 ∨ szN n = 6 ∧ n < 256 ^ 5 ∨ szN n = 7 ∧ n < 256 ^ 6 ∨ szN n = 8 ∧ n < 256 ^ 7 ∨ szN n = 9 ∧ n < 256 ^ 8 := by
   unfold szN
   rw [if_neg h1, if_neg h2, if_neg h3]
   repeat' split
   all_goals omega
  have e2 : (UInt8.ofNat (246 + szN n)).toNat = 246 + szN n := by simp; omega
  have em : n % 256 ^ (szN n - 1) = n := by
   apply Nat.mod_eq_of_lt
   rcases hz with h | h | h | h | h | h <;> rw [h.1] <;> exact h.2
  refine ⟨_, _, by rw [if_neg h1, if_neg h2, if_neg h3], ?_, ?_, ?_, ?_⟩
  ·unfold kOf; rw [e2, if_neg (by omega), if_neg (by omega), if_neg (by omega)]; omega
  ·have hl : (UInt8.ofNat (246 + szN n) :: bigL n (szN n - 1)).length = szN n := by rw [List.length_cons, bigL_len]; omega
   rw [valL, hl, if_neg (by omega), if_neg (by omega), if_neg (by omega), List.drop_succ_cons, List.drop_zero, sum_big, em]
  ·rw [e2, if_neg h1, if_neg h2, if_neg h3]
  ·rw [sumL_cons, e2, bigL_len, sum_big, em, if_neg h1, if_neg h2, if_neg h3]

theorem take_put (n : Nat) (hn : n < 18446744073709551616) (s : List UInt8) : takeL (putL n ++ s) = (n, s, true) := by
 obtain ⟨b, r, e, hk, hv, _, _⟩ := put_parts n hn
 have hl := putL_len n
 rw [e] at hl ⊢
 have ht : ((b :: r) ++ s).take (szN n) = b :: r := by rw [← hl, List.take_left']; rfl
 have hd : ((b :: r) ++ s).drop (szN n) = s := by rw [← hl, List.drop_left']; rfl
 rw [List.cons_append, takeL, ← List.cons_append, hk, if_neg (by rw [List.length_append]; omega), ht, hd, hv, if_pos e]
theorem take_back (s : List UInt8) (k : Nat) (behind : List UInt8) (h : takeL s = (k, behind, true)) : putL k ++ behind = s := by
 cases s with
 | nil => simp [takeL] at h
 | cons b r =>
  rw [takeL_cons] at h
  split at h
  ·simp at h
  ·split at h
   ·next h1 h2 =>
    simp only [Prod.mk.injEq, and_true] at h
    rw [← h.1, ← h.2, h2, List.take_append_drop]
   ·simp at h
theorem valL_lt (b : UInt8) (r : List UInt8) (h : (b :: r).length = kOf b) : valL (b :: r) < 18446744073709551616 := by
  unfold valL
  have h1 := sumL_lt (b :: r)
  have h2 := sumL_lt ((b :: r).drop 1)
  simp only [List.drop_succ_cons, List.drop_zero] at *
  have h3 := kOf_le b
  rw [h] at h1 ⊢
  split
  · next e => rw [e] at h1; omega
  split
  · next e => rw [e] at h1; omega
  split
  · next e => have : r.length = 2 := by simp at h; omega
              rw [this] at h2; omega
  · have h4 : (256 : Nat) ^ r.length ≤ 256 ^ 8 := Nat.pow_le_pow_right (by omega) (by simp at h; omega)
    have e8 : (256 : Nat) ^ 8 = 18446744073709551616 := by decide
    omega
theorem take_lt (s : List UInt8) : (takeL s).1 < 18446744073709551616 := by
 cases s with
 | nil => simp [takeL]
 | cons b r =>
  rw [takeL_cons]
  split
  ·simp
  ·next h =>
   split
   ·have hk := kOf_pos b
    show valL ((b :: r).take (kOf b)) < _
    obtain ⟨k, hk'⟩ : ∃ k, kOf b = k + 1 := ⟨kOf b - 1, by omega⟩
    rw [hk', List.take_succ_cons]
    exact valL_lt b _ (by rw [hk']; simp at h ⊢; omega)
   ·simp
theorem take_rest (s : List UInt8) : (takeL s).2.1.length ≤ s.length := by
 cases s with
 | nil => simp [takeL]
 | cons b r =>
  rw [takeL_cons]
  split
  ·simp
  ·split
   ·simp [List.length_drop]
   ·simp
theorem two_bytes (n : Nat) (h : 241 ≤ n) (h' : n < 2288) : bigL (241 + (n - 240) / 256) 1 ++ bigL ((n - 240) % 256) 1 = bigL (61456 + n) 2 := by
 simp only [bigL, List.nil_append]
 have e1 : (61456 + n) / 256 % 256 = (241 + (n - 240) / 256) % 256 := by omega
 have e2 : (61456 + n) % 256 = (n - 240) % 256 % 256 := by omega
 rw [e1, e2]
theorem three_bytes (n : Nat) (h : 2288 ≤ n) (h' : n < 67824) : bigL 249 1 ++ bigL (n - 2288) 2 = bigL (16316176 + n) 3 := by
 simp only [bigL, List.nil_append]
 have e1 : (16316176 + n) / 256 / 256 % 256 = 249 % 256 := by omega
 have e2 : (16316176 + n) / 256 % 256 = (n - 2288) / 256 % 256 := by omega
 have e3 : (16316176 + n) % 256 = (n - 2288) % 256 := by omega
 rw [e1, e2, e3]
 rfl

-- folding

structure PL where
 n : Int
 l : Int
structure MS where
 files : List PL
 next : Int
 seq : Int
 log : Int
 mt : ByteArray
def filesOk (nx : Int) : Int → List PL → Bool
 | _, [] => true
 | last, p :: l => decide (last < p.n) && decide (p.n < nx) && decide (0 ≤ p.l) && decide (p.l ≤ 3) && filesOk nx p.n l
def inN (n lo : Int) : Bool := decide (lo ≤ n) && decide (n ≤ 1099511627776)
def rightM (s : MS) : Bool := filesOk s.next 0 s.files && decide (s.files.length ≤ 40) && inN s.next 1 && inN s.log 1 && inN s.seq 0 && decide (s.mt.size ≤ 30000)
def pairsL (l : List PL) : List Int := l.flatMap fun p => [p.n, p.l]
def numsM (s : MS) : List Int := s.next :: s.seq :: s.log :: (s.files.length : Int) :: pairsL s.files
def putsL (l : List Int) : List UInt8 := l.flatMap fun n => putL n.toNat
def encM (s : MS) : List UInt8 := putsL (numsM s) ++ s.mt.data.toList
theorem putsL_cons (n : Int) (l : List Int) : putsL (n :: l) = putL n.toNat ++ putsL l := by simp [putsL]
theorem putsL_append (l m : List Int) : putsL (l ++ m) = putsL l ++ putsL m := by simp [putsL]
theorem pairsL_len (l : List PL) : (pairsL l).length = 2 * l.length := by
 induction l with
 | nil => rfl
 | cons p l ih => simp only [pairsL, List.flatMap_cons, List.length_append, List.length_cons, List.length_nil] at *; omega
def readN : Nat → List UInt8 → Option (List Int × List UInt8)
 | 0, s => some ([], s)
 | k + 1, s => if (takeL s).2.2 = true ∧ (takeL s).1 ≤ 1099511627776 then (readN k (takeL s).2.1).map (fun x => (((takeL s).1 : Int) :: x.1, x.2)) else none
theorem readN_puts : ∀ (l : List Int) (rest : List UInt8), (∀ n ∈ l, 0 ≤ n ∧ n ≤ 1099511627776) → readN l.length (putsL l ++ rest) = some (l, rest)
 | [], rest, _ => rfl
 | n :: l, rest, h => by
  have hn := h n (by simp)
  have ht : takeL (putsL (n :: l) ++ rest) = (n.toNat, putsL l ++ rest, true) := by
   rw [putsL_cons, List.append_assoc]
   exact take_put n.toNat (by omega) _
  show readN (l.length + 1) _ = _
  rw [readN, ht, if_pos ⟨rfl, by show n.toNat ≤ 1099511627776; omega⟩, readN_puts l rest (fun m hm => h m (by simp [hm]))]
  simp only [Option.map_some]
  rw [Int.toNat_of_nonneg hn.1]
theorem readN_back : ∀ (k : Nat) (s : List UInt8) (l : List Int) (rest : List UInt8), readN k s = some (l, rest) → l.length = k ∧ putsL l ++ rest = s ∧ ∀ n ∈ l, 0 ≤ n ∧ n ≤ 1099511627776
 | 0, s, l, rest, h => by
  simp only [readN, Option.some.injEq, Prod.mk.injEq] at h
  obtain ⟨rfl, rfl⟩ := h
  exact ⟨rfl, rfl, fun n hn => by cases hn⟩
 | k + 1, s, l, rest, h => by
  rw [readN] at h
  split at h
  ·rename_i hc
   cases hr : readN k (takeL s).2.1 with
   | none => rw [hr] at h; cases h
   | some x =>
    rw [hr] at h
    simp only [Option.map_some, Option.some.injEq, Prod.mk.injEq] at h
    obtain ⟨rfl, rfl⟩ := h
    obtain ⟨h1, h2, h3⟩ := readN_back k _ x.1 x.2 (by rw [hr])
    refine ⟨by simp [h1], ?_, fun n hn => ?_⟩
    ·rw [putsL_cons, Int.toNat_natCast, List.append_assoc, h2]
     exact take_back s _ _ (by rw [← hc.1])
    ·rcases List.mem_cons.1 hn with rfl | hn
     ·exact ⟨by omega, by have := hc.2; omega⟩
     ·exact h3 n hn
  ·cases h
def placesL : List Int → List PL
 | n :: l :: r => ⟨n, l⟩ :: placesL r
 | _ => []
theorem places_pairs : ∀ l : List PL, placesL (pairsL l) = l
 | [] => rfl
 | p :: l => by
  show placesL ([p.n, p.l] ++ pairsL l) = _
  rw [show [p.n, p.l] ++ pairsL l = p.n :: p.l :: pairsL l from rfl, placesL, places_pairs l]
def readM (t : List UInt8) : Option MS := match readN 4 t with
 | some ([a, b, c, d], r) => match readN (2 * min d.toNat 40) r with
  | some (l, m) => some ⟨placesL l, a, b, c, ⟨m.toArray⟩⟩
  | none => none
 | _ => none
def unpackM (t : List UInt8) : Option MS := match readM t with
 | some x => if rightM x = true ∧ encM x = t then some x else none
 | none => none
theorem files_in {nx : Int} (hn : nx ≤ 1099511627776) : ∀ {l : List PL} {last : Int}, 0 ≤ last → filesOk nx last l = true → ∀ n ∈ pairsL l, 0 ≤ n ∧ n ≤ 1099511627776
 | [], _, _, _, n, h => by cases h
 | p :: l, last, h0, h, n, hm => by
  simp only [filesOk, Bool.and_eq_true, decide_eq_true_eq] at h
  obtain ⟨⟨⟨⟨h1, h2⟩, h3⟩, h4⟩, h5⟩ := h
  have hm' : n ∈ [p.n, p.l] ++ pairsL l := hm
  rcases List.mem_append.1 hm' with hm | hm
  ·simp only [List.mem_cons, List.not_mem_nil, or_false] at hm
   rcases hm with rfl | rfl <;> omega
  ·exact files_in hn (by omega) h5 n hm
theorem right_parts {s : MS} (h : rightM s = true) : filesOk s.next 0 s.files = true ∧ s.files.length ≤ 40 ∧ (1 ≤ s.next ∧ s.next ≤ 1099511627776) ∧ (1 ≤ s.log ∧ s.log ≤ 1099511627776) ∧ (0 ≤ s.seq ∧ s.seq ≤ 1099511627776) ∧ s.mt.size ≤ 30000 := by
 simp only [rightM, inN, Bool.and_eq_true, decide_eq_true_eq] at h
 obtain ⟨⟨⟨⟨⟨h1, h2⟩, h3⟩, h4⟩, h5⟩, h6⟩ := h
 exact ⟨h1, h2, h3, h4, h5, h6⟩
theorem nums_in {s : MS} (h : rightM s = true) : ∀ n ∈ numsM s, 0 ≤ n ∧ n ≤ 1099511627776 := by
 obtain ⟨h1, h2, h3, h4, h5, h6⟩ := right_parts h
 intro n hn
 simp only [numsM, List.mem_cons] at hn
 rcases hn with rfl | rfl | rfl | rfl | hn
 ·omega
 ·omega
 ·omega
 ·omega
 ·exact files_in h3.2 (Int.le_refl 0) h1 n hn
theorem readM_enc {s : MS} (h : rightM s = true) : readM (encM s) = some s := by
 obtain ⟨h1, h2, h3, h4, h5, h6⟩ := right_parts h
 have hin := nums_in h
 have e1 : encM s = putsL [s.next, s.seq, s.log, (s.files.length : Int)] ++ (putsL (pairsL s.files) ++ s.mt.data.toList) := by
  unfold encM
  rw [show numsM s = [s.next, s.seq, s.log, (s.files.length : Int)] ++ pairsL s.files from rfl, putsL_append, List.append_assoc]
 have r1 := readN_puts [s.next, s.seq, s.log, (s.files.length : Int)] (putsL (pairsL s.files) ++ s.mt.data.toList) (fun n hn => hin n (by
  simp only [numsM, List.mem_cons, List.not_mem_nil, or_false] at hn ⊢
  rcases hn with h | h | h | h <;> simp [h]))
 have r2 := readN_puts (pairsL s.files) s.mt.data.toList (fun n hn => hin n (by simp [numsM, hn]))
 rw [pairsL_len] at r2
 unfold readM
 rw [e1, show (4 : Nat) = [s.next, s.seq, s.log, (s.files.length : Int)].length from rfl, r1]
 simp only [Int.toNat_natCast]
 rw [Nat.min_eq_left h2, r2]
 simp only [places_pairs]
theorem unpack_iff {t : List UInt8} {x : MS} : unpackM t = some x ↔ rightM x = true ∧ encM x = t := by
 constructor
 ·intro h
  unfold unpackM at h
  split at h
  ·rename_i y hy
   split at h
   ·rename_i hc
    cases h
    exact hc
   ·cases h
  ·cases h
 ·rintro ⟨h1, rfl⟩
  unfold unpackM
  rw [readM_enc h1]
  simp only [h1, and_self, if_true]
theorem unpack_enc {s : MS} (h : rightM s = true) : unpackM (encM s) = some s := unpack_iff.2 ⟨h, rfl⟩
theorem putsL_len (l : List Int) : (putsL l).length ≤ 9 * l.length := by
 induction l with
 | nil => simp [putsL]
 | cons n l ih =>
  rw [putsL_cons, List.length_append, putL_len]
  have := szN_le n.toNat
  simp only [List.length_cons]; omega
theorem encM_len {s : MS} (h : rightM s = true) : (encM s).length ≤ 30756 := by
 obtain ⟨-, h2, -, -, -, h6⟩ := right_parts h
 have h1 := putsL_len (numsM s)
 have h3 : (numsM s).length = 4 + 2 * s.files.length := by simp only [numsM, List.length_cons, pairsL_len]; omega
 have h4 : s.mt.data.toList.length = s.mt.size := rfl
 unfold encM
 rw [List.length_append, h4]
 omega

def turnN (n : Nat) : Nat := if n % 2 = 1 then n / 2 ^^^ 3988292384 else n / 2
def turnsN (n : Nat) : Nat → Nat
 | 0 => n
 | k + 1 => turnN (turnsN n k)
def feedN (n b : Nat) : Nat := turnsN (n ^^^ b) 8
def runN (n : Nat) (l : List UInt8) : Nat := l.foldl (fun n b => feedN n b.toNat) n
def crcN (l : List UInt8) : Nat := 4294967295 - runN 4294967295 l

theorem turn_lt {n : Nat} (h : n < 4294967296) : turnN n < 4294967296 := by
 unfold turnN
 split
 ·exact Nat.xor_lt_two_pow (n := 32) (by omega) (by omega)
 ·omega
theorem turns_lt {n : Nat} (h : n < 4294967296) : ∀ k, turnsN n k < 4294967296
 | 0 => h
 | k + 1 => turn_lt (turns_lt h k)
theorem byte_lt (b : UInt8) : b.toNat < 4294967296 := by have := b.toNat_lt; omega
theorem feed_lt {n b : Nat} (hn : n < 4294967296) (hb : b < 4294967296) : feedN n b < 4294967296 := turns_lt (Nat.xor_lt_two_pow (n := 32) hn hb) 8
theorem run_snoc (n : Nat) (l : List UInt8) (b : UInt8) : runN n (l ++ [b]) = feedN (runN n l) b.toNat := by simp [runN]
theorem run_lt : ∀ (l : List UInt8) {n : Nat}, n < 4294967296 → runN n l < 4294967296
 | [], _, h => h
 | b :: l, _, h => run_lt l (feed_lt h (byte_lt b))
theorem crc_lt (l : List UInt8) : crcN l < 4294967296 := by unfold crcN; omega
theorem compl_xor {n : Nat} (h : n < 4294967296) : 4294967295 - n = n ^^^ 4294967295 := by
 rw [Nat.xor_comm]
 refine Nat.eq_of_testBit_eq fun i => ?_
 have := Nat.testBit_two_pow_sub_succ (n := 32) h i
 rw [show (2 : Nat) ^ 32 - (n + 1) = 4294967295 - n by omega] at this
 rw [this, Nat.testBit_xor, show (4294967295 : Nat) = 2 ^ 32 - 1 from rfl, Nat.testBit_two_pow_sub_one]
 by_cases hi : i < 32
 ·simp [hi]
 ·have : n.testBit i = false := Nat.testBit_lt_two_pow (Nat.lt_of_lt_of_le h (by show 2 ^ 32 ≤ 2 ^ i; exact Nat.pow_le_pow_right (by omega) (by omega)))
  simp [hi, this]

def frameL (l : List UInt8) : List UInt8 := putL l.length ++ (l ++ bigL (crcN l) 4)
def unframeL (s : List UInt8) : List UInt8 × List UInt8 × Int :=
 if (takeL s).2.2 = false then ([], [], 8) else if 40000 < (takeL s).1 then ([], [], 10) else
 if (takeL s).2.1.length < (takeL s).1 + 4 then ([], [], 8) else
 if bigL (crcN ((takeL s).2.1.take (takeL s).1)) 4 = ((takeL s).2.1.drop (takeL s).1).take 4 then ((takeL s).2.1.take (takeL s).1, (takeL s).2.1.drop ((takeL s).1 + 4), 0) else ([], [], 9)
theorem frame_len (l : List UInt8) : (frameL l).length = szN l.length + l.length + 4 := by
 rw [frameL, List.length_append, List.length_append, putL_len, bigL_len]; omega
theorem unframe_of {n : Nat} {rest : List UInt8} {s : List UInt8} (h : takeL s = (n, rest, true)) (hn : n ≤ 40000) :
  unframeL s = if rest.length < n + 4 then ([], [], 8) else if bigL (crcN (rest.take n)) 4 = (rest.drop n).take 4 then (rest.take n, rest.drop (n + 4), 0) else ([], [], 9) := by
 rw [unframeL, h, if_neg (by simp), if_neg (by show ¬ 40000 < n; omega)]
theorem unframe_frame (l s : List UInt8) (hl : l.length ≤ 40000) : unframeL (frameL l ++ s) = (l, s, 0) := by
 have ht : takeL (frameL l ++ s) = (l.length, l ++ (bigL (crcN l) 4 ++ s), true) := by
  rw [frameL, List.append_assoc, List.append_assoc, take_put _ (by omega)]
 have h4 := bigL_len 4 (crcN l)
 rw [unframe_of ht hl, if_neg (by rw [List.length_append, List.length_append]; omega), List.take_left' rfl, List.drop_left' rfl, List.take_left' h4, if_pos rfl,
  ← List.drop_drop, List.drop_left' rfl, List.drop_left' h4]
theorem unframe_rest {s t r : List UInt8} (hs : unframeL s = (t, r, 0)) : r.length < s.length := by
  have h1 := take_rest s
  unfold unframeL at hs
  repeat' split at hs
  all_goals first
    | (simp at hs; done)
    | (have e : r = (takeL s).2.1.drop ((takeL s).1 + 4) := by
        have := congrArg (fun p => p.2.1) hs
        exact this.symm
       rw [e, List.length_drop]
       omega)
theorem unframe_err {s t r : List UInt8} {e : Int} (hs : unframeL s = (t, r, e)) (he : e ≠ 0) : t = [] ∧ r = [] ∧ (e = 8 ∨ e = 9 ∨ e = 10) := by
 unfold unframeL at hs
 repeat' split at hs
 all_goals simp only [Prod.mk.injEq] at hs
 all_goals obtain ⟨rfl, rfl, rfl⟩ := hs
 all_goals simp_all
theorem unframe_payload {s t r : List UInt8} (hs : unframeL s = (t, r, 0)) : t.length + 4 + r.length ≤ s.length ∧ t.length ≤ 40000 := by
  have h1 := take_rest s
  unfold unframeL at hs
  repeat' split at hs
  all_goals first
    | (simp at hs; done)
    | (have e : r = (takeL s).2.1.drop ((takeL s).1 + 4) := by
        have := congrArg (fun p => p.2.1) hs
        exact this.symm
       have e2 : t = (takeL s).2.1.take (takeL s).1 := by
        have := congrArg (fun p => p.1) hs
        exact this.symm
       rw [e, e2, List.length_drop, List.length_take]
       omega)

def scanF : Nat → List UInt8 → List (List UInt8) × Nat × Int
 | 0, _ => ([], 0, 0)
 | f + 1, s => if s = [] then ([], 0, 0) else if (unframeL s).2.2 = 0 then
   ((unframeL s).1 :: (scanF f (unframeL s).2.1).1, s.length - (unframeL s).2.1.length + (scanF f (unframeL s).2.1).2.1, (scanF f (unframeL s).2.1).2.2) else ([], 0, (unframeL s).2.2)
def scanL (s : List UInt8) : List (List UInt8) × Nat × Int := scanF s.length s
theorem scan_fuel : ∀ (f g : Nat) (s : List UInt8), s.length ≤ f → s.length ≤ g → scanF f s = scanF g s
 | 0, 0, _, _, _ => rfl
 | 0, g + 1, s, h, _ => by
  obtain rfl : s = [] := List.eq_nil_of_length_eq_zero (by omega)
  rfl
 | f + 1, 0, s, _, h => by
  obtain rfl : s = [] := List.eq_nil_of_length_eq_zero (by omega)
  rfl
 | f + 1, g + 1, s, h, h' => by
  rw [scanF, scanF]
  by_cases h0 : (unframeL s).2.2 = 0
  ·have := unframe_rest (s := s) (t := (unframeL s).1) (r := (unframeL s).2.1) (by rw [← h0])
   rw [scan_fuel f g (unframeL s).2.1 (by omega) (by omega)]
  ·rw [if_neg h0, if_neg h0]
theorem scan_nil : scanL [] = ([], 0, 0) := rfl
theorem scan_next {s t r : List UInt8} (h : unframeL s = (t, r, 0)) : scanL s = (t :: (scanL r).1, s.length - r.length + (scanL r).2.1, (scanL r).2.2) := by
 have hr := unframe_rest h
 have hs : s ≠ [] := by rintro rfl; simp at hr
 rw [scanL, show s.length = (s.length - 1) + 1 by omega, scanF, if_neg hs, h, if_pos rfl]
 simp only []
 rw [scan_fuel (s.length - 1) r.length r (by omega) (by omega), show s.length - 1 + 1 = s.length by omega]
 rfl
theorem scan_end {s t r : List UInt8} {e : Int} (hs : s ≠ []) (h : unframeL s = (t, r, e)) (he : e ≠ 0) : scanL s = ([], 0, e) := by
 have : 0 < s.length := List.length_pos_iff.2 hs
 rw [scanL, show s.length = (s.length - 1) + 1 by omega, scanF, if_neg hs, h, if_neg he]

def oneL (t : List UInt8) : List UInt8 := putL t.length ++ t
def encL (l : List (List UInt8)) : List UInt8 := putL l.length ++ l.flatMap oneL
def batchS (l : List (List UInt8)) : List UInt8 × Int := if 50 < l.length then ([], 11) else if 40000 < (encL l).length then ([], 10) else (encL l, 0)
def unbF : Nat → List UInt8 → List (List UInt8) → Option (List (List UInt8) × List UInt8)
 | 0, r, acc => some (acc, r)
 | k + 1, r, acc => if (takeL r).2.2 = true ∧ (takeL r).1 ≤ (takeL r).2.1.length then unbF k ((takeL r).2.1.drop (takeL r).1) (acc ++ [(takeL r).2.1.take (takeL r).1]) else none
def unbL (s : List UInt8) : Option (List (List UInt8)) :=
 if (takeL s).2.2 = true ∧ (takeL s).1 ≤ 50 then
  match unbF (takeL s).1 (takeL s).2.1 [] with
  | some (l, []) => some l
  | _ => none
 else none
def unbS (s : List UInt8) : List (List UInt8) × Int := match unbL s with | some l => (l, 0) | none => ([], 8)

theorem one_len (t : List UInt8) : (oneL t).length = szN t.length + t.length := by rw [oneL, List.length_append, putL_len]
theorem enc_len (l : List (List UInt8)) : (encL l).length = szN l.length + (l.flatMap oneL).length := by rw [encL, List.length_append, putL_len]
theorem flat_take (l : List (List UInt8)) (k : Nat) : ((l.take k).flatMap oneL).length ≤ (l.flatMap oneL).length := by
 conv => rhs; rw [← List.take_append_drop k l]
 rw [List.flatMap_append, List.length_append]; omega
theorem flat_snoc (l : List (List UInt8)) (k : Nat) (h : k < l.length) : (l.take (k + 1)).flatMap oneL = (l.take k).flatMap oneL ++ oneL l[k] := by
 rw [List.take_add_one, List.getElem?_eq_getElem h, List.flatMap_append]; simp
theorem mem_len {t : List UInt8} {l : List (List UInt8)} (h : t ∈ l) : t.length ≤ (l.flatMap oneL).length := by
 induction l with
 | nil => cases h
 | cons x l ih =>
  rw [List.flatMap_cons, List.length_append, one_len]
  rcases List.mem_cons.1 h with rfl | h
  ·omega
  ·have := ih h; omega
theorem unbF_enc : ∀ (l acc : List (List UInt8)) (s : List UInt8), (∀ t ∈ l, t.length < 18446744073709551616) → unbF l.length (l.flatMap oneL ++ s) acc = some (acc ++ l, s)
 | [], acc, s, _ => by simp [unbF]
 | t :: l, acc, s, h => by
  rw [List.length_cons, List.flatMap_cons, unbF, oneL, List.append_assoc, List.append_assoc, take_put _ (h t (by simp))]
  rw [if_pos ⟨rfl, by simp⟩]
  simp only [List.drop_left, List.take_left]
  rw [unbF_enc l (acc ++ [t]) s (fun u hu => h u (by simp [hu]))]
  simp
theorem unbF_back : ∀ (k : Nat) (r : List UInt8) (acc l : List (List UInt8)) (s : List UInt8), unbF k r acc = some (l, s) → ∃ m : List (List UInt8), l = acc ++ m ∧ m.length = k ∧ m.flatMap oneL ++ s = r
 | 0, r, acc, l, s, h => by
  simp only [unbF, Option.some.injEq, Prod.mk.injEq] at h
  obtain ⟨rfl, rfl⟩ := h
  exact ⟨[], by simp, rfl, by simp⟩
 | k + 1, r, acc, l, s, h => by
  rw [unbF] at h
  split at h
  ·rename_i hc
   obtain ⟨m, rfl, hm, hr⟩ := unbF_back k _ _ _ _ h
   obtain ⟨n, b, hT⟩ : ∃ n b, takeL r = (n, b, true) := ⟨(takeL r).1, (takeL r).2.1, by rw [← hc.1]⟩
   rw [hT] at hr hc ⊢
   simp only at hr hc ⊢
   refine ⟨b.take n :: m, by simp, by simp [hm], ?_⟩
   have hb := take_back r n b hT
   rw [List.flatMap_cons, oneL, List.length_take, Nat.min_eq_left hc.2, List.append_assoc, List.append_assoc, hr, List.take_append_drop, hb]
  ·cases h
theorem unb_enc (l : List (List UInt8)) (s : List UInt8) (hl : l.length ≤ 50) (h : ∀ t ∈ l, t.length < 18446744073709551616) : unbL (encL l ++ s) = if s = [] then some l else none := by
 unfold unbL
 rw [encL, List.append_assoc, take_put _ (by omega), if_pos ⟨rfl, hl⟩]
 simp only
 rw [unbF_enc l [] s h]
 cases s <;> simp
theorem unb_back {s : List UInt8} {l : List (List UInt8)} (h : unbL s = some l) : encL l = s ∧ l.length ≤ 50 := by
 unfold unbL at h
 split at h
 ·rename_i hc
  obtain ⟨n, r, hT⟩ : ∃ n r, takeL s = (n, r, true) := ⟨(takeL s).1, (takeL s).2.1, by rw [← hc.1]⟩
  rw [hT] at h hc
  simp only at h hc
  cases hu : unbF n r [] with
  | none => rw [hu] at h; cases h
  | some p =>
   obtain ⟨l', s'⟩ := p
   rw [hu] at h
   obtain ⟨m, rfl, hm, hr⟩ := unbF_back _ _ _ _ _ hu
   cases s' with
   | cons _ _ => cases h
   | nil =>
    simp only [Option.some.injEq, List.nil_append] at h
    subst h
    refine ⟨?_, by omega⟩
    rw [encL, hm]
    rw [List.append_nil] at hr
    rw [hr, take_back s n r hT]
 ·cases h
theorem enc_mem {s : List UInt8} {l : List (List UInt8)} (h : encL l = s) : ∀ t ∈ l, t.length ≤ s.length := fun t ht => by
 have := mem_len ht
 rw [← h, enc_len]; omega
theorem batch_ok {l : List (List UInt8)} (h : (batchS l).2 = 0) : (batchS l).1 = encL l ∧ l.length ≤ 50 ∧ (encL l).length ≤ 40000 := by
 unfold batchS at h ⊢
 split at h
 ·cases h
 ·rename_i h1
  split at h
  ·cases h
  ·rename_i h2
   rw [if_neg h1, if_neg h2]
   exact ⟨rfl, by omega, by omega⟩
theorem batch_of {l : List (List UInt8)} (h1 : l.length ≤ 50) (h2 : (encL l).length ≤ 40000) : batchS l = (encL l, 0) := by
 unfold batchS; rw [if_neg (by omega), if_neg (by omega)]
theorem batch_len (l : List (List UInt8)) : (batchS l).1.length ≤ 40000 := by
 unfold batchS
 split
 ·simp
 ·split
  ·simp
  ·simp; omega
def firstL (s : List UInt8) : List (List UInt8) × List UInt8 × Int :=
 if (unframeL s).2.2 = 0 then
  match unbL (unframeL s).1 with
  | some l => (l, (unframeL s).2.1, 0)
  | none => ([], [], 8)
 else ([], [], if (unframeL s).2.2 = 10 then 8 else (unframeL s).2.2)
theorem first_ok {s : List UInt8} {t r : List UInt8} {l : List (List UInt8)} (h : unframeL s = (t, r, 0)) (hu : unbL t = some l) : firstL s = (l, r, 0) := by
 unfold firstL; rw [h, if_pos rfl]; simp only [hu]
theorem first_form {s : List UInt8} {t r : List UInt8} (h : unframeL s = (t, r, 0)) (hu : unbL t = none) : firstL s = ([], [], 8) := by
 unfold firstL; rw [h, if_pos rfl]; simp only [hu]
theorem first_err {s t r : List UInt8} {e : Int} (h : unframeL s = (t, r, e)) (he : e ≠ 0) : firstL s = ([], [], if e = 10 then 8 else e) := by
 unfold firstL; rw [h, if_neg (by exact he)]
theorem first_rest {s r : List UInt8} {l : List (List UInt8)} (h : firstL s = (l, r, 0)) : ∃ t, unframeL s = (t, r, 0) ∧ unbL t = some l ∧ r.length < s.length := by
 unfold firstL at h
 split at h
 ·rename_i h0
  cases hu : unbL (unframeL s).1 with
  | none => rw [hu] at h; simp at h
  | some l' =>
   rw [hu] at h
   simp only [Prod.mk.injEq] at h
   obtain ⟨rfl, rfl, -⟩ := h
   have e : unframeL s = ((unframeL s).1, (unframeL s).2.1, 0) := by rw [← h0]
   exact ⟨_, e, hu, unframe_rest e⟩
 ·rename_i h0
  simp only [Prod.mk.injEq] at h
  split at h
  ·omega
  ·exact absurd h.2.2 h0
theorem first_fail {s : List UInt8} {l : List (List UInt8)} {r : List UInt8} {e : Int} (h : firstL s = (l, r, e)) (he : e ≠ 0) : l = [] ∧ r = [] ∧ (e = 8 ∨ e = 9) := by
 unfold firstL at h
 split at h
 ·rename_i h0
  cases hu : unbL (unframeL s).1 with
  | none => rw [hu] at h; simp only [Prod.mk.injEq] at h; exact ⟨h.1.symm, h.2.1.symm, Or.inl h.2.2.symm⟩
  | some l' => rw [hu] at h; simp only [Prod.mk.injEq] at h; exact absurd h.2.2.symm he
 ·rename_i h0
  simp only [Prod.mk.injEq] at h
  obtain ⟨rfl, rfl, h3⟩ := h
  refine ⟨rfl, rfl, ?_⟩
  obtain ⟨-, -, h4⟩ := unframe_err (s := s) (t := (unframeL s).1) (r := (unframeL s).2.1) (e := (unframeL s).2.2) rfl h0
  split at h3 <;> omega
def readF : Nat → List UInt8 → List (List (List UInt8)) × Nat × Int
 | 0, _ => ([], 0, 0)
 | f + 1, s => if s = [] then ([], 0, 0) else if (firstL s).2.2 = 0 then
   ((firstL s).1 :: (readF f (firstL s).2.1).1, s.length - (firstL s).2.1.length + (readF f (firstL s).2.1).2.1, (readF f (firstL s).2.1).2.2)
  else ([], 0, (firstL s).2.2)
def readL (s : List UInt8) : List (List (List UInt8)) × Nat × Int := readF s.length s
theorem read_fuel : ∀ (f g : Nat) (s : List UInt8), s.length ≤ f → s.length ≤ g → readF f s = readF g s
 | 0, 0, _, _, _ => rfl
 | 0, g + 1, s, h, _ => by rw [List.length_eq_zero_iff.1 (Nat.le_zero.1 h)]; simp [readF]
 | f + 1, 0, s, _, h => by rw [List.length_eq_zero_iff.1 (Nat.le_zero.1 h)]; simp [readF]
 | f + 1, g + 1, s, hf, hg => by
  simp only [readF]
  by_cases h : s = []
  ·rw [if_pos h, if_pos h]
  ·rw [if_neg h, if_neg h]
   by_cases h0 : (firstL s).2.2 = 0
   ·rw [if_pos h0, if_pos h0]
    have e : firstL s = ((firstL s).1, (firstL s).2.1, 0) := by rw [← h0]
    obtain ⟨t, -, -, hlt⟩ := first_rest e
    rw [read_fuel f g _ (by omega) (by omega)]
   ·rw [if_neg h0, if_neg h0]
theorem read_nil : readL [] = ([], 0, 0) := rfl
theorem read_next {s r : List UInt8} {l : List (List UInt8)} (h : firstL s = (l, r, 0)) : readL s = (l :: (readL r).1, s.length - r.length + (readL r).2.1, (readL r).2.2) := by
 obtain ⟨t, -, -, hlt⟩ := first_rest h
 unfold readL
 obtain ⟨n, hn⟩ : ∃ n, s.length = n + 1 := ⟨s.length - 1, by omega⟩
 have hs : s ≠ [] := by intro e; rw [e] at hlt; simp at hlt
 rw [hn, readF, if_neg hs, h, if_pos rfl]
 simp only
 rw [read_fuel n r.length r (by omega) (Nat.le_refl _), hn]
theorem read_end {s : List UInt8} {l : List (List UInt8)} {r : List UInt8} {e : Int} (hs : s ≠ []) (h : firstL s = (l, r, e)) (he : e ≠ 0) : readL s = ([], 0, e) := by
 unfold readL
 obtain ⟨n, hn⟩ : ∃ n, s.length = n + 1 := ⟨s.length - 1, by have := List.length_pos_iff.2 hs; omega⟩
 rw [hn, readF, if_neg hs, h, if_neg he]
theorem read_size : ∀ (n : Nat) (s : List UInt8), s.length ≤ n → (readL s).2.1 ≤ s.length ∧ (readL s).1.length ≤ s.length ∧ ((readL s).2.2 = 0 → (readL s).2.1 = s.length) ∧ ((readL s).2.2 = 0 ∨ (readL s).2.2 = 8 ∨ (readL s).2.2 = 9)
 | n, s, hn => by
  by_cases hs : s = []
  ·subst hs; simp [read_nil]
  obtain ⟨l, r, e, hF⟩ : ∃ l r e, firstL s = (l, r, e) := ⟨_, _, _, rfl⟩
  by_cases he : e = 0
  ·subst he
   obtain ⟨t, -, -, hlt⟩ := first_rest hF
   rw [read_next hF]
   cases n with
   | zero => omega
   | succ n =>
    obtain ⟨h1, h2, h3, h4⟩ := read_size n r (by omega)
    refine ⟨by simp only; omega, by simp only [List.length_cons]; omega, fun h0 => ?_, h4⟩
    have := h3 h0
    simp only; omega
  ·obtain ⟨rfl, rfl, h4⟩ := first_fail hF he
   rw [read_end hs hF he]
   refine ⟨by simp, by simp, fun h0 => absurd h0 he, Or.inr h4⟩
theorem frame_back {s t r : List UInt8} (h : unframeL s = (t, r, 0)) : frameL t ++ r = s ∧ t.length ≤ 40000 := by
 unfold unframeL at h
 split at h
 ·simp at h
 ·rename_i h1
  split at h
  ·simp at h
  ·rename_i h2
   split at h
   ·simp at h
   ·rename_i h3
    split at h
    ·rename_i h4
     simp only [Prod.mk.injEq, and_true] at h
     obtain ⟨rfl, rfl⟩ := h
     have hT : takeL s = ((takeL s).1, (takeL s).2.1, true) := by
      have : (takeL s).2.2 = true := by simpa using h1
      rw [← this]
     have hb := take_back s _ _ hT
     refine ⟨?_, by rw [List.length_take]; omega⟩
     rw [frameL, h4, List.length_take, Nat.min_eq_left (by omega), ← List.drop_drop, List.append_assoc, List.append_assoc, List.take_append_drop, List.take_append_drop, hb]
    ·simp at h
theorem frame_rest {s t r : List UInt8} (h : unframeL s = (t, r, 0)) : s.length - r.length = (frameL t).length := by
 have := congrArg List.length (frame_back h).1
 rw [List.length_append] at this; omega
def rdOf : List (List UInt8) → Nat → Int → List (List (List UInt8)) × Nat × Int
 | [], n, e => ([], n, if e = 10 then 8 else e)
 | t :: fr, n, e => match unbL t with
  | none => ([], 0, 8)
  | some l => (l :: (rdOf fr (n - (frameL t).length) e).1, (frameL t).length + (rdOf fr (n - (frameL t).length) e).2.1, (rdOf fr (n - (frameL t).length) e).2.2)
theorem read_scan : ∀ (n : Nat) (s : List UInt8), s.length ≤ n → readL s = rdOf (scanL s).1 (scanL s).2.1 (scanL s).2.2
 | n, s, hn => by
  by_cases hs : s = []
  ·subst hs; rfl
  obtain ⟨t, r, e, hU⟩ : ∃ t r e, unframeL s = (t, r, e) := ⟨_, _, _, rfl⟩
  by_cases he : e = 0
  ·subst he
   have hlt := unframe_rest hU
   rw [scan_next hU]
   simp only [rdOf]
   cases hu : unbL t with
   | none => simp only; rw [read_end hs (first_form hU hu) (by omega)]
   | some l =>
    simp only
    rw [read_next (first_ok hU hu), ← frame_rest hU]
    cases n with
    | zero => omega
    | succ n =>
     have := read_scan n r (by omega)
     have e1 : s.length - r.length + (scanL r).2.1 - (s.length - r.length) = (scanL r).2.1 := by omega
     rw [e1, ← this]
  ·rw [scan_end hs hU he, read_end hs (first_err hU he) (by split <;> omega)]
   rfl
theorem read_frames : ∀ (bs : List (List (List UInt8))) (s : List UInt8), (∀ l ∈ bs, l.length ≤ 50 ∧ (encL l).length ≤ 40000) → readL (bs.flatMap (fun l => frameL (encL l)) ++ s) =
  (bs ++ (readL s).1, (bs.flatMap (fun l => frameL (encL l))).length + (readL s).2.1, (readL s).2.2)
 | [], s, _ => by simp
 | l :: bs, s, h => by
  obtain ⟨h1, h2⟩ := h l (by simp)
  rw [List.flatMap_cons, List.append_assoc]
  have hU := unframe_frame (encL l) (bs.flatMap (fun l => frameL (encL l)) ++ s) h2
  have hu : unbL (encL l) = some l := by
   have := unb_enc l [] h1 (fun t ht => Nat.lt_of_le_of_lt (enc_mem rfl t ht) (by omega))
   rwa [List.append_nil, if_pos rfl] at this
  rw [read_next (first_ok hU hu), read_frames bs s (fun m hm => h m (by simp [hm]))]
  simp only [List.cons_append, List.length_append, Prod.mk.injEq, true_and, and_true]
  omega
end Go.Proofs.YtfbiinnenlgkfaaGreatDoor
