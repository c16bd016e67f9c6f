/- Mathematics of layer 4: a value's bytes (encL), what bytes are read as (readL), rows of values, and what stands behind a text (afterL). -/
import Derived.Test.YtggmeggfibblhaaDoorVMath
set_option linter.unusedSimpArgs false
set_option linter.unusedVariables false
namespace Go.Proofs.YtggmeggfibblhaaDoor

def rightB (k n : Int) (s : List UInt8) : Bool :=
  if k = 1 then (n = 0 || n = 1) && s.isEmpty
  else if k = 2 then (-32768 ≤ n && n ≤ 32767) && s.isEmpty
  else if k = 3 then (-2147483648 ≤ n && n ≤ 2147483647) && s.isEmpty
  else if k = 4 then s.isEmpty
  else if k = 5 then n = 0 && s.length ≤ 32
  else if k = 6 then n = 0 && s.length ≤ 1000
  else false

/-- A value: its kind, its number, its text. -/
structure KV where
  k : Int
  n : Int
  s : ByteArray
def KV.t (v : KV) : List UInt8 := v.s.data.toList
def KV.in64 (v : KV) : Prop := -9223372036854775808 ≤ v.n ∧ v.n ≤ 9223372036854775807
def KV.right (v : KV) : Bool := rightB v.k v.n v.t
theorem KV.eq {v u : KV} (h1 : v.k = u.k) (h2 : v.n = u.n) (h3 : v.t = u.t) : v = u := by
  cases v; cases u
  simp only [KV.t] at h1 h2 h3
  subst h1; subst h2
  congr 1
  apply ByteArray.ext
  exact Array.toList_inj.1 h3

/-- A text's bytes but for its end: behind each 0 a 255. -/
def escL (l : List UInt8) : List UInt8 := l.flatMap fun b => if b = 0 then [0, 255] else [b]
theorem escL_nil : escL [] = [] := rfl
theorem escL_cons (b : UInt8) (l : List UInt8) : escL (b :: l) = (if b = 0 then [0, 255] else [b]) ++ escL l := rfl
theorem escL_zero (l : List UInt8) : escL (0 :: l) = 0 :: 255 :: escL l := rfl
theorem escL_other (b : UInt8) (l : List UInt8) (h : b ≠ 0) : escL (b :: l) = b :: escL l := by rw [escL_cons, if_neg h]; rfl
theorem escL_append (l m : List UInt8) : escL (l ++ m) = escL l ++ escL m := by simp [escL]
theorem escL_len (l : List UInt8) : (escL l).length ≤ 2 * l.length := by
  induction l with
  | nil => simp [escL]
  | cons b l ih =>
    by_cases h : b = 0
    · subst h; rw [escL_zero]; simp; omega
    · rw [escL_other b l h]; simp; omega
/-- How many bytes a kind's number has; 0: it is none. -/
def widK (k : Int) : Nat := if k = 1 then 1 else if k = 2 then 2 else if k = 3 then 4 else if k = 4 then 8 else 0
def biasK (k : Int) : Nat := if k = 2 then 32768 else if k = 3 then 2147483648 else if k = 4 then 9223372036854775808 else 0
def bodyL (k n : Int) (s : List UInt8) : List UInt8 := if widK k = 0 then escL s ++ [0, 0] else bigL (n + biasK k).toNat (widK k)
/-- A right value's bytes. -/
def encL (v : KV) : List UInt8 := UInt8.ofNat v.k.toNat :: bodyL v.k v.n v.t
theorem widK_le (k : Int) : widK k ≤ 8 := by unfold widK; (repeat' split) <;> omega

/-- A text's bytes ahead: the text, and what is behind its end. -/
def unescL : List UInt8 → Option (List UInt8 × List UInt8)
  | [] => none
  | [_] => none
  | b :: c :: r => if b ≠ 0 then (unescL (c :: r)).map fun p => (b :: p.1, p.2) else if c = 0 then some ([], r) else if c = 255 then (unescL r).map fun p => (0 :: p.1, p.2) else none
theorem unesc_other (b : UInt8) (l : List UInt8) (h : b ≠ 0) : unescL (b :: l) = (unescL l).map fun p => (b :: p.1, p.2) := by
  cases l with
  | nil => rfl
  | cons c r => rw [unescL, if_pos h]
theorem unesc_end (r : List UInt8) : unescL (0 :: 0 :: r) = some ([], r) := rfl
theorem unesc_mark (r : List UInt8) : unescL (0 :: 255 :: r) = (unescL r).map fun p => (0 :: p.1, p.2) := by rw [unescL, if_neg (by simp), if_neg (by decide), if_pos rfl]
theorem unesc_bad (c : UInt8) (r : List UInt8) (h : c ≠ 0) (h2 : c ≠ 255) : unescL (0 :: c :: r) = none := by rw [unescL, if_neg (by simp), if_neg h, if_neg h2]
theorem unesc_short (l : List UInt8) (h : l.length ≤ 1) : unescL l = none := by
  match l, h with
  | [], _ => rfl
  | [_], _ => rfl
  | _ :: _ :: _, h => simp at h
theorem unesc_esc (r : List UInt8) : ∀ t : List UInt8, unescL (escL t ++ 0 :: 0 :: r) = some (t, r)
  | [] => rfl
  | b :: t => by
    by_cases h : b = 0
    · subst h
      rw [escL_zero, List.cons_append, List.cons_append, unesc_mark, unesc_esc r t]; rfl
    · rw [escL_other b t h, List.cons_append, unesc_other b _ h, unesc_esc r t]; rfl
theorem unesc_some : ∀ (l t r : List UInt8), unescL l = some (t, r) → l = escL t ++ 0 :: 0 :: r
  | [], t, r, h => by cases h
  | [_], t, r, h => by cases h
  | b :: c :: l, t, r, h => by
    by_cases hb : b = 0
    · subst hb
      by_cases hc : c = 0
      · subst hc
        rw [unesc_end] at h
        cases h; rfl
      by_cases h2 : c = 255
      · subst h2
        rw [unesc_mark] at h
        obtain ⟨⟨t', r'⟩, h1, h3⟩ := Option.map_eq_some_iff.1 h
        cases h3
        have := unesc_some l t' _ h1
        rw [escL_zero, this]; rfl
      · rw [unesc_bad c l hc h2] at h; cases h
    · rw [unesc_other b _ hb] at h
      obtain ⟨⟨t', r'⟩, h1, h3⟩ := Option.map_eq_some_iff.1 h
      cases h3
      have := unesc_some (c :: l) t' _ h1
      rw [escL_other b t' hb, this]; rfl

/-- What stands ahead of some bytes: a right value, and what is behind it. -/
def readL : List UInt8 → Option (KV × List UInt8)
  | [] => none
  | b :: r =>
    if widK b.toNat = 0 then
      match unescL r with
      | none => none
      | some (t, rest) => if rightB b.toNat 0 t = true then some (⟨b.toNat, 0, ⟨t.toArray⟩⟩, rest) else none
    else if r.length < widK b.toNat then none
    else if rightB b.toNat ((sumL (r.take (widK b.toNat)) : Int) - biasK b.toNat) [] = true then some (⟨b.toNat, (sumL (r.take (widK b.toNat)) : Int) - biasK b.toNat, ⟨#[]⟩⟩, r.drop (widK b.toNat)) else none

/-- What being right says. -/
theorem right_cases (v : KV) (h : v.right = true) :
    (1 ≤ v.k ∧ v.k ≤ 4 ∧ v.t = [] ∧ 0 < widK v.k ∧ (v.k ≠ 4 → 0 ≤ v.n + biasK v.k ∧ v.n + biasK v.k < (256 : Int) ^ widK v.k)) ∨ (5 ≤ v.k ∧ v.k ≤ 6 ∧ v.n = 0 ∧ v.t.length ≤ 1000 ∧ widK v.k = 0) := by
  obtain ⟨k, n, s⟩ := v
  unfold KV.right rightB at h
  simp only at h ⊢
  by_cases h1 : k = 1
  · subst h1; left; simp at h; refine ⟨by omega, by omega, ?_, by decide, fun _ => ?_⟩
    · exact h.2
    · simp [biasK, widK]; rcases h.1 with h | h <;> omega
  by_cases h2 : k = 2
  · subst h2; left; simp at h; refine ⟨by omega, by omega, h.2, by decide, fun _ => ?_⟩
    simp [biasK, widK]; omega
  by_cases h3 : k = 3
  · subst h3; left; simp at h; refine ⟨by omega, by omega, h.2, by decide, fun _ => ?_⟩
    simp [biasK, widK]; omega
  by_cases h4 : k = 4
  · subst h4; left; simp at h; exact ⟨by omega, by omega, h, by decide, fun hh => absurd rfl hh⟩
  right
  by_cases h5 : k = 5
  · subst h5; simp at h; exact ⟨by omega, by omega, h.1, by have := h.2; simp only [KV.t] at *; omega, by decide⟩
  by_cases h6 : k = 6
  · subst h6; simp at h; exact ⟨by omega, by omega, h.1, h.2, by decide⟩
  · simp [h1, h2, h3, h4, h5, h6] at h
/-- A right value's number, laid up, lies within its bytes. -/
theorem right_num (v : KV) (h : v.right = true) (hi : v.in64) (hw : 0 < widK v.k) : 0 ≤ v.n + biasK v.k ∧ v.n + biasK v.k < (256 : Int) ^ widK v.k := by
  rcases right_cases v h with ⟨h1, h2, _, _, h5⟩ | ⟨_, _, _, _, h5⟩
  · by_cases h4 : v.k = 4
    · obtain ⟨a, b⟩ := hi
      rw [h4]; simp [biasK, widK]; omega
    · exact h5 h4
  · omega
theorem kind_byte (v : KV) (h : v.right = true) : ((UInt8.ofNat v.k.toNat).toNat : Int) = v.k ∧ 1 ≤ v.k ∧ v.k ≤ 6 := by
  have : 1 ≤ v.k ∧ v.k ≤ 6 := by rcases right_cases v h with h | h <;> omega
  refine ⟨?_, this⟩
  simp; omega
theorem body_len (v : KV) (h : v.right = true) : (bodyL v.k v.n v.t).length ≤ 2002 := by
  unfold bodyL
  split
  · next hw =>
    rcases right_cases v h with h | h
    · omega
    · have := escL_len v.t; simp; omega
  · rw [bigL_len]; have := widK_le v.k; omega
theorem enc_len (v : KV) (h : v.right = true) : (encL v).length ≤ 2003 := by have := body_len v h; simp [encL]; omega

theorem read_enc (v : KV) (h : v.right = true) (hi : v.in64) (r : List UInt8) : readL (encL v ++ r) = some (v, r) := by
  obtain ⟨hk, h1, h6⟩ := kind_byte v h
  unfold encL
  rw [List.cons_append, readL, hk]
  unfold bodyL
  by_cases hw : widK v.k = 0
  · rw [if_pos hw, if_pos hw]
    have e : escL v.t ++ [0, 0] ++ r = escL v.t ++ 0 :: 0 :: r := by simp
    rw [e, unesc_esc r v.t]
    have hn : v.n = 0 := by rcases right_cases v h with h | h <;> omega
    have hr : rightB v.k 0 v.t = true := by rw [← hn]; exact h
    simp only
    rw [if_pos hr]
    congr 2
    exact KV.eq rfl hn.symm rfl
  · rw [if_neg hw, if_neg hw]
    obtain ⟨b1, b2⟩ := right_num v h hi (by omega)
    have hl : (bigL (v.n + biasK v.k).toNat (widK v.k) ++ r).length ≥ widK v.k := by rw [List.length_append, bigL_len]; omega
    have ht : (bigL (v.n + biasK v.k).toNat (widK v.k) ++ r).take (widK v.k) = bigL (v.n + biasK v.k).toNat (widK v.k) := List.take_left' (bigL_len _ _)
    have hd : (bigL (v.n + biasK v.k).toNat (widK v.k) ++ r).drop (widK v.k) = r := List.drop_left' (bigL_len _ _)
    have hs : ((sumL (bigL (v.n + biasK v.k).toNat (widK v.k)) : Nat) : Int) - biasK v.k = v.n := by
      rw [sum_big, Nat.mod_eq_of_lt]
      · omega
      · have : ((v.n + biasK v.k).toNat : Int) < ((256 ^ widK v.k : Nat) : Int) := by rw [Int.natCast_pow]; have : ((256 : Nat) : Int) = 256 := rfl; rw [this]; omega
        omega
    rw [if_neg (by omega), ht, hd, hs]
    have htt : v.t = [] := by rcases right_cases v h with h | h
                              · exact h.2.2.1
                              · omega
    have hr : rightB v.k v.n [] = true := by rw [← htt]; exact h
    rw [if_pos hr]
    congr 2
    exact KV.eq rfl rfl htt.symm

theorem big_sum : ∀ l : List UInt8, bigL (sumL l) l.length = l := by
  intro l
  induction l with
  | nil => rfl
  | cons b l ih =>
    rw [List.length_cons, bigL_cons, sumL_cons]
    have hlt := sumL_lt l
    have e1 : (b.toNat * 256 ^ l.length + sumL l) / 256 ^ l.length % 256 = b.toNat := by
      rw [Nat.mul_comm, Nat.mul_add_div (Nat.pow_pos (by decide)), Nat.div_eq_of_lt hlt]
      have := b.toNat_lt; omega
    have e2 : ∀ (k a m : Nat), bigL (a * 256 ^ k + m) k = bigL m k := by
      intro k
      induction k with
      | zero => intro a m; rfl
      | succ k ihk =>
        intro a m
        rw [bigL, bigL, Nat.pow_succ, ← Nat.mul_assoc]
        have h1 : (a * 256 ^ k * 256 + m) / 256 = a * 256 ^ k + m / 256 := by omega
        have h2 : (a * 256 ^ k * 256 + m) % 256 = m % 256 := by omega
        rw [h1, h2, ihk]
    rw [e1, e2, ih]
    simp

theorem read_some (l r : List UInt8) (v : KV) (h : readL l = some (v, r)) : v.right = true ∧ v.in64 ∧ encL v ++ r = l := by
  cases l with
  | nil => cases h
  | cons b l =>
    rw [readL] at h
    have hbl := b.toNat_lt
    by_cases hw : widK b.toNat = 0
    · rw [if_pos hw] at h
      cases hu : unescL l with
      | none => rw [hu] at h; cases h
      | some p =>
        obtain ⟨t, rest⟩ := p
        rw [hu] at h
        simp only at h
        by_cases hr : rightB b.toNat 0 t = true
        · rw [if_pos hr] at h
          cases h
          refine ⟨hr, ⟨by simp, by simp⟩, ?_⟩
          have := unesc_some l t r hu
          rw [this]
          show UInt8.ofNat ((b.toNat : Int).toNat) :: bodyL _ _ _ ++ r = _
          unfold bodyL
          rw [if_pos hw]
          simp [KV.t]
        · rw [if_neg hr] at h; cases h
    · rw [if_neg hw] at h
      by_cases hl : l.length < widK b.toNat
      · rw [if_pos hl] at h; cases h
      · rw [if_neg hl] at h
        by_cases hr : rightB b.toNat ((sumL (l.take (widK b.toNat)) : Int) - biasK b.toNat) [] = true
        · rw [if_pos hr] at h
          cases h
          have htl : (l.take (widK b.toNat)).length = widK b.toNat := by rw [List.length_take]; omega
          have hsl := sumL_lt (l.take (widK b.toNat))
          rw [htl] at hsl
          refine ⟨hr, ?_, ?_⟩
          · have h8 := widK_le b.toNat
            have hb8 : biasK b.toNat ≤ 9223372036854775808 := by unfold biasK; (repeat' split) <;> omega
            refine ⟨by simp only; omega, ?_⟩
            simp only
            have hcase : widK b.toNat = 8 ∧ biasK b.toNat = 9223372036854775808 ∨ 256 ^ widK b.toNat ≤ 256 ^ 4 := by
              unfold widK biasK
              by_cases c1 : (b.toNat : Int) = 1
              · right; simp [c1]
              by_cases c2 : (b.toNat : Int) = 2
              · right; simp [c2]
              by_cases c3 : (b.toNat : Int) = 3
              · right; simp [c3]
              by_cases c4 : (b.toNat : Int) = 4
              · left; simp [c4]
              · right; simp [c1, c2, c3, c4]
            rcases hcase with ⟨e1, e2⟩ | hc
            · rw [e1] at hsl ⊢; rw [e2]; omega
            · omega
          · show UInt8.ofNat ((b.toNat : Int).toNat) :: bodyL _ _ _ ++ _ = _
            unfold bodyL
            rw [if_neg hw]
            have e : ((sumL (l.take (widK b.toNat)) : Int) - biasK b.toNat + biasK b.toNat).toNat = sumL (l.take (widK b.toNat)) := by omega
            simp only
            rw [e]
            have e3 := big_sum (l.take (widK b.toNat))
            rw [htl] at e3
            rw [e3, List.cons_append, List.take_append_drop]
            simp
        · rw [if_neg hr] at h; cases h

theorem ext_data (s : ByteArray) (i j : Nat) : (s.extract i j).data.toList = (s.data.toList.take j).drop i := by
  simp [ByteArray.data_extract, List.extract_eq_take_drop, List.drop_take]
theorem ext_end (s : ByteArray) (i : Nat) : (s.extract i s.size).data.toList = s.data.toList.drop i := by
  rw [ext_data, List.take_of_length_le (by exact Nat.le_refl _)]
theorem ext_mid (s : ByteArray) (i j : Nat) : (s.extract i (i + j)).data.toList = (s.data.toList.drop i).take j := by
  rw [ext_data, List.drop_take]; congr 1; omega
theorem ba_list (s : ByteArray) : (⟨s.data.toList.toArray⟩ : ByteArray) = s := by apply ByteArray.ext; simp
theorem ba_append (a b : List UInt8) : (⟨a.toArray⟩ ++ ⟨b.toArray⟩ : ByteArray) = ⟨(a ++ b).toArray⟩ := by apply ByteArray.ext; simp
theorem ba_eq {s : ByteArray} {l : List UInt8} (h : s.data.toList = l) : s = ⟨l.toArray⟩ := by rw [← h, ba_list]

/-- Bytes of one length, the first ones not so many. -/
theorem enc_inj (a b : KV) (ha : a.right = true) (hb : b.right = true) (ia : a.in64) (ib : b.in64) (x y : List UInt8) (h : encL a ++ x = encL b ++ y) : a = b ∧ x = y := by
  have h1 := read_enc a ha ia x
  rw [h, read_enc b hb ib y] at h1
  cases h1; exact ⟨rfl, rfl⟩
end Go.Proofs.YtggmeggfibblhaaDoor
