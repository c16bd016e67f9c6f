/- VMath, BMath, TMath, CMath, CFrame, laid together. -/
import Derived.Lib.Bytealg
set_option linter.unusedSimpArgs false
set_option linter.unusedVariables false
/- Mathematics of layer 3: a number's bytes (putL), what bytes tell (takeL), and that their order is the numbers'. -/
namespace Go.Proofs.Ytmdkpomgckkllaa

/-- The lowest k bytes of a number, the highest one first. -/
def bigL (n : Nat) : Nat → List UInt8
  | 0 => []
  | k + 1 => bigL (n / 256) k ++ [UInt8.ofNat (n % 256)]
def sumL (l : List UInt8) : Nat := l.foldl (fun a b => a * 256 + b.toNat) 0
theorem bigL_len (k : Nat) : ∀ n, (bigL n k).length = k := by
  induction k with
  | zero => intro n; rfl
  | succ k ih => intro n; simp [bigL, ih]
def szN (n : Nat) : Nat :=
  if n < 241 then 1 else if n < 2288 then 2 else if n < 67824 then 3 else if n < 16777216 then 4 else if n < 4294967296 then 5 else
  if n < 1099511627776 then 6 else if n < 281474976710656 then 7 else if n < 72057594037927936 then 8 else 9
theorem szN_pos (n : Nat) : 1 ≤ szN n := by unfold szN; (repeat' split) <;> omega
def putL (n : Nat) : List UInt8 :=
  if n < 241 then bigL n 1 else if n < 2288 then bigL (61456 + n) 2 else if n < 67824 then bigL (16316176 + n) 3 else UInt8.ofNat (246 + szN n) :: bigL n (szN n - 1)
theorem putL_len (n : Nat) : (putL n).length = szN n := by
  unfold putL
  by_cases h1 : n < 241
  · rw [if_pos h1, bigL_len]; simp [szN, h1]
  by_cases h2 : n < 2288
  · rw [if_neg h1, if_pos h2, bigL_len]; simp [szN, h1, h2]
  by_cases h3 : n < 67824
  · rw [if_neg h1, if_neg h2, if_pos h3, bigL_len]; simp [szN, h1, h2, h3]
  · rw [if_neg h1, if_neg h2, if_neg h3, List.length_cons, bigL_len]
    have := szN_pos n; omega
/-- How many bytes a number has that begins with this one. -/
def kOf (b : UInt8) : Nat := if b.toNat < 241 then 1 else if b.toNat < 249 then 2 else if b.toNat = 249 then 3 else b.toNat - 246
/-- What so many bytes tell. -/
def valL (l : List UInt8) : Nat := if l.length = 1 then sumL l else if l.length = 2 then sumL l - 61456 else if l.length = 3 then sumL (l.drop 1) + 2288 else sumL (l.drop 1)
def takeL : List UInt8 → Nat × List UInt8 × Bool
  | [] => (0, [], false)
  | b :: r => if (b :: r).length < kOf b then (0, [], false) else
    if putL (valL ((b :: r).take (kOf b))) = (b :: r).take (kOf b) then (valL ((b :: r).take (kOf b)), (b :: r).drop (kOf b), true) else (0, [], false)
theorem takeL_cons (b : UInt8) (r : List UInt8) : takeL (b :: r) = if (b :: r).length < kOf b then (0, [], false) else
    if putL (valL ((b :: r).take (kOf b))) = (b :: r).take (kOf b) then (valL ((b :: r).take (kOf b)), (b :: r).drop (kOf b), true) else (0, [], false) := rfl

theorem take_back (s : List UInt8) (k : Nat) (behind : List UInt8) (h : takeL s = (k, behind, true)) : putL k ++ behind = s := by
  cases s with
  | nil => simp [takeL] at h
  | cons b r =>
    rw [takeL_cons] at h
    split at h
    · simp at h
    · split at h
      · next h1 h2 =>
        simp only [Prod.mk.injEq, and_true] at h
        rw [← h.1, ← h.2, h2, List.take_append_drop]
      · simp at h
end Go.Proofs.Ytmdkpomgckkllaa
/- Mathematics of layer 8: the encoding of a block (encL), what some bytes are read as (readW), the document's own reading (refRead), that the two are one, and rows (splitF). -/
namespace Go.Proofs.Ytmdkpomgckkllaa

structure PR where
  k : List UInt8
  v : List UInt8
theorem less_cmp : ∀ a b : List UInt8, Op.bytesLess a b = decide (Lib.compareBytes a b < 0)
  | [], [] => by simp [Op.bytesLess, Lib.compareBytes]
  | [], _ :: _ => by simp [Op.bytesLess, Lib.compareBytes]
  | _ :: _, [] => by simp [Op.bytesLess, Lib.compareBytes]
  | a :: x, b :: y => by
    unfold Op.bytesLess Lib.compareBytes
    by_cases h1 : a < b
    · simp [h1]
    · by_cases h2 : b < a
      · have : ¬ a = b := by rintro rfl; exact h1 h2
        simp [h1, h2, this]
      · have : a = b := by rw [UInt8.lt_iff_toNat_lt] at h1 h2; exact UInt8.toNat_inj.1 (by omega)
        subst this
        simp [h1, less_cmp x y]
theorem less_irrefl : ∀ a : List UInt8, Op.bytesLess a a = false
  | [] => rfl
  | a :: x => by unfold Op.bytesLess; simp [less_irrefl x, UInt8.lt_iff_toNat_lt]
theorem less_trans : ∀ {a b c : List UInt8}, Op.bytesLess a b = true → Op.bytesLess b c = true → Op.bytesLess a c = true
  | _, [], [], h, _ => by simp [Op.bytesLess] at h
  | _, [], _ :: _, h, _ => by unfold Op.bytesLess at h; simp at h
  | _, _ :: _, [], _, h => by unfold Op.bytesLess at h; simp at h
  | [], _ :: _, _ :: _, _, _ => rfl
  | a :: x, b :: y, c :: z, h, k => by
    unfold Op.bytesLess at h k ⊢
    simp only [Bool.or_eq_true, decide_eq_true_eq, Bool.and_eq_true, beq_iff_eq, UInt8.lt_iff_toNat_lt] at h k ⊢
    rcases h with h | ⟨rfl, h⟩
    · rcases k with k | ⟨rfl, k⟩
      · exact Or.inl (by omega)
      · exact Or.inl h
    · rcases k with k | ⟨rfl, k⟩
      · exact Or.inl k
      · exact Or.inr ⟨rfl, less_trans h k⟩
theorem less_tri : ∀ a b : List UInt8, Op.bytesLess a b = true ∨ a = b ∨ Op.bytesLess b a = true
  | [], [] => Or.inr (Or.inl rfl)
  | [], _ :: _ => Or.inl rfl
  | _ :: _, [] => Or.inr (Or.inr rfl)
  | a :: x, b :: y => by
    unfold Op.bytesLess
    simp only [Bool.or_eq_true, decide_eq_true_eq, Bool.and_eq_true, beq_iff_eq, UInt8.lt_iff_toNat_lt, List.cons.injEq]
    by_cases h1 : a.toNat < b.toNat
    · exact Or.inl (Or.inl h1)
    by_cases h2 : b.toNat < a.toNat
    · exact Or.inr (Or.inr (Or.inl h2))
    obtain rfl : a = b := UInt8.toNat_inj.1 (by omega)
    rcases less_tri x y with h | h | h
    · exact Or.inl (Or.inr ⟨rfl, h⟩)
    · exact Or.inr (Or.inl ⟨rfl, h⟩)
    · exact Or.inr (Or.inr (Or.inr ⟨rfl, h⟩))
theorem less_asymm {a b : List UInt8} (h : Op.bytesLess a b = true) : Op.bytesLess b a = false := by
  cases hb : Op.bytesLess b a with
  | false => rfl
  | true => have := less_trans h hb; rw [less_irrefl] at this; cases this
theorem cmp_less (a b : List UInt8) : (Lib.compareBytes a b < 0) ↔ Op.bytesLess a b = true := by rw [less_cmp]; simp
theorem cmp_geq (a b : List UInt8) : (0 ≤ Lib.compareBytes a b) ↔ Op.bytesLess a b = false := by rw [less_cmp]; simp

-- what two texts begin with alike
def comL : List UInt8 → List UInt8 → Nat
  | a :: x, b :: y => if a = b then comL x y + 1 else 0
  | [], _ => 0
  | _ :: _, [] => 0
def headL (prev : List UInt8) (p : PR) : List UInt8 := putL (comL p.k prev) ++ putL (p.k.length - comL p.k prev) ++ putL p.v.length
def restL (prev : List UInt8) (p : PR) : List UInt8 := p.k.drop (comL p.k prev)
def oneL (prev : List UInt8) (p : PR) : List UInt8 := headL prev p ++ restL prev p ++ p.v
def encL : List UInt8 → List PR → List UInt8
  | _, [] => []
  | prev, p :: L => oneL prev p ++ encL p.k L
def incF : List UInt8 → List PR → Bool
  | _, [] => true
  | prev, p :: L => Op.bytesLess prev p.k && incF p.k L
def incB : List PR → Bool
  | [] => true
  | p :: L => incF p.k L
/-- Build's answer: the bytes, and an error. -/
def buildL (L : List PR) : List UInt8 × Int := if incB L = false then ([], 1) else if 40000 < (encL [] L).length then ([], 10) else (encL [] L, 0)
theorem put_pos (n : Nat) : 1 ≤ (putL n).length := by rw [putL_len]; exact szN_pos n
def threeL (s : List UInt8) : Option (Nat × Nat × Nat × List UInt8) :=
  if (takeL s).2.2 = true then
    if (takeL (takeL s).2.1).2.2 = true then
      if (takeL (takeL (takeL s).2.1).2.1).2.2 = true then some ((takeL s).1, (takeL (takeL s).2.1).1, (takeL (takeL (takeL s).2.1).2.1).1, (takeL (takeL (takeL s).2.1).2.1).2.1) else none
    else none
  else none
theorem three_back {s : List UInt8} {a b c : Nat} {r : List UInt8} (h : threeL s = some (a, b, c, r)) : s = putL a ++ putL b ++ putL c ++ r := by
  unfold threeL at h
  split at h
  · next h1 =>
    split at h
    · next h2 =>
      split at h
      · next h3 =>
        simp only [Option.some.injEq, Prod.mk.injEq] at h
        obtain ⟨rfl, rfl, rfl, rfl⟩ := h
        have e3 := take_back _ _ _ (show takeL (takeL (takeL s).2.1).2.1 = (_, _, true) from by rw [← h3])
        have e2 := take_back _ _ _ (show takeL (takeL s).2.1 = (_, _, true) from by rw [← h2])
        have e1 := take_back _ _ _ (show takeL s = (_, _, true) from by rw [← h1])
        rw [List.append_assoc, List.append_assoc, e3, e2, e1]
      · simp at h
    · simp at h
  · simp at h
def firstL (s : List UInt8) : Option (Nat × List UInt8 × List UInt8 × List UInt8) :=
  match threeL s with
  | none => none
  | some (a, b, c, r) => if b + c ≤ r.length then some (a, r.take b, (r.drop b).take c, r.drop (b + c)) else none
theorem first_back {s : List UInt8} {a : Nat} {rest v x : List UInt8} (h : firstL s = some (a, rest, v, x)) : s = putL a ++ putL rest.length ++ putL v.length ++ (rest ++ (v ++ x)) := by
  unfold firstL at h
  split at h
  · simp at h
  · next b c r ht =>
    split at h
    · next hl =>
      simp only [Option.some.injEq, Prod.mk.injEq] at h
      obtain ⟨rfl, rfl, rfl, rfl⟩ := h
      have e := three_back ht
      have h1 : (r.take b).length = b := by rw [List.length_take]; omega
      have h2 : ((r.drop b).take c).length = c := by rw [List.length_take, List.length_drop]; omega
      rw [h1, h2, ← List.drop_drop, List.take_append_drop, List.take_append_drop]
      exact e
    · simp at h
theorem first_less {s : List UInt8} {a : Nat} {rest v x : List UInt8} (h : firstL s = some (a, rest, v, x)) : x.length + rest.length + v.length + 3 ≤ s.length := by
  have e := first_back h
  have h1 := put_pos a
  have h2 := put_pos rest.length
  have h3 := put_pos v.length
  rw [e]; simp only [List.length_append]; omega
/-- Does a pair follow the key ahead of it? -/
def followsB (a : Nat) (rest key : List UInt8) (fst : Bool) : Bool :=
  if key.length < a then false else match rest with
  | [] => fst
  | c :: _ => decide (a = key.length) || decide ((key.getD a 0).toNat < c.toNat)
def readW (key : List UInt8) (fst : Bool) (s : List UInt8) : Option (List PR) :=
  if hs : s = [] then some [] else
  match h : firstL s with
  | none => none
  | some (a, rest, v, x) => if followsB a rest key fst = true then (readW (key.take a ++ rest) false x).map (fun l => ⟨key.take a ++ rest, v⟩ :: l) else none
termination_by s.length
decreasing_by have := first_less h; omega
def three4 (s : List UInt8) : Option (Nat × Nat × Nat × List UInt8) :=
  match threeL s with
  | none => none
  | some (a, b, c, r) => if a ≤ 40000 ∧ b ≤ 40000 ∧ c ≤ 40000 then some (a, b, c, r) else none
theorem three_less {s : List UInt8} {a b c : Nat} {r : List UInt8} (h : threeL s = some (a, b, c, r)) : r.length + 3 ≤ s.length := by
  have e := three_back h
  have h1 := put_pos a
  have h2 := put_pos b
  have h3 := put_pos c
  rw [e]; simp only [List.length_append]; omega
theorem three4_some {s : List UInt8} {a b c : Nat} {r : List UInt8} : three4 s = some (a, b, c, r) ↔ threeL s = some (a, b, c, r) ∧ a ≤ 40000 ∧ b ≤ 40000 ∧ c ≤ 40000 := by
  unfold three4
  constructor
  · intro h
    split at h
    · cases h
    · next a' b' c' r' e =>
      split at h
      · next hl => cases h; exact ⟨e, hl⟩
      · cases h
  · rintro ⟨e, hl⟩
    rw [e]; simp only []
    rw [if_pos hl]
def parseW (last : List UInt8) (s : List UInt8) : Option (List PR) :=
  if hs : s = [] then some [] else
  match h : three4 s with
  | none => none
  | some (a, b, c, r) => if a ≤ last.length ∧ b + c ≤ r.length then (parseW (last.take a ++ r.take b) (r.drop (b + c))).map (fun l => ⟨last.take a ++ r.take b, (r.drop b).take c⟩ :: l) else none
termination_by s.length
decreasing_by have := three_less (three4_some.1 h).1; rw [List.length_drop]; omega
def refRead (s : List UInt8) : Option (List PR) :=
  match parseW [] s with
  | none => none
  | some L => if buildL L = (s, 0) then some L else none
def tot : List PR → Nat
  | [] => 0
  | p :: L => p.k.length + p.v.length + tot L
def splitF (most : Int) : List PR → List PR → List (List PR)
  | [], row => if row = [] then [] else [row]
  | p :: L, row => if most ≤ (tot (row ++ [p]) : Nat) then (row ++ [p]) :: splitF most L [] else splitF most L (row ++ [p])
end Go.Proofs.Ytmdkpomgckkllaa
/- Mathematics of chapter 10, first part: inner keys: their order, that none begins another one, and what they say; what data cite; entries that are right, and their order; no program. -/
namespace Go.Proofs.Ytmdkpomgckkllaa

end Go.Proofs.Ytmdkpomgckkllaa
/- Mathematics of layer 5: a text's sum (sumN: bit by bit), that it is affine and that one byte turned turns it; frames (frameL), and what bytes tell of them (unframeL, scanL). -/
namespace Go.Proofs.Ytmdkpomgckkllaa

/-- One bit of a sum. -/
def turnN (n : Nat) : Nat := if n % 2 = 1 then n / 2 ^^^ 3988292384 else n / 2
/-- k bits of a sum. -/
def turnsN (n : Nat) : Nat → Nat
  | 0 => n
  | k + 1 => turnN (turnsN n k)
/-- One byte of a sum. -/
def feedN (n b : Nat) : Nat := turnsN (n ^^^ b) 8
/-- A text's sum from a number on, without its complement. -/
def runN (n : Nat) (l : List UInt8) : Nat := l.foldl (fun n b => feedN n b.toNat) n
def crcN (l : List UInt8) : Nat := 4294967295 - runN 4294967295 l

end Go.Proofs.Ytmdkpomgckkllaa
/- Mathematics of layer 5: a text's frame (frameL), what bytes tell of one (unframeL) and of some (scanL), and that a frame cut short, or with a byte of its payload or its sum turned, is refused. -/
namespace Go.Proofs.Ytmdkpomgckkllaa

def frameL (l : List UInt8) : List UInt8 := putL l.length ++ (l ++ bigL (crcN l) 4)
def unframeL (s : List UInt8) : List UInt8 × List UInt8 × Int :=
  if (takeL s).2.2 = false then ([], [], 8) else if 40000 < (takeL s).1 then ([], [], 10) else
  if (takeL s).2.1.length < (takeL s).1 + 4 then ([], [], 8) else
  if bigL (crcN ((takeL s).2.1.take (takeL s).1)) 4 = ((takeL s).2.1.drop (takeL s).1).take 4 then ((takeL s).2.1.take (takeL s).1, (takeL s).2.1.drop ((takeL s).1 + 4), 0) else ([], [], 9)
/-- The frames behind one another: their payloads, how many bytes they have, and what ended it. -/
def scanF : Nat → List UInt8 → List (List UInt8) × Nat × Int
  | 0, _ => ([], 0, 0)
  | f + 1, s => if s = [] then ([], 0, 0) else if (unframeL s).2.2 = 0 then
      ((unframeL s).1 :: (scanF f (unframeL s).2.1).1, s.length - (unframeL s).2.1.length + (scanF f (unframeL s).2.1).2.1, (scanF f (unframeL s).2.1).2.2) else ([], 0, (unframeL s).2.2)
def scanL (s : List UInt8) : List (List UInt8) × Nat × Int := scanF s.length s
end Go.Proofs.Ytmdkpomgckkllaa
