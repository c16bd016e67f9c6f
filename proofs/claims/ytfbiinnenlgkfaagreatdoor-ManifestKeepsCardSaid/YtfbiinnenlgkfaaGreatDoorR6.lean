/- NMath2, laid together. -/
import Derived.Test.YtfbiinnenlgkfaaGreatDoorR3
import Derived.Test.YtfbiinnenlgkfaaGreatDoorR1
set_option linter.unusedSimpArgs false
set_option linter.unusedVariables false
namespace Go.Proofs.YtfbiinnenlgkfaaGreatDoor
open Go Go.RowKit

def zeroM : MS := ⟨[], 0, 0, 0, ⟨#[]⟩⟩
def initM : MS := ⟨[], 1, 0, 1, ⟨#[]⟩⟩
def unpSt (t : List UInt8) : MS := (unpackM t).getD zeroM
def unpEr (t : List UInt8) : Int := if (unpackM t).isSome = true then 0 else 8
theorem unp_some {t : List UInt8} {x : MS} (h : unpackM t = some x) : unpSt t = x ∧ unpEr t = 0 := by unfold unpSt unpEr; rw [h]; exact ⟨rfl, rfl⟩
theorem unp_none {t : List UInt8} (h : unpackM t = none) : unpSt t = zeroM ∧ unpEr t = 8 := by unfold unpSt unpEr; rw [h]; exact ⟨rfl, rfl⟩
theorem unp_cases (t : List UInt8) : (unpEr t = 0 ∧ unpackM t = some (unpSt t) ∧ rightM (unpSt t) = true ∧ encM (unpSt t) = t) ∨ (unpEr t = 8 ∧ unpackM t = none ∧ unpSt t = zeroM) := by
 cases h : unpackM t with
 | none => exact Or.inr ⟨(unp_none h).2, rfl, (unp_none h).1⟩
 | some x =>
  obtain ⟨h1, h2⟩ := unp_some h
  obtain ⟨h3, h4⟩ := unpack_iff.1 h
  exact Or.inl ⟨h2, by rw [h1], by rw [h1]; exact h3, by rw [h1]; exact h4⟩
def toMS (N : List Int) (r : List UInt8) : MS := ⟨placesL (N.drop 4), N.getD 0 0, N.getD 1 0, N.getD 2 0, ⟨r.toArray⟩⟩
def readA (t : List UInt8) : Option (List Int × List UInt8) := match readN 4 t with
 | some (l, r) => (readN (2 * min (l.getD 3 0).toNat 40) r).map (fun x => (l ++ x.1, x.2))
 | none => none
theorem four {l : List Int} (h : l.length = 4) : ∃ a b c d, l = [a, b, c, d] := by
 match l, h with
 | [a, b, c, d], _ => exact ⟨a, b, c, d, rfl⟩
theorem readM_A (t : List UInt8) : readM t = (readA t).map (fun x => toMS x.1 x.2) := by
 unfold readM readA
 cases h : readN 4 t with
 | none => rfl
 | some x =>
  obtain ⟨l, r⟩ := x
  obtain ⟨h1, -, -⟩ := readN_back 4 t l r h
  obtain ⟨a, b, c, d, rfl⟩ := four h1
  simp only
  cases h2 : readN (2 * min d.toNat 40) r with
  | none => rw [show ([a, b, c, d].getD 3 0) = d from rfl, h2]; rfl
  | some y => rw [show ([a, b, c, d].getD 3 0) = d from rfl, h2]; rfl
theorem readN_snoc : ∀ (k : Nat) (s : List UInt8), readN (k + 1) s = match readN k s with
  | some (l, r) => if (takeL r).2.2 = true ∧ (takeL r).1 ≤ 1099511627776 then some (l ++ [((takeL r).1 : Int)], (takeL r).2.1) else none
  | none => none
 | 0, s => by
  show (if _ then _ else _) = _
  simp only [readN, Option.map_some, List.nil_append]
 | k + 1, s => by
  rw [readN]
  by_cases h : (takeL s).2.2 = true ∧ (takeL s).1 ≤ 1099511627776
  ·rw [if_pos h, readN_snoc k]
   conv => rhs; rw [readN, if_pos h]
   cases readN k (takeL s).2.1 with
   | none => rfl
   | some x =>
    obtain ⟨l, r⟩ := x
    simp only [Option.map_some]
    split <;> rfl
  ·rw [if_neg h]
   conv => rhs; rw [readN, if_neg h]
def RdInv (t : List UInt8) (i many : Nat) (N : List Int) (rest : List UInt8) : Prop :=
 N.length = i ∧ ((i ≤ 3 ∧ many = 4 ∧ readN i t = some (N, rest)) ∨ (4 ≤ i ∧ i ≤ many ∧ (∃ m, many = 4 + 2 * m ∧ m ≤ 40) ∧ readA t = (readN (many - i) rest).map (fun x => (N ++ x.1, x.2))))
theorem rd_start (t : List UInt8) : RdInv t 0 4 [] t := ⟨rfl, Or.inl ⟨by omega, rfl, rfl⟩⟩
section
variable {t rest : List UInt8} {i many : Nat} {N : List Int}
theorem RdInv.bounds (h : RdInv t i many N rest) : i ≤ many ∧ many ≤ 84 := by
 obtain ⟨-, h | ⟨h1, h2, ⟨m, h3, h4⟩, -⟩⟩ := h
 ·omega
 ·omega
theorem rd_fail (h : RdInv t i many N rest) (hi : i < many) (hc : ¬ ((takeL rest).2.2 = true ∧ (takeL rest).1 ≤ 1099511627776)) : readA t = none := by
 obtain ⟨hl, ⟨h1, h2, h3⟩ | ⟨h1, h2, h3, h4⟩⟩ := h
 ·have e : readN (i + 1) t = none := by rw [readN_snoc, h3]; simp only; rw [if_neg hc]
  have : ∀ j, readN (i + 1 + j) t = none := fun j => by
   induction j with
   | zero => exact e
   | succ j ih => rw [show i + 1 + (j + 1) = (i + 1 + j) + 1 by omega, readN_snoc, ih]
  have e4 := this (3 - i)
  rw [show i + 1 + (3 - i) = 4 by omega] at e4
  unfold readA; rw [e4]
 ·rw [h4, show many - i = (many - i - 1) + 1 by omega, readN, if_neg hc]; rfl
theorem rd_step (h : RdInv t i many N rest) (hi : i < many) (hc : (takeL rest).2.2 = true ∧ (takeL rest).1 ≤ 1099511627776) :
  RdInv t (i + 1) (if i = 3 then 4 + 2 * min (takeL rest).1 40 else many) (N ++ [((takeL rest).1 : Int)]) (takeL rest).2.1 := by
 obtain ⟨hl, ⟨h1, h2, h3⟩ | ⟨h1, h2, h3, h4⟩⟩ := h
 ·have e : readN (i + 1) t = some (N ++ [((takeL rest).1 : Int)], (takeL rest).2.1) := by rw [readN_snoc, h3]; simp only; rw [if_pos hc]
  refine ⟨by simp [hl], ?_⟩
  by_cases h : i = 3
  ·subst h
   rw [if_pos rfl]
   refine Or.inr ⟨by omega, by omega, ⟨_, rfl, by omega⟩, ?_⟩
   unfold readA
   rw [e]
   simp only
   have e3 : ((N ++ [((takeL rest).1 : Int)]).getD 3 0) = ((takeL rest).1 : Int) := by
    rw [List.getD_eq_getElem?_getD, List.getElem?_append_right (by omega), hl]; rfl
   rw [e3, Int.toNat_natCast]
   congr 2
   omega
  ·rw [if_neg h]
   exact Or.inl ⟨by omega, h2, e⟩
 ·rw [if_neg (by omega)]
  refine ⟨by simp [hl], Or.inr ⟨by omega, by omega, h3, ?_⟩⟩
  rw [h4, show many - i = (many - (i + 1)) + 1 by omega, readN, if_pos hc]
  cases readN (many - (i + 1)) (takeL rest).2.1 with
  | none => rfl
  | some x => simp
theorem rd_end (h : RdInv t i many N rest) (hi : ¬ i < many) : N.length = i ∧ (∃ m, i = 4 + 2 * m ∧ m ≤ 40) ∧ readA t = some (N, rest) := by
 obtain ⟨hl, ⟨h1, h2, h3⟩ | ⟨h1, h2, ⟨m, h3, h5⟩, h4⟩⟩ := h
 ·omega
 ·refine ⟨hl, ⟨m, by omega, h5⟩, ?_⟩
  rw [h4, show many - i = 0 by omega]
  simp [readN]
end
theorem places_take : ∀ (j : Nat) (l : List Int) (h : 2 * j + 1 < l.length), placesL (l.take (2 * (j + 1))) = placesL (l.take (2 * j)) ++ [⟨l[2 * j], l[2 * j + 1]⟩]
 | 0, n :: k :: l, h => by simp [placesL]
 | 0, [n], h => by simp at h
 | 0, [], h => by simp at h
 | j + 1, n :: k :: l, h => by
  have ih := places_take j l (by simp at h; omega)
  rw [show 2 * (j + 1 + 1) = 2 * (j + 1) + 1 + 1 by omega, List.take_succ_cons, List.take_succ_cons, placesL, ih]
  have e : ∀ z, z = 2 * j + 1 + 1 → placesL ((n :: k :: l).take z) = ⟨n, k⟩ :: placesL (l.take (2 * j)) := fun z hz => by rw [hz, List.take_succ_cons, List.take_succ_cons, placesL]
  rw [e (2 * (j + 1)) (by omega)]
  rfl
 | j + 1, [n], h => by simp at h
 | j + 1, [], h => by simp at h
theorem places_len : ∀ (l : List Int), (placesL l).length = l.length / 2
 | [] => rfl
 | [n] => by simp [placesL]
 | n :: k :: l => by simp only [placesL, List.length_cons, places_len l]; omega

def takeP : Nat → List UInt8 → Option (List Nat × List UInt8)
 | 0, s => some ([], s)
 | k + 1, s => if (takeL s).2.2 = true then (takeP k (takeL s).2.1).map (fun x => ((takeL s).1 :: x.1, x.2)) else none
theorem takeP_puts : ∀ (l : List Int) (rest : List UInt8), (∀ n ∈ l, 0 ≤ n ∧ n ≤ 1099511627776) → takeP l.length (putsL l ++ rest) = some (l.map Int.toNat, rest)
 | [], rest, _ => rfl
 | n :: l, rest, h => by
  have hn := h n (by simp)
  have ht : takeL (putsL (n :: l) ++ rest) = (n.toNat, putsL l ++ rest, true) := by
   rw [putsL_cons, List.append_assoc]
   exact take_put n.toNat (by omega) _
  show takeP (l.length + 1) _ = _
  rw [takeP, ht, if_pos rfl, takeP_puts l rest (fun m hm => h m (by simp [hm]))]
  rfl
theorem takeP_back : ∀ (k : Nat) (s : List UInt8) (l : List Nat) (rest : List UInt8), takeP k s = some (l, rest) → l.length = k ∧ (l.flatMap putL) ++ rest = s ∧ ∀ n ∈ l, n < 18446744073709551616
 | 0, s, l, rest, h => by
  simp only [takeP, Option.some.injEq, Prod.mk.injEq] at h
  obtain ⟨rfl, rfl⟩ := h
  exact ⟨rfl, rfl, fun n hn => by cases hn⟩
 | k + 1, s, l, rest, h => by
  rw [takeP] at h
  split at h
  ·rename_i hc
   cases hr : takeP k (takeL s).2.1 with
   | none => rw [hr] at h; cases h
   | some x =>
    rw [hr] at h
    simp only [Option.map_some, Option.some.injEq, Prod.mk.injEq] at h
    obtain ⟨rfl, rfl⟩ := h
    obtain ⟨h1, h2, h3⟩ := takeP_back k _ x.1 x.2 (by rw [hr])
    refine ⟨by simp [h1], ?_, fun n hn => ?_⟩
    ·rw [List.flatMap_cons, List.append_assoc, h2]
     exact take_back s _ _ (by rw [← hc])
    ·rcases List.mem_cons.1 hn with rfl | hn
     ·exact take_lt s
     ·exact h3 n hn
  ·cases h
theorem takeP_add : ∀ (a b : Nat) (s : List UInt8), takeP (a + b) s = match takeP a s with
  | some (l, r) => (takeP b r).map (fun x => (l ++ x.1, x.2))
  | none => none
 | 0, b, s => by simp [takeP]
 | a + 1, b, s => by
  rw [show a + 1 + b = (a + b) + 1 by omega, takeP, takeP]
  split
  ·rw [takeP_add a b]
   cases takeP a (takeL s).2.1 with
   | none => rfl
   | some x =>
    obtain ⟨l, r⟩ := x
    simp only [Option.map_some, Option.map_map]
    rfl
  ·rfl
def w64 (n : Nat) : Int := IntKind.i64.wrap (n : Int)
theorem w64_eq {n : Nat} (hn : n < 18446744073709551616) (h : 0 ≤ w64 n) : (n : Int) = w64 n := by
 unfold w64 at *
 rw [IntKind.wrap_i64] at *
 omega
theorem w64_nat {n : Nat} (hn : n ≤ 1099511627776) : w64 n = n := by
 unfold w64
 rw [IntKind.wrap_i64]
 omega
def progX (a b c : Nat) (l : List Nat) (m : List UInt8) : MS := ⟨placesL (l.map w64), w64 a, w64 b, w64 c, ⟨m.toArray⟩⟩
theorem pairs_places : ∀ {l : List Int}, (∃ m, l.length = 2 * m) → pairsL (placesL l) = l
 | [], _ => rfl
 | [n], h => by obtain ⟨m, h⟩ := h; simp at h; omega
 | n :: k :: l, h => by
  have ih := pairs_places (l := l) (by obtain ⟨m, h⟩ := h; simp at h; exact ⟨m - 1, by omega⟩)
  rw [placesL, pairsL, List.flatMap_cons]
  show [n, k] ++ pairsL (placesL l) = _
  rw [ih]; rfl
theorem puts_w64 {l : List Nat} (h : ∀ n ∈ l, n < 18446744073709551616 ∧ 0 ≤ w64 n) : putsL (l.map w64) = l.flatMap putL := by
 induction l with
 | nil => rfl
 | cons n l ih =>
  have hn := h n (by simp)
  rw [List.map_cons, putsL_cons, List.flatMap_cons, ih (fun k hk => h k (by simp [hk])), ← w64_eq hn.1 hn.2, Int.toNat_natCast]
theorem prog_right {t r m : List UInt8} {a b c d : Nat} {l : List Nat} (h1 : takeP 4 t = some ([a, b, c, d], r)) (hd : 0 ≤ w64 d ∧ w64 d ≤ 40) (h2 : takeP (2 * (w64 d).toNat) r = some (l, m)) (hr : rightM (progX a b c l m) = true) : unpackM t = some (progX a b c l m) := by
 refine unpack_iff.2 ⟨hr, ?_⟩
 obtain ⟨-, e1, b1⟩ := takeP_back 4 t _ r h1
 obtain ⟨hl, e2, b2⟩ := takeP_back _ r l m h2
 have hin := nums_in hr
 have hpl : pairsL (placesL (l.map w64)) = l.map w64 := pairs_places ⟨_, by rw [List.length_map]; exact hl⟩
 have hlen : ((placesL (l.map w64)).length : Int) = w64 d := by
  rw [places_len, List.length_map, hl]; omega
 have hnums : numsM (progX a b c l m) = [a, b, c, d].map w64 ++ l.map w64 := by
  show w64 a :: w64 b :: w64 c :: ((placesL (l.map w64)).length : Int) :: pairsL (placesL (l.map w64)) = _
  rw [hpl, hlen]; rfl
 rw [hnums, ← List.map_append] at hin
 have hb : ∀ n ∈ [a, b, c, d] ++ l, n < 18446744073709551616 ∧ 0 ≤ w64 n := fun n hn => by
  refine ⟨?_, (hin _ (List.mem_map_of_mem hn)).1⟩
  rcases List.mem_append.1 hn with h | h
  ·exact b1 n h
  ·exact b2 n h
 unfold encM
 rw [hnums, ← List.map_append, puts_w64 hb, List.flatMap_append, List.append_assoc]
 show _ ++ (_ ++ m) = _
 rw [e2, e1]
theorem prog_enc {x : MS} (h : rightM x = true) : ∃ a b c d r, takeP 4 (encM x) = some ([a, b, c, d], r) ∧ (0 ≤ w64 d ∧ w64 d ≤ 40) ∧ ∃ l m, takeP (2 * (w64 d).toNat) r = some (l, m) ∧ progX a b c l m = x := by
 obtain ⟨h1, h2, h3, h4, h5, h6⟩ := right_parts h
 have hin := nums_in h
 have e1 : encM x = putsL [x.next, x.seq, x.log, (x.files.length : Int)] ++ (putsL (pairsL x.files) ++ x.mt.data.toList) := by
  unfold encM
  rw [show numsM x = [x.next, x.seq, x.log, (x.files.length : Int)] ++ pairsL x.files from rfl, putsL_append, List.append_assoc]
 have r1 := takeP_puts [x.next, x.seq, x.log, (x.files.length : Int)] (putsL (pairsL x.files) ++ x.mt.data.toList) (fun n hn => hin n (by
  simp only [numsM, List.mem_cons, List.not_mem_nil, or_false] at hn ⊢
  rcases hn with h | h | h | h <;> simp [h]))
 have r2 := takeP_puts (pairsL x.files) x.mt.data.toList (fun n hn => hin n (by simp [numsM, hn]))
 have hw : ∀ n : Int, 0 ≤ n ∧ n ≤ 1099511627776 → w64 n.toNat = n := fun n hn => by rw [w64_nat (by omega), Int.toNat_of_nonneg hn.1]
 have hd : w64 (x.files.length : Int).toNat = (x.files.length : Int) := hw _ (by omega)
 rw [pairsL_len] at r2
 refine ⟨_, _, _, _, _, by rw [e1]; exact r1, by rw [hd]; omega, (pairsL x.files).map Int.toNat, x.mt.data.toList, by rw [hd, Int.toNat_natCast]; exact r2, ?_⟩
 have hp : ((pairsL x.files).map Int.toNat).map w64 = pairsL x.files := by
  rw [List.map_map]
  refine (List.map_congr_left (fun n hn => ?_)).trans (List.map_id _)
  exact hw n (hin n (by simp [numsM, hn]))
 unfold progX
 rw [hp, places_pairs, hw _ (by omega), hw _ (by omega), hw _ (by omega)]
theorem prog_none {t : List UInt8} (h : ∀ a b c d r, takeP 4 t = some ([a, b, c, d], r) → (0 ≤ w64 d ∧ w64 d ≤ 40) → ∀ l m, takeP (2 * (w64 d).toNat) r = some (l, m) → rightM (progX a b c l m) = false) : unpackM t = none := by
 cases hu : unpackM t with
 | none => rfl
 | some x =>
  obtain ⟨h1, rfl⟩ := unpack_iff.1 hu
  obtain ⟨a, b, c, d, r, q1, q2, l, m, q3, q4⟩ := prog_enc h1
  have := h a b c d r q1 q2 l m q3
  rw [q4, h1] at this
  cases this
end Go.Proofs.YtfbiinnenlgkfaaGreatDoor
