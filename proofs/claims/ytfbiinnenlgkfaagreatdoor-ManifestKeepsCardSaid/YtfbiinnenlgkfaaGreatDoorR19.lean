/- JSeg, laid together. -/
import Derived.Test.YtfbiinnenlgkfaaGreatDoorR8
import Derived.Test.YtfbiinnenlgkfaaGreatDoorR18
set_option linter.unusedSimpArgs false
set_option linter.unusedVariables false
namespace Go.Proofs.YtfbiinnenlgkfaaGreatDoor

def fileN (p : List UInt8) (n : Nat) : List UInt8 := p ++ (46 :: Lib.itoa (n : Int))
def segN (p nm : List UInt8) : Nat :=
 if 1 ≤ dvalN (nm.drop (p.length + 1)) ∧ dvalN (nm.drop (p.length + 1)) ≤ 9999999 ∧ nm = fileN p (dvalN (nm.drop (p.length + 1))) then dvalN (nm.drop (p.length + 1)) else 0
theorem itoa_nat (n : Nat) : Lib.itoa (n : Int) = Lib.decDigits n := Lib.itoa_nonneg n
theorem file_drop (p : List UInt8) (n : Nat) : (fileN p n).drop (p.length + 1) = Lib.decDigits n := by
 rw [fileN, itoa_nat, ← List.drop_drop, List.drop_left]; rfl
theorem seg_file (p : List UInt8) (n : Nat) (h1 : 1 ≤ n) (h2 : n ≤ 9999999) : segN p (fileN p n) = n := by
 unfold segN
 rw [file_drop, dval_digits, if_pos ⟨h1, h2, rfl⟩]
theorem seg_pos {p nm : List UInt8} (h : segN p nm ≠ 0) : nm = fileN p (segN p nm) ∧ 1 ≤ segN p nm ∧ segN p nm ≤ 9999999 := by
 unfold segN at h ⊢
 split
 ·rename_i hc; exact ⟨hc.2.2, hc.1, hc.2.1⟩
 ·rename_i hc; rw [if_neg hc] at h; exact absurd rfl h
theorem seg_le (p nm : List UInt8) : segN p nm ≤ 9999999 := by
 by_cases h : segN p nm = 0
 ·omega
 ·exact (seg_pos h).2.2
theorem seg_none {p nm : List UInt8} (h : ∀ n, 1 ≤ n → n ≤ 9999999 → nm ≠ fileN p n) : segN p nm = 0 := by
 rcases Nat.eq_zero_or_pos (segN p nm) with h0 | h0
 ·exact h0
 ·obtain ⟨h1, h2, h3⟩ := seg_pos (p := p) (nm := nm) (by omega)
  exact absurd h1 (h _ h2 h3)
theorem file_inj {p : List UInt8} {n m : Nat} (h : fileN p n = fileN p m) : n = m := by
 have := congrArg (fun l => dvalN (l.drop (p.length + 1))) h
 simp only [file_drop, dval_digits] at this
 exact this

def insN (n : Nat) (out : List Nat) : List Nat := out.takeWhile (fun k => decide (k < n)) ++ n :: out.dropWhile (fun k => decide (k < n))
def segsL (p : List UInt8) (L : List FI) : List Nat := L.foldl (fun out x => if segN p x.name = 0 then out else insN (segN p x.name) out) []
def colL (p : List UInt8) (L : List FI) : List Nat := (L.map fun x => segN p x.name).filter fun n => decide (n ≠ 0)
def lastN (p : List UInt8) (L : List FI) : Nat := (segsL p L).getLast?.getD 0

theorem ins_perm (n : Nat) (out : List Nat) : (insN n out).Perm (out ++ [n]) := by
 unfold insN
 have h : (out.takeWhile (fun k => decide (k < n)) ++ n :: out.dropWhile (fun k => decide (k < n))).Perm (n :: (out.takeWhile (fun k => decide (k < n)) ++ out.dropWhile (fun k => decide (k < n)))) := List.perm_middle
 rw [List.takeWhile_append_dropWhile] at h
 exact h.trans (List.perm_append_singleton n out).symm
theorem drop_head : ∀ (n : Nat) (out : List Nat), ∀ x r, out.dropWhile (fun k => decide (k < n)) = x :: r → n ≤ x
 | n, [], x, r, h => by simp at h
 | n, y :: out, x, r, h => by
  rw [List.dropWhile_cons] at h
  split at h
  ·exact drop_head n out x r h
  ·rename_i hc
   simp only [List.cons.injEq] at h
   obtain ⟨rfl, -⟩ := h
   simpa using hc
theorem take_less : ∀ (n : Nat) (out : List Nat), ∀ x ∈ out.takeWhile (fun k => decide (k < n)), x < n
 | n, [], x, h => by simp at h
 | n, y :: out, x, h => by
  rw [List.takeWhile_cons] at h
  split at h
  ·rename_i hc
   rcases List.mem_cons.1 h with rfl | h
   ·simpa using hc
   ·exact take_less n out x h
  ·cases h
theorem ins_sorted {n : Nat} {out : List Nat} (h : out.Pairwise (· ≤ ·)) : (insN n out).Pairwise (· ≤ ·) := by
 unfold insN
 have e := List.takeWhile_append_dropWhile (p := fun k => decide (k < n)) (l := out)
 rw [← e, List.pairwise_append] at h
 obtain ⟨h1, h2, h3⟩ := h
 rw [List.pairwise_append, List.pairwise_cons]
 refine ⟨h1, ⟨fun x hx => ?_, h2⟩, fun x hx y hy => ?_⟩
 ·cases hd : out.dropWhile (fun k => decide (k < n)) with
  | nil => rw [hd] at hx; cases hx
  | cons y r =>
   have := drop_head n out y r hd
   rw [hd] at hx h2
   rcases List.mem_cons.1 hx with rfl | hx
   ·exact this
   ·have := List.rel_of_pairwise_cons h2 hx; omega
 ·rcases List.mem_cons.1 hy with rfl | hy
  ·exact Nat.le_of_lt (take_less y out x hx)
  ·exact h3 x hx y hy
theorem segs_step (p : List UInt8) (L : List FI) (x : FI) : segsL p (L ++ [x]) = if segN p x.name = 0 then segsL p L else insN (segN p x.name) (segsL p L) := by
 unfold segsL; rw [List.foldl_append]; rfl
theorem col_step (p : List UInt8) (L : List FI) (x : FI) : colL p (L ++ [x]) = if segN p x.name = 0 then colL p L else colL p L ++ [segN p x.name] := by
 unfold colL
 rw [List.map_append, List.filter_append]
 by_cases h : segN p x.name = 0
 ·rw [if_pos h]; simp [h]
 ·rw [if_neg h]; simp [h]
theorem rev_ind {α : Type} {P : List α → Prop} (h0 : P []) (hs : ∀ l x, P l → P (l ++ [x])) (l : List α) : P l := by
 have : ∀ m : List α, P m.reverse := fun m => by
  induction m with
  | nil => exact h0
  | cons x m ih => rw [List.reverse_cons]; exact hs _ _ ih
 have := this l.reverse
 rwa [List.reverse_reverse] at this
theorem segs_sorted (p : List UInt8) (L : List FI) : (segsL p L).Pairwise (· ≤ ·) := by
 refine rev_ind (P := fun L => (segsL p L).Pairwise (· ≤ ·)) List.Pairwise.nil (fun L x ih => ?_) L
 rw [segs_step]
 split
 ·exact ih
 ·exact ins_sorted ih
theorem segs_perm (p : List UInt8) (L : List FI) : (segsL p L).Perm (colL p L) := by
 refine rev_ind (P := fun L => (segsL p L).Perm (colL p L)) (List.Perm.refl _) (fun L x ih => ?_) L
 rw [segs_step, col_step]
 split
 ·exact ih
 ·exact (ins_perm _ _).trans (ih.append_right _)
theorem mem_segs {p : List UInt8} {L : List FI} {n : Nat} : n ∈ segsL p L ↔ n ≠ 0 ∧ ∃ x ∈ L, segN p x.name = n := by
 rw [(segs_perm p L).mem_iff]
 unfold colL
 simp only [List.mem_filter, List.mem_map, decide_eq_true_eq]
 exact ⟨fun ⟨⟨x, h1, h2⟩, h3⟩ => ⟨h3, x, h1, h2⟩, fun ⟨h3, x, h1, h2⟩ => ⟨⟨x, h1, h2⟩, h3⟩⟩
theorem mem_segs_file {p : List UInt8} {L : List FI} {n : Nat} : n ∈ segsL p L ↔ 1 ≤ n ∧ n ≤ 9999999 ∧ ∃ x ∈ L, x.name = fileN p n := by
 rw [mem_segs]
 constructor
 ·rintro ⟨h0, x, hx, rfl⟩
  obtain ⟨h1, h2, h3⟩ := seg_pos h0
  exact ⟨h2, h3, x, hx, h1⟩
 ·rintro ⟨h1, h2, x, hx, hn⟩
  exact ⟨by omega, x, hx, by rw [hn, seg_file p n h1 h2]⟩
theorem segs_len (p : List UInt8) (L : List FI) : (segsL p L).length ≤ L.length := by
 rw [(segs_perm p L).length_eq, colL]
 exact Nat.le_trans (List.length_filter_le _ _) (by simp)
theorem segs_merge (p : List UInt8) (L : List FI) : (((colL p L).map fun n : Nat => (n : Int)).mergeSort fun x y => decide (x ≤ y)) = (segsL p L).map fun n : Nat => (n : Int) := by
 have h1 := List.mergeSort_perm ((colL p L).map fun n : Nat => (n : Int)) (fun x y => decide (x ≤ y))
 have h2 : (((colL p L).map fun n : Nat => (n : Int)).mergeSort fun x y => decide (x ≤ y)).Pairwise fun x y => decide (x ≤ y) = true :=
  List.pairwise_mergeSort (fun a b c hab hbc => by simp at *; omega) (fun a b => by simp; omega) _
 have h3 : ((segsL p L).map fun n : Nat => (n : Int)).Pairwise fun x y => decide (x ≤ y) = true := by
  rw [List.pairwise_map]
  exact (segs_sorted p L).imp (fun h => by simp; omega)
 exact List.Perm.eq_of_pairwise (le := fun x y : Int => decide (x ≤ y) = true) (fun a b _ _ hab hba => by simp at hab hba; omega) h2 h3 (h1.trans ((segs_perm p L).symm.map _))
theorem last_mem {p : List UInt8} {L : List FI} (h : segsL p L ≠ []) : lastN p L ∈ segsL p L := by
 unfold lastN
 rw [List.getLast?_eq_some_getLast h]
 exact List.getLast_mem h
theorem last_max {p : List UInt8} {L : List FI} {n : Nat} (h : n ∈ segsL p L) : n ≤ lastN p L := by
 have hne : segsL p L ≠ [] := List.ne_nil_of_mem h
 unfold lastN
 rw [List.getLast?_eq_some_getLast hne]
 have hs := segs_sorted p L
 rw [← List.dropLast_concat_getLast hne] at hs h
 rw [List.pairwise_append] at hs
 rcases List.mem_append.1 h with h | h
 ·exact hs.2.2 n h _ (by simp)
 ·rw [List.mem_singleton] at h; exact Nat.le_of_eq h
theorem last_zero {p : List UInt8} {L : List FI} : lastN p L = 0 ↔ segsL p L = [] := by
 constructor
 ·intro h
  by_cases hne : segsL p L = []
  ·exact hne
  ·have := (mem_segs.1 (last_mem hne)).1; omega
 ·intro h; unfold lastN; rw [h]; rfl
theorem last_le (p : List UInt8) (L : List FI) : lastN p L ≤ 9999999 := by
 by_cases h : segsL p L = []
 ·rw [last_zero.2 h]; omega
 ·exact (mem_segs_file.1 (last_mem h)).2.1
end Go.Proofs.YtfbiinnenlgkfaaGreatDoor
