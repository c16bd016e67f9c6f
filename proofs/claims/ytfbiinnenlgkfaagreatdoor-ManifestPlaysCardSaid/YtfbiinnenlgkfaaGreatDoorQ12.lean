/- FMath, laid together. -/
import Derived.Test.YtfbiinnenlgkfaaGreatDoorQ9
import Derived.Test.YtfbiinnenlgkfaaGreatDoorQ10
import Derived.Test.YtfbiinnenlgkfaaGreatDoorQ11
import Derived.Sort.Walk0
set_option linter.unusedSimpArgs false
set_option linter.unusedVariables false
namespace Go.Proofs.YtfbiinnenlgkfaaGreatDoor
open Go.RowKit Go.Deep

theorem bl_irrefl (x : List UInt8) : Op.bytesLess x x = false := by
 rw [bytesLess_eq]; simp [List.lt_irrefl]
theorem bl_trans {x y z : List UInt8} (h : Op.bytesLess x y = true) (k : Op.bytesLess y z = true) : Op.bytesLess x z = true := by
 rw [bytesLess_eq, decide_eq_true_eq] at *
 exact List.lt_trans h k
theorem bl_total {x y : List UInt8} (h : Op.bytesLess x y = false) (hne : x ≠ y) : Op.bytesLess y x = true := by
 rw [bytesLess_eq, decide_eq_true_eq]
 rw [bytesLess_eq, decide_eq_false_iff_not, List.not_lt] at h
 rcases List.le_iff_lt_or_eq.1 h with h | h
 ·exact h
 ·exact absurd h.symm hne
theorem bl_ne {x y : List UInt8} (h : Op.bytesLess x y = true) : x ≠ y := by
 rintro rfl
 rw [bl_irrefl] at h; cases h
def Srt (L : List FI) : Prop := L.Pairwise fun x y => Op.bytesLess x.name y.name = true
def getF (nm : List UInt8) (L : List FI) : Option FI := L.find? fun x => x.name == nm
theorem getF_cons (nm : List UInt8) (x : FI) (L : List FI) : getF nm (x :: L) = if x.name = nm then some x else getF nm L := by
 unfold getF
 rw [List.find?_cons]
 by_cases h : x.name = nm
 ·rw [if_pos h, (beq_iff_eq).2 h]
 ·rw [if_neg h, (beq_eq_false_iff_ne).2 h]
theorem findN_cons (nm : List UInt8) (x : FI) (L : List FI) : findN nm (x :: L) = if Op.bytesLess x.name nm = true then findN nm L + 1 else 0 := rfl
theorem isN_cons (nm : List UInt8) (x : FI) (L : List FI) : isN nm (x :: L) = if Op.bytesLess x.name nm = true then isN nm L else x.name == nm := by
 unfold isN
 rw [findN_cons]
 by_cases h : Op.bytesLess x.name nm = true
 ·rw [if_pos h, if_pos h]; simp
 ·rw [if_neg h, if_neg h]; simp
theorem getF_low {nm : List UInt8} {L : List FI} (h : ∀ x ∈ L, Op.bytesLess nm x.name = true) : getF nm L = none := by
 unfold getF
 rw [List.find?_eq_none]
 intro x hx
 have := bl_ne (h x hx)
 simpa using fun e => this e.symm
theorem getF_name {nm : List UInt8} {L : List FI} {x : FI} (h : getF nm L = some x) : x.name = nm := by
 have := List.find?_some h
 simpa using this
theorem getF_mem {nm : List UInt8} {L : List FI} {x : FI} (h : getF nm L = some x) : x ∈ L := List.mem_of_find?_eq_some h
theorem srt_cons {x : FI} {L : List FI} : Srt (x :: L) ↔ (∀ y ∈ L, Op.bytesLess x.name y.name = true) ∧ Srt L := List.pairwise_cons
theorem getF_of_mem {L : List FI} (hs : Srt L) {x : FI} (h : x ∈ L) : getF x.name L = some x := by
 induction L with
 | nil => cases h
 | cons y L ih =>
  rw [srt_cons] at hs
  rw [getF_cons]
  rcases List.mem_cons.1 h with rfl | h
  ·rw [if_pos rfl]
  ·rw [if_neg (bl_ne (hs.1 x h)), ih hs.2 h]
theorem is_getF (nm : List UInt8) {L : List FI} (hs : Srt L) : isN nm L = (getF nm L).isSome := by
 induction L with
 | nil => rfl
 | cons x L ih =>
  rw [srt_cons] at hs
  rw [isN_cons, getF_cons]
  by_cases hb : Op.bytesLess x.name nm = true
  ·rw [if_pos hb, if_neg (bl_ne hb), ih hs.2]
  ·rw [if_neg hb]
   rw [Bool.not_eq_true] at hb
   by_cases he : x.name = nm
   ·rw [if_pos he, (beq_iff_eq).2 he]; rfl
   ·rw [if_neg he, (beq_eq_false_iff_ne).2 he, getF_low (fun y hy => bl_trans (bl_total hb he) (hs.1 y hy))]; rfl
theorem find_getF (nm : List UInt8) {L : List FI} (hs : Srt L) (h : isN nm L = true) : L[findN nm L]? = getF nm L := by
 induction L with
 | nil => cases h
 | cons x L ih =>
  rw [srt_cons] at hs
  rw [isN_cons] at h
  rw [findN_cons, getF_cons]
  by_cases hb : Op.bytesLess x.name nm = true
  ·rw [if_pos hb] at h ⊢
   rw [if_neg (bl_ne hb), ← ih hs.2 h]; simp
  ·rw [if_neg hb] at h ⊢
   rw [if_pos (by simpa using h)]; simp
theorem ins_nil (y : FI) : insS y [] = [y] := rfl
theorem ins_cons (y x : FI) (L : List FI) : insS y (x :: L) = if Op.bytesLess x.name y.name = true then x :: insS y L else if x.name = y.name then y :: L else y :: x :: L := by
 unfold insS
 rw [isN_cons, findN_cons]
 by_cases hb : Op.bytesLess x.name y.name = true
 ·simp only [if_pos hb, List.take_succ_cons, List.cons_append]
  congr 3
  rw [Nat.add_right_comm, List.drop_succ_cons]
 ·simp only [if_neg hb]
  by_cases he : x.name = y.name
  ·rw [if_pos he, (beq_iff_eq).2 he]; simp
  ·rw [if_neg he, (beq_eq_false_iff_ne).2 he]; simp
theorem out_nil (nm : List UInt8) : outS nm [] = [] := rfl
theorem out_cons (nm : List UInt8) (x : FI) (L : List FI) : outS nm (x :: L) = if Op.bytesLess x.name nm = true then x :: outS nm L else if x.name = nm then L else x :: L := by
 unfold outS
 rw [isN_cons, findN_cons]
 by_cases hb : Op.bytesLess x.name nm = true
 ·simp only [if_pos hb]
  split
  ·simp
  ·rfl
 ·simp only [if_neg hb]
  by_cases he : x.name = nm
  ·rw [if_pos he, (beq_iff_eq).2 he]; simp
  ·rw [if_neg he, (beq_eq_false_iff_ne).2 he]; simp
theorem mem_ins {y z : FI} {L : List FI} (h : z ∈ insS y L) : z = y ∨ z ∈ L := by
 unfold insS at h
 rcases List.mem_append.1 h with h | h
 ·exact Or.inr (List.mem_of_mem_take h)
 ·rcases List.mem_cons.1 h with h | h
  ·exact Or.inl h
  ·exact Or.inr (List.mem_of_mem_drop h)
theorem mem_out {nm : List UInt8} {z : FI} {L : List FI} (h : z ∈ outS nm L) : z ∈ L := by
 unfold outS at h
 split at h
 ·rcases List.mem_append.1 h with h | h
  ·exact List.mem_of_mem_take h
  ·exact List.mem_of_mem_drop h
 ·exact h
theorem srt_ins (y : FI) {L : List FI} (hs : Srt L) : Srt (insS y L) := by
 induction L with
 | nil => rw [ins_nil]; exact List.pairwise_singleton ..
 | cons x L ih =>
  rw [srt_cons] at hs
  rw [ins_cons]
  by_cases hb : Op.bytesLess x.name y.name = true
  ·rw [if_pos hb, srt_cons]
   refine ⟨fun z hz => ?_, ih hs.2⟩
   rcases mem_ins hz with rfl | hz
   ·exact hb
   ·exact hs.1 z hz
  ·rw [if_neg hb]
   rw [Bool.not_eq_true] at hb
   by_cases he : x.name = y.name
   ·rw [if_pos he, srt_cons]
    exact ⟨fun z hz => he ▸ hs.1 z hz, hs.2⟩
   ·rw [if_neg he, srt_cons, srt_cons]
    have hyx := bl_total hb he
    exact ⟨fun z hz => by
     rcases List.mem_cons.1 hz with rfl | hz
     ·exact hyx
     ·exact bl_trans hyx (hs.1 z hz), hs⟩
theorem srt_out (nm : List UInt8) {L : List FI} (hs : Srt L) : Srt (outS nm L) := by
 induction L with
 | nil => exact hs
 | cons x L ih =>
  have hs' := srt_cons.1 hs
  rw [out_cons]
  split
  ·exact srt_cons.2 ⟨fun z hz => hs'.1 z (mem_out hz), ih hs'.2⟩
  ·split
   ·exact hs'.2
   ·exact hs
theorem getF_ins (y : FI) {L : List FI} (hs : Srt L) (nm : List UInt8) : getF nm (insS y L) = if nm = y.name then some y else getF nm L := by
  induction L with
  | nil => rw [ins_nil, getF_cons]; by_cases h : y.name = nm
           · rw [if_pos h, if_pos h.symm]
           · rw [if_neg h, if_neg (fun e => h e.symm)]
  | cons x L ih =>
    rw [srt_cons] at hs
    rw [ins_cons]
    by_cases hb : Op.bytesLess x.name y.name = true
    · rw [if_pos hb, getF_cons, getF_cons, ih hs.2]
      by_cases h : x.name = nm
      · rw [if_pos h, if_pos h, if_neg (fun e => bl_ne hb (h.trans e))]
      · rw [if_neg h, if_neg h]
    · rw [if_neg hb]
      by_cases he : x.name = y.name
      · rw [if_pos he, getF_cons, getF_cons]
        by_cases h : y.name = nm
        · rw [if_pos h, if_pos h.symm]
        · rw [if_neg h, if_neg (fun e => h e.symm), if_neg (fun e => h (he.symm.trans e))]
      · rw [if_neg he, getF_cons]
        by_cases h : y.name = nm
        · rw [if_pos h, if_pos h.symm]
        · rw [if_neg h, if_neg (fun e => h e.symm)]
theorem getF_out (n : List UInt8) {L : List FI} (hs : Srt L) (nm : List UInt8) : getF nm (outS n L) = if nm = n then none else getF nm L := by
 induction L with
 | nil => rw [out_nil]; split <;> rfl
 | cons x L ih =>
  rw [srt_cons] at hs
  rw [out_cons]
  by_cases hb : Op.bytesLess x.name n = true
  ·rw [if_pos hb, getF_cons, getF_cons, ih hs.2]
   by_cases h : x.name = nm
   ·rw [if_pos h, if_pos h, if_neg (fun e => bl_ne hb (h.trans e))]
   ·rw [if_neg h, if_neg h]
  ·rw [if_neg hb]
   rw [Bool.not_eq_true] at hb
   by_cases he : x.name = n
   ·rw [if_pos he, getF_cons]
    by_cases h : x.name = nm
    ·rw [if_pos (h.symm.trans he)]
     exact getF_low (fun z hz => h ▸ hs.1 z hz)
    ·rw [if_neg h, if_neg (fun e => h (he.trans e.symm))]
   ·rw [if_neg he]
    by_cases h : nm = n
    ·rw [if_pos h, h]
     exact getF_low (fun z hz => by
      rcases List.mem_cons.1 hz with rfl | hz
      ·exact bl_total hb he
      ·exact bl_trans (bl_total hb he) (hs.1 z hz))
    ·rw [if_neg h]
theorem len_ins (y : FI) {L : List FI} (hs : Srt L) : (insS y L).length = if (getF y.name L).isSome then L.length else L.length + 1 := by
 rw [← is_getF _ hs]
 induction L with
 | nil => rfl
 | cons x L ih =>
  rw [srt_cons] at hs
  rw [ins_cons, isN_cons]
  by_cases hb : Op.bytesLess x.name y.name = true
  ·rw [if_pos hb, if_pos hb, List.length_cons, ih hs.2]; split <;> rfl
  ·rw [if_neg hb, if_neg hb]
   by_cases he : x.name = y.name
   ·rw [if_pos he, (beq_iff_eq).2 he]; rfl
   ·rw [if_neg he, (beq_eq_false_iff_ne).2 he]; rfl
theorem len_out (n : List UInt8) {L : List FI} (hs : Srt L) : (outS n L).length = if (getF n L).isSome then L.length - 1 else L.length := by
 rw [← is_getF _ hs]
 induction L with
 | nil => rfl
 | cons x L ih =>
  rw [srt_cons] at hs
  rw [out_cons, isN_cons]
  by_cases hb : Op.bytesLess x.name n = true
  ·rw [if_pos hb, if_pos hb, List.length_cons, ih hs.2]
   split
   ·rename_i h
    have : 0 < L.length := by
     cases L with
     | nil => cases h
     | cons => simp
    simp; omega
   ·rfl
  ·rw [if_neg hb, if_neg hb]
   by_cases he : x.name = n
   ·rw [if_pos he, (beq_iff_eq).2 he]; simp
   ·rw [if_neg he, (beq_eq_false_iff_ne).2 he]; simp
def szO (o : Option FI) : Nat := match o with
 | some x => x.bytes.length
 | none => 0
theorem bytes_ins (y : FI) {L : List FI} (hs : Srt L) : bytesN (insS y L) + szO (getF y.name L) = bytesN L + y.bytes.length := by
 induction L with
 | nil => simp [ins_nil, bytesN, getF, szO]
 | cons x L ih =>
  have hs0 := hs
  rw [srt_cons] at hs
  rw [ins_cons, getF_cons]
  by_cases hb : Op.bytesLess x.name y.name = true
  ·rw [if_pos hb, if_neg (bl_ne hb)]
   have := ih hs.2
   simp only [bytesN]; omega
  ·rw [if_neg hb]
   rw [Bool.not_eq_true] at hb
   by_cases he : x.name = y.name
   ·rw [if_pos he, if_pos he]; simp only [bytesN, szO]; omega
   ·rw [if_neg he, if_neg he, getF_low (fun z hz => bl_trans (bl_total hb he) (hs.1 z hz))]
    simp only [bytesN, szO]; omega
theorem bytes_out (n : List UInt8) {L : List FI} (hs : Srt L) : bytesN (outS n L) + szO (getF n L) = bytesN L := by
 induction L with
 | nil => rfl
 | cons x L ih =>
  rw [srt_cons] at hs
  rw [out_cons, getF_cons]
  by_cases hb : Op.bytesLess x.name n = true
  ·rw [if_pos hb, if_neg (bl_ne hb)]
   have := ih hs.2
   simp only [bytesN]; omega
  ·rw [if_neg hb]
   rw [Bool.not_eq_true] at hb
   by_cases he : x.name = n
   ·rw [if_pos he, if_pos he]; simp only [bytesN, szO]; omega
   ·rw [if_neg he, if_neg he, getF_low (fun z hz => bl_trans (bl_total hb he) (hs.1 z hz))]
    simp only [bytesN, szO]; omega
theorem bytes_mem {L : List FI} {x : FI} (h : x ∈ L) : x.bytes.length ≤ bytesN L := by
 induction L with
 | nil => cases h
 | cons y L ih =>
  simp only [bytesN]
  rcases List.mem_cons.1 h with rfl | h
  ·omega
  ·have := ih h; omega
end Go.Proofs.YtfbiinnenlgkfaaGreatDoor
