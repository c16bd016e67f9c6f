/- What the calls make of files with the power on and no limit. -/
import Derived.Test.YthnhdiebkkfmgaaFLawM
set_option linter.unusedSimpArgs false
set_option linter.unusedVariables false
namespace Go.Proofs.Ythnhdiebkkfmgaa
open Go.RowKit Go.Deep Go.Maps

/-- The power is on, and there is no limit. -/
def Qt (M : RS) : Prop := M.gone = false ∧ M.turns = -1
theorem qt_crash (lf sp : List Int) (M : RS) : Qt (crashS lf sp M) := ⟨rfl, rfl⟩
theorem qt_turn {M : RS} (h : Qt M) : turnS M = (0, M) := turnS_neg (by rw [h.2]; omega)
theorem qt_chg {M : RS} (h : Qt M) (L' : List FI) : chgS M L' = (0, { M with L := L' }) := by
  unfold chgS
  rw [if_neg (by rw [h.2]; omega), qt_turn h]
theorem qt_files {M : RS} (h : Qt M) (L' : List FI) : Qt { M with L := L' } := h
theorem qt_drop {M : RS} (h : Qt M) (hs : Srt M.L) (nm : List UInt8) : Qt (dropS nm M).2 ∧ getF nm (dropS nm M).2.L = none ∧ (∀ m, m ≠ nm → getF m (dropS nm M).2.L = getF m M.L) := by
  unfold dropS onS
  rw [h.1]
  simp only [Bool.false_eq_true, if_false]
  cases hy : getF nm M.L with
  | none => exact ⟨h, hy, fun _ _ => rfl⟩
  | some y =>
    simp only []
    rw [qt_chg h]
    exact ⟨h, by rw [getF_out nm hs, if_pos rfl], fun m hm => by rw [getF_out nm hs, if_neg hm]⟩
theorem qt_add {M : RS} (h : Qt M) (hs : Srt M.L) (nm s : List UInt8) : ((addS nm s M).1 ≠ 0 → (addS nm s M).2 = M) ∧
    ((addS nm s M).1 = 0 → Qt (addS nm s M).2 ∧ getF nm (addS nm s M).2.L = some (addF nm s M.L) ∧ (∀ m, m ≠ nm → getF m (addS nm s M).2.L = getF m M.L)) := by
  unfold addS
  by_cases ha : admS nm s.length M = 0
  · rw [if_pos ha, qt_chg h]
    refine ⟨fun hc => absurd rfl hc, fun _ => ⟨h, ?_, fun m hm => ?_⟩⟩
    · rw [getF_ins _ hs, addF_name, if_pos rfl]
    · rw [getF_ins _ hs, addF_name, if_neg hm]
  · rw [if_neg ha]
    exact ⟨fun _ => rfl, fun hc => absurd hc ha⟩
theorem qt_flush {M : RS} (h : Qt M) (hs : Srt M.L) {nm : List UInt8} {y : FI} (hy : getF nm M.L = some y) : (flushS nm M).1 = 0 ∧ Qt (flushS nm M).2 ∧ getF nm (flushS nm M).2.L = some { y with safe := y.bytes.length } ∧ (∀ m, m ≠ nm → getF m (flushS nm M).2.L = getF m M.L) := by
  unfold flushS onS
  rw [h.1, hy]
  simp only [Bool.false_eq_true, if_false]
  rw [qt_chg h]
  have hn := getF_name hy
  exact ⟨rfl, h, by rw [getF_ins _ hs, if_pos hn.symm], fun m hm => by rw [getF_ins _ hs, if_neg (by rw [hn]; exact hm)]⟩
theorem qt_move {M : RS} (h : Qt M) (hs : Srt M.L) {nm to : List UInt8} {y : FI} (hy : getF nm M.L = some y) (hto : nameB to = true) : moveS nm to M = (0, { M with L := insS { y with name := to } (outS nm M.L) }) := by
  unfold moveS onS
  rw [h.1, hy, hto]
  simp only [Bool.false_eq_true, if_false, Bool.true_eq_false]
  rw [qt_chg h, h.1]
theorem qt_get {M : RS} (h : Qt M) (nm : List UInt8) : getS nm M = match getF nm M.L with
  | some y => (y.bytes, 0)
  | none => ([], 4) := by
  unfold getS
  rw [h.1]
  rfl
theorem addF_new {nm s : List UInt8} {L : List FI} (h : getF nm L = none) : addF nm s L = ⟨nm, s, 0⟩ := by unfold addF; rw [h]
theorem addF_old {nm s : List UInt8} {L : List FI} {y : FI} (h : getF nm L = some y) : addF nm s L = { y with bytes := y.bytes ++ s } := by unfold addF; rw [h]
theorem front_of (S R : List UInt8) (u s : ByteArray) (hu : u = ⟨(S ++ R).toArray⟩) (hs : S = s.data.toList) : ((u.extract 0 s.size).toList == s.toList) = true ∧ u.size = s.size + R.length := by
  have hsl : S.length = s.size := by rw [hs]; rfl
  have e : (u.extract 0 s.size).toList = s.toList := by
    rw [ByteArray.toList_eq, ByteArray.toList_eq, ← hs, hu]
    simp [ByteArray.data_extract, ← hsl]
  refine ⟨by rw [e, beq_iff_eq], ?_⟩
  rw [hu]
  show (S ++ R).toArray.size = _
  simp [hsl]
theorem mid_of (S R T : List UInt8) (u s t : ByteArray) (hu : u = ⟨(S ++ R).toArray⟩) (hs : S = s.data.toList) (ht : T = t.data.toList) (m : Nat) (hm : R.length = m + 1) (h : R.take m = T.take m) :
    ((u.extract s.size (s.size + m)).toList == (t.extract 0 m).toList) = true := by
  have hsl : S.length = s.size := by rw [hs]; rfl
  rw [beq_iff_eq, ByteArray.toList_eq, ByteArray.toList_eq, hu]
  simp only [ByteArray.data_extract, Array.toList_extract, List.extract_eq_take_drop]
  rw [← hsl, List.drop_left, ← ht]
  simp [h]
end Go.Proofs.Ythnhdiebkkfmgaa
