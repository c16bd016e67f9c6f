/- Mathematics of the laws on files. -/
import Derived.Test.YthnhdiebkkfmgaaFMade
set_option linter.unusedSimpArgs false
set_option linter.unusedVariables false
namespace Go.Proofs.Ythnhdiebkkfmgaa
open Go.RowKit Go.Deep Go.Maps

theorem chg_room (M : RS) (L' : List FI) : (chgS M L').2.room = M.room := by unfold chgS; split <;> exact turn_room M
theorem on_room (nm : List UInt8) (M : RS) (k : FI → Int × RS) (hk : ∀ y, (k y).2.room = M.room) : (onS nm M k).2.room = M.room := by
  unfold onS
  split
  · rfl
  · cases getF nm M.L with
    | none => rfl
    | some y => exact hk y
theorem do_room (a : AV) (M : RS) : (doS a M).2.room = M.room := by
  unfold doS
  split
  · exact on_room _ _ _ fun y => chg_room _ _
  split
  · exact on_room _ _ _ fun y => by split; rfl; exact chg_room _ _
  split
  · exact on_room _ _ _ fun y => by split; rfl; exact chg_room _ _
  split
  · exact on_room _ _ _ fun y => chg_room _ _
  split
  · rfl
  split
  · rfl
  split
  · rfl
  · simp only []
    unfold addS
    split
    · exact chg_room _ _
    · rfl
theorem made_room (room : Int) (L : List AV) : (madeS room L).room = room := by
  unfold madeS
  have : ∀ (L : List AV) (M : RS), (L.foldl (fun M a => (doS a M).2) M).room = M.room := by
    intro L
    induction L with
    | nil => intro M; rfl
    | cons a L ih => intro M; rw [List.foldl_cons, ih, do_room]
  rw [this]; rfl
/-- What a crash leaves of one file. -/
def crO (l s : Int) (x : FI) : FI := if x.safe = x.bytes.length then x else crX l s x
theorem crO_name (l s : Int) (x : FI) : (crO l s x).name = x.name := by unfold crO; split <;> rfl
theorem crash_get (lf sp : List Int) (nm : List UInt8) : ∀ (L : List FI) (k : Nat), (getF nm L = none → getF nm (crashF lf sp k L) = none) ∧ (∀ x, getF nm L = some x → ∃ j, getF nm (crashF lf sp k L) = some (crO (atN lf j) (atN sp j) x))
  | [], k => ⟨fun _ => rfl, (fun x hx => by cases hx)⟩
  | y :: L, k => by
    rw [crashF, getF_cons]
    by_cases hn : y.name = nm
    · rw [if_pos hn]
      refine ⟨(fun h => by cases h), fun x hx => ?_⟩
      obtain rfl : y = x := by simpa using hx
      by_cases hs : y.safe = y.bytes.length
      · rw [if_pos hs, getF_cons, if_pos hn]
        exact ⟨0, by unfold crO; rw [if_pos hs]⟩
      · rw [if_neg hs, getF_cons, if_pos (by exact hn)]
        exact ⟨k, by unfold crO; rw [if_neg hs]⟩
    · rw [if_neg hn]
      by_cases hs : y.safe = y.bytes.length
      · rw [if_pos hs, getF_cons, if_neg hn]
        exact crash_get lf sp nm L k
      · rw [if_neg hs, getF_cons, if_neg (by exact hn)]
        exact crash_get lf sp nm L (k + 1)
theorem crash_alone (lf sp : List Int) (nm : List UInt8) : ∀ (L : List FI) (k : Nat), (∀ x ∈ L, x.name ≠ nm → x.safe = x.bytes.length) → ∀ x, getF nm L = some x → getF nm (crashF lf sp k L) = some (crO (atN lf k) (atN sp k) x)
  | [], k, _, x, hx => by cases hx
  | y :: L, k, h, x, hx => by
    rw [crashF]
    rw [getF_cons] at hx
    by_cases hn : y.name = nm
    · rw [if_pos hn] at hx
      obtain rfl : y = x := by simpa using hx
      by_cases hs : y.safe = y.bytes.length
      · rw [if_pos hs, getF_cons, if_pos hn]
        unfold crO; rw [if_pos hs]
      · rw [if_neg hs, getF_cons, if_pos (by exact hn)]
        unfold crO; rw [if_neg hs]
    · rw [if_neg hn] at hx
      rw [if_pos (h y (by simp) hn), getF_cons, if_neg hn]
      exact crash_alone lf sp nm L k (fun z hz => h z (by simp [hz])) x hx
theorem crash_saved (lf sp : List Int) : ∀ (L : List FI) (k : Nat), (∀ x ∈ L, x.safe ≤ x.bytes.length) → ∀ x ∈ crashF lf sp k L, x.safe = x.bytes.length
  | [], _, _, x, hx => by cases hx
  | y :: L, k, h, x, hx => by
    rw [crashF] at hx
    split at hx
    · rename_i hs
      rcases List.mem_cons.1 hx with rfl | hx
      · exact hs
      · exact crash_saved lf sp L k (fun z hz => h z (by simp [hz])) x hx
    · rcases List.mem_cons.1 hx with rfl | hx
      · rw [crX_len _ _ _ (h y (by simp))]; rfl
      · exact crash_saved lf sp L (k + 1) (fun z hz => h z (by simp [hz])) x hx
/-- A file of bytes s that are flushed and others that are not, behind a crash. -/
theorem crO_bytes (l q : Int) (nm s t : List UInt8) : ∃ r, (crO l q ⟨nm, s ++ t, s.length⟩).bytes = s ++ r ∧ r.length ≤ t.length ∧ (r.length ≤ 1 ∨ r.take (r.length - 1) = t.take (r.length - 1)) := by
  unfold crO
  split
  · rename_i hs
    simp at hs
    subst hs
    exact ⟨[], by simp, by simp, by simp⟩
  · have hk := left_le l t.length
    unfold crX
    simp only [List.length_append, Nat.add_sub_cancel_left]
    generalize leftN l t.length = k at *
    split
    · rename_i h0
      subst h0
      exact ⟨[], by simp, by simp, by simp⟩
    · rename_i h0
      refine ⟨(t.take k).set (k - 1) (spb ((s ++ t).getD (s.length + k - 1) 0) q), ?_, by simp; omega, ?_⟩
      · rw [List.take_length_add_append, List.set_append_right _ _ (by omega)]
        congr 2
        omega
      · right
        have e : ((t.take k).set (k - 1) (spb ((s ++ t).getD (s.length + k - 1) 0) q)).length = k := by rw [List.length_set, List.length_take]; omega
        rw [e, List.take_set_of_le (by omega), List.take_take]
        congr 1
        omega
theorem crO_plain (l : Int) (nm s t : List UInt8) : (crO l 0 ⟨nm, s ++ t, s.length⟩).bytes = (s ++ t).take (s.length + leftN l t.length) := by
  unfold crO
  split
  · rename_i hs
    simp at hs
    subst hs
    simp
    rw [List.take_of_length_le (by omega)]
  · have hk := left_le l t.length
    unfold crX
    simp only [List.length_append, Nat.add_sub_cancel_left]
    generalize leftN l t.length = k at *
    split
    · rfl
    · rename_i h0
      have e : spb ((s ++ t).getD (s.length + k - 1) 0) 0 = (s ++ t).getD (s.length + k - 1) 0 := by
        unfold spb
        have : (IntKind.u8.wrap 0).toNat = 0 := rfl
        rw [this, Nat.xor_zero]
        simp
      rw [e]
      apply List.ext_getElem?
      intro i
      rw [List.getElem?_set]
      split
      · rename_i hi
        subst hi
        have h1 : s.length + k - 1 < ((s ++ t).take (s.length + k)).length := by rw [List.length_take, List.length_append]; omega
        rw [if_pos h1, List.getElem?_take_of_lt (by omega), List.getD, List.getElem?_eq_getElem (by rw [List.length_append]; omega)]
        rfl
      · rfl
end Go.Proofs.Ythnhdiebkkfmgaa
