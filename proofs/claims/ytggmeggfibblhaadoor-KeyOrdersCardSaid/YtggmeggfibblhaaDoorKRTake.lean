/- moultref4.end: where a text ends; and what the document's Take comes to. -/
import Derived.Test.YtggmeggfibblhaaDoorKTake2
import Derived.Test.YtggmeggfibblhaaDoorKRPut2
set_option linter.unusedSimpArgs false
set_option linter.unusedVariables false
namespace Go.Proofs.YtggmeggfibblhaaDoor
open Go.RowKit Go.Deep

/-- How many bytes a text has, its end among them. -/
def endL : List UInt8 → Option Nat
  | [] => none
  | [_] => none
  | b :: c :: r => if b ≠ 0 then (endL (c :: r)).map (· + 1) else if c = 0 then some 2 else (endL r).map (· + 2)
theorem end_other (b : UInt8) (l : List UInt8) (h : b ≠ 0) : endL (b :: l) = (endL l).map (· + 1) := by
  cases l with
  | nil => rfl
  | cons c r => rw [endL, if_pos h]
theorem end_end (r : List UInt8) : endL (0 :: 0 :: r) = some 2 := rfl
theorem end_mark (c : UInt8) (r : List UInt8) (h : c ≠ 0) : endL (0 :: c :: r) = (endL r).map (· + 2) := by rw [endL, if_neg (by simp), if_neg h]
theorem end_short (l : List UInt8) (h : l.length ≤ 1) : endL l = none := by
  match l, h with
  | [], _ => rfl
  | [_], _ => rfl
  | _ :: _ :: _, h => simp at h
theorem end_esc (r : List UInt8) : ∀ t : List UInt8, endL (escL t ++ 0 :: 0 :: r) = some ((escL t).length + 2)
  | [] => rfl
  | b :: t => by
    by_cases h : b = 0
    · subst h
      rw [escL_zero, List.cons_append, List.cons_append, end_mark _ _ (by decide), end_esc r t]; simp
    · rw [escL_other b t h, List.cons_append, end_other b _ h, end_esc r t]; simp
theorem end_len : ∀ (l : List UInt8) (m : Nat), endL l = some m → 2 ≤ m ∧ m ≤ l.length
  | [], m, h => by cases h
  | [_], m, h => by cases h
  | b :: c :: r, m, h => by
    by_cases hb : b = 0
    · subst hb
      by_cases hc : c = 0
      · subst hc; rw [end_end] at h; cases h; simp
      · rw [end_mark c r hc] at h
        obtain ⟨j, h1, rfl⟩ := Option.map_eq_some_iff.1 h
        have := end_len r j h1
        simp; omega
    · rw [end_other b _ hb] at h
      obtain ⟨j, h1, rfl⟩ := Option.map_eq_some_iff.1 h
      have := end_len (c :: r) j h1
      simp at this ⊢; omega

/-- What value reads of a text: a 255 behind a 0 is let out. -/
def lenL (p : UInt8) : List UInt8 → List UInt8
  | [] => []
  | b :: r => if b = 255 ∧ p = 0 then lenL b r else b :: lenL b r
theorem len_esc : ∀ (t : List UInt8) (p : UInt8), p ≠ 0 → lenL p (escL t) = t
  | [], p, h => rfl
  | b :: t, p, h => by
    by_cases hb : b = 0
    · subst hb
      rw [escL_zero, lenL, if_neg (by simp), lenL, if_pos (by simp), len_esc t 255 (by decide)]
    · rw [escL_other b t hb, lenL, if_neg (fun hh => h hh.2), len_esc t b hb]

theorem text_none (b : UInt8) (r : List UInt8) (hw : widK b.toNat = 0) (h : endL r = none) : readL (b :: r) = none := by
  rw [readL, if_pos hw]
  cases hu : unescL r with
  | none => rfl
  | some p =>
    obtain ⟨t, rest⟩ := p
    rw [unesc_some r t rest hu, end_esc] at h
    cases h
theorem text_yes (b : UInt8) (r t : List UInt8) (m : Nat) (hw : widK b.toNat = 0) (he : endL r = some m) (hr : rightB b.toNat 0 t = true) (h : escL t ++ [0, 0] = r.take m) :
    readL (b :: r) = some (⟨b.toNat, 0, ⟨t.toArray⟩⟩, r.drop m) := by
  have e : r = escL t ++ 0 :: 0 :: r.drop m := by
    conv => lhs; rw [← List.take_append_drop m r, ← h]
    simp
  rw [readL, if_pos hw]
  have hu : unescL r = some (t, r.drop m) := by
    conv => lhs; rw [e]
    exact unesc_esc _ t
  rw [hu]
  simp only
  rw [if_pos hr]
theorem text_no (b : UInt8) (r : List UInt8) (m : Nat) (hw : widK b.toNat = 0) (he : endL r = some m)
    (h : rightB b.toNat 0 (lenL 1 (r.take (m - 2))) = false ∨ escL (lenL 1 (r.take (m - 2))) ++ [0, 0] ≠ r.take m) : readL (b :: r) = none := by
  rw [readL, if_pos hw]
  cases hu : unescL r with
  | none => rfl
  | some p =>
    obtain ⟨t, rest⟩ := p
    have e := unesc_some r t rest hu
    have hm : m = (escL t).length + 2 := by rw [e, end_esc] at he; cases he; rfl
    have ht : r.take m = escL t ++ [0, 0] := by rw [e, hm]; simp [List.take_append, List.take_of_length_le]
    have ht2 : r.take (m - 2) = escL t := by rw [e, hm, Nat.add_sub_cancel]; exact List.take_left
    rw [ht, ht2, len_esc t 1 (by decide)] at h
    simp only
    rw [if_neg]
    rcases h with h | h
    · rw [h]; simp
    · exact absurd rfl h

/-- The numbers that so many bytes tell fit an int. -/
theorem num_in (k : Int) (l : List UInt8) (h : l.length ≤ widK k) : -9223372036854775808 ≤ (sumL l : Int) - biasK k ∧ (sumL l : Int) - biasK k ≤ 9223372036854775807 := by
  have hs := sumL_lt l
  have hs2 : 256 ^ l.length ≤ 256 ^ widK k := Nat.pow_le_pow_right (by decide) h
  have hb8 : biasK k ≤ 9223372036854775808 := by unfold biasK; (repeat' split) <;> omega
  have hcase : widK k = 8 ∧ biasK k = 9223372036854775808 ∨ 256 ^ widK k ≤ 256 ^ 4 := by
    unfold widK biasK
    by_cases c1 : k = 1
    · right; simp [c1]
    by_cases c2 : k = 2
    · right; simp [c2]
    by_cases c3 : k = 3
    · right; simp [c3]
    by_cases c4 : k = 4
    · left; simp [c4]
    · right; simp [c1, c2, c3, c4]
  rcases hcase with ⟨e1, e2⟩ | hc
  · rw [e1] at hs2; rw [e2]; omega
  · omega

def endI (o : Option Nat) : Int := match o with
  | some m => m + 1
  | none => -1
def EndRel (s : ByteArray) (o : Option Nat) (i : Value) : Prop := ∃ k : Nat, 1 ≤ k ∧ k ≤ s.size + 1 ∧ i = .int .i64 k ∧ (endL (s.data.toList.drop k)).map (· + k) = o.map (· + 1)
theorem endI_of (o : Option Nat) (k : Nat) (h : o.map (· + 1) = some k) : endI o = k := by
  obtain ⟨m, rfl, hm⟩ := Option.map_eq_some_iff.1 h
  unfold endI; simp only; omega
theorem endI_none (o : Option Nat) (h : o.map (· + 1) = none) : endI o = -1 := by
  cases o with
  | none => rfl
  | some m => cases h
theorem map_add (o : Option Nat) (j k : Nat) : (o.map (· + j)).map (· + k) = o.map (· + (j + k)) := by cases o <;> simp; omega

set_option maxHeartbeats 2000000 in
theorem end_any (s : ByteArray) (o : Option Nat) (ho : endL (s.data.toList.drop 1) = o) (w : World) (hs : s.size ≤ 1000000) (h0 : 0 < s.size) :
    Calls Tryd.prog 34 #[.string s] w fun e w' => e = .returned (.int .i64 (endI o)) ∧ w' = w := by
  have HO := Lib.hid ho; clear ho
  have hsl : s.data.toList.length = s.size := rfl
  go_enter Tryd.func34, Tryd.ntmps34
  go_wp2_with (fail)
  go_loopw [3] (fun i x => EndRel s o i ∧ x = w) (fun i _ => s.size + 1 - (intOf i).toNat)
  case atStart => exact ⟨⟨1, Nat.le_refl _, by omega, rfl, by rw [HO.out]⟩, rfl⟩
  case round =>
    obtain ⟨⟨k, hk1, hk, rfl, hr⟩, rfl⟩ := hrel
    have HR := Lib.hid hr; clear hr
    by_cases hlt : k + 1 < s.size
    · have i1 : (k : Int) + 1 < (s.size : Int) := by omega
      by_cases hb : s[k] = 0
      · have hb' : s[k].toNat = 0 := by rw [hb]; rfl
        have e0 : s.data.toList.drop k = 0 :: s[k + 1] :: s.data.toList.drop (k + 2) := by rw [drop_cons s k (by omega), drop_cons s (k + 1) (by omega), hb]
        by_cases hc : s[k + 1] = 0
        · have hc' : s[k + 1].toNat = 0 := by rw [hc]; rfl
          have hX := HR.out
          rw [e0, hc, end_end] at hX
          have HX := Lib.hid (endI_of _ _ hX.symm)
          clear hX e0
          go_wp2_with (fail)
          go_ret
          exact ⟨ret_int (by have := HX.out; omega), rfl⟩
        · have hc' : ¬ s[k + 1].toNat = 0 := fun h => hc (UInt8.toNat_inj.1 h)
          have hX := HR.out
          rw [e0, end_mark _ _ hc, map_add, show 2 + k = k + 2 by omega] at hX
          have HX := Lib.hid hX
          clear hX e0
          go_wp2_with (fail)
          go_roundw
          case rel => exact ⟨⟨k + 2, by omega, by omega, by go_num, HX.out⟩, by trivial⟩
          case measure => simp [intOf]; omega
      · have hb' : ¬ s[k].toNat = 0 := fun h => hb (UInt8.toNat_inj.1 h)
        have hX := HR.out
        rw [drop_cons s k (by omega), end_other _ _ hb, map_add, show 1 + k = k + 1 by omega] at hX
        have HX := Lib.hid hX
        clear hX
        go_wp2_with (fail)
        go_roundw
        case rel => exact ⟨⟨k + 1, by omega, by omega, by go_num, HX.out⟩, by trivial⟩
        case measure => simp [intOf]; omega
    · have hX := HR.out
      rw [end_short _ (by rw [List.length_drop]; omega)] at hX
      have HX := Lib.hid (endI_none _ hX.symm)
      have i1 : ¬ (k : Int) + 1 < (s.size : Int) := by omega
      clear hX
      go_wp2_with (fail)
      go_ret
      exact ⟨ret_int HX.out.symm, rfl⟩
end Go.Proofs.YtggmeggfibblhaaDoor
