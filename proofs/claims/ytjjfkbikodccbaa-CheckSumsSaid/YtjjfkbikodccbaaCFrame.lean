/- Mathematics of layer 5: a text's frame (frameL), what bytes tell of one (unframeL) and of some (scanL), and that a frame cut short, or with a byte of its payload or its sum turned, is refused. -/
import Derived.Test.YtjjfkbikodccbaaCMath
set_option linter.unusedSimpArgs false
set_option linter.unusedVariables false
namespace Go.Proofs.Ytjjfkbikodccbaa

def frameL (l : List UInt8) : List UInt8 := putL l.length ++ (l ++ bigL (crcN l) 4)
def unframeL (s : List UInt8) : List UInt8 × List UInt8 × Int :=
  if (takeL s).2.2 = false then ([], [], 8) else if 40000 < (takeL s).1 then ([], [], 10) else
  if (takeL s).2.1.length < (takeL s).1 + 4 then ([], [], 8) else
  if bigL (crcN ((takeL s).2.1.take (takeL s).1)) 4 = ((takeL s).2.1.drop (takeL s).1).take 4 then ((takeL s).2.1.take (takeL s).1, (takeL s).2.1.drop ((takeL s).1 + 4), 0) else ([], [], 9)
theorem frame_len (l : List UInt8) : (frameL l).length = szN l.length + l.length + 4 := by
  rw [frameL, List.length_append, List.length_append, putL_len, bigL_len]; omega
theorem frame_not_nil (l : List UInt8) : frameL l ≠ [] := by intro h; have := frame_len l; rw [h, List.length_nil] at this; omega
theorem big4_inj {a b : Nat} (ha : a < 4294967296) (hb : b < 4294967296) (h : bigL a 4 = bigL b 4) : a = b := by
  have := congrArg sumL h
  rw [sum_big, sum_big] at this
  omega
theorem unframe_of {n : Nat} {rest : List UInt8} {s : List UInt8} (h : takeL s = (n, rest, true)) (hn : n ≤ 40000) :
    unframeL s = if rest.length < n + 4 then ([], [], 8) else if bigL (crcN (rest.take n)) 4 = (rest.drop n).take 4 then (rest.take n, rest.drop (n + 4), 0) else ([], [], 9) := by
  rw [unframeL, h, if_neg (by simp), if_neg (by show ¬ 40000 < n; omega)]
theorem unframe_frame (l s : List UInt8) (hl : l.length ≤ 40000) : unframeL (frameL l ++ s) = (l, s, 0) := by
  have ht : takeL (frameL l ++ s) = (l.length, l ++ (bigL (crcN l) 4 ++ s), true) := by
    rw [frameL, List.append_assoc, List.append_assoc, take_put _ (by omega)]
  have h4 := bigL_len 4 (crcN l)
  rw [unframe_of ht hl, if_neg (by rw [List.length_append, List.length_append]; omega), List.take_left' rfl, List.drop_left' rfl, List.take_left' h4, if_pos rfl,
    ← List.drop_drop, List.drop_left' rfl, List.drop_left' h4]
theorem unframe_cut (l : List UInt8) (hl : l.length ≤ 40000) (i : Nat) (hi : i < (frameL l).length) : unframeL ((frameL l).take i) = ([], [], 8) := by
  by_cases h : i < (putL l.length).length
  · rw [frameL, List.take_append_of_le_length (by omega)]
    rw [unframeL, take_cut _ (by omega) i h, if_pos rfl]
  · have ht : takeL ((frameL l).take i) = (l.length, (l ++ bigL (crcN l) 4).take (i - (putL l.length).length), true) := by
      rw [frameL, List.take_append, List.take_of_length_le (by omega), take_put _ (by omega)]
    rw [frame_len] at hi
    rw [putL_len] at h ht
    rw [unframe_of ht hl, if_pos]
    rw [List.length_take]
    omega
/-- A frame whose payload or sum is another at one place. -/
theorem unframe_turn (l : List UInt8) (hl : l.length ≤ 40000) (j : Nat) (hj : j < l.length + 4) (x : UInt8) (hx : ∀ h : j < (l ++ bigL (crcN l) 4).length, x ≠ (l ++ bigL (crcN l) 4)[j]) :
    unframeL (putL l.length ++ (l ++ bigL (crcN l) 4).set j x) = ([], [], 9) := by
  have h4 := bigL_len 4 (crcN l)
  have hlen : j < (l ++ bigL (crcN l) 4).length := by rw [List.length_append]; omega
  have hx := hx hlen
  rw [unframe_of (take_put _ (by omega) _) hl, if_neg (by rw [List.length_set, List.length_append]; omega), if_neg]
  by_cases h : j < l.length
  · rw [List.set_append_left _ _ h, List.take_left' (by rw [List.length_set]), List.drop_left' (by rw [List.length_set]), List.take_of_length_le (by omega)]
    intro e
    rw [List.getElem_append_left h] at hx
    exact hx ((crc_set l j h x).1 (big4_inj (crc_lt _) (crc_lt _) e))
  · rw [List.set_append_right _ _ (by omega), List.take_left' rfl, List.drop_left' rfl, List.take_of_length_le (by rw [List.length_set]; omega)]
    intro e
    rw [List.getElem_append_right (by omega)] at hx
    have hk : j - l.length < ((bigL (crcN l) 4).set (j - l.length) x).length := by rw [List.length_set]; omega
    have : ((bigL (crcN l) 4).set (j - l.length) x)[j - l.length]'hk = x := List.getElem_set_self _
    apply hx
    rw [← this]
    simp only [← e]
theorem frame_set (l : List UInt8) (j : Nat) (x : UInt8) : (frameL l).set (szN l.length + j) x = putL l.length ++ (l ++ bigL (crcN l) 4).set j x := by
  rw [frameL, List.set_append_right _ _ (by rw [putL_len]; omega), putL_len, Nat.add_sub_cancel_left]

/-- What is left behind a frame is less. -/
theorem unframe_rest {s t r : List UInt8} (hs : unframeL s = (t, r, 0)) : r.length < s.length := by
  have h1 := take_rest s
  unfold unframeL at hs
  repeat' split at hs
  all_goals first
    | (simp at hs; done)
    | (have e : r = (takeL s).2.1.drop ((takeL s).1 + 4) := by
        have := congrArg (fun p => p.2.1) hs
        exact this.symm
       rw [e, List.length_drop]
       omega)
theorem unframe_err {s t r : List UInt8} {e : Int} (hs : unframeL s = (t, r, e)) (he : e ≠ 0) : t = [] ∧ r = [] ∧ (e = 8 ∨ e = 9 ∨ e = 10) := by
  unfold unframeL at hs
  repeat' split at hs
  all_goals simp only [Prod.mk.injEq] at hs
  all_goals obtain ⟨rfl, rfl, rfl⟩ := hs
  all_goals simp_all
theorem unframe_payload {s t r : List UInt8} (hs : unframeL s = (t, r, 0)) : t.length + 4 + r.length ≤ s.length ∧ t.length ≤ 40000 := by
  have h1 := take_rest s
  unfold unframeL at hs
  repeat' split at hs
  all_goals first
    | (simp at hs; done)
    | (have e : r = (takeL s).2.1.drop ((takeL s).1 + 4) := by
        have := congrArg (fun p => p.2.1) hs
        exact this.symm
       have e2 : t = (takeL s).2.1.take (takeL s).1 := by
        have := congrArg (fun p => p.1) hs
        exact this.symm
       rw [e, e2, List.length_drop, List.length_take]
       omega)

/-- The frames behind one another: their payloads, how many bytes they have, and what ended it. -/
def scanF : Nat → List UInt8 → List (List UInt8) × Nat × Int
  | 0, _ => ([], 0, 0)
  | f + 1, s => if s = [] then ([], 0, 0) else if (unframeL s).2.2 = 0 then
      ((unframeL s).1 :: (scanF f (unframeL s).2.1).1, s.length - (unframeL s).2.1.length + (scanF f (unframeL s).2.1).2.1, (scanF f (unframeL s).2.1).2.2) else ([], 0, (unframeL s).2.2)
def scanL (s : List UInt8) : List (List UInt8) × Nat × Int := scanF s.length s
theorem scan_fuel : ∀ (f g : Nat) (s : List UInt8), s.length ≤ f → s.length ≤ g → scanF f s = scanF g s
  | 0, 0, _, _, _ => rfl
  | 0, g + 1, s, h, _ => by
    obtain rfl : s = [] := List.eq_nil_of_length_eq_zero (by omega)
    rfl
  | f + 1, 0, s, _, h => by
    obtain rfl : s = [] := List.eq_nil_of_length_eq_zero (by omega)
    rfl
  | f + 1, g + 1, s, h, h' => by
    rw [scanF, scanF]
    by_cases h0 : (unframeL s).2.2 = 0
    · have := unframe_rest (s := s) (t := (unframeL s).1) (r := (unframeL s).2.1) (by rw [← h0])
      rw [scan_fuel f g (unframeL s).2.1 (by omega) (by omega)]
    · rw [if_neg h0, if_neg h0]
theorem scan_nil : scanL [] = ([], 0, 0) := rfl
theorem scan_next {s t r : List UInt8} (h : unframeL s = (t, r, 0)) : scanL s = (t :: (scanL r).1, s.length - r.length + (scanL r).2.1, (scanL r).2.2) := by
  have hr := unframe_rest h
  have hs : s ≠ [] := by rintro rfl; simp at hr
  rw [scanL, show s.length = (s.length - 1) + 1 by omega, scanF, if_neg hs, h, if_pos rfl]
  simp only []
  rw [scan_fuel (s.length - 1) r.length r (by omega) (by omega), show s.length - 1 + 1 = s.length by omega]
  rfl
theorem scan_end {s t r : List UInt8} {e : Int} (hs : s ≠ []) (h : unframeL s = (t, r, e)) (he : e ≠ 0) : scanL s = ([], 0, e) := by
  have : 0 < s.length := List.length_pos_iff.2 hs
  rw [scanL, show s.length = (s.length - 1) + 1 by omega, scanF, if_neg hs, h, if_neg he]
/-- Frames of some texts, and whatever is behind them. -/
def framesL (l : List (List UInt8)) : List UInt8 := l.flatMap frameL
theorem scan_frames : ∀ (l : List (List UInt8)) (s : List UInt8), (∀ t ∈ l, t.length ≤ 40000) → scanL (framesL l ++ s) = (l ++ (scanL s).1, (framesL l).length + (scanL s).2.1, (scanL s).2.2)
  | [], s, _ => by simp [framesL]
  | t :: l, s, h => by
    have e : framesL (t :: l) ++ s = frameL t ++ (framesL l ++ s) := by simp [framesL]
    have e2 : (framesL (t :: l)).length = (frameL t).length + (framesL l).length := by simp [framesL]
    rw [e, scan_next (unframe_frame t _ (h t (List.mem_cons_self ..))), scan_frames l s (fun t ht => h t (List.mem_cons_of_mem _ ht)), e2]
    simp only [List.length_append, List.cons_append, Prod.mk.injEq, true_and, and_true]
    omega
theorem scan_size : ∀ (n : Nat) (s : List UInt8), s.length ≤ n → (scanL s).2.1 ≤ s.length ∧ (scanL s).1.length ≤ s.length
  | 0, s, h => by
    obtain rfl : s = [] := List.eq_nil_of_length_eq_zero (by omega)
    simp [scan_nil]
  | n + 1, s, h => by
    by_cases h0 : s = []
    · subst h0; simp [scan_nil]
    by_cases he : (unframeL s).2.2 = 0
    · have hu : unframeL s = ((unframeL s).1, (unframeL s).2.1, 0) := by rw [← he]
      have := unframe_rest hu
      have ih := scan_size n (unframeL s).2.1 (by omega)
      rw [scan_next hu]
      simp only [List.length_cons]
      omega
    · rw [scan_end (t := (unframeL s).1) (r := (unframeL s).2.1) h0 rfl he]; simp
end Go.Proofs.Ytjjfkbikodccbaa
