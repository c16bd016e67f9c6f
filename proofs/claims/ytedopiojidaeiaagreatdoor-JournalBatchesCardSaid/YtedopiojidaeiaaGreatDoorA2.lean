/- JMath, laid together. -/
import Derived.Test.YtedopiojidaeiaaGreatDoorA1
/- Mathematics of layer 7: a batch's encoding (encL), what bytes are read as a batch (unbL), what frames of batches some bytes begin with (readL); no program. -/
set_option linter.unusedSimpArgs false
set_option linter.unusedVariables false
namespace Go.Proofs.YtedopiojidaeiaaGreatDoor

def oneL (t : List UInt8) : List UInt8 := putL t.length ++ t
def encL (l : List (List UInt8)) : List UInt8 := putL l.length ++ l.flatMap oneL
def batchS (l : List (List UInt8)) : List UInt8 × Int := if 50 < l.length then ([], 11) else if 40000 < (encL l).length then ([], 10) else (encL l, 0)
/-- k strings are read off the bytes r. -/
def unbF : Nat → List UInt8 → List (List UInt8) → Option (List (List UInt8) × List UInt8)
  | 0, r, acc => some (acc, r)
  | k + 1, r, acc => if (takeL r).2.2 = true ∧ (takeL r).1 ≤ (takeL r).2.1.length then unbF k ((takeL r).2.1.drop (takeL r).1) (acc ++ [(takeL r).2.1.take (takeL r).1]) else none
def unbL (s : List UInt8) : Option (List (List UInt8)) :=
  if (takeL s).2.2 = true ∧ (takeL s).1 ≤ 50 then
    match unbF (takeL s).1 (takeL s).2.1 [] with
    | some (l, []) => some l
    | _ => none
  else none
def unbS (s : List UInt8) : List (List UInt8) × Int := match unbL s with | some l => (l, 0) | none => ([], 8)

theorem one_len (t : List UInt8) : (oneL t).length = szN t.length + t.length := by rw [oneL, List.length_append, putL_len]
theorem enc_len (l : List (List UInt8)) : (encL l).length = szN l.length + (l.flatMap oneL).length := by rw [encL, List.length_append, putL_len]
theorem flat_take (l : List (List UInt8)) (k : Nat) : ((l.take k).flatMap oneL).length ≤ (l.flatMap oneL).length := by
  conv => rhs; rw [← List.take_append_drop k l]
  rw [List.flatMap_append, List.length_append]; omega
theorem flat_snoc (l : List (List UInt8)) (k : Nat) (h : k < l.length) : (l.take (k + 1)).flatMap oneL = (l.take k).flatMap oneL ++ oneL l[k] := by
  rw [List.take_add_one, List.getElem?_eq_getElem h, List.flatMap_append]; simp
theorem mem_len {t : List UInt8} {l : List (List UInt8)} (h : t ∈ l) : t.length ≤ (l.flatMap oneL).length := by
  induction l with
  | nil => cases h
  | cons x l ih =>
    rw [List.flatMap_cons, List.length_append, one_len]
    rcases List.mem_cons.1 h with rfl | h
    · omega
    · have := ih h; omega
theorem unbF_enc : ∀ (l acc : List (List UInt8)) (s : List UInt8), (∀ t ∈ l, t.length < 18446744073709551616) → unbF l.length (l.flatMap oneL ++ s) acc = some (acc ++ l, s)
  | [], acc, s, _ => by simp [unbF]
  | t :: l, acc, s, h => by
    rw [List.length_cons, List.flatMap_cons, unbF, oneL, List.append_assoc, List.append_assoc, take_put _ (h t (by simp))]
    rw [if_pos ⟨rfl, by simp⟩]
    simp only [List.drop_left, List.take_left]
    rw [unbF_enc l (acc ++ [t]) s (fun u hu => h u (by simp [hu]))]
    simp
theorem unbF_back : ∀ (k : Nat) (r : List UInt8) (acc l : List (List UInt8)) (s : List UInt8), unbF k r acc = some (l, s) → ∃ m : List (List UInt8), l = acc ++ m ∧ m.length = k ∧ m.flatMap oneL ++ s = r
  | 0, r, acc, l, s, h => by
    simp only [unbF, Option.some.injEq, Prod.mk.injEq] at h
    obtain ⟨rfl, rfl⟩ := h
    exact ⟨[], by simp, rfl, by simp⟩
  | k + 1, r, acc, l, s, h => by
    rw [unbF] at h
    split at h
    · rename_i hc
      obtain ⟨m, rfl, hm, hr⟩ := unbF_back k _ _ _ _ h
      obtain ⟨n, b, hT⟩ : ∃ n b, takeL r = (n, b, true) := ⟨(takeL r).1, (takeL r).2.1, by rw [← hc.1]⟩
      rw [hT] at hr hc ⊢
      simp only at hr hc ⊢
      refine ⟨b.take n :: m, by simp, by simp [hm], ?_⟩
      have hb := take_back r n b hT
      rw [List.flatMap_cons, oneL, List.length_take, Nat.min_eq_left hc.2, List.append_assoc, List.append_assoc, hr, List.take_append_drop, hb]
    · cases h
theorem unb_enc (l : List (List UInt8)) (s : List UInt8) (hl : l.length ≤ 50) (h : ∀ t ∈ l, t.length < 18446744073709551616) : unbL (encL l ++ s) = if s = [] then some l else none := by
  unfold unbL
  rw [encL, List.append_assoc, take_put _ (by omega), if_pos ⟨rfl, hl⟩]
  simp only
  rw [unbF_enc l [] s h]
  cases s <;> simp
theorem unb_back {s : List UInt8} {l : List (List UInt8)} (h : unbL s = some l) : encL l = s ∧ l.length ≤ 50 := by
  unfold unbL at h
  split at h
  · rename_i hc
    obtain ⟨n, r, hT⟩ : ∃ n r, takeL s = (n, r, true) := ⟨(takeL s).1, (takeL s).2.1, by rw [← hc.1]⟩
    rw [hT] at h hc
    simp only at h hc
    cases hu : unbF n r [] with
    | none => rw [hu] at h; cases h
    | some p =>
      obtain ⟨l', s'⟩ := p
      rw [hu] at h
      obtain ⟨m, rfl, hm, hr⟩ := unbF_back _ _ _ _ _ hu
      cases s' with
      | cons _ _ => cases h
      | nil =>
        simp only [Option.some.injEq, List.nil_append] at h
        subst h
        refine ⟨?_, by omega⟩
        rw [encL, hm]
        rw [List.append_nil] at hr
        rw [hr, take_back s n r hT]
  · cases h
theorem enc_mem {s : List UInt8} {l : List (List UInt8)} (h : encL l = s) : ∀ t ∈ l, t.length ≤ s.length := fun t ht => by
  have := mem_len ht
  rw [← h, enc_len]; omega
/-- Cut short it is none. -/
theorem unb_cut (l : List (List UInt8)) (hl : l.length ≤ 50) (hm : (encL l).length < 18446744073709551616) (k : Nat) (hk : k < (encL l).length) : unbL ((encL l).take k) = none := by
  cases h : unbL ((encL l).take k) with
  | none => rfl
  | some l' =>
    exfalso
    obtain ⟨h1, h2⟩ := unb_back h
    have e : encL l = encL l' ++ (encL l).drop k := by rw [h1, List.take_append_drop]
    have hs : ∀ t ∈ l, t.length < 18446744073709551616 := fun t ht => Nat.lt_of_le_of_lt (enc_mem rfl t ht) hm
    have hs' : ∀ t ∈ l', t.length < 18446744073709551616 := fun t ht => Nat.lt_of_le_of_lt (enc_mem h1 t ht) (by rw [List.length_take]; omega)
    have a := unb_enc l [] hl hs
    rw [List.append_nil, if_pos rfl] at a
    have b := unb_enc l' ((encL l).drop k) h2 hs'
    rw [← e, a, if_neg (by intro h0; have := congrArg List.length h0; rw [List.length_drop, List.length_nil] at this; omega)] at b
    cases b
theorem batch_ok {l : List (List UInt8)} (h : (batchS l).2 = 0) : (batchS l).1 = encL l ∧ l.length ≤ 50 ∧ (encL l).length ≤ 40000 := by
  unfold batchS at h ⊢
  split at h
  · cases h
  · rename_i h1
    split at h
    · cases h
    · rename_i h2
      rw [if_neg h1, if_neg h2]
      exact ⟨rfl, by omega, by omega⟩
theorem batch_of {l : List (List UInt8)} (h1 : l.length ≤ 50) (h2 : (encL l).length ≤ 40000) : batchS l = (encL l, 0) := by
  unfold batchS; rw [if_neg (by omega), if_neg (by omega)]
theorem batch_len (l : List (List UInt8)) : (batchS l).1.length ≤ 40000 := by
  unfold batchS
  split
  · simp
  · split
    · simp
    · simp; omega
theorem batch_err (l : List (List UInt8)) : (batchS l).2 = 0 ∨ ((batchS l).1 = [] ∧ ((batchS l).2 = 10 ∨ (batchS l).2 = 11)) := by
  unfold batchS
  split
  · simp
  · split <;> simp

/-- The batch with whose frame bytes begin, and what is behind it. -/
def firstL (s : List UInt8) : List (List UInt8) × List UInt8 × Int :=
  if (unframeL s).2.2 = 0 then
    match unbL (unframeL s).1 with
    | some l => (l, (unframeL s).2.1, 0)
    | none => ([], [], 8)
  else ([], [], if (unframeL s).2.2 = 10 then 8 else (unframeL s).2.2)
theorem first_ok {s : List UInt8} {t r : List UInt8} {l : List (List UInt8)} (h : unframeL s = (t, r, 0)) (hu : unbL t = some l) : firstL s = (l, r, 0) := by
  unfold firstL; rw [h, if_pos rfl]; simp only [hu]
theorem first_form {s : List UInt8} {t r : List UInt8} (h : unframeL s = (t, r, 0)) (hu : unbL t = none) : firstL s = ([], [], 8) := by
  unfold firstL; rw [h, if_pos rfl]; simp only [hu]
theorem first_err {s t r : List UInt8} {e : Int} (h : unframeL s = (t, r, e)) (he : e ≠ 0) : firstL s = ([], [], if e = 10 then 8 else e) := by
  unfold firstL; rw [h, if_neg (by exact he)]
theorem first_rest {s r : List UInt8} {l : List (List UInt8)} (h : firstL s = (l, r, 0)) : ∃ t, unframeL s = (t, r, 0) ∧ unbL t = some l ∧ r.length < s.length := by
  unfold firstL at h
  split at h
  · rename_i h0
    cases hu : unbL (unframeL s).1 with
    | none => rw [hu] at h; simp at h
    | some l' =>
      rw [hu] at h
      simp only [Prod.mk.injEq] at h
      obtain ⟨rfl, rfl, -⟩ := h
      have e : unframeL s = ((unframeL s).1, (unframeL s).2.1, 0) := by rw [← h0]
      exact ⟨_, e, hu, unframe_rest e⟩
  · rename_i h0
    simp only [Prod.mk.injEq] at h
    split at h
    · omega
    · exact absurd h.2.2 h0
theorem first_fail {s : List UInt8} {l : List (List UInt8)} {r : List UInt8} {e : Int} (h : firstL s = (l, r, e)) (he : e ≠ 0) : l = [] ∧ r = [] ∧ (e = 8 ∨ e = 9) := by
  unfold firstL at h
  split at h
  · rename_i h0
    cases hu : unbL (unframeL s).1 with
    | none => rw [hu] at h; simp only [Prod.mk.injEq] at h; exact ⟨h.1.symm, h.2.1.symm, Or.inl h.2.2.symm⟩
    | some l' => rw [hu] at h; simp only [Prod.mk.injEq] at h; exact absurd h.2.2.symm he
  · rename_i h0
    simp only [Prod.mk.injEq] at h
    obtain ⟨rfl, rfl, h3⟩ := h
    refine ⟨rfl, rfl, ?_⟩
    obtain ⟨-, -, h4⟩ := unframe_err (s := s) (t := (unframeL s).1) (r := (unframeL s).2.1) (e := (unframeL s).2.2) rfl h0
    split at h3 <;> omega
/-- The batches with whose frames bytes begin, how many bytes these have, and the error of what stands behind them. -/
def readF : Nat → List UInt8 → List (List (List UInt8)) × Nat × Int
  | 0, _ => ([], 0, 0)
  | f + 1, s => if s = [] then ([], 0, 0) else if (firstL s).2.2 = 0 then
      ((firstL s).1 :: (readF f (firstL s).2.1).1, s.length - (firstL s).2.1.length + (readF f (firstL s).2.1).2.1, (readF f (firstL s).2.1).2.2)
    else ([], 0, (firstL s).2.2)
def readL (s : List UInt8) : List (List (List UInt8)) × Nat × Int := readF s.length s
theorem read_fuel : ∀ (f g : Nat) (s : List UInt8), s.length ≤ f → s.length ≤ g → readF f s = readF g s
  | 0, 0, _, _, _ => rfl
  | 0, g + 1, s, h, _ => by rw [List.length_eq_zero_iff.1 (Nat.le_zero.1 h)]; simp [readF]
  | f + 1, 0, s, _, h => by rw [List.length_eq_zero_iff.1 (Nat.le_zero.1 h)]; simp [readF]
  | f + 1, g + 1, s, hf, hg => by
    simp only [readF]
    by_cases h : s = []
    · rw [if_pos h, if_pos h]
    · rw [if_neg h, if_neg h]
      by_cases h0 : (firstL s).2.2 = 0
      · rw [if_pos h0, if_pos h0]
        have e : firstL s = ((firstL s).1, (firstL s).2.1, 0) := by rw [← h0]
        obtain ⟨t, -, -, hlt⟩ := first_rest e
        rw [read_fuel f g _ (by omega) (by omega)]
      · rw [if_neg h0, if_neg h0]
theorem read_nil : readL [] = ([], 0, 0) := rfl
theorem read_next {s r : List UInt8} {l : List (List UInt8)} (h : firstL s = (l, r, 0)) : readL s = (l :: (readL r).1, s.length - r.length + (readL r).2.1, (readL r).2.2) := by
  obtain ⟨t, -, -, hlt⟩ := first_rest h
  unfold readL
  obtain ⟨n, hn⟩ : ∃ n, s.length = n + 1 := ⟨s.length - 1, by omega⟩
  have hs : s ≠ [] := by intro e; rw [e] at hlt; simp at hlt
  rw [hn, readF, if_neg hs, h, if_pos rfl]
  simp only
  rw [read_fuel n r.length r (by omega) (Nat.le_refl _), hn]
theorem read_end {s : List UInt8} {l : List (List UInt8)} {r : List UInt8} {e : Int} (hs : s ≠ []) (h : firstL s = (l, r, e)) (he : e ≠ 0) : readL s = ([], 0, e) := by
  unfold readL
  obtain ⟨n, hn⟩ : ∃ n, s.length = n + 1 := ⟨s.length - 1, by have := List.length_pos_iff.2 hs; omega⟩
  rw [hn, readF, if_neg hs, h, if_neg he]
theorem read_size : ∀ (n : Nat) (s : List UInt8), s.length ≤ n → (readL s).2.1 ≤ s.length ∧ (readL s).1.length ≤ s.length ∧ ((readL s).2.2 = 0 → (readL s).2.1 = s.length) ∧ ((readL s).2.2 = 0 ∨ (readL s).2.2 = 8 ∨ (readL s).2.2 = 9)
  | n, s, hn => by
    by_cases hs : s = []
    · subst hs; simp [read_nil]
    obtain ⟨l, r, e, hF⟩ : ∃ l r e, firstL s = (l, r, e) := ⟨_, _, _, rfl⟩
    by_cases he : e = 0
    · subst he
      obtain ⟨t, -, -, hlt⟩ := first_rest hF
      rw [read_next hF]
      cases n with
      | zero => omega
      | succ n =>
        obtain ⟨h1, h2, h3, h4⟩ := read_size n r (by omega)
        refine ⟨by simp only; omega, by simp only [List.length_cons]; omega, fun h0 => ?_, h4⟩
        have := h3 h0
        simp only; omega
    · obtain ⟨rfl, rfl, h4⟩ := first_fail hF he
      rw [read_end hs hF he]
      refine ⟨by simp, by simp, fun h0 => absurd h0 he, Or.inr h4⟩
theorem frame_back {s t r : List UInt8} (h : unframeL s = (t, r, 0)) : frameL t ++ r = s ∧ t.length ≤ 40000 := by
  unfold unframeL at h
  split at h
  · simp at h
  · rename_i h1
    split at h
    · simp at h
    · rename_i h2
      split at h
      · simp at h
      · rename_i h3
        split at h
        · rename_i h4
          simp only [Prod.mk.injEq, and_true] at h
          obtain ⟨rfl, rfl⟩ := h
          have hT : takeL s = ((takeL s).1, (takeL s).2.1, true) := by
            have : (takeL s).2.2 = true := by simpa using h1
            rw [← this]
          have hb := take_back s _ _ hT
          refine ⟨?_, by rw [List.length_take]; omega⟩
          rw [frameL, h4, List.length_take, Nat.min_eq_left (by omega), ← List.drop_drop, List.append_assoc, List.append_assoc, List.take_append_drop, List.take_append_drop, hb]
        · simp at h
theorem frame_rest {s t r : List UInt8} (h : unframeL s = (t, r, 0)) : s.length - r.length = (frameL t).length := by
  have := congrArg List.length (frame_back h).1
  rw [List.length_append] at this; omega
/-- Of the payloads of frames, how many bytes the frames have, and what stands behind them. -/
def rdOf : List (List UInt8) → Nat → Int → List (List (List UInt8)) × Nat × Int
  | [], n, e => ([], n, if e = 10 then 8 else e)
  | t :: fr, n, e => match unbL t with
    | none => ([], 0, 8)
    | some l => (l :: (rdOf fr (n - (frameL t).length) e).1, (frameL t).length + (rdOf fr (n - (frameL t).length) e).2.1, (rdOf fr (n - (frameL t).length) e).2.2)
theorem read_scan : ∀ (n : Nat) (s : List UInt8), s.length ≤ n → readL s = rdOf (scanL s).1 (scanL s).2.1 (scanL s).2.2
  | n, s, hn => by
    by_cases hs : s = []
    · subst hs; rfl
    obtain ⟨t, r, e, hU⟩ : ∃ t r e, unframeL s = (t, r, e) := ⟨_, _, _, rfl⟩
    by_cases he : e = 0
    · subst he
      have hlt := unframe_rest hU
      rw [scan_next hU]
      simp only [rdOf]
      cases hu : unbL t with
      | none => simp only; rw [read_end hs (first_form hU hu) (by omega)]
      | some l =>
        simp only
        rw [read_next (first_ok hU hu), ← frame_rest hU]
        cases n with
        | zero => omega
        | succ n =>
          have := read_scan n r (by omega)
          have e1 : s.length - r.length + (scanL r).2.1 - (s.length - r.length) = (scanL r).2.1 := by omega
          rw [e1, ← this]
    · rw [scan_end hs hU he, read_end hs (first_err hU he) (by split <;> omega)]
      rfl
theorem read_frames : ∀ (bs : List (List (List UInt8))) (s : List UInt8), (∀ l ∈ bs, l.length ≤ 50 ∧ (encL l).length ≤ 40000) → readL (bs.flatMap (fun l => frameL (encL l)) ++ s) =
    (bs ++ (readL s).1, (bs.flatMap (fun l => frameL (encL l))).length + (readL s).2.1, (readL s).2.2)
  | [], s, _ => by simp
  | l :: bs, s, h => by
    obtain ⟨h1, h2⟩ := h l (by simp)
    rw [List.flatMap_cons, List.append_assoc]
    have hU := unframe_frame (encL l) (bs.flatMap (fun l => frameL (encL l)) ++ s) h2
    have hu : unbL (encL l) = some l := by
      have := unb_enc l [] h1 (fun t ht => Nat.lt_of_le_of_lt (enc_mem rfl t ht) (by omega))
      rwa [List.append_nil, if_pos rfl] at this
    rw [read_next (first_ok hU hu), read_frames bs s (fun m hm => h m (by simp [hm]))]
    simp only [List.cons_append, List.length_append, Prod.mk.injEq, true_and, and_true]
    omega
end Go.Proofs.YtedopiojidaeiaaGreatDoor
