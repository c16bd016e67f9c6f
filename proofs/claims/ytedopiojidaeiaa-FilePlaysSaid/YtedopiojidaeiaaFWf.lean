/- What stays true of files whatever is done. -/
import Derived.Test.YtedopiojidaeiaaFCrash
set_option linter.unusedSimpArgs false
set_option linter.unusedVariables false
namespace Go.Proofs.Ytedopiojidaeiaa
open Go.RowKit Go.Deep Go.Maps

structure RS.ok (M : RS) : Prop where
  srt : Srt M.L
  len : M.L.length ≤ 60
  room : 0 ≤ M.room ∧ M.room ≤ 10000000
  fits : (bytesN M.L : Int) ≤ M.room
  turns : -1 ≤ M.turns ∧ M.turns ≤ 9223372036854775807
  each : ∀ x ∈ M.L, nameB x.name = true ∧ x.safe ≤ x.bytes.length
theorem new_ok (room : Int) (h : 0 ≤ room ∧ room ≤ 10000000) : (newS room).ok :=
  ⟨List.Pairwise.nil, by simp [newS], h, by simp [newS, bytesN]; exact h.1, by simp [newS], fun x hx => by cases hx⟩
theorem RS.ok.files {M : RS} (h : M.ok) {L' : List FI} (h1 : Srt L') (h2 : L'.length ≤ 60) (h3 : (bytesN L' : Int) ≤ M.room) (h4 : ∀ x ∈ L', nameB x.name = true ∧ x.safe ≤ x.bytes.length) : RS.ok { M with L := L' } := ⟨h1, h2, h.room, h3, h.turns, h4⟩
theorem turn_ok {M : RS} (h : M.ok) : (turnS M).2.ok := by
  obtain ⟨h1, h2, h3, h4, h5, h6⟩ := h
  unfold turnS
  split
  · exact ⟨h1, h2, h3, h4, h5, h6⟩
  · split
    · exact ⟨h1, h2, h3, h4, by simp only []; omega, h6⟩
    · exact ⟨h1, h2, h3, h4, h5, h6⟩
theorem turn_room (M : RS) : (turnS M).2.room = M.room := by unfold turnS; split; rfl; split <;> rfl
theorem chg_ok {M : RS} (h : M.ok) {L' : List FI} (h1 : Srt L') (h2 : L'.length ≤ 60) (h3 : (bytesN L' : Int) ≤ M.room) (h4 : ∀ x ∈ L', nameB x.name = true ∧ x.safe ≤ x.bytes.length) : (chgS M L').2.ok := by
  unfold chgS
  split
  · exact turn_ok h
  · exact (turn_ok h).files h1 h2 (by rw [turn_room]; exact h3) h4
theorem name_len {nm : List UInt8} (h : nameB nm = true) : nm.length ≤ 24 := by
  unfold nameB at h
  simp at h
  exact h.2.2
theorem ins_old_ok {M : RS} (h : M.ok) {nm : List UInt8} {y x : FI} (hy : getF nm M.L = some y) (hn : x.name = y.name) (hb : x.bytes.length ≤ y.bytes.length) (hs : x.safe ≤ x.bytes.length) : (chgS M (insS x M.L)).2.ok := by
  have hg := getF_of_mem h.srt (getF_mem hy)
  refine chg_ok h (srt_ins x h.srt) ?_ ?_ ?_
  · rw [len_ins x h.srt, hn, hg]; exact h.len
  · have := bytes_ins x h.srt
    rw [hn, hg] at this
    simp only [szO] at this
    have := h.fits
    omega
  · intro z hz
    rcases mem_ins hz with rfl | hz
    · exact ⟨by rw [hn]; exact (h.each y (getF_mem hy)).1, hs⟩
    · exact h.each z hz
theorem adm_zero {nm : List UInt8} {k : Nat} {M : RS} (h : admS nm k M = 0) : M.gone = false ∧ nameB nm = true ∧ ¬ ((getF nm M.L).isSome = false ∧ 60 ≤ M.L.length) ∧ ¬ M.room < (bytesN M.L : Int) + k := by
  unfold admS at h
  split at h
  · cases h
  · rename_i hg
    split at h
    · cases h
    · rename_i hn
      split at h
      · cases h
      · rename_i hm
        split at h
        · cases h
        · rename_i hf
          exact ⟨by simpa using hg, by simpa using hn, hm, hf⟩
theorem addF_len (nm s : List UInt8) (L : List FI) : (addF nm s L).bytes.length = szO (getF nm L) + s.length := by
  unfold addF szO
  cases getF nm L with
  | none => simp
  | some y => simp
theorem addF_safe {nm s : List UInt8} {L : List FI} (h : ∀ x ∈ L, nameB x.name = true ∧ x.safe ≤ x.bytes.length) : (addF nm s L).safe ≤ (addF nm s L).bytes.length := by
  unfold addF
  cases hy : getF nm L with
  | none => simp
  | some y => have := (h y (getF_mem hy)).2; simp; omega
theorem add_ok {M : RS} (h : M.ok) (nm s : List UInt8) : (addS nm s M).2.ok := by
  unfold addS
  split
  · rename_i ha
    obtain ⟨h1, h2, h3, h4⟩ := adm_zero ha
    refine chg_ok h (srt_ins _ h.srt) ?_ ?_ ?_
    · rw [len_ins _ h.srt, addF_name]
      split
      · exact h.len
      · rename_i hc
        rw [Bool.not_eq_true] at hc
        have : ¬ 60 ≤ M.L.length := fun h60 => h3 ⟨hc, h60⟩
        omega
    · have := bytes_ins (addF nm s M.L) h.srt
      rw [addF_name, addF_len] at this
      omega
    · intro z hz
      rcases mem_ins hz with rfl | hz
      · exact ⟨by rw [addF_name]; exact h2, addF_safe h.each⟩
      · exact h.each z hz
  · exact h
theorem on_ok {M : RS} (h : M.ok) (nm : List UInt8) {k : FI → Int × RS} (hk : ∀ y, getF nm M.L = some y → (k y).2.ok) : (onS nm M k).2.ok := by
  unfold onS
  split
  · exact h
  · cases hy : getF nm M.L with
    | none => exact h
    | some y => exact hk y hy
theorem flush_ok {M : RS} (h : M.ok) (nm : List UInt8) : (flushS nm M).2.ok := on_ok h nm fun y hy => ins_old_ok h hy rfl (Nat.le_refl _) (Nat.le_refl _)
theorem cut_ok {M : RS} (h : M.ok) (nm : List UInt8) (n : Int) : (cutS nm n M).2.ok := on_ok h nm fun y hy => by
  split
  · exact h
  · rename_i hn
    refine ins_old_ok h hy rfl (by simp; omega) ?_
    have : (y.bytes.take n.toNat).length = n.toNat := by rw [List.length_take]; omega
    show min y.safe n.toNat ≤ (y.bytes.take n.toNat).length
    omega
theorem out_files {M : RS} (h : M.ok) (nm : List UInt8) : Srt (outS nm M.L) ∧ (outS nm M.L).length ≤ M.L.length ∧ bytesN (outS nm M.L) ≤ bytesN M.L ∧ ∀ x ∈ outS nm M.L, nameB x.name = true ∧ x.safe ≤ x.bytes.length := by
  refine ⟨srt_out nm h.srt, ?_, ?_, fun x hx => h.each x (mem_out hx)⟩
  · rw [len_out nm h.srt]; split <;> omega
  · have := bytes_out nm h.srt; omega
theorem drop_ok {M : RS} (h : M.ok) (nm : List UInt8) : (dropS nm M).2.ok := on_ok h nm fun y hy => by
  obtain ⟨h1, h2, h3, h4⟩ := out_files h nm
  exact chg_ok h h1 (Nat.le_trans h2 h.len) (by have := h.fits; omega) h4
theorem move_ok {M : RS} (h : M.ok) (nm to : List UInt8) : (moveS nm to M).2.ok := on_ok h nm fun y hy => by
  split
  · exact h
  · rename_i hn
    obtain ⟨h1, h2, h3, h4⟩ := out_files h nm
    have hb := bytes_out nm h.srt
    rw [hy] at hb
    simp only [szO] at hb
    have hl := len_out nm h.srt
    rw [hy] at hl
    simp only [Option.isSome_some, if_true] at hl
    have hpos : 0 < M.L.length := List.length_pos_of_mem (getF_mem hy)
    refine chg_ok h (srt_ins _ h1) ?_ ?_ ?_
    · have hq := len_ins { y with name := to } h1
      have := h.len
      split at hq <;> omega
    · have := bytes_ins { y with name := to } h1
      have := h.fits
      simp only [] at *
      omega
    · intro z hz
      rcases mem_ins hz with rfl | hz
      · exact ⟨by simpa using hn, (h.each y (getF_mem hy)).2⟩
      · exact h4 z hz
theorem lim_ok {M : RS} (h : M.ok) (t : Int) (ht : in64 t) : (limS t M).ok := by
  obtain ⟨h1, h2, h3, h4, h5, h6⟩ := h
  obtain ⟨t1, t2⟩ := ht
  exact ⟨h1, h2, h3, h4, by unfold limS; simp only []; split <;> omega, h6⟩
theorem left_le (l : Int) (k : Nat) : leftN l k ≤ k := by unfold leftN; omega
theorem crX_len (l s : Int) (x : FI) (h : x.safe ≤ x.bytes.length) : (crX l s x).bytes.length = x.safe + leftN l (x.bytes.length - x.safe) := by
  have := left_le l (x.bytes.length - x.safe)
  unfold crX
  simp only []
  split
  · rw [List.length_take]; omega
  · rw [List.length_set, List.length_take]; omega
theorem crash_names (lf sp : List Int) : ∀ (L : List FI) (k : Nat), (crashF lf sp k L).map (·.name) = L.map (·.name)
  | [], _ => rfl
  | x :: L, k => by
    rw [crashF]
    split
    · rw [List.map_cons, crash_names, List.map_cons]
    · rw [List.map_cons, crash_names, List.map_cons]; rfl
theorem crash_bytes (lf sp : List Int) : ∀ (L : List FI) (k : Nat), (∀ x ∈ L, x.safe ≤ x.bytes.length) → bytesN (crashF lf sp k L) ≤ bytesN L
  | [], _, _ => Nat.le_refl _
  | x :: L, k, h => by
    rw [crashF]
    split
    · have := crash_bytes lf sp L k (fun y hy => h y (by simp [hy]))
      simp only [bytesN]; omega
    · have := crash_bytes lf sp L (k + 1) (fun y hy => h y (by simp [hy]))
      have h1 := crX_len (atN lf k) (atN sp k) x (h x (by simp))
      have h2 := left_le (atN lf k) (x.bytes.length - x.safe)
      have h3 := h x (by simp)
      simp only [bytesN]; omega
theorem crash_each (lf sp : List Int) : ∀ (L : List FI) (k : Nat), (∀ x ∈ L, nameB x.name = true ∧ x.safe ≤ x.bytes.length) → ∀ x ∈ crashF lf sp k L, nameB x.name = true ∧ x.safe ≤ x.bytes.length
  | [], _, _, x, hx => by cases hx
  | y :: L, k, h, x, hx => by
    rw [crashF] at hx
    split at hx
    · rcases List.mem_cons.1 hx with rfl | hx
      · exact h x (by simp)
      · exact crash_each lf sp L k (fun z hz => h z (by simp [hz])) x hx
    · rcases List.mem_cons.1 hx with rfl | hx
      · exact ⟨(h y (by simp)).1, by rw [crX_len _ _ _ (h y (by simp)).2]; exact Nat.le_refl _⟩
      · exact crash_each lf sp L (k + 1) (fun z hz => h z (by simp [hz])) x hx
theorem crash_ok {M : RS} (h : M.ok) (lf sp : List Int) : (crashS lf sp M).ok := by
  have hn := crash_names lf sp M.L 0
  refine ⟨srt_names hn.symm h.srt, ?_, h.room, ?_, by simp [crashS, onM], crash_each lf sp M.L 0 h.each⟩
  · have := congrArg List.length hn
    simp only [List.length_map] at this
    show (crashF lf sp 0 M.L).length ≤ 60
    rw [this]; exact h.len
  · have := crash_bytes lf sp M.L 0 (fun x hx => (h.each x hx).2)
    have := h.fits
    show ((bytesN (crashF lf sp 0 M.L) : Nat) : Int) ≤ M.room
    omega
/-- Which of n things the raw number c speaks of. -/
def pickN (c : Int) (n : Nat) : Nat := if c < 0 then (-(c + 1)).toNat % n else c.toNat % n
theorem pickN_lt (c : Int) {n : Nat} (h : 0 < n) : pickN c n < n := by unfold pickN; split <;> exact Nat.mod_lt _ h
/-- What an act does. -/
def doS (a : AV) (M : RS) : (List UInt8 × Int) × RS :=
  if pickN a.op 10 = 3 then (([], (flushS a.name.data.toList M).1), (flushS a.name.data.toList M).2)
  else if pickN a.op 10 = 4 then (([], (cutS a.name.data.toList a.n M).1), (cutS a.name.data.toList a.n M).2)
  else if pickN a.op 10 = 5 then (([], (moveS a.name.data.toList a.to.data.toList M).1), (moveS a.name.data.toList a.to.data.toList M).2)
  else if pickN a.op 10 = 6 then (([], (dropS a.name.data.toList M).1), (dropS a.name.data.toList M).2)
  else if pickN a.op 10 = 7 then (getS a.name.data.toList M, M)
  else if pickN a.op 10 = 8 then (([], 0), limS a.n M)
  else if pickN a.op 10 = 9 then (([], 0), crashS a.left.L a.spoil.L M)
  else (([], (addS a.name.data.toList a.data.data.toList M).1), (addS a.name.data.toList a.data.data.toList M).2)
theorem do_ok {M : RS} (h : M.ok) {w : World} {a : AV} (ha : AV.ok w a) : (doS a M).2.ok := by
  unfold doS
  repeat (first | (split; · first | exact flush_ok h _ | exact cut_ok h _ _ | exact move_ok h _ _ | exact drop_ok h _ | exact h | exact lim_ok h _ ha.n | exact crash_ok h _ _) | exact add_ok h _ _)
/-- Is an act not too long? -/
def AV.small (a : AV) : Bool := decide (a.data.size ≤ 500) && decide (a.name.size ≤ 100) && decide (a.to.size ≤ 100) && decide (a.left.L.length ≤ 80) && decide (a.spoil.L.length ≤ 80)
def smallB (L : List AV) : Bool := decide (L.length ≤ 150) && L.all AV.small
/-- Files behind acts. -/
def madeS (room : Int) (L : List AV) : RS := L.foldl (fun M a => (doS a M).2) (newS room)
end Go.Proofs.Ytedopiojidaeiaa
