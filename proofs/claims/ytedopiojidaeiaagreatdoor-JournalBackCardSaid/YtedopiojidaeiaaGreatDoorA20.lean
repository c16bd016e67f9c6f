/- FWf, FDoes, FSt, laid together. -/
import Derived.Test.YtedopiojidaeiaaGreatDoorA19
/- What stays true of files whatever is done. -/
set_option linter.unusedSimpArgs false
set_option linter.unusedVariables false
namespace Go.Proofs.YtedopiojidaeiaaGreatDoor
open Go.RowKit Go.Deep Go.Maps

structure RS.ok (M : RS) : Prop where
  srt : Srt M.L
  len : M.L.length ≤ 60
  room : 0 ≤ M.room ∧ M.room ≤ 10000000
  fits : (bytesN M.L : Int) ≤ M.room
  turns : -1 ≤ M.turns ∧ M.turns ≤ 9223372036854775807
  each : ∀ x ∈ M.L, nameB x.name = true ∧ x.safe ≤ x.bytes.length
theorem new_ok (room : Int) (h : 0 ≤ room ∧ room ≤ 10000000) : (newS room).ok :=
  ⟨List.Pairwise.nil, by simp [newS], h, by simp [newS, bytesN]; exact h.1, by simp [newS], fun x hx => by cases hx⟩
theorem RS.ok.files {M : RS} (h : M.ok) {L' : List FI} (h1 : Srt L') (h2 : L'.length ≤ 60) (h3 : (bytesN L' : Int) ≤ M.room) (h4 : ∀ x ∈ L', nameB x.name = true ∧ x.safe ≤ x.bytes.length) : RS.ok { M with L := L' } := ⟨h1, h2, h.room, h3, h.turns, h4⟩
theorem turn_ok {M : RS} (h : M.ok) : (turnS M).2.ok := by
  obtain ⟨h1, h2, h3, h4, h5, h6⟩ := h
  unfold turnS
  split
  · exact ⟨h1, h2, h3, h4, h5, h6⟩
  · split
    · exact ⟨h1, h2, h3, h4, by simp only []; omega, h6⟩
    · exact ⟨h1, h2, h3, h4, h5, h6⟩
theorem turn_room (M : RS) : (turnS M).2.room = M.room := by unfold turnS; split; rfl; split <;> rfl
theorem chg_ok {M : RS} (h : M.ok) {L' : List FI} (h1 : Srt L') (h2 : L'.length ≤ 60) (h3 : (bytesN L' : Int) ≤ M.room) (h4 : ∀ x ∈ L', nameB x.name = true ∧ x.safe ≤ x.bytes.length) : (chgS M L').2.ok := by
  unfold chgS
  split
  · exact turn_ok h
  · exact (turn_ok h).files h1 h2 (by rw [turn_room]; exact h3) h4
theorem name_len {nm : List UInt8} (h : nameB nm = true) : nm.length ≤ 24 := by
  unfold nameB at h
  simp at h
  exact h.2.2
theorem ins_old_ok {M : RS} (h : M.ok) {nm : List UInt8} {y x : FI} (hy : getF nm M.L = some y) (hn : x.name = y.name) (hb : x.bytes.length ≤ y.bytes.length) (hs : x.safe ≤ x.bytes.length) : (chgS M (insS x M.L)).2.ok := by
  have hg := getF_of_mem h.srt (getF_mem hy)
  refine chg_ok h (srt_ins x h.srt) ?_ ?_ ?_
  · rw [len_ins x h.srt, hn, hg]; exact h.len
  · have := bytes_ins x h.srt
    rw [hn, hg] at this
    simp only [szO] at this
    have := h.fits
    omega
  · intro z hz
    rcases mem_ins hz with rfl | hz
    · exact ⟨by rw [hn]; exact (h.each y (getF_mem hy)).1, hs⟩
    · exact h.each z hz
theorem adm_zero {nm : List UInt8} {k : Nat} {M : RS} (h : admS nm k M = 0) : M.gone = false ∧ nameB nm = true ∧ ¬ ((getF nm M.L).isSome = false ∧ 60 ≤ M.L.length) ∧ ¬ M.room < (bytesN M.L : Int) + k := by
  unfold admS at h
  split at h
  · cases h
  · rename_i hg
    split at h
    · cases h
    · rename_i hn
      split at h
      · cases h
      · rename_i hm
        split at h
        · cases h
        · rename_i hf
          exact ⟨by simpa using hg, by simpa using hn, hm, hf⟩
theorem addF_len (nm s : List UInt8) (L : List FI) : (addF nm s L).bytes.length = szO (getF nm L) + s.length := by
  unfold addF szO
  cases getF nm L with
  | none => simp
  | some y => simp
theorem addF_safe {nm s : List UInt8} {L : List FI} (h : ∀ x ∈ L, nameB x.name = true ∧ x.safe ≤ x.bytes.length) : (addF nm s L).safe ≤ (addF nm s L).bytes.length := by
  unfold addF
  cases hy : getF nm L with
  | none => simp
  | some y => have := (h y (getF_mem hy)).2; simp; omega
theorem add_ok {M : RS} (h : M.ok) (nm s : List UInt8) : (addS nm s M).2.ok := by
  unfold addS
  split
  · rename_i ha
    obtain ⟨h1, h2, h3, h4⟩ := adm_zero ha
    refine chg_ok h (srt_ins _ h.srt) ?_ ?_ ?_
    · rw [len_ins _ h.srt, addF_name]
      split
      · exact h.len
      · rename_i hc
        rw [Bool.not_eq_true] at hc
        have : ¬ 60 ≤ M.L.length := fun h60 => h3 ⟨hc, h60⟩
        omega
    · have := bytes_ins (addF nm s M.L) h.srt
      rw [addF_name, addF_len] at this
      omega
    · intro z hz
      rcases mem_ins hz with rfl | hz
      · exact ⟨by rw [addF_name]; exact h2, addF_safe h.each⟩
      · exact h.each z hz
  · exact h
theorem on_ok {M : RS} (h : M.ok) (nm : List UInt8) {k : FI → Int × RS} (hk : ∀ y, getF nm M.L = some y → (k y).2.ok) : (onS nm M k).2.ok := by
  unfold onS
  split
  · exact h
  · cases hy : getF nm M.L with
    | none => exact h
    | some y => exact hk y hy
theorem flush_ok {M : RS} (h : M.ok) (nm : List UInt8) : (flushS nm M).2.ok := on_ok h nm fun y hy => ins_old_ok h hy rfl (Nat.le_refl _) (Nat.le_refl _)
theorem cut_ok {M : RS} (h : M.ok) (nm : List UInt8) (n : Int) : (cutS nm n M).2.ok := on_ok h nm fun y hy => by
  split
  · exact h
  · rename_i hn
    refine ins_old_ok h hy rfl (by simp; omega) ?_
    have : (y.bytes.take n.toNat).length = n.toNat := by rw [List.length_take]; omega
    show min y.safe n.toNat ≤ (y.bytes.take n.toNat).length
    omega
theorem out_files {M : RS} (h : M.ok) (nm : List UInt8) : Srt (outS nm M.L) ∧ (outS nm M.L).length ≤ M.L.length ∧ bytesN (outS nm M.L) ≤ bytesN M.L ∧ ∀ x ∈ outS nm M.L, nameB x.name = true ∧ x.safe ≤ x.bytes.length := by
  refine ⟨srt_out nm h.srt, ?_, ?_, fun x hx => h.each x (mem_out hx)⟩
  · rw [len_out nm h.srt]; split <;> omega
  · have := bytes_out nm h.srt; omega
theorem drop_ok {M : RS} (h : M.ok) (nm : List UInt8) : (dropS nm M).2.ok := on_ok h nm fun y hy => by
  obtain ⟨h1, h2, h3, h4⟩ := out_files h nm
  exact chg_ok h h1 (Nat.le_trans h2 h.len) (by have := h.fits; omega) h4
theorem move_ok {M : RS} (h : M.ok) (nm to : List UInt8) : (moveS nm to M).2.ok := on_ok h nm fun y hy => by
  split
  · exact h
  · rename_i hn
    obtain ⟨h1, h2, h3, h4⟩ := out_files h nm
    have hb := bytes_out nm h.srt
    rw [hy] at hb
    simp only [szO] at hb
    have hl := len_out nm h.srt
    rw [hy] at hl
    simp only [Option.isSome_some, if_true] at hl
    have hpos : 0 < M.L.length := List.length_pos_of_mem (getF_mem hy)
    refine chg_ok h (srt_ins _ h1) ?_ ?_ ?_
    · have hq := len_ins { y with name := to } h1
      have := h.len
      split at hq <;> omega
    · have := bytes_ins { y with name := to } h1
      have := h.fits
      simp only [] at *
      omega
    · intro z hz
      rcases mem_ins hz with rfl | hz
      · exact ⟨by simpa using hn, (h.each y (getF_mem hy)).2⟩
      · exact h4 z hz
theorem lim_ok {M : RS} (h : M.ok) (t : Int) (ht : in64 t) : (limS t M).ok := by
  obtain ⟨h1, h2, h3, h4, h5, h6⟩ := h
  obtain ⟨t1, t2⟩ := ht
  exact ⟨h1, h2, h3, h4, by unfold limS; simp only []; split <;> omega, h6⟩
theorem left_le (l : Int) (k : Nat) : leftN l k ≤ k := by unfold leftN; omega
theorem crX_len (l s : Int) (x : FI) (h : x.safe ≤ x.bytes.length) : (crX l s x).bytes.length = x.safe + leftN l (x.bytes.length - x.safe) := by
  have := left_le l (x.bytes.length - x.safe)
  unfold crX
  simp only []
  split
  · rw [List.length_take]; omega
  · rw [List.length_set, List.length_take]; omega
theorem crash_names (lf sp : List Int) : ∀ (L : List FI) (k : Nat), (crashF lf sp k L).map (·.name) = L.map (·.name)
  | [], _ => rfl
  | x :: L, k => by
    rw [crashF]
    split
    · rw [List.map_cons, crash_names, List.map_cons]
    · rw [List.map_cons, crash_names, List.map_cons]; rfl
theorem crash_bytes (lf sp : List Int) : ∀ (L : List FI) (k : Nat), (∀ x ∈ L, x.safe ≤ x.bytes.length) → bytesN (crashF lf sp k L) ≤ bytesN L
  | [], _, _ => Nat.le_refl _
  | x :: L, k, h => by
    rw [crashF]
    split
    · have := crash_bytes lf sp L k (fun y hy => h y (by simp [hy]))
      simp only [bytesN]; omega
    · have := crash_bytes lf sp L (k + 1) (fun y hy => h y (by simp [hy]))
      have h1 := crX_len (atN lf k) (atN sp k) x (h x (by simp))
      have h2 := left_le (atN lf k) (x.bytes.length - x.safe)
      have h3 := h x (by simp)
      simp only [bytesN]; omega
theorem crash_each (lf sp : List Int) : ∀ (L : List FI) (k : Nat), (∀ x ∈ L, nameB x.name = true ∧ x.safe ≤ x.bytes.length) → ∀ x ∈ crashF lf sp k L, nameB x.name = true ∧ x.safe ≤ x.bytes.length
  | [], _, _, x, hx => by cases hx
  | y :: L, k, h, x, hx => by
    rw [crashF] at hx
    split at hx
    · rcases List.mem_cons.1 hx with rfl | hx
      · exact h x (by simp)
      · exact crash_each lf sp L k (fun z hz => h z (by simp [hz])) x hx
    · rcases List.mem_cons.1 hx with rfl | hx
      · exact ⟨(h y (by simp)).1, by rw [crX_len _ _ _ (h y (by simp)).2]; exact Nat.le_refl _⟩
      · exact crash_each lf sp L (k + 1) (fun z hz => h z (by simp [hz])) x hx
theorem crash_ok {M : RS} (h : M.ok) (lf sp : List Int) : (crashS lf sp M).ok := by
  have hn := crash_names lf sp M.L 0
  refine ⟨srt_names hn.symm h.srt, ?_, h.room, ?_, by simp [crashS, onM], crash_each lf sp M.L 0 h.each⟩
  · have := congrArg List.length hn
    simp only [List.length_map] at this
    show (crashF lf sp 0 M.L).length ≤ 60
    rw [this]; exact h.len
  · have := crash_bytes lf sp M.L 0 (fun x hx => (h.each x hx).2)
    have := h.fits
    show ((bytesN (crashF lf sp 0 M.L) : Nat) : Int) ≤ M.room
    omega
/-- Which of n things the raw number c speaks of. -/
def pickN (c : Int) (n : Nat) : Nat := if c < 0 then (-(c + 1)).toNat % n else c.toNat % n
theorem pickN_lt (c : Int) {n : Nat} (h : 0 < n) : pickN c n < n := by unfold pickN; split <;> exact Nat.mod_lt _ h
/-- What an act does. -/
def doS (a : AV) (M : RS) : (List UInt8 × Int) × RS :=
  if pickN a.op 10 = 3 then (([], (flushS a.name.data.toList M).1), (flushS a.name.data.toList M).2)
  else if pickN a.op 10 = 4 then (([], (cutS a.name.data.toList a.n M).1), (cutS a.name.data.toList a.n M).2)
  else if pickN a.op 10 = 5 then (([], (moveS a.name.data.toList a.to.data.toList M).1), (moveS a.name.data.toList a.to.data.toList M).2)
  else if pickN a.op 10 = 6 then (([], (dropS a.name.data.toList M).1), (dropS a.name.data.toList M).2)
  else if pickN a.op 10 = 7 then (getS a.name.data.toList M, M)
  else if pickN a.op 10 = 8 then (([], 0), limS a.n M)
  else if pickN a.op 10 = 9 then (([], 0), crashS a.left.L a.spoil.L M)
  else (([], (addS a.name.data.toList a.data.data.toList M).1), (addS a.name.data.toList a.data.data.toList M).2)
theorem do_ok {M : RS} (h : M.ok) {w : World} {a : AV} (ha : AV.ok w a) : (doS a M).2.ok := by
  unfold doS
  repeat (first | (split; · first | exact flush_ok h _ | exact cut_ok h _ _ | exact move_ok h _ _ | exact drop_ok h _ | exact h | exact lim_ok h _ ha.n | exact crash_ok h _ _) | exact add_ok h _ _)
/-- Is an act not too long? -/
def AV.small (a : AV) : Bool := decide (a.data.size ≤ 500) && decide (a.name.size ≤ 100) && decide (a.to.size ≤ 100) && decide (a.left.L.length ≤ 80) && decide (a.spoil.L.length ≤ 80)
def smallB (L : List AV) : Bool := decide (L.length ≤ 150) && L.all AV.small
/-- Files behind acts. -/
def madeS (room : Int) (L : List AV) : RS := L.foldl (fun M a => (doS a M).2) (newS room)
end Go.Proofs.YtedopiojidaeiaaGreatDoor
/- moultlaw6's pick, small, does. -/
set_option linter.unusedSimpArgs false
set_option linter.unusedVariables false
namespace Go.Proofs.YtedopiojidaeiaaGreatDoor
open Go.RowKit Go.Deep Go.Maps

theorem act_cells {w : World} {p : Option Addr} {L : List AV} (h : ActsAt w p L) {k : Nat} (hk : k < L.length) : ∃ B O sp, p.map (fun a => a.add (k * 7)) = some ⟨B, O, sp⟩ ∧
    w.cell? ⟨B, O, sp⟩ = some (.int .i64 L[k].op) ∧ w.cell? ⟨B, O + 1, none⟩ = some (.int .i64 L[k].n) ∧ w.cell? ⟨B, O + 2, none⟩ = some (.string L[k].name) ∧ w.cell? ⟨B, O + 3, none⟩ = some (.string L[k].to) ∧
    w.cell? ⟨B, O + 4, none⟩ = some (.string L[k].data) ∧ w.cell? ⟨B, O + 5, none⟩ = some L[k].left.val ∧ w.cell? ⟨B, O + 6, none⟩ = some L[k].spoil.val ∧ AV.ok w L[k] := by
  obtain ⟨B, O, sp, hp, hc, ho⟩ := h k hk
  refine ⟨B, O, sp, hp, ?_, ?_, ?_, ?_, ?_, ?_, ?_, ho⟩
  · simpa [Addr.add] using hc 0 _ rfl
  · simpa [Addr.add] using hc 1 _ rfl
  · simpa [Addr.add] using hc 2 _ rfl
  · simpa [Addr.add] using hc 3 _ rfl
  · simpa [Addr.add] using hc 4 _ rfl
  · simpa [Addr.add] using hc 5 _ rfl
  · simpa [Addr.add] using hc 6 _ rfl
def SmRel (L : List AV) (i : Value) : Prop := ∃ k : Nat, i = .int .i64 k ∧ k ≤ L.length ∧ (L.take k).all AV.small = true
def actV (a : AV) : Value := .agg #[.int .i64 a.op, .int .i64 a.n, .string a.name, .string a.to, .string a.data, a.left.val, a.spoil.val]
structure ArgOut (F : List Nat) (a : AV) : Prop where
  left : ∀ d, a.left.p = some d → a.left.L ≠ [] → d.block ∉ F
  spoil : ∀ d, a.spoil.p = some d → a.spoil.L ≠ [] → d.block ∉ F
theorem len_ok {x : ByteArray} {k : Nat} (h : x.size ≤ k) (hk : k ≤ 1000000) : x.size ≤ maxLen := by unfold maxLen; omega
theorem len_k {x : ByteArray} {k : Nat} (h : x.size ≤ k) (hk : k ≤ 1000000 := by omega) : x.size ≤ 1000000 := Nat.le_trans h hk
theorem each_ok {M : RS} (h : M.ok) : ∀ x ∈ M.L, x.bytes.length ≤ 1000000000 ∧ x.safe ≤ x.bytes.length ∧ x.name.length ≤ 1000 := fun x hx =>
  ⟨Nat.le_trans (bytes_mem hx) (by have := h.fits; have := h.room; omega), (h.each x hx).2, Nat.le_trans (name_len (h.each x hx).1) (by omega)⟩
theorem ProgTo.before {n₀ : Nat} {w y x : World} {b : Nat} {M : RS} {F : List Nat} (h : ProgTo n₀ y x b M F) (hb : Bel w y) : ProgTo n₀ w x b M F := by
  obtain ⟨G, h1, h2, h3⟩ := h
  exact ⟨G, h1, (Keep.of_bel hb F).trans h2 (fun x hx => Or.inl hx), fun k hk => (h3 k hk).imp id (fun h => Nat.le_trans hb.size h)⟩
theorem small_of {a : AV} (h : AV.small a = true) : a.data.size ≤ 500 ∧ a.name.size ≤ 100 ∧ a.to.size ≤ 100 ∧ a.left.L.length ≤ 80 ∧ a.spoil.L.length ≤ 80 := by
  unfold AV.small at h
  simp at h
  omega
end Go.Proofs.YtedopiojidaeiaaGreatDoor
/- One file system as a call's own: each of its calls takes it from what it is to what the chapter says. -/
set_option linter.unusedSimpArgs false
set_option linter.unusedVariables false
namespace Go.Proofs.YtedopiojidaeiaaGreatDoor
open Go.RowKit Go.Deep Go.Maps

/-- Files M lie at block b, in blocks that were laid since w₀; of what lay in w₀ nothing has turned. -/
def St (w₀ x : World) (b : Nat) (M : RS) : Prop := (∃ F, ProgAt w₀.heap.size x b M F) ∧ Bel w₀ x ∧ M.ok
section
variable {w₀ x y : World} {b : Nat} {M M' : RS} {F : List Nat}
theorem st_of_to (hP : ProgAt w₀.heap.size x b M F) (hB : Bel w₀ x) (hT : ProgTo w₀.heap.size x y b M' F) (hM : M'.ok) : St w₀ y b M' := by
  obtain ⟨G, h1, h2, h3⟩ := hT
  exact ⟨⟨G, h1⟩, ((Keep.of_bel hB F).trans h2 (fun x hx => Or.inl hx)).bel (fun k hk => (hP.within k hk).1), hM⟩
theorem St.bel (h : St w₀ x b M) (hb : Bel x y) : St w₀ y b M := by
  obtain ⟨⟨F, h1⟩, h2, h3⟩ := h
  exact ⟨⟨F, h1.bel hb⟩, h2.trans hb, h3⟩
theorem St.low (h : St w₀ x b M) : Bel w₀ x := h.2.1
theorem St.good (h : St w₀ x b M) : M.ok := h.2.2
theorem good_len (h : M.ok) : M.L.length ≤ 1000 := Nat.le_trans h.len (by omega)
theorem good_bytes (h : M.ok) : bytesN M.L ≤ 1000000000 := by have := h.fits; have := h.room; omega
theorem st_new (room : Int) (w : World) (h : 0 ≤ room ∧ room ≤ 10000000) :
    Calls Tryz.prog 22 #[.int .i64 room] w fun e w' => e = .returned (.tuple #[.pointer (some ⟨w.heap.size, 0, none⟩), .int .i64 0]) ∧ St w w' w.heap.size (newS room) :=
  (pnew_any room w h).mono fun e w' hq => ⟨hq.1, ⟨_, hq.2.1⟩, hq.2.2, new_ok room h⟩
theorem st_add (h : St w₀ x b M) (s u : ByteArray) (hs : s.size ≤ 1000000) (hu : u.size ≤ 1000000) :
    Calls Tryz.prog 24 #[.pointer (some ⟨b, 0, none⟩), .string s, .string u] x fun e y => e = .returned (.int .i64 (addS s.data.toList u.data.toList M).1) ∧ St w₀ y b (addS s.data.toList u.data.toList M).2 := by
  obtain ⟨⟨F, h1⟩, h2, h3⟩ := h
  exact (padd_any _ x b M F s u h1 hs hu h3.srt (good_len h3) (good_bytes h3) h3.room).mono fun e y hq => ⟨hq.1, st_of_to h1 h2 hq.2 (add_ok h3 _ _)⟩
theorem st_flush (h : St w₀ x b M) (s : ByteArray) (hs : s.size ≤ 1000000) :
    Calls Tryz.prog 73 #[.pointer (some ⟨b, 0, none⟩), .string s] x fun e y => e = .returned (.int .i64 (flushS s.data.toList M).1) ∧ St w₀ y b (flushS s.data.toList M).2 := by
  obtain ⟨⟨F, h1⟩, h2, h3⟩ := h
  exact (pflush_any _ x b M F s h1 (len_ok hs (by omega)) h3.srt (good_len h3)).mono fun e y hq => ⟨hq.1, st_of_to h1 h2 hq.2 (flush_ok h3 _)⟩
theorem st_drop (h : St w₀ x b M) (s : ByteArray) (hs : s.size ≤ 1000000) :
    Calls Tryz.prog 77 #[.pointer (some ⟨b, 0, none⟩), .string s] x fun e y => e = .returned (.int .i64 (dropS s.data.toList M).1) ∧ St w₀ y b (dropS s.data.toList M).2 := by
  obtain ⟨⟨F, h1⟩, h2, h3⟩ := h
  exact (pdrop_any _ x b M F s h1 (len_ok hs (by omega)) h3.srt (good_len h3)).mono fun e y hq => ⟨hq.1, st_of_to h1 h2 hq.2 (drop_ok h3 _)⟩
theorem st_get (h : St w₀ x b M) (s : ByteArray) (hs : s.size ≤ maxLen) :
    Calls Tryz.prog 49 #[.pointer (some ⟨b, 0, none⟩), .string s] x fun e y => e = .returned (.tuple #[.string ⟨(getS s.data.toList M).1.toArray⟩, .int .i64 (getS s.data.toList M).2]) ∧ St w₀ y b M ∧ Bel x y := by
  have h0 := h
  obtain ⟨⟨F, h1⟩, h2, h3⟩ := h
  exact (pget_any _ x b M F s h1 hs).mono fun e y hq => ⟨hq.1, h0.bel hq.2, hq.2⟩
theorem st_limit (h : St w₀ x b M) (t : Int) (ht : in64 t) :
    Calls Tryz.prog 28 #[.pointer (some ⟨b, 0, none⟩), .int .i64 t] x fun e y => (∃ u, e = .returned u) ∧ St w₀ y b (limS t M) := by
  obtain ⟨⟨F, h1⟩, h2, h3⟩ := h
  exact (plimit_any _ x b M F t h1 ht).mono fun e y hq => ⟨hq.1, st_of_to h1 h2 hq.2 (lim_ok h3 _ ht)⟩
theorem st_dead (h : St w₀ x b M) : Calls Tryz.prog 29 #[.pointer (some ⟨b, 0, none⟩)] x fun e y => e = .returned (.bool M.gone) ∧ St w₀ y b M ∧ Drw x y := by
  have h0 := h
  obtain ⟨⟨F, h1⟩, h2, h3⟩ := h
  exact (dead_any _ x b M F h1).mono fun e y hq => ⟨hq.1, h0.bel hq.2.bel, hq.2⟩
theorem st_used (h : St w₀ x b M) : Calls Tryz.prog 47 #[.pointer (some ⟨b, 0, none⟩)] x fun e y => e = .returned (.int .i64 (bytesN M.L : Nat)) ∧ St w₀ y b M ∧ Bel x y := by
  have h0 := h
  obtain ⟨⟨F, h1⟩, h2, h3⟩ := h
  exact (pused_any _ x b M F h1 h3.srt (good_bytes h3)).mono fun e y hq => ⟨hq.1, h0.bel hq.2, hq.2⟩
theorem st_names (h : St w₀ x b M) : Calls Tryz.prog 46 #[.pointer (some ⟨b, 0, none⟩)] x fun e y => ∃ v, e = .returned v ∧ OwnG strEl x.heap.size y v (M.L.map (·.name)) ∧ St w₀ y b M ∧ Bel x y := by
  have h0 := h
  obtain ⟨⟨F, h1⟩, h2, h3⟩ := h
  exact (pnames_any _ x b M F h1 h3.srt (good_len h3)).mono fun e y ⟨v, q1, q2, q3⟩ => ⟨v, q1, q2, h0.bel q3, q3⟩
/-- The lists lie where no file does: in what lay in w₀, or in what was laid since x. -/
theorem st_crash (h : St w₀ x b M) {z : World} (hb : Bel x z) (lf sp : SI) (hlf : SI.ok z lf) (hsp : SI.ok z sp) (nl : ∀ a, lf.p = some a → lf.L ≠ [] → a.block < w₀.heap.size ∨ x.heap.size ≤ a.block) (ns : ∀ a, sp.p = some a → sp.L ≠ [] → a.block < w₀.heap.size ∨ x.heap.size ≤ a.block) :
    Calls Tryz.prog 31 #[.pointer (some ⟨b, 0, none⟩), lf.val, sp.val] z fun e y => (∃ u, e = .returned u) ∧ St w₀ y b (crashS lf.L sp.L M) := by
  obtain ⟨⟨F, h1⟩, h2, h3⟩ := h
  have out : ∀ (s : SI), (∀ a, s.p = some a → s.L ≠ [] → a.block < w₀.heap.size ∨ x.heap.size ≤ a.block) → ∀ a, s.p = some a → s.L ≠ [] → a.block ∉ F := fun s hs a ha hne hm => by
    have hw := h1.within _ hm
    rcases hs a ha hne with h | h <;> omega
  exact (pcrash_any _ z b M F lf sp (h1.bel hb) h3.srt (good_len h3) (each_ok h3) hlf hsp (out lf nl) (out sp ns)).mono fun e y hq => ⟨hq.1, st_of_to (h1.bel hb) (h2.trans hb) hq.2 (crash_ok h3 _ _)⟩
end
theorem ints_low {w : World} {s : SI} (h : SI.ok w s) : ∀ d, s.p = some d → s.L ≠ [] → d.block < w.heap.size := by
  intro d hd hne
  obtain ⟨a, ha, hc⟩ := h.1 0 (List.length_pos_iff.2 hne)
  obtain rfl : d = a := by rw [hd] at ha; simpa using ha
  have := block_lt_of_cell hc
  rwa [add_block] at this
def nilI : SI := ⟨none, 0, []⟩
theorem nilI_ok (w : World) : SI.ok w nilI := ⟨fun i hi => by simp [nilI] at hi, by simp [nilI], fun n hn => by simp [nilI] at hn⟩
theorem one_ok (x : World) (n : Int) (hn : in64 n) {B : Nat} {z : World} (hc : z.cell? ⟨B, 0, none⟩ = some (.int .i64 n)) : SI.ok z ⟨some ⟨B, 0, none⟩, 1, [n]⟩ := by
  refine ⟨fun i hi => ?_, by simp [maxLen], fun m hm => by simp at hm; subst hm; exact hn⟩
  simp at hi
  subst hi
  exact ⟨_, rfl, by rw [show (⟨B, 0, none⟩ : Addr).add 0 = ⟨B, 0, none⟩ from rfl]; exact hc⟩

end Go.Proofs.YtedopiojidaeiaaGreatDoor
