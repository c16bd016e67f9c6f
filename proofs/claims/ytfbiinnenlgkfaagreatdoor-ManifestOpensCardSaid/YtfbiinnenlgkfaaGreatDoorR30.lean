/- JHold, JSame, JShown, JAct, JWM, JBegin, JDoes, JInv, NMod, NPM, NRM, NPLast, NPSet, laid together. -/
import Derived.Test.YtfbiinnenlgkfaaGreatDoorR29
import Derived.Test.YtfbiinnenlgkfaaGreatDoorR18
import Derived.Test.YtfbiinnenlgkfaaGreatDoorR33
import Derived.Test.YtfbiinnenlgkfaaGreatDoorR5
import Derived.Test.YtfbiinnenlgkfaaGreatDoorR27
import Derived.Test.YtfbiinnenlgkfaaGreatDoorR25
import Derived.Deep.RegionHeld
import Derived.Test.YtfbiinnenlgkfaaGreatDoorR2
set_option linter.unusedSimpArgs false
set_option linter.unusedVariables false
namespace Go.Proofs.YtfbiinnenlgkfaaGreatDoor
open Go.RowKit Go.Deep Go.Maps

def jcrO (l s : Int) (x : FI) : FI := if x.safe = x.bytes.length then x else crX l s x
theorem jcrash_get (lf sp : List Int) (nm : List UInt8) : ∀ (L : List FI) (k : Nat), (getF nm L = none → getF nm (crashF lf sp k L) = none) ∧ (∀ x, getF nm L = some x → ∃ j, getF nm (crashF lf sp k L) = some (jcrO (atN lf j) (atN sp j) x))
 | [], k => ⟨fun _ => rfl, (fun x hx => by cases hx)⟩
 | y :: L, k => by
  rw [crashF, getF_cons]
  by_cases hn : y.name = nm
  ·rw [if_pos hn]
   refine ⟨(fun h => by cases h), fun x hx => ?_⟩
   obtain rfl : y = x := by simpa using hx
   by_cases hs : y.safe = y.bytes.length
   ·rw [if_pos hs, getF_cons, if_pos hn]
    exact ⟨0, by unfold jcrO; rw [if_pos hs]⟩
   ·rw [if_neg hs, getF_cons, if_pos (by exact hn)]
    exact ⟨k, by unfold jcrO; rw [if_neg hs]⟩
  ·rw [if_neg hn]
   by_cases hs : y.safe = y.bytes.length
   ·rw [if_pos hs, getF_cons, if_neg hn]
    exact jcrash_get lf sp nm L k
   ·rw [if_neg hs, getF_cons, if_neg (by exact hn)]
    exact jcrash_get lf sp nm L (k + 1)
theorem jcrash_saved (lf sp : List Int) : ∀ (L : List FI) (k : Nat), (∀ x ∈ L, x.safe ≤ x.bytes.length) → ∀ x ∈ crashF lf sp k L, x.safe = x.bytes.length
 | [], _, _, x, hx => by cases hx
 | y :: L, k, h, x, hx => by
  rw [crashF] at hx
  split at hx
  ·rename_i hs
   rcases List.mem_cons.1 hx with rfl | hx
   ·exact hs
   ·exact jcrash_saved lf sp L k (fun z hz => h z (by simp [hz])) x hx
  ·rcases List.mem_cons.1 hx with rfl | hx
   ·rw [crX_len _ _ _ (h y (by simp))]; rfl
   ·exact jcrash_saved lf sp L (k + 1) (fun z hz => h z (by simp [hz])) x hx
theorem jcrO_bytes (l q : Int) (nm s t : List UInt8) : ∃ r, (jcrO l q ⟨nm, s ++ t, s.length⟩).bytes = s ++ r ∧ r.length ≤ t.length ∧ (r.length ≤ 1 ∨ r.take (r.length - 1) = t.take (r.length - 1)) := by
 unfold jcrO
 split
 ·rename_i hs
  simp at hs
  subst hs
  exact ⟨[], by simp, by simp, by simp⟩
 ·have hk := left_le l t.length
  unfold crX
  simp only [List.length_append, Nat.add_sub_cancel_left]
  generalize leftN l t.length = k at *
  split
  ·rename_i h0
   subst h0
   exact ⟨[], by simp, by simp, by simp⟩
  ·rename_i h0
   refine ⟨(t.take k).set (k - 1) (spb ((s ++ t).getD (s.length + k - 1) 0) q), ?_, by simp; omega, ?_⟩
   ·rw [List.take_length_add_append, List.set_append_right _ _ (by omega)]
    congr 2
    omega
   ·right
    have e : ((t.take k).set (k - 1) (spb ((s ++ t).getD (s.length + k - 1) 0) q)).length = k := by rw [List.length_set, List.length_take]; omega
    rw [e, List.take_set_of_le (by omega), List.take_take]
    congr 1
    omega

def frsL (bs : List (List (List UInt8))) : List UInt8 := bs.flatMap (fun l => frameL (encL l))
def goodB (l : List (List UInt8)) : Prop := l.length ≤ 50 ∧ (encL l).length ≤ 40000
theorem tail_frame {x r t r' : List UInt8} (hx : x.length ≤ 40000) (hl : r.length ≤ (frameL x).length) (ht : r.length ≤ 1 ∨ r.take (r.length - 1) = (frameL x).take (r.length - 1)) (h : unframeL r = (t, r', 0)) : r = frameL x := by
 obtain ⟨hb, ht4⟩ := frame_back h
 have hlen := congrArg List.length hb
 rw [List.length_append, frame_len] at hlen
 rw [frame_len] at hl
 have hp := szN_pos t.length
 have hs4 : szN x.length ≤ 4 := by unfold szN; (repeat' split) <;> omega
 rcases ht with ht | ht
 ·omega
 have e1 : r.take (szN x.length) = putL x.length := by
  have := congrArg (List.take (szN x.length)) ht
  rw [List.take_take, List.take_take, Nat.min_eq_left (by omega)] at this
  rw [this, frameL, List.take_left' (putL_len _)]
 have e2 : takeL r = (x.length, r.drop (szN x.length), true) := by
  have := take_put x.length (by omega) (r.drop (szN x.length))
  rwa [← e1, List.take_append_drop] at this
 have e3 : takeL r = (t.length, (t ++ bigL (crcN t) 4) ++ r', true) := by
  rw [← hb, frameL, List.append_assoc]
  exact take_put t.length (by omega) _
 have htx : t.length = x.length := by
  have := e3.symm.trans e2
  simp only [Prod.mk.injEq] at this
  exact this.1
 have hr' : r' = [] := by
  rw [← List.length_eq_zero_iff]
  rw [htx] at hlen
  omega
 subst hr'
 rw [List.append_nil] at hb
 have hxt : t = x := by
  have := congrArg (List.take (szN x.length + x.length)) ht
  rw [List.take_take, List.take_take, Nat.min_eq_left (by rw [htx] at hlen; omega), ← hb, frameL, frameL, ← List.append_assoc, ← List.append_assoc, List.take_left' (by rw [List.length_append, putL_len, htx]), List.take_left' (by rw [List.length_append, putL_len]), htx] at this
  exact List.append_cancel_left this
 rw [← hb, hxt]
theorem tail_read {x r : List UInt8} (hx : x.length ≤ 40000) (hl : r.length ≤ (frameL x).length) (ht : r.length ≤ 1 ∨ r.take (r.length - 1) = (frameL x).take (r.length - 1)) : ((readL r).1 = [] ∧ (readL r).2.1 = 0) ∨ r = frameL x := by
 by_cases hr : r = []
 ·subst hr; exact Or.inl ⟨rfl, rfl⟩
 ·obtain ⟨a, b, e, hF⟩ : ∃ a b e, firstL r = (a, b, e) := ⟨_, _, _, rfl⟩
  by_cases he : e = 0
  ·subst he
   obtain ⟨t, hu, -, -⟩ := first_rest hF
   exact Or.inr (tail_frame hx hl ht hu)
  ·rw [read_end hr hF he]
   exact Or.inl ⟨rfl, rfl⟩
theorem readsegs_nil (p : List UInt8) (l : List Nat) (M : RS) : joinS [] (readSegs p l M) = readSegs p l M := by
 unfold joinS
 by_cases h : (readSegs p l M).1 = 0
 ·rw [if_pos h, List.nil_append]; rw [← h]
 ·rw [if_neg h, ← read_err p l M h]
theorem readsegs_app {p : List UInt8} {f : Nat → List (List (List UInt8))} {M : RS} (n : Nat) : ∀ (ns : List Nat), (∀ m ∈ ns, (readL (bytesOf (fileN p m) M)).1 = f m ∧ (readL (bytesOf (fileN p m) M)).2.2 = 0) → readSegs p (ns ++ [n]) M = joinS (ns.flatMap f) (readSegs p [n] M)
 | [], _ => (readsegs_nil p [n] M).symm
 | m :: ns, h => by
  have ih := readsegs_app n ns (fun k hk => h k (by simp [hk]))
  obtain ⟨h1, h2⟩ := h m (by simp)
  rw [List.cons_append]
  conv => lhs; rw [readSegs]
  rw [if_pos h2, h1, ih, List.flatMap_cons]
  generalize readSegs p [n] M = R
  unfold joinS
  by_cases hR : R.1 = 0
  ·simp only [hR, if_true, List.append_assoc]
  ·simp only [hR, if_false]
theorem readsegs_one (p : List UInt8) (n : Nat) (M : RS) : readSegs p [n] M = if (readL (bytesOf (fileN p n) M)).2.2 = 0 then (0, (readL (bytesOf (fileN p n) M)).1, M)
  else if (mendS (fileN p n) ((readL (bytesOf (fileN p n) M)).2.1 : Nat) M).1 = 0 then (0, (readL (bytesOf (fileN p n) M)).1, (mendS (fileN p n) ((readL (bytesOf (fileN p n) M)).2.1 : Nat) M).2)
  else ((mendS (fileN p n) ((readL (bytesOf (fileN p n) M)).2.1 : Nat) M).1, [], (mendS (fileN p n) ((readL (bytesOf (fileN p n) M)).2.1 : Nat) M).2) := by
 rw [readSegs]
 simp only [readSegs, ne_eq, not_true_eq_false, if_false, if_true, List.append_nil]
structure HoldX (p : List UInt8) (L : List FI) (f : Nat → List (List (List UInt8))) (r : List UInt8) : Prop where
 ne : segsL p L ≠ []
 seg : ∀ n ∈ segsL p L, n ≠ lastN p L → ∃ y, getF (fileN p n) L = some y ∧ y.bytes = frsL (f n)
 last : ∃ y, getF (fileN p (lastN p L)) L = some y ∧ y.bytes = frsL (f (lastN p L)) ++ r
 good : ∀ n, ∀ l ∈ f n, goodB l
def Saved (L : List FI) : Prop := ∀ y ∈ L, y.safe = y.bytes.length
def allF (p : List UInt8) (L : List FI) (f : Nat → List (List (List UInt8))) : List (List (List UInt8)) := (segsL p L).flatMap f
theorem segs_split {p : List UInt8} {L : List FI} (h : segsL p L ≠ []) : segsL p L = (segsL p L).dropLast ++ [lastN p L] := by
 conv => lhs; rw [← List.dropLast_concat_getLast h]
 rw [show lastN p L = (segsL p L).getLast h by unfold lastN; rw [List.getLast?_eq_some_getLast h]; rfl]
theorem col_nodup (p : List UInt8) {L : List FI} (hs : Srt L) : (colL p L).Nodup := by
 unfold colL
 induction L with
 | nil => simp
 | cons x L ih =>
  have h2 := srt_cons.1 hs
  rw [List.map_cons, List.filter_cons]
  split
  ·rename_i h0
   rw [List.nodup_cons]
   refine ⟨fun hm => ?_, ih h2.2⟩
   rw [List.mem_filter, List.mem_map] at hm
   obtain ⟨⟨y, hy, he⟩, -⟩ := hm
   have h0' : segN p x.name ≠ 0 := by simpa using h0
   have e1 := (seg_pos h0').1
   have e2 := (seg_pos (p := p) (nm := y.name) (by rw [he]; exact h0')).1
   have : x.name = y.name := by rw [e1, e2, he]
   have hb := h2.1 y hy
   rw [this, bl_irrefl] at hb
   cases hb
  ·exact ih h2.2
theorem segs_nodup (p : List UInt8) {L : List FI} (hs : Srt L) : (segsL p L).Nodup := ((segs_perm p L).nodup_iff).2 (col_nodup p hs)
theorem segs_front {p : List UInt8} {L : List FI} (hs : Srt L) (h : segsL p L ≠ []) : ∀ n ∈ (segsL p L).dropLast, n ≠ lastN p L ∧ n ∈ segsL p L := fun n hn => by
 have hd := segs_nodup p hs
 rw [segs_split h, List.nodup_append] at hd
 exact ⟨fun e => hd.2.2 n hn (lastN p L) (by simp) e, List.dropLast_subset _ hn⟩
theorem all_split {p : List UInt8} {L : List FI} (h : segsL p L ≠ []) (f : Nat → List (List (List UInt8))) : allF p L f = (segsL p L).dropLast.flatMap f ++ f (lastN p L) := by
 unfold allF
 conv => lhs; rw [segs_split h]
 rw [List.flatMap_append]; simp
theorem read_frs {bs : List (List (List UInt8))} (h : ∀ l ∈ bs, goodB l) (s : List UInt8) : readL (frsL bs ++ s) = (bs ++ (readL s).1, (frsL bs).length + (readL s).2.1, (readL s).2.2) := read_frames bs s h
theorem mend_cases {p : List UInt8} {M : RS} (hM : M.ok) (hg : M.gone = false) {nm A r : List UInt8} {y : FI} (hy : getF nm M.L = some y) (hb : y.bytes = A ++ r) (hsv : Saved M.L) :
  ((mendS nm (A.length : Nat) M).1 = 0 ∨ (mendS nm (A.length : Nat) M).1 = 7) ∧ (M.turns = -1 → (mendS nm (A.length : Nat) M).1 = 0) ∧ Saved (mendS nm (A.length : Nat) M).2.L ∧ (∀ m, m ≠ nm → getF m (mendS nm (A.length : Nat) M).2.L = getF m M.L) ∧
   ∃ y', getF nm (mendS nm (A.length : Nat) M).2.L = some y' ∧ (y'.bytes = A ++ r ∨ y'.bytes = A) := by
 have hyn := getF_name hy
 obtain ⟨y1, hy1⟩ : ∃ y1 : FI, y1 = { y with bytes := y.bytes.take A.length, safe := min y.safe A.length } := ⟨_, rfl⟩
 have hy1n : y1.name = nm := by rw [hy1]; exact hyn
 have hy1b : y1.bytes = A := by rw [hy1]; show y.bytes.take A.length = A; rw [hb, List.take_left' rfl]
 have hy1s : y1.safe = y1.bytes.length := by
  rw [hy1b, hy1]
  show min y.safe A.length = A.length
  rw [hsv y (getF_mem hy), hb, List.length_append]; omega
 have hcut : cutS nm (A.length : Nat) M = chgS M (insS y1 M.L) := by
  unfold cutS onS
  rw [if_neg (by rw [hg]; simp), hy]
  simp only
  rw [if_neg (by rw [hb, List.length_append]; omega), hy1, Int.toNat_natCast]
 have hins : ∀ m, getF m (insS y1 M.L) = if m = nm then some y1 else getF m M.L := fun m => by rw [getF_ins y1 hM.srt, hy1n]
 have hsv1 : Saved (insS y1 M.L) := fun z hz => by
  rcases mem_ins hz with rfl | hz
  ·exact hy1s
  ·exact hsv z hz
 have hs1 : Srt (insS y1 M.L) := srt_ins y1 hM.srt
 by_cases ht : M.turns = 0
 ·have hc : cutS nm (A.length : Nat) M = (7, (turnS M).2) := by rw [hcut]; unfold chgS; rw [if_pos ht]
  have hm : mendS nm (A.length : Nat) M = (7, (turnS M).2) := by unfold mendS; rw [hc]; simp
  rw [hm]
  simp only [turn_L]
  exact ⟨by simp, fun h => by omega, hsv, by simp, y, hy, Or.inl hb⟩
 ·have hc : cutS nm (A.length : Nat) M = (0, { (turnS M).2 with L := insS y1 M.L }) := by rw [hcut]; unfold chgS; rw [if_neg ht]
  have hm : mendS nm (A.length : Nat) M = flushS nm { (turnS M).2 with L := insS y1 M.L } := by unfold mendS; rw [hc]; simp
  obtain ⟨M1, hM1⟩ : ∃ M1 : RS, M1 = { (turnS M).2 with L := insS y1 M.L } := ⟨_, rfl⟩
  rw [← hM1] at hm
  have hg1 : M1.gone = false := by rw [hM1]; show (turnS M).2.gone = false; unfold turnS; rw [if_neg ht]; split <;> exact hg
  have hL1 : M1.L = insS y1 M.L := by rw [hM1]
  have ht1 : M.turns = -1 → M1.turns = -1 := fun h => by rw [hM1]; show (turnS M).2.turns = -1; unfold turnS; rw [if_neg ht, if_neg (by omega)]; exact h
  obtain ⟨y2, hy2⟩ : ∃ y2 : FI, y2 = { y1 with safe := y1.bytes.length } := ⟨_, rfl⟩
  have hfl : flushS nm M1 = chgS M1 (insS y2 M1.L) := by
   unfold flushS onS
   rw [if_neg (by rw [hg1]; simp), hL1, hins, if_pos rfl, hy2]
  rw [hm, hfl]
  have hy2n : y2.name = nm := by rw [hy2]; exact hy1n
  by_cases ht2 : M1.turns = 0
  ·have hc2 : chgS M1 (insS y2 M1.L) = (7, (turnS M1).2) := by unfold chgS; rw [if_pos ht2]
   rw [hc2]
   simp only [turn_L, hL1]
   exact ⟨by simp, fun h => by have := ht1 h; omega, hsv1, fun m hm => by rw [hins, if_neg hm], y1, by rw [hins, if_pos rfl], Or.inr hy1b⟩
  ·have hc2 : chgS M1 (insS y2 M1.L) = (0, { (turnS M1).2 with L := insS y2 M1.L }) := by unfold chgS; rw [if_neg ht2]
   rw [hc2]
   simp only [hL1]
   have hins2 : ∀ m, getF m (insS y2 (insS y1 M.L)) = if m = nm then some y2 else getF m M.L := fun m => by
    rw [getF_ins y2 hs1, hy2n]
    by_cases h : m = nm
    ·rw [if_pos h, if_pos h]
    ·rw [if_neg h, if_neg h, hins, if_neg h]
   exact ⟨by simp, fun _ => by simp, fun z hz => by
    rcases mem_ins hz with rfl | hz
    ·rw [hy2]
    ·exact hsv1 z hz, fun m hm => by rw [hins2, if_neg hm], y2, by rw [hins2, if_pos rfl], Or.inr (by rw [hy2]; exact hy1b)⟩
theorem open_hold {p : List UInt8} {M : RS} (hM : M.ok) (hg : M.gone = false) (hp : nameJ p = true) {f : Nat → List (List (List UInt8))} {l : List (List UInt8)} {r : List UInt8} (h : HoldX p M.L f r)
  (hr : ((readL r).1 = [] ∧ (readL r).2.1 = 0) ∨ (r = frameL (encL l) ∧ goodB l)) (hsv : Saved M.L) :
  ((jopen p M).1 = 0 → (jopen p M).2.1 = allF p M.L f ∨ (r = frameL (encL l) ∧ (jopen p M).2.1 = allF p M.L f ++ [l])) ∧ (M.turns = -1 → (jopen p M).1 = 0) ∧
   ((jopen p M).1 ≠ 0 → segsL p (jopen p M).2.2.L = segsL p M.L ∧ Saved (jopen p M).2.2.L ∧ ∃ r', HoldX p (jopen p M).2.2.L f r' ∧ (readL r').1 = [] ∧ (readL r').2.1 = 0) ∧ ((readL r).2.2 = 0 → jopen p M = (0, (jopen p M).2.1, M)) := by
 obtain ⟨y, hy, hyb⟩ := h.last
 have hB : bytesOf (fileN p (lastN p M.L)) M = frsL (f (lastN p M.L)) ++ r := by rw [bytesOf_get hy, hyb]
 have hR := read_frs (h.good (lastN p M.L)) r
 have hJ : jopen p M = joinS ((segsL p M.L).dropLast.flatMap f) (readSegs p [lastN p M.L] M) := by
  unfold jopen
  rw [if_neg (by rw [hp]; simp), if_neg (by rw [hg]; simp), if_neg h.ne]
  conv => lhs; rw [segs_split h.ne]
  refine readsegs_app (lastN p M.L) _ (fun m hm => ?_)
  obtain ⟨h1, h2⟩ := segs_front hM.srt h.ne m hm
  obtain ⟨z, hz, hzb⟩ := h.seg m h2 h1
  have := read_frs (h.good m) []
  rw [List.append_nil, read_nil] at this
  rw [bytesOf_get hz, hzb, this]
  simp
 have hone := readsegs_one p (lastN p M.L) M
 rw [hB, hR] at hone
 simp only at hone
 have hall := all_split h.ne f
 rcases hr with ⟨hr1, hr2⟩ | ⟨hr0, hgl⟩
 ·rw [hr1, hr2, List.append_nil, Nat.add_zero] at hone
  by_cases h0 : (readL r).2.2 = 0
  ·rw [if_pos h0] at hone
   rw [hone, join_zero] at hJ
   rw [hJ]
   exact ⟨fun _ => Or.inl hall.symm, fun _ => rfl, fun h => absurd rfl h, fun _ => rfl⟩
  ·rw [if_neg h0] at hone
   obtain ⟨q1, q2, q3, q4, y', q5, q6⟩ := mend_cases (p := p) hM hg hy hyb hsv
   have hnm := mend_names hM (fileN p (lastN p M.L)) ((frsL (f (lastN p M.L))).length : Nat)
   generalize mendS (fileN p (lastN p M.L)) ((frsL (f (lastN p M.L))).length : Nat) M = m at *
   by_cases hm : m.1 = 0
   ·rw [if_pos hm] at hone
    rw [hone, join_zero] at hJ
    rw [hJ]
    exact ⟨fun _ => Or.inl hall.symm, fun _ => rfl, fun h => absurd rfl h, fun h => absurd h h0⟩
   ·rw [if_neg hm] at hone
    rw [hone, join_err _ _ _ hm] at hJ
    rw [hJ]
    have hsg := segs_names (p := p) hnm
    have hln := last_names (p := p) hnm
    refine ⟨fun h => absurd h hm, fun h => absurd (q2 h) hm, fun _ => ⟨hsg, q3, ?_⟩, fun h => absurd h h0⟩
    have hseg : ∀ n ∈ segsL p m.2.L, n ≠ lastN p m.2.L → ∃ y, getF (fileN p n) m.2.L = some y ∧ y.bytes = frsL (f n) := fun n hn hne => by
     rw [hsg] at hn
     rw [hln] at hne
     obtain ⟨z, hz, hzb⟩ := h.seg n hn hne
     exact ⟨z, by rw [q4 _ (fun e => hne (file_inj e)), hz], hzb⟩
    rcases q6 with q6 | q6
    ·exact ⟨r, ⟨by rw [hsg]; exact h.ne, hseg, ⟨y', by rw [hln]; exact q5, by rw [hln]; exact q6⟩, h.good⟩, hr1, hr2⟩
    ·exact ⟨[], ⟨by rw [hsg]; exact h.ne, hseg, ⟨y', by rw [hln]; exact q5, by rw [hln, List.append_nil]; exact q6⟩, h.good⟩, rfl, rfl⟩
 ·have hrr : readL r = ([l], r.length, 0) := by
   have := read_frs (bs := [l]) (fun m hm => by rw [List.mem_singleton] at hm; subst hm; exact hgl) []
   simp only [frsL, List.flatMap_cons, List.flatMap_nil, List.append_nil, read_nil] at this
   rw [hr0, this]; simp
  rw [hrr] at hone
  simp only [if_true] at hone
  rw [hone, join_zero] at hJ
  rw [hJ, hrr]
  exact ⟨fun _ => Or.inr ⟨hr0, by rw [hall, List.append_assoc]⟩, fun _ => rfl, fun h => absurd rfl h, fun _ => rfl⟩
theorem crashF_saved (lf sp : List Int) : ∀ (L : List FI) (k : Nat), Saved L → crashF lf sp k L = L
 | [], _, _ => rfl
 | x :: L, k, h => by
  rw [crashF, if_pos (h x (by simp)), crashF_saved lf sp L k (fun y hy => h y (by simp [hy]))]
theorem crash_holdx {p : List UInt8} {M : RS} (hM : M.ok) (lf sp : List Int) {f : Nat → List (List (List UInt8))} {x : List UInt8} (hx : x.length ≤ 40000) (h : HoldX p M.L f (frameL x)) (hs : ∀ n ∈ segsL p M.L, n ≠ lastN p M.L → ∀ y, getF (fileN p n) M.L = some y → y.safe = y.bytes.length)
  (hl : ∀ y, getF (fileN p (lastN p M.L)) M.L = some y → y.safe = (frsL (f (lastN p M.L))).length) :
  ∃ r, HoldX p (crashF lf sp 0 M.L) f r ∧ (((readL r).1 = [] ∧ (readL r).2.1 = 0) ∨ r = frameL x) := by
 have hnm := crash_names lf sp M.L 0
 have hsg := segs_names (p := p) hnm
 have hln := last_names (p := p) hnm
 obtain ⟨y, hy, hyb⟩ := h.last
 have hys := hl y hy
 obtain ⟨j, hj⟩ := (jcrash_get lf sp (fileN p (lastN p M.L)) M.L 0).2 y hy
 have hy2 : y = ⟨y.name, frsL (f (lastN p M.L)) ++ frameL x, (frsL (f (lastN p M.L))).length⟩ := by rw [← hyb, ← hys]
 obtain ⟨r, h1, h2, h3⟩ := jcrO_bytes (atN lf j) (atN sp j) y.name (frsL (f (lastN p M.L))) (frameL x)
 rw [← hy2] at h1
 refine ⟨r, ⟨by rw [hsg]; exact h.ne, fun n hn hne => ?_, ⟨_, by rw [hln]; exact hj, by rw [hln]; exact h1⟩, h.good⟩, tail_read hx h2 h3⟩
 rw [hsg] at hn
 rw [hln] at hne
 obtain ⟨z, hz, hzb⟩ := h.seg n hn hne
 obtain ⟨j2, hj2⟩ := (jcrash_get lf sp (fileN p n) M.L 0).2 z hz
 refine ⟨_, hj2, ?_⟩
 unfold jcrO
 rw [if_pos (hs n hn hne z hz)]
 exact hzb


def JSB (w x : World) (b : Nat) (M : RS) (jb : Nat) (p : ByteArray) (most : Int) : Prop := ∃ F, JS w.heap.size x b M F jb p most ∧ Bel w x
section
variable {w x y : World} {b jb : Nat} {M M1 : RS} {F : List Nat} {p : ByteArray} {most : Int}
theorem js_of (hs : Std w) (hb : Bel w x) (hp : ProgAt w.heap.size x b M F) (hM : M.ok) (hj : JAt x jb b p most) (ho : jb ∉ F) : JS w.heap.size x b M F jb p most :=
 ⟨hp, hM, hj, ho, fun z hz => hs.bel (((Keep.of_bel hb F).trans hz (fun k hk => Or.inl hk)).bel (fun k hk => (hp.within k hk).1))⟩
theorem JSB.bel (h : JSB w x b M jb p most) (hb : Bel x y) : JSB w y b M jb p most := by
 obtain ⟨F, h1, h2⟩ := h
 exact ⟨F, h1.bel hb, h2.trans hb⟩
theorem JSB.low (h : JSB w x b M jb p most) : Bel w x := by obtain ⟨F, _, h2⟩ := h; exact h2
theorem JSB.good (h : JSB w x b M jb p most) : M.ok := by obtain ⟨F, h1, _⟩ := h; exact h1.ok
end
theorem open_st {w x : World} {b : Nat} {M : RS} {F : List Nat} (hs : Std w) (hb : Bel w x) (hp : ProgAt w.heap.size x b M F) (hM : M.ok) (nm : ByteArray) (most : Int) (hnm : nm.size ≤ 100) (hr : M.room ≤ 1000000) {err : Int} {L : List (List (List UInt8))} {M' : RS} (hj : jopen nm.data.toList M = (err, L, M')) :
  Calls Tryz.prog 58 #[.pointer (some ⟨b, 0, none⟩), .string nm, .int .i64 most] x fun e y => ∃ jv v F', e = .returned (.tuple #[jv, v, .int .i64 err]) ∧ ProgAt w.heap.size y b M' F' ∧ Keep F x y ∧ (∀ k ∈ F', k ∈ F ∨ x.heap.size ≤ k) ∧ OwnQ x y F' v L ∧ Bel w y ∧ M'.ok ∧
   (err = 0 → ∃ jb, jv = .pointer (some ⟨jb, 0, none⟩) ∧ JS w.heap.size y b M' F' jb nm most ∧ Qb x y F' jb) ∧ (err ≠ 0 → jv = .pointer none) := by
 have hstd : ∀ z, Keep F x z → Std z := fun z hz => hs.bel (((Keep.of_bel hb F).trans hz (fun k hk => Or.inl hk)).bel (fun k hk => (hp.within k hk).1))
 refine (open_any _ x b M F nm most hp hM hstd hnm hr).mono ?_
 rintro e y ⟨jv, v, F', rfl, h1, h2, h3, h4, h5, h6⟩
 have hok := jopen_ok nm.data.toList hM
 rw [hj] at h1 h4 h5 h6 hok ⊢
 have hbl : Bel w y := ((Keep.of_bel hb F).trans h2 (fun k hk => Or.inl hk)).bel (fun k hk => (hp.within k hk).1)
 refine ⟨jv, v, F', rfl, h1, h2, h3, h4, hbl, hok, fun he => ?_, h6⟩
 obtain ⟨jb, q1, q2, q3⟩ := h5 he
 exact ⟨jb, q1, js_of hs hbl h1 hok q2 q3.2.2, q3⟩


structure JV where
 op : Int
 n : Int
 bp : Option Addr
 bc : Nat
 bl : List (List UInt8)
 left : SI
 spoil : SI
structure JV.ok (w : World) (x : JV) : Prop where
 op : in64 x.op
 n : in64 x.n
 at_ : StrsAt w x.bp x.bl
 len : x.bl.length ≤ maxLen
 each : ∀ t ∈ x.bl, t.length ≤ maxLen
 left : SI.ok w x.left
 spoil : SI.ok w x.spoil
def JV.cells (x : JV) : List Value := [.int .i64 x.op, .int .i64 x.n, .slice x.bp x.bl.length x.bc, x.left.val, x.spoil.val]
def JActs (w : World) (p : Option Addr) (L : List JV) : Prop := ∀ i (h : i < L.length), ∃ B O sp, p.map (fun a => a.add (i * 5)) = some ⟨B, O, sp⟩ ∧
 (∀ j u, L[i].cells[j]? = some u → w.cell? ((⟨B, O, sp⟩ : Addr).add j) = some u) ∧ JV.ok w L[i]
theorem JV.ok.bel {w x : World} {v : JV} (h : JV.ok w v) (hb : Bel w x) : JV.ok x v := ⟨h.op, h.n, h.at_.bel hb, h.len, h.each, h.left.bel hb, h.spoil.bel hb⟩
theorem JActs.bel {w x : World} {p : Option Addr} {L : List JV} (h : JActs w p L) (hb : Bel w x) : JActs x p L := by
 intro i hi
 obtain ⟨B, O, sp, hp, hc, ho⟩ := h i hi
 exact ⟨B, O, sp, hp, fun j u hj => (Below.cell hb (block_lt_of_cell (hc j u hj))).trans (hc j u hj), ho.bel hb⟩
def strsB (l : List (List UInt8)) : Bool := l.all fun t => decide (t.length ≤ 900)
def JV.small (x : JV) : Bool := (decide (x.bl.length ≤ 60) && (decide (x.left.L.length ≤ 60) && decide (x.spoil.L.length ≤ 60))) && strsB x.bl

section
variable {w x y z : World} {b r : Nat} {M M' M1 : RS} {R : List Nat} {F G F' G' : List Nat}
theorem Tw.other (h : Tw w x b r M M' R) {K : List Nat} (hk : Keep K x y) (hK : ∀ k ∈ K, w.heap.size ≤ k ∧ k ∈ R) : Tw w y b r M M' R ∧ (∀ k ∈ R, k ∉ K → y.heap[k]? = x.heap[k]?) := by
 obtain ⟨⟨F, G, h1, h2, h3, h4⟩, h5, h6, h7⟩ := h
 refine ⟨⟨⟨F, G, h1.keep hk (fun k hkF hm => (h4 k (hK k hm).2).2.1 hkF), h2.keep hk (fun k hkG hm => (h4 k (hK k hm).2).2.2 hkG), h3, fun k hk' => ⟨Nat.lt_of_lt_of_le (h4 k hk').1 hk.size, (h4 k hk').2⟩⟩,
  ((Keep.of_bel h5 K).trans hk (fun x hx => Or.inl hx)).bel (fun k hk' => (hK k hk').1), h6, h7⟩, fun k hk' hn => hk.block k (h4 k hk').1 hn⟩
theorem Tw.grow (h : Tw w x b r M M' R) (hb : Bel x y) {S : List Nat} (hS : ∀ k ∈ S, x.heap.size ≤ k ∧ k < y.heap.size) : Tw w y b r M M' (S ++ R) := by
 obtain ⟨⟨F, G, h1, h2, h3, h4⟩, h5, h6, h7⟩ := h
 refine ⟨⟨F, G, h1.bel hb, h2.bel hb, h3, fun j hj => ?_⟩, h5.trans hb, h6, h7⟩
 rcases List.mem_append.1 hj with hj | hj
 ·have hjs := hS j hj
  refine ⟨hjs.2, fun hm => ?_, fun hm => ?_⟩
  ·have := (h1.within _ hm).2; omega
  ·have := ref_lt h2 j hm; omega
 ·exact ⟨Nat.lt_of_lt_of_le (h4 j hj).1 hb.size, (h4 j hj).2⟩
theorem Tw.lt (h : Tw w x b r M M' R) : ∀ k ∈ R, k < x.heap.size := by
 obtain ⟨⟨F, G, h1, h2, h3, h4⟩, h5, h6, h7⟩ := h
 exact fun k hk => (h4 k hk).1
end
section
variable {w x y z : World} {ws ms b r jb rb : Nat} {M M' M1 : RS} {nm : ByteArray} {most : Int} {R R' : List Nat}
end


theorem JV.ok.more {w x : World} {v : JV} (h : JV.ok w v) (hb : Bel w x) : JV.ok x v := h.bel hb

theorem on_room (nm : List UInt8) (M : RS) (k : FI → Int × RS) (hk : ∀ y, (k y).2.room = M.room) : (onS nm M k).2.room = M.room := by
 unfold onS
 split
 ·rfl
 ·cases getF nm M.L with
  | none => rfl
  | some y => exact hk y
theorem flush_room (M : RS) (nm : List UInt8) : (flushS nm M).2.room = M.room := on_room nm M _ fun y => chg_room M _
theorem drop_room (M : RS) (nm : List UInt8) : (dropS nm M).2.room = M.room := on_room nm M _ fun y => chg_room M _
theorem cut_room (M : RS) (nm : List UInt8) (n : Int) : (cutS nm n M).2.room = M.room := on_room nm M _ fun y => by
 split
 ·rfl
 ·exact chg_room M _
theorem mend_room (M : RS) (nm : List UInt8) (n : Int) : (mendS nm n M).2.room = M.room := by
 unfold mendS
 split
 ·exact cut_room M nm n
 ·rw [flush_room, cut_room]
theorem jturn_room (p : List UInt8) (M : RS) : (jturn p M).2.room = M.room := add_room M _ _
theorem jput_room (nm t : List UInt8) (M : RS) : (jput nm t M).2.room = M.room := by
 unfold jput
 split
 ·exact add_room M _ _
 ·rw [flush_room, add_room]
theorem jroom_room (p : List UInt8) (most : Int) (M : RS) : (jroom p most M).2.room = M.room := by
 unfold jroom; split; exact jturn_room p M; rfl
theorem jwrite_room (p : List UInt8) (most : Int) (l : List (List UInt8)) (M : RS) : (jwrite p most l M).2.room = M.room := by
 unfold jwrite
 split
 ·rfl
 ·split
  ·rfl
  ·split
   ·exact jroom_room p most M
   ·rw [jput_room, jroom_room]
theorem trim_room (p : List UInt8) (before : Int) : ∀ (l : List Nat) (M : RS), (trimL p before l M).2.room = M.room
 | [], M => rfl
 | [_], M => rfl
 | n :: m :: r, M => by
  simp only [trimL]
  split
  ·split
   ·rw [trim_room p before (m :: r), drop_room]
   ·exact drop_room M _
  ·rfl
theorem readsegs_room (p : List UInt8) : ∀ (l : List Nat) (M : RS), (readSegs p l M).2.2.room = M.room
 | [], M => rfl
 | n :: r, M => by
  have ih := readsegs_room p r M
  simp only [readSegs]
  split
  ·split
   ·exact ih
   ·exact ih
  ·split
   ·rfl
   ·split
    ·exact mend_room M _ _
    ·exact mend_room M _ _
theorem jopen_room (p : List UInt8) (M : RS) : (jopen p M).2.2.room = M.room := by
 unfold jopen
 split
 ·rfl
 ·split
  ·rfl
  ·split
   ·exact jturn_room p M
   ·exact readsegs_room p _ M
theorem jopen_lens (p : List UInt8) {M : RS} (h : M.ok) (hr : M.room ≤ 1000000) : (jopen p M).2.1.length ≤ 60000000 := by
 unfold jopen
 split
 ·simp
 ·split
  ·simp
  ·split
   ·simp
   ·have h1 := readSegs_lens p (segsL p M.L) M (room_sizes h hr)
    have h2 := segs_len p M.L
    have h3 := h.len
    omega
theorem last_drop {n : Nat} {r : List Nat} (hr : r ≠ []) : (n :: r).getLast?.getD 0 = r.getLast?.getD 0 := by
 cases r with
 | nil => exact absurd rfl hr
 | cons m r => rw [List.getLast?_cons_cons]
theorem drop_L (M : RS) (nm : List UInt8) : ((dropS nm M).1 = 0 → (dropS nm M).2.L = outS nm M.L) ∧ ((dropS nm M).1 ≠ 0 → (dropS nm M).2.L = M.L) := by
 unfold dropS onS
 split
 ·exact ⟨(fun h => by cases h), fun _ => rfl⟩
 ·cases getF nm M.L with
  | none => exact ⟨(fun h => by cases h), fun _ => rfl⟩
  | some y =>
   simp only
   unfold chgS
   split
   ·exact ⟨(fun h => by cases h), fun _ => turn_L M⟩
   ·exact ⟨fun _ => rfl, fun h => absurd rfl h⟩
theorem trim_last (p : List UInt8) (before : Int) : ∀ (l : List Nat) {M : RS}, M.ok → segsL p M.L = l → lastN p (trimL p before l M).2.L = lastN p M.L
 | [], M, _, _ => rfl
 | [_], M, _, _ => rfl
 | n :: m :: r, M, h, hl => by
  obtain ⟨d1, d2⟩ := drop_L M (fileN p n)
  simp only [trimL]
  split
  ·split
   ·rename_i h0
    have hs := segs_out (p := p) h.srt hl
    rw [← d1 h0] at hs
    rw [trim_last p before (m :: r) (drop_ok h _) hs]
    unfold lastN
    rw [hs, hl, last_drop (n := n) (r := m :: r) (by simp)]
   ·rename_i h0
    unfold lastN; rw [d2 h0]
  ·rfl
theorem jput_last {p : List UInt8} {M : RS} (h : M.ok) (h0 : lastN p M.L ≠ 0) (t : List UInt8) : lastN p (jput (fileN p (lastN p M.L)) t M).2.L = lastN p M.L := by
 have hth := last_there (p := p) h rfl h0
 unfold jput
 split
 ·exact last_names (add_names h hth t)
 ·exact (last_names (flush_names (add_ok h _ _) _)).trans (last_names (add_names h hth t))
theorem jroom_last {p : List UInt8} {M : RS} (most : Int) (h : M.ok) (h9 : lastN p M.L < 9999999) : lastN p (jroom p most M).2.L = lastN p M.L ∨ lastN p (jroom p most M).2.L = lastN p M.L + 1 := by
 unfold jroom
 split
 ·by_cases ht : (jturn p M).1 = 0
  ·exact Or.inr (jturn_last h h9 ht)
  ·exact Or.inl (by unfold lastN; rw [(jturn_segs h h9).2 ht])
 ·exact Or.inl rfl

def manB : ByteArray := ⟨#[109, 97, 110]⟩
def manP : List UInt8 := [109, 97, 110]
theorem manB_list : manB.data.toList = manP := rfl
theorem manB_size : manB.size ≤ 100 := by decide
theorem manP_name : nameJ manP = true := by decide
def oneM (st : MS) (b : List (List UInt8)) : MS := match b with
 | [t] => (unpackM t).getD st
 | _ => st
def lastM (st : MS) (bs : List (List (List UInt8))) : MS := bs.foldl oneM st
theorem lastM_append (st : MS) (bs cs : List (List (List UInt8))) : lastM st (bs ++ cs) = lastM (lastM st bs) cs := List.foldl_append
theorem oneM_enc {s : MS} (h : rightM s = true) (st : MS) : oneM st [encM s] = s := by
 show (unpackM (encM s)).getD st = s
 rw [unpack_enc h]; rfl
theorem lastM_snoc {s : MS} (h : rightM s = true) (st : MS) (bs : List (List (List UInt8))) : lastM st (bs ++ [[encM s]]) = s := by
 rw [lastM_append]; exact oneM_enc h _
def mturn (n : Nat) (M : RS) : Int × RS := if n % 8 = 0 then jturn manP M else (0, M)
def mwrite (s : MS) (M : RS) : Int × RS := jwrite manP 100000 [encM s] M
def mtrim (n : Nat) (M : RS) : Int × RS := if n % 8 = 0 then jtrim manP ((lastN manP M.L : Nat) : Int) M else (0, M)
structure MR where
 e : Int
 s : MS
 n : Nat
 M : RS
def mset (s0 : MS) (n : Nat) (s : MS) (M : RS) : MR :=
 if rightM s = false then ⟨1, s0, n, M⟩ else if mayB s0 s = false then ⟨1, s0, n, M⟩ else
 if (mturn n M).1 ≠ 0 then ⟨(mturn n M).1, s0, n + 1, (mturn n M).2⟩ else
 if (mwrite s (mturn n M).2).1 ≠ 0 then ⟨(mwrite s (mturn n M).2).1, s0, n + 1, (mwrite s (mturn n M).2).2⟩ else
 ⟨(mtrim n (mwrite s (mturn n M).2).2).1, s, n + 1, (mtrim n (mwrite s (mturn n M).2).2).2⟩
section
variable {s0 s : MS} {n : Nat} {M : RS}
theorem mset_wrong (h : rightM s = false) : mset s0 n s M = ⟨1, s0, n, M⟩ := by unfold mset; rw [if_pos h]
theorem mset_less (h : rightM s = true) (h2 : mayB s0 s = false) : mset s0 n s M = ⟨1, s0, n, M⟩ := by unfold mset; rw [if_neg (by rw [h]; simp), if_pos h2]
theorem mset_turn (h : rightM s = true) (h2 : mayB s0 s = true) (h3 : (mturn n M).1 ≠ 0) : mset s0 n s M = ⟨(mturn n M).1, s0, n + 1, (mturn n M).2⟩ := by
 unfold mset; rw [if_neg (by rw [h]; simp), if_neg (by rw [h2]; simp), if_pos h3]
theorem mset_write (h : rightM s = true) (h2 : mayB s0 s = true) (h3 : (mturn n M).1 = 0) (h4 : (mwrite s (mturn n M).2).1 ≠ 0) : mset s0 n s M = ⟨(mwrite s (mturn n M).2).1, s0, n + 1, (mwrite s (mturn n M).2).2⟩ := by
 unfold mset; rw [if_neg (by rw [h]; simp), if_neg (by rw [h2]; simp), if_neg (by rw [h3]; simp), if_pos h4]
theorem mset_all (h : rightM s = true) (h2 : mayB s0 s = true) (h3 : (mturn n M).1 = 0) (h4 : (mwrite s (mturn n M).2).1 = 0) : mset s0 n s M = ⟨(mtrim n (mwrite s (mturn n M).2).2).1, s, n + 1, (mtrim n (mwrite s (mturn n M).2).2).2⟩ := by
 unfold mset; rw [if_neg (by rw [h]; simp), if_neg (by rw [h2]; simp), if_neg (by rw [h3]; simp), if_neg (by rw [h4]; simp)]
theorem mturn_ok (h : M.ok) : (mturn n M).2.ok := by unfold mturn; split; exact jturn_ok h _; exact h
theorem mwrite_ok (h : M.ok) : (mwrite s M).2.ok := jwrite_ok h _ _ _
theorem mtrim_ok (h : M.ok) : (mtrim n M).2.ok := by unfold mtrim; split; exact trim_ok _ _ _ h; exact h
theorem mset_ok (h : M.ok) : (mset s0 n s M).M.ok := by
 unfold mset
 repeat' split
 ·exact h
 ·exact h
 ·exact mturn_ok h
 ·exact mwrite_ok (mturn_ok h)
 ·exact mtrim_ok (mwrite_ok (mturn_ok h))
theorem mturn_last (h : M.ok) (h9 : lastN manP M.L < 9999999) : lastN manP (mturn n M).2.L = lastN manP M.L ∨ lastN manP (mturn n M).2.L = lastN manP M.L + 1 := by
 unfold mturn
 split
 ·by_cases h0 : (jturn manP M).1 = 0
  ·exact Or.inr (jturn_last h h9 h0)
  ·exact Or.inl (by unfold lastN; rw [(jturn_segs h h9).2 h0])
 ·exact Or.inl rfl
theorem mwrite_last (h : M.ok) (h0 : lastN manP M.L ≠ 0) (h9 : lastN manP M.L < 9999998) : lastN manP (mwrite s M).2.L = lastN manP M.L ∨ lastN manP (mwrite s M).2.L = lastN manP M.L + 1 := by
 unfold mwrite jwrite
 split
 ·exact Or.inl rfl
 ·split
  ·exact Or.inl rfl
  ·split
   ·exact jroom_last _ h (by omega)
   ·have hj := jroom_last (p := manP) 100000 h (by omega)
    rw [jput_last (jroom_ok h manP _) (by omega)]
    exact hj
theorem mtrim_last (h : M.ok) : lastN manP (mtrim n M).2.L = lastN manP M.L := by
 unfold mtrim
 split
 ·exact trim_last manP _ _ h rfl
 ·rfl
theorem mset_last (h : M.ok) (h0 : lastN manP M.L ≠ 0) (h9 : lastN manP M.L < 9999997) : lastN manP (mset s0 n s M).M.L ≠ 0 ∧ lastN manP (mset s0 n s M).M.L ≤ lastN manP M.L + 2 := by
 have h1 := mturn_last (n := n) h (by omega)
 have h2 := mwrite_last (s := s) (mturn_ok (n := n) h) (by omega) (by omega)
 have h3 := mtrim_last (n := n) (mwrite_ok (s := s) (mturn_ok (n := n) h))
 unfold mset
 repeat' split
 ·exact ⟨h0, by show lastN manP M.L ≤ _; omega⟩
 ·exact ⟨h0, by show lastN manP M.L ≤ _; omega⟩
 ·show lastN manP (mturn n M).2.L ≠ 0 ∧ lastN manP (mturn n M).2.L ≤ _; omega
 ·show lastN manP (mwrite s (mturn n M).2).2.L ≠ 0 ∧ lastN manP (mwrite s (mturn n M).2).2.L ≤ _; omega
 ·show lastN manP (mtrim n (mwrite s (mturn n M).2).2).2.L ≠ 0 ∧ lastN manP (mtrim n (mwrite s (mturn n M).2).2).2.L ≤ _; omega
theorem mturn_room : (mturn n M).2.room = M.room := by unfold mturn; split; exact jturn_room _ _; rfl
theorem mwrite_room : (mwrite s M).2.room = M.room := jwrite_room _ _ _ _
theorem mtrim_room : (mtrim n M).2.room = M.room := by unfold mtrim; split; exact trim_room _ _ _ _; rfl
theorem mset_room : (mset s0 n s M).M.room = M.room := by
 unfold mset
 repeat' split
 ·rfl
 ·rfl
 ·exact mturn_room
 ·show (mwrite s (mturn n M).2).2.room = _; rw [mwrite_room, mturn_room]
 ·show (mtrim n (mwrite s (mturn n M).2).2).2.room = _; rw [mtrim_room, mwrite_room, mturn_room]
theorem mset_n : (mset s0 n s M).n ≤ n + 1 := by
 unfold mset
 repeat' split
 all_goals simp
end

def blkL (p : Option Addr) : List Nat := match p with | some a => [a.block] | none => []
theorem mem_blkL {p : Option Addr} {a : Addr} (h : p = some a) : a.block ∈ blkL p := by subst h; simp [blkL]
structure PM (w x : World) (b : Nat) (M : RS) (mb jb : Nat) (s : MS) (n : Nat) (F D : List Nat) : Prop where
 prog : ProgAt w.heap.size x b M F
 ok : M.ok
 j : JAt x jb b manB 100000
 low : Bel w x
 std : Std w
 box : ∃ fp fc, x.heap[mb]? = some (.cells #[.pointer (some ⟨jb, 0, none⟩), .slice fp s.files.length fc, .int .i64 s.next, .int .i64 s.seq, .int .i64 s.log, .string s.mt, .int .i64 (n : Int)] 110 (0, 0)) ∧ PlsAt x fp s.files ∧ (s.files ≠ [] → ∀ a, fp = some a → a.block ∈ D)
 mout : mb ∉ F ∧ w.heap.size ≤ mb
 jd : jb ∈ D
 dw : ∀ k ∈ D, k ≠ mb ∧ k ∉ F ∧ k < x.heap.size
section
variable {w x y z x0 : World} {b mb jb : Nat} {M M1 : RS} {s s1 : MS} {n n1 : Nat} {F F0 F1 D D0 D1 A K : List Nat}
theorem PM.mlt (h : PM w x b M mb jb s n F D) : mb < x.heap.size := by obtain ⟨fp, fc, h1, -⟩ := h.box; exact box_lt h1
theorem PM.flt (h : PM w x b M mb jb s n F D) : ∀ k ∈ F, w.heap.size ≤ k ∧ k < x.heap.size := h.prog.within
theorem PM.keep (h : PM w x b M mb jb s n F D) (hk : Keep K x y) (hl : Bel w y) (hm : mb ∉ K) (hF : ∀ k ∈ F, k ∉ K) (hD : ∀ k ∈ D, k ∉ K) : PM w y b M mb jb s n F D := by
 obtain ⟨fp, fc, h1, h2, h3⟩ := h.box
 exact ⟨h.prog.keep hk hF, h.ok, h.j.keep (hk.block jb h.j.lt (hD jb h.jd)), hl, h.std, ⟨fp, fc, hk.at h1 hm, h2.keep hk (fun hne a ha => hD _ (h3 hne a ha)), h3⟩, h.mout, h.jd, fun k hk' => ⟨(h.dw k hk').1, (h.dw k hk').2.1, Nat.lt_of_lt_of_le (h.dw k hk').2.2 hk.size⟩⟩
theorem PM.bel (h : PM w x b M mb jb s n F D) (hb : Bel x y) : PM w y b M mb jb s n F D := h.keep (Keep.of_bel hb []) (h.low.trans hb) (by simp) (by simp) (by simp)
theorem PM.js (h : PM w x b M mb jb s n F D) : JS w.heap.size x b M F jb manB 100000 := js_of h.std h.low h.prog h.ok h.j (h.dw jb h.jd).2.1
theorem PM.step (h : PM w x b M mb jb s n F D) (hT : ProgTo w.heap.size x y b M1 F) (hM : M1.ok) : ∃ F1, PM w y b M1 mb jb s n F1 D ∧ Keep F x y ∧ ∀ k ∈ F1, k ∈ F ∨ x.heap.size ≤ k := by
 obtain ⟨F1, h1, h2, h3⟩ := hT
 obtain ⟨fp, fc, q1, q2, q3⟩ := h.box
 have hmn : mb ∉ F1 := fun hm => by
  rcases h3 mb hm with h4 | h4
  ·exact h.mout.1 h4
  ·have := h.mlt; omega
 refine ⟨F1, ⟨h1, hM, h.j.keep (h2.block jb h.j.lt (h.dw jb h.jd).2.1), ((Keep.of_bel h.low F).trans h2 (fun k hk => Or.inl hk)).bel (fun k hk => (h.prog.within k hk).1), h.std, ⟨fp, fc, h2.at q1 h.mout.1, q2.keep h2 (fun hne a ha => (h.dw _ (q3 hne a ha)).2.1), q3⟩, ⟨hmn, h.mout.2⟩, h.jd, fun k hk => ⟨(h.dw k hk).1, fun hm => ?_, Nat.lt_of_lt_of_le (h.dw k hk).2.2 h2.size⟩⟩, h2, h3⟩
 rcases h3 k hm with h4 | h4
 ·exact (h.dw k hk).2.1 h4
 ·have := (h.dw k hk).2.2; omega
theorem PM.setn (h : PM w x b M mb jb s n F D) (v : Int) (hv : v = (n1 : Int)) : PM w (x.setCell ⟨mb, 6, none⟩ (.int .i64 v)) b M mb jb s n1 F D := by
 subst hv
 obtain ⟨fp, fc, q1, q2, q3⟩ := h.box
 have hk := keep_set x mb 6 (.int .i64 (n1 : Int))
 have hm : ∀ k, k ≠ mb → k ∉ [mb] := fun k hk => by simpa using hk
 exact ⟨h.prog.keep hk (fun k hk' => hm k (fun e => h.mout.1 (e ▸ hk'))), h.ok, h.j.keep (hk.block jb h.j.lt (hm jb (h.dw jb h.jd).1)), keep_bel1 hk h.low h.mout.2, h.std,
  ⟨fp, fc, blk_set q1 6 _, q2.keep hk (fun hne a ha => hm _ (h.dw _ (q3 hne a ha)).1), q3⟩, h.mout, h.jd, fun k hk' => ⟨(h.dw k hk').1, (h.dw k hk').2.1, Nat.lt_of_lt_of_le (h.dw k hk').2.2 hk.size⟩⟩
theorem PM.sets (h : PM w x b M mb jb s n F D) (fp : Option Addr) (fc : Nat) (hp : PlsAt x fp s1.files) (hd : s1.files ≠ [] → ∀ a, fp = some a → a.block ≠ mb ∧ a.block ∉ F) :
  PM w (((((x.setCell ⟨mb, 1, none⟩ (.slice fp s1.files.length fc)).setCell ⟨mb, 2, none⟩ (.int .i64 s1.next)).setCell ⟨mb, 3, none⟩ (.int .i64 s1.seq)).setCell ⟨mb, 4, none⟩ (.int .i64 s1.log)).setCell ⟨mb, 5, none⟩ (.string s1.mt)) b M mb jb s1 n F (jb :: (if s1.files = [] then [] else blkL fp)) := by
 obtain ⟨fp0, fc0, q1, q2, q3⟩ := h.box
 have hk : Keep [mb] x (((((x.setCell ⟨mb, 1, none⟩ (.slice fp s1.files.length fc)).setCell ⟨mb, 2, none⟩ (.int .i64 s1.next)).setCell ⟨mb, 3, none⟩ (.int .i64 s1.seq)).setCell ⟨mb, 4, none⟩ (.int .i64 s1.log)).setCell ⟨mb, 5, none⟩ (.string s1.mt)) := keep57
 have hm : ∀ k, k ≠ mb → k ∉ [mb] := fun k hk => by simpa using hk
 refine ⟨h.prog.keep hk (fun k hk' => hm k (fun e => h.mout.1 (e ▸ hk'))), h.ok, h.j.keep (hk.block jb h.j.lt (hm jb (h.dw jb h.jd).1)), keep_bel1 hk h.low h.mout.2, h.std,
  ⟨fp, fc, set57 q1, hp.keep hk (fun hne a ha => hm _ (hd hne a ha).1), fun hne a ha => ?_⟩, h.mout, by simp, fun k hk' => ?_⟩
 ·rw [if_neg hne]; exact List.mem_cons_of_mem _ (mem_blkL ha)
 ·rcases List.mem_cons.1 hk' with rfl | hk'
  ·exact ⟨(h.dw _ h.jd).1, (h.dw _ h.jd).2.1, Nat.lt_of_lt_of_le (h.dw _ h.jd).2.2 hk.size⟩
  ·split at hk'
   ·cases hk'
   ·rename_i hne
    cases fp with
    | none => cases hk'
    | some a =>
     simp only [blkL, List.mem_singleton] at hk'
     subst hk'
     exact ⟨(hd hne a rfl).1, (hd hne a rfl).2, Nat.lt_of_lt_of_le (hp.lt hne a rfl) hk.size⟩
def PX (w x0 : World) (F0 D0 A : List Nat) (y : World) (b : Nat) (M : RS) (mb jb : Nat) (s : MS) (n : Nat) : Prop :=
 ∃ F D, PM w y b M mb jb s n F D ∧ Keep (mb :: F0) x0 y ∧ (∀ k ∈ F, k ∈ F0 ∨ x0.heap.size ≤ k) ∧ ∀ k ∈ D, k ∈ D0 ∨ x0.heap.size ≤ k ∨ k ∈ A
theorem PM.px (h : PM w x b M mb jb s n F D) (A : List Nat) : PX w x F D A x b M mb jb s n := ⟨F, D, h, Keep.refl _ _, fun k hk => Or.inl hk, fun k hk => Or.inl hk⟩
theorem PX.bel (h : PX w x0 F0 D0 A y b M mb jb s n) (hb : Bel y z) : PX w x0 F0 D0 A z b M mb jb s n := by
 obtain ⟨F, D, h1, h2, h3, h4⟩ := h
 exact ⟨F, D, h1.bel hb, h2.then hb, h3, h4⟩
theorem PX.low (h : PX w x0 F0 D0 A y b M mb jb s n) : Bel w y := by obtain ⟨F, D, h1, h2, h3, h4⟩ := h; exact h1.low
theorem PX.good (h : PX w x0 F0 D0 A y b M mb jb s n) : M.ok := by obtain ⟨F, D, h1, h2, h3, h4⟩ := h; exact h1.ok
theorem PX.kp (h : PX w x0 F0 D0 A y b M mb jb s n) : Keep (mb :: F0) x0 y := by obtain ⟨F, D, h1, h2, h3, h4⟩ := h; exact h2
theorem PX.size (h : PX w x0 F0 D0 A y b M mb jb s n) : x0.heap.size ≤ y.heap.size := h.kp.size
theorem PX.boxes (h : PX w x0 F0 D0 A y b M mb jb s n) : ∃ fp fc, y.heap[mb]? = some (.cells #[.pointer (some ⟨jb, 0, none⟩), .slice fp s.files.length fc, .int .i64 s.next, .int .i64 s.seq, .int .i64 s.log, .string s.mt, .int .i64 (n : Int)] 110 (0, 0)) ∧ PlsAt y fp s.files := by
 obtain ⟨F, D, h1, -⟩ := h
 obtain ⟨fp, fc, q1, q2, -⟩ := h1.box
 exact ⟨fp, fc, q1, q2⟩
theorem PX.rebase {x1 : World} (h : PX w x1 F0 D0 A y b M mb jb s n) (hb : Bel x0 x1) : PX w x0 F0 D0 A y b M mb jb s n := by
 obtain ⟨F, D, h1, h2, h3, h4⟩ := h
 exact ⟨F, D, h1, (Keep.of_bel hb _).trans h2 (fun k hk => Or.inl hk), fun k hk => (h3 k hk).imp id (fun h => Nat.le_trans hb.size h), fun k hk => (h4 k hk).imp id (fun h => h.imp (fun h => Nat.le_trans hb.size h) id)⟩
theorem PX.call (h : PX w x0 F0 D0 A y b M mb jb s n) {fn : FuncId} {args : Array Value} {E : Ending → Prop} (hM1 : M1.ok)
  (hc : ∀ F, JS w.heap.size y b M F jb manB 100000 → Calls Tryz.prog fn args y fun e z => E e ∧ ProgTo w.heap.size y z b M1 F) :
  Calls Tryz.prog fn args y fun e z => E e ∧ PX w x0 F0 D0 A z b M1 mb jb s n := by
 obtain ⟨F, D, h1, h2, h3, h4⟩ := h
 refine (hc F h1.js).mono ?_
 rintro e z ⟨he, hT⟩
 obtain ⟨F1, k1, k2, k3⟩ := h1.step hT hM1
 refine ⟨he, F1, D, k1, h2.trans k2 (fun k hk => (h3 k hk).imp (fun h => by simp [h]) id), fun k hk => ?_, h4⟩
 rcases k3 k hk with h | h
 ·exact h3 k h
 ·exact Or.inr (Nat.le_trans h2.size h)
theorem PX.look (h : PX w x0 F0 D0 A y b M mb jb s n) {fn : FuncId} {args : Array Value} {E : Ending → Prop}
  (hc : ∀ F, JS w.heap.size y b M F jb manB 100000 → Calls Tryz.prog fn args y fun e z => E e ∧ Bel y z) :
  Calls Tryz.prog fn args y fun e z => E e ∧ PX w x0 F0 D0 A z b M mb jb s n ∧ Bel y z := by
 have h0 := h
 obtain ⟨F, D, h1, h2, h3, h4⟩ := h
 refine (hc F h1.js).mono ?_
 rintro e z ⟨he, hb⟩
 exact ⟨he, h0.bel hb, hb⟩
theorem PX.setn (h : PX w x0 F0 D0 A y b M mb jb s n) (v : Int) (hv : v = (n1 : Int)) : PX w x0 F0 D0 A (y.setCell ⟨mb, 6, none⟩ (.int .i64 v)) b M mb jb s n1 := by
 obtain ⟨F, D, h1, h2, h3, h4⟩ := h
 exact ⟨F, D, h1.setn v hv, h2.setCell (p := ⟨mb, 6, none⟩) (Or.inl (by simp)) _, h3, h4⟩
theorem PX.sets (h : PX w x0 F0 D0 A z b M mb jb s n) (hb : Bel z y) (fp : Option Addr) (fc : Nat) (hp : PlsAt y fp s1.files)
  (hd : s1.files ≠ [] → ∀ a, fp = some a → z.heap.size ≤ a.block ∨ (a.block ∈ A ∧ a.block ∉ mb :: F0 ∧ a.block < x0.heap.size)) :
  PX w x0 F0 D0 A (((((y.setCell ⟨mb, 1, none⟩ (.slice fp s1.files.length fc)).setCell ⟨mb, 2, none⟩ (.int .i64 s1.next)).setCell ⟨mb, 3, none⟩ (.int .i64 s1.seq)).setCell ⟨mb, 4, none⟩ (.int .i64 s1.log)).setCell ⟨mb, 5, none⟩ (.string s1.mt)) b M mb jb s1 n := by
 have hsz := h.size
 obtain ⟨F, D, h1, h2, h3, h4⟩ := h
 refine ⟨F, _, (h1.bel hb).sets fp fc hp (fun hne a ha => ?_), (h2.then hb).trans (keep57.mono (fun k hk => hk)) (fun k hk => Or.inl (by rw [List.mem_singleton] at hk; simp [hk])), h3, fun k hk => ?_⟩
 ·rcases hd hne a ha with h | ⟨-, h5, h6⟩
  ·exact ⟨fun e => by have := h1.mlt; omega, fun hm => by have := (h1.flt _ hm).2; omega⟩
  ·refine ⟨fun e => h5 (by simp [e]), fun hm => ?_⟩
   rcases h3 _ hm with h | h
   ·exact h5 (by simp [h])
   ·omega
 ·rcases List.mem_cons.1 hk with rfl | hk
  ·exact h4 _ h1.jd
  ·split at hk
   ·cases hk
   ·rename_i hne
    cases fp with
    | none => cases hk
    | some a =>
     simp only [blkL, List.mem_singleton] at hk
     subst hk
     rcases hd hne a rfl with h | ⟨h, -⟩
     ·exact Or.inr (Or.inl (by omega))
     ·exact Or.inr (Or.inr h)
end

theorem ref_in {n₀ : Nat} {w : World} {b : Nat} {M : RS} {F : List Nat} (h : RefP n₀ w b M F) : ∀ k ∈ F, n₀ ≤ k ∧ k < w.heap.size := by
 obtain ⟨v, _, _, _, h⟩ := h
 exact h
structure RM (w x : World) (b : Nat) (M : RS) (mb jb : Nat) (s : MS) (n : Nat) (F D : List Nat) : Prop where
 prog : RefP w.heap.size x b M F
 ok : M.ok
 j : JAt x jb b manB 100000
 low : Bel w x
 std : Std w
 box : ∃ fp fc, x.heap[mb]? = some (.cells #[.pointer (some ⟨jb, 0, none⟩), .slice fp s.files.length fc, .int .i64 s.next, .int .i64 s.seq, .int .i64 s.log, .string s.mt, .int .i64 (n : Int)] 62 (0, 0)) ∧ PlsAt x fp s.files ∧ (s.files ≠ [] → ∀ a, fp = some a → a.block ∈ D)
 mout : mb ∉ F ∧ w.heap.size ≤ mb
 jd : jb ∈ D
 dw : ∀ k ∈ D, k ≠ mb ∧ k ∉ F ∧ k < x.heap.size
section
variable {w x y z x0 : World} {b mb jb : Nat} {M M1 : RS} {s s1 : MS} {n n1 : Nat} {F F0 F1 D D0 D1 A K : List Nat}
theorem RM.mlt (h : RM w x b M mb jb s n F D) : mb < x.heap.size := by obtain ⟨fp, fc, h1, -⟩ := h.box; exact box_lt h1
theorem RM.flt (h : RM w x b M mb jb s n F D) : ∀ k ∈ F, w.heap.size ≤ k ∧ k < x.heap.size := ref_in h.prog
theorem RM.keep (h : RM w x b M mb jb s n F D) (hk : Keep K x y) (hl : Bel w y) (hm : mb ∉ K) (hF : ∀ k ∈ F, k ∉ K) (hD : ∀ k ∈ D, k ∉ K) : RM w y b M mb jb s n F D := by
 obtain ⟨fp, fc, h1, h2, h3⟩ := h.box
 exact ⟨h.prog.keep hk hF, h.ok, h.j.keep (hk.block jb h.j.lt (hD jb h.jd)), hl, h.std, ⟨fp, fc, hk.at h1 hm, h2.keep hk (fun hne a ha => hD _ (h3 hne a ha)), h3⟩, h.mout, h.jd, fun k hk' => ⟨(h.dw k hk').1, (h.dw k hk').2.1, Nat.lt_of_lt_of_le (h.dw k hk').2.2 hk.size⟩⟩
theorem RM.bel (h : RM w x b M mb jb s n F D) (hb : Bel x y) : RM w y b M mb jb s n F D := h.keep (Keep.of_bel hb []) (h.low.trans hb) (by simp) (by simp) (by simp)
theorem RM.js (h : RM w x b M mb jb s n F D) : RJS w.heap.size x b M F jb manB 100000 := ⟨h.prog, h.ok, h.j, (h.dw jb h.jd).2.1⟩
theorem RM.step (h : RM w x b M mb jb s n F D) (hT : RefTo w.heap.size x y b M1 F) (hM : M1.ok) : ∃ F1, RM w y b M1 mb jb s n F1 D ∧ Keep F x y ∧ ∀ k ∈ F1, k ∈ F ∨ x.heap.size ≤ k := by
 obtain ⟨F1, h1, h2, h3⟩ := hT
 obtain ⟨fp, fc, q1, q2, q3⟩ := h.box
 have hmn : mb ∉ F1 := fun hm => by
  rcases h3 mb hm with h4 | h4
  ·exact h.mout.1 h4
  ·have := h.mlt; omega
 refine ⟨F1, ⟨h1, hM, h.j.keep (h2.block jb h.j.lt (h.dw jb h.jd).2.1), ((Keep.of_bel h.low F).trans h2 (fun k hk => Or.inl hk)).bel (fun k hk => (ref_in h.prog k hk).1), h.std, ⟨fp, fc, h2.at q1 h.mout.1, q2.keep h2 (fun hne a ha => (h.dw _ (q3 hne a ha)).2.1), q3⟩, ⟨hmn, h.mout.2⟩, h.jd, fun k hk => ⟨(h.dw k hk).1, fun hm => ?_, Nat.lt_of_lt_of_le (h.dw k hk).2.2 h2.size⟩⟩, h2, h3⟩
 rcases h3 k hm with h4 | h4
 ·exact (h.dw k hk).2.1 h4
 ·have := (h.dw k hk).2.2; omega
theorem RM.setn (h : RM w x b M mb jb s n F D) (v : Int) (hv : v = (n1 : Int)) : RM w (x.setCell ⟨mb, 6, none⟩ (.int .i64 v)) b M mb jb s n1 F D := by
 subst hv
 obtain ⟨fp, fc, q1, q2, q3⟩ := h.box
 have hk := keep_set x mb 6 (.int .i64 (n1 : Int))
 have hm : ∀ k, k ≠ mb → k ∉ [mb] := fun k hk => by simpa using hk
 exact ⟨h.prog.keep hk (fun k hk' => hm k (fun e => h.mout.1 (e ▸ hk'))), h.ok, h.j.keep (hk.block jb h.j.lt (hm jb (h.dw jb h.jd).1)), keep_bel1 hk h.low h.mout.2, h.std,
  ⟨fp, fc, blk_set q1 6 _, q2.keep hk (fun hne a ha => hm _ (h.dw _ (q3 hne a ha)).1), q3⟩, h.mout, h.jd, fun k hk' => ⟨(h.dw k hk').1, (h.dw k hk').2.1, Nat.lt_of_lt_of_le (h.dw k hk').2.2 hk.size⟩⟩
theorem RM.sets (h : RM w x b M mb jb s n F D) (fp : Option Addr) (fc : Nat) (hp : PlsAt x fp s1.files) (hd : s1.files ≠ [] → ∀ a, fp = some a → a.block ≠ mb ∧ a.block ∉ F) :
  RM w (((((x.setCell ⟨mb, 1, none⟩ (.slice fp s1.files.length fc)).setCell ⟨mb, 2, none⟩ (.int .i64 s1.next)).setCell ⟨mb, 3, none⟩ (.int .i64 s1.seq)).setCell ⟨mb, 4, none⟩ (.int .i64 s1.log)).setCell ⟨mb, 5, none⟩ (.string s1.mt)) b M mb jb s1 n F (jb :: (if s1.files = [] then [] else blkL fp)) := by
 obtain ⟨fp0, fc0, q1, q2, q3⟩ := h.box
 have hk : Keep [mb] x (((((x.setCell ⟨mb, 1, none⟩ (.slice fp s1.files.length fc)).setCell ⟨mb, 2, none⟩ (.int .i64 s1.next)).setCell ⟨mb, 3, none⟩ (.int .i64 s1.seq)).setCell ⟨mb, 4, none⟩ (.int .i64 s1.log)).setCell ⟨mb, 5, none⟩ (.string s1.mt)) := keep57
 have hm : ∀ k, k ≠ mb → k ∉ [mb] := fun k hk => by simpa using hk
 refine ⟨h.prog.keep hk (fun k hk' => hm k (fun e => h.mout.1 (e ▸ hk'))), h.ok, h.j.keep (hk.block jb h.j.lt (hm jb (h.dw jb h.jd).1)), keep_bel1 hk h.low h.mout.2, h.std,
  ⟨fp, fc, set57 q1, hp.keep hk (fun hne a ha => hm _ (hd hne a ha).1), fun hne a ha => ?_⟩, h.mout, by simp, fun k hk' => ?_⟩
 ·rw [if_neg hne]; exact List.mem_cons_of_mem _ (mem_blkL ha)
 ·rcases List.mem_cons.1 hk' with rfl | hk'
  ·exact ⟨(h.dw _ h.jd).1, (h.dw _ h.jd).2.1, Nat.lt_of_lt_of_le (h.dw _ h.jd).2.2 hk.size⟩
  ·split at hk'
   ·cases hk'
   ·rename_i hne
    cases fp with
    | none => cases hk'
    | some a =>
     simp only [blkL, List.mem_singleton] at hk'
     subst hk'
     exact ⟨(hd hne a rfl).1, (hd hne a rfl).2, Nat.lt_of_lt_of_le (hp.lt hne a rfl) hk.size⟩
def RX (w x0 : World) (F0 D0 A : List Nat) (y : World) (b : Nat) (M : RS) (mb jb : Nat) (s : MS) (n : Nat) : Prop :=
 ∃ F D, RM w y b M mb jb s n F D ∧ Keep (mb :: F0) x0 y ∧ (∀ k ∈ F, k ∈ F0 ∨ x0.heap.size ≤ k) ∧ ∀ k ∈ D, k ∈ D0 ∨ x0.heap.size ≤ k ∨ k ∈ A
theorem RM.px (h : RM w x b M mb jb s n F D) (A : List Nat) : RX w x F D A x b M mb jb s n := ⟨F, D, h, Keep.refl _ _, fun k hk => Or.inl hk, fun k hk => Or.inl hk⟩
theorem RX.bel (h : RX w x0 F0 D0 A y b M mb jb s n) (hb : Bel y z) : RX w x0 F0 D0 A z b M mb jb s n := by
 obtain ⟨F, D, h1, h2, h3, h4⟩ := h
 exact ⟨F, D, h1.bel hb, h2.then hb, h3, h4⟩
theorem RX.low (h : RX w x0 F0 D0 A y b M mb jb s n) : Bel w y := by obtain ⟨F, D, h1, h2, h3, h4⟩ := h; exact h1.low
theorem RX.good (h : RX w x0 F0 D0 A y b M mb jb s n) : M.ok := by obtain ⟨F, D, h1, h2, h3, h4⟩ := h; exact h1.ok
theorem RX.kp (h : RX w x0 F0 D0 A y b M mb jb s n) : Keep (mb :: F0) x0 y := by obtain ⟨F, D, h1, h2, h3, h4⟩ := h; exact h2
theorem RX.size (h : RX w x0 F0 D0 A y b M mb jb s n) : x0.heap.size ≤ y.heap.size := h.kp.size
theorem RX.boxes (h : RX w x0 F0 D0 A y b M mb jb s n) : ∃ fp fc, y.heap[mb]? = some (.cells #[.pointer (some ⟨jb, 0, none⟩), .slice fp s.files.length fc, .int .i64 s.next, .int .i64 s.seq, .int .i64 s.log, .string s.mt, .int .i64 (n : Int)] 62 (0, 0)) ∧ PlsAt y fp s.files := by
 obtain ⟨F, D, h1, -⟩ := h
 obtain ⟨fp, fc, q1, q2, -⟩ := h1.box
 exact ⟨fp, fc, q1, q2⟩
theorem RX.rebase {x1 : World} (h : RX w x1 F0 D0 A y b M mb jb s n) (hb : Bel x0 x1) : RX w x0 F0 D0 A y b M mb jb s n := by
 obtain ⟨F, D, h1, h2, h3, h4⟩ := h
 exact ⟨F, D, h1, (Keep.of_bel hb _).trans h2 (fun k hk => Or.inl hk), fun k hk => (h3 k hk).imp id (fun h => Nat.le_trans hb.size h), fun k hk => (h4 k hk).imp id (fun h => h.imp (fun h => Nat.le_trans hb.size h) id)⟩
theorem RX.call (h : RX w x0 F0 D0 A y b M mb jb s n) {fn : FuncId} {args : Array Value} {E : Ending → Prop} (hM1 : M1.ok)
  (hc : ∀ F, RJS w.heap.size y b M F jb manB 100000 → Calls Tryz.prog fn args y fun e z => E e ∧ RefTo w.heap.size y z b M1 F) :
  Calls Tryz.prog fn args y fun e z => E e ∧ RX w x0 F0 D0 A z b M1 mb jb s n := by
 obtain ⟨F, D, h1, h2, h3, h4⟩ := h
 refine (hc F h1.js).mono ?_
 rintro e z ⟨he, hT⟩
 obtain ⟨F1, k1, k2, k3⟩ := h1.step hT hM1
 refine ⟨he, F1, D, k1, h2.trans k2 (fun k hk => (h3 k hk).imp (fun h => by simp [h]) id), fun k hk => ?_, h4⟩
 rcases k3 k hk with h | h
 ·exact h3 k h
 ·exact Or.inr (Nat.le_trans h2.size h)
theorem RX.look (h : RX w x0 F0 D0 A y b M mb jb s n) {fn : FuncId} {args : Array Value} {E : Ending → Prop}
  (hc : ∀ F, RJS w.heap.size y b M F jb manB 100000 → Calls Tryz.prog fn args y fun e z => E e ∧ Bel y z) :
  Calls Tryz.prog fn args y fun e z => E e ∧ RX w x0 F0 D0 A z b M mb jb s n ∧ Bel y z := by
 have h0 := h
 obtain ⟨F, D, h1, h2, h3, h4⟩ := h
 refine (hc F h1.js).mono ?_
 rintro e z ⟨he, hb⟩
 exact ⟨he, h0.bel hb, hb⟩
theorem RX.setn (h : RX w x0 F0 D0 A y b M mb jb s n) (v : Int) (hv : v = (n1 : Int)) : RX w x0 F0 D0 A (y.setCell ⟨mb, 6, none⟩ (.int .i64 v)) b M mb jb s n1 := by
 obtain ⟨F, D, h1, h2, h3, h4⟩ := h
 exact ⟨F, D, h1.setn v hv, h2.setCell (p := ⟨mb, 6, none⟩) (Or.inl (by simp)) _, h3, h4⟩
theorem RX.sets (h : RX w x0 F0 D0 A z b M mb jb s n) (hb : Bel z y) (fp : Option Addr) (fc : Nat) (hp : PlsAt y fp s1.files)
  (hd : s1.files ≠ [] → ∀ a, fp = some a → z.heap.size ≤ a.block ∨ (a.block ∈ A ∧ a.block ∉ mb :: F0 ∧ a.block < x0.heap.size)) :
  RX w x0 F0 D0 A (((((y.setCell ⟨mb, 1, none⟩ (.slice fp s1.files.length fc)).setCell ⟨mb, 2, none⟩ (.int .i64 s1.next)).setCell ⟨mb, 3, none⟩ (.int .i64 s1.seq)).setCell ⟨mb, 4, none⟩ (.int .i64 s1.log)).setCell ⟨mb, 5, none⟩ (.string s1.mt)) b M mb jb s1 n := by
 have hsz := h.size
 obtain ⟨F, D, h1, h2, h3, h4⟩ := h
 refine ⟨F, _, (h1.bel hb).sets fp fc hp (fun hne a ha => ?_), (h2.then hb).trans (keep57.mono (fun k hk => hk)) (fun k hk => Or.inl (by rw [List.mem_singleton] at hk; simp [hk])), h3, fun k hk => ?_⟩
 ·rcases hd hne a ha with h | ⟨-, h5, h6⟩
  ·exact ⟨fun e => by have := h1.mlt; omega, fun hm => by have := (h1.flt _ hm).2; omega⟩
  ·refine ⟨fun e => h5 (by simp [e]), fun hm => ?_⟩
   rcases h3 _ hm with h | h
   ·exact h5 (by simp [h])
   ·omega
 ·rcases List.mem_cons.1 hk with rfl | hk
  ·exact h4 _ h1.jd
  ·split at hk
   ·cases hk
   ·rename_i hne
    cases fp with
    | none => cases hk
    | some a =>
     simp only [blkL, List.mem_singleton] at hk
     subst hk
     rcases hd hne a rfl with h | ⟨h, -⟩
     ·exact Or.inr (Or.inl (by omega))
     ·exact Or.inr (Or.inr h)
end
end Go.Proofs.YtfbiinnenlgkfaaGreatDoor
set_option maxRecDepth 100000
namespace Go.Proofs.YtfbiinnenlgkfaaGreatDoor
open Go.RowKit Go.Deep

theorem lastM_take {L : List (List (List UInt8))} {i : Nat} (hi : i < L.length) (st : MS) : lastM st (L.take (i + 1)) = oneM (lastM st (L.take i)) L[i] := by
 rw [List.take_add_one, List.getElem?_eq_getElem hi, lastM_append]; rfl
theorem oneM_skip {b : List (List UInt8)} (h : b.length ≠ 1) (st : MS) : oneM st b = st := by
 match b, h with
 | [], _ => rfl
 | [t], h => exact absurd rfl h
 | _ :: _ :: _, _ => rfl
theorem oneM_yes {t : List UInt8} (h : unpEr t = 0) (st : MS) : oneM st [t] = unpSt t := by
 rcases unp_cases t with ⟨_, h2, _⟩ | ⟨h1, _⟩
 ·show (unpackM t).getD st = _
  rw [h2]; rfl
 ·rw [h1] at h; cases h
theorem oneM_no {t : List UInt8} (h : unpEr t ≠ 0) (st : MS) : oneM st [t] = st := by
 rcases unp_cases t with ⟨h1, _⟩ | ⟨_, h2, _⟩
 ·exact absurd h1 h
 ·show (unpackM t).getD st = _
  rw [h2]; rfl
theorem row_get13 {P : Nat → Prop} {x : World} {p : Option Addr} {L : List (List (List UInt8))} (h : RowL P x p L) {i : Nat} (hi : i < L.length) :
  ∃ a q c, p = some a ∧ x.cell? (a.add i) = some (.slice q L[i].length c) ∧ StrsAt x q L[i] := by
 obtain ⟨H, h1, h2, h3⟩ := h.ex
 have hs : H[i]? = some (H[i]'(by omega)) := List.getElem?_eq_getElem _
 obtain ⟨a, ha, -, hc⟩ := h2 i _ hs
 have hq := h3 i _ L[i] hs (List.getElem?_eq_getElem hi)
 exact ⟨a, _, _, ha, by rw [hc]; show some (Value.slice _ _ _) = _; rw [hq.len], hq.at_⟩
def LastPost (w : World) (s : MS) (e : Ending) (y : World) : Prop := ∃ q d, e = .returned (.agg #[.slice q s.files.length d, .int .i64 s.next, .int .i64 s.seq, .int .i64 s.log, .string s.mt]) ∧
 PlsAt y q s.files ∧ (∀ a, q = some a → w.heap.size ≤ a.block) ∧ Bel w y
set_option maxHeartbeats 8000000 in
theorem last13_any (P : Nat → Prop) (w : World) (p : Option Addr) (c : Nat) (L : List (List (List UInt8))) (h : RowL P w p L) (hL : L.length ≤ 1000000000) (ht : ∀ b ∈ L, ∀ t ∈ b, t.length ≤ 1000000) :
  Calls Tryz.prog 59 #[.slice p L.length c] w (LastPost w (lastM initM L)) := by
 have H := Lib.hid h
 have HTT := Lib.hid ht
 clear h ht
 go_enter Tryz.func59, Tryz.ntmps59
 go_wp2_with (fail)
 obtain ⟨S, hS⟩ : ∃ S, S = w.heap.size + 1 := ⟨_, rfl⟩
 obtain ⟨w2, hw2⟩ : ∃ w2, w2 = ((w.alloc (.cells #[.slice none 0 0, .int .i64 0, .int .i64 0, .int .i64 0, .string ⟨#[]⟩] 24)).alloc (.cells #[.slice none 0 0, .int .i64 1, .int .i64 0, .int .i64 1, .string ⟨#[]⟩] 24)) := ⟨_, rfl⟩
 have kR : w2.heap[w.heap.size]? = some (.cells #[.slice none 0 0, .int .i64 0, .int .i64 0, .int .i64 0, .string ⟨#[]⟩] 24 (0, 0)) := by
  rw [hw2]; exact (Below.block ((Bel.refl (w.alloc _)).alloc _) w.heap.size (by simp)).trans (heap_alloc_new w _)
 have kS : w2.heap[S]? = some (.cells #[.slice none 0 0, .int .i64 1, .int .i64 0, .int .i64 1, .string ⟨#[]⟩] 24 (0, 0)) := by
  have e : (w.alloc (.cells #[.slice none 0 0, .int .i64 0, .int .i64 0, .int .i64 0, .string ⟨#[]⟩] 24)).heap.size = S := by rw [hS]; simp
  rw [hw2, ← e]; exact heap_alloc_new _ _
 have HB2 := Lib.hid (show Bel w w2 by rw [hw2]; exact ((Bel.refl w).alloc _).alloc _)
 have HZ2 := Lib.hid (show w2.heap.size = S + 1 by rw [hw2, hS]; simp)
 rw [← hw2, ← hS]
 have HS := Lib.hid hS
 have HKR := Lib.hid kR
 have HKS := Lib.hid kS
 clear hw2 hS kR kS
 go_loopw [11] (fun iv x => ∃ (i : Nat) (st : MS) (q : Option Addr) (d : Nat), iv = .int .i64 i ∧ i ≤ L.length ∧ st = lastM initM (L.take i) ∧ x.heap[S]? = some (.cells #[.slice q st.files.length d, .int .i64 st.next, .int .i64 st.seq, .int .i64 st.log, .string st.mt] 24 (0, 0)) ∧
  PlsAt x q st.files ∧ (∀ a, q = some a → S < a.block) ∧ Keep [S] w2 x) (fun iv _ => L.length - (intOf iv).toNat)
 case atStart => exact ⟨0, initM, none, 0, rfl, Nat.zero_le _, rfl, HKS.out, PlsAt.nil _ _, (fun a ha => by cases ha), Keep.refl _ _⟩
 case round =>
  obtain ⟨i, st, q, d, rfl, hi, hst, hbx, hpl, hql, hkp⟩ := hrel
  have HST := Lib.hid hst
  have HBX := Lib.hid hbx
  have HPL := Lib.hid hpl
  have HQL := Lib.hid hql
  have HKP := Lib.hid hkp
  have HBW := Lib.hid (bel_keep HB2.out hkp (fun k hk => by rw [List.mem_singleton] at hk; have := HS.out; omega))
  have HZW := Lib.hid (show S + 1 ≤ wr.heap.size by rw [← HZ2.out]; exact hkp.size)
  clear hst hbx hpl hql hkp
  by_cases hil : i < L.length
  ·have hii : (i : Int) < (L.length : Int) := by omega
   obtain ⟨a, bq, bc, rfl, hc, hstrs⟩ := row_get13 (H.out.bel HBW.out) hil
   have HTK := Lib.hid (lastM_take hil initM)
   have HTB := Lib.hid (HTT.out L[i] (List.getElem_mem hil))
   obtain ⟨B, hB⟩ : ∃ B, B = L[i] := ⟨_, rfl⟩
   rw [← hB] at hc hstrs HTK HTB
   rw [← HST.out] at HTK
   have HSTR := Lib.hid hstrs
   clear hB hstrs
   by_cases hb1 : B.length = 1
   ·obtain ⟨t, rfl⟩ : ∃ t, B = [t] := by
     match B, hb1 with
     | [t], _ => exact ⟨t, rfl⟩
    obtain ⟨a1, rfl, hc1⟩ := HSTR.out 0 (by simp)
    have hc1' : wr.cell? a1 = some (.string ⟨t.toArray⟩) := by
     have : a1.add 0 = a1 := by simp [Addr.add]
     rw [this] at hc1; exact hc1
    have htl : (⟨t.toArray⟩ : ByteArray).size ≤ 1000000 := by rw [show (⟨t.toArray⟩ : ByteArray).size = t.length by show t.toArray.size = _; simp]; exact HTB.out t (by simp)
    have HUN := Lib.hid (show ∀ z, Calls Tryz.prog 13 #[.string ⟨t.toArray⟩] z fun e y => ∃ p c, e = .returned (.tuple #[.agg #[.slice p (unpSt t).files.length c, .int .i64 (unpSt t).next, .int .i64 (unpSt t).seq, .int .i64 (unpSt t).log, .string (unpSt t).mt], .int .i64 (unpEr t)]) ∧ OwnG plElP z.heap.size y (.slice p (unpSt t).files.length c) (unpSt t).files ∧ Bel z y from fun z => by
     have := unpack13_any ⟨t.toArray⟩ z htl
     rw [show (⟨t.toArray⟩ : ByteArray).data.toList = t by simp] at this
     exact this)
    simp only [List.length_singleton] at hc
    clear hc1
    go_wp2_with (fail)
    refine (HUN.out _).mono ?_
    rintro e x1 ⟨q1, d1, rfl, ho1, hb1'⟩
    have HO1 := Lib.hid ho1
    have HB1 := Lib.hid hb1'
    have HU := Lib.hid (unp_cases t)
    obtain ⟨u, hu⟩ : ∃ u, u = unpSt t := ⟨_, rfl⟩
    have HUE := Lib.hid hu
    rw [← hu] at HO1 ⊢
    clear ho1 hb1' hu
    by_cases he : unpEr t = 0
    ·have HNX := Lib.hid (show u = lastM initM (L.take (i + 1)) by rw [HTK.out, oneM_yes he, HUE.out])
     rw [he]
     have HA := Lib.hid (show Bel x1 (x1.alloc (.cells #[.slice q1 u.files.length d1, .int .i64 u.next, .int .i64 u.seq, .int .i64 u.log, .string u.mt] 24)) from (Bel.refl x1).alloc _)
     obtain ⟨⟨s0, s1, s2, s3, s4⟩, f0, f1, f2, f3, f4⟩ := box5 (box_bel (box_bel HBX.out HB1.out) ((Bel.refl x1).alloc (.cells #[.slice q1 u.files.length d1, .int .i64 u.next, .int .i64 u.seq, .int .i64 u.log, .string u.mt] 24)))
     clear he
     go_wp2_with (fail)
     go_roundw
     case rel =>
      refine ⟨i + 1, u, q1, d1, by go_num, hil, HNX.out, set5 (box_bel (box_bel HBX.out HB1.out) HA.out), ?_, fun a ha => ?_, ((HKP.out.then HB1.out).then HA.out).trans keep5 (fun k hk => Or.inl hk)⟩
      ·refine (pls_ownP (HO1.out.bel HA.out)).keep keep5 (fun hne a ha hm => ?_)
       rw [List.mem_singleton] at hm
       subst ha
       have := (HO1.out.lt _ rfl).1
       have := HZW.out; omega
      ·subst ha
       have := (HO1.out.lt _ rfl).1
       have := HZW.out; omega
     case measure => simp [intOf]; omega
    ·have HNX := Lib.hid (show st = lastM initM (L.take (i + 1)) by rw [HTK.out, oneM_no he])
     have he1 : (unpEr t == 0) = false := by rw [beq_eq_false_iff_ne]; exact he
     have HB1' := Lib.hid (show Bel wr (x1.alloc (.cells #[.slice q1 u.files.length d1, .int .i64 u.next, .int .i64 u.seq, .int .i64 u.log, .string u.mt] 24)) from HB1.out.alloc _)
     generalize unpEr t = er at *
     clear he
     go_wp2_with (fail)
     go_roundw
     case rel => exact ⟨i + 1, st, q, d, by go_num, hil, HNX.out, box_bel HBX.out HB1'.out, HPL.out.bel HB1'.out, HQL.out, HKP.out.then HB1'.out⟩
     case measure => simp [intOf]; omega
   ·have HNX := Lib.hid (show st = lastM initM (L.take (i + 1)) by rw [HTK.out, oneM_skip hb1])
    have hb1i : ¬ (B.length : Int) = 1 := by omega
    go_wp2_with (fail)
    go_roundw
    case rel => exact ⟨i + 1, st, q, d, by go_num, hil, HNX.out, HBX.out, HPL.out, HQL.out, HKP.out⟩
    case measure => simp [intOf]; omega
  ·have hii : ¬ (i : Int) < (L.length : Int) := by omega
   have HNX := Lib.hid (show lastM initM L = st by rw [HST.out, List.take_of_length_le (by omega)])
   obtain ⟨⟨s0, s1, s2, s3, s4⟩, -⟩ := box5 HBX.out
   obtain ⟨⟨r0, r1, r2, r3, r4⟩, f0, f1, f2, f3, f4⟩ := box5 (HKP.out.at HKR.out (by rw [List.mem_singleton]; have := HS.out; omega))
   go_wp2_with (fail)
   refine bodyPost_ret (v := .agg #[.slice q st.files.length d, .int .i64 st.next, .int .i64 st.seq, .int .i64 st.log, .string st.mt]) (by simp [results, Tryz.results59, go_sem, r0, r1, r2, r3, r4, f0, f1, f2, f3, f4]) rfl ⟨q, d, by rw [HNX.out], ?_, fun a ha => ?_, ?_⟩
   ·rw [HNX.out]
    refine HPL.out.keep (keep5 (k := w.heap.size)) (fun hne a ha hm => ?_)
    rw [List.mem_singleton] at hm
    have := HQL.out a ha
    have := HS.out; omega
   ·have := HQL.out a ha
    have := HS.out; omega
   ·repeat' first | exact HBW.out | refine Bel.setCell ?_ (by simp) _ | refine Bel.drewN ?_ _
end Go.Proofs.YtfbiinnenlgkfaaGreatDoor
set_option maxRecDepth 100000
namespace Go.Proofs.YtfbiinnenlgkfaaGreatDoor
open Go.RowKit Go.Deep Go.Maps

theorem strs_one {W : World} {B : Nat} {t : List UInt8} {T : TypeId} (h : W.heap[B]? = some (.cells #[.string ⟨t.toArray⟩] T (0, 0))) : StrsAt W (some ⟨B, 0, none⟩) [t] := fun i hi => by
 match i, hi with
 | 0, _ => exact ⟨_, rfl, box_cell h 0⟩
theorem enc_ok {s : MS} (h : rightM s = true) : ∀ t ∈ [encM s], t.length ≤ 1000000 := fun t ht => by
 rw [List.mem_singleton] at ht; subst ht
 have := encM_len h; omega
set_option maxHeartbeats 8000000 in
theorem set13_any (w x0 : World) (b : Nat) (M : RS) (mb jb : Nat) (s0 : MS) (n : Nat) (F0 D0 : List Nat) (h : PM w x0 b M mb jb s0 n F0 D0) (p : Option Addr) (c : Nat) (s : MS) (hs : PlsAt x0 p s.files) (hsp : s.files ≠ [] → ∀ a, p = some a → a.block ∉ mb :: F0)
  (hl : s.files.length ≤ 100000) (hz : s.mt.size ≤ 100000000) (h0 : lastN manP M.L ≠ 0) (h9 : lastN manP M.L < 9999997) (hn : n ≤ 1000000) :
  Calls Tryz.prog 30 #[.pointer (some ⟨mb, 0, none⟩), .agg #[.slice p s.files.length c, .int .i64 s.next, .int .i64 s.seq, .int .i64 s.log, .string s.mt]] x0 fun e y => e = .returned (.int .i64 (mset s0 n s M).e) ∧ PX w x0 F0 D0 [] y b (mset s0 n s M).M mb jb (mset s0 n s M).s (mset s0 n s M).n := by
 obtain ⟨X, hX⟩ : ∃ X, X = x0.heap.size := ⟨_, rfl⟩
 obtain ⟨x1, hx1⟩ : ∃ z, z = x0.alloc (.cells #[.slice p s.files.length c, .int .i64 s.next, .int .i64 s.seq, .int .i64 s.log, .string s.mt] 24) := ⟨_, rfl⟩
 have hB1 : Bel x0 x1 := by rw [hx1]; exact (Bel.refl x0).alloc _
 have HKA := Lib.hid (show x1.heap[X]? = some (.cells #[.slice p s.files.length c, .int .i64 s.next, .int .i64 s.seq, .int .i64 s.log, .string s.mt] 24 (0, 0)) by rw [hx1, hX]; exact tnew13 x0 _ _)
 have HX := Lib.hid hX
 have H1 := Lib.hid ((h.bel hB1).px [])
 have HB01 := Lib.hid hB1
 have HXF := Lib.hid (show X ∉ mb :: F0 from fun hm => by
  rcases List.mem_cons.1 hm with e | hm
  ·have := h.mlt; omega
  ·have := (h.flt X hm).2; omega)
 have HSP := Lib.hid (fun (y : World) (hk : Keep (mb :: F0) x0 y) => hs.keep hk hsp)
 have HPK := Lib.hid (pack13_any p c s x1 (hs.bel hB1) hl hz)
 have HFL := Lib.hid (show ∀ k ∈ F0, k < x0.heap.size from fun k hk => (h.flt k hk).2)
 have HML := Lib.hid h.mlt
 obtain ⟨⟨a0, a1, a2, a3, a4⟩, -⟩ := box5 HKA.out
 have HNN := Lib.hid hn
 have H0 := Lib.hid h0
 have H9 := Lib.hid h9
 clear h hs hsp h0 h9
 go_enter Tryz.func30, Tryz.ntmps30
 go_wp2_with (fail)
 rw [show (x0.alloc (.cells #[.slice p s.files.length c, .int .i64 s.next, .int .i64 s.seq, .int .i64 s.log, .string s.mt] 24)) = x1 from hx1.symm, ← hX]
 clear hx1 hX hB1
 refine HPK.out.mono ?_
 rintro r x2 ⟨rfl, hb2⟩
 have H2 := Lib.hid (H1.out.bel hb2)
 have HKA2 := Lib.hid (box_bel HKA.out hb2)
 clear hb2 HPK a0 a1 a2 a3 a4
 cases hr : rightM s with
 | false =>
  have HV := Lib.hid (pack_no hr)
  have HM := Lib.hid (mset_wrong (s0 := s0) (n := n) (M := M) hr)
  clear hr
  rw [HV.out]
  go_wp2_with (fail)
  go_ret
  rw [HM.out]
  exact ⟨rfl, H2.out.rebase HB01.out⟩
 | true =>
 have HV := Lib.hid (pack_yes hr)
 have HR := Lib.hid hr
 clear hr
 rw [HV.out]
 obtain ⟨fp, fc, hbx, -⟩ := H2.out.boxes
 obtain ⟨⟨c0, c1, c2, c3, c4, c5, c6⟩, e0, e1, e2, e3, e4, e5, e6⟩ := box7 hbx
 obtain ⟨⟨a0, a1, a2, a3, a4⟩, -⟩ := box5 HKA2.out
 have HBX := Lib.hid hbx
 clear hbx
 go_wp2_with (fail)
 refine wp_region_held_drew (S := fun z => (z.cell? ⟨mb, 1, none⟩ = some (.slice fp s0.files.length fc) ∧ z.cell? ⟨mb, 2, none⟩ = some (.int .i64 s0.next) ∧ z.cell? ⟨mb, 3, none⟩ = some (.int .i64 s0.seq) ∧ z.cell? ⟨mb, 4, none⟩ = some (.int .i64 s0.log) ∧ z.cell? ⟨mb, 5, none⟩ = some (.string s0.mt)) ∧
  z.cell? ⟨X, 0, none⟩ = some (.slice p s.files.length c) ∧ z.cell? ⟨X, 1, none⟩ = some (.int .i64 s.next) ∧ z.cell? ⟨X, 2, none⟩ = some (.int .i64 s.seq) ∧ z.cell? ⟨X, 3, none⟩ = some (.int .i64 s.log) ∧ z.cell? ⟨X, 4, none⟩ = some (.string s.mt)) (by kernel_rfl) ⟨⟨c1, c2, c3, c4, c5⟩, a0, a1, a2, a3, a4⟩ (fun hHeld => ?_)
 refine tq ⟨some 18, .move (.tmp 0), 56, "manifest.go:51", #[], none⟩ ?_ 0 rfl ?_ ?_;rotate_left;·(intros;go_simp<;>with_reducible rfl)
 try simp only[Act.put,sqA,sqB,sqC]
 refine tq ⟨some 19, .nilCheck (.tmp 18), 0, "manifest.go:51", #[⟨0, .data⟩], none⟩ ?_ 1 rfl ?_ ?_;rotate_left;·(intros;go_simp<;>with_reducible rfl)
 try simp only[Act.put,sqA,sqB,sqC]
 refine tq ⟨some 20, .fieldAddr 110 (.tmp 19) 1, 0, "manifest.go:51", #[⟨1, .data⟩], none⟩ ?_ 2 rfl ?_ ?_;rotate_left;·(intros;go_simp<;>with_reducible rfl)
 try simp only[Act.put,sqA,sqB,sqC]
 refine tq ⟨some 21, .load 24 (.tmp 20), 24, "manifest.go:51", #[⟨2, .data⟩], none⟩ ?_ 3 rfl ?_ ?_;rotate_left;·(intros;go_simp<;>with_reducible rfl)
 try simp only[Act.put,sqA,sqB,sqC]
 refine tq ⟨some 22, .load 24 (.tmp 3), 24, "manifest.go:51", #[], none⟩ ?_ 4 rfl ?_ ?_;rotate_left;·(intros;go_simp<;>with_reducible rfl)
 try simp only[Act.put,sqA,sqB,sqC]
 refine wpAnyH_ready (rs := [5]) (by kernel_rfl) (by simp) ?_
 refine ar1 ⟨some 23, .call ⟨.value (.func 50), #[.tmp 21, .tmp 22], #[24, 24]⟩, 4, "manifest.go:51", #[⟨3, .data⟩, ⟨4, .data⟩], none⟩ rfl (fun K hK => ?_)
 go_simp
 refine (may_any (.slice fp s0.files.length fc) (.slice p s.files.length c) s0 s x2.drew).mono ?_
 rintro e x3 ⟨rfl, hb3⟩
 have hb3' : Bel x2 x3 := (Bel.refl x2).drew.trans hb3
 have H3 := Lib.hid (H2.out.bel hb3')
 have HKA3 := Lib.hid (box_bel HKA2.out hb3')
 have HBX3 := Lib.hid (box_bel HBX.out hb3')
 obtain ⟨⟨d0, d1, d2, d3, d4, d5, d6⟩, q0, q1, q2, q3, q4, q5, q6⟩ := box7 HBX3.out
 obtain ⟨⟨b0, b1, b2, b3, b4⟩, -⟩ := box5 HKA3.out
 dsimp only
 refine hK.out _ _ ⟨⟨d1, d2, d3, d4, d5⟩, b0, b1, b2, b3, b4⟩ (fun hHeld => ?_);clear hK K;try simp only[Act.put,sqA,sqB,sqC]
 refine tq ⟨some 24, .unOp .not 4 (.tmp 23), 4, "manifest.go:51", #[⟨5, .data⟩], none⟩ ?_ 6 rfl ?_ ?_;rotate_left;·(intros;go_simp<;>with_reducible rfl)
 try simp only[Act.put,sqA,sqB,sqC]
 refine wpAnyH_done (by kernel_rfl) ?_ _
 clear hHeld hb3 hb3' c0 c1 c2 c3 c4 c5 c6 e0 e1 e2 e3 e4 e5 e6 a0 a1 a2 a3 a4 b0 b1 b2 b3 b4 HBX H2 HKA2
 cases hmb : mayB s0 s with
 | false =>
  have HM := Lib.hid (mset_less (s0 := s0) (n := n) (M := M) HR.out hmb)
  clear hmb
  go_wp2_with (fail)
  go_ret
  rw [HM.out]
  exact ⟨rfl, H3.out.rebase HB01.out⟩
 | true =>
 have HMB := Lib.hid hmb
 clear hmb
 -- WAYS
 have HMT := Lib.hid (show ∀ k, k = n → k = n from fun _ h => h)
 clear HMT
 obtain ⟨x4, hx4⟩ : ∃ x4, x4 = x3.setCell ⟨mb, 6, none⟩ (.int .i64 ((n : Int) + 1)) := ⟨_, rfl⟩
 have H4 := Lib.hid (show PX w x1 F0 D0 [] x4 b M mb jb s0 (n + 1) by rw [hx4]; exact H3.out.setn (n1 := n + 1) _ (by omega))
 by_cases hn8 : n % 8 = 0
 ·have HN8 := Lib.hid hn8
  have hni : ((n : Int) % 8 == 0) = true := by rw [beq_iff_eq]; omega
  have HMT := Lib.hid (show mturn n M = jturn manP M by unfold mturn; rw [if_pos hn8])
  go_wp2_with (fail)
  rw [← hx4]
  obtain ⟨fp4, fc4, hbx4, -⟩ := H4.out.boxes
  obtain ⟨⟨d0, d1, d2, d3, d4, d5, d6⟩, q0, q1, q2, q3, q4, q5, q6⟩ := box7 hbx4
  clear hbx4 hx4
  refine (H4.out.call (mturn_ok (n := n) H4.out.good) (E := fun e => e = .returned (.int .i64 (mturn n M).1)) (fun F hF => ?_)).mono ?_
  ·rw [HMT.out]
   exact jturn_any _ _ b M F jb manB 100000 hF manB_size (by have := H9.out; show lastN manP M.L < _; omega)
  rintro e x5 ⟨rfl, h5⟩
  have H5 := Lib.hid h5
  clear h5 d0 d1 d2 d3 d4 d5 d6 q0 q1 q2 q3 q4 q5 q6
  obtain ⟨te, M5, hmt⟩ : ∃ te M5, mturn n M = (te, M5) := ⟨_, _, rfl⟩
  have HM5 := Lib.hid hmt
  have HL5 := Lib.hid (mturn_last (n := n) H4.out.good (by have := H9.out; omega))
  rw [hmt] at H5 HL5
  rw [hmt]
  by_cases hte : te = 0
  rotate_left
  ·have HM := Lib.hid (mset_turn (s0 := s0) (n := n) (M := M) HR.out HMB.out (by rw [hmt]; exact hte))
   rw [hmt] at HM
   have hte1 : (te != 0) = true := by rw [bne_iff_ne]; exact hte
   clear hmt
   go_wp2_with (fail)
   go_ret
   rw [HM.out]
   exact ⟨rfl, H5.out.rebase HB01.out⟩
  subst hte
  clear hmt
  obtain ⟨fp5, fc5, hbx5, -⟩ := H5.out.boxes
  obtain ⟨⟨d0, d1, d2, d3, d4, d5, d6⟩, q0, q1, q2, q3, q4, q5, q6⟩ := box7 hbx5
  clear hbx5
  obtain ⟨Y, hY⟩ : ∃ Y, Y = x5.heap.size := ⟨_, rfl⟩
  obtain ⟨x6, hx6⟩ : ∃ x6, x6 = x5.alloc (.cells #[.string ⟨(encM s).toArray⟩] 9) := ⟨_, rfl⟩
  have H6 := Lib.hid (show PX w x1 F0 D0 [] x6 b M5 mb jb s0 (n + 1) by rw [hx6]; exact H5.out.bel ((Bel.refl x5).alloc _))
  have HST := Lib.hid (show StrsAt x6 (some ⟨Y, 0, none⟩) [encM s] by rw [hx6, hY]; exact strs_one (heap_alloc_new x5 _))
  go_wp2_with (fail)
  rw [← hx6, ← hY]
  clear hx6 hY d0 d1 d2 d3 d4 d5 d6 q0 q1 q2 q3 q4 q5 q6
  refine (H6.out.call (mwrite_ok (s := s) H6.out.good) (E := fun e => e = .returned (.int .i64 (mwrite s M5).1)) (fun F hF => write_any _ _ b M5 F jb manB 100000 (some ⟨Y, 0, none⟩) 1 [encM s] hF manB_size (by have := H0.out; have := HL5.out; show lastN manP M5.L ≠ 0; omega) (by have := H9.out; have := HL5.out; show lastN manP M5.L < _; omega) (show in64 100000 from ⟨by omega, by omega⟩) HST.out (by unfold maxLen; simp) (enc_ok HR.out))).mono ?_
  rintro e x7 ⟨rfl, h7⟩
  have H7 := Lib.hid h7
  clear h7
  obtain ⟨we, M7, hmw⟩ : ∃ we M7, mwrite s M5 = (we, M7) := ⟨_, _, rfl⟩
  have HM7 := Lib.hid hmw
  rw [hmw] at H7
  rw [hmw]
  by_cases hwe : we = 0
  rotate_left
  ·have HM := Lib.hid (mset_write (s0 := s0) (n := n) (M := M) HR.out HMB.out (by rw [HM5.out]) (by rw [HM5.out, hmw]; exact hwe))
   rw [HM5.out] at HM
   simp only at HM
   rw [hmw] at HM
   have hwe1 : (we != 0) = true := by rw [bne_iff_ne]; exact hwe
   clear hmw
   go_wp2_with (fail)
   go_ret
   rw [HM.out]
   exact ⟨rfl, H7.out.rebase HB01.out⟩
  subst hwe
  have HM := Lib.hid (mset_all (s0 := s0) (n := n) (M := M) HR.out HMB.out (by rw [HM5.out]) (by rw [HM5.out, hmw]))
  rw [HM5.out] at HM
  simp only at HM
  rw [hmw] at HM
  clear hmw
  have HK7 := Lib.hid (H7.out.rebase HB01.out).kp
  have HKA7 := Lib.hid (H7.out.kp.at HKA.out HXF.out)
  obtain ⟨⟨a0, a1, a2, a3, a4⟩, -⟩ := box5 HKA7.out
  go_wp2_with (fail)
  refine (copied_any p c s x7 (HSP.out x7 HK7.out) hl).mono ?_
  rintro e x8 ⟨p8, c8, rfl, ho8, hb8⟩
  have HO8 := Lib.hid ho8
  have H8 := Lib.hid (H7.out.bel hb8)
  obtain ⟨fp8, fc8, hbx8, -⟩ := H8.out.boxes
  obtain ⟨⟨d0, d1, d2, d3, d4, d5, d6⟩, q0, q1, q2, q3, q4, q5, q6⟩ := box7 hbx8
  obtain ⟨x9, hx9⟩ : ∃ x9, x9 = (((((x8.setCell ⟨mb, 1, none⟩ (.slice p8 s.files.length c8)).setCell ⟨mb, 2, none⟩ (.int .i64 s.next)).setCell ⟨mb, 3, none⟩ (.int .i64 s.seq)).setCell ⟨mb, 4, none⟩ (.int .i64 s.log)).setCell ⟨mb, 5, none⟩ (.string s.mt)) := ⟨_, rfl⟩
  have H9x := Lib.hid (show PX w x1 F0 D0 [] x9 b M7 mb jb s (n + 1) by
   rw [hx9]
   refine H7.out.sets hb8 p8 c8 (pls_ownP ho8) (fun hne a ha => Or.inl ?_)
   subst ha
   exact (ho8.lt _ rfl).1)
  clear hbx8 ho8 hb8 a0 a1 a2 a3 a4
  go_wp2_with (fail)
  rw [← hx9]
  obtain ⟨fp9, fc9, hbx9, -⟩ := H9x.out.boxes
  have g0 := box_cell hbx9 0
  simp only [List.getElem?_toArray, List.getElem?_cons_zero] at g0
  clear hx9 hbx9 d0 d1 d2 d3 d4 d5 d6 q0 q1 q2 q3 q4 q5 q6
  refine wp_region_held_drew (S := fun z => z.cell? ⟨mb, 0, none⟩ = some (.pointer (some ⟨jb, 0, none⟩))) (by kernel_rfl) g0 (fun hHeld => ?_)
  refine tq ⟨some 68, .move (.tmp 0), 56, "manifest.go:71", #[], none⟩ ?_ 0 rfl ?_ ?_;rotate_left;·(intros;go_simp<;>with_reducible rfl)
  try simp only[Act.put,sqA,sqB,sqC]
  refine tq ⟨some 69, .nilCheck (.tmp 68), 0, "manifest.go:71", #[⟨0, .data⟩], none⟩ ?_ 1 rfl ?_ ?_;rotate_left;·(intros;go_simp<;>with_reducible rfl)
  try simp only[Act.put,sqA,sqB,sqC]
  refine tq ⟨some 70, .fieldAddr 110 (.tmp 69) 0, 0, "manifest.go:71", #[⟨1, .data⟩], none⟩ ?_ 2 rfl ?_ ?_;rotate_left;·(intros;go_simp<;>with_reducible rfl)
  try simp only[Act.put,sqA,sqB,sqC]
  refine tq ⟨some 71, .load 108 (.tmp 70), 108, "manifest.go:71", #[⟨2, .data⟩], none⟩ ?_ 3 rfl ?_ ?_;rotate_left;·(intros;go_simp<;>with_reducible rfl)
  try simp only[Act.put,sqA,sqB,sqC]
  refine tq ⟨some 72, .move (.tmp 0), 56, "manifest.go:71", #[], none⟩ ?_ 4 rfl ?_ ?_;rotate_left;·(intros;go_simp<;>with_reducible rfl)
  try simp only[Act.put,sqA,sqB,sqC]
  refine tq ⟨some 73, .nilCheck (.tmp 72), 0, "manifest.go:71", #[⟨4, .data⟩], none⟩ ?_ 5 rfl ?_ ?_;rotate_left;·(intros;go_simp<;>with_reducible rfl)
  try simp only[Act.put,sqA,sqB,sqC]
  refine tq ⟨some 74, .fieldAddr 110 (.tmp 73) 0, 0, "manifest.go:71", #[⟨5, .data⟩], none⟩ ?_ 6 rfl ?_ ?_;rotate_left;·(intros;go_simp<;>with_reducible rfl)
  try simp only[Act.put,sqA,sqB,sqC]
  refine tq ⟨some 75, .load 108 (.tmp 74), 108, "manifest.go:71", #[⟨6, .data⟩], none⟩ ?_ 7 rfl ?_ ?_;rotate_left;·(intros;go_simp<;>with_reducible rfl)
  try simp only[Act.put,sqA,sqB,sqC]
  refine wpAnyH_ready (rs := [8]) (by kernel_rfl) (by simp) ?_
  refine ar1 ⟨some 76, .call ⟨.value (.func 54), #[.tmp 75], #[108]⟩, 3, "manifest.go:71", #[⟨7, .data⟩], none⟩ rfl (fun K hK => ?_)
  go_simp
  refine ((H9x.out.bel (Bel.refl x9).drew).look (E := fun e => e = .returned (.int .i64 ((lastN manP M7.L : Nat) : Int))) (fun F hF => num_any _ _ jb b manB 100000 M7 F hF.prog hF.ok hF.j manB_size hF.std0)).mono ?_
  rintro e x10 ⟨rfl, h10, hb10⟩
  have H10 := Lib.hid h10
  have hb10' : Bel x9 x10 := (Bel.refl x9).drew.trans hb10
  dsimp only
  refine hK.out _ _ (cl13 hb10' g0) (fun hHeld => ?_)
  clear hK K h10 hb10 hb10' g0
  try simp only[Act.put,sqA,sqB,sqC]
  refine wpAnyH_ready (rs := [9]) (by kernel_rfl) (by simp) ?_
  refine ar1 ⟨some 77, .call ⟨.value (.func 53), #[.tmp 71, .tmp 76], #[108, 3]⟩, 31, "manifest.go:71", #[⟨3, .data⟩, ⟨8, .data⟩, ⟨8, .chain⟩], none⟩ rfl (fun K hK => ?_)
  go_simp
  have HLL := Lib.hid (last_le manP M7.L)
  refine (H10.out.call (mtrim_ok (n := n) H10.out.good) (E := fun e => e = .returned (.int .i64 (mtrim n M7).1)) (fun F hF => ?_)).mono ?_
  ·rw [show mtrim n M7 = jtrim manP ((lastN manP M7.L : Nat) : Int) M7 by unfold mtrim; rw [if_pos HN8.out]]
   exact trim_any _ _ b M7 F jb manB 100000 _ hF manB_size (by have := HLL.out; constructor <;> omega)
  rintro e x11 ⟨rfl, h11⟩
  have H11 := Lib.hid h11
  obtain ⟨fp11, fc11, hbx11, -⟩ := h11.boxes
  have g0 := box_cell hbx11 0
  simp only [List.getElem?_toArray, List.getElem?_cons_zero] at g0
  dsimp only
  refine hK.out _ _ g0 (fun hHeld => ?_)
  clear hK K h11 hbx11 g0
  try simp only[Act.put,sqA,sqB,sqC]
  refine tq ⟨some 4, .assign (.tmp 77), 31, "manifest.go:71", #[⟨9, .data⟩, ⟨9, .chain⟩, ⟨0, .phase⟩, ⟨1, .phase⟩, ⟨2, .phase⟩, ⟨3, .phase⟩, ⟨4, .phase⟩, ⟨5, .phase⟩, ⟨6, .phase⟩, ⟨7, .phase⟩, ⟨8, .phase⟩, ⟨9, .phase⟩], none⟩ ?_ 10 rfl ?_ ?_;rotate_left;·(intros;go_simp<;>with_reducible rfl)
  try simp only[Act.put,sqA,sqB,sqC]
  refine wpAnyH_done (by kernel_rfl) ?_ _
  go_wp2_with (fail)
  go_ret
  rw [HM.out]
  exact ⟨rfl, H11.out.rebase HB01.out⟩
 ·have HN8 := Lib.hid hn8
  have hni : ((n : Int) % 8 == 0) = false := by rw [beq_eq_false_iff_ne]; omega
  have HMT := Lib.hid (show mturn n M = (0, M) by unfold mturn; rw [if_neg hn8])
  obtain ⟨M5, hM5⟩ : ∃ M5, M5 = M := ⟨_, rfl⟩
  obtain ⟨x5, hx5⟩ : ∃ x5, x5 = x4 := ⟨_, rfl⟩
  have HS5 := Lib.hid (show x3.heap.size = x5.heap.size by rw [hx5, hx4]; simp [World.setCell])
  have H5 := Lib.hid (show PX w x1 F0 D0 [] x5 b M5 mb jb s0 (n + 1) by rw [hx5, hM5]; exact H4.out)
  have HM5 := Lib.hid (show mturn n M = (0, M5) by rw [hM5]; exact HMT.out)
  have HL5 := Lib.hid (show lastN manP M5.L = lastN manP M.L ∨ lastN manP M5.L = lastN manP M.L + 1 by rw [hM5]; exact Or.inl rfl)
  clear hM5
  obtain ⟨Y, hY⟩ : ∃ Y, Y = x5.heap.size := ⟨_, rfl⟩
  obtain ⟨x6, hx6⟩ : ∃ x6, x6 = x5.alloc (.cells #[.string ⟨(encM s).toArray⟩] 9) := ⟨_, rfl⟩
  have H6 := Lib.hid (show PX w x1 F0 D0 [] x6 b M5 mb jb s0 (n + 1) by rw [hx6]; exact H5.out.bel ((Bel.refl x5).alloc _))
  have HST := Lib.hid (show StrsAt x6 (some ⟨Y, 0, none⟩) [encM s] by rw [hx6, hY]; exact strs_one (heap_alloc_new x5 _))
  go_wp2_with (fail)
  rw [← hx4, ← hx5, HS5.out, ← hx6, ← hY]
  clear hx6 hY d0 d1 d2 d3 d4 d5 d6 q0 q1 q2 q3 q4 q5 q6
  refine (H6.out.call (mwrite_ok (s := s) H6.out.good) (E := fun e => e = .returned (.int .i64 (mwrite s M5).1)) (fun F hF => write_any _ _ b M5 F jb manB 100000 (some ⟨Y, 0, none⟩) 1 [encM s] hF manB_size (by have := H0.out; have := HL5.out; show lastN manP M5.L ≠ 0; omega) (by have := H9.out; have := HL5.out; show lastN manP M5.L < _; omega) (show in64 100000 from ⟨by omega, by omega⟩) HST.out (by unfold maxLen; simp) (enc_ok HR.out))).mono ?_
  rintro e x7 ⟨rfl, h7⟩
  have H7 := Lib.hid h7
  clear h7
  obtain ⟨we, M7, hmw⟩ : ∃ we M7, mwrite s M5 = (we, M7) := ⟨_, _, rfl⟩
  have HM7 := Lib.hid hmw
  rw [hmw] at H7
  rw [hmw]
  by_cases hwe : we = 0
  rotate_left
  ·have HM := Lib.hid (mset_write (s0 := s0) (n := n) (M := M) HR.out HMB.out (by rw [HM5.out]) (by rw [HM5.out, hmw]; exact hwe))
   rw [HM5.out] at HM
   simp only at HM
   rw [hmw] at HM
   have hwe1 : (we != 0) = true := by rw [bne_iff_ne]; exact hwe
   clear hmw
   go_wp2_with (fail)
   go_ret
   rw [HM.out]
   exact ⟨rfl, H7.out.rebase HB01.out⟩
  subst hwe
  have HM := Lib.hid (mset_all (s0 := s0) (n := n) (M := M) HR.out HMB.out (by rw [HM5.out]) (by rw [HM5.out, hmw]))
  rw [HM5.out] at HM
  simp only at HM
  rw [hmw] at HM
  clear hmw
  have HK7 := Lib.hid (H7.out.rebase HB01.out).kp
  have HKA7 := Lib.hid (H7.out.kp.at HKA.out HXF.out)
  obtain ⟨⟨a0, a1, a2, a3, a4⟩, -⟩ := box5 HKA7.out
  go_wp2_with (fail)
  refine (copied_any p c s x7 (HSP.out x7 HK7.out) hl).mono ?_
  rintro e x8 ⟨p8, c8, rfl, ho8, hb8⟩
  have HO8 := Lib.hid ho8
  have H8 := Lib.hid (H7.out.bel hb8)
  obtain ⟨fp8, fc8, hbx8, -⟩ := H8.out.boxes
  obtain ⟨⟨d0, d1, d2, d3, d4, d5, d6⟩, q0, q1, q2, q3, q4, q5, q6⟩ := box7 hbx8
  obtain ⟨x9, hx9⟩ : ∃ x9, x9 = (((((x8.setCell ⟨mb, 1, none⟩ (.slice p8 s.files.length c8)).setCell ⟨mb, 2, none⟩ (.int .i64 s.next)).setCell ⟨mb, 3, none⟩ (.int .i64 s.seq)).setCell ⟨mb, 4, none⟩ (.int .i64 s.log)).setCell ⟨mb, 5, none⟩ (.string s.mt)) := ⟨_, rfl⟩
  have H9x := Lib.hid (show PX w x1 F0 D0 [] x9 b M7 mb jb s (n + 1) by
   rw [hx9]
   refine H7.out.sets hb8 p8 c8 (pls_ownP ho8) (fun hne a ha => Or.inl ?_)
   subst ha
   exact (ho8.lt _ rfl).1)
  clear hbx8 ho8 hb8 a0 a1 a2 a3 a4
  rw [show mtrim n M7 = (0, M7) by unfold mtrim; rw [if_neg HN8.out]] at HM
  go_wp2_with (fail)
  go_ret
  rw [← hx9, HM.out]
  exact ⟨rfl, H9x.out.rebase HB01.out⟩
end Go.Proofs.YtfbiinnenlgkfaaGreatDoor
