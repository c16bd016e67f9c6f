/- JSegs, JRSegs, JTurn, JRTurn, JWrite, JTrim, JRTrim, JOpen, JROpen, JRWrite, JHold, JSame, JShown, JAct, JWM, JBegin, JDoes, JInv, NMod, NPM, NRM, NPLast, laid together. -/
import Derived.Test.YtfbiinnenlgkfaaGreatDoorQ23
import Derived.Test.YtfbiinnenlgkfaaGreatDoorQ16
import Derived.Sort.OwnSortedInts
import Derived.Test.YtfbiinnenlgkfaaGreatDoorQ2
import Derived.Test.YtfbiinnenlgkfaaGreatDoorQ26
import Derived.Test.YtfbiinnenlgkfaaGreatDoorQ9
import Derived.Test.YtfbiinnenlgkfaaGreatDoorQ5
set_option linter.unusedSimpArgs false
set_option linter.unusedVariables false
namespace Go.Proofs.YtfbiinnenlgkfaaGreatDoor
open Go.RowKit Go.Deep Go.Maps

def intEl : El Int := ⟨3, 52, 1, fun i => [.int .i64 i]⟩
theorem intOk : ElOk intEl 8 := ⟨fun _ => rfl, fun a u hu => by simp [intEl] at hu; subst hu; rfl, by kernel_rfl, ⟨.int .i64 0, by kernel_rfl, rfl⟩, by decide⟩
theorem intAll (l : List Int) : intEl.all l = l.map (Value.int .i64) := by
 induction l with
 | nil => rfl
 | cons x l ih => simp only [El.all, List.flatMap_cons, List.map_cons] at *; rw [ih]; rfl
theorem sort_own {B : Nat} {w : World} {v : Value} {l : List Int} (h : OwnG intEl B w v l) (hB : B ≤ w.heap.size) (hl : l.length ≤ 1000) :
  Calls Tryz.prog 122 #[v] w fun e w' => e = .returned (.tuple #[]) ∧ OwnG intEl B w' v (l.mergeSort fun x y => decide (x ≤ y)) ∧ Below B w w' := by
 obtain ⟨h1, h2⟩ := h
 rcases h2 with ⟨rfl, h0⟩ | ⟨g, cap, cur, rfl, hg, hh, hc, hx, hsz, htk⟩
 ·obtain rfl : l = [] := List.length_eq_zero_iff.1 h0
  refine (Any.slices_Sort_int_none Tryz.lays189 none 0 w).mono ?_
  rintro e w' ⟨rfl, rfl⟩
  exact ⟨rfl, by rw [List.mergeSort_nil]; exact OwnG.nil _ _ _, Below.refl _ _⟩
 ·have hgs : g < w.heap.size := (Array.getElem?_eq_some_iff.1 hh).1
  have ht : cur.toList.take l.length = l.map (Value.int .i64) := by
   rw [show intEl.n = 1 from rfl, Nat.mul_one] at htk; rw [← intAll]; exact htk
  have hlen : (l.mergeSort fun x y => decide (x ≤ y)).length = l.length := List.length_mergeSort _
  refine (Any.slices_Sort_int Tryz.lays189 g 0 cap l w (holds_of_blockI hh ht) hgs (by omega)).mono ?_
  rintro e w' ⟨rfl, n, os, rfl⟩
  refine ⟨rfl, ?_, ?_⟩
  ·have := ownsRow_sortedI (n := n) (os := os) (ts := l.mergeSort fun x y => decide (x ≤ y)) hlen hg hh hc hx (by rw [hsz]; rfl)
   unfold OwnG
   rw [intAll, hlen]
   exact this
  ·exact (Below.refl B w).grown (grownBy_sortedI _) hB (fun k hk => by simp at hk; omega)

def SgRel (p : List UInt8) (L : List FI) (w1 : World) (lv iv : Value) (x : World) : Prop :=
 ∃ k : Nat, iv = .int .i64 k ∧ k ≤ L.length ∧ OwnG intEl w1.heap.size x lv ((colL p (L.take k)).map fun n : Nat => (n : Int)) ∧ Bel w1 x
theorem col_snoc (p : List UInt8) (L : List FI) (k : Nat) (h : k < L.length) : colL p (L.take (k + 1)) = if segN p L[k].name = 0 then colL p (L.take k) else colL p (L.take k) ++ [segN p L[k].name] := by
 rw [List.take_add_one, List.getElem?_eq_getElem h]
 exact col_step p _ _
theorem col_len (p : List UInt8) (L : List FI) : (colL p L).length ≤ L.length := by
 unfold colL
 exact Nat.le_trans (List.length_filter_le _ _) (by simp)
set_option maxHeartbeats 4000000 in
theorem segs_any (n₀ : Nat) (w : World) (jb b : Nat) (p : ByteArray) (most : Int) (M : RS) (F : List Nat) (h : ProgAt n₀ w b M F) (hM : M.ok) (hj : JAt w jb b p most) (hp : p.size ≤ 100) (hstd : Std w) :
  Calls Tryz.prog 89 #[.pointer (some ⟨jb, 0, none⟩)] w fun e w' => ∃ v, e = .returned v ∧ OwnG intEl w.heap.size w' v ((segsL p.data.toList M.L).map fun n : Nat => (n : Int)) ∧ Bel w w' := by
 have HS := Lib.hid hstd; clear hstd
 have HJ := Lib.hid hj
 have c0 := hj.files
 have HP := Lib.hid h
 have HM := Lib.hid hM
 have h60 := hM.len
 clear hj h hM
 go_enter Tryz.func89, Tryz.ntmps89
 go_wp2_with (fail)
 refine (pnames_any n₀ w b M F HP.out HM.out.srt (good_len HM.out)).mono ?_
 rintro e w1 ⟨v, rfl, hnm, hb1⟩
 have HNM := Lib.hid hnm
 have HB1 := Lib.hid hb1
 obtain ⟨np, ncap, hnv⟩ := ownG_len hnm
 rw [List.length_map] at hnv
 subst hnv
 clear hnm hb1
 go_wp2_with (fail)
 go_loopw [3, 19] (fun lv iv x => SgRel p.data.toList M.L w1 lv iv x) (fun _ iv _ => M.L.length - (intOf iv).toNat)
 case atStart => exact ⟨0, rfl, Nat.zero_le _, OwnG.nil _ _ _, Bel.refl _⟩
 case round =>
  obtain ⟨k, rfl, hk, hown, hb⟩ := hrel
  have HB := Lib.hid hb
  have HV := Lib.hid hown
  obtain ⟨lp, lc, hlv⟩ := ownG_len hown
  rw [List.length_map] at hlv
  subst hlv
  clear hown hb
  by_cases hlt : k < M.L.length
  ·have hne : M.L.map (·.name) ≠ [] := by intro e; rw [List.map_eq_nil_iff] at e; rw [e] at hlt; simp at hlt
   obtain ⟨g, ncap', hv, _, hgl, _, hcs⟩ := ownG_cells strOk (HNM.out.bel HB.out) hne
   rw [List.length_map] at hv
   simp only [Value.slice.injEq, true_and] at hv
   obtain ⟨rfl, rfl⟩ := hv
   have e0 := hcs k M.L[k].name (by rw [List.getElem?_map, List.getElem?_eq_getElem hlt]; rfl) 0 _ rfl
   have hcn := col_snoc p.data.toList M.L k hlt
   have hyn := name_len (HM.out.each M.L[k] (List.getElem_mem hlt)).1
   obtain ⟨y, hy⟩ : ∃ y, y = M.L[k] := ⟨_, rfl⟩
   rw [← hy] at e0 hcn hyn
   simp only [strEl, Nat.mul_one, Nat.add_zero] at e0
   have hsz := str_len y.name
   have HSL := Lib.hid (str_list y.name)
   have HCN := Lib.hid hcn
   clear hy hcs hne hcn
   have hcl := col_len p.data.toList (M.L.take k)
   have hcl2 : (M.L.take k).length ≤ k := by rw [List.length_take]; omega
   by_cases h0 : segN p.data.toList y.name = 0
   ·have HN := Lib.hid (numV_none (p := p.data.toList) (nm := (⟨y.name.toArray⟩ : ByteArray).data.toList) (by rw [HSL.out]; exact h0))
    have HCE := Lib.hid (show colL p.data.toList (M.L.take (k + 1)) = colL p.data.toList (M.L.take k) by rw [HCN.out, if_pos h0])
    clear hcl hcl2 h0
    go_wp2_with (fail)
    refine (jnumber_any _ jb b p most ⟨y.name.toArray⟩ (HJ.out.bel (HB1.out.trans HB.out)) hp (by omega) (HS.out.bel (HB1.out.trans HB.out))).mono ?_
    rintro e w2 ⟨rfl, hb2⟩
    rw [HN.out]
    have HB2 := Lib.hid (HB.out.trans hb2)
    have HV2 := Lib.hid (HV.out.bel hb2)
    clear hb2
    go_wp2_with (fail)
    go_roundw
    case rel => exact ⟨k + 1, by go_num, by omega, by rw [HCE.out]; exact HV2.out, HB2.out⟩
    case measure => simp [intOf]; omega
   ·obtain ⟨n, hn⟩ : ∃ n, n = segN p.data.toList y.name := ⟨_, rfl⟩
    have HN := Lib.hid (numV_some (p := p.data.toList) (nm := (⟨y.name.toArray⟩ : ByteArray).data.toList) (n := n) (by rw [HSL.out]; exact hn.symm) (by omega))
    have HCE := Lib.hid (show (colL p.data.toList (M.L.take (k + 1))).map (fun n : Nat => (n : Int)) = (colL p.data.toList (M.L.take k)).map (fun n : Nat => (n : Int)) ++ [(n : Int)] by rw [HCN.out, if_neg h0, ← hn]; simp)
    have hml : ((colL p.data.toList (M.L.take k)).map fun n : Nat => (n : Int)).length ≤ 60 := by rw [List.length_map]; omega
    clear hcl hcl2 h0 hn
    go_wp2_with (fail)
    refine (jnumber_any _ jb b p most ⟨y.name.toArray⟩ (HJ.out.bel (HB1.out.trans HB.out)) hp (by omega) (HS.out.bel (HB1.out.trans HB.out))).mono ?_
    rintro e w2 ⟨rfl, hb2⟩
    rw [HN.out]
    have HB2 := Lib.hid (HB.out.trans hb2)
    have HV2 := Lib.hid (HV.out.bel hb2)
    clear hb2
    go_wp2_with (at_builtin; refine stop_here ?_)
    refine go_on ?_
    refine append_glit (L := (colL p.data.toList (M.L.take k)).map fun n : Nat => (n : Int)) intOk rfl _ _ rfl rfl HV2.out _ _ _ [(n : Int)] rfl rfl rfl (by unfold maxLen; simp only [List.length_singleton]; omega) (by simp only [List.length_singleton]; omega) HB2.out.size (Or.inl rfl) ?_
    intro v3 w3 hown3 hb3 hZ3
    obtain ⟨p3, c3, hv3⟩ := ownG_len hown3
    rw [List.length_append, List.length_map, List.length_singleton] at hv3
    subst hv3
    have HV3 := Lib.hid hown3
    have HB3 := Lib.hid (HB2.out.trans_below hb3)
    clear hown3 hb3
    go_wp2_with (fail)
    go_roundw
    case rel => exact ⟨k + 1, by go_num, by omega, by rw [HCE.out]; exact HV3.out, HB3.out⟩
    case measure => simp [intOf]; omega
  ·obtain rfl : k = M.L.length := by omega
   have hv1 := HV.out
   rw [List.take_length] at hv1
   have HSO := Lib.hid (sort_own hv1 HB.out.size (by rw [List.length_map]; have := col_len p.data.toList M.L; omega))
   rw [List.take_length] at *
   clear hv1
   go_wp2_with (fail)
   refine HSO.out.mono ?_
   rintro e w2 ⟨rfl, hown2, hb2⟩
   rw [segs_merge] at hown2
   have HB2 := Lib.hid (HB.out.trans_below hb2)
   have HV2 := Lib.hid hown2
   clear hown2 hb2
   go_wp2_with (fail)
   go_ret
   exact ⟨_, rfl, HV2.out.low HB1.out.size, HB1.out.trans HB2.out⟩
def NbRel (l : List Nat) (w1 : World) (nv iv : Value) (x : World) : Prop :=
 ∃ k : Nat, iv = .int .i64 k ∧ k ≤ l.length ∧ nv = .int .i64 ((l.take k).getLast?.getD 0 : Nat) ∧ Bel w1 x
theorem last_take (l : List Nat) (k : Nat) (h : k < l.length) : (l.take (k + 1)).getLast?.getD 0 = l[k] := by
 rw [List.take_add_one, List.getElem?_eq_getElem h, Option.toList_some, List.getLast?_concat]; rfl
theorem int_at {B : Nat} {x : World} {v : Value} {l : List Nat} (h : OwnG intEl B x v (l.map fun n : Nat => (n : Int))) (k : Nat) (hk : k < l.length) : ∃ g cap, v = .slice (some ⟨g, 0, none⟩) l.length cap ∧ l.length ≤ cap ∧ B ≤ g ∧ x.cell? ⟨g, k, none⟩ = some (.int .i64 (l[k] : Nat)) := by
 have hne : l.map (fun n : Nat => (n : Int)) ≠ [] := by intro e; rw [List.map_eq_nil_iff] at e; rw [e] at hk; simp at hk
 obtain ⟨g, cap, rfl, hg, _, hgl, hcs⟩ := ownG_cells intOk h hne
 rw [List.length_map] at hgl
 refine ⟨g, cap, by rw [List.length_map], hgl, hg, ?_⟩
 have := hcs k (l[k] : Int) (by rw [List.getElem?_map, List.getElem?_eq_getElem hk]; rfl) 0 _ rfl
 simpa [intEl] using this
set_option maxHeartbeats 4000000 in
theorem num_any (n₀ : Nat) (w : World) (jb b : Nat) (p : ByteArray) (most : Int) (M : RS) (F : List Nat) (h : ProgAt n₀ w b M F) (hM : M.ok) (hj : JAt w jb b p most) (hp : p.size ≤ 100) (hstd : Std w) :
  Calls Tryz.prog 54 #[.pointer (some ⟨jb, 0, none⟩)] w fun e w' => e = .returned (.int .i64 (lastN p.data.toList M.L : Nat)) ∧ Bel w w' := by
 have HC := Lib.hid (segs_any n₀ w jb b p most M F h hM hj hp hstd)
 have hsl := segs_len p.data.toList M.L
 have h60 := hM.len
 obtain ⟨l, hl⟩ : ∃ l, l = segsL p.data.toList M.L := ⟨_, rfl⟩
 have HLN := Lib.hid (show lastN p.data.toList M.L = l.getLast?.getD 0 by rw [hl]; rfl)
 rw [← hl] at HC hsl
 clear hl hj h hM hstd
 go_enter Tryz.func54, Tryz.ntmps54
 go_wp2_with (fail)
 refine HC.out.mono ?_
 rintro e w1 ⟨v, rfl, hown, hb1⟩
 have HV := Lib.hid hown
 have HB1 := Lib.hid hb1
 obtain ⟨sp, sc, hv⟩ := ownG_len hown
 rw [List.length_map] at hv
 subst hv
 clear hown hb1
 go_wp2_with (fail)
 go_loopw [3, 9] (fun nv iv x => NbRel l w1 nv iv x) (fun _ iv _ => l.length - (intOf iv).toNat)
 case atStart => exact ⟨0, rfl, Nat.zero_le _, rfl, Bel.refl _⟩
 case round =>
  obtain ⟨k, rfl, hk, rfl, hb⟩ := hrel
  have HB := Lib.hid hb; clear hb
  by_cases hlt : k < l.length
  ·obtain ⟨g, cap, hv, hcap, _, e0⟩ := int_at (HV.out.bel HB.out) k hlt
   simp only [Value.slice.injEq, true_and] at hv
   obtain ⟨rfl, rfl⟩ := hv
   have HLT := Lib.hid (last_take l k hlt)
   obtain ⟨m, hm⟩ : ∃ m, m = l[k] := ⟨_, rfl⟩
   rw [← hm] at e0 HLT
   clear hm
   go_wp2_with (fail)
   go_roundw
   case rel => exact ⟨k + 1, by go_num, by omega, by rw [HLT.out], HB.out⟩
   case measure => simp [intOf]; omega
  ·obtain rfl : k = l.length := by omega
   go_wp2_with (fail)
   go_ret
   exact ⟨by rw [HLN.out, List.take_length]; rfl, HB1.out.trans HB.out⟩
def NsRel (p : List UInt8) (l : List Nat) (w1 : World) (lv iv : Value) (x : World) : Prop :=
 ∃ k : Nat, iv = .int .i64 k ∧ k ≤ l.length ∧ OwnG strEl w1.heap.size x lv ((l.take k).map (fileN p)) ∧ Bel w1 x
set_option maxHeartbeats 4000000 in
theorem jnames_any (n₀ : Nat) (w : World) (jb b : Nat) (p : ByteArray) (most : Int) (M : RS) (F : List Nat) (h : ProgAt n₀ w b M F) (hM : M.ok) (hj : JAt w jb b p most) (hp : p.size ≤ 100) (hstd : Std w) :
  Calls Tryz.prog 96 #[.pointer (some ⟨jb, 0, none⟩)] w fun e w' => ∃ v, e = .returned v ∧ OwnG strEl w.heap.size w' v ((segsL p.data.toList M.L).map (fileN p.data.toList)) ∧ Bel w w' := by
 have HC := Lib.hid (segs_any n₀ w jb b p most M F h hM hj hp hstd)
 have hsl := segs_len p.data.toList M.L
 have h60 := hM.len
 obtain ⟨l, hl⟩ : ∃ l, l = segsL p.data.toList M.L := ⟨_, rfl⟩
 have HLE := Lib.hid (show ∀ n ∈ l, n ≤ 9999999 from fun n hn => by rw [hl] at hn; exact (mem_segs_file.1 hn).2.1)
 rw [← hl] at HC hsl ⊢
 have HS := Lib.hid hstd
 have HJ := Lib.hid hj
 clear hl hj h hM hstd
 go_enter Tryz.func96, Tryz.ntmps96
 go_wp2_with (fail)
 refine HC.out.mono ?_
 rintro e w1 ⟨v, rfl, hown, hb1⟩
 have HV := Lib.hid hown
 have HB1 := Lib.hid hb1
 obtain ⟨sp, sc, hv⟩ := ownG_len hown
 rw [List.length_map] at hv
 subst hv
 clear hown hb1
 go_wp2_with (fail)
 go_loopw [3, 9] (fun lv iv x => NsRel p.data.toList l w1 lv iv x) (fun _ iv _ => l.length - (intOf iv).toNat)
 case atStart => exact ⟨0, rfl, Nat.zero_le _, OwnG.nil _ _ _, Bel.refl _⟩
 case round =>
  obtain ⟨k, rfl, hk, hown, hb⟩ := hrel
  have HB := Lib.hid hb
  have HL := Lib.hid hown
  obtain ⟨lp, lc, hlv⟩ := ownG_len hown
  rw [List.length_map, List.length_take, Nat.min_eq_left hk] at hlv
  subst hlv
  clear hown hb
  by_cases hlt : k < l.length
  ·obtain ⟨g, cap, hv, hcap, _, e0⟩ := int_at (HV.out.bel HB.out) k hlt
   simp only [Value.slice.injEq, true_and] at hv
   obtain ⟨rfl, rfl⟩ := hv
   have HLT := Lib.hid (show (l.take (k + 1)).map (fileN p.data.toList) = (l.take k).map (fileN p.data.toList) ++ [fileN p.data.toList l[k]] by
    rw [List.take_add_one, List.getElem?_eq_getElem hlt, List.map_append]; rfl)
   have hm9 := HLE.out l[k] (List.getElem_mem hlt)
   obtain ⟨m, hm⟩ : ∃ m, m = l[k] := ⟨_, rfl⟩
   rw [← hm] at e0 HLT hm9
   clear hm
   have hml : ((l.take k).map (fileN p.data.toList)).length ≤ 60 := by rw [List.length_map, List.length_take]; omega
   have hml2 : ((l.take k).map (fileN p.data.toList)).length = k := by rw [List.length_map, List.length_take]; omega
   go_wp2_with (fail)
   refine (file_any _ jb b p most m (HJ.out.bel (HB1.out.trans HB.out)) hp (by omega) (HS.out.bel (HB1.out.trans HB.out))).mono ?_
   rintro e w2 ⟨rfl, hb2⟩
   have HB2 := Lib.hid (HB.out.trans hb2)
   have HL2 := Lib.hid (HL.out.bel hb2)
   clear hb2
   go_wp2_with (at_builtin; refine stop_here ?_)
   refine go_on ?_
   refine append_glit (L := (l.take k).map (fileN p.data.toList)) strOk rfl _ _ rfl rfl HL2.out _ _ _ [fileN p.data.toList m] rfl rfl rfl (by unfold maxLen; simp only [List.length_singleton]; omega) (by simp only [List.length_singleton]; omega) HB2.out.size (Or.inl rfl) ?_
   intro v3 w3 hown3 hb3 hZ3
   obtain ⟨p3, c3, hv3⟩ := ownG_len hown3
   rw [List.length_append, hml2] at hv3
   subst hv3
   have HV3 := Lib.hid hown3
   have HB3 := Lib.hid (HB2.out.trans_below hb3)
   clear hown3 hb3
   go_wp2_with (fail)
   go_roundw
   case rel => exact ⟨k + 1, by go_num, by omega, by rw [HLT.out]; exact HV3.out, HB3.out⟩
   case measure => simp [intOf]; omega
  ·obtain rfl : k = l.length := by omega
   go_wp2_with (fail)
   go_ret
   have := HL.out
   rw [List.take_length] at this
   exact ⟨_, rfl, this.low HB1.out.size, HB1.out.trans HB.out⟩

def toZ (l : List Nat) : List Int := l.map fun n : Nat => (n : Int)
theorem toZ_len (l : List Nat) : (toZ l).length = l.length := by unfold toZ; rw [List.length_map]
theorem tw_le : ∀ (n : Nat) (out : List Nat), (out.takeWhile (fun m => decide (m < n))).length ≤ out.length
 | n, [] => by simp
 | n, x :: out => by
  rw [List.takeWhile_cons]
  split
  ·simp only [List.length_cons]; have := tw_le n out; omega
  ·simp
theorem tw_get (n : Nat) (out : List Nat) (k : Nat) (hk : k < (out.takeWhile (fun m => decide (m < n))).length) (hko : k < out.length) : out[k] < n := by
 have h1 := take_less n out _ (List.getElem_mem hk)
 have h2 := List.takeWhile_append_dropWhile (p := fun m => decide (m < n)) (l := out)
 have h3 : out[k]? = some (out.takeWhile (fun m => decide (m < n)))[k] := by
  conv => lhs; rw [← h2]
  rw [List.getElem?_append_left hk, List.getElem?_eq_getElem hk]
 rw [List.getElem?_eq_getElem hko] at h3
 injection h3 with h3
 omega
theorem tw_stop (n : Nat) (out : List Nat) (k : Nat) (hk : k = (out.takeWhile (fun m => decide (m < n))).length) (hko : k < out.length) : n ≤ out[k] := by
 have h2 := List.takeWhile_append_dropWhile (p := fun m => decide (m < n)) (l := out)
 have h3 : out[k]? = (out.dropWhile (fun m => decide (m < n)))[0]? := by
  conv => lhs; rw [← h2]
  rw [List.getElem?_append_right (by omega), hk, Nat.sub_self]
 rw [List.getElem?_eq_getElem hko] at h3
 cases hd : out.dropWhile (fun m => decide (m < n)) with
 | nil => rw [hd] at h3; simp at h3
 | cons x r =>
  rw [hd] at h3
  simp at h3
  rw [h3]
  exact drop_head n out x r hd
theorem tw_ins (n : Nat) (out : List Nat) (k : Nat) (hk : k = (out.takeWhile (fun m => decide (m < n))).length) : insN n out = out.take k ++ [n] ++ out.drop k := by
 have h2 := List.takeWhile_append_dropWhile (p := fun m => decide (m < n)) (l := out)
 have e1 : out.take k = out.takeWhile (fun m => decide (m < n)) := by
  have : (out.takeWhile (fun m => decide (m < n)) ++ out.dropWhile (fun m => decide (m < n))).take k = out.takeWhile (fun m => decide (m < n)) := by rw [hk, List.take_left]
  rwa [h2] at this
 have e2 : out.drop k = out.dropWhile (fun m => decide (m < n)) := by
  have : (out.takeWhile (fun m => decide (m < n)) ++ out.dropWhile (fun m => decide (m < n))).drop k = out.dropWhile (fun m => decide (m < n)) := by rw [hk, List.drop_left]
  rwa [h2] at this
 rw [e1, e2]
 unfold insN
 simp
theorem ownG_none_int {W : World} {n B : Nat} (h : W.heap[B]? = some (.cells #[] 3 (0, 0))) (hn : n ≤ B) : OwnG intEl n W (.slice (some ⟨B, 0, none⟩) 0 0) [] := by
 refine ⟨rfl, Or.inr ⟨B, 0, #[], rfl, hn, h, Nat.le_refl _, by unfold maxLen; omega, by simp, by simp [El.all]⟩⟩
theorem lit_int {W : World} {B : Nat} {n : Int} (h : W.heap[B]? = some (.cells #[.int .i64 n] 3 (0, 0))) : SrcAt intEl W (.slice (some ⟨B, 0, none⟩) 1 1) [n] := by
 refine Or.inr ⟨_, 1, rfl, fun j u hj => ?_⟩
 have e : (⟨B, 0, none⟩ : Addr).add j = ⟨B, j, none⟩ := by cases j <;> simp [Addr.add]
 rw [e]
 rw [intAll] at hj
 cases j with
 | zero => simp at hj; subst hj; simp [World.cell?, h]
 | succ j => simp at hj
theorem slice_parts {B : Nat} {x : World} {op : Option Addr} {oc : Nat} {out : List Nat} (h : OwnG intEl B x (.slice op out.length oc) (toZ out)) (k : Nat) (hk : k ≤ out.length) (hl : out.length ≤ 1000) :
  ∃ v1 v2, (∀ w, (Instr.slice 52 (.slice op out.length oc) none (some (.int .i64 k)) none).run Tryz.prog w = .ok v1 w) ∧ (∀ w, (Instr.slice 52 (.slice op out.length oc) (some (.int .i64 k)) none none).run Tryz.prog w = .ok v2 w) ∧
   (∀ y, Bel x y → SrcAt intEl y v1 (toZ (out.take k))) ∧ (∀ y, Bel x y → SrcAt intEl y v2 (toZ (out.drop k))) := by
 rcases h.2 with ⟨hv, h0⟩ | ⟨g, cap, cur, hv, hg, hh, hc, hx, _⟩
 ·have ho : out = [] := by rw [← List.length_eq_zero_iff, ← toZ_len]; exact h0
  subst ho
  obtain rfl : k = 0 := by simpa using hk
  simp only [Value.slice.injEq] at hv
  obtain ⟨rfl, -, rfl⟩ := hv
  refine ⟨.slice none 0 0, .slice none 0 0, fun w => by go_simp, fun w => by go_simp, fun y _ => Or.inl ⟨rfl, rfl⟩, fun y _ => Or.inl ⟨rfl, rfl⟩⟩
 ·simp only [Value.slice.injEq] at hv
  obtain ⟨rfl, -, rfl⟩ := hv
  rw [toZ_len] at hc
  unfold maxLen at hx
  have hcells : ∀ y, Bel x y → ∀ j (hj : j < out.length), y.cell? ⟨g, j, none⟩ = some (.int .i64 (out[j] : Nat)) := fun y hy j hj => by
   obtain ⟨g', cap', hv, _, _, e⟩ := int_at (h.bel hy) j hj
   simp only [Value.slice.injEq, Option.some.injEq, Addr.mk.injEq] at hv
   obtain ⟨⟨rfl, -⟩, -⟩ := hv
   exact e
  have add0 : ∀ (o j : Nat), (⟨g, o, none⟩ : Addr).add j = ⟨g, o + j, none⟩ := fun o j => by cases j <;> simp [Addr.add]
  have hlow : ∀ y, Bel x y → SrcAt intEl y (.slice (some ⟨g, 0, none⟩) k oc) (toZ (out.take k)) := fun y hy => by
   refine Or.inr ⟨⟨g, 0, none⟩, oc, by rw [toZ_len, List.length_take, Nat.min_eq_left hk], fun j u hj => ?_⟩
   rw [intAll, toZ, List.map_map, List.getElem?_map, List.getElem?_take] at hj
   split at hj
   ·rename_i hjk
    rw [List.getElem?_eq_getElem (show j < out.length by omega)] at hj
    simp at hj
    rw [add0, Nat.zero_add, hcells y hy j (by omega), ← hj]
   ·simp at hj
  have hhigh : ∀ y, Bel x y → SrcAt intEl y (.slice (some ⟨g, k, none⟩) (out.length - k) (oc - k)) (toZ (out.drop k)) := fun y hy => by
   refine Or.inr ⟨⟨g, k, none⟩, oc - k, by rw [toZ_len, List.length_drop], fun j u hj => ?_⟩
   rw [intAll, toZ, List.map_map, List.getElem?_map, List.getElem?_drop] at hj
   by_cases hjk : k + j < out.length
   ·rw [List.getElem?_eq_getElem hjk] at hj
    simp at hj
    rw [add0, hcells y hy (k + j) hjk, ← hj]
   ·rw [List.getElem?_eq_none (by omega)] at hj
    simp at hj
  by_cases hkc : oc = k
  ·subst hkc
   have hol : out.length = oc := by omega
   refine ⟨_, .slice (some ⟨g, 0, none⟩) 0 0, fun w => by first | (go_simp; done) | (go_simp; intro hx; omega), fun w => by first | (go_simp; done) | (go_simp; intro hx; omega), hlow, fun y hy => ?_⟩
   rw [List.drop_eq_nil_of_le (by omega)]
   exact Or.inr ⟨_, 0, rfl, fun j u hj => by simp [toZ, El.all] at hj⟩
  ·refine ⟨_, _, fun w => by first | (go_simp; done) | (go_simp; intro hx; omega), fun w => by first | (go_simp; done) | (go_simp; intro hx; omega), hlow, hhigh⟩
set_option maxHeartbeats 4000000 in
set_option maxRecDepth 20000 in
theorem rsegs_any (n₀ : Nat) (w : World) (jb b : Nat) (p : ByteArray) (most : Int) (M : RS) (F : List Nat) (h : RefP n₀ w b M F) (hM : M.ok) (hj : JAt w jb b p most) (hp : p.size ≤ 100) :
  Calls Tryz.prog 99 #[.pointer (some ⟨jb, 0, none⟩)] w fun e w' => ∃ v, e = .returned v ∧ OwnG intEl w.heap.size w' v (toZ (segsL p.data.toList M.L)) ∧ Bel w w' := by
 have HJ := Lib.hid hj
 have j0 := hj.files
 have HM := Lib.hid hM
 have h60 := hM.len
 obtain ⟨v, hr, -, -, -⟩ := h
 have HR := Lib.hid hr
 obtain ⟨rp, rcap, rfl⟩ := ownG_len hr.own
 obtain ⟨c0, -, -, c3⟩ := hr.cells
 clear hr hj hM c3
 go_enter Tryz.func99, Tryz.ntmps99
 go_wp2_with (fail)
 go_loopw [3, 4] (fun ov iv x => ∃ i : Nat, iv = .int .i64 i ∧ i ≤ M.L.length ∧ OwnG intEl w.heap.size x ov (toZ (segsL p.data.toList (M.L.take i))) ∧ Bel w x) (fun _ iv _ => M.L.length - (intOf iv).toNat)
 case atStart => exact ⟨0, rfl, Nat.zero_le _, OwnG.nil _ _ _, Bel.refl _⟩
 case round =>
  obtain ⟨i, rfl, hi, hown, hb⟩ := hrel
  have HB := Lib.hid hb
  have HO := Lib.hid hown
  obtain ⟨op, oc, hov⟩ := ownG_len hown
  rw [toZ_len] at hov
  subst hov
  have j0' := cell_later hb j0
  have c0' := cell_later hb c0
  clear hown hb
  have hsl := segs_len p.data.toList (M.L.take i)
  rw [List.length_take] at hsl
  by_cases hlt : i < M.L.length
  ·have hne2 : M.L ≠ [] := by intro e; rw [e] at hlt; simp at hlt
   obtain ⟨g2, rcap', hv, _, hgl2, _, hcs2⟩ := ownG_cells fileOk (HR.out.own.bel HB.out) hne2
   simp only [Value.slice.injEq, true_and] at hv
   obtain ⟨rfl, rfl⟩ := hv
   have hst := segs_step p.data.toList (M.L.take i) M.L[i]
   have htk : M.L.take i ++ [M.L[i]] = M.L.take (i + 1) := by rw [List.take_add_one, List.getElem?_eq_getElem hlt]; rfl
   rw [htk] at hst
   have hyn := name_len (HM.out.each M.L[i] (List.getElem_mem hlt)).1
   obtain ⟨y, hy⟩ : ∃ y, y = M.L[i] := ⟨_, rfl⟩
   have f0 := hcs2 i y (by rw [hy, List.getElem?_eq_getElem hlt]) 0 _ rfl
   simp only [fileEl, Nat.add_zero] at f0
   rw [← hy] at hst hyn
   have hsz := str_len y.name
   have HSL := Lib.hid (str_list y.name)
   have HST := Lib.hid hst
   clear hy hcs2 hne2 hst htk
   obtain ⟨out, hout⟩ : ∃ out, out = segsL p.data.toList (M.L.take i) := ⟨_, rfl⟩
   rw [← hout] at HO HST hsl ⊢
   clear hout
   have HN := Lib.hid (rnumber_any (s := (⟨y.name.toArray⟩ : ByteArray)) (p := p) (b := jb) (f := b) (most := most))
   rw [HSL.out] at HN
   obtain ⟨n, hn⟩ : ∃ n, n = segN p.data.toList y.name := ⟨_, rfl⟩
   rw [← hn] at HST HN
   have hn9 := seg_le p.data.toList y.name
   rw [← hn] at hn9
   clear hn
   go_wp2_with (fail)
   refine (HN.out _ (HJ.out.bel HB.out) hp (by omega)).mono ?_
   rintro e w1 ⟨rfl, hb1⟩
   have HB1 := Lib.hid (HB.out.trans hb1)
   have HO1 := Lib.hid (HO.out.bel hb1)
   clear hb1
   by_cases hn0 : n = 0
   ·subst hn0
    have HE := Lib.hid (show segsL p.data.toList (M.L.take (i + 1)) = out by rw [HST.out, if_pos rfl])
    go_wp2_with (fail)
    go_roundw
    case rel => exact ⟨i + 1, by go_num, by omega, by rw [HE.out]; exact HO1.out, HB1.out⟩
    case measure => simp [intOf]; omega
   ·have HE := Lib.hid (show segsL p.data.toList (M.L.take (i + 1)) = insN n out by rw [HST.out, if_neg hn0])
    have hn1 : (n : Int) ≠ 0 := by omega
    have HT := Lib.hid (take_less n out)
    go_wp2_with (fail)
    go_loopw [6] (fun kv x => ∃ k : Nat, kv = .int .i64 k ∧ k ≤ (out.takeWhile (fun m => decide (m < n))).length ∧ Bel w1 x) (fun kv _ => out.length - (intOf kv).toNat)
    case atStart => exact ⟨0, rfl, Nat.zero_le _, Bel.refl _⟩
    case round =>
     obtain ⟨k, rfl, hk, hb⟩ := hrel
     have HB2 := Lib.hid hb; clear hb
     have hle := tw_le n out
     by_cases hkl : k < (out.takeWhile (fun m => decide (m < n))).length
     ·have hko : k < out.length := by omega
      obtain ⟨g, cap, hv, hcap, _, e0⟩ := int_at (HO1.out.bel HB2.out) k hko
      simp only [Value.slice.injEq, true_and] at hv
      obtain ⟨rfl, rfl⟩ := hv
      have hlt2 := tw_get n out k hkl hko
      obtain ⟨m, hm⟩ : ∃ m, m = out[k] := ⟨_, rfl⟩
      rw [← hm] at e0 hlt2
      clear hm
      go_wp2_with (fail)
      go_roundw
      case rel => exact ⟨k + 1, by go_num, by omega, HB2.out⟩
      case measure => simp [intOf]; omega
     ·have hkk : k = (out.takeWhile (fun m => decide (m < n))).length := by omega
      have HI := Lib.hid (tw_ins n out k hkk)
      have hstop := Lib.hid (tw_stop n out k hkk)
      have hkl2 : k ≤ out.length := by omega
      clear hle hkl hk hkk
      by_cases hko : k < out.length
      ·obtain ⟨g, cap, hv, hcap, hgw, e0⟩ := int_at (HO1.out.bel HB2.out) k hko
       simp only [Value.slice.injEq, true_and] at hv
       obtain ⟨rfl, rfl⟩ := hv
       have hge := hstop.out hko
       obtain ⟨m, hm⟩ : ∃ m, m = out[k] := ⟨_, rfl⟩
       rw [← hm] at e0 hge
       clear hm hstop
       go_wp2_with (fail)
       have HW := Lib.hid (HB1.out.trans HB2.out)
       obtain ⟨s1, s2, hr1, hr2, hlow, hhigh⟩ := slice_parts (HO1.out.bel HB2.out) k hkl2 (by omega)
       have LOW := Lib.hid hlow
       have HIGH := Lib.hid hhigh
       clear hlow hhigh
       generalize hov : Value.slice (some ⟨g, 0, none⟩) out.length oc = ov at *
       clear hov
       refine wp_region_held_drew (S := fun z => True) (by kernel_rfl) trivial (fun hHeld => ?_)
       refine tk (v := ?_) 1 rfl ?_ ?_
       rotate_left
       ·(intros;go_simp<;>with_reducible rfl)
       try simp only[Act.put,sqA,sqB,sqC]
       refine tk (v := ?_) 2 rfl ?_ ?_
       rotate_left
       ·(intros;go_simp<;>with_reducible rfl)
       try simp only[Act.put,sqA,sqB,sqC]
       refine tk (v := ?_) 5 rfl ?_ ?_
       rotate_left
       ·(intros;go_simp<;>with_reducible rfl)
       try simp only[Act.put,sqA,sqB,sqC]
       refine tk (v := ?_) 8 rfl ?_ ?_
       rotate_left
       ·(intros;go_simp<;>with_reducible rfl)
       try simp only[Act.put,sqA,sqB,sqC]
       refine tk (v := ?_) 9 rfl ?_ ?_
       rotate_left
       ·(intros;go_simp<;>with_reducible rfl)
       try simp only[Act.put,sqA,sqB,sqC]
       refine tk (v := ?_) 3 rfl ?_ ?_
       rotate_left
       ·(intros;go_simp<;>with_reducible rfl)
       try simp only[Act.put,sqA,sqB,sqC]
       refine tk (v := ?_) 10 rfl ?_ ?_
       rotate_left
       ·(intros;go_simp<;>with_reducible rfl)
       try simp only[Act.put,sqA,sqB,sqC]
       refine wpAnyH_ready (rs := [0, 6]) (by kernel_rfl) (by simp) ?_
       refine (AllReadyH.cons rfl (fun K hK => ?_) (AllReadyH.cons rfl (fun K hK => ?_) AllReadyH.nil))
       ·go_simp
        refine hK.out _ _ trivial (fun hHeld => ?_);clear hK K;try simp only[Act.put,sqA,sqB,sqC]
        refine wpAnyH_ready (rs := [4, 6]) (by kernel_rfl) (by simp) ?_
        refine (AllReadyH.cons rfl (fun K hK => ?_) (AllReadyH.cons rfl (fun K hK => ?_) AllReadyH.nil))
        ·refine step_append_seg (E := intEl) (n := wr.heap.size) (v := .slice (some ⟨wr.heap.size, 0, none⟩) 0 0) intOk rfl (.tmp 48) (.tmp 51) rfl rfl (ownG_none_int (heap_alloc_new wr.drew _) (Nat.le_refl _)) (toZ (out.take k)) rfl (LOW.out _ ((Bel.refl wr).drew.alloc _)) (by simp only [toZ_len, List.length_append, List.length_singleton, List.length_nil, List.length_take, List.length_drop]; unfold maxLen; omega) (by simp only [toZ_len, List.length_append, List.length_singleton, List.length_nil, List.length_take, List.length_drop]; omega) (Bel.size ((Bel.refl wr).drew.alloc _)) ?_
         intro v1 z1 ho hg hb
         have hBz1 := Lib.hid (Bel.trans_below' ((Bel.refl wr).drew.alloc _) hb)
         have hOz1 := Lib.hid ho
         clear ho hg hb
         refine hK.out _ _ trivial (fun hHeld => ?_);clear hK K;try simp only[Act.put,sqA,sqB,sqC]
         refine wpAnyH_ready (rs := [6]) (by kernel_rfl) (by simp) ?_
         refine AllReadyH.cons rfl (fun K hK => ?_) AllReadyH.nil
         go_simp
         refine hK.out _ _ trivial (fun hHeld => ?_);clear hK K;try simp only[Act.put,sqA,sqB,sqC]
         have hBz := Lib.hid (hBz1.out.alloc (.cells #[.int .i64 n] 3))
         have hLit := Lib.hid (heap_alloc_new z1 (.cells #[.int .i64 n] 3))
         refine wpAnyH_ready (rs := [7]) (by kernel_rfl) (by simp) ?_
         refine AllReadyH.cons rfl (fun K hK => ?_) AllReadyH.nil
         refine step_append_seg (E := intEl) (n := wr.heap.size) intOk rfl (.tmp 52) (.tmp 54) rfl rfl (hOz1.out.alloc _) [(n : Int)] rfl (lit_int hLit.out) (by simp only [toZ_len, List.length_append, List.length_singleton, List.length_nil, List.length_take, List.length_drop]; unfold maxLen; omega) (by simp only [toZ_len, List.length_append, List.length_singleton, List.length_nil, List.length_take, List.length_drop]; omega) (Bel.size hBz.out) ?_
         intro v2 z2 ho hg hb
         have hBz2 := Lib.hid (Bel.trans_below' hBz.out hb)
         have hOz2 := Lib.hid ho
         clear ho hg hb
         refine hK.out _ _ trivial (fun hHeld => ?_);clear hK K;try simp only[Act.put,sqA,sqB,sqC]
         refine wpAnyH_ready (rs := [11]) (by kernel_rfl) (by simp) ?_
         refine AllReadyH.cons rfl (fun K hK => ?_) AllReadyH.nil
         refine step_append_seg (E := intEl) (n := wr.heap.size) intOk rfl (.tmp 55) (.tmp 58) rfl rfl hOz2.out (toZ (out.drop k)) rfl (HIGH.out _ hBz2.out) (by simp only [toZ_len, List.length_append, List.length_singleton, List.length_nil, List.length_take, List.length_drop]; unfold maxLen; omega) (by simp only [toZ_len, List.length_append, List.length_singleton, List.length_nil, List.length_take, List.length_drop]; omega) (Bel.size hBz2.out) ?_
         intro v3 z3 ho hg hb
         have hBz3 := Lib.hid (Bel.trans_below' hBz2.out hb)
         have hOz3 := Lib.hid ho
         obtain ⟨p3, c3, hv3⟩ := ownG_len ho
         have hlen3 : (toZ (out.take k) ++ [(n : Int)] ++ toZ (out.drop k)).length = out.length + 1 := by simp only [toZ_len, List.length_append, List.length_singleton, List.length_take, List.length_drop]; omega
         rw [List.nil_append, hlen3] at hv3
         subst hv3
         replace hOz3 := Lib.hid ho
         clear ho hg hb
         refine hK.out _ _ trivial (fun hHeld => ?_);clear hK K;try simp only[Act.put,sqA,sqB,sqC]
         refine tk (v := ?_) 12 rfl ?_ ?_
         rotate_left
         ·(intros;go_simp<;>with_reducible rfl)
         try simp only[Act.put,sqA,sqB,sqC]
         refine wpAnyH_done (by kernel_rfl) ?_ _
         go_wp2_with (fail)
         go_roundw
         case rel => exact ⟨i + 1, by go_num, by omega, by
          rw [HE.out, HI.out]
          have e : toZ (out.take k ++ [n] ++ out.drop k) = [] ++ toZ (out.take k) ++ [(n : Int)] ++ toZ (out.drop k) := by simp [toZ]
          rw [e]
          exact hOz3.out.low HW.out.size, HW.out.trans hBz3.out⟩
         case measure => simp [intOf]; omega
        ·go_simp
         refine hK.out _ _ trivial (fun hHeld => ?_);clear hK K;try simp only[Act.put,sqA,sqB,sqC]
         refine wpAnyH_ready (rs := [4]) (by kernel_rfl) (by simp) ?_
         refine AllReadyH.cons rfl (fun K hK => ?_) AllReadyH.nil
         refine step_append_seg (E := intEl) (n := wr.heap.size) (v := .slice (some ⟨wr.heap.size, 0, none⟩) 0 0) intOk rfl (.tmp 48) (.tmp 51) rfl rfl ((ownG_none_int (heap_alloc_new wr.drew _) (Nat.le_refl _)).alloc _) (toZ (out.take k)) rfl (LOW.out _ (((Bel.refl wr).drew.alloc _).alloc _)) (by simp only [toZ_len, List.length_append, List.length_singleton, List.length_nil, List.length_take, List.length_drop]; unfold maxLen; omega) (by simp only [toZ_len, List.length_append, List.length_singleton, List.length_nil, List.length_take, List.length_drop]; omega) (Bel.size (((Bel.refl wr).drew.alloc _).alloc _)) ?_
         intro v1 z1 ho hg hb
         have hBz1 := Lib.hid (Bel.trans_below' (((Bel.refl wr).drew.alloc _).alloc _) hb)
         have hOz1 := Lib.hid ho
         have hLit := Lib.hid (show z1.heap[wr.heap.size + 1]? = some (.cells #[.int .i64 n] 3) from at_grown hg (at_new (by simp)) (by simp [Value.ownBlock]))
         clear ho hg hb
         refine hK.out _ _ trivial (fun hHeld => ?_);clear hK K;try simp only[Act.put,sqA,sqB,sqC]
         refine wpAnyH_ready (rs := [7]) (by kernel_rfl) (by simp) ?_
         refine AllReadyH.cons rfl (fun K hK => ?_) AllReadyH.nil
         refine step_append_seg (E := intEl) (n := wr.heap.size) intOk rfl (.tmp 52) (.tmp 54) rfl rfl hOz1.out [(n : Int)] rfl (lit_int hLit.out) (by simp only [toZ_len, List.length_append, List.length_singleton, List.length_nil, List.length_take, List.length_drop]; unfold maxLen; omega) (by simp only [toZ_len, List.length_append, List.length_singleton, List.length_nil, List.length_take, List.length_drop]; omega) (Bel.size hBz1.out) ?_
         intro v2 z2 ho hg hb
         have hBz2 := Lib.hid (Bel.trans_below' hBz1.out hb)
         have hOz2 := Lib.hid ho
         clear ho hg hb
         refine hK.out _ _ trivial (fun hHeld => ?_);clear hK K;try simp only[Act.put,sqA,sqB,sqC]
         refine wpAnyH_ready (rs := [11]) (by kernel_rfl) (by simp) ?_
         refine AllReadyH.cons rfl (fun K hK => ?_) AllReadyH.nil
         refine step_append_seg (E := intEl) (n := wr.heap.size) intOk rfl (.tmp 55) (.tmp 58) rfl rfl hOz2.out (toZ (out.drop k)) rfl (HIGH.out _ hBz2.out) (by simp only [toZ_len, List.length_append, List.length_singleton, List.length_nil, List.length_take, List.length_drop]; unfold maxLen; omega) (by simp only [toZ_len, List.length_append, List.length_singleton, List.length_nil, List.length_take, List.length_drop]; omega) (Bel.size hBz2.out) ?_
         intro v3 z3 ho hg hb
         have hBz3 := Lib.hid (Bel.trans_below' hBz2.out hb)
         have hOz3 := Lib.hid ho
         obtain ⟨p3, c3, hv3⟩ := ownG_len ho
         have hlen3 : (toZ (out.take k) ++ [(n : Int)] ++ toZ (out.drop k)).length = out.length + 1 := by simp only [toZ_len, List.length_append, List.length_singleton, List.length_take, List.length_drop]; omega
         rw [List.nil_append, hlen3] at hv3
         subst hv3
         replace hOz3 := Lib.hid ho
         clear ho hg hb
         refine hK.out _ _ trivial (fun hHeld => ?_);clear hK K;try simp only[Act.put,sqA,sqB,sqC]
         refine tk (v := ?_) 12 rfl ?_ ?_
         rotate_left
         ·(intros;go_simp<;>with_reducible rfl)
         try simp only[Act.put,sqA,sqB,sqC]
         refine wpAnyH_done (by kernel_rfl) ?_ _
         go_wp2_with (fail)
         go_roundw
         case rel => exact ⟨i + 1, by go_num, by omega, by
          rw [HE.out, HI.out]
          have e : toZ (out.take k ++ [n] ++ out.drop k) = [] ++ toZ (out.take k) ++ [(n : Int)] ++ toZ (out.drop k) := by simp [toZ]
          rw [e]
          exact hOz3.out.low HW.out.size, HW.out.trans hBz3.out⟩
         case measure => simp [intOf]; omega
       ·go_simp
        refine hK.out _ _ trivial (fun hHeld => ?_);clear hK K;try simp only[Act.put,sqA,sqB,sqC]
        refine wpAnyH_ready (rs := [0]) (by kernel_rfl) (by simp) ?_
        refine AllReadyH.cons rfl (fun K hK => ?_) AllReadyH.nil
        go_simp
        refine hK.out _ _ trivial (fun hHeld => ?_);clear hK K;try simp only[Act.put,sqA,sqB,sqC]
        refine wpAnyH_ready (rs := [4]) (by kernel_rfl) (by simp) ?_
        refine AllReadyH.cons rfl (fun K hK => ?_) AllReadyH.nil
        refine step_append_seg (E := intEl) (n := wr.heap.size) (v := .slice (some ⟨wr.heap.size + 1, 0, none⟩) 0 0) intOk rfl (.tmp 48) (.tmp 51) rfl rfl (ownG_none_int (B := wr.heap.size + 1) (at_new (by simp)) (by omega)) (toZ (out.take k)) rfl (LOW.out _ (((Bel.refl wr).drew.alloc _).alloc _)) (by simp only [toZ_len, List.length_append, List.length_singleton, List.length_nil, List.length_take, List.length_drop]; unfold maxLen; omega) (by simp only [toZ_len, List.length_append, List.length_singleton, List.length_nil, List.length_take, List.length_drop]; omega) (Bel.size (((Bel.refl wr).drew.alloc _).alloc _)) ?_
        intro v1 z1 ho hg hb
        have hBz1 := Lib.hid (Bel.trans_below' (((Bel.refl wr).drew.alloc _).alloc _) hb)
        have hOz1 := Lib.hid ho
        have hLit := Lib.hid (show z1.heap[wr.heap.size]? = some (.cells #[.int .i64 n] 3) from at_grown hg (at_old (heap_alloc_new wr.drew _)) (by simp [Value.ownBlock]))
        clear ho hg hb
        refine hK.out _ _ trivial (fun hHeld => ?_);clear hK K;try simp only[Act.put,sqA,sqB,sqC]
        refine wpAnyH_ready (rs := [7]) (by kernel_rfl) (by simp) ?_
        refine AllReadyH.cons rfl (fun K hK => ?_) AllReadyH.nil
        refine step_append_seg (E := intEl) (n := wr.heap.size) intOk rfl (.tmp 52) (.tmp 54) rfl rfl hOz1.out [(n : Int)] rfl (lit_int hLit.out) (by simp only [toZ_len, List.length_append, List.length_singleton, List.length_nil, List.length_take, List.length_drop]; unfold maxLen; omega) (by simp only [toZ_len, List.length_append, List.length_singleton, List.length_nil, List.length_take, List.length_drop]; omega) (Bel.size hBz1.out) ?_
        intro v2 z2 ho hg hb
        have hBz2 := Lib.hid (Bel.trans_below' hBz1.out hb)
        have hOz2 := Lib.hid ho
        clear ho hg hb
        refine hK.out _ _ trivial (fun hHeld => ?_);clear hK K;try simp only[Act.put,sqA,sqB,sqC]
        refine wpAnyH_ready (rs := [11]) (by kernel_rfl) (by simp) ?_
        refine AllReadyH.cons rfl (fun K hK => ?_) AllReadyH.nil
        refine step_append_seg (E := intEl) (n := wr.heap.size) intOk rfl (.tmp 55) (.tmp 58) rfl rfl hOz2.out (toZ (out.drop k)) rfl (HIGH.out _ hBz2.out) (by simp only [toZ_len, List.length_append, List.length_singleton, List.length_nil, List.length_take, List.length_drop]; unfold maxLen; omega) (by simp only [toZ_len, List.length_append, List.length_singleton, List.length_nil, List.length_take, List.length_drop]; omega) (Bel.size hBz2.out) ?_
        intro v3 z3 ho hg hb
        have hBz3 := Lib.hid (Bel.trans_below' hBz2.out hb)
        have hOz3 := Lib.hid ho
        obtain ⟨p3, c3, hv3⟩ := ownG_len ho
        have hlen3 : (toZ (out.take k) ++ [(n : Int)] ++ toZ (out.drop k)).length = out.length + 1 := by simp only [toZ_len, List.length_append, List.length_singleton, List.length_take, List.length_drop]; omega
        rw [List.nil_append, hlen3] at hv3
        subst hv3
        replace hOz3 := Lib.hid ho
        clear ho hg hb
        refine hK.out _ _ trivial (fun hHeld => ?_);clear hK K;try simp only[Act.put,sqA,sqB,sqC]
        refine tk (v := ?_) 12 rfl ?_ ?_
        rotate_left
        ·(intros;go_simp<;>with_reducible rfl)
        try simp only[Act.put,sqA,sqB,sqC]
        refine wpAnyH_done (by kernel_rfl) ?_ _
        go_wp2_with (fail)
        go_roundw
        case rel => exact ⟨i + 1, by go_num, by omega, by
         rw [HE.out, HI.out]
         have e : toZ (out.take k ++ [n] ++ out.drop k) = [] ++ toZ (out.take k) ++ [(n : Int)] ++ toZ (out.drop k) := by simp [toZ]
         rw [e]
         exact hOz3.out.low HW.out.size, HW.out.trans hBz3.out⟩
        case measure => simp [intOf]; omega
      ·have hko' : k = out.length := by omega
       clear hstop hko'
       go_wp2_with (fail)
       have HW := Lib.hid (HB1.out.trans HB2.out)
       obtain ⟨s1, s2, hr1, hr2, hlow, hhigh⟩ := slice_parts (HO1.out.bel HB2.out) k hkl2 (by omega)
       have LOW := Lib.hid hlow
       have HIGH := Lib.hid hhigh
       clear hlow hhigh
       generalize hov : Value.slice op out.length oc = ov at *
       clear hov
       refine wp_region_held_drew (S := fun z => True) (by kernel_rfl) trivial (fun hHeld => ?_)
       refine tk (v := ?_) 1 rfl ?_ ?_
       rotate_left
       ·(intros;go_simp<;>with_reducible rfl)
       try simp only[Act.put,sqA,sqB,sqC]
       refine tk (v := ?_) 2 rfl ?_ ?_
       rotate_left
       ·(intros;go_simp<;>with_reducible rfl)
       try simp only[Act.put,sqA,sqB,sqC]
       refine tk (v := ?_) 5 rfl ?_ ?_
       rotate_left
       ·(intros;go_simp<;>with_reducible rfl)
       try simp only[Act.put,sqA,sqB,sqC]
       refine tk (v := ?_) 8 rfl ?_ ?_
       rotate_left
       ·(intros;go_simp<;>with_reducible rfl)
       try simp only[Act.put,sqA,sqB,sqC]
       refine tk (v := ?_) 9 rfl ?_ ?_
       rotate_left
       ·(intros;go_simp<;>with_reducible rfl)
       try simp only[Act.put,sqA,sqB,sqC]
       refine tk (v := ?_) 3 rfl ?_ ?_
       rotate_left
       ·(intros;go_simp<;>with_reducible rfl)
       try simp only[Act.put,sqA,sqB,sqC]
       refine tk (v := ?_) 10 rfl ?_ ?_
       rotate_left
       ·(intros;go_simp<;>with_reducible rfl)
       try simp only[Act.put,sqA,sqB,sqC]
       refine wpAnyH_ready (rs := [0, 6]) (by kernel_rfl) (by simp) ?_
       refine (AllReadyH.cons rfl (fun K hK => ?_) (AllReadyH.cons rfl (fun K hK => ?_) AllReadyH.nil))
       ·go_simp
        refine hK.out _ _ trivial (fun hHeld => ?_);clear hK K;try simp only[Act.put,sqA,sqB,sqC]
        refine wpAnyH_ready (rs := [4, 6]) (by kernel_rfl) (by simp) ?_
        refine (AllReadyH.cons rfl (fun K hK => ?_) (AllReadyH.cons rfl (fun K hK => ?_) AllReadyH.nil))
        ·refine step_append_seg (E := intEl) (n := wr.heap.size) (v := .slice (some ⟨wr.heap.size, 0, none⟩) 0 0) intOk rfl (.tmp 48) (.tmp 51) rfl rfl (ownG_none_int (heap_alloc_new wr.drew _) (Nat.le_refl _)) (toZ (out.take k)) rfl (LOW.out _ ((Bel.refl wr).drew.alloc _)) (by simp only [toZ_len, List.length_append, List.length_singleton, List.length_nil, List.length_take, List.length_drop]; unfold maxLen; omega) (by simp only [toZ_len, List.length_append, List.length_singleton, List.length_nil, List.length_take, List.length_drop]; omega) (Bel.size ((Bel.refl wr).drew.alloc _)) ?_
         intro v1 z1 ho hg hb
         have hBz1 := Lib.hid (Bel.trans_below' ((Bel.refl wr).drew.alloc _) hb)
         have hOz1 := Lib.hid ho
         clear ho hg hb
         refine hK.out _ _ trivial (fun hHeld => ?_);clear hK K;try simp only[Act.put,sqA,sqB,sqC]
         refine wpAnyH_ready (rs := [6]) (by kernel_rfl) (by simp) ?_
         refine AllReadyH.cons rfl (fun K hK => ?_) AllReadyH.nil
         go_simp
         refine hK.out _ _ trivial (fun hHeld => ?_);clear hK K;try simp only[Act.put,sqA,sqB,sqC]
         have hBz := Lib.hid (hBz1.out.alloc (.cells #[.int .i64 n] 3))
         have hLit := Lib.hid (heap_alloc_new z1 (.cells #[.int .i64 n] 3))
         refine wpAnyH_ready (rs := [7]) (by kernel_rfl) (by simp) ?_
         refine AllReadyH.cons rfl (fun K hK => ?_) AllReadyH.nil
         refine step_append_seg (E := intEl) (n := wr.heap.size) intOk rfl (.tmp 52) (.tmp 54) rfl rfl (hOz1.out.alloc _) [(n : Int)] rfl (lit_int hLit.out) (by simp only [toZ_len, List.length_append, List.length_singleton, List.length_nil, List.length_take, List.length_drop]; unfold maxLen; omega) (by simp only [toZ_len, List.length_append, List.length_singleton, List.length_nil, List.length_take, List.length_drop]; omega) (Bel.size hBz.out) ?_
         intro v2 z2 ho hg hb
         have hBz2 := Lib.hid (Bel.trans_below' hBz.out hb)
         have hOz2 := Lib.hid ho
         clear ho hg hb
         refine hK.out _ _ trivial (fun hHeld => ?_);clear hK K;try simp only[Act.put,sqA,sqB,sqC]
         refine wpAnyH_ready (rs := [11]) (by kernel_rfl) (by simp) ?_
         refine AllReadyH.cons rfl (fun K hK => ?_) AllReadyH.nil
         refine step_append_seg (E := intEl) (n := wr.heap.size) intOk rfl (.tmp 55) (.tmp 58) rfl rfl hOz2.out (toZ (out.drop k)) rfl (HIGH.out _ hBz2.out) (by simp only [toZ_len, List.length_append, List.length_singleton, List.length_nil, List.length_take, List.length_drop]; unfold maxLen; omega) (by simp only [toZ_len, List.length_append, List.length_singleton, List.length_nil, List.length_take, List.length_drop]; omega) (Bel.size hBz2.out) ?_
         intro v3 z3 ho hg hb
         have hBz3 := Lib.hid (Bel.trans_below' hBz2.out hb)
         have hOz3 := Lib.hid ho
         obtain ⟨p3, c3, hv3⟩ := ownG_len ho
         have hlen3 : (toZ (out.take k) ++ [(n : Int)] ++ toZ (out.drop k)).length = out.length + 1 := by simp only [toZ_len, List.length_append, List.length_singleton, List.length_take, List.length_drop]; omega
         rw [List.nil_append, hlen3] at hv3
         subst hv3
         replace hOz3 := Lib.hid ho
         clear ho hg hb
         refine hK.out _ _ trivial (fun hHeld => ?_);clear hK K;try simp only[Act.put,sqA,sqB,sqC]
         refine tk (v := ?_) 12 rfl ?_ ?_
         rotate_left
         ·(intros;go_simp<;>with_reducible rfl)
         try simp only[Act.put,sqA,sqB,sqC]
         refine wpAnyH_done (by kernel_rfl) ?_ _
         go_wp2_with (fail)
         go_roundw
         case rel => exact ⟨i + 1, by go_num, by omega, by
          rw [HE.out, HI.out]
          have e : toZ (out.take k ++ [n] ++ out.drop k) = [] ++ toZ (out.take k) ++ [(n : Int)] ++ toZ (out.drop k) := by simp [toZ]
          rw [e]
          exact hOz3.out.low HW.out.size, HW.out.trans hBz3.out⟩
         case measure => simp [intOf]; omega
        ·go_simp
         refine hK.out _ _ trivial (fun hHeld => ?_);clear hK K;try simp only[Act.put,sqA,sqB,sqC]
         refine wpAnyH_ready (rs := [4]) (by kernel_rfl) (by simp) ?_
         refine AllReadyH.cons rfl (fun K hK => ?_) AllReadyH.nil
         refine step_append_seg (E := intEl) (n := wr.heap.size) (v := .slice (some ⟨wr.heap.size, 0, none⟩) 0 0) intOk rfl (.tmp 48) (.tmp 51) rfl rfl ((ownG_none_int (heap_alloc_new wr.drew _) (Nat.le_refl _)).alloc _) (toZ (out.take k)) rfl (LOW.out _ (((Bel.refl wr).drew.alloc _).alloc _)) (by simp only [toZ_len, List.length_append, List.length_singleton, List.length_nil, List.length_take, List.length_drop]; unfold maxLen; omega) (by simp only [toZ_len, List.length_append, List.length_singleton, List.length_nil, List.length_take, List.length_drop]; omega) (Bel.size (((Bel.refl wr).drew.alloc _).alloc _)) ?_
         intro v1 z1 ho hg hb
         have hBz1 := Lib.hid (Bel.trans_below' (((Bel.refl wr).drew.alloc _).alloc _) hb)
         have hOz1 := Lib.hid ho
         have hLit := Lib.hid (show z1.heap[wr.heap.size + 1]? = some (.cells #[.int .i64 n] 3) from at_grown hg (at_new (by simp)) (by simp [Value.ownBlock]))
         clear ho hg hb
         refine hK.out _ _ trivial (fun hHeld => ?_);clear hK K;try simp only[Act.put,sqA,sqB,sqC]
         refine wpAnyH_ready (rs := [7]) (by kernel_rfl) (by simp) ?_
         refine AllReadyH.cons rfl (fun K hK => ?_) AllReadyH.nil
         refine step_append_seg (E := intEl) (n := wr.heap.size) intOk rfl (.tmp 52) (.tmp 54) rfl rfl hOz1.out [(n : Int)] rfl (lit_int hLit.out) (by simp only [toZ_len, List.length_append, List.length_singleton, List.length_nil, List.length_take, List.length_drop]; unfold maxLen; omega) (by simp only [toZ_len, List.length_append, List.length_singleton, List.length_nil, List.length_take, List.length_drop]; omega) (Bel.size hBz1.out) ?_
         intro v2 z2 ho hg hb
         have hBz2 := Lib.hid (Bel.trans_below' hBz1.out hb)
         have hOz2 := Lib.hid ho
         clear ho hg hb
         refine hK.out _ _ trivial (fun hHeld => ?_);clear hK K;try simp only[Act.put,sqA,sqB,sqC]
         refine wpAnyH_ready (rs := [11]) (by kernel_rfl) (by simp) ?_
         refine AllReadyH.cons rfl (fun K hK => ?_) AllReadyH.nil
         refine step_append_seg (E := intEl) (n := wr.heap.size) intOk rfl (.tmp 55) (.tmp 58) rfl rfl hOz2.out (toZ (out.drop k)) rfl (HIGH.out _ hBz2.out) (by simp only [toZ_len, List.length_append, List.length_singleton, List.length_nil, List.length_take, List.length_drop]; unfold maxLen; omega) (by simp only [toZ_len, List.length_append, List.length_singleton, List.length_nil, List.length_take, List.length_drop]; omega) (Bel.size hBz2.out) ?_
         intro v3 z3 ho hg hb
         have hBz3 := Lib.hid (Bel.trans_below' hBz2.out hb)
         have hOz3 := Lib.hid ho
         obtain ⟨p3, c3, hv3⟩ := ownG_len ho
         have hlen3 : (toZ (out.take k) ++ [(n : Int)] ++ toZ (out.drop k)).length = out.length + 1 := by simp only [toZ_len, List.length_append, List.length_singleton, List.length_take, List.length_drop]; omega
         rw [List.nil_append, hlen3] at hv3
         subst hv3
         replace hOz3 := Lib.hid ho
         clear ho hg hb
         refine hK.out _ _ trivial (fun hHeld => ?_);clear hK K;try simp only[Act.put,sqA,sqB,sqC]
         refine tk (v := ?_) 12 rfl ?_ ?_
         rotate_left
         ·(intros;go_simp<;>with_reducible rfl)
         try simp only[Act.put,sqA,sqB,sqC]
         refine wpAnyH_done (by kernel_rfl) ?_ _
         go_wp2_with (fail)
         go_roundw
         case rel => exact ⟨i + 1, by go_num, by omega, by
          rw [HE.out, HI.out]
          have e : toZ (out.take k ++ [n] ++ out.drop k) = [] ++ toZ (out.take k) ++ [(n : Int)] ++ toZ (out.drop k) := by simp [toZ]
          rw [e]
          exact hOz3.out.low HW.out.size, HW.out.trans hBz3.out⟩
         case measure => simp [intOf]; omega
       ·go_simp
        refine hK.out _ _ trivial (fun hHeld => ?_);clear hK K;try simp only[Act.put,sqA,sqB,sqC]
        refine wpAnyH_ready (rs := [0]) (by kernel_rfl) (by simp) ?_
        refine AllReadyH.cons rfl (fun K hK => ?_) AllReadyH.nil
        go_simp
        refine hK.out _ _ trivial (fun hHeld => ?_);clear hK K;try simp only[Act.put,sqA,sqB,sqC]
        refine wpAnyH_ready (rs := [4]) (by kernel_rfl) (by simp) ?_
        refine AllReadyH.cons rfl (fun K hK => ?_) AllReadyH.nil
        refine step_append_seg (E := intEl) (n := wr.heap.size) (v := .slice (some ⟨wr.heap.size + 1, 0, none⟩) 0 0) intOk rfl (.tmp 48) (.tmp 51) rfl rfl (ownG_none_int (B := wr.heap.size + 1) (at_new (by simp)) (by omega)) (toZ (out.take k)) rfl (LOW.out _ (((Bel.refl wr).drew.alloc _).alloc _)) (by simp only [toZ_len, List.length_append, List.length_singleton, List.length_nil, List.length_take, List.length_drop]; unfold maxLen; omega) (by simp only [toZ_len, List.length_append, List.length_singleton, List.length_nil, List.length_take, List.length_drop]; omega) (Bel.size (((Bel.refl wr).drew.alloc _).alloc _)) ?_
        intro v1 z1 ho hg hb
        have hBz1 := Lib.hid (Bel.trans_below' (((Bel.refl wr).drew.alloc _).alloc _) hb)
        have hOz1 := Lib.hid ho
        have hLit := Lib.hid (show z1.heap[wr.heap.size]? = some (.cells #[.int .i64 n] 3) from at_grown hg (at_old (heap_alloc_new wr.drew _)) (by simp [Value.ownBlock]))
        clear ho hg hb
        refine hK.out _ _ trivial (fun hHeld => ?_);clear hK K;try simp only[Act.put,sqA,sqB,sqC]
        refine wpAnyH_ready (rs := [7]) (by kernel_rfl) (by simp) ?_
        refine AllReadyH.cons rfl (fun K hK => ?_) AllReadyH.nil
        refine step_append_seg (E := intEl) (n := wr.heap.size) intOk rfl (.tmp 52) (.tmp 54) rfl rfl hOz1.out [(n : Int)] rfl (lit_int hLit.out) (by simp only [toZ_len, List.length_append, List.length_singleton, List.length_nil, List.length_take, List.length_drop]; unfold maxLen; omega) (by simp only [toZ_len, List.length_append, List.length_singleton, List.length_nil, List.length_take, List.length_drop]; omega) (Bel.size hBz1.out) ?_
        intro v2 z2 ho hg hb
        have hBz2 := Lib.hid (Bel.trans_below' hBz1.out hb)
        have hOz2 := Lib.hid ho
        clear ho hg hb
        refine hK.out _ _ trivial (fun hHeld => ?_);clear hK K;try simp only[Act.put,sqA,sqB,sqC]
        refine wpAnyH_ready (rs := [11]) (by kernel_rfl) (by simp) ?_
        refine AllReadyH.cons rfl (fun K hK => ?_) AllReadyH.nil
        refine step_append_seg (E := intEl) (n := wr.heap.size) intOk rfl (.tmp 55) (.tmp 58) rfl rfl hOz2.out (toZ (out.drop k)) rfl (HIGH.out _ hBz2.out) (by simp only [toZ_len, List.length_append, List.length_singleton, List.length_nil, List.length_take, List.length_drop]; unfold maxLen; omega) (by simp only [toZ_len, List.length_append, List.length_singleton, List.length_nil, List.length_take, List.length_drop]; omega) (Bel.size hBz2.out) ?_
        intro v3 z3 ho hg hb
        have hBz3 := Lib.hid (Bel.trans_below' hBz2.out hb)
        have hOz3 := Lib.hid ho
        obtain ⟨p3, c3, hv3⟩ := ownG_len ho
        have hlen3 : (toZ (out.take k) ++ [(n : Int)] ++ toZ (out.drop k)).length = out.length + 1 := by simp only [toZ_len, List.length_append, List.length_singleton, List.length_take, List.length_drop]; omega
        rw [List.nil_append, hlen3] at hv3
        subst hv3
        replace hOz3 := Lib.hid ho
        clear ho hg hb
        refine hK.out _ _ trivial (fun hHeld => ?_);clear hK K;try simp only[Act.put,sqA,sqB,sqC]
        refine tk (v := ?_) 12 rfl ?_ ?_
        rotate_left
        ·(intros;go_simp<;>with_reducible rfl)
        try simp only[Act.put,sqA,sqB,sqC]
        refine wpAnyH_done (by kernel_rfl) ?_ _
        go_wp2_with (fail)
        go_roundw
        case rel => exact ⟨i + 1, by go_num, by omega, by
         rw [HE.out, HI.out]
         have e : toZ (out.take k ++ [n] ++ out.drop k) = [] ++ toZ (out.take k) ++ [(n : Int)] ++ toZ (out.drop k) := by simp [toZ]
         rw [e]
         exact hOz3.out.low HW.out.size, HW.out.trans hBz3.out⟩
        case measure => simp [intOf]; omega
  ·obtain rfl : i = M.L.length := by omega
   go_wp2_with (fail)
   go_ret
   have e : segsL p.data.toList M.L = segsL p.data.toList (M.L.take M.L.length) := by rw [List.take_length]
   exact ⟨_, rfl, by rw [e]; exact HO.out, HB.out⟩
set_option maxHeartbeats 4000000 in
theorem rnum_any (n₀ : Nat) (w : World) (jb b : Nat) (p : ByteArray) (most : Int) (M : RS) (F : List Nat) (h : RefP n₀ w b M F) (hM : M.ok) (hj : JAt w jb b p most) (hp : p.size ≤ 100) :
  Calls Tryz.prog 79 #[.pointer (some ⟨jb, 0, none⟩)] w fun e w' => e = .returned (.int .i64 (lastN p.data.toList M.L : Nat)) ∧ Bel w w' := by
 have HC := Lib.hid (rsegs_any n₀ w jb b p most M F h hM hj hp)
 have hsl := segs_len p.data.toList M.L
 have h60 := hM.len
 obtain ⟨l, hl⟩ : ∃ l, l = segsL p.data.toList M.L := ⟨_, rfl⟩
 have HLN := Lib.hid (show lastN p.data.toList M.L = l.getLast?.getD 0 by rw [hl]; rfl)
 rw [← hl] at HC hsl
 clear hl hj h hM
 go_enter Tryz.func79, Tryz.ntmps79
 go_wp2_with (fail)
 refine HC.out.mono ?_
 rintro e w1 ⟨v, rfl, hown, hb1⟩
 have HV := Lib.hid hown
 have HB1 := Lib.hid hb1
 obtain ⟨sp, sc, hv⟩ := ownG_len hown
 rw [toZ_len] at hv
 subst hv
 clear hown hb1
 by_cases h0 : l.length = 0
 ·have HZ := Lib.hid (show l.getLast?.getD 0 = 0 by rw [List.length_eq_zero_iff.1 h0]; rfl)
  go_wp2_with (fail)
  go_ret
  exact ⟨by rw [HLN.out, HZ.out]; rfl, HB1.out⟩
 ·obtain ⟨k, hk⟩ : ∃ k, l.length = k + 1 := ⟨l.length - 1, by omega⟩
  have hkl : k < l.length := by omega
  obtain ⟨g, cap, hv, hcap, _, e0⟩ := int_at HV.out k hkl
  simp only [Value.slice.injEq, true_and] at hv
  obtain ⟨rfl, rfl⟩ := hv
  have HZ := Lib.hid (show l.getLast?.getD 0 = l[k] by
   rw [List.getLast?_eq_getElem?, show l.length - 1 = k by omega, List.getElem?_eq_getElem hkl]; rfl)
  obtain ⟨m, hm⟩ : ∃ m, m = l[k] := ⟨_, rfl⟩
  rw [← hm] at e0 HZ
  have hk1 : (l.length : Int) - 1 = (k : Int) := by omega
  clear hm
  go_wp2_with (fail)
  go_ret
  exact ⟨by rw [HLN.out, HZ.out]; rfl, HB1.out⟩

structure JS (n₀ : Nat) (w : World) (b : Nat) (M : RS) (F : List Nat) (jb : Nat) (p : ByteArray) (most : Int) : Prop where
 prog : ProgAt n₀ w b M F
 ok : M.ok
 j : JAt w jb b p most
 out : jb ∉ F
 std : ∀ z, Keep F w z → Std z
section
variable {n₀ : Nat} {w x y : World} {b jb : Nat} {M M1 M2 : RS} {F F1 : List Nat} {p : ByteArray} {most : Int}
theorem JS.std0 (h : JS n₀ w b M F jb p most) : Std w := h.std w (Keep.refl _ _)
theorem JS.bel (h : JS n₀ w b M F jb p most) (hb : Bel w x) : JS n₀ x b M F jb p most :=
 ⟨h.prog.bel hb, h.ok, h.j.bel hb, h.out, fun z hz => h.std z ((Keep.of_bel hb F).trans hz (fun k hk => Or.inl hk))⟩
theorem JS.step (h : JS n₀ w b M F jb p most) (hT : ProgTo n₀ w x b M1 F) (hM : M1.ok) : ∃ F1, JS n₀ x b M1 F1 jb p most ∧ Keep F w x ∧ (∀ k ∈ F1, k ∈ F ∨ w.heap.size ≤ k) := by
 obtain ⟨F1, h1, h2, h3⟩ := hT
 refine ⟨F1, ⟨h1, hM, h.j.keep (h2.block jb h.j.lt h.out), fun hm => ?_, fun z hz => h.std z (h2.trans hz h3)⟩, h2, h3⟩
 rcases h3 jb hm with h4 | h4
 ·exact h.out h4
 ·have := h.j.lt; omega
theorem to_then (hk : Keep F w x) (hF : ∀ k ∈ F1, k ∈ F ∨ w.heap.size ≤ k) (h2 : ProgTo n₀ x y b M2 F1) : ProgTo n₀ w y b M2 F := by
 obtain ⟨F2, q1, q2, q3⟩ := h2
 refine ⟨F2, q1, hk.trans q2 hF, fun k hm => ?_⟩
 rcases q3 k hm with h | h
 ·exact hF k h
 ·exact Or.inr (Nat.le_trans hk.size h)
end

set_option maxHeartbeats 4000000 in
set_option maxRecDepth 20000 in
theorem jturn_any (n₀ : Nat) (w : World) (b : Nat) (M : RS) (F : List Nat) (jb : Nat) (p : ByteArray) (most : Int) (h : JS n₀ w b M F jb p most) (hp : p.size ≤ 100) (h9 : lastN p.data.toList M.L < 9999999) :
  Calls Tryz.prog 51 #[.pointer (some ⟨jb, 0, none⟩)] w fun e y => e = .returned (.int .i64 (jturn p.data.toList M).1) ∧ ProgTo n₀ w y b (jturn p.data.toList M).2 F := by
 have H := Lib.hid h
 have c0 := h.j.files
 clear h
 obtain ⟨n, hn⟩ : ∃ n, n = lastN p.data.toList M.L := ⟨_, rfl⟩
 have HN := Lib.hid hn
 rw [← hn] at h9
 have hne : ((n : Int) == 9999999) = false := by rw [beq_eq_false_iff_ne]; omega
 have hfl := file_len p.data.toList (n := n + 1) (by omega)
 have hfz := str_len (fileN p.data.toList (n + 1))
 have hpl : p.data.toList.length = p.size := rfl
 have HCF := Lib.hid (fun (z : World) (hj : JAt z jb b p most) (hs : Std z) => file_any z jb b p most (n + 1) hj hp (by omega) hs)
 have hcast : ((n + 1 : Nat) : Int) = (n : Int) + 1 := by omega
 rw [hcast] at HCF
 have hwr : IntKind.i64.wrap ((n : Int) + 1) = (n : Int) + 1 := IntWalk.i64_in _ (by omega)
 clear hn hcast
 go_enter Tryz.func51, Tryz.ntmps51
 go_wp2_with (fail)
 refine (num_any n₀ w jb b p most M F H.out.prog H.out.ok H.out.j hp H.out.std0).mono ?_
 rintro e w1 ⟨rfl, hb1⟩
 rw [← HN.out]
 have HB1 := Lib.hid hb1
 have c1 := cell_later hb1 c0
 clear hb1
 have HX := Lib.hid (H.out.bel HB1.out)
 go_wp2_with (fail)
 refine wp_region_held_drew (S := fun z => z.cell? ⟨jb, 0, none⟩ = some (.pointer (some ⟨b, 0, none⟩))) (by kernel_rfl) c1 (fun hHeld => ?_)
 refine tq ⟨some 13, .move (.tmp 0), 108, "journal.go:105", #[], none⟩ ?_ 0 rfl ?_ ?_;rotate_left;·(intros;go_simp<;>with_reducible rfl)
 try simp only[Act.put,sqA,sqB,sqC]
 refine tq ⟨some 14, .nilCheck (.tmp 13), 0, "journal.go:105", #[⟨0, .data⟩], none⟩ ?_ 1 rfl ?_ ?_;rotate_left;·(intros;go_simp<;>with_reducible rfl)
 try simp only[Act.put,sqA,sqB,sqC]
 refine tq ⟨some 15, .fieldAddr 153 (.tmp 14) 0, 0, "journal.go:105", #[⟨1, .data⟩], none⟩ ?_ 2 rfl ?_ ?_;rotate_left;·(intros;go_simp<;>with_reducible rfl)
 try simp only[Act.put,sqA,sqB,sqC]
 refine tq ⟨some 16, .load 55 (.tmp 15), 55, "journal.go:105", #[⟨2, .data⟩], none⟩ ?_ 3 rfl ?_ ?_;rotate_left;·(intros;go_simp<;>with_reducible rfl)
 try simp only[Act.put,sqA,sqB,sqC]
 refine tq ⟨some 17, .move (.tmp 0), 108, "journal.go:105", #[], none⟩ ?_ 4 rfl ?_ ?_;rotate_left;·(intros;go_simp<;>with_reducible rfl)
 try simp only[Act.put,sqA,sqB,sqC]
 refine tq ⟨some 18, .move (.tmp 3), 3, "journal.go:105", #[], none⟩ ?_ 5 rfl ?_ ?_;rotate_left;·(intros;go_simp<;>with_reducible rfl)
 try simp only[Act.put,sqA,sqB,sqC]
 refine tq ⟨some 19, .binOp .add 3 (.tmp 18) (.const (.int .i64 1)) 3, 3, "journal.go:105", #[⟨5, .data⟩], none⟩ ?_ 6 rfl ?_ ?_;rotate_left;·(intros;go_simp<;>with_reducible rfl)
 try simp only[Act.put,sqA,sqB,sqC]
 refine wpAnyH_ready (rs := [7]) (by kernel_rfl) (by simp) ?_
 refine ar1 ⟨some 20, .call ⟨.value (.func 84), #[.tmp 17, .tmp 19], #[108, 3]⟩, 9, "journal.go:105", #[⟨4, .data⟩, ⟨6, .data⟩], none⟩ rfl (fun K hK => ?_)
 go_simp
 refine (HCF.out _ (HX.out.bel (Bel.refl w1).drew).j (HX.out.bel (Bel.refl w1).drew).std0).mono ?_
 rintro e w2 ⟨rfl, hb2⟩
 have HB2 := Lib.hid ((HB1.out.drew).trans hb2)
 have c2 := cell_later hb2 (show _ = _ from c1)
 clear hb2
 dsimp only
 refine hK.out _ _ c2 (fun hHeld => ?_);clear hK K;try simp only[Act.put,sqA,sqB,sqC]
 refine wpAnyH_ready (rs := [8]) (by kernel_rfl) (by simp) ?_
 refine ar1 ⟨some 21, .call { callee := .value (.func 35), args := #[.tmp 16, .tmp 20, .const (.string { data := #[] })], argTypes := #[55, 9, 9] }, 31, "journal.go:105", #[⟨3, .data⟩, ⟨7, .data⟩, ⟨7, .chain⟩], none⟩ rfl (fun K hK => ?_)
 go_simp
 refine (padd_any n₀ w2 b M F (⟨(fileN p.data.toList (n + 1)).toArray⟩ : ByteArray) ⟨#[]⟩ (H.out.prog.bel HB2.out) (by omega) (by decide) H.out.ok.srt (good_len H.out.ok) (good_bytes H.out.ok) H.out.ok.room).mono ?_
 rintro e w3 ⟨rfl, hT⟩
 rw [str_list] at hT ⊢
 have HT := Lib.hid (hT.before HB2.out)
 have c3 : w3.cell? ⟨jb, 0, none⟩ = some (.pointer (some ⟨b, 0, none⟩)) := by
  obtain ⟨F3, _, q2, _⟩ := hT
  exact q2.cell c2 H.out.out
 clear hT
 have HJ := Lib.hid (show jturn p.data.toList M = addS (fileN p.data.toList (n + 1)) (⟨#[]⟩ : ByteArray).data.toList M by unfold jturn; rw [← HN.out])
 dsimp only
 refine hK.out _ _ c3 (fun hHeld => ?_);clear hK K;try simp only[Act.put,sqA,sqB,sqC]
 refine tq ⟨some 2, .assign (.tmp 21), 31, "journal.go:105", #[⟨8, .data⟩, ⟨8, .chain⟩, ⟨0, .phase⟩, ⟨1, .phase⟩, ⟨2, .phase⟩, ⟨3, .phase⟩, ⟨4, .phase⟩, ⟨5, .phase⟩, ⟨6, .phase⟩, ⟨7, .phase⟩, ⟨8, .phase⟩], none⟩ ?_ 9 rfl ?_ ?_;rotate_left;·(intros;go_simp<;>with_reducible rfl)
 try simp only[Act.put,sqA,sqB,sqC]
 refine wpAnyH_done (by kernel_rfl) ?_ _
 go_wp2_with (fail)
 go_ret
 exact ⟨by rw [HJ.out]; rfl, by rw [HJ.out]; exact HT.out⟩

structure RJS (n₀ : Nat) (w : World) (b : Nat) (M : RS) (F : List Nat) (jb : Nat) (p : ByteArray) (most : Int) : Prop where
 ref : RefP n₀ w b M F
 ok : M.ok
 j : JAt w jb b p most
 out : jb ∉ F
section
variable {n₀ : Nat} {w x y : World} {b jb : Nat} {M M1 M2 : RS} {F F1 : List Nat} {p : ByteArray} {most : Int}
theorem RJS.bel (h : RJS n₀ w b M F jb p most) (hb : Bel w x) : RJS n₀ x b M F jb p most :=
 ⟨h.ref.bel hb, h.ok, h.j.bel hb, h.out⟩
theorem RJS.step (h : RJS n₀ w b M F jb p most) (hT : RefTo n₀ w x b M1 F) (hM : M1.ok) : ∃ F1, RJS n₀ x b M1 F1 jb p most ∧ Keep F w x ∧ (∀ k ∈ F1, k ∈ F ∨ w.heap.size ≤ k) := by
 obtain ⟨F1, h1, h2, h3⟩ := hT
 refine ⟨F1, ⟨h1, hM, h.j.keep (h2.block jb h.j.lt h.out), fun hm => ?_⟩, h2, h3⟩
 rcases h3 jb hm with h4 | h4
 ·exact h.out h4
 ·have := h.j.lt; omega
theorem rto_then (hk : Keep F w x) (hF : ∀ k ∈ F1, k ∈ F ∨ w.heap.size ≤ k) (h2 : RefTo n₀ x y b M2 F1) : RefTo n₀ w y b M2 F := by
 obtain ⟨F2, q1, q2, q3⟩ := h2
 refine ⟨F2, q1, hk.trans q2 hF, fun k hm => ?_⟩
 rcases q3 k hm with h | h
 ·exact hF k h
 ·exact Or.inr (Nat.le_trans hk.size h)
end

set_option maxHeartbeats 4000000 in
set_option maxRecDepth 20000 in
theorem rjturn_any (n₀ : Nat) (w : World) (b : Nat) (M : RS) (F : List Nat) (jb : Nat) (p : ByteArray) (most : Int) (h : RJS n₀ w b M F jb p most) (hp : p.size ≤ 100) (h9 : lastN p.data.toList M.L < 9999999) :
  Calls Tryz.prog 76 #[.pointer (some ⟨jb, 0, none⟩)] w fun e y => e = .returned (.int .i64 (jturn p.data.toList M).1) ∧ RefTo n₀ w y b (jturn p.data.toList M).2 F := by
 have H := Lib.hid h
 have c0 := h.j.files
 clear h
 obtain ⟨n, hn⟩ : ∃ n, n = lastN p.data.toList M.L := ⟨_, rfl⟩
 have HN := Lib.hid hn
 rw [← hn] at h9
 have hfl := file_len p.data.toList (n := n + 1) (by omega)
 have hfz := str_len (fileN p.data.toList (n + 1))
 have hpl : p.data.toList.length = p.size := rfl
 have HCF := Lib.hid (fun (z : World) (hj : JAt z jb b p most) => rfile_any z jb b p most (n + 1) hj hp (by omega))
 have hcast : ((n + 1 : Nat) : Int) = (n : Int) + 1 := by omega
 rw [hcast] at HCF
 have hwr : IntKind.i64.wrap ((n : Int) + 1) = (n : Int) + 1 := IntWalk.i64_in _ (by omega)
 clear hn hcast
 go_enter Tryz.func76, Tryz.ntmps76
 go_wp2_with (fail)
 refine wp_region_held_drew (S := fun z => z.cell? ⟨jb, 0, none⟩ = some (.pointer (some ⟨b, 0, none⟩))) (by kernel_rfl) c0 (fun hHeld => ?_)
 refine tq ⟨some 3, .move (.tmp 0), 60, "ref.go:181", #[], none⟩ ?_ 0 rfl ?_ ?_;rotate_left;·(intros;go_simp<;>with_reducible rfl)
 try simp only[Act.put,sqA,sqB,sqC]
 refine tq ⟨some 4, .nilCheck (.tmp 3), 0, "ref.go:181", #[⟨0, .data⟩], none⟩ ?_ 1 rfl ?_ ?_;rotate_left;·(intros;go_simp<;>with_reducible rfl)
 try simp only[Act.put,sqA,sqB,sqC]
 refine tq ⟨some 5, .fieldAddr 169 (.tmp 4) 0, 0, "ref.go:181", #[⟨1, .data⟩], none⟩ ?_ 2 rfl ?_ ?_;rotate_left;·(intros;go_simp<;>with_reducible rfl)
 try simp only[Act.put,sqA,sqB,sqC]
 refine tq ⟨some 6, .load 63 (.tmp 5), 63, "ref.go:181", #[⟨2, .data⟩], none⟩ ?_ 3 rfl ?_ ?_;rotate_left;·(intros;go_simp<;>with_reducible rfl)
 try simp only[Act.put,sqA,sqB,sqC]
 refine tq ⟨some 7, .move (.tmp 0), 60, "ref.go:181", #[], none⟩ ?_ 4 rfl ?_ ?_;rotate_left;·(intros;go_simp<;>with_reducible rfl)
 try simp only[Act.put,sqA,sqB,sqC]
 refine tq ⟨some 8, .move (.tmp 0), 60, "ref.go:181", #[], none⟩ ?_ 5 rfl ?_ ?_;rotate_left;·(intros;go_simp<;>with_reducible rfl)
 try simp only[Act.put,sqA,sqB,sqC]
 refine wpAnyH_ready (rs := [6]) (by kernel_rfl) (by simp) ?_
 refine ar1 ⟨some 9, .call ⟨.value (.func 79), #[.tmp 8], #[60]⟩, 3, "ref.go:181", #[⟨5, .data⟩], none⟩ rfl (fun K hK => ?_)
 go_simp
 refine (rnum_any n₀ _ jb b p most M F (H.out.bel (Bel.refl w).drew).ref H.out.ok (H.out.bel (Bel.refl w).drew).j hp).mono ?_
 rintro e w1 ⟨rfl, hb1⟩
 rw [← HN.out]
 have HB1 := Lib.hid (((Bel.refl w).drew).trans hb1)
 have c1 := cell_later hb1 (show _ = _ from c0)
 clear hb1
 have HX := Lib.hid (H.out.bel HB1.out)
 dsimp only
 refine hK.out _ _ c1 (fun hHeld => ?_);clear hK K;try simp only[Act.put,sqA,sqB,sqC]
 refine tq ⟨some 10, .binOp .add 3 (.tmp 9) (.const (.int .i64 1)) 3, 3, "ref.go:181", #[⟨6, .data⟩], none⟩ ?_ 7 rfl ?_ ?_;rotate_left;·(intros;go_simp<;>with_reducible rfl)
 try simp only[Act.put,sqA,sqB,sqC]
 refine wpAnyH_ready (rs := [8]) (by kernel_rfl) (by simp) ?_
 refine ar1 ⟨some 11, .call ⟨.value (.func 100), #[.tmp 7, .tmp 10], #[60, 3]⟩, 9, "ref.go:181", #[⟨4, .data⟩, ⟨7, .data⟩, ⟨6, .chain⟩], none⟩ rfl (fun K hK => ?_)
 go_simp
 refine (HCF.out _ HX.out.j).mono ?_
 rintro e w2 ⟨rfl, hb2⟩
 have HB2 := Lib.hid (HB1.out.trans hb2)
 have c2 := cell_later hb2 (show _ = _ from c1)
 clear hb2
 dsimp only
 refine hK.out _ _ c2 (fun hHeld => ?_);clear hK K;try simp only[Act.put,sqA,sqB,sqC]
 refine wpAnyH_ready (rs := [9]) (by kernel_rfl) (by simp) ?_
 refine ar1 ⟨some 12, .call { callee := .value (.func 36), args := #[.tmp 6, .tmp 11, .const (.string { data := #[] })], argTypes := #[63, 9, 9] }, 31, "ref.go:181", #[⟨3, .data⟩, ⟨8, .data⟩, ⟨8, .chain⟩], none⟩ rfl (fun K hK => ?_)
 go_simp
 refine (radd_any n₀ w2 b M F (⟨(fileN p.data.toList (n + 1)).toArray⟩ : ByteArray) ⟨#[]⟩ (by omega) (by decide) (H.out.ref.bel HB2.out) H.out.ok).mono ?_
 rintro e w3 ⟨rfl, hT⟩
 rw [str_list] at hT ⊢
 have HT := Lib.hid (hT.before HB2.out)
 have c3 : w3.cell? ⟨jb, 0, none⟩ = some (.pointer (some ⟨b, 0, none⟩)) := by
  obtain ⟨F3, _, q2, _⟩ := hT
  exact q2.cell c2 H.out.out
 clear hT
 have HJ := Lib.hid (show jturn p.data.toList M = addS (fileN p.data.toList (n + 1)) (⟨#[]⟩ : ByteArray).data.toList M by unfold jturn; rw [← HN.out])
 dsimp only
 refine hK.out _ _ c3 (fun hHeld => ?_);clear hK K;try simp only[Act.put,sqA,sqB,sqC]
 refine tq ⟨some 2, .assign (.tmp 12), 31, "ref.go:181", #[⟨9, .data⟩, ⟨9, .chain⟩, ⟨0, .phase⟩, ⟨1, .phase⟩, ⟨2, .phase⟩, ⟨3, .phase⟩, ⟨4, .phase⟩, ⟨5, .phase⟩, ⟨6, .phase⟩, ⟨7, .phase⟩, ⟨8, .phase⟩, ⟨9, .phase⟩], none⟩ ?_ 10 rfl ?_ ?_;rotate_left;·(intros;go_simp<;>with_reducible rfl)
 try simp only[Act.put,sqA,sqB,sqC]
 refine wpAnyH_done (by kernel_rfl) ?_ _
 go_wp2_with (fail)
 go_ret
 exact ⟨by rw [HJ.out]; rfl, by rw [HJ.out]; exact HT.out⟩

def roomS (p : List UInt8) (most : Int) (M : RS) : Int × RS := if M.gone = true then (7, M) else jroom p most M
theorem roomS_ok {M : RS} (h : M.ok) (p : List UInt8) (most : Int) : (roomS p most M).2.ok := by
 unfold roomS; split; exact h; exact jroom_ok h p most
theorem js_fileC {n₀ : Nat} {z : World} {b : Nat} {M : RS} {F : List Nat} {jb : Nat} {p : ByteArray} {most : Int} (h : JS n₀ z b M F jb p most) (hp : p.size ≤ 100) (n : Nat) (hn : n ≤ 10000000) :
  Calls Tryz.prog 84 #[.pointer (some ⟨jb, 0, none⟩), .int .i64 n] z fun e w' => e = .returned (.string ⟨(fileN p.data.toList n).toArray⟩) ∧ Bel z w' := file_any z jb b p most n h.j hp hn h.std0
theorem str_empty {l : List UInt8} (h : l ≠ []) : (⟨l.toArray⟩ : ByteArray).toList.isEmpty = false := by
 rw [ByteArray.toList_eq]
 cases l with
 | nil => exact absurd rfl h
 | cons a l => rfl
set_option maxHeartbeats 4000000 in
set_option maxRecDepth 20000 in
theorem withroom_any (n₀ : Nat) (w : World) (b : Nat) (M : RS) (F : List Nat) (jb : Nat) (p : ByteArray) (most : Int) (h : JS n₀ w b M F jb p most) (hp : p.size ≤ 100) (h0 : lastN p.data.toList M.L ≠ 0) (h9 : lastN p.data.toList M.L < 9999999) (hmost : in64 most) :
  Calls Tryz.prog 87 #[.pointer (some ⟨jb, 0, none⟩)] w fun e y => ∃ m : Nat, e = .returned (.tuple #[.int .i64 m, .int .i64 (roomS p.data.toList most M).1]) ∧ ProgTo n₀ w y b (roomS p.data.toList most M).2 F ∧ ((roomS p.data.toList most M).1 = 0 → m = lastN p.data.toList (roomS p.data.toList most M).2.L) := by
 have H := Lib.hid h
 have HMS := Lib.hid hmost
 obtain ⟨n, hn⟩ : ∃ n, n = lastN p.data.toList M.L := ⟨_, rfl⟩
 have HN := Lib.hid hn
 rw [← hn] at h9 h0
 have hmem : n ∈ segsL p.data.toList M.L := by rw [hn]; exact last_mem (fun e => h0 (by rw [hn]; exact last_zero.2 e))
 obtain ⟨-, -, hget⟩ := (mem_segs_get h.ok.srt).1 hmem
 obtain ⟨y, hy⟩ := Option.isSome_iff_exists.1 hget
 have hyb := (each_ok h.ok y (getF_mem hy)).1
 have HBY := Lib.hid (show bytesOf (fileN p.data.toList n) M = y.bytes from bytesOf_get hy)
 have HY := Lib.hid hy
 have hbz := str_len y.bytes
 have hfl := file_len p.data.toList (n := n) (by omega)
 have hfz := str_len (fileN p.data.toList n)
 have hpl : p.data.toList.length = p.size := rfl
 have hne0 : ((n : Int) == 0) = false := by rw [beq_eq_false_iff_ne]; omega
 clear h hn hmem hget hy hmost
 cases hg : M.gone with
 | true =>
  have HR := Lib.hid (show roomS p.data.toList most M = (7, M) by unfold roomS; rw [if_pos hg])
  have HGS := Lib.hid (show getS (fileN p.data.toList n) M = ([], 7) by unfold getS; rw [hg]; rfl)
  go_enter Tryz.func87, Tryz.ntmps87
  go_wp2_with (fail)
  refine (num_any n₀ w jb b p most M F H.out.prog H.out.ok H.out.j hp H.out.std0).mono ?_
  rintro e w1 ⟨rfl, hb1⟩
  rw [← HN.out]
  have HB1 := Lib.hid hb1
  have HX := Lib.hid (H.out.bel hb1)
  clear hb1
  go_wp2_with (fail)
  refine wp_region_held_drew (S := fun z => z.cell? ⟨jb, 0, none⟩ = some (.pointer (some ⟨b, 0, none⟩))) (by kernel_rfl) HX.out.j.files (fun hHeld => ?_)
  refine tq ⟨some 14, .move (.tmp 0), 108, "journal.go:84", #[], none⟩ ?_ 0 rfl ?_ ?_;rotate_left;·(intros;go_simp<;>with_reducible rfl)
  try simp only[Act.put,sqA,sqB,sqC]
  refine tq ⟨some 15, .nilCheck (.tmp 14), 0, "journal.go:84", #[⟨0, .data⟩], none⟩ ?_ 1 rfl ?_ ?_;rotate_left;·(intros;go_simp<;>with_reducible rfl)
  try simp only[Act.put,sqA,sqB,sqC]
  refine tq ⟨some 16, .fieldAddr 153 (.tmp 15) 0, 0, "journal.go:84", #[⟨1, .data⟩], none⟩ ?_ 2 rfl ?_ ?_;rotate_left;·(intros;go_simp<;>with_reducible rfl)
  try simp only[Act.put,sqA,sqB,sqC]
  refine tq ⟨some 17, .load 55 (.tmp 16), 55, "journal.go:84", #[⟨2, .data⟩], none⟩ ?_ 3 rfl ?_ ?_;rotate_left;·(intros;go_simp<;>with_reducible rfl)
  try simp only[Act.put,sqA,sqB,sqC]
  refine tq ⟨some 18, .move (.tmp 0), 108, "journal.go:84", #[], none⟩ ?_ 4 rfl ?_ ?_;rotate_left;·(intros;go_simp<;>with_reducible rfl)
  try simp only[Act.put,sqA,sqB,sqC]
  refine tq ⟨some 19, .move (.tmp 4), 3, "journal.go:84", #[], none⟩ ?_ 5 rfl ?_ ?_;rotate_left;·(intros;go_simp<;>with_reducible rfl)
  try simp only[Act.put,sqA,sqB,sqC]
  refine wpAnyH_ready (rs := [6]) (by kernel_rfl) (by simp) ?_
  refine ar1 ⟨some 20, .call ⟨.value (.func 84), #[.tmp 18, .tmp 19], #[108, 3]⟩, 9, "journal.go:84", #[⟨4, .data⟩, ⟨5, .data⟩], none⟩ rfl (fun K hK => ?_)
  go_simp
  refine (js_fileC (HX.out.bel (Bel.refl w1).drew) hp n (by omega)).mono ?_
  rintro e zf ⟨rfl, hbf⟩
  have HBf := Lib.hid ((Bel.refl w1).drew.trans hbf)
  have HXf := Lib.hid (HX.out.bel HBf.out)
  clear hbf
  dsimp only
  refine hK.out _ _ HXf.out.j.files (fun hHeld => ?_);clear hK K;try simp only[Act.put,sqA,sqB,sqC]
  refine wpAnyH_ready (rs := [7]) (by kernel_rfl) (by simp) ?_
  refine ar1 ⟨some 21, .call ⟨.value (.func 118), #[.tmp 17, .tmp 20], #[55, 9]⟩, 32, "journal.go:84", #[⟨3, .data⟩, ⟨6, .data⟩, ⟨6, .chain⟩], none⟩ rfl (fun K hK => ?_)
  go_simp
  refine (pget_any n₀ zf b M F (⟨(fileN p.data.toList n).toArray⟩ : ByteArray) HXf.out.prog (by unfold maxLen; omega)).mono ?_
  rintro e w3 ⟨rfl, hb3⟩
  rw [str_list, HGS.out]
  have HB3 := Lib.hid (HB1.out.trans (HBf.out.trans hb3))
  have HX3 := Lib.hid (HXf.out.bel hb3)
  have cN := HX3.out.j.files
  clear hb3
  dsimp only
  refine hK.out _ _ cN (fun hHeld => ?_);clear hK K;try simp only[Act.put,sqA,sqB,sqC]
  refine tq ⟨some 13, .move (.tmp 21), 32, "journal.go:84", #[⟨7, .data⟩], none⟩ ?_ 8 rfl ?_ ?_;rotate_left;·(intros;go_simp<;>with_reducible rfl)
  try simp only[Act.put,sqA,sqB,sqC]
  refine tq ⟨some 22, .extract (.tmp 13) 0, 9, "journal.go:84", #[⟨8, .data⟩], none⟩ ?_ 9 rfl ?_ ?_;rotate_left;·(intros;go_simp<;>with_reducible rfl)
  try simp only[Act.put,sqA,sqB,sqC]
  refine tq ⟨some 23, .extract (.tmp 13) 1, 31, "journal.go:84", #[⟨8, .data⟩, { on := 11, ground := Ground.gcOnly Departure.lateStores }], none⟩ ?_ 10 rfl ?_ ?_;rotate_left;·(intros;go_simp<;>with_reducible rfl)
  try simp only[Act.put,sqA,sqB,sqC]
  refine tq ⟨some 5, .assign (.tmp 22), 9, "journal.go:84", #[⟨9, .data⟩, ⟨7, .chain⟩, ⟨0, .phase⟩, ⟨1, .phase⟩, ⟨2, .phase⟩, ⟨3, .phase⟩, ⟨4, .phase⟩, ⟨5, .phase⟩, ⟨6, .phase⟩, ⟨7, .phase⟩, ⟨8, .phase⟩, ⟨9, .phase⟩, { on := 10, ground := Ground.textOnly Departure.lateStores }], none⟩ ?_ 11 rfl ?_ ?_;rotate_left;·(intros;go_simp<;>with_reducible rfl)
  try simp only[Act.put,sqA,sqB,sqC]
  refine tq ⟨some 6, .assign (.tmp 23), 31, "journal.go:84", #[⟨10, .data⟩, ⟨11, .chain⟩, ⟨0, .phase⟩, ⟨1, .phase⟩, ⟨2, .phase⟩, ⟨3, .phase⟩, ⟨4, .phase⟩, ⟨5, .phase⟩, ⟨6, .phase⟩, ⟨7, .phase⟩, ⟨8, .phase⟩, ⟨9, .phase⟩, ⟨10, .phase⟩, ⟨11, .phase⟩], none⟩ ?_ 12 rfl ?_ ?_;rotate_left;·(intros;go_simp<;>with_reducible rfl)
  try simp only[Act.put,sqA,sqB,sqC]
  refine wpAnyH_done (by kernel_rfl) ?_ _
  go_wp2_with (fail)
  go_ret2
  exact ⟨0, by rw [HR.out]; rfl, by rw [HR.out]; exact ProgAt.to H.out.prog HB3.out, fun hc => by rw [HR.out] at hc; cases hc⟩
 | false =>
  have HRS := Lib.hid (show roomS p.data.toList most M = jroom p.data.toList most M by unfold roomS; rw [hg]; rfl)
  have HGS := Lib.hid (show getS (fileN p.data.toList n) M = (y.bytes, 0) by unfold getS; rw [hg, HY.out]; rfl)
  by_cases hfull : y.bytes ≠ [] ∧ most ≤ (y.bytes.length : Int)
  ·obtain ⟨hnb, hml⟩ := hfull
   have HR := Lib.hid (show roomS p.data.toList most M = jturn p.data.toList M by rw [HRS.out]; unfold jroom; rw [← HN.out, HBY.out, if_pos ⟨hnb, hml⟩])
   have hemp := str_empty hnb
   have hemp2 : y.bytes.isEmpty = false := by cases hb : y.bytes with | nil => exact absurd hb hnb | cons _ _ => rfl
   have hlt : ¬ ((y.bytes.length : Int) < most) := by omega
   go_enter Tryz.func87, Tryz.ntmps87
   go_wp2_with (fail)
   refine (num_any n₀ w jb b p most M F H.out.prog H.out.ok H.out.j hp H.out.std0).mono ?_
   rintro e w1 ⟨rfl, hb1⟩
   rw [← HN.out]
   have HB1 := Lib.hid hb1
   have HX := Lib.hid (H.out.bel hb1)
   clear hb1
   go_wp2_with (fail)
   refine wp_region_held_drew (S := fun z => z.cell? ⟨jb, 0, none⟩ = some (.pointer (some ⟨b, 0, none⟩))) (by kernel_rfl) HX.out.j.files (fun hHeld => ?_)
   refine tq ⟨some 14, .move (.tmp 0), 108, "journal.go:84", #[], none⟩ ?_ 0 rfl ?_ ?_;rotate_left;·(intros;go_simp<;>with_reducible rfl)
   try simp only[Act.put,sqA,sqB,sqC]
   refine tq ⟨some 15, .nilCheck (.tmp 14), 0, "journal.go:84", #[⟨0, .data⟩], none⟩ ?_ 1 rfl ?_ ?_;rotate_left;·(intros;go_simp<;>with_reducible rfl)
   try simp only[Act.put,sqA,sqB,sqC]
   refine tq ⟨some 16, .fieldAddr 153 (.tmp 15) 0, 0, "journal.go:84", #[⟨1, .data⟩], none⟩ ?_ 2 rfl ?_ ?_;rotate_left;·(intros;go_simp<;>with_reducible rfl)
   try simp only[Act.put,sqA,sqB,sqC]
   refine tq ⟨some 17, .load 55 (.tmp 16), 55, "journal.go:84", #[⟨2, .data⟩], none⟩ ?_ 3 rfl ?_ ?_;rotate_left;·(intros;go_simp<;>with_reducible rfl)
   try simp only[Act.put,sqA,sqB,sqC]
   refine tq ⟨some 18, .move (.tmp 0), 108, "journal.go:84", #[], none⟩ ?_ 4 rfl ?_ ?_;rotate_left;·(intros;go_simp<;>with_reducible rfl)
   try simp only[Act.put,sqA,sqB,sqC]
   refine tq ⟨some 19, .move (.tmp 4), 3, "journal.go:84", #[], none⟩ ?_ 5 rfl ?_ ?_;rotate_left;·(intros;go_simp<;>with_reducible rfl)
   try simp only[Act.put,sqA,sqB,sqC]
   refine wpAnyH_ready (rs := [6]) (by kernel_rfl) (by simp) ?_
   refine ar1 ⟨some 20, .call ⟨.value (.func 84), #[.tmp 18, .tmp 19], #[108, 3]⟩, 9, "journal.go:84", #[⟨4, .data⟩, ⟨5, .data⟩], none⟩ rfl (fun K hK => ?_)
   go_simp
   refine (js_fileC (HX.out.bel (Bel.refl w1).drew) hp n (by omega)).mono ?_
   rintro e zf ⟨rfl, hbf⟩
   have HBf := Lib.hid ((Bel.refl w1).drew.trans hbf)
   have HXf := Lib.hid (HX.out.bel HBf.out)
   clear hbf
   dsimp only
   refine hK.out _ _ HXf.out.j.files (fun hHeld => ?_);clear hK K;try simp only[Act.put,sqA,sqB,sqC]
   refine wpAnyH_ready (rs := [7]) (by kernel_rfl) (by simp) ?_
   refine ar1 ⟨some 21, .call ⟨.value (.func 118), #[.tmp 17, .tmp 20], #[55, 9]⟩, 32, "journal.go:84", #[⟨3, .data⟩, ⟨6, .data⟩, ⟨6, .chain⟩], none⟩ rfl (fun K hK => ?_)
   go_simp
   refine (pget_any n₀ zf b M F (⟨(fileN p.data.toList n).toArray⟩ : ByteArray) HXf.out.prog (by unfold maxLen; omega)).mono ?_
   rintro e w3 ⟨rfl, hb3⟩
   rw [str_list, HGS.out]
   have HB3 := Lib.hid (HB1.out.trans (HBf.out.trans hb3))
   have HX3 := Lib.hid (HXf.out.bel hb3)
   have cN := HX3.out.j.files
   clear hb3
   dsimp only
   refine hK.out _ _ cN (fun hHeld => ?_);clear hK K;try simp only[Act.put,sqA,sqB,sqC]
   refine tq ⟨some 13, .move (.tmp 21), 32, "journal.go:84", #[⟨7, .data⟩], none⟩ ?_ 8 rfl ?_ ?_;rotate_left;·(intros;go_simp<;>with_reducible rfl)
   try simp only[Act.put,sqA,sqB,sqC]
   refine tq ⟨some 22, .extract (.tmp 13) 0, 9, "journal.go:84", #[⟨8, .data⟩], none⟩ ?_ 9 rfl ?_ ?_;rotate_left;·(intros;go_simp<;>with_reducible rfl)
   try simp only[Act.put,sqA,sqB,sqC]
   refine tq ⟨some 23, .extract (.tmp 13) 1, 31, "journal.go:84", #[⟨8, .data⟩, { on := 11, ground := Ground.gcOnly Departure.lateStores }], none⟩ ?_ 10 rfl ?_ ?_;rotate_left;·(intros;go_simp<;>with_reducible rfl)
   try simp only[Act.put,sqA,sqB,sqC]
   refine tq ⟨some 5, .assign (.tmp 22), 9, "journal.go:84", #[⟨9, .data⟩, ⟨7, .chain⟩, ⟨0, .phase⟩, ⟨1, .phase⟩, ⟨2, .phase⟩, ⟨3, .phase⟩, ⟨4, .phase⟩, ⟨5, .phase⟩, ⟨6, .phase⟩, ⟨7, .phase⟩, ⟨8, .phase⟩, ⟨9, .phase⟩, { on := 10, ground := Ground.textOnly Departure.lateStores }], none⟩ ?_ 11 rfl ?_ ?_;rotate_left;·(intros;go_simp<;>with_reducible rfl)
   try simp only[Act.put,sqA,sqB,sqC]
   refine tq ⟨some 6, .assign (.tmp 23), 31, "journal.go:84", #[⟨10, .data⟩, ⟨11, .chain⟩, ⟨0, .phase⟩, ⟨1, .phase⟩, ⟨2, .phase⟩, ⟨3, .phase⟩, ⟨4, .phase⟩, ⟨5, .phase⟩, ⟨6, .phase⟩, ⟨7, .phase⟩, ⟨8, .phase⟩, ⟨9, .phase⟩, ⟨10, .phase⟩, ⟨11, .phase⟩], none⟩ ?_ 12 rfl ?_ ?_;rotate_left;·(intros;go_simp<;>with_reducible rfl)
   try simp only[Act.put,sqA,sqB,sqC]
   refine wpAnyH_done (by kernel_rfl) ?_ _
   have c2 := HX3.out.j.most
   clear cN
   go_wp2_with (fail)
   refine (jturn_any n₀ w3 b M F jb p most HX3.out hp (by rw [← HN.out]; exact h9)).mono ?_
   rintro e w4 ⟨rfl, hT⟩
   have HT := Lib.hid (hT.before HB3.out)
   clear hT
   have hwr : IntKind.i64.wrap ((n : Int) + 1) = (n : Int) + 1 := IntWalk.i64_in _ (by omega)
   go_wp2_with (fail)
   go_ret2
   exact ⟨n + 1, by rw [HR.out]; rfl, by rw [HR.out]; exact HT.out, fun hc => by
    rw [HR.out] at hc ⊢
    rw [jturn_last H.out.ok (by rw [← HN.out]; exact h9) hc, ← HN.out]⟩
  ·have HR := Lib.hid (show roomS p.data.toList most M = (0, M) by rw [HRS.out]; unfold jroom; rw [← HN.out, HBY.out, if_neg hfull])
   by_cases hnb : y.bytes = []
   ·have hemp : (⟨y.bytes.toArray⟩ : ByteArray) = ⟨#[]⟩ := by rw [hnb]
    have HE := Lib.hid hemp
    clear hfull
    go_enter Tryz.func87, Tryz.ntmps87
    go_wp2_with (fail)
    refine (num_any n₀ w jb b p most M F H.out.prog H.out.ok H.out.j hp H.out.std0).mono ?_
    rintro e w1 ⟨rfl, hb1⟩
    rw [← HN.out]
    have HB1 := Lib.hid hb1
    have HX := Lib.hid (H.out.bel hb1)
    clear hb1
    go_wp2_with (fail)
    refine wp_region_held_drew (S := fun z => z.cell? ⟨jb, 0, none⟩ = some (.pointer (some ⟨b, 0, none⟩))) (by kernel_rfl) HX.out.j.files (fun hHeld => ?_)
    refine tq ⟨some 14, .move (.tmp 0), 108, "journal.go:84", #[], none⟩ ?_ 0 rfl ?_ ?_;rotate_left;·(intros;go_simp<;>with_reducible rfl)
    try simp only[Act.put,sqA,sqB,sqC]
    refine tq ⟨some 15, .nilCheck (.tmp 14), 0, "journal.go:84", #[⟨0, .data⟩], none⟩ ?_ 1 rfl ?_ ?_;rotate_left;·(intros;go_simp<;>with_reducible rfl)
    try simp only[Act.put,sqA,sqB,sqC]
    refine tq ⟨some 16, .fieldAddr 153 (.tmp 15) 0, 0, "journal.go:84", #[⟨1, .data⟩], none⟩ ?_ 2 rfl ?_ ?_;rotate_left;·(intros;go_simp<;>with_reducible rfl)
    try simp only[Act.put,sqA,sqB,sqC]
    refine tq ⟨some 17, .load 55 (.tmp 16), 55, "journal.go:84", #[⟨2, .data⟩], none⟩ ?_ 3 rfl ?_ ?_;rotate_left;·(intros;go_simp<;>with_reducible rfl)
    try simp only[Act.put,sqA,sqB,sqC]
    refine tq ⟨some 18, .move (.tmp 0), 108, "journal.go:84", #[], none⟩ ?_ 4 rfl ?_ ?_;rotate_left;·(intros;go_simp<;>with_reducible rfl)
    try simp only[Act.put,sqA,sqB,sqC]
    refine tq ⟨some 19, .move (.tmp 4), 3, "journal.go:84", #[], none⟩ ?_ 5 rfl ?_ ?_;rotate_left;·(intros;go_simp<;>with_reducible rfl)
    try simp only[Act.put,sqA,sqB,sqC]
    refine wpAnyH_ready (rs := [6]) (by kernel_rfl) (by simp) ?_
    refine ar1 ⟨some 20, .call ⟨.value (.func 84), #[.tmp 18, .tmp 19], #[108, 3]⟩, 9, "journal.go:84", #[⟨4, .data⟩, ⟨5, .data⟩], none⟩ rfl (fun K hK => ?_)
    go_simp
    refine (js_fileC (HX.out.bel (Bel.refl w1).drew) hp n (by omega)).mono ?_
    rintro e zf ⟨rfl, hbf⟩
    have HBf := Lib.hid ((Bel.refl w1).drew.trans hbf)
    have HXf := Lib.hid (HX.out.bel HBf.out)
    clear hbf
    dsimp only
    refine hK.out _ _ HXf.out.j.files (fun hHeld => ?_);clear hK K;try simp only[Act.put,sqA,sqB,sqC]
    refine wpAnyH_ready (rs := [7]) (by kernel_rfl) (by simp) ?_
    refine ar1 ⟨some 21, .call ⟨.value (.func 118), #[.tmp 17, .tmp 20], #[55, 9]⟩, 32, "journal.go:84", #[⟨3, .data⟩, ⟨6, .data⟩, ⟨6, .chain⟩], none⟩ rfl (fun K hK => ?_)
    go_simp
    refine (pget_any n₀ zf b M F (⟨(fileN p.data.toList n).toArray⟩ : ByteArray) HXf.out.prog (by unfold maxLen; omega)).mono ?_
    rintro e w3 ⟨rfl, hb3⟩
    rw [str_list, HGS.out, HE.out]
    have HB3 := Lib.hid (HB1.out.trans (HBf.out.trans hb3))
    have HX3 := Lib.hid (HXf.out.bel hb3)
    have cN := HX3.out.j.files
    clear hb3
    dsimp only
    refine hK.out _ _ cN (fun hHeld => ?_);clear hK K;try simp only[Act.put,sqA,sqB,sqC]
    refine tq ⟨some 13, .move (.tmp 21), 32, "journal.go:84", #[⟨7, .data⟩], none⟩ ?_ 8 rfl ?_ ?_;rotate_left;·(intros;go_simp<;>with_reducible rfl)
    try simp only[Act.put,sqA,sqB,sqC]
    refine tq ⟨some 22, .extract (.tmp 13) 0, 9, "journal.go:84", #[⟨8, .data⟩], none⟩ ?_ 9 rfl ?_ ?_;rotate_left;·(intros;go_simp<;>with_reducible rfl)
    try simp only[Act.put,sqA,sqB,sqC]
    refine tq ⟨some 23, .extract (.tmp 13) 1, 31, "journal.go:84", #[⟨8, .data⟩, { on := 11, ground := Ground.gcOnly Departure.lateStores }], none⟩ ?_ 10 rfl ?_ ?_;rotate_left;·(intros;go_simp<;>with_reducible rfl)
    try simp only[Act.put,sqA,sqB,sqC]
    refine tq ⟨some 5, .assign (.tmp 22), 9, "journal.go:84", #[⟨9, .data⟩, ⟨7, .chain⟩, ⟨0, .phase⟩, ⟨1, .phase⟩, ⟨2, .phase⟩, ⟨3, .phase⟩, ⟨4, .phase⟩, ⟨5, .phase⟩, ⟨6, .phase⟩, ⟨7, .phase⟩, ⟨8, .phase⟩, ⟨9, .phase⟩, { on := 10, ground := Ground.textOnly Departure.lateStores }], none⟩ ?_ 11 rfl ?_ ?_;rotate_left;·(intros;go_simp<;>with_reducible rfl)
    try simp only[Act.put,sqA,sqB,sqC]
    refine tq ⟨some 6, .assign (.tmp 23), 31, "journal.go:84", #[⟨10, .data⟩, ⟨11, .chain⟩, ⟨0, .phase⟩, ⟨1, .phase⟩, ⟨2, .phase⟩, ⟨3, .phase⟩, ⟨4, .phase⟩, ⟨5, .phase⟩, ⟨6, .phase⟩, ⟨7, .phase⟩, ⟨8, .phase⟩, ⟨9, .phase⟩, ⟨10, .phase⟩, ⟨11, .phase⟩], none⟩ ?_ 12 rfl ?_ ?_;rotate_left;·(intros;go_simp<;>with_reducible rfl)
    try simp only[Act.put,sqA,sqB,sqC]
    refine wpAnyH_done (by kernel_rfl) ?_ _
    clear hemp
    go_wp2_with (fail)
    go_ret2
    exact ⟨n, by rw [HR.out]; rfl, by rw [HR.out]; exact ProgAt.to H.out.prog HB3.out, fun hc => by rw [HR.out]; exact HN.out⟩
   ·have hlt : ((y.bytes.length : Int) < most) := by
     rcases Int.lt_or_le (y.bytes.length : Int) most with h | h
     ·exact h
     ·exact absurd ⟨hnb, h⟩ hfull
    have hemp := str_empty hnb
    have hemp2 : y.bytes.isEmpty = false := by cases hb : y.bytes with | nil => exact absurd hb hnb | cons _ _ => rfl
    clear hfull
    go_enter Tryz.func87, Tryz.ntmps87
    go_wp2_with (fail)
    refine (num_any n₀ w jb b p most M F H.out.prog H.out.ok H.out.j hp H.out.std0).mono ?_
    rintro e w1 ⟨rfl, hb1⟩
    rw [← HN.out]
    have HB1 := Lib.hid hb1
    have HX := Lib.hid (H.out.bel hb1)
    clear hb1
    go_wp2_with (fail)
    refine wp_region_held_drew (S := fun z => z.cell? ⟨jb, 0, none⟩ = some (.pointer (some ⟨b, 0, none⟩))) (by kernel_rfl) HX.out.j.files (fun hHeld => ?_)
    refine tq ⟨some 14, .move (.tmp 0), 108, "journal.go:84", #[], none⟩ ?_ 0 rfl ?_ ?_;rotate_left;·(intros;go_simp<;>with_reducible rfl)
    try simp only[Act.put,sqA,sqB,sqC]
    refine tq ⟨some 15, .nilCheck (.tmp 14), 0, "journal.go:84", #[⟨0, .data⟩], none⟩ ?_ 1 rfl ?_ ?_;rotate_left;·(intros;go_simp<;>with_reducible rfl)
    try simp only[Act.put,sqA,sqB,sqC]
    refine tq ⟨some 16, .fieldAddr 153 (.tmp 15) 0, 0, "journal.go:84", #[⟨1, .data⟩], none⟩ ?_ 2 rfl ?_ ?_;rotate_left;·(intros;go_simp<;>with_reducible rfl)
    try simp only[Act.put,sqA,sqB,sqC]
    refine tq ⟨some 17, .load 55 (.tmp 16), 55, "journal.go:84", #[⟨2, .data⟩], none⟩ ?_ 3 rfl ?_ ?_;rotate_left;·(intros;go_simp<;>with_reducible rfl)
    try simp only[Act.put,sqA,sqB,sqC]
    refine tq ⟨some 18, .move (.tmp 0), 108, "journal.go:84", #[], none⟩ ?_ 4 rfl ?_ ?_;rotate_left;·(intros;go_simp<;>with_reducible rfl)
    try simp only[Act.put,sqA,sqB,sqC]
    refine tq ⟨some 19, .move (.tmp 4), 3, "journal.go:84", #[], none⟩ ?_ 5 rfl ?_ ?_;rotate_left;·(intros;go_simp<;>with_reducible rfl)
    try simp only[Act.put,sqA,sqB,sqC]
    refine wpAnyH_ready (rs := [6]) (by kernel_rfl) (by simp) ?_
    refine ar1 ⟨some 20, .call ⟨.value (.func 84), #[.tmp 18, .tmp 19], #[108, 3]⟩, 9, "journal.go:84", #[⟨4, .data⟩, ⟨5, .data⟩], none⟩ rfl (fun K hK => ?_)
    go_simp
    refine (js_fileC (HX.out.bel (Bel.refl w1).drew) hp n (by omega)).mono ?_
    rintro e zf ⟨rfl, hbf⟩
    have HBf := Lib.hid ((Bel.refl w1).drew.trans hbf)
    have HXf := Lib.hid (HX.out.bel HBf.out)
    clear hbf
    dsimp only
    refine hK.out _ _ HXf.out.j.files (fun hHeld => ?_);clear hK K;try simp only[Act.put,sqA,sqB,sqC]
    refine wpAnyH_ready (rs := [7]) (by kernel_rfl) (by simp) ?_
    refine ar1 ⟨some 21, .call ⟨.value (.func 118), #[.tmp 17, .tmp 20], #[55, 9]⟩, 32, "journal.go:84", #[⟨3, .data⟩, ⟨6, .data⟩, ⟨6, .chain⟩], none⟩ rfl (fun K hK => ?_)
    go_simp
    refine (pget_any n₀ zf b M F (⟨(fileN p.data.toList n).toArray⟩ : ByteArray) HXf.out.prog (by unfold maxLen; omega)).mono ?_
    rintro e w3 ⟨rfl, hb3⟩
    rw [str_list, HGS.out]
    have HB3 := Lib.hid (HB1.out.trans (HBf.out.trans hb3))
    have HX3 := Lib.hid (HXf.out.bel hb3)
    have cN := HX3.out.j.files
    clear hb3
    dsimp only
    refine hK.out _ _ cN (fun hHeld => ?_);clear hK K;try simp only[Act.put,sqA,sqB,sqC]
    refine tq ⟨some 13, .move (.tmp 21), 32, "journal.go:84", #[⟨7, .data⟩], none⟩ ?_ 8 rfl ?_ ?_;rotate_left;·(intros;go_simp<;>with_reducible rfl)
    try simp only[Act.put,sqA,sqB,sqC]
    refine tq ⟨some 22, .extract (.tmp 13) 0, 9, "journal.go:84", #[⟨8, .data⟩], none⟩ ?_ 9 rfl ?_ ?_;rotate_left;·(intros;go_simp<;>with_reducible rfl)
    try simp only[Act.put,sqA,sqB,sqC]
    refine tq ⟨some 23, .extract (.tmp 13) 1, 31, "journal.go:84", #[⟨8, .data⟩, { on := 11, ground := Ground.gcOnly Departure.lateStores }], none⟩ ?_ 10 rfl ?_ ?_;rotate_left;·(intros;go_simp<;>with_reducible rfl)
    try simp only[Act.put,sqA,sqB,sqC]
    refine tq ⟨some 5, .assign (.tmp 22), 9, "journal.go:84", #[⟨9, .data⟩, ⟨7, .chain⟩, ⟨0, .phase⟩, ⟨1, .phase⟩, ⟨2, .phase⟩, ⟨3, .phase⟩, ⟨4, .phase⟩, ⟨5, .phase⟩, ⟨6, .phase⟩, ⟨7, .phase⟩, ⟨8, .phase⟩, ⟨9, .phase⟩, { on := 10, ground := Ground.textOnly Departure.lateStores }], none⟩ ?_ 11 rfl ?_ ?_;rotate_left;·(intros;go_simp<;>with_reducible rfl)
    try simp only[Act.put,sqA,sqB,sqC]
    refine tq ⟨some 6, .assign (.tmp 23), 31, "journal.go:84", #[⟨10, .data⟩, ⟨11, .chain⟩, ⟨0, .phase⟩, ⟨1, .phase⟩, ⟨2, .phase⟩, ⟨3, .phase⟩, ⟨4, .phase⟩, ⟨5, .phase⟩, ⟨6, .phase⟩, ⟨7, .phase⟩, ⟨8, .phase⟩, ⟨9, .phase⟩, ⟨10, .phase⟩, ⟨11, .phase⟩], none⟩ ?_ 12 rfl ?_ ?_;rotate_left;·(intros;go_simp<;>with_reducible rfl)
    try simp only[Act.put,sqA,sqB,sqC]
    refine wpAnyH_done (by kernel_rfl) ?_ _
    have c2 := HX3.out.j.most
    clear cN
    go_wp2_with (fail)
    go_ret2
    exact ⟨n, by rw [HR.out]; rfl, by rw [HR.out]; exact ProgAt.to H.out.prog HB3.out, fun hc => by rw [HR.out]; exact HN.out⟩

set_option maxHeartbeats 4000000 in
set_option maxRecDepth 20000 in
theorem write_any (n₀ : Nat) (w : World) (b : Nat) (M : RS) (F : List Nat) (jb : Nat) (p : ByteArray) (most : Int) (lp : Option Addr) (lc : Nat) (L : List (List UInt8)) (h : JS n₀ w b M F jb p most) (hp : p.size ≤ 100) (h0 : lastN p.data.toList M.L ≠ 0) (h9 : lastN p.data.toList M.L < 9999999) (hmost : in64 most)
  (hl : StrsAt w lp L) (hL : L.length ≤ maxLen) (ht : ∀ t ∈ L, t.length ≤ 1000000) :
  Calls Tryz.prog 52 #[.pointer (some ⟨jb, 0, none⟩), .slice lp L.length lc] w fun e y => e = .returned (.int .i64 (jwrite p.data.toList most L M).1) ∧ ProgTo n₀ w y b (jwrite p.data.toList most L M).2 F := by
 have H := Lib.hid h
 have HMS := Lib.hid hmost
 have HC := Lib.hid (batch_any w lp lc L hl hL ht)
 have HLL := Lib.hid hL
 have hbl := batch_len L
 have hpl : p.data.toList.length = p.size := rfl
 have HRO := Lib.hid (roomS_ok h.ok p.data.toList most)
 obtain ⟨s, e0, hB⟩ : ∃ s e0, batchS L = (s, e0) := ⟨_, _, rfl⟩
 have HBV := Lib.hid (show batchV L = .tuple #[.string ⟨s.toArray⟩, .int .i64 e0] by unfold batchV; rw [hB])
 rw [hB] at hbl
 simp only at hbl
 have hsz := str_len s
 obtain ⟨r, M1, hR⟩ : ∃ r M1, roomS p.data.toList most M = (r, M1) := ⟨_, _, rfl⟩
 have HR := Lib.hid hR
 rw [hR] at HRO
 have HRO1 := Lib.hid (show M1.ok from HRO.out)
 have HW := Lib.hid (show jwrite p.data.toList most L M = if e0 ≠ 0 then (e0, M) else if r ≠ 0 then (r, M1) else jput (fileN p.data.toList (lastN p.data.toList M1.L)) (frameL s) M1 by
  unfold jwrite
  rw [hB]
  unfold roomS at hR
  by_cases hg : M.gone = true
  ·rw [if_pos hg] at hR ⊢
   simp only [Prod.mk.injEq] at hR
   obtain ⟨rfl, rfl⟩ := hR
   simp
  ·rw [if_neg hg] at hR ⊢
   rw [hR])
 have H0 := Lib.hid h0
 have H9 := Lib.hid h9
 clear h hB hR hmost hl hL ht HRO h0 h9
 go_enter Tryz.func52, Tryz.ntmps52
 go_wp2_with (fail)
 refine HC.out.mono ?_
 rintro e w1 ⟨rfl, hb1⟩
 rw [HBV.out]
 have HB1 := Lib.hid hb1
 clear hb1
 by_cases he0 : e0 = 0
 ·subst he0
  rw [if_neg (by simp)] at HW
  go_wp2_with (fail)
  refine (frame_ok ⟨s.toArray⟩ _ (by omega)).mono ?_
  rintro e w2 ⟨rfl, hb2⟩
  rw [frameV, str_list]
  have HB2 := Lib.hid (HB1.out.trans hb2)
  have HX2 := Lib.hid (H.out.bel HB2.out)
  clear hb2
  go_wp2_with (fail)
  refine (withroom_any n₀ w2 b M F jb p most HX2.out hp H0.out H9.out HMS.out).mono ?_
  rintro e w3 ⟨m, rfl, hT, hm⟩
  rw [HR.out] at hT hm ⊢
  by_cases hr : r = 0
  ·subst hr
   rw [if_neg (by simp)] at HW
   have hmm : m = lastN p.data.toList M1.L := hm rfl
   have hm9 : m ≤ 9999999 := by rw [hmm]; exact last_le _ _
   have HMM := Lib.hid hmm
   obtain ⟨F3, hX3, hK3, hF3⟩ := HX2.out.step hT HRO1.out
   have HX := Lib.hid hX3
   have HK3 := Lib.hid ((Keep.of_bel HB2.out F).trans hK3 (fun x hx => Or.inl hx))
   have HF3 := Lib.hid (show ∀ k ∈ F3, k ∈ F ∨ w.heap.size ≤ k from fun k hk => (hF3 k hk).imp id (fun h => Nat.le_trans HB2.out.size h))
   clear hT hm hmm hX3 hK3 hF3
   have hfl := file_len p.data.toList (n := m) (by omega)
   have hfz := str_len (fileN p.data.toList m)
   have hfrz := str_len (frameL s)
   have hfrl := frame_len s
   have hszN := szN_le s.length
   obtain ⟨ra, M2, hA⟩ : ∃ ra M2, addS (fileN p.data.toList m) (frameL s) M1 = (ra, M2) := ⟨_, _, rfl⟩
   have HA := Lib.hid hA
   have HM2 := Lib.hid (show M2.ok by have := add_ok HRO1.out (fileN p.data.toList m) (frameL s); rwa [hA] at this)
   have HJP := Lib.hid (show jput (fileN p.data.toList (lastN p.data.toList M1.L)) (frameL s) M1 = if ra ≠ 0 then (ra, M2) else flushS (fileN p.data.toList m) M2 by
    unfold jput; rw [← HMM.out, HA.out])
   rw [HJP.out] at HW
   clear hA
   go_wp2_with (fail)
   refine wp_region_held_drew (S := fun z => z.cell? ⟨jb, 0, none⟩ = some (.pointer (some ⟨b, 0, none⟩))) (by kernel_rfl) HX.out.j.files (fun hHeld => ?_)
   refine tq ⟨some 34, .move (.tmp 0), 108, "journal.go:72", #[], none⟩ ?_ 0 rfl ?_ ?_;rotate_left;·(intros;go_simp<;>with_reducible rfl)
   try simp only[Act.put,sqA,sqB,sqC]
   refine tq ⟨some 35, .nilCheck (.tmp 34), 0, "journal.go:72", #[⟨0, .data⟩], none⟩ ?_ 1 rfl ?_ ?_;rotate_left;·(intros;go_simp<;>with_reducible rfl)
   try simp only[Act.put,sqA,sqB,sqC]
   refine tq ⟨some 36, .fieldAddr 153 (.tmp 35) 0, 0, "journal.go:72", #[⟨1, .data⟩], none⟩ ?_ 2 rfl ?_ ?_;rotate_left;·(intros;go_simp<;>with_reducible rfl)
   try simp only[Act.put,sqA,sqB,sqC]
   refine tq ⟨some 37, .load 55 (.tmp 36), 55, "journal.go:72", #[⟨2, .data⟩], none⟩ ?_ 3 rfl ?_ ?_;rotate_left;·(intros;go_simp<;>with_reducible rfl)
   try simp only[Act.put,sqA,sqB,sqC]
   refine tq ⟨some 38, .move (.tmp 0), 108, "journal.go:72", #[], none⟩ ?_ 4 rfl ?_ ?_;rotate_left;·(intros;go_simp<;>with_reducible rfl)
   try simp only[Act.put,sqA,sqB,sqC]
   refine tq ⟨some 39, .move (.tmp 8), 3, "journal.go:72", #[], none⟩ ?_ 5 rfl ?_ ?_;rotate_left;·(intros;go_simp<;>with_reducible rfl)
   try simp only[Act.put,sqA,sqB,sqC]
   refine tq ⟨some 41, .move (.tmp 7), 9, "journal.go:72", #[], none⟩ ?_ 7 rfl ?_ ?_;rotate_left;·(intros;go_simp<;>with_reducible rfl)
   try simp only[Act.put,sqA,sqB,sqC]
   refine wpAnyH_ready (rs := [6]) (by kernel_rfl) (by simp) ?_
   refine ar1 ⟨some 40, .call ⟨.value (.func 84), #[.tmp 38, .tmp 39], #[108, 3]⟩, 9, "journal.go:72", #[⟨4, .data⟩, ⟨5, .data⟩], none⟩ rfl (fun K hK => ?_)
   go_simp
   refine (js_fileC (HX.out.bel (Bel.refl w3).drew) hp m (by omega)).mono ?_
   rintro e zf ⟨rfl, hbf⟩
   have HBf := Lib.hid ((Bel.refl w3).drew.trans hbf)
   have HXf := Lib.hid (HX.out.bel HBf.out)
   clear hbf
   dsimp only
   refine hK.out _ _ HXf.out.j.files (fun hHeld => ?_);clear hK K;try simp only[Act.put,sqA,sqB,sqC]
   refine wpAnyH_ready (rs := [8]) (by kernel_rfl) (by simp) ?_
   refine ar1 ⟨some 42, .call ⟨.value (.func 35), #[.tmp 37, .tmp 40, .tmp 41], #[55, 9, 9]⟩, 31, "journal.go:72", #[⟨3, .data⟩, ⟨6, .data⟩, ⟨7, .data⟩, ⟨6, .chain⟩], none⟩ rfl (fun K hK => ?_)
   go_simp
   refine (padd_any n₀ zf b M1 F3 (⟨(fileN p.data.toList m).toArray⟩ : ByteArray) (⟨(frameL s).toArray⟩ : ByteArray) HXf.out.prog (by omega) (by omega) HRO1.out.srt (good_len HRO1.out) (good_bytes HRO1.out) HRO1.out.room).mono ?_
   rintro e w4 ⟨rfl, hT⟩
   rw [str_list, str_list, HA.out] at hT ⊢
   obtain ⟨F4, hX4, hK4, hF4⟩ := HXf.out.step hT HM2.out
   have HX4 := Lib.hid hX4
   have HK4 := Lib.hid ((HK3.out.then HBf.out).trans hK4 (fun x hx => HF3.out x hx))
   have HF4 := Lib.hid (show ∀ k ∈ F4, k ∈ F ∨ w.heap.size ≤ k from fun k hk => by
    rcases hF4 k hk with h | h
    ·exact HF3.out k h
    ·exact Or.inr (Nat.le_trans (HK3.out.then HBf.out).size h))
   have cN := HX4.out.j.files
   clear hT hX4 hK4 hF4
   dsimp only
   refine hK.out _ _ cN (fun hHeld => ?_);clear hK K;try simp only[Act.put,sqA,sqB,sqC]
   refine tq ⟨some 9, .assign (.tmp 42), 31, "journal.go:72", #[⟨8, .data⟩, ⟨8, .chain⟩, ⟨0, .phase⟩, ⟨1, .phase⟩, ⟨2, .phase⟩, ⟨3, .phase⟩, ⟨4, .phase⟩, ⟨5, .phase⟩, ⟨6, .phase⟩, ⟨7, .phase⟩, ⟨8, .phase⟩], none⟩ ?_ 9 rfl ?_ ?_;rotate_left;·(intros;go_simp<;>with_reducible rfl)
   try simp only[Act.put,sqA,sqB,sqC]
   refine wpAnyH_done (by kernel_rfl) ?_ _
   by_cases hra : ra = 0
   ·subst hra
    rw [if_neg (by simp)] at HW
    clear cN HX HXf HBf
    have HX := HX4
    go_wp2_with (fail)
    refine wp_region_held_drew (S := fun z => z.cell? ⟨jb, 0, none⟩ = some (.pointer (some ⟨b, 0, none⟩))) (by kernel_rfl) HX.out.j.files (fun hHeld => ?_)
    refine tq ⟨some 46, .move (.tmp 0), 108, "journal.go:75", #[], none⟩ ?_ 0 rfl ?_ ?_;rotate_left;·(intros;go_simp<;>with_reducible rfl)
    try simp only[Act.put,sqA,sqB,sqC]
    refine tq ⟨some 47, .nilCheck (.tmp 46), 0, "journal.go:75", #[⟨0, .data⟩], none⟩ ?_ 1 rfl ?_ ?_;rotate_left;·(intros;go_simp<;>with_reducible rfl)
    try simp only[Act.put,sqA,sqB,sqC]
    refine tq ⟨some 48, .fieldAddr 153 (.tmp 47) 0, 0, "journal.go:75", #[⟨1, .data⟩], none⟩ ?_ 2 rfl ?_ ?_;rotate_left;·(intros;go_simp<;>with_reducible rfl)
    try simp only[Act.put,sqA,sqB,sqC]
    refine tq ⟨some 49, .load 55 (.tmp 48), 55, "journal.go:75", #[⟨2, .data⟩], none⟩ ?_ 3 rfl ?_ ?_;rotate_left;·(intros;go_simp<;>with_reducible rfl)
    try simp only[Act.put,sqA,sqB,sqC]
    refine tq ⟨some 50, .move (.tmp 0), 108, "journal.go:75", #[], none⟩ ?_ 4 rfl ?_ ?_;rotate_left;·(intros;go_simp<;>with_reducible rfl)
    try simp only[Act.put,sqA,sqB,sqC]
    refine tq ⟨some 51, .move (.tmp 8), 3, "journal.go:75", #[], none⟩ ?_ 5 rfl ?_ ?_;rotate_left;·(intros;go_simp<;>with_reducible rfl)
    try simp only[Act.put,sqA,sqB,sqC]
    refine wpAnyH_ready (rs := [6]) (by kernel_rfl) (by simp) ?_
    refine ar1 ⟨some 52, .call ⟨.value (.func 84), #[.tmp 50, .tmp 51], #[108, 3]⟩, 9, "journal.go:75", #[⟨4, .data⟩, ⟨5, .data⟩], none⟩ rfl (fun K hK => ?_)
    go_simp
    refine (js_fileC (HX.out.bel (Bel.refl w4).drew) hp m (by omega)).mono ?_
    rintro e zf ⟨rfl, hbf⟩
    have HBf := Lib.hid ((Bel.refl w4).drew.trans hbf)
    have HXf := Lib.hid (HX.out.bel HBf.out)
    clear hbf
    dsimp only
    refine hK.out _ _ HXf.out.j.files (fun hHeld => ?_);clear hK K;try simp only[Act.put,sqA,sqB,sqC]
    refine wpAnyH_ready (rs := [7]) (by kernel_rfl) (by simp) ?_
    refine ar1 ⟨some 53, .call ⟨.value (.func 88), #[.tmp 49, .tmp 52], #[55, 9]⟩, 31, "journal.go:75", #[⟨3, .data⟩, ⟨6, .data⟩, ⟨6, .chain⟩], none⟩ rfl (fun K hK => ?_)
    go_simp
    refine (pflush_any n₀ zf b M2 F4 (⟨(fileN p.data.toList m).toArray⟩ : ByteArray) HXf.out.prog (by unfold maxLen; omega) HM2.out.srt (good_len HM2.out)).mono ?_
    rintro e w5 ⟨rfl, hT⟩
    rw [str_list] at hT ⊢
    have HT5 := Lib.hid (to_then (HK4.out.then HBf.out) HF4.out hT)
    have cN : w5.cell? ⟨jb, 0, none⟩ = some (.pointer (some ⟨b, 0, none⟩)) := by
     obtain ⟨F5, _, q2, _⟩ := hT
     exact q2.cell HXf.out.j.files HXf.out.out
    clear hT
    dsimp only
    refine hK.out _ _ cN (fun hHeld => ?_);clear hK K;try simp only[Act.put,sqA,sqB,sqC]
    refine tq ⟨some 4, .assign (.tmp 53), 31, "journal.go:75", #[⟨7, .data⟩, ⟨7, .chain⟩, ⟨0, .phase⟩, ⟨1, .phase⟩, ⟨2, .phase⟩, ⟨3, .phase⟩, ⟨4, .phase⟩, ⟨5, .phase⟩, ⟨6, .phase⟩, ⟨7, .phase⟩], none⟩ ?_ 8 rfl ?_ ?_;rotate_left;·(intros;go_simp<;>with_reducible rfl)
    try simp only[Act.put,sqA,sqB,sqC]
    refine wpAnyH_done (by kernel_rfl) ?_ _
    go_wp2_with (fail)
    go_ret
    exact ⟨by rw [HW.out]; rfl, by rw [HW.out]; exact HT5.out⟩
   ·rw [if_pos hra] at HW
    have hx3 : (ra != 0) = true := by rw [bne_iff_ne]; exact hra
    have hx2 : (ra == 0) = false := by rw [beq_eq_false_iff_ne]; exact hra
    clear cN
    go_wp2_with (fail)
    go_ret
    exact ⟨by rw [HW.out]; rfl, by rw [HW.out]; exact ⟨F4, HX4.out.prog, HK4.out, HF4.out⟩⟩
  ·rw [if_pos hr] at HW
   have HT := Lib.hid (hT.before HB2.out)
   have hx3 : (r != 0) = true := by rw [bne_iff_ne]; exact hr
   have hx2 : (r == 0) = false := by rw [beq_eq_false_iff_ne]; exact hr
   clear hT hm
   go_wp2_with (fail)
   go_ret
   exact ⟨by rw [HW.out]; rfl, by rw [HW.out]; exact HT.out⟩
 ·rw [if_pos he0] at HW
  have hx3 : (e0 != 0) = true := by rw [bne_iff_ne]; exact he0
  have hx2 : (e0 == 0) = false := by rw [beq_eq_false_iff_ne]; exact he0
  go_wp2_with (fail)
  go_ret
  exact ⟨by rw [HW.out]; rfl, by rw [HW.out]; exact ProgAt.to H.out.prog HB1.out⟩

theorem trim_stop (p : List UInt8) (before : Int) {n : Nat} {r : List Nat} {M : RS} (h : ¬ (n : Int) < before) : trimL p before (n :: r) M = (0, M) := by
 cases r with
 | nil => rfl
 | cons m r => simp only [trimL]; rw [if_neg h]
theorem trim_one (p : List UInt8) (before : Int) {n : Nat} {M : RS} : trimL p before [n] M = (0, M) := rfl
theorem trim_step (p : List UInt8) (before : Int) {n : Nat} {r : List Nat} {M : RS} (hr : r ≠ []) (h : (n : Int) < before) : trimL p before (n :: r) M = if (dropS (fileN p n) M).1 = 0 then trimL p before r (dropS (fileN p n) M).2 else dropS (fileN p n) M := by
 cases r with
 | nil => exact absurd rfl hr
 | cons m r => simp only [trimL]; rw [if_pos h]
def TrRel (n₀ : Nat) (w1 : World) (b : Nat) (F : List Nat) (jb : Nat) (p : ByteArray) (most before : Int) (l : List Nat) (sv : Value) (M : RS) (iv : Value) (x : World) : Prop :=
 ∃ (i : Nat) (Mi : RS) (Fi : List Nat), iv = .int .i64 i ∧ i ≤ l.length ∧ JS n₀ x b Mi Fi jb p most ∧ Keep F w1 x ∧ (∀ k ∈ Fi, k ∈ F ∨ w1.heap.size ≤ k) ∧ OwnG intEl 0 x sv (l.map fun n : Nat => (n : Int)) ∧ trimL p.data.toList before l M = trimL p.data.toList before (l.drop i) Mi
set_option maxHeartbeats 4000000 in
set_option maxRecDepth 20000 in
theorem trim_any (n₀ : Nat) (w : World) (b : Nat) (M : RS) (F : List Nat) (jb : Nat) (p : ByteArray) (most before : Int) (h : JS n₀ w b M F jb p most) (hp : p.size ≤ 100) (hbefore : in64 before) :
  Calls Tryz.prog 53 #[.pointer (some ⟨jb, 0, none⟩), .int .i64 before] w fun e y => e = .returned (.int .i64 (jtrim p.data.toList before M).1) ∧ ProgTo n₀ w y b (jtrim p.data.toList before M).2 F := by
 have H := Lib.hid h
 have HBF := Lib.hid hbefore
 have HFL := Lib.hid (prog_lt h.prog)
 have HC := Lib.hid (segs_any n₀ w jb b p most M F h.prog h.ok h.j hp h.std0)
 have hsl := segs_len p.data.toList M.L
 have h60 := h.ok.len
 have hpl : p.data.toList.length = p.size := rfl
 unfold jtrim
 obtain ⟨l, hl⟩ : ∃ l, l = segsL p.data.toList M.L := ⟨_, rfl⟩
 have HL9 := Lib.hid (show ∀ n ∈ l, n ≤ 9999999 from fun n hn => by rw [hl] at hn; exact (mem_segs_file.1 hn).2.1)
 rw [← hl] at HC hsl ⊢
 clear h hl hbefore
 go_enter Tryz.func53, Tryz.ntmps53
 go_wp2_with (fail)
 refine HC.out.mono ?_
 rintro e w1 ⟨v, rfl, hown, hb1⟩
 have HV := Lib.hid hown
 have HB1 := Lib.hid hb1
 obtain ⟨sp, sc, hv⟩ := ownG_len hown
 rw [List.length_map] at hv
 subst hv
 have HVB := Lib.hid hown.lt
 clear hown hb1
 go_wp2_with (fail)
 go_loopw [13] (fun iv x => TrRel n₀ w1 b F jb p most before l (.slice sp l.length sc) M iv x) (fun iv _ => l.length - (intOf iv).toNat)
 case atStart => exact ⟨0, M, F, rfl, Nat.zero_le _, H.out.bel HB1.out, Keep.refl _ _, fun k hk => Or.inl hk, HV.out.low (Nat.zero_le _), by rw [List.drop_zero]⟩
 case round =>
  obtain ⟨i, Mi, Fi, rfl, hi, hx, hk, hfi, ho, htr⟩ := hrel
  have HX := Lib.hid hx
  have HKi := Lib.hid hk
  have HFi := Lib.hid hfi
  have HO := Lib.hid ho
  have HTR := Lib.hid htr
  clear hx hk hfi ho htr
  by_cases hlt : i < l.length
  ·obtain ⟨g, cap, hv, hcap, _, e0⟩ := int_at HO.out i hlt
   simp only [Value.slice.injEq, true_and] at hv
   obtain ⟨rfl, rfl⟩ := hv
   have hn9 := HL9.out l[i] (List.getElem_mem hlt)
   have HDR := Lib.hid (show l.drop i = l[i] :: l.drop (i + 1) from List.drop_eq_getElem_cons hlt)
   obtain ⟨n, hn⟩ : ∃ n, n = l[i] := ⟨_, rfl⟩
   rw [← hn] at e0 hn9 HDR
   clear hn
   by_cases hnb : (n : Int) < before
   ·by_cases hil : i + 1 = l.length
    ·have hq : ((i : Int) == (l.length : Int) - 1) = true := by rw [beq_iff_eq]; omega
     have HE := Lib.hid (show trimL p.data.toList before l M = (0, Mi) by
      rw [HTR.out, HDR.out, show l.drop (i + 1) = [] from List.drop_eq_nil_of_le (by omega)]; exact trim_one _ _)
     clear hil
     go_wp2_with (fail)
     go_ret
     exact ⟨by rw [HE.out]; rfl, by rw [HE.out]; exact ⟨Fi, HX.out.prog, (Keep.of_bel HB1.out F).trans HKi.out (fun x hx => Or.inl hx), fun k hk => (HFi.out k hk).imp id (fun h => Nat.le_trans HB1.out.size h)⟩⟩
    ·have hq : ((i : Int) == (l.length : Int) - 1) = false := by rw [beq_eq_false_iff_ne]; omega
     have HE := Lib.hid (show trimL p.data.toList before l M = if (dropS (fileN p.data.toList n) Mi).1 = 0 then trimL p.data.toList before (l.drop (i + 1)) (dropS (fileN p.data.toList n) Mi).2 else dropS (fileN p.data.toList n) Mi by
      rw [HTR.out, HDR.out]
      exact trim_step _ _ (by intro e; have := congrArg List.length e; rw [List.length_drop, List.length_nil] at this; omega) hnb)
     obtain ⟨rd, Md, hD⟩ : ∃ rd Md, dropS (fileN p.data.toList n) Mi = (rd, Md) := ⟨_, _, rfl⟩
     have HD := Lib.hid hD
     have HMd := Lib.hid (show Md.ok by have := drop_ok HX.out.ok (fileN p.data.toList n); rwa [hD] at this)
     rw [hD] at HE
     have hfl := file_len p.data.toList (n := n) (by omega)
     have hfz := str_len (fileN p.data.toList n)
     have hgw : g < w1.heap.size ∧ w.heap.size ≤ g := ⟨(HVB.out g rfl).2, (HVB.out g rfl).1⟩
     have hgF : g ∉ Fi := fun hm => by
      rcases HFi.out g hm with h | h
      ·have := HFL.out g h; omega
      ·omega
     clear hD hil
     obtain ⟨x0, hx0⟩ : ∃ x0, x0 = Mi := ⟨_, rfl⟩
     clear hx0 x0
     go_wp2_with (fail)
     refine wp_region_held_drew (S := fun z => z.cell? ⟨jb, 0, none⟩ = some (.pointer (some ⟨b, 0, none⟩))) (by kernel_rfl) HX.out.j.files (fun hHeld => ?_)
     refine tq ⟨some 28, .move (.tmp 0), 108, "journal.go:163", #[], none⟩ ?_ 0 rfl ?_ ?_;rotate_left;·(intros;go_simp<;>with_reducible rfl)
     try simp only[Act.put,sqA,sqB,sqC]
     refine tq ⟨some 29, .nilCheck (.tmp 28), 0, "journal.go:163", #[⟨0, .data⟩], none⟩ ?_ 1 rfl ?_ ?_;rotate_left;·(intros;go_simp<;>with_reducible rfl)
     try simp only[Act.put,sqA,sqB,sqC]
     refine tq ⟨some 30, .fieldAddr 153 (.tmp 29) 0, 0, "journal.go:163", #[⟨1, .data⟩], none⟩ ?_ 2 rfl ?_ ?_;rotate_left;·(intros;go_simp<;>with_reducible rfl)
     try simp only[Act.put,sqA,sqB,sqC]
     refine tq ⟨some 31, .load 55 (.tmp 30), 55, "journal.go:163", #[⟨2, .data⟩], none⟩ ?_ 3 rfl ?_ ?_;rotate_left;·(intros;go_simp<;>with_reducible rfl)
     try simp only[Act.put,sqA,sqB,sqC]
     refine tq ⟨some 32, .move (.tmp 0), 108, "journal.go:163", #[], none⟩ ?_ 4 rfl ?_ ?_;rotate_left;·(intros;go_simp<;>with_reducible rfl)
     try simp only[Act.put,sqA,sqB,sqC]
     refine tq ⟨some 33, .move (.tmp 7), 3, "journal.go:163", #[], none⟩ ?_ 5 rfl ?_ ?_;rotate_left;·(intros;go_simp<;>with_reducible rfl)
     try simp only[Act.put,sqA,sqB,sqC]
     refine wpAnyH_ready (rs := [6]) (by kernel_rfl) (by simp) ?_
     refine ar1 ⟨some 34, .call ⟨.value (.func 84), #[.tmp 32, .tmp 33], #[108, 3]⟩, 9, "journal.go:163", #[⟨4, .data⟩, ⟨5, .data⟩], none⟩ rfl (fun K hK => ?_)
     go_simp
     refine (js_fileC (HX.out.bel (Bel.refl _).drew) hp n (by omega)).mono ?_
     rintro e zf ⟨rfl, hbf⟩
     have HBf := Lib.hid ((Bel.refl _).drew.trans hbf)
     have HXf := Lib.hid (HX.out.bel HBf.out)
     clear hbf
     dsimp only
     refine hK.out _ _ HXf.out.j.files (fun hHeld => ?_);clear hK K;try simp only[Act.put,sqA,sqB,sqC]
     refine wpAnyH_ready (rs := [7]) (by kernel_rfl) (by simp) ?_
     refine ar1 ⟨some 35, .call ⟨.value (.func 90), #[.tmp 31, .tmp 34], #[55, 9]⟩, 31, "journal.go:163", #[⟨3, .data⟩, ⟨6, .data⟩, ⟨6, .chain⟩], none⟩ rfl (fun K hK => ?_)
     go_simp
     refine (pdrop_any n₀ zf b Mi Fi (⟨(fileN p.data.toList n).toArray⟩ : ByteArray) HXf.out.prog (by unfold maxLen; omega) HX.out.ok.srt (good_len HX.out.ok)).mono ?_
     rintro e w4 ⟨rfl, hT⟩
     rw [str_list, HD.out] at hT ⊢
     obtain ⟨F4, hX4, hK4, hF4⟩ := HXf.out.step hT HMd.out
     have HX4 := Lib.hid hX4
     have HK4 := Lib.hid ((HKi.out.then HBf.out).trans hK4 (fun x hx => HFi.out x hx))
     have HF4 := Lib.hid (show ∀ k ∈ F4, k ∈ F ∨ w1.heap.size ≤ k from fun k hk => by
      rcases hF4 k hk with h | h
      ·exact HFi.out k h
      ·exact Or.inr (Nat.le_trans (HKi.out.then HBf.out).size h))
     have HO4 := Lib.hid ((HO.out.bel HBf.out).keep hK4 (fun j hj => by simp only [Value.ownBlock, Option.some.injEq] at hj; subst hj; exact hgF))
     have cN := HX4.out.j.files
     clear hT hX4 hK4 hF4
     dsimp only
     refine hK.out _ _ cN (fun hHeld => ?_);clear hK K;try simp only[Act.put,sqA,sqB,sqC]
     refine tq ⟨some 8, .assign (.tmp 35), 31, "journal.go:163", #[⟨7, .data⟩, ⟨7, .chain⟩, ⟨0, .phase⟩, ⟨1, .phase⟩, ⟨2, .phase⟩, ⟨3, .phase⟩, ⟨4, .phase⟩, ⟨5, .phase⟩, ⟨6, .phase⟩, ⟨7, .phase⟩], none⟩ ?_ 8 rfl ?_ ?_;rotate_left;·(intros;go_simp<;>with_reducible rfl)
     try simp only[Act.put,sqA,sqB,sqC]
     refine wpAnyH_done (by kernel_rfl) ?_ _
     by_cases hrd : rd = 0
     ·subst hrd
      rw [if_pos rfl] at HE
      clear cN
      go_wp2_with (fail)
      go_roundw
      case rel => exact ⟨i + 1, Md, F4, by go_num, by omega, HX4.out, HK4.out, HF4.out, HO4.out, HE.out⟩
      case measure => simp [intOf]; omega
     ·rw [if_neg hrd] at HE
      have hx3 : (rd != 0) = true := by rw [bne_iff_ne]; exact hrd
      have hx2 : (rd == 0) = false := by rw [beq_eq_false_iff_ne]; exact hrd
      clear cN
      go_wp2_with (fail)
      go_ret
      exact ⟨by rw [HE.out]; rfl, by rw [HE.out]; exact ⟨F4, HX4.out.prog, (Keep.of_bel HB1.out F).trans HK4.out (fun x hx => Or.inl hx), fun k hk => (HF4.out k hk).imp id (fun h => Nat.le_trans HB1.out.size h)⟩⟩
   ·have HE := Lib.hid (show trimL p.data.toList before l M = (0, Mi) by rw [HTR.out, HDR.out]; exact trim_stop _ _ hnb)
    have hge : before ≤ (n : Int) := by omega
    go_wp2_with (fail)
    go_ret
    exact ⟨by rw [HE.out]; rfl, by rw [HE.out]; exact ⟨Fi, HX.out.prog, (Keep.of_bel HB1.out F).trans HKi.out (fun x hx => Or.inl hx), fun k hk => (HFi.out k hk).imp id (fun h => Nat.le_trans HB1.out.size h)⟩⟩
  ·obtain rfl : i = l.length := by omega
   have HE := Lib.hid (show trimL p.data.toList before l M = (0, Mi) by rw [HTR.out, List.drop_length]; rfl)
   go_wp2_with (fail)
   go_ret
   exact ⟨by rw [HE.out]; rfl, by rw [HE.out]; exact ⟨Fi, HX.out.prog, (Keep.of_bel HB1.out F).trans HKi.out (fun x hx => Or.inl hx), fun k hk => (HFi.out k hk).imp id (fun h => Nat.le_trans HB1.out.size h)⟩⟩

theorem rj_fileC {n₀ : Nat} {z : World} {b jb : Nat} {M : RS} {F : List Nat} {p : ByteArray} {most : Int} (h : RJS n₀ z b M F jb p most) (hp : p.size ≤ 100) (n : Nat) (hn : n ≤ 10000000) :
  Calls Tryz.prog 100 #[.pointer (some ⟨jb, 0, none⟩), .int .i64 n] z fun e y => e = .returned (.string ⟨(fileN p.data.toList n).toArray⟩) ∧ Bel z y := rfile_any z jb b p most n h.j hp hn
def RTrRel (n₀ : Nat) (w1 : World) (b : Nat) (F : List Nat) (jb : Nat) (p : ByteArray) (most before : Int) (l : List Nat) (sv : Value) (M : RS) (iv : Value) (x : World) : Prop :=
 ∃ (i : Nat) (Mi : RS) (Fi : List Nat), iv = .int .i64 i ∧ i ≤ l.length ∧ RJS n₀ x b Mi Fi jb p most ∧ Keep F w1 x ∧ (∀ k ∈ Fi, k ∈ F ∨ w1.heap.size ≤ k) ∧ OwnG intEl 0 x sv (l.map fun n : Nat => (n : Int)) ∧ trimL p.data.toList before l M = trimL p.data.toList before (l.drop i) Mi
theorem trim_end (p : List UInt8) (before : Int) {l : List Nat} {M : RS} (h : l.length ≤ 1) : trimL p before l M = (0, M) := by
 match l, h with
 | [], _ => rfl
 | [n], _ => rfl
 | _ :: _ :: _, h => simp only [List.length_cons] at h; omega
theorem ref_lt {n₀ : Nat} {w : World} {b : Nat} {M : RS} {F : List Nat} (h : RefP n₀ w b M F) : ∀ k ∈ F, k < w.heap.size := by
 obtain ⟨v, _, _, _, h⟩ := h
 exact fun k hk => (h k hk).2
set_option maxHeartbeats 4000000 in
set_option maxRecDepth 20000 in
theorem rtrim_any (n₀ : Nat) (w : World) (b : Nat) (M : RS) (F : List Nat) (jb : Nat) (p : ByteArray) (most before : Int) (h : RJS n₀ w b M F jb p most) (hp : p.size ≤ 100) (hbefore : in64 before) :
  Calls Tryz.prog 78 #[.pointer (some ⟨jb, 0, none⟩), .int .i64 before] w fun e y => e = .returned (.int .i64 (jtrim p.data.toList before M).1) ∧ RefTo n₀ w y b (jtrim p.data.toList before M).2 F := by
 have H := Lib.hid h
 have HBF := Lib.hid hbefore
 have HFL := Lib.hid (ref_lt h.ref)
 have HC := Lib.hid (rsegs_any n₀ w jb b p most M F h.ref h.ok h.j hp)
 have hsl := segs_len p.data.toList M.L
 have h60 := h.ok.len
 have hpl : p.data.toList.length = p.size := rfl
 unfold jtrim
 obtain ⟨l, hl⟩ : ∃ l, l = segsL p.data.toList M.L := ⟨_, rfl⟩
 have HL9 := Lib.hid (show ∀ n ∈ l, n ≤ 9999999 from fun n hn => by rw [hl] at hn; exact (mem_segs_file.1 hn).2.1)
 rw [← hl] at HC hsl ⊢
 clear h hl hbefore
 go_enter Tryz.func78, Tryz.ntmps78
 go_wp2_with (fail)
 refine HC.out.mono ?_
 rintro e w1 ⟨v, rfl, hown, hb1⟩
 have HV := Lib.hid hown
 have HB1 := Lib.hid hb1
 obtain ⟨sp, sc, hv⟩ := ownG_len hown
 rw [toZ_len] at hv
 subst hv
 have HVB := Lib.hid hown.lt
 clear hown hb1
 go_wp2_with (fail)
 go_loopw [6] (fun iv x => RTrRel n₀ w1 b F jb p most before l (.slice sp l.length sc) M iv x) (fun iv _ => l.length - (intOf iv).toNat)
 case atStart => exact ⟨0, M, F, rfl, Nat.zero_le _, H.out.bel HB1.out, Keep.refl _ _, fun k hk => Or.inl hk, HV.out.low (Nat.zero_le _), by rw [List.drop_zero]⟩
 case round =>
  obtain ⟨i, Mi, Fi, rfl, hi, hx, hk, hfi, ho, htr⟩ := hrel
  have HX := Lib.hid hx
  have HKi := Lib.hid hk
  have HFi := Lib.hid hfi
  have HO := Lib.hid ho
  have HTR := Lib.hid htr
  clear hx hk hfi ho htr
  have hw1 : IntKind.i64.wrap ((i : Int) + 1) = (i : Int) + 1 := IntWalk.i64_in _ (by omega)
  by_cases hlt1 : i + 1 < l.length
  ·have hlt : i < l.length := by omega
   have hq : (i : Int) + 1 < (l.length : Int) := by omega
   obtain ⟨g, cap, hv, hcap, _, e0⟩ := int_at HO.out i hlt
   simp only [Value.slice.injEq, true_and] at hv
   obtain ⟨rfl, rfl⟩ := hv
   have hn9 := HL9.out l[i] (List.getElem_mem hlt)
   have HDR := Lib.hid (show l.drop i = l[i] :: l.drop (i + 1) from List.drop_eq_getElem_cons hlt)
   obtain ⟨n, hn⟩ : ∃ n, n = l[i] := ⟨_, rfl⟩
   rw [← hn] at e0 hn9 HDR
   clear hn
   by_cases hnb : (n : Int) < before
   ·have HE := Lib.hid (show trimL p.data.toList before l M = if (dropS (fileN p.data.toList n) Mi).1 = 0 then trimL p.data.toList before (l.drop (i + 1)) (dropS (fileN p.data.toList n) Mi).2 else dropS (fileN p.data.toList n) Mi by
     rw [HTR.out, HDR.out]
     exact trim_step _ _ (by intro e; have := congrArg List.length e; rw [List.length_drop, List.length_nil] at this; omega) hnb)
    obtain ⟨rd, Md, hD⟩ : ∃ rd Md, dropS (fileN p.data.toList n) Mi = (rd, Md) := ⟨_, _, rfl⟩
    have HD := Lib.hid hD
    have HMd := Lib.hid (show Md.ok by have := drop_ok HX.out.ok (fileN p.data.toList n); rwa [hD] at this)
    rw [hD] at HE
    have hfl := file_len p.data.toList (n := n) (by omega)
    have hfz := str_len (fileN p.data.toList n)
    have hgw : g < w1.heap.size ∧ w.heap.size ≤ g := ⟨(HVB.out g rfl).2, (HVB.out g rfl).1⟩
    have hgF : g ∉ Fi := fun hm => by
     rcases HFi.out g hm with h | h
     ·have := HFL.out g h; omega
     ·omega
    clear hD
    obtain ⟨x0, hx0⟩ : ∃ x0, x0 = Mi := ⟨_, rfl⟩
    clear hx0 x0
    go_wp2_with (fail)
    refine wp_region_held_drew (S := fun z => z.cell? ⟨jb, 0, none⟩ = some (.pointer (some ⟨b, 0, none⟩)) ∧ z.cell? ⟨g, i, none⟩ = some (.int .i64 n)) (by kernel_rfl) ⟨HX.out.j.files, e0⟩ (fun hHeld => ?_)
    refine tq ⟨some 25, .move (.tmp 0), 60, "ref.go:205", #[], none⟩ ?_ 0 rfl ?_ ?_;rotate_left;·(intros;go_simp<;>with_reducible rfl)
    try simp only[Act.put,sqA,sqB,sqC]
    refine tq ⟨some 26, .nilCheck (.tmp 25), 0, "ref.go:205", #[⟨0, .data⟩], none⟩ ?_ 1 rfl ?_ ?_;rotate_left;·(intros;go_simp<;>with_reducible rfl)
    try simp only[Act.put,sqA,sqB,sqC]
    refine tq ⟨some 27, .fieldAddr 169 (.tmp 26) 0, 0, "ref.go:205", #[⟨1, .data⟩], none⟩ ?_ 2 rfl ?_ ?_;rotate_left;·(intros;go_simp<;>with_reducible rfl)
    try simp only[Act.put,sqA,sqB,sqC]
    refine tq ⟨some 28, .load 63 (.tmp 27), 63, "ref.go:205", #[⟨2, .data⟩], none⟩ ?_ 3 rfl ?_ ?_;rotate_left;·(intros;go_simp<;>with_reducible rfl)
    try simp only[Act.put,sqA,sqB,sqC]
    refine tq ⟨some 29, .move (.tmp 0), 60, "ref.go:205", #[], none⟩ ?_ 4 rfl ?_ ?_;rotate_left;·(intros;go_simp<;>with_reducible rfl)
    try simp only[Act.put,sqA,sqB,sqC]
    refine tq ⟨some 30, .move (.tmp 5), 52, "ref.go:205", #[], none⟩ ?_ 5 rfl ?_ ?_;rotate_left;·(intros;go_simp<;>with_reducible rfl)
    try simp only[Act.put,sqA,sqB,sqC]
    refine tq ⟨some 31, .move (.tmp 6), 3, "ref.go:205", #[], none⟩ ?_ 6 rfl ?_ ?_;rotate_left;·(intros;go_simp<;>with_reducible rfl)
    try simp only[Act.put,sqA,sqB,sqC]
    refine tq ⟨some 32, .indexAddr 52 (.tmp 30) (.tmp 31), 0, "ref.go:205", #[⟨5, .data⟩, ⟨6, .data⟩], none⟩ ?_ 7 rfl ?_ ?_;rotate_left;·(intros;go_simp<;>with_reducible rfl)
    try simp only[Act.put,sqA,sqB,sqC]
    refine tq ⟨some 33, .load 3 (.tmp 32), 3, "ref.go:205", #[⟨7, .data⟩], none⟩ ?_ 8 rfl ?_ ?_;rotate_left;·(intros;go_simp<;>with_reducible rfl)
    try simp only[Act.put,sqA,sqB,sqC]
    refine wpAnyH_ready (rs := [9]) (by kernel_rfl) (by simp) ?_
    refine ar1 ⟨some 34, .call ⟨.value (.func 100), #[.tmp 29, .tmp 33], #[60, 3]⟩, 9, "ref.go:205", #[⟨4, .data⟩, ⟨8, .data⟩], none⟩ rfl (fun K hK => ?_)
    go_simp
    refine (rj_fileC (HX.out.bel (Bel.refl _).drew) hp n (by omega)).mono ?_
    rintro e zf ⟨rfl, hbf⟩
    have HBf := Lib.hid ((Bel.refl _).drew.trans hbf)
    have HXf := Lib.hid (HX.out.bel HBf.out)
    have ef := cell_later HBf.out e0
    clear hbf
    dsimp only
    refine hK.out _ _ ⟨HXf.out.j.files, ef⟩ (fun hHeld => ?_);clear hK K;try simp only[Act.put,sqA,sqB,sqC]
    refine wpAnyH_ready (rs := [10]) (by kernel_rfl) (by simp) ?_
    refine ar1 ⟨some 35, .call ⟨.value (.func 112), #[.tmp 28, .tmp 34], #[63, 9]⟩, 31, "ref.go:205", #[⟨3, .data⟩, ⟨9, .data⟩, ⟨9, .chain⟩], none⟩ rfl (fun K hK => ?_)
    go_simp
    refine (rdrop_any n₀ zf b Mi Fi (⟨(fileN p.data.toList n).toArray⟩ : ByteArray) HXf.out.ref HX.out.ok).mono ?_
    rintro e w4 ⟨rfl, hT⟩
    rw [str_list, HD.out] at hT ⊢
    obtain ⟨F4, hX4, hK4, hF4⟩ := HXf.out.step hT HMd.out
    have HX4 := Lib.hid hX4
    have HK4 := Lib.hid ((HKi.out.then HBf.out).trans hK4 (fun x hx => HFi.out x hx))
    have HF4 := Lib.hid (show ∀ k ∈ F4, k ∈ F ∨ w1.heap.size ≤ k from fun k hk => by
     rcases hF4 k hk with h | h
     ·exact HFi.out k h
     ·exact Or.inr (Nat.le_trans (HKi.out.then HBf.out).size h))
    have HO4 := Lib.hid ((HO.out.bel HBf.out).keep hK4 (fun j hj => by simp only [Value.ownBlock, Option.some.injEq] at hj; subst hj; exact hgF))
    have cN := HX4.out.j.files
    have eN := hK4.cell ef hgF
    clear hT hX4 hK4 hF4
    dsimp only
    refine hK.out _ _ ⟨cN, eN⟩ (fun hHeld => ?_);clear hK K;try simp only[Act.put,sqA,sqB,sqC]
    refine tq ⟨some 7, .assign (.tmp 35), 31, "ref.go:205", #[⟨10, .data⟩, ⟨10, .chain⟩, ⟨0, .phase⟩, ⟨1, .phase⟩, ⟨2, .phase⟩, ⟨3, .phase⟩, ⟨4, .phase⟩, ⟨5, .phase⟩, ⟨6, .phase⟩, ⟨7, .phase⟩, ⟨8, .phase⟩, ⟨9, .phase⟩, ⟨10, .phase⟩], none⟩ ?_ 11 rfl ?_ ?_;rotate_left;·(intros;go_simp<;>with_reducible rfl)
    try simp only[Act.put,sqA,sqB,sqC]
    refine wpAnyH_done (by kernel_rfl) ?_ _
    by_cases hrd : rd = 0
    ·subst hrd
     rw [if_pos rfl] at HE
     clear cN eN
     go_wp2_with (fail)
     go_roundw
     case rel => exact ⟨i + 1, Md, F4, by go_num, by omega, HX4.out, HK4.out, HF4.out, HO4.out, HE.out⟩
     case measure => simp [intOf]; omega
    ·rw [if_neg hrd] at HE
     have hx3 : (rd != 0) = true := by rw [bne_iff_ne]; exact hrd
     have hx2 : (rd == 0) = false := by rw [beq_eq_false_iff_ne]; exact hrd
     clear cN eN
     go_wp2_with (fail)
     go_ret
     exact ⟨by rw [HE.out]; rfl, by rw [HE.out]; exact ⟨F4, HX4.out.ref, (Keep.of_bel HB1.out F).trans HK4.out (fun x hx => Or.inl hx), fun k hk => (HF4.out k hk).imp id (fun h => Nat.le_trans HB1.out.size h)⟩⟩
   ·have HE := Lib.hid (show trimL p.data.toList before l M = (0, Mi) by rw [HTR.out, HDR.out]; exact trim_stop _ _ hnb)
    have hge : before ≤ (n : Int) := by omega
    go_wp2_with (fail)
    go_ret
    exact ⟨by rw [HE.out]; rfl, by rw [HE.out]; exact ⟨Fi, HX.out.ref, (Keep.of_bel HB1.out F).trans HKi.out (fun x hx => Or.inl hx), fun k hk => (HFi.out k hk).imp id (fun h => Nat.le_trans HB1.out.size h)⟩⟩
  ·have hq : (l.length : Int) ≤ (i : Int) + 1 := by omega
   have HE := Lib.hid (show trimL p.data.toList before l M = (0, Mi) by rw [HTR.out]; exact trim_end _ _ (by rw [List.length_drop]; omega))
   go_wp2_with (fail)
   go_ret
   exact ⟨by rw [HE.out]; rfl, by rw [HE.out]; exact ⟨Fi, HX.out.ref, (Keep.of_bel HB1.out F).trans HKi.out (fun x hx => Or.inl hx), fun k hk => (HFi.out k hk).imp id (fun h => Nat.le_trans HB1.out.size h)⟩⟩

theorem chg_room (M : RS) (L' : List FI) : (chgS M L').2.room = M.room := by
 unfold chgS
 split
 ·exact turn_room M
 ·exact turn_room M
theorem add_room (M : RS) (nm t : List UInt8) : (addS nm t M).2.room = M.room := by
 unfold addS; split; exact chg_room M _; rfl
theorem room_sizes {M : RS} (h : M.ok) (hr : M.room ≤ 1000000) : ∀ y ∈ M.L, y.bytes.length ≤ 1000000 := fun y hy => by
 have h1 := bytes_mem hy
 have h2 := h.fits
 omega
def OpPost (n₀ : Nat) (w : World) (b : Nat) (F : List Nat) (nm : ByteArray) (most : Int) (M' : RS) (L : List (List (List UInt8))) (err : Int) (e : Ending) (y : World) : Prop :=
 ∃ jv v F', e = .returned (.tuple #[jv, v, .int .i64 err]) ∧ ProgAt n₀ y b M' F' ∧ Keep F w y ∧ (∀ k ∈ F', k ∈ F ∨ w.heap.size ≤ k) ∧ OwnQ w y F' v L ∧
  (err = 0 → ∃ jb, jv = .pointer (some ⟨jb, 0, none⟩) ∧ JAt y jb b nm most ∧ Qb w y F' jb) ∧ (err ≠ 0 → jv = .pointer none)
theorem open_new {p : List UInt8} {M : RS} (hM : M.ok) (h0 : segsL p M.L = []) (ht : (jturn p M).1 = 0) : segsL p (jturn p M).2.L = [1] ∧ (jturn p M).2.gone = false ∧ readSegs p [1] (jturn p M).2 = (0, [], (jturn p M).2) := by
 have hl : lastN p M.L = 0 := last_zero.2 h0
 obtain ⟨h1, -, h3, h4, -⟩ := (jturn_segs hM (by omega)).1 ht
 rw [hl, h0] at h1
 rw [hl] at h4
 refine ⟨h1, h3, ?_⟩
 have hb : bytesOf (fileN p 1) (jturn p M).2 = [] := bytesOf_get h4
 simp only [readSegs, hb, read_nil]
 simp
set_option maxHeartbeats 4000000 in
theorem open_rest (n₀ : Nat) (w x : World) (b : Nat) (M : RS) (F F0 : List Nat) (jb : Nat) (nm : ByteArray) (most : Int) (h : JS n₀ x b M F jb nm most) (hg : M.gone = false) (hnm : nm.size ≤ 100) (hr : M.room ≤ 1000000) :
  Calls Tryz.prog 96 #[.pointer (some ⟨jb, 0, none⟩)] x fun e y => ∃ p cap, e = .returned (.slice p (segsL nm.data.toList M.L).length cap) ∧ StrsAt y p ((segsL nm.data.toList M.L).map (fileN nm.data.toList)) ∧ Bel x y := by
 refine (jnames_any n₀ x jb b nm most M F h.prog h.ok h.j hnm h.std0).mono ?_
 rintro e y ⟨v, rfl, ho, hb⟩
 obtain ⟨p, cap, rfl, hat⟩ := ownG_strs ho
 exact ⟨p, cap, by rw [List.length_map], hat, hb⟩
set_option maxHeartbeats 4000000 in
theorem open_any (n₀ : Nat) (w : World) (b : Nat) (M : RS) (F : List Nat) (nm : ByteArray) (most : Int) (h : ProgAt n₀ w b M F) (hM : M.ok) (hstd : ∀ z, Keep F w z → Std z) (hnm : nm.size ≤ 100) (hr : M.room ≤ 1000000) :
  Calls Tryz.prog 58 #[.pointer (some ⟨b, 0, none⟩), .string nm, .int .i64 most] w (OpPost n₀ w b F nm most (jopen nm.data.toList M).2.2 (jopen nm.data.toList M).2.1 (jopen nm.data.toList M).1) := by
 have HP := Lib.hid h
 have HM := Lib.hid hM
 have HS := Lib.hid hstd
 have HFL := Lib.hid (prog_lt h)
 have HR := Lib.hid hr
 clear h hM hstd hr
 cases hN : nameJ nm.data.toList with
 | false =>
  have HO := Lib.hid (show jopen nm.data.toList M = (3, [], M) by unfold jopen; rw [if_pos hN])
  have HNJ := Lib.hid hN; clear hN
  go_enter Tryz.func58, Tryz.ntmps58
  go_wp2_with (fail)
  refine (jisname_any nm w (by unfold maxLen; omega)).mono ?_
  rintro e w1 ⟨rfl, hd1⟩
  rw [HNJ.out]
  have HB1 := Lib.hid hd1.bel; clear hd1
  go_wp2_with (fail)
  go_ret3
  rw [HO.out]
  exact ⟨_, _, F, rfl, HP.out.bel HB1.out, Keep.of_bel HB1.out F, fun k hk => Or.inl hk, OwnQ.nil _ _ _, (fun hc => absurd hc (by simp)), (fun _ => rfl)⟩
 | true =>
  have HNJ := Lib.hid hN
  cases hg : M.gone with
  | true =>
   have HO := Lib.hid (show jopen nm.data.toList M = (7, [], M) by unfold jopen; rw [if_neg (by rw [hN]; simp), if_pos hg])
   clear hN
   go_enter Tryz.func58, Tryz.ntmps58
   go_wp2_with (fail)
   refine (jisname_any nm w (by unfold maxLen; omega)).mono ?_
   rintro e w1 ⟨rfl, hd1⟩
   rw [HNJ.out]
   have HB1 := Lib.hid hd1.bel; clear hd1
   go_wp2_with (fail)
   refine (dead_any n₀ _ b M F (HP.out.bel HB1.out)).mono ?_
   rintro e w2 ⟨rfl, hd2⟩
   rw [hg]
   have HB2 := Lib.hid (HB1.out.trans hd2.bel); clear hd2
   go_wp2_with (fail)
   go_ret3
   rw [HO.out]
   exact ⟨_, _, F, rfl, HP.out.bel HB2.out, Keep.of_bel HB2.out F, fun k hk => Or.inl hk, OwnQ.nil _ _ _, (fun hc => absurd hc (by simp)), (fun _ => rfl)⟩
  | false =>
   have HO := Lib.hid (show jopen nm.data.toList M = if segsL nm.data.toList M.L = [] then ((jturn nm.data.toList M).1, [], (jturn nm.data.toList M).2) else readSegs nm.data.toList (segsL nm.data.toList M.L) M by
    unfold jopen; rw [if_neg (by rw [hN]; simp), if_neg (by rw [hg]; simp)])
   clear hN
   have HG := Lib.hid hg; clear hg
   go_enter Tryz.func58, Tryz.ntmps58
   go_wp2_with (fail)
   refine (jisname_any nm w (by unfold maxLen; omega)).mono ?_
   rintro e w1 ⟨rfl, hd1⟩
   rw [HNJ.out]
   have HB1 := Lib.hid hd1.bel; clear hd1
   go_wp2_with (fail)
   refine (dead_any n₀ _ b M F (HP.out.bel HB1.out)).mono ?_
   rintro e w2 ⟨rfl, hd2⟩
   rw [HG.out]
   have HB2 := Lib.hid (HB1.out.trans hd2.bel); clear hd2
   go_wp2_with (fail)
   obtain ⟨jb, hjb⟩ : ∃ jb, jb = w2.heap.size := ⟨_, rfl⟩
   have HJB := Lib.hid hjb
   obtain ⟨x0, hx0⟩ : ∃ x0, x0 = w2.alloc (.cells #[.pointer (some ⟨b, 0, none⟩), .string nm, .int .i64 most] 153) := ⟨_, rfl⟩
   have HBX := Lib.hid (show Bel w x0 by rw [hx0]; exact HB2.out.alloc _)
   have HX := Lib.hid (show JS n₀ x0 b M F jb nm most from
    ⟨HP.out.bel HBX.out, HM.out, by rw [hjb, hx0]; exact ⟨by go_simp, by go_simp, by go_simp⟩, fun hm => by have h1 := HFL.out jb hm; have h2 := HB2.out.size; omega, fun z hz => HS.out z ((Keep.of_bel HBX.out F).trans hz (fun k hk => Or.inl hk))⟩)
   have HJW := Lib.hid (show w.heap.size ≤ jb by rw [hjb]; exact HB2.out.size)
   rw [← hjb, ← hx0]
   clear hx0 hjb HJB
   refine (num_any n₀ x0 jb b nm most M F HX.out.prog HX.out.ok HX.out.j hnm HX.out.std0).mono ?_
   rintro e x4 ⟨rfl, hb4⟩
   have HX4 := Lib.hid (HX.out.bel hb4)
   have HB4 := Lib.hid (HBX.out.trans hb4)
   clear hb4
   by_cases hs0 : segsL nm.data.toList M.L = []
   ·have hl0 : lastN nm.data.toList M.L = 0 := last_zero.2 hs0
    rw [if_pos hs0] at HO
    rw [hl0]
    go_wp2_with (fail)
    refine (jturn_any n₀ x4 b M F jb nm most HX4.out hnm (by rw [hl0]; omega)).mono ?_
    rintro e x5 ⟨rfl, hT⟩
    obtain ⟨rt, M1, ht⟩ : ∃ rt M1, jturn nm.data.toList M = (rt, M1) := ⟨_, _, rfl⟩
    have HON := Lib.hid (open_new HM.out hs0)
    have HM1 := Lib.hid (show M1.ok by have := jturn_ok HM.out nm.data.toList; rwa [ht] at this)
    have HR1 := Lib.hid (show M1.room ≤ 1000000 by have := add_room M (fileN nm.data.toList (lastN nm.data.toList M.L + 1)) []; rw [show addS (fileN nm.data.toList (lastN nm.data.toList M.L + 1)) [] M = (rt, M1) from ht] at this; simp only at this; rw [this]; exact HR.out)
    rw [ht] at hT HON HO ⊢
    clear ht
    obtain ⟨F5, hX5, hK5, hF5⟩ := HX4.out.step hT HM1.out
    have HX5 := Lib.hid hX5
    have HK5 := Lib.hid (show Keep F w x5 from (Keep.of_bel HB4.out F).trans hK5 (fun k hk => Or.inl hk))
    have HF5 := Lib.hid (show ∀ k ∈ F5, k ∈ F ∨ w.heap.size ≤ k from fun k hk => (hF5 k hk).imp id (fun h => Nat.le_trans HB4.out.size h))
    clear hT hX5 hK5 hF5
    by_cases hrt : rt = 0
    ·subst hrt
     obtain ⟨hs1, hg1, hrd1⟩ := HON.out rfl
     have HG1 := Lib.hid hg1
     have HRD1 := Lib.hid (show readSegs nm.data.toList (segsL nm.data.toList M1.L) M1 = (0, [], M1) by rw [hs1]; exact hrd1)
     clear hs1 hg1 hrd1
     go_wp2_with (fail)
     refine (open_rest n₀ w _ b M1 F5 F5 jb nm most HX5.out HG1.out hnm HR1.out).mono ?_
     rintro e x1 ⟨sp, sc, rfl, hat, hbn⟩
     have HSA := Lib.hid hat
     have HY1 := Lib.hid (HX5.out.bel hbn)
     have HBN := Lib.hid hbn
     clear hat hbn
     have hsl := segs_len nm.data.toList M1.L
     have h60 := HX5.out.ok.len
     have hml : ((segsL nm.data.toList M1.L).map (fileN nm.data.toList)).length = (segsL nm.data.toList M1.L).length := List.length_map _
     have HSO := Lib.hid (segof_any x1 sp sc ((segsL nm.data.toList M1.L).map (fileN nm.data.toList)) HSA.out (by omega))
     rw [hml] at HSO
     have HRS := Lib.hid (fun (z : World) (sv : Value) (hp : ProgAt n₀ z b M1 F5) (hs : OwnG segEl 0 z sv (segF ((segsL nm.data.toList M1.L).map (fileN nm.data.toList)))) (hq : ∀ k, sv.ownBlock = some k → k < z.heap.size ∧ k ∉ F5) =>
      readall_any n₀ z b M1 F5 nm.data.toList (segsL nm.data.toList M1.L) sv hp HX5.out.ok HG1.out hnm (fun n hn => ⟨(mem_segs_file.1 hn).2.1, Option.isSome_iff_exists.1 ((mem_segs_get HX5.out.ok.srt).1 hn).2.2⟩) (by omega) (room_sizes HX5.out.ok HR1.out) hs hq)
     obtain ⟨er, LL, MF, hread⟩ : ∃ er LL MF, readSegs nm.data.toList (segsL nm.data.toList M1.L) M1 = (er, LL, MF) := ⟨_, _, _, rfl⟩
     rw [hread] at HRS
     have HRD := Lib.hid hread
     clear hread hml
     go_wp2_with (fail)
     refine HSO.out.mono ?_
     rintro e x2 ⟨sv, rfl, hso, hbs⟩
     have HY2 := Lib.hid (HY1.out.bel hbs)
     have HSV := Lib.hid (hso.low (Nat.zero_le _))
     have HSQ := Lib.hid (show ∀ k, sv.ownBlock = some k → k < x2.heap.size ∧ k ∉ F5 from fun k hk => ⟨(hso.lt k hk).2, fun hm => by
      have h1 := (hso.lt k hk).1
      have h2 := prog_lt HY1.out.prog k hm
      omega⟩)
     have HB12 := Lib.hid (HBN.out.trans hbs)
     clear hso hbs
     go_wp2_with (fail)
     refine (HRS.out x2 sv HY2.out.prog HSV.out HSQ.out).mono ?_
     rintro e x3 ⟨v, F3, rfl, hp3, hk3, hf3, hq3⟩
     have HP3 := Lib.hid hp3
     have HK3 := Lib.hid (show Keep F w x3 from (HK5.out.then HB12.out).trans hk3 (fun k hk => HF5.out k hk))
     have HF3 := Lib.hid (show ∀ k ∈ F3, k ∈ F ∨ w.heap.size ≤ k from fun k hk => by
      rcases hf3 k hk with h | h
      ·exact HF5.out k h
      ·exact Or.inr (Nat.le_trans (HK5.out.then HB12.out).size h))
     have HQ3 := Lib.hid (hq3.lower (w' := w) (HK5.out.then HB12.out).size)
     have HJ3 := Lib.hid (HY2.out.j.keep (hk3.block jb HY2.out.j.lt HY2.out.out))
     have HJQ := Lib.hid (show Qb w x3 F3 jb from ⟨HJW.out, Nat.lt_of_lt_of_le HY2.out.j.lt hk3.size, fun hm => by
      rcases hf3 jb hm with h | h
      ·exact HY2.out.out h
      ·have := HY2.out.j.lt; omega⟩)
     clear hp3 hk3 hf3 hq3
     by_cases her : er = 0
     ·subst her
      have HE := Lib.hid (show jopen nm.data.toList M = (0, LL, MF) by rw [HO.out]; exact HRD1.out.symm.trans HRD.out)
      go_wp2_with (fail)
      go_ret3
      rw [HE.out]
      exact ⟨_, _, F3, rfl, HP3.out, HK3.out, HF3.out, HQ3.out, (fun _ => ⟨jb, rfl, HJ3.out, HJQ.out⟩), (fun hc => absurd rfl hc)⟩
     ·have HE := Lib.hid (show jopen nm.data.toList M = (er, [], MF) by
       have hl : LL = [] := by
        have := read_err nm.data.toList (segsL nm.data.toList M1.L) M1 (by rw [HRD.out]; exact her)
        rwa [HRD.out] at this
       rw [HO.out, ← hl]; exact absurd (congrArg Prod.fst (HRD.out.symm.trans HRD1.out)) her)
      have hx3 : (er != 0) = true := by rw [bne_iff_ne]; exact her
      have hx2 : (er == 0) = false := by rw [beq_eq_false_iff_ne]; exact her
      go_wp2_with (fail)
      go_ret3
      rw [HE.out]
      exact ⟨_, _, F3, rfl, HP3.out, HK3.out, HF3.out, OwnQ.nil _ _ _, (fun hc => absurd hc her), (fun _ => rfl)⟩
    ·have hx3 : (rt != 0) = true := by rw [bne_iff_ne]; exact hrt
     have hx2 : (rt == 0) = false := by rw [beq_eq_false_iff_ne]; exact hrt
     go_wp2_with (fail)
     go_ret3
     rw [HO.out]
     exact ⟨_, _, F5, rfl, HX5.out.prog, HK5.out, HF5.out, OwnQ.nil _ _ _, (fun hc => absurd hc hrt), (fun _ => rfl)⟩
   ·rw [if_neg hs0] at HO
    have hne0 : ((lastN nm.data.toList M.L : Nat) : Int) ≠ 0 := fun e => hs0 (last_zero.1 (by omega))
    have HK4 := Lib.hid (Keep.of_bel HB4.out F)
    have HF4 := Lib.hid (show ∀ k ∈ F, k ∈ F ∨ w.heap.size ≤ k from fun k hk => Or.inl hk)
    generalize lastN nm.data.toList M.L = ln at *
    have hne1 : ((ln : Int) == 0) = false := by rw [beq_eq_false_iff_ne]; exact hne0
    clear hne0
    go_wp2_with (fail)
    refine (open_rest n₀ w _ b M F F jb nm most HX4.out HG.out hnm HR.out).mono ?_
    rintro e x1 ⟨sp, sc, rfl, hat, hbn⟩
    have HSA := Lib.hid hat
    have HY1 := Lib.hid (HX4.out.bel hbn)
    have HBN := Lib.hid hbn
    clear hat hbn
    have hsl := segs_len nm.data.toList M.L
    have h60 := HX4.out.ok.len
    have hml : ((segsL nm.data.toList M.L).map (fileN nm.data.toList)).length = (segsL nm.data.toList M.L).length := List.length_map _
    have HSO := Lib.hid (segof_any x1 sp sc ((segsL nm.data.toList M.L).map (fileN nm.data.toList)) HSA.out (by omega))
    rw [hml] at HSO
    have HRS := Lib.hid (fun (z : World) (sv : Value) (hp : ProgAt n₀ z b M F) (hs : OwnG segEl 0 z sv (segF ((segsL nm.data.toList M.L).map (fileN nm.data.toList)))) (hq : ∀ k, sv.ownBlock = some k → k < z.heap.size ∧ k ∉ F) =>
     readall_any n₀ z b M F nm.data.toList (segsL nm.data.toList M.L) sv hp HX4.out.ok HG.out hnm (fun n hn => ⟨(mem_segs_file.1 hn).2.1, Option.isSome_iff_exists.1 ((mem_segs_get HX4.out.ok.srt).1 hn).2.2⟩) (by omega) (room_sizes HX4.out.ok HR.out) hs hq)
    obtain ⟨er, LL, MF, hread⟩ : ∃ er LL MF, readSegs nm.data.toList (segsL nm.data.toList M.L) M = (er, LL, MF) := ⟨_, _, _, rfl⟩
    rw [hread] at HRS
    have HRD := Lib.hid hread
    clear hread hml
    go_wp2_with (fail)
    refine HSO.out.mono ?_
    rintro e x2 ⟨sv, rfl, hso, hbs⟩
    have HY2 := Lib.hid (HY1.out.bel hbs)
    have HSV := Lib.hid (hso.low (Nat.zero_le _))
    have HSQ := Lib.hid (show ∀ k, sv.ownBlock = some k → k < x2.heap.size ∧ k ∉ F from fun k hk => ⟨(hso.lt k hk).2, fun hm => by
     have h1 := (hso.lt k hk).1
     have h2 := prog_lt HY1.out.prog k hm
     omega⟩)
    have HB12 := Lib.hid (HBN.out.trans hbs)
    clear hso hbs
    go_wp2_with (fail)
    refine (HRS.out x2 sv HY2.out.prog HSV.out HSQ.out).mono ?_
    rintro e x3 ⟨v, F3, rfl, hp3, hk3, hf3, hq3⟩
    have HP3 := Lib.hid hp3
    have HK3 := Lib.hid (show Keep F w x3 from (HK4.out.then HB12.out).trans hk3 (fun k hk => HF4.out k hk))
    have HF3 := Lib.hid (show ∀ k ∈ F3, k ∈ F ∨ w.heap.size ≤ k from fun k hk => by
     rcases hf3 k hk with h | h
     ·exact HF4.out k h
     ·exact Or.inr (Nat.le_trans (HK4.out.then HB12.out).size h))
    have HQ3 := Lib.hid (hq3.lower (w' := w) (HK4.out.then HB12.out).size)
    have HJ3 := Lib.hid (HY2.out.j.keep (hk3.block jb HY2.out.j.lt HY2.out.out))
    have HJQ := Lib.hid (show Qb w x3 F3 jb from ⟨HJW.out, Nat.lt_of_lt_of_le HY2.out.j.lt hk3.size, fun hm => by
     rcases hf3 jb hm with h | h
     ·exact HY2.out.out h
     ·have := HY2.out.j.lt; omega⟩)
    clear hp3 hk3 hf3 hq3
    by_cases her : er = 0
    ·subst her
     have HE := Lib.hid (show jopen nm.data.toList M = (0, LL, MF) by rw [HO.out]; exact HRD.out)
     go_wp2_with (fail)
     go_ret3
     rw [HE.out]
     exact ⟨_, _, F3, rfl, HP3.out, HK3.out, HF3.out, HQ3.out, (fun _ => ⟨jb, rfl, HJ3.out, HJQ.out⟩), (fun hc => absurd rfl hc)⟩
    ·have HE := Lib.hid (show jopen nm.data.toList M = (er, [], MF) by
      have hl : LL = [] := by
       have := read_err nm.data.toList (segsL nm.data.toList M.L) M (by rw [HRD.out]; exact her)
       rwa [HRD.out] at this
      rw [HO.out, ← hl]; exact HRD.out)
     have hx3 : (er != 0) = true := by rw [bne_iff_ne]; exact her
     have hx2 : (er == 0) = false := by rw [beq_eq_false_iff_ne]; exact her
     go_wp2_with (fail)
     go_ret3
     rw [HE.out]
     exact ⟨_, _, F3, rfl, HP3.out, HK3.out, HF3.out, OwnQ.nil _ _ _, (fun hc => absurd hc her), (fun _ => rfl)⟩

def RopPost (n₀ : Nat) (w : World) (b : Nat) (F : List Nat) (nm : ByteArray) (most : Int) (M' : RS) (L : List (List (List UInt8))) (err : Int) (e : Ending) (y : World) : Prop :=
 ∃ jv v F', e = .returned (.tuple #[jv, v, .int .i64 err]) ∧ RefP n₀ y b M' F' ∧ Keep F w y ∧ (∀ k ∈ F', k ∈ F ∨ w.heap.size ≤ k) ∧ OwnQ w y F' v L ∧
  (err = 0 → ∃ jb, jv = .pointer (some ⟨jb, 0, none⟩) ∧ JAt y jb b nm most ∧ Qb w y F' jb) ∧ (err ≠ 0 → jv = .pointer none)
def ROpRel (n₀ : Nat) (w3 : World) (b : Nat) (F : List Nat) (jb : Nat) (nm : ByteArray) (most : Int) (l : List Nat) (lv : Value) (M : RS) (ov iv : Value) (x : World) : Prop :=
 ∃ (k : Nat) (acc : List (List (List UInt8))) (Mk : RS) (Fk : List Nat), iv = .int .i64 k ∧ k ≤ l.length ∧ RJS n₀ x b Mk Fk jb nm most ∧ Keep F w3 x ∧ (∀ j ∈ Fk, j ∈ F ∨ w3.heap.size ≤ j) ∧ OwnQ w3 x Fk ov acc ∧ LeftS nm.data.toList l M k acc Mk ∧ acc.length ≤ 1000000 * k ∧
  OwnG intEl 0 x lv (l.map fun n : Nat => (n : Int))
theorem mended_of {nm s : List UInt8} {M : RS} {L : List (List (List UInt8))} {k : Nat} {e rc : Int} {Mc : RS} (hR : readL s = (L, k, e)) (he : e ≠ 0) (hc : cutS nm (k : Nat) M = (rc, Mc)) :
  mendedS nm s M = if rc ≠ 0 then ([], rc, Mc) else if (flushS nm Mc).1 = 0 then (L, 0, (flushS nm Mc).2) else ([], (flushS nm Mc).1, (flushS nm Mc).2) := by
 unfold mendedS mendS
 rw [hR]
 simp only
 rw [if_neg he, hc]
 by_cases hrc : rc = 0
 ·subst hrc; simp
 ·simp [hrc]
set_option maxHeartbeats 8000000 in
set_option maxRecDepth 20000 in
theorem ropen_any (n₀ : Nat) (w : World) (b : Nat) (M : RS) (F : List Nat) (nm : ByteArray) (most : Int) (h : RefP n₀ w b M F) (hM : M.ok) (hnm : nm.size ≤ 100) (hr : M.room ≤ 1000000) :
  Calls Tryz.prog 68 #[.pointer (some ⟨b, 0, none⟩), .string nm, .int .i64 most] w (RopPost n₀ w b F nm most (jopen nm.data.toList M).2.2 (jopen nm.data.toList M).2.1 (jopen nm.data.toList M).1) := by
 have HP := Lib.hid h
 have HM := Lib.hid hM
 have HFL := Lib.hid (ref_lt h)
 have HR := Lib.hid hr
 have HRA := Lib.hid h
 have hpl : nm.data.toList.length = nm.size := rfl
 clear h hM hr
 cases hN : nameJ nm.data.toList with
 | false =>
  have HO := Lib.hid (show jopen nm.data.toList M = (3, [], M) by unfold jopen; rw [if_pos hN])
  have HNJ := Lib.hid hN; clear hN
  go_enter Tryz.func68, Tryz.ntmps68
  go_wp2_with (fail)
  refine (jnamed_any nm w (by unfold maxLen; omega)).mono ?_
  rintro e w1 ⟨rfl, hd1⟩
  rw [HNJ.out]
  have HB1 := Lib.hid hd1.bel; clear hd1
  go_wp2_with (fail)
  go_ret3
  rw [HO.out]
  exact ⟨_, _, F, rfl, HP.out.bel HB1.out, Keep.of_bel HB1.out F, fun k hk => Or.inl hk, OwnQ.nil _ _ _, (fun hc => absurd hc (by simp)), (fun _ => rfl)⟩
 | true =>
  have HNJ := Lib.hid hN
  have HC3 := Lib.hid (show ∀ x, Bel w x → x.cell? ⟨b, 3, none⟩ = some (.bool M.gone) from fun x hx => by
   obtain ⟨v, hra, -, -, -⟩ := HP.out.bel hx
   exact hra.cells.2.2.2)
  cases hg : M.gone with
  | true =>
   rw [hg] at HC3
   have HO := Lib.hid (show jopen nm.data.toList M = (7, [], M) by unfold jopen; rw [if_neg (by rw [hN]; simp), if_pos hg])
   clear hN
   go_enter Tryz.func68, Tryz.ntmps68
   go_wp2_with (fail)
   refine (jnamed_any nm w (by unfold maxLen; omega)).mono ?_
   rintro e w1 ⟨rfl, hd1⟩
   rw [HNJ.out]
   have HB1 := Lib.hid hd1.bel; clear hd1
   have c3 := HC3.out _ HB1.out
   go_wp2_with (fail)
   go_ret3
   rw [HO.out]
   exact ⟨_, _, F, rfl, HP.out.bel HB1.out, Keep.of_bel HB1.out F, fun k hk => Or.inl hk, OwnQ.nil _ _ _, (fun hc => absurd hc (by simp)), (fun _ => rfl)⟩
  | false =>
   rw [hg] at HC3
   have HO := Lib.hid (show jopen nm.data.toList M = if segsL nm.data.toList M.L = [] then ((jturn nm.data.toList M).1, [], (jturn nm.data.toList M).2) else readSegs nm.data.toList (segsL nm.data.toList M.L) M by
    unfold jopen; rw [if_neg (by rw [hN]; simp), if_neg (by rw [hg]; simp)])
   clear hN
   have HG := Lib.hid hg; clear hg
   have hsl := segs_len nm.data.toList M.L
   have h60 := HM.out.len
   go_enter Tryz.func68, Tryz.ntmps68
   go_wp2_with (fail)
   refine (jnamed_any nm w (by unfold maxLen; omega)).mono ?_
   rintro e w1 ⟨rfl, hd1⟩
   rw [HNJ.out]
   have HB1 := Lib.hid hd1.bel; clear hd1
   have c3 := HC3.out _ HB1.out
   go_wp2_with (fail)
   obtain ⟨jb, hjb⟩ : ∃ jb, jb = w1.heap.size := ⟨_, rfl⟩
   obtain ⟨x0, hx0⟩ : ∃ x0, x0 = w1.alloc (.cells #[.pointer (some ⟨b, 0, none⟩), .string nm, .int .i64 most] 169) := ⟨_, rfl⟩
   have HBX := Lib.hid (show Bel w x0 by rw [hx0]; exact HB1.out.alloc _)
   have HX := Lib.hid (show RJS n₀ x0 b M F jb nm most from
    ⟨HP.out.bel HBX.out, HM.out, by rw [hjb, hx0]; exact ⟨by go_simp, by go_simp, by go_simp⟩, fun hm => by have h1 := HFL.out jb hm; have h2 := HB1.out.size; omega⟩)
   have HJW := Lib.hid (show w.heap.size ≤ jb by rw [hjb]; exact HB1.out.size)
   rw [← hjb, ← hx0]
   clear hx0 hjb c3
   refine (rsegs_any n₀ x0 jb b nm most M F HX.out.ref HX.out.ok HX.out.j hnm).mono ?_
   rintro e w3 ⟨lv, rfl, hown, hb3⟩
   have HX3 := Lib.hid (HX.out.bel hb3)
   have HB3 := Lib.hid (HBX.out.trans hb3)
   have HJL := Lib.hid (show jb < w3.heap.size from HX3.out.j.lt)
   obtain ⟨l, hl⟩ : ∃ l, l = segsL nm.data.toList M.L := ⟨_, rfl⟩
   have HSG := Lib.hid hl
   rw [← hl] at hown hsl HO
   have HLV := Lib.hid (hown.low (Nat.zero_le _))
   have HVB := Lib.hid hown.lt
   have HXS := Lib.hid hb3.size
   have HXF := Lib.hid (ref_lt HX.out.ref)
   obtain ⟨sp, sc, hv⟩ := ownG_len hown
   rw [toZ_len] at hv
   subst hv
   clear hown hb3
   by_cases hs0 : l = []
   ·have hll : l.length = 0 := by rw [hs0]; rfl
    have HJT := Lib.hid (show jturn nm.data.toList M = addS (fileN nm.data.toList 1) [] M by unfold jturn; rw [last_zero.2 (by rw [← hl]; exact hs0)])
    rw [if_pos hs0, HJT.out] at HO
    have hfl := file_len nm.data.toList (n := 1) (by omega)
    have hfz := str_len (fileN nm.data.toList 1)
    obtain ⟨rt, M1, ht⟩ : ∃ rt M1, addS (fileN nm.data.toList 1) [] M = (rt, M1) := ⟨_, _, rfl⟩
    have HT := Lib.hid ht
    have HM1 := Lib.hid (show M1.ok by have := add_ok HM.out (fileN nm.data.toList 1) []; rwa [ht] at this)
    rw [ht] at HO
    clear ht hl hs0
    go_wp2_with (fail)
    refine (rj_fileC HX3.out hnm 1 (by omega)).mono ?_
    rintro e w4 ⟨rfl, hb4⟩
    have HX4 := Lib.hid (HX3.out.bel hb4)
    have HB4 := Lib.hid (HB3.out.trans hb4)
    clear hb4
    go_wp2_with (fail)
    refine (radd_any n₀ w4 b M F (⟨(fileN nm.data.toList 1).toArray⟩ : ByteArray) ⟨#[]⟩ (by omega) (by decide) HX4.out.ref HX4.out.ok).mono ?_
    rintro e w5 ⟨rfl, hT⟩
    rw [str_list, show (⟨#[]⟩ : ByteArray).data.toList = [] from rfl, HT.out] at hT ⊢
    obtain ⟨F5, hX5, hK5, hF5⟩ := HX4.out.step hT HM1.out
    have HX5 := Lib.hid hX5
    have HK5 := Lib.hid (show Keep F w w5 from (Keep.of_bel HB4.out F).trans hK5 (fun k hk => Or.inl hk))
    have HF5 := Lib.hid (show ∀ k ∈ F5, k ∈ F ∨ w.heap.size ≤ k from fun k hk => (hF5 k hk).imp id (fun h => Nat.le_trans HB4.out.size h))
    clear hT hX5 hK5 hF5
    by_cases hrt : rt = 0
    ·subst hrt
     go_wp2_with (fail)
     go_ret3
     rw [HO.out]
     exact ⟨_, _, F5, rfl, HX5.out.ref, HK5.out, HF5.out, OwnQ.nil _ _ _, (fun _ => ⟨jb, rfl, HX5.out.j, ⟨HJW.out, HX5.out.j.lt, HX5.out.out⟩⟩), (fun hc => absurd rfl hc)⟩
    ·have hx3 : (rt != 0) = true := by rw [bne_iff_ne]; exact hrt
     have hx2 : (rt == 0) = false := by rw [beq_eq_false_iff_ne]; exact hrt
     go_wp2_with (fail)
     go_ret3
     rw [HO.out]
     exact ⟨_, _, F5, rfl, HX5.out.ref, HK5.out, HF5.out, OwnQ.nil _ _ _, (fun hc => absurd hc hrt), (fun _ => rfl)⟩
   ·have hlp : l.length ≠ 0 := fun e => hs0 (List.length_eq_zero_iff.1 e)
    have hz : ((l.length : Int) == 0) = false := by rw [beq_eq_false_iff_ne]; omega
    rw [if_neg hs0] at HO
    have HL := Lib.hid (show ∀ n ∈ l, n ≤ 9999999 ∧ ∃ y, getF (fileN nm.data.toList n) M.L = some y from fun n hn => by
     rw [hl] at hn
     exact ⟨(mem_segs_file.1 hn).2.1, Option.isSome_iff_exists.1 ((mem_segs_get HM.out.srt).1 hn).2.2⟩)
    have HSZ := Lib.hid (room_sizes HM.out HR.out)
    clear hl hs0 HSG
    go_wp2_with (fail)
    go_loopw [13, 14] (fun ov iv x => ROpRel n₀ w3 b F jb nm most l (.slice sp l.length sc) M ov iv x) (fun _ iv _ => l.length - (intOf iv).toNat)
    case atStart => exact ⟨0, [], M, F, rfl, Nat.zero_le _, HX3.out, Keep.refl _ _, fun j hj => Or.inl hj, OwnQ.nil _ _ _, left_start _ _ _, by simp, HLV.out⟩
    case round =>
     obtain ⟨k, acc, Mk, Fk, rfl, hk, hxk, hkeep, hfk, hoq, hleft, hal, hlv⟩ := hrel
     have HXK := Lib.hid hxk
     have HK := Lib.hid hkeep
     have HFK := Lib.hid hfk
     have HOQ := Lib.hid hoq
     have HLF := Lib.hid hleft
     have HLK := Lib.hid hlv
     obtain ⟨op, oc, hov⟩ := hoq.own.len
     subst hov
     clear hxk hkeep hfk hoq hleft hlv
     by_cases hlt : k < l.length
     ·obtain rfl : Mk = M := HLF.out.1 hlt
      have HGS := Lib.hid (show ∃ g, sp = some ⟨g, 0, none⟩ ∧ g < w3.heap.size ∧ g ∉ F from by
       obtain ⟨g, cap, hv, hcap, _, e0⟩ := int_at HLK.out k hlt
       simp only [Value.slice.injEq] at hv
       obtain ⟨rfl, -, -⟩ := hv
       have h1 := HVB.out g rfl
       exact ⟨g, rfl, h1.2, fun hm => by have h2 := HXF.out g hm; have := h1.1; omega⟩)
      obtain ⟨g, hsp, hgw, hgF⟩ := HGS.out
      subst hsp
      have hgk : g ∉ Fk := fun hm => by
       rcases HFK.out g hm with h | h
       ·exact hgF h
       ·omega
      obtain ⟨g', cap', hv, hcap, _, e0⟩ := int_at HLK.out k hlt
      simp only [Value.slice.injEq, true_and, Option.some.injEq, Addr.mk.injEq, and_true] at hv
      obtain ⟨rfl, rfl⟩ := hv
      obtain ⟨hn9, y, hy⟩ := HL.out l[k] (List.getElem_mem hlt)
      have hyb := HSZ.out y (getF_mem hy)
      have HBY := Lib.hid (bytesOf_get hy)
      have HGT := Lib.hid (show getS (fileN nm.data.toList l[k]) Mk = (y.bytes, 0) by unfold getS; rw [HG.out, hy]; rfl)
      have HWN := Lib.hid (fun L2 (hw : wholeS (bytesOf (fileN nm.data.toList l[k]) Mk) = (L2, 0)) => left_next HLF.out hlt hw)
      have HWF := Lib.hid (fun (hne : k + 1 ≠ l.length) (L2 : List (List (List UInt8))) (e : Int) (he : e ≠ 0) (hw : wholeS (bytesOf (fileN nm.data.toList l[k]) Mk) = (L2, e)) => left_fail HLF.out hlt hne he hw)
      have HWL := Lib.hid (fun (hl : k + 1 = l.length) (L2 : List (List (List UInt8))) (e : Int) (M2 : RS) (hw : mendedS (fileN nm.data.toList l[k]) (bytesOf (fileN nm.data.toList l[k]) Mk) Mk = (L2, e, M2)) => left_last HLF.out hlt hl hw)
      rw [HBY.out] at HWN HWF HWL
      have hfl := file_len nm.data.toList (n := l[k]) (by omega)
      have hfz := str_len (fileN nm.data.toList l[k])
      obtain ⟨n, hn⟩ : ∃ n, n = l[k] := ⟨_, rfl⟩
      rw [← hn] at e0 hn9 HGT HWL hfl hfz
      have HLN0 := Lib.hid hn
      clear hn hy HBY
      have hyz := str_len y.bytes
      obtain ⟨L2, N2, e2, hR⟩ : ∃ L2 N2 e2, readL y.bytes = (L2, N2, e2) := ⟨_, _, _, rfl⟩
      have HRD := Lib.hid hR
      have hrs := read_size y.bytes.length y.bytes (Nat.le_refl _)
      rw [hR] at hrs
      simp only at hrs
      obtain ⟨hrs1, hrs2, -, -⟩ := hrs
      clear hR
      go_wp2_with (fail)
      refine (rj_fileC HXK.out hnm n (by omega)).mono ?_
      rintro e z1 ⟨rfl, hb1⟩
      have HC1 := Lib.hid hb1
      have HY1 := Lib.hid (HXK.out.bel hb1)
      have e1 := cell_later hb1 e0
      clear hb1 e0
      go_wp2_with (fail)
      refine (rget_ref HY1.out.ref HM.out (⟨(fileN nm.data.toList n).toArray⟩ : ByteArray)).mono ?_
      rintro e z2 ⟨rfl, hb2⟩
      rw [str_list, HGT.out]
      have HC2 := Lib.hid (HC1.out.trans hb2)
      clear hb2 e1
      go_wp2_with (fail)
      refine (rread_any (⟨y.bytes.toArray⟩ : ByteArray) z2 (by omega)).mono ?_
      rintro e z3 ⟨bv, rfl, hbo, hb3⟩
      rw [str_list, HRD.out] at hbo ⊢
      have HC3 := Lib.hid (HC2.out.trans hb3)
      have HKZ := Lib.hid (show w3.heap.size ≤ z2.heap.size from Nat.le_trans HK.out.size HC2.out.size)
      have HBQ := Lib.hid ((OwnQ.of hbo (F := Fk) (fun j hj => Nat.lt_of_lt_of_le (ref_lt HXK.out.ref j hj) HC2.out.size)).lower HKZ.out)
      have HOQ3 := Lib.hid (HOQ.out.bel HC3.out)
      have HXZ := Lib.hid (HXK.out.bel HC3.out)
      have HKW := Lib.hid (show Keep F w3 z3 from HK.out.then HC3.out)
      have HLZ := Lib.hid (HLK.out.bel HC3.out)
      clear hbo hb3
      go_wp2_with (at_builtin; refine stop_here ?_)
      refine go_on ?_
      refine ownq_append rfl _ _ rfl rfl rfl HOQ3.out HBQ.out (by omega) (ref_lt HXZ.out.ref) HKW.out.size ?_
      intro v3 z4 hq3 hk3
      obtain ⟨p3, c3, hv3⟩ := hq3.own.len
      rw [List.length_append] at hv3
      subst hv3
      have HQ4 := Lib.hid hq3
      have HX4 := Lib.hid (show RJS n₀ z4 b Mk Fk jb nm most from ⟨HXZ.out.ref.keep hk3 (fun j hj hm => by
       rw [Option.mem_toList] at hm
       exact (HOQ3.out.blk j hm).2.2 hj), HM.out, HXZ.out.j.keep (hk3.block jb HXZ.out.j.lt (fun hm => by
       rw [Option.mem_toList] at hm
       have := (HOQ3.out.blk _ hm).1
       have := HJL.out; omega)), HXZ.out.out⟩)
      have HK4 := Lib.hid (HKW.out.trans hk3 (fun j hj => by
       rw [Option.mem_toList] at hj
       exact Or.inr (HOQ3.out.blk j hj).1))
      have HL4 := Lib.hid (HLZ.out.keep hk3 (fun j hj hm => by
       simp only [Value.ownBlock, Option.some.injEq] at hj; subst hj
       rw [Option.mem_toList] at hm
       have := (HOQ3.out.blk _ hm).1
       omega))
      clear hq3 hk3
      by_cases he : e2 = 0
      ·subst he
       have HLN := Lib.hid (HWN.out L2 (by unfold wholeS; rw [HRD.out]; rfl))
       clear hpl hfz hyz hfl hcap
       go_wp2_with (fail)
       go_roundw
       case rel => exact ⟨k + 1, acc ++ L2, Mk, Fk, by go_num, by omega, HX4.out, HK4.out, HFK.out, HQ4.out, HLN.out, by rw [List.length_append]; omega, HL4.out⟩
       case measure => simp [intOf]; omega
      ·have hx3 : (e2 != 0) = true := by rw [bne_iff_ne]; exact he
       have hx2 : (e2 == 0) = false := by rw [beq_eq_false_iff_ne]; exact he
       by_cases hlast : k + 1 = l.length
       ·have hq : (l.length : Int) - 1 ≤ (k : Int) := by omega
        obtain ⟨rc, Mc, hc⟩ : ∃ rc Mc, cutS (fileN nm.data.toList n) (N2 : Nat) Mk = (rc, Mc) := ⟨_, _, rfl⟩
        have HMO := Lib.hid (mended_of HRD.out he hc)
        have HCT := Lib.hid hc
        have HMC := Lib.hid (show Mc.ok by have := cut_ok HM.out (fileN nm.data.toList n) (N2 : Nat); rwa [hc] at this)
        clear hc
        obtain ⟨g', cap', hv, hcap, _, e4⟩ := int_at HL4.out k hlt
        simp only [Value.slice.injEq, true_and, Option.some.injEq, Addr.mk.injEq, and_true] at hv
        obtain ⟨rfl, rfl⟩ := hv
        rw [← HLN0.out] at e4
        go_wp2_with (fail)
        refine (rj_fileC HX4.out hnm n (by omega)).mono ?_
        rintro e z5 ⟨rfl, hb5⟩
        have HX5 := Lib.hid (HX4.out.bel hb5)
        have HK5 := Lib.hid (HK4.out.then hb5)
        have HL5 := Lib.hid (HL4.out.bel hb5)
        have HQ5 := Lib.hid (HQ4.out.bel hb5)
        clear hb5 e4
        go_wp2_with (fail)
        refine (rcut_any n₀ z5 b Mk Fk (⟨(fileN nm.data.toList n).toArray⟩ : ByteArray) (N2 : Int) (show in64 (N2 : Int) from ⟨by omega, by omega⟩) HX5.out.ref HM.out).mono ?_
        rintro e z6 ⟨rfl, hT⟩
        rw [str_list, HCT.out] at hT ⊢
        obtain ⟨F6, hX6, hK6, hF6⟩ := HX5.out.step hT HMC.out
        have HX6 := Lib.hid hX6
        have HQ6 := Lib.hid (HQ5.out.step hK6 hF6)
        have HL6 := Lib.hid (HL5.out.keep hK6 (fun j hj => by simp only [Value.ownBlock, Option.some.injEq] at hj; subst hj; exact hgk))
        have HK6 := Lib.hid (HK5.out.trans hK6 (fun j hj => HFK.out j hj))
        have HF6 := Lib.hid (show ∀ j ∈ F6, j ∈ F ∨ w3.heap.size ≤ j from fun j hj => by
         rcases hF6 j hj with h | h
         ·exact HFK.out j h
         ·exact Or.inr (Nat.le_trans HK5.out.size h))
        have hgk6 : g ∉ F6 := fun hm => by
         rcases HF6.out g hm with h | h
         ·exact hgF h
         ·omega
        clear hT hX6 hK6 hF6
        by_cases hrc : rc = 0
        ·subst hrc
         rw [if_neg (by simp)] at HMO
         obtain ⟨rf, Mf, hf⟩ : ∃ rf Mf, flushS (fileN nm.data.toList n) Mc = (rf, Mf) := ⟨_, _, rfl⟩
         have HFT := Lib.hid hf
         have HMF := Lib.hid (show Mf.ok by have := flush_ok HMC.out (fileN nm.data.toList n); rwa [hf] at this)
         rw [hf] at HMO
         clear hf
         obtain ⟨g', cap', hv, hcap, _, e6⟩ := int_at HL6.out k hlt
         simp only [Value.slice.injEq, true_and, Option.some.injEq, Addr.mk.injEq, and_true] at hv
         obtain ⟨rfl, rfl⟩ := hv
         rw [← HLN0.out] at e6
         go_wp2_with (fail)
         refine (rj_fileC HX6.out hnm n (by omega)).mono ?_
         rintro e z7 ⟨rfl, hb7⟩
         have HX7 := Lib.hid (HX6.out.bel hb7)
         have HK7 := Lib.hid (HK6.out.then hb7)
         have HL7 := Lib.hid (HL6.out.bel hb7)
         have HQ7 := Lib.hid (HQ6.out.bel hb7)
         clear hb7 e6
         go_wp2_with (fail)
         refine (rflush_any n₀ z7 b Mc F6 (⟨(fileN nm.data.toList n).toArray⟩ : ByteArray) HX7.out.ref HMC.out).mono ?_
         rintro e z8 ⟨rfl, hT⟩
         rw [str_list, HFT.out] at hT ⊢
         obtain ⟨F8, hX8, hK8, hF8⟩ := HX7.out.step hT HMF.out
         have HX8 := Lib.hid hX8
         have HQ8 := Lib.hid (HQ7.out.step hK8 hF8)
         have HL8 := Lib.hid (HL7.out.keep hK8 (fun j hj => by simp only [Value.ownBlock, Option.some.injEq] at hj; subst hj; exact hgk6))
         have HK8 := Lib.hid (HK7.out.trans hK8 (fun j hj => HF6.out j hj))
         have HF8 := Lib.hid (show ∀ j ∈ F8, j ∈ F ∨ w3.heap.size ≤ j from fun j hj => by
          rcases hF8 j hj with h | h
          ·exact HF6.out j h
          ·exact Or.inr (Nat.le_trans HK7.out.size h))
         clear hT hX8 hK8 hF8
         by_cases hrf : rf = 0
         ·subst hrf
          simp only [if_true] at HMO
          have HLL := Lib.hid ((HWL.out hlast L2 0 Mf HMO.out).1 rfl)
          have HLS := Lib.hid hlast
          clear hpl hfz hyz hfl hcap hlast
          go_wp2_with (fail)
          go_roundw
          case rel => exact ⟨k + 1, acc ++ L2, Mf, F8, by go_num, by omega, HX8.out, HK8.out, HF8.out, HQ8.out, HLL.out, by rw [List.length_append]; omega, HL8.out⟩
          case measure => simp [intOf]; omega
         ·rw [if_neg hrf] at HMO
          have HE := Lib.hid ((HWL.out hlast [] rf Mf HMO.out).2 hrf)
          have hx5 : (rf != 0) = true := by rw [bne_iff_ne]; exact hrf
          have hx6 : (rf == 0) = false := by rw [beq_eq_false_iff_ne]; exact hrf
          go_wp2_with (fail)
          go_ret3
          rw [HO.out, HE.out]
          exact ⟨_, _, F8, rfl, HX8.out.ref, (Keep.of_bel HB3.out F).trans HK8.out (fun x hx => Or.inl hx), fun j hj => (HF8.out j hj).imp id (fun h => Nat.le_trans HB3.out.size h), OwnQ.nil _ _ _, (fun hc => absurd hc hrf), (fun _ => rfl)⟩
        ·rw [if_pos hrc] at HMO
         have HE := Lib.hid ((HWL.out hlast [] rc Mc HMO.out).2 hrc)
         have hx5 : (rc != 0) = true := by rw [bne_iff_ne]; exact hrc
         have hx6 : (rc == 0) = false := by rw [beq_eq_false_iff_ne]; exact hrc
         go_wp2_with (fail)
         go_ret3
         rw [HO.out, HE.out]
         exact ⟨_, _, F6, rfl, HX6.out.ref, (Keep.of_bel HB3.out F).trans HK6.out (fun x hx => Or.inl hx), fun j hj => (HF6.out j hj).imp id (fun h => Nat.le_trans HB3.out.size h), OwnQ.nil _ _ _, (fun hc => absurd hc hrc), (fun _ => rfl)⟩
       ·have HE := Lib.hid (HWF.out hlast [] e2 he (by unfold wholeS; rw [HRD.out]; simp only; rw [if_neg he]))
        have hq : (k : Int) < (l.length : Int) - 1 := by omega
        go_wp2_with (fail)
        go_ret3
        rw [HO.out, HE.out]
        exact ⟨_, _, Fk, rfl, HX4.out.ref, (Keep.of_bel HB3.out F).trans HK4.out (fun x hx => Or.inl hx), fun j hj => (HFK.out j hj).imp id (fun h => Nat.le_trans HB3.out.size h), OwnQ.nil _ _ _, (fun hc => absurd hc he), (fun _ => rfl)⟩
     ·obtain rfl : k = l.length := by omega
      have HE := Lib.hid (left_end HLF.out)
      go_wp2_with (fail)
      go_ret3
      rw [HO.out, HE.out]
      exact ⟨_, _, Fk, rfl, HXK.out.ref, (Keep.of_bel HB3.out F).trans HK.out (fun x hx => Or.inl hx), fun j hj => (HFK.out j hj).imp id (fun h => Nat.le_trans HB3.out.size h), HOQ.out.lower HB3.out.size,
       (fun _ => ⟨jb, rfl, HXK.out.j, ⟨HJW.out, HXK.out.j.lt, HXK.out.out⟩⟩), (fun hc => absurd rfl hc)⟩

theorem last_there {p : List UInt8} {M : RS} (h : M.ok) {n : Nat} (hn : lastN p M.L = n) (h0 : n ≠ 0) : (getF (fileN p n) M.L).isSome = true := by
 have hmem : n ∈ segsL p M.L := by rw [← hn]; exact last_mem (fun e => h0 (by rw [← hn]; exact last_zero.2 e))
 exact ((mem_segs_get h.srt).1 hmem).2.2
def rroom (p : List UInt8) (most : Int) (M : RS) : Int × RS := if max most 1 ≤ ((bytesOf (fileN p (lastN p M.L)) M).length : Int) then jturn p M else (0, M)
theorem rwrite_eq (p : List UInt8) (most : Int) (l : List (List UInt8)) (M : RS) (s : List UInt8) (h : batchS l = (s, 0)) : jwrite p most l M = if (rroom p most M).1 ≠ 0 then rroom p most M else jput (fileN p (lastN p (rroom p most M).2.L)) (frameL s) (rroom p most M).2 := by
 unfold jwrite
 rw [h]
 simp only [ne_eq, not_true_eq_false, if_false]
 by_cases hg : M.gone = true
 ·rw [if_pos hg]
  unfold rroom
  split
  ·rw [if_pos (by unfold jturn; rw [gone_add hg]; simp)]
   unfold jturn; rw [gone_add hg]
  ·rw [if_neg (by simp)]
   unfold jput
   rw [gone_add hg]; simp
 ·rw [if_neg hg]
  have hr : jroom p most M = rroom p most M := by
   unfold jroom rroom
   have : (bytesOf (fileN p (lastN p M.L)) M ≠ [] ∧ most ≤ ((bytesOf (fileN p (lastN p M.L)) M).length : Int)) ↔ max most 1 ≤ ((bytesOf (fileN p (lastN p M.L)) M).length : Int) := by
    rw [← List.length_pos_iff]; omega
   by_cases hc : max most 1 ≤ ((bytesOf (fileN p (lastN p M.L)) M).length : Int)
   ·rw [if_pos hc, if_pos (this.2 hc)]
   ·rw [if_neg hc, if_neg (fun h => hc (this.1 h))]
  rw [hr]
set_option maxHeartbeats 4000000 in
set_option maxRecDepth 20000 in
theorem rwrite_any (n₀ : Nat) (w : World) (b : Nat) (M : RS) (F : List Nat) (jb : Nat) (p : ByteArray) (most : Int) (lp : Option Addr) (lc : Nat) (L : List (List UInt8)) (h : RJS n₀ w b M F jb p most) (hp : p.size ≤ 100) (h0 : lastN p.data.toList M.L ≠ 0) (h9 : lastN p.data.toList M.L < 9999999) (hmost : in64 most)
  (hl : StrsAt w lp L) (hL : L.length ≤ maxLen) (ht : ∀ t ∈ L, t.length ≤ 1000000) :
  Calls Tryz.prog 77 #[.pointer (some ⟨jb, 0, none⟩), .slice lp L.length lc] w fun e y => e = .returned (.int .i64 (jwrite p.data.toList most L M).1) ∧ RefTo n₀ w y b (jwrite p.data.toList most L M).2 F := by
 have H := Lib.hid h
 have HMS := Lib.hid hmost
 have HC := Lib.hid (rbatch_any w lp lc L hl hL ht)
 have hbl := batch_len L
 have hpl : p.data.toList.length = p.size := rfl
 obtain ⟨s, e0, hB⟩ : ∃ s e0, batchS L = (s, e0) := ⟨_, _, rfl⟩
 have HBB := Lib.hid hB
 have HBV := Lib.hid (show batchV L = .tuple #[.string ⟨s.toArray⟩, .int .i64 e0] by unfold batchV; rw [hB])
 rw [hB] at hbl
 simp only at hbl
 have hsz := str_len s
 have hfr := frame_len s
 have hs9 := szN_le s.length
 have hfz2 := str_len (frameL s)
 obtain ⟨n, hn⟩ : ∃ n, lastN p.data.toList M.L = n := ⟨_, rfl⟩
 have HN := Lib.hid hn
 rw [hn] at h0 h9
 obtain ⟨y, hy⟩ := Option.isSome_iff_exists.1 (last_there h.ok hn h0)
 have HBY := Lib.hid (show bytesOf (fileN p.data.toList n) M = y.bytes from bytesOf_get hy)
 have HIS := Lib.hid (show isN (fileN p.data.toList n) M.L = true by rw [is_getF _ h.ok.srt, hy]; rfl)
 obtain ⟨fn, hfn⟩ : ∃ fn, findN (fileN p.data.toList n) M.L = fn := ⟨_, rfl⟩
 have HFN := Lib.hid hfn
 have hfi : M.L[fn]? = some y := by rw [← hfn, find_getF _ h.ok.srt HIS.out, hy]
 have HFI := Lib.hid hfi
 have hflt : fn < M.L.length := (List.getElem?_eq_some_iff.1 hfi).1
 have hyb := (each_ok h.ok y (getF_mem hy)).1
 have hybz := str_len y.bytes
 have hfl := file_len p.data.toList (n := n) (by omega)
 have hfz := str_len (fileN p.data.toList n)
 have hfl' := file_len p.data.toList (n := n + 1) (by omega)
 have hfz' := str_len (fileN p.data.toList (n + 1))
 have h60 := h.ok.len
 clear h hB hmost hl hL ht hn hy hfn hfi
 go_enter Tryz.func77, Tryz.ntmps77
 go_wp2_with (fail)
 refine HC.out.mono ?_
 rintro e w1 ⟨rfl, hb1⟩
 rw [HBV.out]
 have HB1 := Lib.hid hb1
 clear hb1
 by_cases he0 : e0 = 0
 ·subst he0
  have HW := Lib.hid (rwrite_eq p.data.toList most L M s HBB.out)
  go_wp2_with (fail)
  refine (rframe_ok _ w1 (by omega)).mono ?_
  rintro e w2 ⟨rfl, hb2⟩
  have HB2 := Lib.hid (HB1.out.trans hb2)
  clear hb2
  unfold frameV
  rw [str_list]
  have HX2 := Lib.hid (H.out.bel HB2.out)
  go_wp2_with (fail)
  refine wp_region_held_drew (S := fun z => z.cell? ⟨jb, 0, none⟩ = some (.pointer (some ⟨b, 0, none⟩))) (by kernel_rfl) HX2.out.j.files (fun hHeld => ?_)
  refine tq ⟨some 25, .move (.tmp 0), 60, "ref.go:189", #[], none⟩ ?_ 0 rfl ?_ ?_;rotate_left;·(intros;go_simp<;>with_reducible rfl)
  try simp only[Act.put,sqA,sqB,sqC]
  refine tq ⟨some 26, .nilCheck (.tmp 25), 0, "ref.go:189", #[⟨0, .data⟩], none⟩ ?_ 1 rfl ?_ ?_;rotate_left;·(intros;go_simp<;>with_reducible rfl)
  try simp only[Act.put,sqA,sqB,sqC]
  refine tq ⟨some 27, .fieldAddr 169 (.tmp 26) 0, 0, "ref.go:189", #[⟨1, .data⟩], none⟩ ?_ 2 rfl ?_ ?_;rotate_left;·(intros;go_simp<;>with_reducible rfl)
  try simp only[Act.put,sqA,sqB,sqC]
  refine tq ⟨some 28, .load 63 (.tmp 27), 63, "ref.go:189", #[⟨2, .data⟩], none⟩ ?_ 3 rfl ?_ ?_;rotate_left;·(intros;go_simp<;>with_reducible rfl)
  try simp only[Act.put,sqA,sqB,sqC]
  refine tq ⟨some 29, .move (.tmp 0), 60, "ref.go:189", #[], none⟩ ?_ 4 rfl ?_ ?_;rotate_left;·(intros;go_simp<;>with_reducible rfl)
  try simp only[Act.put,sqA,sqB,sqC]
  refine tq ⟨some 30, .move (.tmp 0), 60, "ref.go:189", #[], none⟩ ?_ 5 rfl ?_ ?_;rotate_left;·(intros;go_simp<;>with_reducible rfl)
  try simp only[Act.put,sqA,sqB,sqC]
  refine wpAnyH_ready (rs := [6]) (by kernel_rfl) (by simp) ?_
  refine ar1 ⟨some 31, .call ⟨.value (.func 79), #[.tmp 30], #[60]⟩, 3, "ref.go:189", #[⟨5, .data⟩], none⟩ rfl (fun K hK => ?_)
  go_simp
  refine (rnum_any n₀ _ jb b p most _ _ (HX2.out.bel (Bel.refl _).drew).ref HX2.out.ok (HX2.out.bel (Bel.refl _).drew).j hp).mono ?_
  rintro e yf ⟨rfl, hb1⟩
  rw [HN.out]
  have HAf := Lib.hid (((Bel.refl _).drew).trans hb1)
  clear hb1
  have HYf := Lib.hid (HX2.out.bel HAf.out)
  dsimp only
  refine hK.out _ _ HYf.out.j.files (fun hHeld => ?_);clear hK K;try simp only[Act.put,sqA,sqB,sqC]
  refine wpAnyH_ready (rs := [7]) (by kernel_rfl) (by simp) ?_
  refine ar1 ⟨some 32, .call ⟨.value (.func 100), #[.tmp 29, .tmp 31], #[60, 3]⟩, 9, "ref.go:189", #[⟨4, .data⟩, ⟨6, .data⟩, ⟨6, .chain⟩], none⟩ rfl (fun K hK => ?_)
  go_simp
  refine (rj_fileC HYf.out hp n (by omega)).mono ?_
  rintro e zf ⟨rfl, hb2⟩
  have HBf := Lib.hid (HAf.out.trans hb2)
  clear hb2
  have HXf := Lib.hid (HX2.out.bel HBf.out)
  dsimp only
  refine hK.out _ _ HXf.out.j.files (fun hHeld => ?_);clear hK K;try simp only[Act.put,sqA,sqB,sqC]
  refine wpAnyH_ready (rs := [8]) (by kernel_rfl) (by simp) ?_
  refine ar1 ⟨some 33, .call ⟨.value (.func 64), #[.tmp 28, .tmp 32], #[63, 9]⟩, 133, "ref.go:189", #[⟨3, .data⟩, ⟨7, .data⟩, ⟨7, .chain⟩], none⟩ rfl (fun K hK => ?_)
  go_simp
  obtain ⟨v, hra, hbF, hvF, hFF⟩ := HXf.out.ref
  refine (find_any n₀ _ b M v _ hra (by omega)).mono ?_
  rintro e w3 ⟨rfl, hd⟩
  have HB3 := Lib.hid ((HB2.out.trans HBf.out).trans hd.bel)
  have HX3 := Lib.hid (H.out.bel HB3.out)
  clear hd hra hbF hvF hFF v
  rw [str_list, HIS.out, HFN.out]
  dsimp only
  refine hK.out _ _ HX3.out.j.files (fun hHeld => ?_);clear hK K;try simp only[Act.put,sqA,sqB,sqC]
  refine tq ⟨some 24, .move (.tmp 33), 133, "ref.go:189", #[⟨8, .data⟩], none⟩ ?_ 9 rfl ?_ ?_;rotate_left;·(intros;go_simp<;>with_reducible rfl)
  try simp only[Act.put,sqA,sqB,sqC]
  refine tq ⟨some 34, .extract (.tmp 24) 0, 3, "ref.go:189", #[⟨9, .data⟩], none⟩ ?_ 10 rfl ?_ ?_;rotate_left;·(intros;go_simp<;>with_reducible rfl)
  try simp only[Act.put,sqA,sqB,sqC]
  refine tq ⟨some 35, .extract (.tmp 24) 1, 4, "ref.go:189", #[⟨9, .data⟩, { on := 12, ground := Ground.gcOnly Departure.lateStores }], none⟩ ?_ 11 rfl ?_ ?_;rotate_left;·(intros;go_simp<;>with_reducible rfl)
  try simp only[Act.put,sqA,sqB,sqC]
  refine tq ⟨some 9, .assign (.tmp 34), 3, "ref.go:189", #[⟨10, .data⟩, ⟨8, .chain⟩, ⟨0, .phase⟩, ⟨1, .phase⟩, ⟨2, .phase⟩, ⟨3, .phase⟩, ⟨4, .phase⟩, ⟨5, .phase⟩, ⟨6, .phase⟩, ⟨7, .phase⟩, ⟨8, .phase⟩, ⟨9, .phase⟩, ⟨10, .phase⟩, { on := 11, ground := Ground.textOnly Departure.lateStores }], none⟩ ?_ 12 rfl ?_ ?_;rotate_left;·(intros;go_simp<;>with_reducible rfl)
  try simp only[Act.put,sqA,sqB,sqC]
  refine tq ⟨some 10, .assign (.tmp 35), 4, "ref.go:189", #[⟨11, .data⟩, ⟨12, .chain⟩, ⟨0, .phase⟩, ⟨1, .phase⟩, ⟨2, .phase⟩, ⟨3, .phase⟩, ⟨4, .phase⟩, ⟨5, .phase⟩, ⟨6, .phase⟩, ⟨7, .phase⟩, ⟨8, .phase⟩, ⟨9, .phase⟩, ⟨10, .phase⟩, ⟨11, .phase⟩, ⟨12, .phase⟩], none⟩ ?_ 13 rfl ?_ ?_;rotate_left;·(intros;go_simp<;>with_reducible rfl)
  try simp only[Act.put,sqA,sqB,sqC]
  refine wpAnyH_done (by kernel_rfl) ?_ _
  obtain ⟨v, hra, hbF, hvF, hFF⟩ := HX3.out.ref
  obtain ⟨a0, -, -, -⟩ := hra.cells
  have hne2 : M.L ≠ [] := by intro e; rw [e] at hflt; simp at hflt
  obtain ⟨g2, rcap, rfl, _, hgl2, _, hcs2⟩ := ownG_cells fileOk hra.own hne2
  have f1 := hcs2 fn y HFI.out 1 _ rfl
  simp only [fileEl] at f1
  have cf := HX3.out.j.files
  have cm := HX3.out.j.most
  clear hra hbF hvF hFF hgl2 hcs2 hne2
  go_wp2_with (fail)
  refine wp_region_held_drew (S := fun z => z.cell? ⟨jb, 0, none⟩ = some (.pointer (some ⟨b, 0, none⟩)) ∧ z.cell? ⟨jb, 2, none⟩ = some (.int .i64 most) ∧ z.cell? ⟨b, 0, none⟩ = some (.slice (some ⟨g2, 0, none⟩) M.L.length rcap) ∧ z.cell? ⟨g2, fn * 3 + 1, none⟩ = some (.string ⟨y.bytes.toArray⟩)) (by kernel_rfl) ⟨cf, cm, a0, f1⟩ (fun hHeld => ?_)
  refine tq ⟨some 36, .move (.tmp 0), 60, "ref.go:190", #[], none⟩ ?_ 0 rfl ?_ ?_;rotate_left;·(intros;go_simp<;>with_reducible rfl)
  try simp only[Act.put,sqA,sqB,sqC]
  refine tq ⟨some 37, .nilCheck (.tmp 36), 0, "ref.go:190", #[⟨0, .data⟩], none⟩ ?_ 1 rfl ?_ ?_;rotate_left;·(intros;go_simp<;>with_reducible rfl)
  try simp only[Act.put,sqA,sqB,sqC]
  refine tq ⟨some 38, .fieldAddr 169 (.tmp 37) 0, 0, "ref.go:190", #[⟨1, .data⟩], none⟩ ?_ 2 rfl ?_ ?_;rotate_left;·(intros;go_simp<;>with_reducible rfl)
  try simp only[Act.put,sqA,sqB,sqC]
  refine tq ⟨some 39, .load 63 (.tmp 38), 63, "ref.go:190", #[⟨2, .data⟩], none⟩ ?_ 3 rfl ?_ ?_;rotate_left;·(intros;go_simp<;>with_reducible rfl)
  try simp only[Act.put,sqA,sqB,sqC]
  refine tq ⟨some 40, .nilCheck (.tmp 39), 0, "ref.go:190", #[⟨3, .data⟩], none⟩ ?_ 4 rfl ?_ ?_;rotate_left;·(intros;go_simp<;>with_reducible rfl)
  try simp only[Act.put,sqA,sqB,sqC]
  refine tq ⟨some 41, .fieldAddr 70 (.tmp 40) 0, 0, "ref.go:190", #[⟨4, .data⟩], none⟩ ?_ 5 rfl ?_ ?_;rotate_left;·(intros;go_simp<;>with_reducible rfl)
  try simp only[Act.put,sqA,sqB,sqC]
  refine tq ⟨some 42, .load 68 (.tmp 41), 68, "ref.go:190", #[⟨5, .data⟩], none⟩ ?_ 6 rfl ?_ ?_;rotate_left;·(intros;go_simp<;>with_reducible rfl)
  try simp only[Act.put,sqA,sqB,sqC]
  refine tq ⟨some 43, .move (.tmp 9), 3, "ref.go:190", #[], none⟩ ?_ 7 rfl ?_ ?_;rotate_left;·(intros;go_simp<;>with_reducible rfl)
  try simp only[Act.put,sqA,sqB,sqC]
  refine tq ⟨some 44, .indexAddr 68 (.tmp 42) (.tmp 43), 0, "ref.go:190", #[⟨6, .data⟩, ⟨7, .data⟩], none⟩ ?_ 8 rfl ?_ ?_;rotate_left;·(intros;go_simp<;>with_reducible rfl)
  try simp only[Act.put,sqA,sqB,sqC]
  refine tq ⟨some 45, .fieldAddr 74 (.tmp 44) 1, 0, "ref.go:190", #[⟨8, .data⟩], none⟩ ?_ 9 rfl ?_ ?_;rotate_left;·(intros;go_simp<;>with_reducible rfl)
  try simp only[Act.put,sqA,sqB,sqC]
  refine tq ⟨some 46, .load 9 (.tmp 45), 9, "ref.go:190", #[⟨9, .data⟩], none⟩ ?_ 10 rfl ?_ ?_;rotate_left;·(intros;go_simp<;>with_reducible rfl)
  try simp only[Act.put,sqA,sqB,sqC]
  refine tq ⟨some 47, .call ⟨.builtin .len, #[.tmp 46], #[9]⟩, 3, "ref.go:190", #[⟨10, .data⟩], none⟩ ?_ 11 rfl ?_ ?_;rotate_left;·(intros;go_simp<;>with_reducible rfl)
  try simp only[Act.put,sqA,sqB,sqC]
  refine tq ⟨some 48, .move (.tmp 0), 60, "ref.go:190", #[], none⟩ ?_ 12 rfl ?_ ?_;rotate_left;·(intros;go_simp<;>with_reducible rfl)
  try simp only[Act.put,sqA,sqB,sqC]
  refine tq ⟨some 49, .nilCheck (.tmp 48), 0, "ref.go:190", #[⟨12, .data⟩], none⟩ ?_ 13 rfl ?_ ?_;rotate_left;·(intros;go_simp<;>with_reducible rfl)
  try simp only[Act.put,sqA,sqB,sqC]
  refine tq ⟨some 50, .fieldAddr 169 (.tmp 49) 2, 0, "ref.go:190", #[⟨13, .data⟩], none⟩ ?_ 14 rfl ?_ ?_;rotate_left;·(intros;go_simp<;>with_reducible rfl)
  try simp only[Act.put,sqA,sqB,sqC]
  refine tq ⟨some 51, .load 3 (.tmp 50), 3, "ref.go:190", #[⟨14, .data⟩], none⟩ ?_ 15 rfl ?_ ?_;rotate_left;·(intros;go_simp<;>with_reducible rfl)
  try simp only[Act.put,sqA,sqB,sqC]
  refine tq ⟨some 52, .call ⟨.builtin .max, #[.tmp 51, .const (.int .i64 1)], #[3, 3]⟩, 3, "ref.go:190", #[⟨15, .data⟩], none⟩ ?_ 16 rfl ?_ ?_;rotate_left;·(intros;go_simp<;>with_reducible rfl)
  try simp only[Act.put,sqA,sqB,sqC]
  refine tq ⟨some 53, .binOp .geq 3 (.tmp 47) (.tmp 52) 3, 4, "ref.go:190", #[⟨11, .data⟩, ⟨16, .data⟩], none⟩ ?_ 17 rfl ?_ ?_;rotate_left;·(intros;go_simp<;>with_reducible rfl)
  try simp only[Act.put,sqA,sqB,sqC]
  refine wpAnyH_done (by kernel_rfl) ?_ _
  have HXD := Lib.hid (HX3.out.bel (Bel.refl w3).drew)
  have HBD := Lib.hid (HB3.out.trans (Bel.refl w3).drew)
  clear cf cm a0 f1
  by_cases hfull : max most 1 ≤ (y.bytes.length : Int)
  ·have HRR := Lib.hid (show rroom p.data.toList most M = jturn p.data.toList M by unfold rroom; rw [HN.out, HBY.out, if_pos hfull])
   obtain ⟨rt, M1, ht⟩ : ∃ rt M1, jturn p.data.toList M = (rt, M1) := ⟨_, _, rfl⟩
   have HT := Lib.hid ht
   have HM1 := Lib.hid (show M1.ok by have := jturn_ok H.out.ok p.data.toList; rwa [ht] at this)
   rw [HRR.out, ht] at HW
   clear ht
   go_wp2_with (fail)
   refine (rjturn_any n₀ _ b M F jb p most HXD.out hp (by rw [HN.out]; exact h9)).mono ?_
   rintro e w4 ⟨rfl, hT⟩
   rw [HT.out] at hT ⊢
   obtain ⟨F4, hX4, hK4, hF4⟩ := HXD.out.step hT HM1.out
   have HX4 := Lib.hid hX4
   have HK4 := Lib.hid (show Keep F w w4 from (Keep.of_bel HBD.out F).trans hK4 (fun x hx => Or.inl hx))
   have HF4 := Lib.hid (show ∀ k ∈ F4, k ∈ F ∨ w.heap.size ≤ k from fun k hk => (hF4 k hk).imp id (fun h => Nat.le_trans HBD.out.size h))
   clear hT hX4 hK4 hF4 hfull
   by_cases hrt : rt = 0
   ·subst hrt
    obtain ⟨n1, hn1⟩ : ∃ n1, n1 = n + 1 := ⟨_, rfl⟩
    have HN1 := Lib.hid (show lastN p.data.toList M1.L = n1 by
     have := jturn_last H.out.ok (p := p.data.toList) (by rw [HN.out]; exact h9) (by rw [HT.out])
     rw [HT.out, HN.out] at this
     rw [hn1]; exact this)
    have hfl1 := file_len p.data.toList (n := n1) (by omega)
    have hfz1 := str_len (fileN p.data.toList n1)
    rw [if_neg (by simp)] at HW
    simp only [HN1.out] at HW
    have hn10 : n1 ≠ 0 := by omega
    have hn19 : n1 ≤ 10000000 := by omega
    clear hn1 hfl' hfz' hfl hfz
    obtain ⟨ra, Ma, hA⟩ : ∃ ra Ma, addS (fileN p.data.toList n1) (frameL s) M1 = (ra, Ma) := ⟨_, _, rfl⟩
    have HAD := Lib.hid hA
    have HMa := Lib.hid (show Ma.ok by have := add_ok HX4.out.ok (fileN p.data.toList n1) (frameL s); rwa [hA] at this)
    have HLa := Lib.hid (show lastN p.data.toList Ma.L = n1 by
     have h1 := add_names HX4.out.ok (nm := fileN p.data.toList n1) (last_there HX4.out.ok HN1.out hn10) (frameL s)
     rw [hA] at h1
     rw [last_names h1]; exact HN1.out)
    rw [show jput (fileN p.data.toList n1) (frameL s) M1 = if ra ≠ 0 then (ra, Ma) else flushS (fileN p.data.toList n1) Ma by unfold jput; rw [hA]] at HW
    clear hA
    go_wp2_with (fail)
    refine wp_region_held_drew (S := fun z => z.cell? ⟨jb, 0, none⟩ = some (.pointer (some ⟨b, 0, none⟩))) (by kernel_rfl) HX4.out.j.files (fun hHeld => ?_)
    refine tq ⟨some 58, .move (.tmp 0), 60, "ref.go:194", #[], none⟩ ?_ 0 rfl ?_ ?_;rotate_left;·(intros;go_simp<;>with_reducible rfl)
    try simp only[Act.put,sqA,sqB,sqC]
    refine tq ⟨some 59, .nilCheck (.tmp 58), 0, "ref.go:194", #[⟨0, .data⟩], none⟩ ?_ 1 rfl ?_ ?_;rotate_left;·(intros;go_simp<;>with_reducible rfl)
    try simp only[Act.put,sqA,sqB,sqC]
    refine tq ⟨some 60, .fieldAddr 169 (.tmp 59) 0, 0, "ref.go:194", #[⟨1, .data⟩], none⟩ ?_ 2 rfl ?_ ?_;rotate_left;·(intros;go_simp<;>with_reducible rfl)
    try simp only[Act.put,sqA,sqB,sqC]
    refine tq ⟨some 61, .load 63 (.tmp 60), 63, "ref.go:194", #[⟨2, .data⟩], none⟩ ?_ 3 rfl ?_ ?_;rotate_left;·(intros;go_simp<;>with_reducible rfl)
    try simp only[Act.put,sqA,sqB,sqC]
    refine tq ⟨some 62, .move (.tmp 0), 60, "ref.go:194", #[], none⟩ ?_ 4 rfl ?_ ?_;rotate_left;·(intros;go_simp<;>with_reducible rfl)
    try simp only[Act.put,sqA,sqB,sqC]
    refine tq ⟨some 63, .move (.tmp 0), 60, "ref.go:194", #[], none⟩ ?_ 5 rfl ?_ ?_;rotate_left;·(intros;go_simp<;>with_reducible rfl)
    try simp only[Act.put,sqA,sqB,sqC]
    refine tq ⟨some 66, .move (.tmp 7), 9, "ref.go:194", #[], none⟩ ?_ 8 rfl ?_ ?_;rotate_left;·(intros;go_simp<;>with_reducible rfl)
    try simp only[Act.put,sqA,sqB,sqC]
    refine wpAnyH_ready (rs := [6]) (by kernel_rfl) (by simp) ?_
    refine ar1 ⟨some 64, .call ⟨.value (.func 79), #[.tmp 63], #[60]⟩, 3, "ref.go:194", #[⟨5, .data⟩], none⟩ rfl (fun K hK => ?_)
    go_simp
    refine (rnum_any n₀ _ jb b p most _ _ (HX4.out.bel (Bel.refl _).drew).ref HX4.out.ok (HX4.out.bel (Bel.refl _).drew).j hp).mono ?_
    rintro e yga ⟨rfl, hb1⟩
    rw [HN1.out]
    have HAga := Lib.hid (((Bel.refl _).drew).trans hb1)
    clear hb1
    have HYga := Lib.hid (HX4.out.bel HAga.out)
    dsimp only
    refine hK.out _ _ HYga.out.j.files (fun hHeld => ?_);clear hK K;try simp only[Act.put,sqA,sqB,sqC]
    refine wpAnyH_ready (rs := [7]) (by kernel_rfl) (by simp) ?_
    refine ar1 ⟨some 65, .call ⟨.value (.func 100), #[.tmp 62, .tmp 64], #[60, 3]⟩, 9, "ref.go:194", #[⟨4, .data⟩, ⟨6, .data⟩, ⟨6, .chain⟩], none⟩ rfl (fun K hK => ?_)
    go_simp
    refine (rj_fileC HYga.out hp n1 (by omega)).mono ?_
    rintro e zga ⟨rfl, hb2⟩
    have HBga := Lib.hid (HAga.out.trans hb2)
    clear hb2
    have HXga := Lib.hid (HX4.out.bel HBga.out)
    dsimp only
    refine hK.out _ _ HXga.out.j.files (fun hHeld => ?_);clear hK K;try simp only[Act.put,sqA,sqB,sqC]
    refine wpAnyH_ready (rs := [9]) (by kernel_rfl) (by simp) ?_
    refine ar1 ⟨some 67, .call ⟨.value (.func 36), #[.tmp 61, .tmp 65, .tmp 66], #[63, 9, 9]⟩, 31, "ref.go:194", #[⟨3, .data⟩, ⟨7, .data⟩, ⟨8, .data⟩, ⟨7, .chain⟩], none⟩ rfl (fun K hK => ?_)
    go_simp
    refine (radd_any n₀ _ b _ _ (⟨(fileN p.data.toList n1).toArray⟩ : ByteArray) (⟨(frameL s).toArray⟩ : ByteArray) (by omega) (by omega) HXga.out.ref HXga.out.ok).mono ?_
    rintro e w8 ⟨rfl, hT⟩
    rw [str_list, str_list, HAD.out] at hT ⊢
    obtain ⟨F8, hX8, hK8, hF8⟩ := HXga.out.step hT HMa.out
    have HX8 := Lib.hid hX8
    have HK8 := Lib.hid ((HK4.out.then HBga.out).trans hK8 (fun x hx => HF4.out x hx))
    have HF8 := Lib.hid (show ∀ k ∈ F8, k ∈ F ∨ w.heap.size ≤ k from fun k hk => by
     rcases hF8 k hk with h | h
     ·exact HF4.out k h
     ·exact Or.inr (Nat.le_trans (HK4.out.then HBga.out).size h))
    have cN := HX8.out.j.files
    clear hT hX8 hK8 hF8
    dsimp only
    refine hK.out _ _ cN (fun hHeld => ?_);clear hK K;try simp only[Act.put,sqA,sqB,sqC]
    refine tq ⟨some 6, .assign (.tmp 67), 31, "ref.go:194", #[⟨9, .data⟩, ⟨9, .chain⟩, ⟨0, .phase⟩, ⟨1, .phase⟩, ⟨2, .phase⟩, ⟨3, .phase⟩, ⟨4, .phase⟩, ⟨5, .phase⟩, ⟨6, .phase⟩, ⟨7, .phase⟩, ⟨8, .phase⟩, ⟨9, .phase⟩], none⟩ ?_ 10 rfl ?_ ?_;rotate_left;·(intros;go_simp<;>with_reducible rfl)
    try simp only[Act.put,sqA,sqB,sqC]
    refine wpAnyH_done (by kernel_rfl) ?_ _
    clear cN
    by_cases hra : ra = 0
    ·subst hra
     rw [if_neg (by simp)] at HW
     go_wp2_with (fail)
     refine wp_region_held_drew (S := fun z => z.cell? ⟨jb, 0, none⟩ = some (.pointer (some ⟨b, 0, none⟩))) (by kernel_rfl) HX8.out.j.files (fun hHeld => ?_)
     refine tq ⟨some 70, .move (.tmp 0), 60, "ref.go:197", #[], none⟩ ?_ 0 rfl ?_ ?_;rotate_left;·(intros;go_simp<;>with_reducible rfl)
     try simp only[Act.put,sqA,sqB,sqC]
     refine tq ⟨some 71, .nilCheck (.tmp 70), 0, "ref.go:197", #[⟨0, .data⟩], none⟩ ?_ 1 rfl ?_ ?_;rotate_left;·(intros;go_simp<;>with_reducible rfl)
     try simp only[Act.put,sqA,sqB,sqC]
     refine tq ⟨some 72, .fieldAddr 169 (.tmp 71) 0, 0, "ref.go:197", #[⟨1, .data⟩], none⟩ ?_ 2 rfl ?_ ?_;rotate_left;·(intros;go_simp<;>with_reducible rfl)
     try simp only[Act.put,sqA,sqB,sqC]
     refine tq ⟨some 73, .load 63 (.tmp 72), 63, "ref.go:197", #[⟨2, .data⟩], none⟩ ?_ 3 rfl ?_ ?_;rotate_left;·(intros;go_simp<;>with_reducible rfl)
     try simp only[Act.put,sqA,sqB,sqC]
     refine tq ⟨some 74, .move (.tmp 0), 60, "ref.go:197", #[], none⟩ ?_ 4 rfl ?_ ?_;rotate_left;·(intros;go_simp<;>with_reducible rfl)
     try simp only[Act.put,sqA,sqB,sqC]
     refine tq ⟨some 75, .move (.tmp 0), 60, "ref.go:197", #[], none⟩ ?_ 5 rfl ?_ ?_;rotate_left;·(intros;go_simp<;>with_reducible rfl)
     try simp only[Act.put,sqA,sqB,sqC]
     refine wpAnyH_ready (rs := [6]) (by kernel_rfl) (by simp) ?_
     refine ar1 ⟨some 76, .call ⟨.value (.func 79), #[.tmp 75], #[60]⟩, 3, "ref.go:197", #[⟨5, .data⟩], none⟩ rfl (fun K hK => ?_)
     go_simp
     refine (rnum_any n₀ _ jb b p most _ _ (HX8.out.bel (Bel.refl _).drew).ref HX8.out.ok (HX8.out.bel (Bel.refl _).drew).j hp).mono ?_
     rintro e ygb ⟨rfl, hb1⟩
     rw [HLa.out]
     have HAgb := Lib.hid (((Bel.refl _).drew).trans hb1)
     clear hb1
     have HYgb := Lib.hid (HX8.out.bel HAgb.out)
     dsimp only
     refine hK.out _ _ HYgb.out.j.files (fun hHeld => ?_);clear hK K;try simp only[Act.put,sqA,sqB,sqC]
     refine wpAnyH_ready (rs := [7]) (by kernel_rfl) (by simp) ?_
     refine ar1 ⟨some 77, .call ⟨.value (.func 100), #[.tmp 74, .tmp 76], #[60, 3]⟩, 9, "ref.go:197", #[⟨4, .data⟩, ⟨6, .data⟩, ⟨6, .chain⟩], none⟩ rfl (fun K hK => ?_)
     go_simp
     refine (rj_fileC HYgb.out hp n1 (by omega)).mono ?_
     rintro e zgb ⟨rfl, hb2⟩
     have HBgb := Lib.hid (HAgb.out.trans hb2)
     clear hb2
     have HXgb := Lib.hid (HX8.out.bel HBgb.out)
     dsimp only
     refine hK.out _ _ HXgb.out.j.files (fun hHeld => ?_);clear hK K;try simp only[Act.put,sqA,sqB,sqC]
     refine wpAnyH_ready (rs := [8]) (by kernel_rfl) (by simp) ?_
     refine ar1 ⟨some 78, .call ⟨.value (.func 104), #[.tmp 73, .tmp 77], #[63, 9]⟩, 31, "ref.go:197", #[⟨3, .data⟩, ⟨7, .data⟩, ⟨7, .chain⟩], none⟩ rfl (fun K hK => ?_)
     go_simp
     refine (rflush_any n₀ _ b _ _ (⟨(fileN p.data.toList n1).toArray⟩ : ByteArray) HXgb.out.ref HXgb.out.ok).mono ?_
     rintro e w9 ⟨rfl, hT⟩
     rw [str_list] at hT ⊢
     have HT := Lib.hid (rto_then (HK8.out.then HBgb.out) (fun k hk => HF8.out k hk) hT)
     have cN : w9.cell? ⟨jb, 0, none⟩ = some (.pointer (some ⟨b, 0, none⟩)) := by
      obtain ⟨F9, _, q2, _⟩ := hT
      exact q2.cell HXgb.out.j.files HXgb.out.out
     clear hT
     dsimp only
     refine hK.out _ _ cN (fun hHeld => ?_);clear hK K;try simp only[Act.put,sqA,sqB,sqC]
     refine tq ⟨some 6, .assign (.tmp 78), 31, "ref.go:197", #[⟨8, .data⟩, ⟨8, .chain⟩, ⟨0, .phase⟩, ⟨1, .phase⟩, ⟨2, .phase⟩, ⟨3, .phase⟩, ⟨4, .phase⟩, ⟨5, .phase⟩, ⟨6, .phase⟩, ⟨7, .phase⟩, ⟨8, .phase⟩], none⟩ ?_ 9 rfl ?_ ?_;rotate_left;·(intros;go_simp<;>with_reducible rfl)
     try simp only[Act.put,sqA,sqB,sqC]
     refine wpAnyH_done (by kernel_rfl) ?_ _
     clear cN
     go_wp2_with (fail)
     go_ret
     exact ⟨by rw [HW.out]; rfl, by rw [HW.out]; exact HT.out⟩
    ·have hra2 : (ra == 0) = false := by rw [beq_eq_false_iff_ne]; exact hra
     rw [if_pos hra] at HW
     go_wp2_with (fail)
     go_ret
     exact ⟨by rw [HW.out]; rfl, by rw [HW.out]; exact ⟨F8, HX8.out.ref, HK8.out, HF8.out⟩⟩
   ·have hra2 : (rt == 0) = false := by rw [beq_eq_false_iff_ne]; exact hrt
    rw [if_pos hrt] at HW
    go_wp2_with (fail)
    go_ret
    exact ⟨by rw [HW.out]; rfl, by rw [HW.out]; exact ⟨F4, HX4.out.ref, HK4.out, HF4.out⟩⟩
  ·have HRR := Lib.hid (show rroom p.data.toList most M = (0, M) by unfold rroom; rw [HN.out, HBY.out, if_neg hfull])
   have hfull2 : (y.bytes.length : Int) < max most 1 := by omega
   rw [HRR.out, if_neg (by simp)] at HW
   simp only [HN.out] at HW
   have HKD := Lib.hid (Keep.of_bel HBD.out F)
   have HFD := Lib.hid (show ∀ k ∈ F, k ∈ F ∨ w.heap.size ≤ k from fun k hk => Or.inl hk)
   have hn10 : n ≠ 0 := h0
   have hn19 : n ≤ 10000000 := by omega
   clear hfull
   obtain ⟨ra, Ma, hA⟩ : ∃ ra Ma, addS (fileN p.data.toList n) (frameL s) M = (ra, Ma) := ⟨_, _, rfl⟩
   have HAD := Lib.hid hA
   have HMa := Lib.hid (show Ma.ok by have := add_ok HXD.out.ok (fileN p.data.toList n) (frameL s); rwa [hA] at this)
   have HLa := Lib.hid (show lastN p.data.toList Ma.L = n by
    have h1 := add_names HXD.out.ok (nm := fileN p.data.toList n) (last_there HXD.out.ok HN.out hn10) (frameL s)
    rw [hA] at h1
    rw [last_names h1]; exact HN.out)
   rw [show jput (fileN p.data.toList n) (frameL s) M = if ra ≠ 0 then (ra, Ma) else flushS (fileN p.data.toList n) Ma by unfold jput; rw [hA]] at HW
   clear hA
   go_wp2_with (fail)
   refine wp_region_held_drew (S := fun z => z.cell? ⟨jb, 0, none⟩ = some (.pointer (some ⟨b, 0, none⟩))) (by kernel_rfl) HXD.out.j.files (fun hHeld => ?_)
   refine tq ⟨some 58, .move (.tmp 0), 60, "ref.go:194", #[], none⟩ ?_ 0 rfl ?_ ?_;rotate_left;·(intros;go_simp<;>with_reducible rfl)
   try simp only[Act.put,sqA,sqB,sqC]
   refine tq ⟨some 59, .nilCheck (.tmp 58), 0, "ref.go:194", #[⟨0, .data⟩], none⟩ ?_ 1 rfl ?_ ?_;rotate_left;·(intros;go_simp<;>with_reducible rfl)
   try simp only[Act.put,sqA,sqB,sqC]
   refine tq ⟨some 60, .fieldAddr 169 (.tmp 59) 0, 0, "ref.go:194", #[⟨1, .data⟩], none⟩ ?_ 2 rfl ?_ ?_;rotate_left;·(intros;go_simp<;>with_reducible rfl)
   try simp only[Act.put,sqA,sqB,sqC]
   refine tq ⟨some 61, .load 63 (.tmp 60), 63, "ref.go:194", #[⟨2, .data⟩], none⟩ ?_ 3 rfl ?_ ?_;rotate_left;·(intros;go_simp<;>with_reducible rfl)
   try simp only[Act.put,sqA,sqB,sqC]
   refine tq ⟨some 62, .move (.tmp 0), 60, "ref.go:194", #[], none⟩ ?_ 4 rfl ?_ ?_;rotate_left;·(intros;go_simp<;>with_reducible rfl)
   try simp only[Act.put,sqA,sqB,sqC]
   refine tq ⟨some 63, .move (.tmp 0), 60, "ref.go:194", #[], none⟩ ?_ 5 rfl ?_ ?_;rotate_left;·(intros;go_simp<;>with_reducible rfl)
   try simp only[Act.put,sqA,sqB,sqC]
   refine tq ⟨some 66, .move (.tmp 7), 9, "ref.go:194", #[], none⟩ ?_ 8 rfl ?_ ?_;rotate_left;·(intros;go_simp<;>with_reducible rfl)
   try simp only[Act.put,sqA,sqB,sqC]
   refine wpAnyH_ready (rs := [6]) (by kernel_rfl) (by simp) ?_
   refine ar1 ⟨some 64, .call ⟨.value (.func 79), #[.tmp 63], #[60]⟩, 3, "ref.go:194", #[⟨5, .data⟩], none⟩ rfl (fun K hK => ?_)
   go_simp
   refine (rnum_any n₀ _ jb b p most _ _ (HXD.out.bel (Bel.refl _).drew).ref HXD.out.ok (HXD.out.bel (Bel.refl _).drew).j hp).mono ?_
   rintro e yha ⟨rfl, hb1⟩
   rw [HN.out]
   have HAha := Lib.hid (((Bel.refl _).drew).trans hb1)
   clear hb1
   have HYha := Lib.hid (HXD.out.bel HAha.out)
   dsimp only
   refine hK.out _ _ HYha.out.j.files (fun hHeld => ?_);clear hK K;try simp only[Act.put,sqA,sqB,sqC]
   refine wpAnyH_ready (rs := [7]) (by kernel_rfl) (by simp) ?_
   refine ar1 ⟨some 65, .call ⟨.value (.func 100), #[.tmp 62, .tmp 64], #[60, 3]⟩, 9, "ref.go:194", #[⟨4, .data⟩, ⟨6, .data⟩, ⟨6, .chain⟩], none⟩ rfl (fun K hK => ?_)
   go_simp
   refine (rj_fileC HYha.out hp n (by omega)).mono ?_
   rintro e zha ⟨rfl, hb2⟩
   have HBha := Lib.hid (HAha.out.trans hb2)
   clear hb2
   have HXha := Lib.hid (HXD.out.bel HBha.out)
   dsimp only
   refine hK.out _ _ HXha.out.j.files (fun hHeld => ?_);clear hK K;try simp only[Act.put,sqA,sqB,sqC]
   refine wpAnyH_ready (rs := [9]) (by kernel_rfl) (by simp) ?_
   refine ar1 ⟨some 67, .call ⟨.value (.func 36), #[.tmp 61, .tmp 65, .tmp 66], #[63, 9, 9]⟩, 31, "ref.go:194", #[⟨3, .data⟩, ⟨7, .data⟩, ⟨8, .data⟩, ⟨7, .chain⟩], none⟩ rfl (fun K hK => ?_)
   go_simp
   refine (radd_any n₀ _ b _ _ (⟨(fileN p.data.toList n).toArray⟩ : ByteArray) (⟨(frameL s).toArray⟩ : ByteArray) (by omega) (by omega) HXha.out.ref HXha.out.ok).mono ?_
   rintro e w8 ⟨rfl, hT⟩
   rw [str_list, str_list, HAD.out] at hT ⊢
   obtain ⟨F8, hX8, hK8, hF8⟩ := HXha.out.step hT HMa.out
   have HX8 := Lib.hid hX8
   have HK8 := Lib.hid ((HKD.out.then HBha.out).trans hK8 (fun x hx => HFD.out x hx))
   have HF8 := Lib.hid (show ∀ k ∈ F8, k ∈ F ∨ w.heap.size ≤ k from fun k hk => by
    rcases hF8 k hk with h | h
    ·exact HFD.out k h
    ·exact Or.inr (Nat.le_trans (HKD.out.then HBha.out).size h))
   have cN := HX8.out.j.files
   clear hT hX8 hK8 hF8
   dsimp only
   refine hK.out _ _ cN (fun hHeld => ?_);clear hK K;try simp only[Act.put,sqA,sqB,sqC]
   refine tq ⟨some 6, .assign (.tmp 67), 31, "ref.go:194", #[⟨9, .data⟩, ⟨9, .chain⟩, ⟨0, .phase⟩, ⟨1, .phase⟩, ⟨2, .phase⟩, ⟨3, .phase⟩, ⟨4, .phase⟩, ⟨5, .phase⟩, ⟨6, .phase⟩, ⟨7, .phase⟩, ⟨8, .phase⟩, ⟨9, .phase⟩], none⟩ ?_ 10 rfl ?_ ?_;rotate_left;·(intros;go_simp<;>with_reducible rfl)
   try simp only[Act.put,sqA,sqB,sqC]
   refine wpAnyH_done (by kernel_rfl) ?_ _
   clear cN
   by_cases hra : ra = 0
   ·subst hra
    rw [if_neg (by simp)] at HW
    go_wp2_with (fail)
    refine wp_region_held_drew (S := fun z => z.cell? ⟨jb, 0, none⟩ = some (.pointer (some ⟨b, 0, none⟩))) (by kernel_rfl) HX8.out.j.files (fun hHeld => ?_)
    refine tq ⟨some 70, .move (.tmp 0), 60, "ref.go:197", #[], none⟩ ?_ 0 rfl ?_ ?_;rotate_left;·(intros;go_simp<;>with_reducible rfl)
    try simp only[Act.put,sqA,sqB,sqC]
    refine tq ⟨some 71, .nilCheck (.tmp 70), 0, "ref.go:197", #[⟨0, .data⟩], none⟩ ?_ 1 rfl ?_ ?_;rotate_left;·(intros;go_simp<;>with_reducible rfl)
    try simp only[Act.put,sqA,sqB,sqC]
    refine tq ⟨some 72, .fieldAddr 169 (.tmp 71) 0, 0, "ref.go:197", #[⟨1, .data⟩], none⟩ ?_ 2 rfl ?_ ?_;rotate_left;·(intros;go_simp<;>with_reducible rfl)
    try simp only[Act.put,sqA,sqB,sqC]
    refine tq ⟨some 73, .load 63 (.tmp 72), 63, "ref.go:197", #[⟨2, .data⟩], none⟩ ?_ 3 rfl ?_ ?_;rotate_left;·(intros;go_simp<;>with_reducible rfl)
    try simp only[Act.put,sqA,sqB,sqC]
    refine tq ⟨some 74, .move (.tmp 0), 60, "ref.go:197", #[], none⟩ ?_ 4 rfl ?_ ?_;rotate_left;·(intros;go_simp<;>with_reducible rfl)
    try simp only[Act.put,sqA,sqB,sqC]
    refine tq ⟨some 75, .move (.tmp 0), 60, "ref.go:197", #[], none⟩ ?_ 5 rfl ?_ ?_;rotate_left;·(intros;go_simp<;>with_reducible rfl)
    try simp only[Act.put,sqA,sqB,sqC]
    refine wpAnyH_ready (rs := [6]) (by kernel_rfl) (by simp) ?_
    refine ar1 ⟨some 76, .call ⟨.value (.func 79), #[.tmp 75], #[60]⟩, 3, "ref.go:197", #[⟨5, .data⟩], none⟩ rfl (fun K hK => ?_)
    go_simp
    refine (rnum_any n₀ _ jb b p most _ _ (HX8.out.bel (Bel.refl _).drew).ref HX8.out.ok (HX8.out.bel (Bel.refl _).drew).j hp).mono ?_
    rintro e yhb ⟨rfl, hb1⟩
    rw [HLa.out]
    have HAhb := Lib.hid (((Bel.refl _).drew).trans hb1)
    clear hb1
    have HYhb := Lib.hid (HX8.out.bel HAhb.out)
    dsimp only
    refine hK.out _ _ HYhb.out.j.files (fun hHeld => ?_);clear hK K;try simp only[Act.put,sqA,sqB,sqC]
    refine wpAnyH_ready (rs := [7]) (by kernel_rfl) (by simp) ?_
    refine ar1 ⟨some 77, .call ⟨.value (.func 100), #[.tmp 74, .tmp 76], #[60, 3]⟩, 9, "ref.go:197", #[⟨4, .data⟩, ⟨6, .data⟩, ⟨6, .chain⟩], none⟩ rfl (fun K hK => ?_)
    go_simp
    refine (rj_fileC HYhb.out hp n (by omega)).mono ?_
    rintro e zhb ⟨rfl, hb2⟩
    have HBhb := Lib.hid (HAhb.out.trans hb2)
    clear hb2
    have HXhb := Lib.hid (HX8.out.bel HBhb.out)
    dsimp only
    refine hK.out _ _ HXhb.out.j.files (fun hHeld => ?_);clear hK K;try simp only[Act.put,sqA,sqB,sqC]
    refine wpAnyH_ready (rs := [8]) (by kernel_rfl) (by simp) ?_
    refine ar1 ⟨some 78, .call ⟨.value (.func 104), #[.tmp 73, .tmp 77], #[63, 9]⟩, 31, "ref.go:197", #[⟨3, .data⟩, ⟨7, .data⟩, ⟨7, .chain⟩], none⟩ rfl (fun K hK => ?_)
    go_simp
    refine (rflush_any n₀ _ b _ _ (⟨(fileN p.data.toList n).toArray⟩ : ByteArray) HXhb.out.ref HXhb.out.ok).mono ?_
    rintro e w9 ⟨rfl, hT⟩
    rw [str_list] at hT ⊢
    have HT := Lib.hid (rto_then (HK8.out.then HBhb.out) (fun k hk => HF8.out k hk) hT)
    have cN : w9.cell? ⟨jb, 0, none⟩ = some (.pointer (some ⟨b, 0, none⟩)) := by
     obtain ⟨F9, _, q2, _⟩ := hT
     exact q2.cell HXhb.out.j.files HXhb.out.out
    clear hT
    dsimp only
    refine hK.out _ _ cN (fun hHeld => ?_);clear hK K;try simp only[Act.put,sqA,sqB,sqC]
    refine tq ⟨some 6, .assign (.tmp 78), 31, "ref.go:197", #[⟨8, .data⟩, ⟨8, .chain⟩, ⟨0, .phase⟩, ⟨1, .phase⟩, ⟨2, .phase⟩, ⟨3, .phase⟩, ⟨4, .phase⟩, ⟨5, .phase⟩, ⟨6, .phase⟩, ⟨7, .phase⟩, ⟨8, .phase⟩], none⟩ ?_ 9 rfl ?_ ?_;rotate_left;·(intros;go_simp<;>with_reducible rfl)
    try simp only[Act.put,sqA,sqB,sqC]
    refine wpAnyH_done (by kernel_rfl) ?_ _
    clear cN
    go_wp2_with (fail)
    go_ret
    exact ⟨by rw [HW.out]; rfl, by rw [HW.out]; exact HT.out⟩
   ·have hra2 : (ra == 0) = false := by rw [beq_eq_false_iff_ne]; exact hra
    rw [if_pos hra] at HW
    go_wp2_with (fail)
    go_ret
    exact ⟨by rw [HW.out]; rfl, by rw [HW.out]; exact ⟨F8, HX8.out.ref, HK8.out, HF8.out⟩⟩
 ·have he1 : (e0 != 0) = true := by rw [bne_iff_ne]; exact he0
  have HW := Lib.hid (show jwrite p.data.toList most L M = (e0, M) by unfold jwrite; rw [HBB.out]; exact if_pos he0)
  go_wp2_with (fail)
  go_ret
  exact ⟨by rw [HW.out]; rfl, by rw [HW.out]; exact (H.out.ref).to HB1.out⟩

def frsL (bs : List (List (List UInt8))) : List UInt8 := bs.flatMap (fun l => frameL (encL l))
def goodB (l : List (List UInt8)) : Prop := l.length ≤ 50 ∧ (encL l).length ≤ 40000
structure HoldX (p : List UInt8) (L : List FI) (f : Nat → List (List (List UInt8))) (r : List UInt8) : Prop where
 ne : segsL p L ≠ []
 seg : ∀ n ∈ segsL p L, n ≠ lastN p L → ∃ y, getF (fileN p n) L = some y ∧ y.bytes = frsL (f n)
 last : ∃ y, getF (fileN p (lastN p L)) L = some y ∧ y.bytes = frsL (f (lastN p L)) ++ r
 good : ∀ n, ∀ l ∈ f n, goodB l


def JSB (w x : World) (b : Nat) (M : RS) (jb : Nat) (p : ByteArray) (most : Int) : Prop := ∃ F, JS w.heap.size x b M F jb p most ∧ Bel w x
section
variable {w x y : World} {b jb : Nat} {M M1 : RS} {F : List Nat} {p : ByteArray} {most : Int}
theorem js_of (hs : Std w) (hb : Bel w x) (hp : ProgAt w.heap.size x b M F) (hM : M.ok) (hj : JAt x jb b p most) (ho : jb ∉ F) : JS w.heap.size x b M F jb p most :=
 ⟨hp, hM, hj, ho, fun z hz => hs.bel (((Keep.of_bel hb F).trans hz (fun k hk => Or.inl hk)).bel (fun k hk => (hp.within k hk).1))⟩
theorem JSB.bel (h : JSB w x b M jb p most) (hb : Bel x y) : JSB w y b M jb p most := by
 obtain ⟨F, h1, h2⟩ := h
 exact ⟨F, h1.bel hb, h2.trans hb⟩
theorem JSB.low (h : JSB w x b M jb p most) : Bel w x := by obtain ⟨F, _, h2⟩ := h; exact h2
theorem JSB.good (h : JSB w x b M jb p most) : M.ok := by obtain ⟨F, h1, _⟩ := h; exact h1.ok
end
theorem open_st {w x : World} {b : Nat} {M : RS} {F : List Nat} (hs : Std w) (hb : Bel w x) (hp : ProgAt w.heap.size x b M F) (hM : M.ok) (nm : ByteArray) (most : Int) (hnm : nm.size ≤ 100) (hr : M.room ≤ 1000000) {err : Int} {L : List (List (List UInt8))} {M' : RS} (hj : jopen nm.data.toList M = (err, L, M')) :
  Calls Tryz.prog 58 #[.pointer (some ⟨b, 0, none⟩), .string nm, .int .i64 most] x fun e y => ∃ jv v F', e = .returned (.tuple #[jv, v, .int .i64 err]) ∧ ProgAt w.heap.size y b M' F' ∧ Keep F x y ∧ (∀ k ∈ F', k ∈ F ∨ x.heap.size ≤ k) ∧ OwnQ x y F' v L ∧ Bel w y ∧ M'.ok ∧
   (err = 0 → ∃ jb, jv = .pointer (some ⟨jb, 0, none⟩) ∧ JS w.heap.size y b M' F' jb nm most ∧ Qb x y F' jb) ∧ (err ≠ 0 → jv = .pointer none) := by
 have hstd : ∀ z, Keep F x z → Std z := fun z hz => hs.bel (((Keep.of_bel hb F).trans hz (fun k hk => Or.inl hk)).bel (fun k hk => (hp.within k hk).1))
 refine (open_any _ x b M F nm most hp hM hstd hnm hr).mono ?_
 rintro e y ⟨jv, v, F', rfl, h1, h2, h3, h4, h5, h6⟩
 have hok := jopen_ok nm.data.toList hM
 rw [hj] at h1 h4 h5 h6 hok ⊢
 have hbl : Bel w y := ((Keep.of_bel hb F).trans h2 (fun k hk => Or.inl hk)).bel (fun k hk => (hp.within k hk).1)
 refine ⟨jv, v, F', rfl, h1, h2, h3, h4, hbl, hok, fun he => ?_, h6⟩
 obtain ⟨jb, q1, q2, q3⟩ := h5 he
 exact ⟨jb, q1, js_of hs hbl h1 hok q2 q3.2.2, q3⟩

def fr1 : List UInt8 := frameL (encL [[97], [98]])
def fr2 : List UInt8 := frameL (encL [])

structure JV where
 op : Int
 n : Int
 bp : Option Addr
 bc : Nat
 bl : List (List UInt8)
 left : SI
 spoil : SI
structure JV.ok (w : World) (x : JV) : Prop where
 op : in64 x.op
 n : in64 x.n
 at_ : StrsAt w x.bp x.bl
 len : x.bl.length ≤ maxLen
 each : ∀ t ∈ x.bl, t.length ≤ maxLen
 left : SI.ok w x.left
 spoil : SI.ok w x.spoil
def JV.cells (x : JV) : List Value := [.int .i64 x.op, .int .i64 x.n, .slice x.bp x.bl.length x.bc, x.left.val, x.spoil.val]
def JActs (w : World) (p : Option Addr) (L : List JV) : Prop := ∀ i (h : i < L.length), ∃ B O sp, p.map (fun a => a.add (i * 5)) = some ⟨B, O, sp⟩ ∧
 (∀ j u, L[i].cells[j]? = some u → w.cell? ((⟨B, O, sp⟩ : Addr).add j) = some u) ∧ JV.ok w L[i]
theorem JV.ok.bel {w x : World} {v : JV} (h : JV.ok w v) (hb : Bel w x) : JV.ok x v := ⟨h.op, h.n, h.at_.bel hb, h.len, h.each, h.left.bel hb, h.spoil.bel hb⟩
theorem JActs.bel {w x : World} {p : Option Addr} {L : List JV} (h : JActs w p L) (hb : Bel w x) : JActs x p L := by
 intro i hi
 obtain ⟨B, O, sp, hp, hc, ho⟩ := h i hi
 exact ⟨B, O, sp, hp, fun j u hj => (Below.cell hb (block_lt_of_cell (hc j u hj))).trans (hc j u hj), ho.bel hb⟩
def strsB (l : List (List UInt8)) : Bool := l.all fun t => decide (t.length ≤ 900)
def JV.small (x : JV) : Bool := (decide (x.bl.length ≤ 60) && (decide (x.left.L.length ≤ 60) && decide (x.spoil.L.length ≤ 60))) && strsB x.bl

section
variable {w x y z : World} {b r : Nat} {M M' M1 : RS} {R : List Nat} {F G F' G' : List Nat}
theorem Tw.other (h : Tw w x b r M M' R) {K : List Nat} (hk : Keep K x y) (hK : ∀ k ∈ K, w.heap.size ≤ k ∧ k ∈ R) : Tw w y b r M M' R ∧ (∀ k ∈ R, k ∉ K → y.heap[k]? = x.heap[k]?) := by
 obtain ⟨⟨F, G, h1, h2, h3, h4⟩, h5, h6, h7⟩ := h
 refine ⟨⟨⟨F, G, h1.keep hk (fun k hkF hm => (h4 k (hK k hm).2).2.1 hkF), h2.keep hk (fun k hkG hm => (h4 k (hK k hm).2).2.2 hkG), h3, fun k hk' => ⟨Nat.lt_of_lt_of_le (h4 k hk').1 hk.size, (h4 k hk').2⟩⟩,
  ((Keep.of_bel h5 K).trans hk (fun x hx => Or.inl hx)).bel (fun k hk' => (hK k hk').1), h6, h7⟩, fun k hk' hn => hk.block k (h4 k hk').1 hn⟩
theorem Tw.grow (h : Tw w x b r M M' R) (hb : Bel x y) {S : List Nat} (hS : ∀ k ∈ S, x.heap.size ≤ k ∧ k < y.heap.size) : Tw w y b r M M' (S ++ R) := by
 obtain ⟨⟨F, G, h1, h2, h3, h4⟩, h5, h6, h7⟩ := h
 refine ⟨⟨F, G, h1.bel hb, h2.bel hb, h3, fun j hj => ?_⟩, h5.trans hb, h6, h7⟩
 rcases List.mem_append.1 hj with hj | hj
 ·have hjs := hS j hj
  refine ⟨hjs.2, fun hm => ?_, fun hm => ?_⟩
  ·have := (h1.within _ hm).2; omega
  ·have := ref_lt h2 j hm; omega
 ·exact ⟨Nat.lt_of_lt_of_le (h4 j hj).1 hb.size, (h4 j hj).2⟩
theorem Tw.lt (h : Tw w x b r M M' R) : ∀ k ∈ R, k < x.heap.size := by
 obtain ⟨⟨F, G, h1, h2, h3, h4⟩, h5, h6, h7⟩ := h
 exact fun k hk => (h4 k hk).1
end
section
variable {w x y z : World} {ws ms b r jb rb : Nat} {M M' M1 : RS} {nm : ByteArray} {most : Int} {R R' : List Nat}
end


theorem JV.ok.more {w x : World} {v : JV} (h : JV.ok w v) (hb : Bel w x) : JV.ok x v := h.bel hb

theorem on_room (nm : List UInt8) (M : RS) (k : FI → Int × RS) (hk : ∀ y, (k y).2.room = M.room) : (onS nm M k).2.room = M.room := by
 unfold onS
 split
 ·rfl
 ·cases getF nm M.L with
  | none => rfl
  | some y => exact hk y
theorem flush_room (M : RS) (nm : List UInt8) : (flushS nm M).2.room = M.room := on_room nm M _ fun y => chg_room M _
theorem drop_room (M : RS) (nm : List UInt8) : (dropS nm M).2.room = M.room := on_room nm M _ fun y => chg_room M _
theorem cut_room (M : RS) (nm : List UInt8) (n : Int) : (cutS nm n M).2.room = M.room := on_room nm M _ fun y => by
 split
 ·rfl
 ·exact chg_room M _
theorem mend_room (M : RS) (nm : List UInt8) (n : Int) : (mendS nm n M).2.room = M.room := by
 unfold mendS
 split
 ·exact cut_room M nm n
 ·rw [flush_room, cut_room]
theorem jturn_room (p : List UInt8) (M : RS) : (jturn p M).2.room = M.room := add_room M _ _
theorem jput_room (nm t : List UInt8) (M : RS) : (jput nm t M).2.room = M.room := by
 unfold jput
 split
 ·exact add_room M _ _
 ·rw [flush_room, add_room]
theorem jroom_room (p : List UInt8) (most : Int) (M : RS) : (jroom p most M).2.room = M.room := by
 unfold jroom; split; exact jturn_room p M; rfl
theorem jwrite_room (p : List UInt8) (most : Int) (l : List (List UInt8)) (M : RS) : (jwrite p most l M).2.room = M.room := by
 unfold jwrite
 split
 ·rfl
 ·split
  ·rfl
  ·split
   ·exact jroom_room p most M
   ·rw [jput_room, jroom_room]
theorem trim_room (p : List UInt8) (before : Int) : ∀ (l : List Nat) (M : RS), (trimL p before l M).2.room = M.room
 | [], M => rfl
 | [_], M => rfl
 | n :: m :: r, M => by
  simp only [trimL]
  split
  ·split
   ·rw [trim_room p before (m :: r), drop_room]
   ·exact drop_room M _
  ·rfl
theorem readsegs_room (p : List UInt8) : ∀ (l : List Nat) (M : RS), (readSegs p l M).2.2.room = M.room
 | [], M => rfl
 | n :: r, M => by
  have ih := readsegs_room p r M
  simp only [readSegs]
  split
  ·split
   ·exact ih
   ·exact ih
  ·split
   ·rfl
   ·split
    ·exact mend_room M _ _
    ·exact mend_room M _ _
theorem jopen_room (p : List UInt8) (M : RS) : (jopen p M).2.2.room = M.room := by
 unfold jopen
 split
 ·rfl
 ·split
  ·rfl
  ·split
   ·exact jturn_room p M
   ·exact readsegs_room p _ M
theorem jopen_lens (p : List UInt8) {M : RS} (h : M.ok) (hr : M.room ≤ 1000000) : (jopen p M).2.1.length ≤ 60000000 := by
 unfold jopen
 split
 ·simp
 ·split
  ·simp
  ·split
   ·simp
   ·have h1 := readSegs_lens p (segsL p M.L) M (room_sizes h hr)
    have h2 := segs_len p M.L
    have h3 := h.len
    omega
theorem last_drop {n : Nat} {r : List Nat} (hr : r ≠ []) : (n :: r).getLast?.getD 0 = r.getLast?.getD 0 := by
 cases r with
 | nil => exact absurd rfl hr
 | cons m r => rw [List.getLast?_cons_cons]
theorem drop_L (M : RS) (nm : List UInt8) : ((dropS nm M).1 = 0 → (dropS nm M).2.L = outS nm M.L) ∧ ((dropS nm M).1 ≠ 0 → (dropS nm M).2.L = M.L) := by
 unfold dropS onS
 split
 ·exact ⟨(fun h => by cases h), fun _ => rfl⟩
 ·cases getF nm M.L with
  | none => exact ⟨(fun h => by cases h), fun _ => rfl⟩
  | some y =>
   simp only
   unfold chgS
   split
   ·exact ⟨(fun h => by cases h), fun _ => turn_L M⟩
   ·exact ⟨fun _ => rfl, fun h => absurd rfl h⟩
theorem trim_last (p : List UInt8) (before : Int) : ∀ (l : List Nat) {M : RS}, M.ok → segsL p M.L = l → lastN p (trimL p before l M).2.L = lastN p M.L
 | [], M, _, _ => rfl
 | [_], M, _, _ => rfl
 | n :: m :: r, M, h, hl => by
  obtain ⟨d1, d2⟩ := drop_L M (fileN p n)
  simp only [trimL]
  split
  ·split
   ·rename_i h0
    have hs := segs_out (p := p) h.srt hl
    rw [← d1 h0] at hs
    rw [trim_last p before (m :: r) (drop_ok h _) hs]
    unfold lastN
    rw [hs, hl, last_drop (n := n) (r := m :: r) (by simp)]
   ·rename_i h0
    unfold lastN; rw [d2 h0]
  ·rfl
theorem jput_last {p : List UInt8} {M : RS} (h : M.ok) (h0 : lastN p M.L ≠ 0) (t : List UInt8) : lastN p (jput (fileN p (lastN p M.L)) t M).2.L = lastN p M.L := by
 have hth := last_there (p := p) h rfl h0
 unfold jput
 split
 ·exact last_names (add_names h hth t)
 ·exact (last_names (flush_names (add_ok h _ _) _)).trans (last_names (add_names h hth t))
theorem jroom_last {p : List UInt8} {M : RS} (most : Int) (h : M.ok) (h9 : lastN p M.L < 9999999) : lastN p (jroom p most M).2.L = lastN p M.L ∨ lastN p (jroom p most M).2.L = lastN p M.L + 1 := by
 unfold jroom
 split
 ·by_cases ht : (jturn p M).1 = 0
  ·exact Or.inr (jturn_last h h9 ht)
  ·exact Or.inl (by unfold lastN; rw [(jturn_segs h h9).2 ht])
 ·exact Or.inl rfl

def manB : ByteArray := ⟨#[109, 97, 110]⟩
def manP : List UInt8 := [109, 97, 110]
theorem manB_list : manB.data.toList = manP := rfl
theorem manB_size : manB.size ≤ 100 := by decide
theorem manP_name : nameJ manP = true := by decide
def oneM (st : MS) (b : List (List UInt8)) : MS := match b with
 | [t] => (unpackM t).getD st
 | _ => st
def lastM (st : MS) (bs : List (List (List UInt8))) : MS := bs.foldl oneM st
theorem lastM_append (st : MS) (bs cs : List (List (List UInt8))) : lastM st (bs ++ cs) = lastM (lastM st bs) cs := List.foldl_append
theorem oneM_enc {s : MS} (h : rightM s = true) (st : MS) : oneM st [encM s] = s := by
 show (unpackM (encM s)).getD st = s
 rw [unpack_enc h]; rfl
def mturn (n : Nat) (M : RS) : Int × RS := if n % 8 = 0 then jturn manP M else (0, M)
def mwrite (s : MS) (M : RS) : Int × RS := jwrite manP 100000 [encM s] M
def mtrim (n : Nat) (M : RS) : Int × RS := if n % 8 = 0 then jtrim manP ((lastN manP M.L : Nat) : Int) M else (0, M)
structure MR where
 e : Int
 s : MS
 n : Nat
 M : RS
def mset (s0 : MS) (n : Nat) (s : MS) (M : RS) : MR :=
 if rightM s = false then ⟨1, s0, n, M⟩ else if mayB s0 s = false then ⟨1, s0, n, M⟩ else
 if (mturn n M).1 ≠ 0 then ⟨(mturn n M).1, s0, n + 1, (mturn n M).2⟩ else
 if (mwrite s (mturn n M).2).1 ≠ 0 then ⟨(mwrite s (mturn n M).2).1, s0, n + 1, (mwrite s (mturn n M).2).2⟩ else
 ⟨(mtrim n (mwrite s (mturn n M).2).2).1, s, n + 1, (mtrim n (mwrite s (mturn n M).2).2).2⟩
section
variable {s0 s : MS} {n : Nat} {M : RS}
theorem mset_wrong (h : rightM s = false) : mset s0 n s M = ⟨1, s0, n, M⟩ := by unfold mset; rw [if_pos h]
theorem mset_less (h : rightM s = true) (h2 : mayB s0 s = false) : mset s0 n s M = ⟨1, s0, n, M⟩ := by unfold mset; rw [if_neg (by rw [h]; simp), if_pos h2]
theorem mset_turn (h : rightM s = true) (h2 : mayB s0 s = true) (h3 : (mturn n M).1 ≠ 0) : mset s0 n s M = ⟨(mturn n M).1, s0, n + 1, (mturn n M).2⟩ := by
 unfold mset; rw [if_neg (by rw [h]; simp), if_neg (by rw [h2]; simp), if_pos h3]
theorem mset_write (h : rightM s = true) (h2 : mayB s0 s = true) (h3 : (mturn n M).1 = 0) (h4 : (mwrite s (mturn n M).2).1 ≠ 0) : mset s0 n s M = ⟨(mwrite s (mturn n M).2).1, s0, n + 1, (mwrite s (mturn n M).2).2⟩ := by
 unfold mset; rw [if_neg (by rw [h]; simp), if_neg (by rw [h2]; simp), if_neg (by rw [h3]; simp), if_pos h4]
theorem mset_all (h : rightM s = true) (h2 : mayB s0 s = true) (h3 : (mturn n M).1 = 0) (h4 : (mwrite s (mturn n M).2).1 = 0) : mset s0 n s M = ⟨(mtrim n (mwrite s (mturn n M).2).2).1, s, n + 1, (mtrim n (mwrite s (mturn n M).2).2).2⟩ := by
 unfold mset; rw [if_neg (by rw [h]; simp), if_neg (by rw [h2]; simp), if_neg (by rw [h3]; simp), if_neg (by rw [h4]; simp)]
theorem mturn_ok (h : M.ok) : (mturn n M).2.ok := by unfold mturn; split; exact jturn_ok h _; exact h
theorem mwrite_ok (h : M.ok) : (mwrite s M).2.ok := jwrite_ok h _ _ _
theorem mtrim_ok (h : M.ok) : (mtrim n M).2.ok := by unfold mtrim; split; exact trim_ok _ _ _ h; exact h
theorem mturn_last (h : M.ok) (h9 : lastN manP M.L < 9999999) : lastN manP (mturn n M).2.L = lastN manP M.L ∨ lastN manP (mturn n M).2.L = lastN manP M.L + 1 := by
 unfold mturn
 split
 ·by_cases h0 : (jturn manP M).1 = 0
  ·exact Or.inr (jturn_last h h9 h0)
  ·exact Or.inl (by unfold lastN; rw [(jturn_segs h h9).2 h0])
 ·exact Or.inl rfl
theorem mwrite_last (h : M.ok) (h0 : lastN manP M.L ≠ 0) (h9 : lastN manP M.L < 9999998) : lastN manP (mwrite s M).2.L = lastN manP M.L ∨ lastN manP (mwrite s M).2.L = lastN manP M.L + 1 := by
 unfold mwrite jwrite
 split
 ·exact Or.inl rfl
 ·split
  ·exact Or.inl rfl
  ·split
   ·exact jroom_last _ h (by omega)
   ·have hj := jroom_last (p := manP) 100000 h (by omega)
    rw [jput_last (jroom_ok h manP _) (by omega)]
    exact hj
theorem mtrim_last (h : M.ok) : lastN manP (mtrim n M).2.L = lastN manP M.L := by
 unfold mtrim
 split
 ·exact trim_last manP _ _ h rfl
 ·rfl
theorem mset_last (h : M.ok) (h0 : lastN manP M.L ≠ 0) (h9 : lastN manP M.L < 9999997) : lastN manP (mset s0 n s M).M.L ≠ 0 ∧ lastN manP (mset s0 n s M).M.L ≤ lastN manP M.L + 2 := by
 have h1 := mturn_last (n := n) h (by omega)
 have h2 := mwrite_last (s := s) (mturn_ok (n := n) h) (by omega) (by omega)
 have h3 := mtrim_last (n := n) (mwrite_ok (s := s) (mturn_ok (n := n) h))
 unfold mset
 repeat' split
 ·exact ⟨h0, by show lastN manP M.L ≤ _; omega⟩
 ·exact ⟨h0, by show lastN manP M.L ≤ _; omega⟩
 ·show lastN manP (mturn n M).2.L ≠ 0 ∧ lastN manP (mturn n M).2.L ≤ _; omega
 ·show lastN manP (mwrite s (mturn n M).2).2.L ≠ 0 ∧ lastN manP (mwrite s (mturn n M).2).2.L ≤ _; omega
 ·show lastN manP (mtrim n (mwrite s (mturn n M).2).2).2.L ≠ 0 ∧ lastN manP (mtrim n (mwrite s (mturn n M).2).2).2.L ≤ _; omega
theorem mturn_room : (mturn n M).2.room = M.room := by unfold mturn; split; exact jturn_room _ _; rfl
theorem mwrite_room : (mwrite s M).2.room = M.room := jwrite_room _ _ _ _
theorem mtrim_room : (mtrim n M).2.room = M.room := by unfold mtrim; split; exact trim_room _ _ _ _; rfl
theorem mset_room : (mset s0 n s M).M.room = M.room := by
 unfold mset
 repeat' split
 ·rfl
 ·rfl
 ·exact mturn_room
 ·show (mwrite s (mturn n M).2).2.room = _; rw [mwrite_room, mturn_room]
 ·show (mtrim n (mwrite s (mturn n M).2).2).2.room = _; rw [mtrim_room, mwrite_room, mturn_room]
theorem mset_n : (mset s0 n s M).n ≤ n + 1 := by
 unfold mset
 repeat' split
 all_goals simp
end

def blkL (p : Option Addr) : List Nat := match p with | some a => [a.block] | none => []
theorem mem_blkL {p : Option Addr} {a : Addr} (h : p = some a) : a.block ∈ blkL p := by subst h; simp [blkL]
structure PM (w x : World) (b : Nat) (M : RS) (mb jb : Nat) (s : MS) (n : Nat) (F D : List Nat) : Prop where
 prog : ProgAt w.heap.size x b M F
 ok : M.ok
 j : JAt x jb b manB 100000
 low : Bel w x
 std : Std w
 box : ∃ fp fc, x.heap[mb]? = some (.cells #[.pointer (some ⟨jb, 0, none⟩), .slice fp s.files.length fc, .int .i64 s.next, .int .i64 s.seq, .int .i64 s.log, .string s.mt, .int .i64 (n : Int)] 110 (0, 0)) ∧ PlsAt x fp s.files ∧ (s.files ≠ [] → ∀ a, fp = some a → a.block ∈ D)
 mout : mb ∉ F ∧ w.heap.size ≤ mb
 jd : jb ∈ D
 dw : ∀ k ∈ D, k ≠ mb ∧ k ∉ F ∧ k < x.heap.size
section
variable {w x y z x0 : World} {b mb jb : Nat} {M M1 : RS} {s s1 : MS} {n n1 : Nat} {F F0 F1 D D0 D1 A K : List Nat}
theorem PM.mlt (h : PM w x b M mb jb s n F D) : mb < x.heap.size := by obtain ⟨fp, fc, h1, -⟩ := h.box; exact box_lt h1
theorem PM.flt (h : PM w x b M mb jb s n F D) : ∀ k ∈ F, w.heap.size ≤ k ∧ k < x.heap.size := h.prog.within
theorem PM.keep (h : PM w x b M mb jb s n F D) (hk : Keep K x y) (hl : Bel w y) (hm : mb ∉ K) (hF : ∀ k ∈ F, k ∉ K) (hD : ∀ k ∈ D, k ∉ K) : PM w y b M mb jb s n F D := by
 obtain ⟨fp, fc, h1, h2, h3⟩ := h.box
 exact ⟨h.prog.keep hk hF, h.ok, h.j.keep (hk.block jb h.j.lt (hD jb h.jd)), hl, h.std, ⟨fp, fc, hk.at h1 hm, h2.keep hk (fun hne a ha => hD _ (h3 hne a ha)), h3⟩, h.mout, h.jd, fun k hk' => ⟨(h.dw k hk').1, (h.dw k hk').2.1, Nat.lt_of_lt_of_le (h.dw k hk').2.2 hk.size⟩⟩
theorem PM.bel (h : PM w x b M mb jb s n F D) (hb : Bel x y) : PM w y b M mb jb s n F D := h.keep (Keep.of_bel hb []) (h.low.trans hb) (by simp) (by simp) (by simp)
theorem PM.js (h : PM w x b M mb jb s n F D) : JS w.heap.size x b M F jb manB 100000 := js_of h.std h.low h.prog h.ok h.j (h.dw jb h.jd).2.1
theorem PM.step (h : PM w x b M mb jb s n F D) (hT : ProgTo w.heap.size x y b M1 F) (hM : M1.ok) : ∃ F1, PM w y b M1 mb jb s n F1 D ∧ Keep F x y ∧ ∀ k ∈ F1, k ∈ F ∨ x.heap.size ≤ k := by
 obtain ⟨F1, h1, h2, h3⟩ := hT
 obtain ⟨fp, fc, q1, q2, q3⟩ := h.box
 have hmn : mb ∉ F1 := fun hm => by
  rcases h3 mb hm with h4 | h4
  ·exact h.mout.1 h4
  ·have := h.mlt; omega
 refine ⟨F1, ⟨h1, hM, h.j.keep (h2.block jb h.j.lt (h.dw jb h.jd).2.1), ((Keep.of_bel h.low F).trans h2 (fun k hk => Or.inl hk)).bel (fun k hk => (h.prog.within k hk).1), h.std, ⟨fp, fc, h2.at q1 h.mout.1, q2.keep h2 (fun hne a ha => (h.dw _ (q3 hne a ha)).2.1), q3⟩, ⟨hmn, h.mout.2⟩, h.jd, fun k hk => ⟨(h.dw k hk).1, fun hm => ?_, Nat.lt_of_lt_of_le (h.dw k hk).2.2 h2.size⟩⟩, h2, h3⟩
 rcases h3 k hm with h4 | h4
 ·exact (h.dw k hk).2.1 h4
 ·have := (h.dw k hk).2.2; omega
theorem PM.setn (h : PM w x b M mb jb s n F D) (v : Int) (hv : v = (n1 : Int)) : PM w (x.setCell ⟨mb, 6, none⟩ (.int .i64 v)) b M mb jb s n1 F D := by
 subst hv
 obtain ⟨fp, fc, q1, q2, q3⟩ := h.box
 have hk := keep_set x mb 6 (.int .i64 (n1 : Int))
 have hm : ∀ k, k ≠ mb → k ∉ [mb] := fun k hk => by simpa using hk
 exact ⟨h.prog.keep hk (fun k hk' => hm k (fun e => h.mout.1 (e ▸ hk'))), h.ok, h.j.keep (hk.block jb h.j.lt (hm jb (h.dw jb h.jd).1)), keep_bel1 hk h.low h.mout.2, h.std,
  ⟨fp, fc, blk_set q1 6 _, q2.keep hk (fun hne a ha => hm _ (h.dw _ (q3 hne a ha)).1), q3⟩, h.mout, h.jd, fun k hk' => ⟨(h.dw k hk').1, (h.dw k hk').2.1, Nat.lt_of_lt_of_le (h.dw k hk').2.2 hk.size⟩⟩
theorem PM.sets (h : PM w x b M mb jb s n F D) (fp : Option Addr) (fc : Nat) (hp : PlsAt x fp s1.files) (hd : s1.files ≠ [] → ∀ a, fp = some a → a.block ≠ mb ∧ a.block ∉ F) :
  PM w (((((x.setCell ⟨mb, 1, none⟩ (.slice fp s1.files.length fc)).setCell ⟨mb, 2, none⟩ (.int .i64 s1.next)).setCell ⟨mb, 3, none⟩ (.int .i64 s1.seq)).setCell ⟨mb, 4, none⟩ (.int .i64 s1.log)).setCell ⟨mb, 5, none⟩ (.string s1.mt)) b M mb jb s1 n F (jb :: (if s1.files = [] then [] else blkL fp)) := by
 obtain ⟨fp0, fc0, q1, q2, q3⟩ := h.box
 have hk : Keep [mb] x (((((x.setCell ⟨mb, 1, none⟩ (.slice fp s1.files.length fc)).setCell ⟨mb, 2, none⟩ (.int .i64 s1.next)).setCell ⟨mb, 3, none⟩ (.int .i64 s1.seq)).setCell ⟨mb, 4, none⟩ (.int .i64 s1.log)).setCell ⟨mb, 5, none⟩ (.string s1.mt)) := keep57
 have hm : ∀ k, k ≠ mb → k ∉ [mb] := fun k hk => by simpa using hk
 refine ⟨h.prog.keep hk (fun k hk' => hm k (fun e => h.mout.1 (e ▸ hk'))), h.ok, h.j.keep (hk.block jb h.j.lt (hm jb (h.dw jb h.jd).1)), keep_bel1 hk h.low h.mout.2, h.std,
  ⟨fp, fc, set57 q1, hp.keep hk (fun hne a ha => hm _ (hd hne a ha).1), fun hne a ha => ?_⟩, h.mout, by simp, fun k hk' => ?_⟩
 ·rw [if_neg hne]; exact List.mem_cons_of_mem _ (mem_blkL ha)
 ·rcases List.mem_cons.1 hk' with rfl | hk'
  ·exact ⟨(h.dw _ h.jd).1, (h.dw _ h.jd).2.1, Nat.lt_of_lt_of_le (h.dw _ h.jd).2.2 hk.size⟩
  ·split at hk'
   ·cases hk'
   ·rename_i hne
    cases fp with
    | none => cases hk'
    | some a =>
     simp only [blkL, List.mem_singleton] at hk'
     subst hk'
     exact ⟨(hd hne a rfl).1, (hd hne a rfl).2, Nat.lt_of_lt_of_le (hp.lt hne a rfl) hk.size⟩
def PX (w x0 : World) (F0 D0 A : List Nat) (y : World) (b : Nat) (M : RS) (mb jb : Nat) (s : MS) (n : Nat) : Prop :=
 ∃ F D, PM w y b M mb jb s n F D ∧ Keep (mb :: F0) x0 y ∧ (∀ k ∈ F, k ∈ F0 ∨ x0.heap.size ≤ k) ∧ ∀ k ∈ D, k ∈ D0 ∨ x0.heap.size ≤ k ∨ k ∈ A
theorem PM.px (h : PM w x b M mb jb s n F D) (A : List Nat) : PX w x F D A x b M mb jb s n := ⟨F, D, h, Keep.refl _ _, fun k hk => Or.inl hk, fun k hk => Or.inl hk⟩
theorem PX.bel (h : PX w x0 F0 D0 A y b M mb jb s n) (hb : Bel y z) : PX w x0 F0 D0 A z b M mb jb s n := by
 obtain ⟨F, D, h1, h2, h3, h4⟩ := h
 exact ⟨F, D, h1.bel hb, h2.then hb, h3, h4⟩
theorem PX.low (h : PX w x0 F0 D0 A y b M mb jb s n) : Bel w y := by obtain ⟨F, D, h1, h2, h3, h4⟩ := h; exact h1.low
theorem PX.good (h : PX w x0 F0 D0 A y b M mb jb s n) : M.ok := by obtain ⟨F, D, h1, h2, h3, h4⟩ := h; exact h1.ok
theorem PX.kp (h : PX w x0 F0 D0 A y b M mb jb s n) : Keep (mb :: F0) x0 y := by obtain ⟨F, D, h1, h2, h3, h4⟩ := h; exact h2
theorem PX.size (h : PX w x0 F0 D0 A y b M mb jb s n) : x0.heap.size ≤ y.heap.size := h.kp.size
theorem PX.boxes (h : PX w x0 F0 D0 A y b M mb jb s n) : ∃ fp fc, y.heap[mb]? = some (.cells #[.pointer (some ⟨jb, 0, none⟩), .slice fp s.files.length fc, .int .i64 s.next, .int .i64 s.seq, .int .i64 s.log, .string s.mt, .int .i64 (n : Int)] 110 (0, 0)) ∧ PlsAt y fp s.files := by
 obtain ⟨F, D, h1, -⟩ := h
 obtain ⟨fp, fc, q1, q2, -⟩ := h1.box
 exact ⟨fp, fc, q1, q2⟩
theorem PX.rebase {x1 : World} (h : PX w x1 F0 D0 A y b M mb jb s n) (hb : Bel x0 x1) : PX w x0 F0 D0 A y b M mb jb s n := by
 obtain ⟨F, D, h1, h2, h3, h4⟩ := h
 exact ⟨F, D, h1, (Keep.of_bel hb _).trans h2 (fun k hk => Or.inl hk), fun k hk => (h3 k hk).imp id (fun h => Nat.le_trans hb.size h), fun k hk => (h4 k hk).imp id (fun h => h.imp (fun h => Nat.le_trans hb.size h) id)⟩
theorem PX.call (h : PX w x0 F0 D0 A y b M mb jb s n) {fn : FuncId} {args : Array Value} {E : Ending → Prop} (hM1 : M1.ok)
  (hc : ∀ F, JS w.heap.size y b M F jb manB 100000 → Calls Tryz.prog fn args y fun e z => E e ∧ ProgTo w.heap.size y z b M1 F) :
  Calls Tryz.prog fn args y fun e z => E e ∧ PX w x0 F0 D0 A z b M1 mb jb s n := by
 obtain ⟨F, D, h1, h2, h3, h4⟩ := h
 refine (hc F h1.js).mono ?_
 rintro e z ⟨he, hT⟩
 obtain ⟨F1, k1, k2, k3⟩ := h1.step hT hM1
 refine ⟨he, F1, D, k1, h2.trans k2 (fun k hk => (h3 k hk).imp (fun h => by simp [h]) id), fun k hk => ?_, h4⟩
 rcases k3 k hk with h | h
 ·exact h3 k h
 ·exact Or.inr (Nat.le_trans h2.size h)
theorem PX.look (h : PX w x0 F0 D0 A y b M mb jb s n) {fn : FuncId} {args : Array Value} {E : Ending → Prop}
  (hc : ∀ F, JS w.heap.size y b M F jb manB 100000 → Calls Tryz.prog fn args y fun e z => E e ∧ Bel y z) :
  Calls Tryz.prog fn args y fun e z => E e ∧ PX w x0 F0 D0 A z b M mb jb s n ∧ Bel y z := by
 have h0 := h
 obtain ⟨F, D, h1, h2, h3, h4⟩ := h
 refine (hc F h1.js).mono ?_
 rintro e z ⟨he, hb⟩
 exact ⟨he, h0.bel hb, hb⟩
theorem PX.setn (h : PX w x0 F0 D0 A y b M mb jb s n) (v : Int) (hv : v = (n1 : Int)) : PX w x0 F0 D0 A (y.setCell ⟨mb, 6, none⟩ (.int .i64 v)) b M mb jb s n1 := by
 obtain ⟨F, D, h1, h2, h3, h4⟩ := h
 exact ⟨F, D, h1.setn v hv, h2.setCell (p := ⟨mb, 6, none⟩) (Or.inl (by simp)) _, h3, h4⟩
theorem PX.sets (h : PX w x0 F0 D0 A z b M mb jb s n) (hb : Bel z y) (fp : Option Addr) (fc : Nat) (hp : PlsAt y fp s1.files)
  (hd : s1.files ≠ [] → ∀ a, fp = some a → z.heap.size ≤ a.block ∨ (a.block ∈ A ∧ a.block ∉ mb :: F0 ∧ a.block < x0.heap.size)) :
  PX w x0 F0 D0 A (((((y.setCell ⟨mb, 1, none⟩ (.slice fp s1.files.length fc)).setCell ⟨mb, 2, none⟩ (.int .i64 s1.next)).setCell ⟨mb, 3, none⟩ (.int .i64 s1.seq)).setCell ⟨mb, 4, none⟩ (.int .i64 s1.log)).setCell ⟨mb, 5, none⟩ (.string s1.mt)) b M mb jb s1 n := by
 have hsz := h.size
 obtain ⟨F, D, h1, h2, h3, h4⟩ := h
 refine ⟨F, _, (h1.bel hb).sets fp fc hp (fun hne a ha => ?_), (h2.then hb).trans (keep57.mono (fun k hk => hk)) (fun k hk => Or.inl (by rw [List.mem_singleton] at hk; simp [hk])), h3, fun k hk => ?_⟩
 ·rcases hd hne a ha with h | ⟨-, h5, h6⟩
  ·exact ⟨fun e => by have := h1.mlt; omega, fun hm => by have := (h1.flt _ hm).2; omega⟩
  ·refine ⟨fun e => h5 (by simp [e]), fun hm => ?_⟩
   rcases h3 _ hm with h | h
   ·exact h5 (by simp [h])
   ·omega
 ·rcases List.mem_cons.1 hk with rfl | hk
  ·exact h4 _ h1.jd
  ·split at hk
   ·cases hk
   ·rename_i hne
    cases fp with
    | none => cases hk
    | some a =>
     simp only [blkL, List.mem_singleton] at hk
     subst hk
     rcases hd hne a rfl with h | ⟨h, -⟩
     ·exact Or.inr (Or.inl (by omega))
     ·exact Or.inr (Or.inr h)
end

theorem ref_in {n₀ : Nat} {w : World} {b : Nat} {M : RS} {F : List Nat} (h : RefP n₀ w b M F) : ∀ k ∈ F, n₀ ≤ k ∧ k < w.heap.size := by
 obtain ⟨v, _, _, _, h⟩ := h
 exact h
structure RM (w x : World) (b : Nat) (M : RS) (mb jb : Nat) (s : MS) (n : Nat) (F D : List Nat) : Prop where
 prog : RefP w.heap.size x b M F
 ok : M.ok
 j : JAt x jb b manB 100000
 low : Bel w x
 std : Std w
 box : ∃ fp fc, x.heap[mb]? = some (.cells #[.pointer (some ⟨jb, 0, none⟩), .slice fp s.files.length fc, .int .i64 s.next, .int .i64 s.seq, .int .i64 s.log, .string s.mt, .int .i64 (n : Int)] 62 (0, 0)) ∧ PlsAt x fp s.files ∧ (s.files ≠ [] → ∀ a, fp = some a → a.block ∈ D)
 mout : mb ∉ F ∧ w.heap.size ≤ mb
 jd : jb ∈ D
 dw : ∀ k ∈ D, k ≠ mb ∧ k ∉ F ∧ k < x.heap.size
section
variable {w x y z x0 : World} {b mb jb : Nat} {M M1 : RS} {s s1 : MS} {n n1 : Nat} {F F0 F1 D D0 D1 A K : List Nat}
theorem RM.mlt (h : RM w x b M mb jb s n F D) : mb < x.heap.size := by obtain ⟨fp, fc, h1, -⟩ := h.box; exact box_lt h1
theorem RM.flt (h : RM w x b M mb jb s n F D) : ∀ k ∈ F, w.heap.size ≤ k ∧ k < x.heap.size := ref_in h.prog
theorem RM.keep (h : RM w x b M mb jb s n F D) (hk : Keep K x y) (hl : Bel w y) (hm : mb ∉ K) (hF : ∀ k ∈ F, k ∉ K) (hD : ∀ k ∈ D, k ∉ K) : RM w y b M mb jb s n F D := by
 obtain ⟨fp, fc, h1, h2, h3⟩ := h.box
 exact ⟨h.prog.keep hk hF, h.ok, h.j.keep (hk.block jb h.j.lt (hD jb h.jd)), hl, h.std, ⟨fp, fc, hk.at h1 hm, h2.keep hk (fun hne a ha => hD _ (h3 hne a ha)), h3⟩, h.mout, h.jd, fun k hk' => ⟨(h.dw k hk').1, (h.dw k hk').2.1, Nat.lt_of_lt_of_le (h.dw k hk').2.2 hk.size⟩⟩
theorem RM.bel (h : RM w x b M mb jb s n F D) (hb : Bel x y) : RM w y b M mb jb s n F D := h.keep (Keep.of_bel hb []) (h.low.trans hb) (by simp) (by simp) (by simp)
theorem RM.js (h : RM w x b M mb jb s n F D) : RJS w.heap.size x b M F jb manB 100000 := ⟨h.prog, h.ok, h.j, (h.dw jb h.jd).2.1⟩
theorem RM.step (h : RM w x b M mb jb s n F D) (hT : RefTo w.heap.size x y b M1 F) (hM : M1.ok) : ∃ F1, RM w y b M1 mb jb s n F1 D ∧ Keep F x y ∧ ∀ k ∈ F1, k ∈ F ∨ x.heap.size ≤ k := by
 obtain ⟨F1, h1, h2, h3⟩ := hT
 obtain ⟨fp, fc, q1, q2, q3⟩ := h.box
 have hmn : mb ∉ F1 := fun hm => by
  rcases h3 mb hm with h4 | h4
  ·exact h.mout.1 h4
  ·have := h.mlt; omega
 refine ⟨F1, ⟨h1, hM, h.j.keep (h2.block jb h.j.lt (h.dw jb h.jd).2.1), ((Keep.of_bel h.low F).trans h2 (fun k hk => Or.inl hk)).bel (fun k hk => (ref_in h.prog k hk).1), h.std, ⟨fp, fc, h2.at q1 h.mout.1, q2.keep h2 (fun hne a ha => (h.dw _ (q3 hne a ha)).2.1), q3⟩, ⟨hmn, h.mout.2⟩, h.jd, fun k hk => ⟨(h.dw k hk).1, fun hm => ?_, Nat.lt_of_lt_of_le (h.dw k hk).2.2 h2.size⟩⟩, h2, h3⟩
 rcases h3 k hm with h4 | h4
 ·exact (h.dw k hk).2.1 h4
 ·have := (h.dw k hk).2.2; omega
theorem RM.setn (h : RM w x b M mb jb s n F D) (v : Int) (hv : v = (n1 : Int)) : RM w (x.setCell ⟨mb, 6, none⟩ (.int .i64 v)) b M mb jb s n1 F D := by
 subst hv
 obtain ⟨fp, fc, q1, q2, q3⟩ := h.box
 have hk := keep_set x mb 6 (.int .i64 (n1 : Int))
 have hm : ∀ k, k ≠ mb → k ∉ [mb] := fun k hk => by simpa using hk
 exact ⟨h.prog.keep hk (fun k hk' => hm k (fun e => h.mout.1 (e ▸ hk'))), h.ok, h.j.keep (hk.block jb h.j.lt (hm jb (h.dw jb h.jd).1)), keep_bel1 hk h.low h.mout.2, h.std,
  ⟨fp, fc, blk_set q1 6 _, q2.keep hk (fun hne a ha => hm _ (h.dw _ (q3 hne a ha)).1), q3⟩, h.mout, h.jd, fun k hk' => ⟨(h.dw k hk').1, (h.dw k hk').2.1, Nat.lt_of_lt_of_le (h.dw k hk').2.2 hk.size⟩⟩
theorem RM.sets (h : RM w x b M mb jb s n F D) (fp : Option Addr) (fc : Nat) (hp : PlsAt x fp s1.files) (hd : s1.files ≠ [] → ∀ a, fp = some a → a.block ≠ mb ∧ a.block ∉ F) :
  RM w (((((x.setCell ⟨mb, 1, none⟩ (.slice fp s1.files.length fc)).setCell ⟨mb, 2, none⟩ (.int .i64 s1.next)).setCell ⟨mb, 3, none⟩ (.int .i64 s1.seq)).setCell ⟨mb, 4, none⟩ (.int .i64 s1.log)).setCell ⟨mb, 5, none⟩ (.string s1.mt)) b M mb jb s1 n F (jb :: (if s1.files = [] then [] else blkL fp)) := by
 obtain ⟨fp0, fc0, q1, q2, q3⟩ := h.box
 have hk : Keep [mb] x (((((x.setCell ⟨mb, 1, none⟩ (.slice fp s1.files.length fc)).setCell ⟨mb, 2, none⟩ (.int .i64 s1.next)).setCell ⟨mb, 3, none⟩ (.int .i64 s1.seq)).setCell ⟨mb, 4, none⟩ (.int .i64 s1.log)).setCell ⟨mb, 5, none⟩ (.string s1.mt)) := keep57
 have hm : ∀ k, k ≠ mb → k ∉ [mb] := fun k hk => by simpa using hk
 refine ⟨h.prog.keep hk (fun k hk' => hm k (fun e => h.mout.1 (e ▸ hk'))), h.ok, h.j.keep (hk.block jb h.j.lt (hm jb (h.dw jb h.jd).1)), keep_bel1 hk h.low h.mout.2, h.std,
  ⟨fp, fc, set57 q1, hp.keep hk (fun hne a ha => hm _ (hd hne a ha).1), fun hne a ha => ?_⟩, h.mout, by simp, fun k hk' => ?_⟩
 ·rw [if_neg hne]; exact List.mem_cons_of_mem _ (mem_blkL ha)
 ·rcases List.mem_cons.1 hk' with rfl | hk'
  ·exact ⟨(h.dw _ h.jd).1, (h.dw _ h.jd).2.1, Nat.lt_of_lt_of_le (h.dw _ h.jd).2.2 hk.size⟩
  ·split at hk'
   ·cases hk'
   ·rename_i hne
    cases fp with
    | none => cases hk'
    | some a =>
     simp only [blkL, List.mem_singleton] at hk'
     subst hk'
     exact ⟨(hd hne a rfl).1, (hd hne a rfl).2, Nat.lt_of_lt_of_le (hp.lt hne a rfl) hk.size⟩
def RX (w x0 : World) (F0 D0 A : List Nat) (y : World) (b : Nat) (M : RS) (mb jb : Nat) (s : MS) (n : Nat) : Prop :=
 ∃ F D, RM w y b M mb jb s n F D ∧ Keep (mb :: F0) x0 y ∧ (∀ k ∈ F, k ∈ F0 ∨ x0.heap.size ≤ k) ∧ ∀ k ∈ D, k ∈ D0 ∨ x0.heap.size ≤ k ∨ k ∈ A
theorem RM.px (h : RM w x b M mb jb s n F D) (A : List Nat) : RX w x F D A x b M mb jb s n := ⟨F, D, h, Keep.refl _ _, fun k hk => Or.inl hk, fun k hk => Or.inl hk⟩
theorem RX.bel (h : RX w x0 F0 D0 A y b M mb jb s n) (hb : Bel y z) : RX w x0 F0 D0 A z b M mb jb s n := by
 obtain ⟨F, D, h1, h2, h3, h4⟩ := h
 exact ⟨F, D, h1.bel hb, h2.then hb, h3, h4⟩
theorem RX.low (h : RX w x0 F0 D0 A y b M mb jb s n) : Bel w y := by obtain ⟨F, D, h1, h2, h3, h4⟩ := h; exact h1.low
theorem RX.good (h : RX w x0 F0 D0 A y b M mb jb s n) : M.ok := by obtain ⟨F, D, h1, h2, h3, h4⟩ := h; exact h1.ok
theorem RX.kp (h : RX w x0 F0 D0 A y b M mb jb s n) : Keep (mb :: F0) x0 y := by obtain ⟨F, D, h1, h2, h3, h4⟩ := h; exact h2
theorem RX.size (h : RX w x0 F0 D0 A y b M mb jb s n) : x0.heap.size ≤ y.heap.size := h.kp.size
theorem RX.boxes (h : RX w x0 F0 D0 A y b M mb jb s n) : ∃ fp fc, y.heap[mb]? = some (.cells #[.pointer (some ⟨jb, 0, none⟩), .slice fp s.files.length fc, .int .i64 s.next, .int .i64 s.seq, .int .i64 s.log, .string s.mt, .int .i64 (n : Int)] 62 (0, 0)) ∧ PlsAt y fp s.files := by
 obtain ⟨F, D, h1, -⟩ := h
 obtain ⟨fp, fc, q1, q2, -⟩ := h1.box
 exact ⟨fp, fc, q1, q2⟩
theorem RX.rebase {x1 : World} (h : RX w x1 F0 D0 A y b M mb jb s n) (hb : Bel x0 x1) : RX w x0 F0 D0 A y b M mb jb s n := by
 obtain ⟨F, D, h1, h2, h3, h4⟩ := h
 exact ⟨F, D, h1, (Keep.of_bel hb _).trans h2 (fun k hk => Or.inl hk), fun k hk => (h3 k hk).imp id (fun h => Nat.le_trans hb.size h), fun k hk => (h4 k hk).imp id (fun h => h.imp (fun h => Nat.le_trans hb.size h) id)⟩
theorem RX.call (h : RX w x0 F0 D0 A y b M mb jb s n) {fn : FuncId} {args : Array Value} {E : Ending → Prop} (hM1 : M1.ok)
  (hc : ∀ F, RJS w.heap.size y b M F jb manB 100000 → Calls Tryz.prog fn args y fun e z => E e ∧ RefTo w.heap.size y z b M1 F) :
  Calls Tryz.prog fn args y fun e z => E e ∧ RX w x0 F0 D0 A z b M1 mb jb s n := by
 obtain ⟨F, D, h1, h2, h3, h4⟩ := h
 refine (hc F h1.js).mono ?_
 rintro e z ⟨he, hT⟩
 obtain ⟨F1, k1, k2, k3⟩ := h1.step hT hM1
 refine ⟨he, F1, D, k1, h2.trans k2 (fun k hk => (h3 k hk).imp (fun h => by simp [h]) id), fun k hk => ?_, h4⟩
 rcases k3 k hk with h | h
 ·exact h3 k h
 ·exact Or.inr (Nat.le_trans h2.size h)
theorem RX.look (h : RX w x0 F0 D0 A y b M mb jb s n) {fn : FuncId} {args : Array Value} {E : Ending → Prop}
  (hc : ∀ F, RJS w.heap.size y b M F jb manB 100000 → Calls Tryz.prog fn args y fun e z => E e ∧ Bel y z) :
  Calls Tryz.prog fn args y fun e z => E e ∧ RX w x0 F0 D0 A z b M mb jb s n ∧ Bel y z := by
 have h0 := h
 obtain ⟨F, D, h1, h2, h3, h4⟩ := h
 refine (hc F h1.js).mono ?_
 rintro e z ⟨he, hb⟩
 exact ⟨he, h0.bel hb, hb⟩
theorem RX.setn (h : RX w x0 F0 D0 A y b M mb jb s n) (v : Int) (hv : v = (n1 : Int)) : RX w x0 F0 D0 A (y.setCell ⟨mb, 6, none⟩ (.int .i64 v)) b M mb jb s n1 := by
 obtain ⟨F, D, h1, h2, h3, h4⟩ := h
 exact ⟨F, D, h1.setn v hv, h2.setCell (p := ⟨mb, 6, none⟩) (Or.inl (by simp)) _, h3, h4⟩
theorem RX.sets (h : RX w x0 F0 D0 A z b M mb jb s n) (hb : Bel z y) (fp : Option Addr) (fc : Nat) (hp : PlsAt y fp s1.files)
  (hd : s1.files ≠ [] → ∀ a, fp = some a → z.heap.size ≤ a.block ∨ (a.block ∈ A ∧ a.block ∉ mb :: F0 ∧ a.block < x0.heap.size)) :
  RX w x0 F0 D0 A (((((y.setCell ⟨mb, 1, none⟩ (.slice fp s1.files.length fc)).setCell ⟨mb, 2, none⟩ (.int .i64 s1.next)).setCell ⟨mb, 3, none⟩ (.int .i64 s1.seq)).setCell ⟨mb, 4, none⟩ (.int .i64 s1.log)).setCell ⟨mb, 5, none⟩ (.string s1.mt)) b M mb jb s1 n := by
 have hsz := h.size
 obtain ⟨F, D, h1, h2, h3, h4⟩ := h
 refine ⟨F, _, (h1.bel hb).sets fp fc hp (fun hne a ha => ?_), (h2.then hb).trans (keep57.mono (fun k hk => hk)) (fun k hk => Or.inl (by rw [List.mem_singleton] at hk; simp [hk])), h3, fun k hk => ?_⟩
 ·rcases hd hne a ha with h | ⟨-, h5, h6⟩
  ·exact ⟨fun e => by have := h1.mlt; omega, fun hm => by have := (h1.flt _ hm).2; omega⟩
  ·refine ⟨fun e => h5 (by simp [e]), fun hm => ?_⟩
   rcases h3 _ hm with h | h
   ·exact h5 (by simp [h])
   ·omega
 ·rcases List.mem_cons.1 hk with rfl | hk
  ·exact h4 _ h1.jd
  ·split at hk
   ·cases hk
   ·rename_i hne
    cases fp with
    | none => cases hk
    | some a =>
     simp only [blkL, List.mem_singleton] at hk
     subst hk
     rcases hd hne a rfl with h | ⟨h, -⟩
     ·exact Or.inr (Or.inl (by omega))
     ·exact Or.inr (Or.inr h)
end
end Go.Proofs.YtfbiinnenlgkfaaGreatDoor
set_option maxRecDepth 100000
namespace Go.Proofs.YtfbiinnenlgkfaaGreatDoor
open Go.RowKit Go.Deep

theorem lastM_take {L : List (List (List UInt8))} {i : Nat} (hi : i < L.length) (st : MS) : lastM st (L.take (i + 1)) = oneM (lastM st (L.take i)) L[i] := by
 rw [List.take_add_one, List.getElem?_eq_getElem hi, lastM_append]; rfl
theorem oneM_skip {b : List (List UInt8)} (h : b.length ≠ 1) (st : MS) : oneM st b = st := by
 match b, h with
 | [], _ => rfl
 | [t], h => exact absurd rfl h
 | _ :: _ :: _, _ => rfl
theorem oneM_yes {t : List UInt8} (h : unpEr t = 0) (st : MS) : oneM st [t] = unpSt t := by
 rcases unp_cases t with ⟨_, h2, _⟩ | ⟨h1, _⟩
 ·show (unpackM t).getD st = _
  rw [h2]; rfl
 ·rw [h1] at h; cases h
theorem oneM_no {t : List UInt8} (h : unpEr t ≠ 0) (st : MS) : oneM st [t] = st := by
 rcases unp_cases t with ⟨h1, _⟩ | ⟨_, h2, _⟩
 ·exact absurd h1 h
 ·show (unpackM t).getD st = _
  rw [h2]; rfl
theorem row_get13 {P : Nat → Prop} {x : World} {p : Option Addr} {L : List (List (List UInt8))} (h : RowL P x p L) {i : Nat} (hi : i < L.length) :
  ∃ a q c, p = some a ∧ x.cell? (a.add i) = some (.slice q L[i].length c) ∧ StrsAt x q L[i] := by
 obtain ⟨H, h1, h2, h3⟩ := h.ex
 have hs : H[i]? = some (H[i]'(by omega)) := List.getElem?_eq_getElem _
 obtain ⟨a, ha, -, hc⟩ := h2 i _ hs
 have hq := h3 i _ L[i] hs (List.getElem?_eq_getElem hi)
 exact ⟨a, _, _, ha, by rw [hc]; show some (Value.slice _ _ _) = _; rw [hq.len], hq.at_⟩
def LastPost (w : World) (s : MS) (e : Ending) (y : World) : Prop := ∃ q d, e = .returned (.agg #[.slice q s.files.length d, .int .i64 s.next, .int .i64 s.seq, .int .i64 s.log, .string s.mt]) ∧
 PlsAt y q s.files ∧ (∀ a, q = some a → w.heap.size ≤ a.block) ∧ Bel w y
set_option maxHeartbeats 8000000 in
theorem last13_any (P : Nat → Prop) (w : World) (p : Option Addr) (c : Nat) (L : List (List (List UInt8))) (h : RowL P w p L) (hL : L.length ≤ 1000000000) (ht : ∀ b ∈ L, ∀ t ∈ b, t.length ≤ 1000000) :
  Calls Tryz.prog 59 #[.slice p L.length c] w (LastPost w (lastM initM L)) := by
 have H := Lib.hid h
 have HTT := Lib.hid ht
 clear h ht
 go_enter Tryz.func59, Tryz.ntmps59
 go_wp2_with (fail)
 obtain ⟨S, hS⟩ : ∃ S, S = w.heap.size + 1 := ⟨_, rfl⟩
 obtain ⟨w2, hw2⟩ : ∃ w2, w2 = ((w.alloc (.cells #[.slice none 0 0, .int .i64 0, .int .i64 0, .int .i64 0, .string ⟨#[]⟩] 24)).alloc (.cells #[.slice none 0 0, .int .i64 1, .int .i64 0, .int .i64 1, .string ⟨#[]⟩] 24)) := ⟨_, rfl⟩
 have kR : w2.heap[w.heap.size]? = some (.cells #[.slice none 0 0, .int .i64 0, .int .i64 0, .int .i64 0, .string ⟨#[]⟩] 24 (0, 0)) := by
  rw [hw2]; exact (Below.block ((Bel.refl (w.alloc _)).alloc _) w.heap.size (by simp)).trans (heap_alloc_new w _)
 have kS : w2.heap[S]? = some (.cells #[.slice none 0 0, .int .i64 1, .int .i64 0, .int .i64 1, .string ⟨#[]⟩] 24 (0, 0)) := by
  have e : (w.alloc (.cells #[.slice none 0 0, .int .i64 0, .int .i64 0, .int .i64 0, .string ⟨#[]⟩] 24)).heap.size = S := by rw [hS]; simp
  rw [hw2, ← e]; exact heap_alloc_new _ _
 have HB2 := Lib.hid (show Bel w w2 by rw [hw2]; exact ((Bel.refl w).alloc _).alloc _)
 have HZ2 := Lib.hid (show w2.heap.size = S + 1 by rw [hw2, hS]; simp)
 rw [← hw2, ← hS]
 have HS := Lib.hid hS
 have HKR := Lib.hid kR
 have HKS := Lib.hid kS
 clear hw2 hS kR kS
 go_loopw [11] (fun iv x => ∃ (i : Nat) (st : MS) (q : Option Addr) (d : Nat), iv = .int .i64 i ∧ i ≤ L.length ∧ st = lastM initM (L.take i) ∧ x.heap[S]? = some (.cells #[.slice q st.files.length d, .int .i64 st.next, .int .i64 st.seq, .int .i64 st.log, .string st.mt] 24 (0, 0)) ∧
  PlsAt x q st.files ∧ (∀ a, q = some a → S < a.block) ∧ Keep [S] w2 x) (fun iv _ => L.length - (intOf iv).toNat)
 case atStart => exact ⟨0, initM, none, 0, rfl, Nat.zero_le _, rfl, HKS.out, PlsAt.nil _ _, (fun a ha => by cases ha), Keep.refl _ _⟩
 case round =>
  obtain ⟨i, st, q, d, rfl, hi, hst, hbx, hpl, hql, hkp⟩ := hrel
  have HST := Lib.hid hst
  have HBX := Lib.hid hbx
  have HPL := Lib.hid hpl
  have HQL := Lib.hid hql
  have HKP := Lib.hid hkp
  have HBW := Lib.hid (bel_keep HB2.out hkp (fun k hk => by rw [List.mem_singleton] at hk; have := HS.out; omega))
  have HZW := Lib.hid (show S + 1 ≤ wr.heap.size by rw [← HZ2.out]; exact hkp.size)
  clear hst hbx hpl hql hkp
  by_cases hil : i < L.length
  ·have hii : (i : Int) < (L.length : Int) := by omega
   obtain ⟨a, bq, bc, rfl, hc, hstrs⟩ := row_get13 (H.out.bel HBW.out) hil
   have HTK := Lib.hid (lastM_take hil initM)
   have HTB := Lib.hid (HTT.out L[i] (List.getElem_mem hil))
   obtain ⟨B, hB⟩ : ∃ B, B = L[i] := ⟨_, rfl⟩
   rw [← hB] at hc hstrs HTK HTB
   rw [← HST.out] at HTK
   have HSTR := Lib.hid hstrs
   clear hB hstrs
   by_cases hb1 : B.length = 1
   ·obtain ⟨t, rfl⟩ : ∃ t, B = [t] := by
     match B, hb1 with
     | [t], _ => exact ⟨t, rfl⟩
    obtain ⟨a1, rfl, hc1⟩ := HSTR.out 0 (by simp)
    have hc1' : wr.cell? a1 = some (.string ⟨t.toArray⟩) := by
     have : a1.add 0 = a1 := by simp [Addr.add]
     rw [this] at hc1; exact hc1
    have htl : (⟨t.toArray⟩ : ByteArray).size ≤ 1000000 := by rw [show (⟨t.toArray⟩ : ByteArray).size = t.length by show t.toArray.size = _; simp]; exact HTB.out t (by simp)
    have HUN := Lib.hid (show ∀ z, Calls Tryz.prog 13 #[.string ⟨t.toArray⟩] z fun e y => ∃ p c, e = .returned (.tuple #[.agg #[.slice p (unpSt t).files.length c, .int .i64 (unpSt t).next, .int .i64 (unpSt t).seq, .int .i64 (unpSt t).log, .string (unpSt t).mt], .int .i64 (unpEr t)]) ∧ OwnG plElP z.heap.size y (.slice p (unpSt t).files.length c) (unpSt t).files ∧ Bel z y from fun z => by
     have := unpack13_any ⟨t.toArray⟩ z htl
     rw [show (⟨t.toArray⟩ : ByteArray).data.toList = t by simp] at this
     exact this)
    simp only [List.length_singleton] at hc
    clear hc1
    go_wp2_with (fail)
    refine (HUN.out _).mono ?_
    rintro e x1 ⟨q1, d1, rfl, ho1, hb1'⟩
    have HO1 := Lib.hid ho1
    have HB1 := Lib.hid hb1'
    have HU := Lib.hid (unp_cases t)
    obtain ⟨u, hu⟩ : ∃ u, u = unpSt t := ⟨_, rfl⟩
    have HUE := Lib.hid hu
    rw [← hu] at HO1 ⊢
    clear ho1 hb1' hu
    by_cases he : unpEr t = 0
    ·have HNX := Lib.hid (show u = lastM initM (L.take (i + 1)) by rw [HTK.out, oneM_yes he, HUE.out])
     rw [he]
     have HA := Lib.hid (show Bel x1 (x1.alloc (.cells #[.slice q1 u.files.length d1, .int .i64 u.next, .int .i64 u.seq, .int .i64 u.log, .string u.mt] 24)) from (Bel.refl x1).alloc _)
     obtain ⟨⟨s0, s1, s2, s3, s4⟩, f0, f1, f2, f3, f4⟩ := box5 (box_bel (box_bel HBX.out HB1.out) ((Bel.refl x1).alloc (.cells #[.slice q1 u.files.length d1, .int .i64 u.next, .int .i64 u.seq, .int .i64 u.log, .string u.mt] 24)))
     clear he
     go_wp2_with (fail)
     go_roundw
     case rel =>
      refine ⟨i + 1, u, q1, d1, by go_num, hil, HNX.out, set5 (box_bel (box_bel HBX.out HB1.out) HA.out), ?_, fun a ha => ?_, ((HKP.out.then HB1.out).then HA.out).trans keep5 (fun k hk => Or.inl hk)⟩
      ·refine (pls_ownP (HO1.out.bel HA.out)).keep keep5 (fun hne a ha hm => ?_)
       rw [List.mem_singleton] at hm
       subst ha
       have := (HO1.out.lt _ rfl).1
       have := HZW.out; omega
      ·subst ha
       have := (HO1.out.lt _ rfl).1
       have := HZW.out; omega
     case measure => simp [intOf]; omega
    ·have HNX := Lib.hid (show st = lastM initM (L.take (i + 1)) by rw [HTK.out, oneM_no he])
     have he1 : (unpEr t == 0) = false := by rw [beq_eq_false_iff_ne]; exact he
     have HB1' := Lib.hid (show Bel wr (x1.alloc (.cells #[.slice q1 u.files.length d1, .int .i64 u.next, .int .i64 u.seq, .int .i64 u.log, .string u.mt] 24)) from HB1.out.alloc _)
     generalize unpEr t = er at *
     clear he
     go_wp2_with (fail)
     go_roundw
     case rel => exact ⟨i + 1, st, q, d, by go_num, hil, HNX.out, box_bel HBX.out HB1'.out, HPL.out.bel HB1'.out, HQL.out, HKP.out.then HB1'.out⟩
     case measure => simp [intOf]; omega
   ·have HNX := Lib.hid (show st = lastM initM (L.take (i + 1)) by rw [HTK.out, oneM_skip hb1])
    have hb1i : ¬ (B.length : Int) = 1 := by omega
    go_wp2_with (fail)
    go_roundw
    case rel => exact ⟨i + 1, st, q, d, by go_num, hil, HNX.out, HBX.out, HPL.out, HQL.out, HKP.out⟩
    case measure => simp [intOf]; omega
  ·have hii : ¬ (i : Int) < (L.length : Int) := by omega
   have HNX := Lib.hid (show lastM initM L = st by rw [HST.out, List.take_of_length_le (by omega)])
   obtain ⟨⟨s0, s1, s2, s3, s4⟩, -⟩ := box5 HBX.out
   obtain ⟨⟨r0, r1, r2, r3, r4⟩, f0, f1, f2, f3, f4⟩ := box5 (HKP.out.at HKR.out (by rw [List.mem_singleton]; have := HS.out; omega))
   go_wp2_with (fail)
   refine bodyPost_ret (v := .agg #[.slice q st.files.length d, .int .i64 st.next, .int .i64 st.seq, .int .i64 st.log, .string st.mt]) (by simp [results, Tryz.results59, go_sem, r0, r1, r2, r3, r4, f0, f1, f2, f3, f4]) rfl ⟨q, d, by rw [HNX.out], ?_, fun a ha => ?_, ?_⟩
   ·rw [HNX.out]
    refine HPL.out.keep (keep5 (k := w.heap.size)) (fun hne a ha hm => ?_)
    rw [List.mem_singleton] at hm
    have := HQL.out a ha
    have := HS.out; omega
   ·have := HQL.out a ha
    have := HS.out; omega
   ·repeat' first | exact HBW.out | refine Bel.setCell ?_ (by simp) _ | refine Bel.drewN ?_ _
end Go.Proofs.YtfbiinnenlgkfaaGreatDoor
