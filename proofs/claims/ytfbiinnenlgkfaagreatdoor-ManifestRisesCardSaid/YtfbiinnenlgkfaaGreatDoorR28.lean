/- JSegs, JRSegs, JTurn, JRTurn, laid together. -/
import Derived.Test.YtfbiinnenlgkfaaGreatDoorR25
import Derived.Test.YtfbiinnenlgkfaaGreatDoorR16
import Derived.Test.YtfbiinnenlgkfaaGreatDoorR18
import Derived.Sort.OwnSortedInts
import Derived.Test.YtfbiinnenlgkfaaGreatDoorR2
import Derived.Test.YtfbiinnenlgkfaaGreatDoorR33
import Derived.Test.YtfbiinnenlgkfaaGreatDoorR26
set_option linter.unusedSimpArgs false
set_option linter.unusedVariables false
namespace Go.Proofs.YtfbiinnenlgkfaaGreatDoor
open Go.RowKit Go.Deep Go.Maps

def intEl : El Int := ⟨3, 52, 1, fun i => [.int .i64 i]⟩
theorem intOk : ElOk intEl 8 := ⟨fun _ => rfl, fun a u hu => by simp [intEl] at hu; subst hu; rfl, by kernel_rfl, ⟨.int .i64 0, by kernel_rfl, rfl⟩, by decide⟩
theorem intAll (l : List Int) : intEl.all l = l.map (Value.int .i64) := by
 induction l with
 | nil => rfl
 | cons x l ih => simp only [El.all, List.flatMap_cons, List.map_cons] at *; rw [ih]; rfl
theorem sort_own {B : Nat} {w : World} {v : Value} {l : List Int} (h : OwnG intEl B w v l) (hB : B ≤ w.heap.size) (hl : l.length ≤ 1000) :
  Calls Tryz.prog 122 #[v] w fun e w' => e = .returned (.tuple #[]) ∧ OwnG intEl B w' v (l.mergeSort fun x y => decide (x ≤ y)) ∧ Below B w w' := by
 obtain ⟨h1, h2⟩ := h
 rcases h2 with ⟨rfl, h0⟩ | ⟨g, cap, cur, rfl, hg, hh, hc, hx, hsz, htk⟩
 ·obtain rfl : l = [] := List.length_eq_zero_iff.1 h0
  refine (Any.slices_Sort_int_none Tryz.lays189 none 0 w).mono ?_
  rintro e w' ⟨rfl, rfl⟩
  exact ⟨rfl, by rw [List.mergeSort_nil]; exact OwnG.nil _ _ _, Below.refl _ _⟩
 ·have hgs : g < w.heap.size := (Array.getElem?_eq_some_iff.1 hh).1
  have ht : cur.toList.take l.length = l.map (Value.int .i64) := by
   rw [show intEl.n = 1 from rfl, Nat.mul_one] at htk; rw [← intAll]; exact htk
  have hlen : (l.mergeSort fun x y => decide (x ≤ y)).length = l.length := List.length_mergeSort _
  refine (Any.slices_Sort_int Tryz.lays189 g 0 cap l w (holds_of_blockI hh ht) hgs (by omega)).mono ?_
  rintro e w' ⟨rfl, n, os, rfl⟩
  refine ⟨rfl, ?_, ?_⟩
  ·have := ownsRow_sortedI (n := n) (os := os) (ts := l.mergeSort fun x y => decide (x ≤ y)) hlen hg hh hc hx (by rw [hsz]; rfl)
   unfold OwnG
   rw [intAll, hlen]
   exact this
  ·exact (Below.refl B w).grown (grownBy_sortedI _) hB (fun k hk => by simp at hk; omega)

def SgRel (p : List UInt8) (L : List FI) (w1 : World) (lv iv : Value) (x : World) : Prop :=
 ∃ k : Nat, iv = .int .i64 k ∧ k ≤ L.length ∧ OwnG intEl w1.heap.size x lv ((colL p (L.take k)).map fun n : Nat => (n : Int)) ∧ Bel w1 x
theorem col_snoc (p : List UInt8) (L : List FI) (k : Nat) (h : k < L.length) : colL p (L.take (k + 1)) = if segN p L[k].name = 0 then colL p (L.take k) else colL p (L.take k) ++ [segN p L[k].name] := by
 rw [List.take_add_one, List.getElem?_eq_getElem h]
 exact col_step p _ _
theorem col_len (p : List UInt8) (L : List FI) : (colL p L).length ≤ L.length := by
 unfold colL
 exact Nat.le_trans (List.length_filter_le _ _) (by simp)
set_option maxHeartbeats 4000000 in
theorem segs_any (n₀ : Nat) (w : World) (jb b : Nat) (p : ByteArray) (most : Int) (M : RS) (F : List Nat) (h : ProgAt n₀ w b M F) (hM : M.ok) (hj : JAt w jb b p most) (hp : p.size ≤ 100) (hstd : Std w) :
  Calls Tryz.prog 89 #[.pointer (some ⟨jb, 0, none⟩)] w fun e w' => ∃ v, e = .returned v ∧ OwnG intEl w.heap.size w' v ((segsL p.data.toList M.L).map fun n : Nat => (n : Int)) ∧ Bel w w' := by
 have HS := Lib.hid hstd; clear hstd
 have HJ := Lib.hid hj
 have c0 := hj.files
 have HP := Lib.hid h
 have HM := Lib.hid hM
 have h60 := hM.len
 clear hj h hM
 go_enter Tryz.func89, Tryz.ntmps89
 go_wp2_with (fail)
 refine (pnames_any n₀ w b M F HP.out HM.out.srt (good_len HM.out)).mono ?_
 rintro e w1 ⟨v, rfl, hnm, hb1⟩
 have HNM := Lib.hid hnm
 have HB1 := Lib.hid hb1
 obtain ⟨np, ncap, hnv⟩ := ownG_len hnm
 rw [List.length_map] at hnv
 subst hnv
 clear hnm hb1
 go_wp2_with (fail)
 go_loopw [3, 19] (fun lv iv x => SgRel p.data.toList M.L w1 lv iv x) (fun _ iv _ => M.L.length - (intOf iv).toNat)
 case atStart => exact ⟨0, rfl, Nat.zero_le _, OwnG.nil _ _ _, Bel.refl _⟩
 case round =>
  obtain ⟨k, rfl, hk, hown, hb⟩ := hrel
  have HB := Lib.hid hb
  have HV := Lib.hid hown
  obtain ⟨lp, lc, hlv⟩ := ownG_len hown
  rw [List.length_map] at hlv
  subst hlv
  clear hown hb
  by_cases hlt : k < M.L.length
  ·have hne : M.L.map (·.name) ≠ [] := by intro e; rw [List.map_eq_nil_iff] at e; rw [e] at hlt; simp at hlt
   obtain ⟨g, ncap', hv, _, hgl, _, hcs⟩ := ownG_cells strOk (HNM.out.bel HB.out) hne
   rw [List.length_map] at hv
   simp only [Value.slice.injEq, true_and] at hv
   obtain ⟨rfl, rfl⟩ := hv
   have e0 := hcs k M.L[k].name (by rw [List.getElem?_map, List.getElem?_eq_getElem hlt]; rfl) 0 _ rfl
   have hcn := col_snoc p.data.toList M.L k hlt
   have hyn := name_len (HM.out.each M.L[k] (List.getElem_mem hlt)).1
   obtain ⟨y, hy⟩ : ∃ y, y = M.L[k] := ⟨_, rfl⟩
   rw [← hy] at e0 hcn hyn
   simp only [strEl, Nat.mul_one, Nat.add_zero] at e0
   have hsz := str_len y.name
   have HSL := Lib.hid (str_list y.name)
   have HCN := Lib.hid hcn
   clear hy hcs hne hcn
   have hcl := col_len p.data.toList (M.L.take k)
   have hcl2 : (M.L.take k).length ≤ k := by rw [List.length_take]; omega
   by_cases h0 : segN p.data.toList y.name = 0
   ·have HN := Lib.hid (numV_none (p := p.data.toList) (nm := (⟨y.name.toArray⟩ : ByteArray).data.toList) (by rw [HSL.out]; exact h0))
    have HCE := Lib.hid (show colL p.data.toList (M.L.take (k + 1)) = colL p.data.toList (M.L.take k) by rw [HCN.out, if_pos h0])
    clear hcl hcl2 h0
    go_wp2_with (fail)
    refine (jnumber_any _ jb b p most ⟨y.name.toArray⟩ (HJ.out.bel (HB1.out.trans HB.out)) hp (by omega) (HS.out.bel (HB1.out.trans HB.out))).mono ?_
    rintro e w2 ⟨rfl, hb2⟩
    rw [HN.out]
    have HB2 := Lib.hid (HB.out.trans hb2)
    have HV2 := Lib.hid (HV.out.bel hb2)
    clear hb2
    go_wp2_with (fail)
    go_roundw
    case rel => exact ⟨k + 1, by go_num, by omega, by rw [HCE.out]; exact HV2.out, HB2.out⟩
    case measure => simp [intOf]; omega
   ·obtain ⟨n, hn⟩ : ∃ n, n = segN p.data.toList y.name := ⟨_, rfl⟩
    have HN := Lib.hid (numV_some (p := p.data.toList) (nm := (⟨y.name.toArray⟩ : ByteArray).data.toList) (n := n) (by rw [HSL.out]; exact hn.symm) (by omega))
    have HCE := Lib.hid (show (colL p.data.toList (M.L.take (k + 1))).map (fun n : Nat => (n : Int)) = (colL p.data.toList (M.L.take k)).map (fun n : Nat => (n : Int)) ++ [(n : Int)] by rw [HCN.out, if_neg h0, ← hn]; simp)
    have hml : ((colL p.data.toList (M.L.take k)).map fun n : Nat => (n : Int)).length ≤ 60 := by rw [List.length_map]; omega
    clear hcl hcl2 h0 hn
    go_wp2_with (fail)
    refine (jnumber_any _ jb b p most ⟨y.name.toArray⟩ (HJ.out.bel (HB1.out.trans HB.out)) hp (by omega) (HS.out.bel (HB1.out.trans HB.out))).mono ?_
    rintro e w2 ⟨rfl, hb2⟩
    rw [HN.out]
    have HB2 := Lib.hid (HB.out.trans hb2)
    have HV2 := Lib.hid (HV.out.bel hb2)
    clear hb2
    go_wp2_with (at_builtin; refine stop_here ?_)
    refine go_on ?_
    refine append_glit (L := (colL p.data.toList (M.L.take k)).map fun n : Nat => (n : Int)) intOk rfl _ _ rfl rfl HV2.out _ _ _ [(n : Int)] rfl rfl rfl (by unfold maxLen; simp only [List.length_singleton]; omega) (by simp only [List.length_singleton]; omega) HB2.out.size (Or.inl rfl) ?_
    intro v3 w3 hown3 hb3 hZ3
    obtain ⟨p3, c3, hv3⟩ := ownG_len hown3
    rw [List.length_append, List.length_map, List.length_singleton] at hv3
    subst hv3
    have HV3 := Lib.hid hown3
    have HB3 := Lib.hid (HB2.out.trans_below hb3)
    clear hown3 hb3
    go_wp2_with (fail)
    go_roundw
    case rel => exact ⟨k + 1, by go_num, by omega, by rw [HCE.out]; exact HV3.out, HB3.out⟩
    case measure => simp [intOf]; omega
  ·obtain rfl : k = M.L.length := by omega
   have hv1 := HV.out
   rw [List.take_length] at hv1
   have HSO := Lib.hid (sort_own hv1 HB.out.size (by rw [List.length_map]; have := col_len p.data.toList M.L; omega))
   rw [List.take_length] at *
   clear hv1
   go_wp2_with (fail)
   refine HSO.out.mono ?_
   rintro e w2 ⟨rfl, hown2, hb2⟩
   rw [segs_merge] at hown2
   have HB2 := Lib.hid (HB.out.trans_below hb2)
   have HV2 := Lib.hid hown2
   clear hown2 hb2
   go_wp2_with (fail)
   go_ret
   exact ⟨_, rfl, HV2.out.low HB1.out.size, HB1.out.trans HB2.out⟩
def NbRel (l : List Nat) (w1 : World) (nv iv : Value) (x : World) : Prop :=
 ∃ k : Nat, iv = .int .i64 k ∧ k ≤ l.length ∧ nv = .int .i64 ((l.take k).getLast?.getD 0 : Nat) ∧ Bel w1 x
theorem last_take (l : List Nat) (k : Nat) (h : k < l.length) : (l.take (k + 1)).getLast?.getD 0 = l[k] := by
 rw [List.take_add_one, List.getElem?_eq_getElem h, Option.toList_some, List.getLast?_concat]; rfl
theorem int_at {B : Nat} {x : World} {v : Value} {l : List Nat} (h : OwnG intEl B x v (l.map fun n : Nat => (n : Int))) (k : Nat) (hk : k < l.length) : ∃ g cap, v = .slice (some ⟨g, 0, none⟩) l.length cap ∧ l.length ≤ cap ∧ B ≤ g ∧ x.cell? ⟨g, k, none⟩ = some (.int .i64 (l[k] : Nat)) := by
 have hne : l.map (fun n : Nat => (n : Int)) ≠ [] := by intro e; rw [List.map_eq_nil_iff] at e; rw [e] at hk; simp at hk
 obtain ⟨g, cap, rfl, hg, _, hgl, hcs⟩ := ownG_cells intOk h hne
 rw [List.length_map] at hgl
 refine ⟨g, cap, by rw [List.length_map], hgl, hg, ?_⟩
 have := hcs k (l[k] : Int) (by rw [List.getElem?_map, List.getElem?_eq_getElem hk]; rfl) 0 _ rfl
 simpa [intEl] using this
set_option maxHeartbeats 4000000 in
theorem num_any (n₀ : Nat) (w : World) (jb b : Nat) (p : ByteArray) (most : Int) (M : RS) (F : List Nat) (h : ProgAt n₀ w b M F) (hM : M.ok) (hj : JAt w jb b p most) (hp : p.size ≤ 100) (hstd : Std w) :
  Calls Tryz.prog 54 #[.pointer (some ⟨jb, 0, none⟩)] w fun e w' => e = .returned (.int .i64 (lastN p.data.toList M.L : Nat)) ∧ Bel w w' := by
 have HC := Lib.hid (segs_any n₀ w jb b p most M F h hM hj hp hstd)
 have hsl := segs_len p.data.toList M.L
 have h60 := hM.len
 obtain ⟨l, hl⟩ : ∃ l, l = segsL p.data.toList M.L := ⟨_, rfl⟩
 have HLN := Lib.hid (show lastN p.data.toList M.L = l.getLast?.getD 0 by rw [hl]; rfl)
 rw [← hl] at HC hsl
 clear hl hj h hM hstd
 go_enter Tryz.func54, Tryz.ntmps54
 go_wp2_with (fail)
 refine HC.out.mono ?_
 rintro e w1 ⟨v, rfl, hown, hb1⟩
 have HV := Lib.hid hown
 have HB1 := Lib.hid hb1
 obtain ⟨sp, sc, hv⟩ := ownG_len hown
 rw [List.length_map] at hv
 subst hv
 clear hown hb1
 go_wp2_with (fail)
 go_loopw [3, 9] (fun nv iv x => NbRel l w1 nv iv x) (fun _ iv _ => l.length - (intOf iv).toNat)
 case atStart => exact ⟨0, rfl, Nat.zero_le _, rfl, Bel.refl _⟩
 case round =>
  obtain ⟨k, rfl, hk, rfl, hb⟩ := hrel
  have HB := Lib.hid hb; clear hb
  by_cases hlt : k < l.length
  ·obtain ⟨g, cap, hv, hcap, _, e0⟩ := int_at (HV.out.bel HB.out) k hlt
   simp only [Value.slice.injEq, true_and] at hv
   obtain ⟨rfl, rfl⟩ := hv
   have HLT := Lib.hid (last_take l k hlt)
   obtain ⟨m, hm⟩ : ∃ m, m = l[k] := ⟨_, rfl⟩
   rw [← hm] at e0 HLT
   clear hm
   go_wp2_with (fail)
   go_roundw
   case rel => exact ⟨k + 1, by go_num, by omega, by rw [HLT.out], HB.out⟩
   case measure => simp [intOf]; omega
  ·obtain rfl : k = l.length := by omega
   go_wp2_with (fail)
   go_ret
   exact ⟨by rw [HLN.out, List.take_length]; rfl, HB1.out.trans HB.out⟩
def NsRel (p : List UInt8) (l : List Nat) (w1 : World) (lv iv : Value) (x : World) : Prop :=
 ∃ k : Nat, iv = .int .i64 k ∧ k ≤ l.length ∧ OwnG strEl w1.heap.size x lv ((l.take k).map (fileN p)) ∧ Bel w1 x
set_option maxHeartbeats 4000000 in
theorem jnames_any (n₀ : Nat) (w : World) (jb b : Nat) (p : ByteArray) (most : Int) (M : RS) (F : List Nat) (h : ProgAt n₀ w b M F) (hM : M.ok) (hj : JAt w jb b p most) (hp : p.size ≤ 100) (hstd : Std w) :
  Calls Tryz.prog 96 #[.pointer (some ⟨jb, 0, none⟩)] w fun e w' => ∃ v, e = .returned v ∧ OwnG strEl w.heap.size w' v ((segsL p.data.toList M.L).map (fileN p.data.toList)) ∧ Bel w w' := by
 have HC := Lib.hid (segs_any n₀ w jb b p most M F h hM hj hp hstd)
 have hsl := segs_len p.data.toList M.L
 have h60 := hM.len
 obtain ⟨l, hl⟩ : ∃ l, l = segsL p.data.toList M.L := ⟨_, rfl⟩
 have HLE := Lib.hid (show ∀ n ∈ l, n ≤ 9999999 from fun n hn => by rw [hl] at hn; exact (mem_segs_file.1 hn).2.1)
 rw [← hl] at HC hsl ⊢
 have HS := Lib.hid hstd
 have HJ := Lib.hid hj
 clear hl hj h hM hstd
 go_enter Tryz.func96, Tryz.ntmps96
 go_wp2_with (fail)
 refine HC.out.mono ?_
 rintro e w1 ⟨v, rfl, hown, hb1⟩
 have HV := Lib.hid hown
 have HB1 := Lib.hid hb1
 obtain ⟨sp, sc, hv⟩ := ownG_len hown
 rw [List.length_map] at hv
 subst hv
 clear hown hb1
 go_wp2_with (fail)
 go_loopw [3, 9] (fun lv iv x => NsRel p.data.toList l w1 lv iv x) (fun _ iv _ => l.length - (intOf iv).toNat)
 case atStart => exact ⟨0, rfl, Nat.zero_le _, OwnG.nil _ _ _, Bel.refl _⟩
 case round =>
  obtain ⟨k, rfl, hk, hown, hb⟩ := hrel
  have HB := Lib.hid hb
  have HL := Lib.hid hown
  obtain ⟨lp, lc, hlv⟩ := ownG_len hown
  rw [List.length_map, List.length_take, Nat.min_eq_left hk] at hlv
  subst hlv
  clear hown hb
  by_cases hlt : k < l.length
  ·obtain ⟨g, cap, hv, hcap, _, e0⟩ := int_at (HV.out.bel HB.out) k hlt
   simp only [Value.slice.injEq, true_and] at hv
   obtain ⟨rfl, rfl⟩ := hv
   have HLT := Lib.hid (show (l.take (k + 1)).map (fileN p.data.toList) = (l.take k).map (fileN p.data.toList) ++ [fileN p.data.toList l[k]] by
    rw [List.take_add_one, List.getElem?_eq_getElem hlt, List.map_append]; rfl)
   have hm9 := HLE.out l[k] (List.getElem_mem hlt)
   obtain ⟨m, hm⟩ : ∃ m, m = l[k] := ⟨_, rfl⟩
   rw [← hm] at e0 HLT hm9
   clear hm
   have hml : ((l.take k).map (fileN p.data.toList)).length ≤ 60 := by rw [List.length_map, List.length_take]; omega
   have hml2 : ((l.take k).map (fileN p.data.toList)).length = k := by rw [List.length_map, List.length_take]; omega
   go_wp2_with (fail)
   refine (file_any _ jb b p most m (HJ.out.bel (HB1.out.trans HB.out)) hp (by omega) (HS.out.bel (HB1.out.trans HB.out))).mono ?_
   rintro e w2 ⟨rfl, hb2⟩
   have HB2 := Lib.hid (HB.out.trans hb2)
   have HL2 := Lib.hid (HL.out.bel hb2)
   clear hb2
   go_wp2_with (at_builtin; refine stop_here ?_)
   refine go_on ?_
   refine append_glit (L := (l.take k).map (fileN p.data.toList)) strOk rfl _ _ rfl rfl HL2.out _ _ _ [fileN p.data.toList m] rfl rfl rfl (by unfold maxLen; simp only [List.length_singleton]; omega) (by simp only [List.length_singleton]; omega) HB2.out.size (Or.inl rfl) ?_
   intro v3 w3 hown3 hb3 hZ3
   obtain ⟨p3, c3, hv3⟩ := ownG_len hown3
   rw [List.length_append, hml2] at hv3
   subst hv3
   have HV3 := Lib.hid hown3
   have HB3 := Lib.hid (HB2.out.trans_below hb3)
   clear hown3 hb3
   go_wp2_with (fail)
   go_roundw
   case rel => exact ⟨k + 1, by go_num, by omega, by rw [HLT.out]; exact HV3.out, HB3.out⟩
   case measure => simp [intOf]; omega
  ·obtain rfl : k = l.length := by omega
   go_wp2_with (fail)
   go_ret
   have := HL.out
   rw [List.take_length] at this
   exact ⟨_, rfl, this.low HB1.out.size, HB1.out.trans HB.out⟩

def toZ (l : List Nat) : List Int := l.map fun n : Nat => (n : Int)
theorem toZ_len (l : List Nat) : (toZ l).length = l.length := by unfold toZ; rw [List.length_map]
theorem tw_le : ∀ (n : Nat) (out : List Nat), (out.takeWhile (fun m => decide (m < n))).length ≤ out.length
 | n, [] => by simp
 | n, x :: out => by
  rw [List.takeWhile_cons]
  split
  ·simp only [List.length_cons]; have := tw_le n out; omega
  ·simp
theorem tw_get (n : Nat) (out : List Nat) (k : Nat) (hk : k < (out.takeWhile (fun m => decide (m < n))).length) (hko : k < out.length) : out[k] < n := by
 have h1 := take_less n out _ (List.getElem_mem hk)
 have h2 := List.takeWhile_append_dropWhile (p := fun m => decide (m < n)) (l := out)
 have h3 : out[k]? = some (out.takeWhile (fun m => decide (m < n)))[k] := by
  conv => lhs; rw [← h2]
  rw [List.getElem?_append_left hk, List.getElem?_eq_getElem hk]
 rw [List.getElem?_eq_getElem hko] at h3
 injection h3 with h3
 omega
theorem tw_stop (n : Nat) (out : List Nat) (k : Nat) (hk : k = (out.takeWhile (fun m => decide (m < n))).length) (hko : k < out.length) : n ≤ out[k] := by
 have h2 := List.takeWhile_append_dropWhile (p := fun m => decide (m < n)) (l := out)
 have h3 : out[k]? = (out.dropWhile (fun m => decide (m < n)))[0]? := by
  conv => lhs; rw [← h2]
  rw [List.getElem?_append_right (by omega), hk, Nat.sub_self]
 rw [List.getElem?_eq_getElem hko] at h3
 cases hd : out.dropWhile (fun m => decide (m < n)) with
 | nil => rw [hd] at h3; simp at h3
 | cons x r =>
  rw [hd] at h3
  simp at h3
  rw [h3]
  exact drop_head n out x r hd
theorem tw_ins (n : Nat) (out : List Nat) (k : Nat) (hk : k = (out.takeWhile (fun m => decide (m < n))).length) : insN n out = out.take k ++ [n] ++ out.drop k := by
 have h2 := List.takeWhile_append_dropWhile (p := fun m => decide (m < n)) (l := out)
 have e1 : out.take k = out.takeWhile (fun m => decide (m < n)) := by
  have : (out.takeWhile (fun m => decide (m < n)) ++ out.dropWhile (fun m => decide (m < n))).take k = out.takeWhile (fun m => decide (m < n)) := by rw [hk, List.take_left]
  rwa [h2] at this
 have e2 : out.drop k = out.dropWhile (fun m => decide (m < n)) := by
  have : (out.takeWhile (fun m => decide (m < n)) ++ out.dropWhile (fun m => decide (m < n))).drop k = out.dropWhile (fun m => decide (m < n)) := by rw [hk, List.drop_left]
  rwa [h2] at this
 rw [e1, e2]
 unfold insN
 simp
theorem ownG_none_int {W : World} {n B : Nat} (h : W.heap[B]? = some (.cells #[] 3 (0, 0))) (hn : n ≤ B) : OwnG intEl n W (.slice (some ⟨B, 0, none⟩) 0 0) [] := by
 refine ⟨rfl, Or.inr ⟨B, 0, #[], rfl, hn, h, Nat.le_refl _, by unfold maxLen; omega, by simp, by simp [El.all]⟩⟩
theorem lit_int {W : World} {B : Nat} {n : Int} (h : W.heap[B]? = some (.cells #[.int .i64 n] 3 (0, 0))) : SrcAt intEl W (.slice (some ⟨B, 0, none⟩) 1 1) [n] := by
 refine Or.inr ⟨_, 1, rfl, fun j u hj => ?_⟩
 have e : (⟨B, 0, none⟩ : Addr).add j = ⟨B, j, none⟩ := by cases j <;> simp [Addr.add]
 rw [e]
 rw [intAll] at hj
 cases j with
 | zero => simp at hj; subst hj; simp [World.cell?, h]
 | succ j => simp at hj
theorem slice_parts {B : Nat} {x : World} {op : Option Addr} {oc : Nat} {out : List Nat} (h : OwnG intEl B x (.slice op out.length oc) (toZ out)) (k : Nat) (hk : k ≤ out.length) (hl : out.length ≤ 1000) :
  ∃ v1 v2, (∀ w, (Instr.slice 52 (.slice op out.length oc) none (some (.int .i64 k)) none).run Tryz.prog w = .ok v1 w) ∧ (∀ w, (Instr.slice 52 (.slice op out.length oc) (some (.int .i64 k)) none none).run Tryz.prog w = .ok v2 w) ∧
   (∀ y, Bel x y → SrcAt intEl y v1 (toZ (out.take k))) ∧ (∀ y, Bel x y → SrcAt intEl y v2 (toZ (out.drop k))) := by
 rcases h.2 with ⟨hv, h0⟩ | ⟨g, cap, cur, hv, hg, hh, hc, hx, _⟩
 ·have ho : out = [] := by rw [← List.length_eq_zero_iff, ← toZ_len]; exact h0
  subst ho
  obtain rfl : k = 0 := by simpa using hk
  simp only [Value.slice.injEq] at hv
  obtain ⟨rfl, -, rfl⟩ := hv
  refine ⟨.slice none 0 0, .slice none 0 0, fun w => by go_simp, fun w => by go_simp, fun y _ => Or.inl ⟨rfl, rfl⟩, fun y _ => Or.inl ⟨rfl, rfl⟩⟩
 ·simp only [Value.slice.injEq] at hv
  obtain ⟨rfl, -, rfl⟩ := hv
  rw [toZ_len] at hc
  unfold maxLen at hx
  have hcells : ∀ y, Bel x y → ∀ j (hj : j < out.length), y.cell? ⟨g, j, none⟩ = some (.int .i64 (out[j] : Nat)) := fun y hy j hj => by
   obtain ⟨g', cap', hv, _, _, e⟩ := int_at (h.bel hy) j hj
   simp only [Value.slice.injEq, Option.some.injEq, Addr.mk.injEq] at hv
   obtain ⟨⟨rfl, -⟩, -⟩ := hv
   exact e
  have add0 : ∀ (o j : Nat), (⟨g, o, none⟩ : Addr).add j = ⟨g, o + j, none⟩ := fun o j => by cases j <;> simp [Addr.add]
  have hlow : ∀ y, Bel x y → SrcAt intEl y (.slice (some ⟨g, 0, none⟩) k oc) (toZ (out.take k)) := fun y hy => by
   refine Or.inr ⟨⟨g, 0, none⟩, oc, by rw [toZ_len, List.length_take, Nat.min_eq_left hk], fun j u hj => ?_⟩
   rw [intAll, toZ, List.map_map, List.getElem?_map, List.getElem?_take] at hj
   split at hj
   ·rename_i hjk
    rw [List.getElem?_eq_getElem (show j < out.length by omega)] at hj
    simp at hj
    rw [add0, Nat.zero_add, hcells y hy j (by omega), ← hj]
   ·simp at hj
  have hhigh : ∀ y, Bel x y → SrcAt intEl y (.slice (some ⟨g, k, none⟩) (out.length - k) (oc - k)) (toZ (out.drop k)) := fun y hy => by
   refine Or.inr ⟨⟨g, k, none⟩, oc - k, by rw [toZ_len, List.length_drop], fun j u hj => ?_⟩
   rw [intAll, toZ, List.map_map, List.getElem?_map, List.getElem?_drop] at hj
   by_cases hjk : k + j < out.length
   ·rw [List.getElem?_eq_getElem hjk] at hj
    simp at hj
    rw [add0, hcells y hy (k + j) hjk, ← hj]
   ·rw [List.getElem?_eq_none (by omega)] at hj
    simp at hj
  by_cases hkc : oc = k
  ·subst hkc
   have hol : out.length = oc := by omega
   refine ⟨_, .slice (some ⟨g, 0, none⟩) 0 0, fun w => by first | (go_simp; done) | (go_simp; intro hx; omega), fun w => by first | (go_simp; done) | (go_simp; intro hx; omega), hlow, fun y hy => ?_⟩
   rw [List.drop_eq_nil_of_le (by omega)]
   exact Or.inr ⟨_, 0, rfl, fun j u hj => by simp [toZ, El.all] at hj⟩
  ·refine ⟨_, _, fun w => by first | (go_simp; done) | (go_simp; intro hx; omega), fun w => by first | (go_simp; done) | (go_simp; intro hx; omega), hlow, hhigh⟩
set_option maxHeartbeats 4000000 in
set_option maxRecDepth 20000 in
theorem rsegs_any (n₀ : Nat) (w : World) (jb b : Nat) (p : ByteArray) (most : Int) (M : RS) (F : List Nat) (h : RefP n₀ w b M F) (hM : M.ok) (hj : JAt w jb b p most) (hp : p.size ≤ 100) :
  Calls Tryz.prog 99 #[.pointer (some ⟨jb, 0, none⟩)] w fun e w' => ∃ v, e = .returned v ∧ OwnG intEl w.heap.size w' v (toZ (segsL p.data.toList M.L)) ∧ Bel w w' := by
 have HJ := Lib.hid hj
 have j0 := hj.files
 have HM := Lib.hid hM
 have h60 := hM.len
 obtain ⟨v, hr, -, -, -⟩ := h
 have HR := Lib.hid hr
 obtain ⟨rp, rcap, rfl⟩ := ownG_len hr.own
 obtain ⟨c0, -, -, c3⟩ := hr.cells
 clear hr hj hM c3
 go_enter Tryz.func99, Tryz.ntmps99
 go_wp2_with (fail)
 go_loopw [3, 4] (fun ov iv x => ∃ i : Nat, iv = .int .i64 i ∧ i ≤ M.L.length ∧ OwnG intEl w.heap.size x ov (toZ (segsL p.data.toList (M.L.take i))) ∧ Bel w x) (fun _ iv _ => M.L.length - (intOf iv).toNat)
 case atStart => exact ⟨0, rfl, Nat.zero_le _, OwnG.nil _ _ _, Bel.refl _⟩
 case round =>
  obtain ⟨i, rfl, hi, hown, hb⟩ := hrel
  have HB := Lib.hid hb
  have HO := Lib.hid hown
  obtain ⟨op, oc, hov⟩ := ownG_len hown
  rw [toZ_len] at hov
  subst hov
  have j0' := cell_later hb j0
  have c0' := cell_later hb c0
  clear hown hb
  have hsl := segs_len p.data.toList (M.L.take i)
  rw [List.length_take] at hsl
  by_cases hlt : i < M.L.length
  ·have hne2 : M.L ≠ [] := by intro e; rw [e] at hlt; simp at hlt
   obtain ⟨g2, rcap', hv, _, hgl2, _, hcs2⟩ := ownG_cells fileOk (HR.out.own.bel HB.out) hne2
   simp only [Value.slice.injEq, true_and] at hv
   obtain ⟨rfl, rfl⟩ := hv
   have hst := segs_step p.data.toList (M.L.take i) M.L[i]
   have htk : M.L.take i ++ [M.L[i]] = M.L.take (i + 1) := by rw [List.take_add_one, List.getElem?_eq_getElem hlt]; rfl
   rw [htk] at hst
   have hyn := name_len (HM.out.each M.L[i] (List.getElem_mem hlt)).1
   obtain ⟨y, hy⟩ : ∃ y, y = M.L[i] := ⟨_, rfl⟩
   have f0 := hcs2 i y (by rw [hy, List.getElem?_eq_getElem hlt]) 0 _ rfl
   simp only [fileEl, Nat.add_zero] at f0
   rw [← hy] at hst hyn
   have hsz := str_len y.name
   have HSL := Lib.hid (str_list y.name)
   have HST := Lib.hid hst
   clear hy hcs2 hne2 hst htk
   obtain ⟨out, hout⟩ : ∃ out, out = segsL p.data.toList (M.L.take i) := ⟨_, rfl⟩
   rw [← hout] at HO HST hsl ⊢
   clear hout
   have HN := Lib.hid (rnumber_any (s := (⟨y.name.toArray⟩ : ByteArray)) (p := p) (b := jb) (f := b) (most := most))
   rw [HSL.out] at HN
   obtain ⟨n, hn⟩ : ∃ n, n = segN p.data.toList y.name := ⟨_, rfl⟩
   rw [← hn] at HST HN
   have hn9 := seg_le p.data.toList y.name
   rw [← hn] at hn9
   clear hn
   go_wp2_with (fail)
   refine (HN.out _ (HJ.out.bel HB.out) hp (by omega)).mono ?_
   rintro e w1 ⟨rfl, hb1⟩
   have HB1 := Lib.hid (HB.out.trans hb1)
   have HO1 := Lib.hid (HO.out.bel hb1)
   clear hb1
   by_cases hn0 : n = 0
   ·subst hn0
    have HE := Lib.hid (show segsL p.data.toList (M.L.take (i + 1)) = out by rw [HST.out, if_pos rfl])
    go_wp2_with (fail)
    go_roundw
    case rel => exact ⟨i + 1, by go_num, by omega, by rw [HE.out]; exact HO1.out, HB1.out⟩
    case measure => simp [intOf]; omega
   ·have HE := Lib.hid (show segsL p.data.toList (M.L.take (i + 1)) = insN n out by rw [HST.out, if_neg hn0])
    have hn1 : (n : Int) ≠ 0 := by omega
    have HT := Lib.hid (take_less n out)
    go_wp2_with (fail)
    go_loopw [6] (fun kv x => ∃ k : Nat, kv = .int .i64 k ∧ k ≤ (out.takeWhile (fun m => decide (m < n))).length ∧ Bel w1 x) (fun kv _ => out.length - (intOf kv).toNat)
    case atStart => exact ⟨0, rfl, Nat.zero_le _, Bel.refl _⟩
    case round =>
     obtain ⟨k, rfl, hk, hb⟩ := hrel
     have HB2 := Lib.hid hb; clear hb
     have hle := tw_le n out
     by_cases hkl : k < (out.takeWhile (fun m => decide (m < n))).length
     ·have hko : k < out.length := by omega
      obtain ⟨g, cap, hv, hcap, _, e0⟩ := int_at (HO1.out.bel HB2.out) k hko
      simp only [Value.slice.injEq, true_and] at hv
      obtain ⟨rfl, rfl⟩ := hv
      have hlt2 := tw_get n out k hkl hko
      obtain ⟨m, hm⟩ : ∃ m, m = out[k] := ⟨_, rfl⟩
      rw [← hm] at e0 hlt2
      clear hm
      go_wp2_with (fail)
      go_roundw
      case rel => exact ⟨k + 1, by go_num, by omega, HB2.out⟩
      case measure => simp [intOf]; omega
     ·have hkk : k = (out.takeWhile (fun m => decide (m < n))).length := by omega
      have HI := Lib.hid (tw_ins n out k hkk)
      have hstop := Lib.hid (tw_stop n out k hkk)
      have hkl2 : k ≤ out.length := by omega
      clear hle hkl hk hkk
      by_cases hko : k < out.length
      ·obtain ⟨g, cap, hv, hcap, hgw, e0⟩ := int_at (HO1.out.bel HB2.out) k hko
       simp only [Value.slice.injEq, true_and] at hv
       obtain ⟨rfl, rfl⟩ := hv
       have hge := hstop.out hko
       obtain ⟨m, hm⟩ : ∃ m, m = out[k] := ⟨_, rfl⟩
       rw [← hm] at e0 hge
       clear hm hstop
       go_wp2_with (fail)
       have HW := Lib.hid (HB1.out.trans HB2.out)
       obtain ⟨s1, s2, hr1, hr2, hlow, hhigh⟩ := slice_parts (HO1.out.bel HB2.out) k hkl2 (by omega)
       have LOW := Lib.hid hlow
       have HIGH := Lib.hid hhigh
       clear hlow hhigh
       generalize hov : Value.slice (some ⟨g, 0, none⟩) out.length oc = ov at *
       clear hov
       refine wp_region_held_drew (S := fun z => True) (by kernel_rfl) trivial (fun hHeld => ?_)
       refine tk (v := ?_) 1 rfl ?_ ?_
       rotate_left
       ·(intros;go_simp<;>with_reducible rfl)
       try simp only[Act.put,sqA,sqB,sqC]
       refine tk (v := ?_) 2 rfl ?_ ?_
       rotate_left
       ·(intros;go_simp<;>with_reducible rfl)
       try simp only[Act.put,sqA,sqB,sqC]
       refine tk (v := ?_) 5 rfl ?_ ?_
       rotate_left
       ·(intros;go_simp<;>with_reducible rfl)
       try simp only[Act.put,sqA,sqB,sqC]
       refine tk (v := ?_) 8 rfl ?_ ?_
       rotate_left
       ·(intros;go_simp<;>with_reducible rfl)
       try simp only[Act.put,sqA,sqB,sqC]
       refine tk (v := ?_) 9 rfl ?_ ?_
       rotate_left
       ·(intros;go_simp<;>with_reducible rfl)
       try simp only[Act.put,sqA,sqB,sqC]
       refine tk (v := ?_) 3 rfl ?_ ?_
       rotate_left
       ·(intros;go_simp<;>with_reducible rfl)
       try simp only[Act.put,sqA,sqB,sqC]
       refine tk (v := ?_) 10 rfl ?_ ?_
       rotate_left
       ·(intros;go_simp<;>with_reducible rfl)
       try simp only[Act.put,sqA,sqB,sqC]
       refine wpAnyH_ready (rs := [0, 6]) (by kernel_rfl) (by simp) ?_
       refine (AllReadyH.cons rfl (fun K hK => ?_) (AllReadyH.cons rfl (fun K hK => ?_) AllReadyH.nil))
       ·go_simp
        refine hK.out _ _ trivial (fun hHeld => ?_);clear hK K;try simp only[Act.put,sqA,sqB,sqC]
        refine wpAnyH_ready (rs := [4, 6]) (by kernel_rfl) (by simp) ?_
        refine (AllReadyH.cons rfl (fun K hK => ?_) (AllReadyH.cons rfl (fun K hK => ?_) AllReadyH.nil))
        ·refine step_append_seg (E := intEl) (n := wr.heap.size) (v := .slice (some ⟨wr.heap.size, 0, none⟩) 0 0) intOk rfl (.tmp 48) (.tmp 51) rfl rfl (ownG_none_int (heap_alloc_new wr.drew _) (Nat.le_refl _)) (toZ (out.take k)) rfl (LOW.out _ ((Bel.refl wr).drew.alloc _)) (by simp only [toZ_len, List.length_append, List.length_singleton, List.length_nil, List.length_take, List.length_drop]; unfold maxLen; omega) (by simp only [toZ_len, List.length_append, List.length_singleton, List.length_nil, List.length_take, List.length_drop]; omega) (Bel.size ((Bel.refl wr).drew.alloc _)) ?_
         intro v1 z1 ho hg hb
         have hBz1 := Lib.hid (Bel.trans_below' ((Bel.refl wr).drew.alloc _) hb)
         have hOz1 := Lib.hid ho
         clear ho hg hb
         refine hK.out _ _ trivial (fun hHeld => ?_);clear hK K;try simp only[Act.put,sqA,sqB,sqC]
         refine wpAnyH_ready (rs := [6]) (by kernel_rfl) (by simp) ?_
         refine AllReadyH.cons rfl (fun K hK => ?_) AllReadyH.nil
         go_simp
         refine hK.out _ _ trivial (fun hHeld => ?_);clear hK K;try simp only[Act.put,sqA,sqB,sqC]
         have hBz := Lib.hid (hBz1.out.alloc (.cells #[.int .i64 n] 3))
         have hLit := Lib.hid (heap_alloc_new z1 (.cells #[.int .i64 n] 3))
         refine wpAnyH_ready (rs := [7]) (by kernel_rfl) (by simp) ?_
         refine AllReadyH.cons rfl (fun K hK => ?_) AllReadyH.nil
         refine step_append_seg (E := intEl) (n := wr.heap.size) intOk rfl (.tmp 52) (.tmp 54) rfl rfl (hOz1.out.alloc _) [(n : Int)] rfl (lit_int hLit.out) (by simp only [toZ_len, List.length_append, List.length_singleton, List.length_nil, List.length_take, List.length_drop]; unfold maxLen; omega) (by simp only [toZ_len, List.length_append, List.length_singleton, List.length_nil, List.length_take, List.length_drop]; omega) (Bel.size hBz.out) ?_
         intro v2 z2 ho hg hb
         have hBz2 := Lib.hid (Bel.trans_below' hBz.out hb)
         have hOz2 := Lib.hid ho
         clear ho hg hb
         refine hK.out _ _ trivial (fun hHeld => ?_);clear hK K;try simp only[Act.put,sqA,sqB,sqC]
         refine wpAnyH_ready (rs := [11]) (by kernel_rfl) (by simp) ?_
         refine AllReadyH.cons rfl (fun K hK => ?_) AllReadyH.nil
         refine step_append_seg (E := intEl) (n := wr.heap.size) intOk rfl (.tmp 55) (.tmp 58) rfl rfl hOz2.out (toZ (out.drop k)) rfl (HIGH.out _ hBz2.out) (by simp only [toZ_len, List.length_append, List.length_singleton, List.length_nil, List.length_take, List.length_drop]; unfold maxLen; omega) (by simp only [toZ_len, List.length_append, List.length_singleton, List.length_nil, List.length_take, List.length_drop]; omega) (Bel.size hBz2.out) ?_
         intro v3 z3 ho hg hb
         have hBz3 := Lib.hid (Bel.trans_below' hBz2.out hb)
         have hOz3 := Lib.hid ho
         obtain ⟨p3, c3, hv3⟩ := ownG_len ho
         have hlen3 : (toZ (out.take k) ++ [(n : Int)] ++ toZ (out.drop k)).length = out.length + 1 := by simp only [toZ_len, List.length_append, List.length_singleton, List.length_take, List.length_drop]; omega
         rw [List.nil_append, hlen3] at hv3
         subst hv3
         replace hOz3 := Lib.hid ho
         clear ho hg hb
         refine hK.out _ _ trivial (fun hHeld => ?_);clear hK K;try simp only[Act.put,sqA,sqB,sqC]
         refine tk (v := ?_) 12 rfl ?_ ?_
         rotate_left
         ·(intros;go_simp<;>with_reducible rfl)
         try simp only[Act.put,sqA,sqB,sqC]
         refine wpAnyH_done (by kernel_rfl) ?_ _
         go_wp2_with (fail)
         go_roundw
         case rel => exact ⟨i + 1, by go_num, by omega, by
          rw [HE.out, HI.out]
          have e : toZ (out.take k ++ [n] ++ out.drop k) = [] ++ toZ (out.take k) ++ [(n : Int)] ++ toZ (out.drop k) := by simp [toZ]
          rw [e]
          exact hOz3.out.low HW.out.size, HW.out.trans hBz3.out⟩
         case measure => simp [intOf]; omega
        ·go_simp
         refine hK.out _ _ trivial (fun hHeld => ?_);clear hK K;try simp only[Act.put,sqA,sqB,sqC]
         refine wpAnyH_ready (rs := [4]) (by kernel_rfl) (by simp) ?_
         refine AllReadyH.cons rfl (fun K hK => ?_) AllReadyH.nil
         refine step_append_seg (E := intEl) (n := wr.heap.size) (v := .slice (some ⟨wr.heap.size, 0, none⟩) 0 0) intOk rfl (.tmp 48) (.tmp 51) rfl rfl ((ownG_none_int (heap_alloc_new wr.drew _) (Nat.le_refl _)).alloc _) (toZ (out.take k)) rfl (LOW.out _ (((Bel.refl wr).drew.alloc _).alloc _)) (by simp only [toZ_len, List.length_append, List.length_singleton, List.length_nil, List.length_take, List.length_drop]; unfold maxLen; omega) (by simp only [toZ_len, List.length_append, List.length_singleton, List.length_nil, List.length_take, List.length_drop]; omega) (Bel.size (((Bel.refl wr).drew.alloc _).alloc _)) ?_
         intro v1 z1 ho hg hb
         have hBz1 := Lib.hid (Bel.trans_below' (((Bel.refl wr).drew.alloc _).alloc _) hb)
         have hOz1 := Lib.hid ho
         have hLit := Lib.hid (show z1.heap[wr.heap.size + 1]? = some (.cells #[.int .i64 n] 3) from at_grown hg (at_new (by simp)) (by simp [Value.ownBlock]))
         clear ho hg hb
         refine hK.out _ _ trivial (fun hHeld => ?_);clear hK K;try simp only[Act.put,sqA,sqB,sqC]
         refine wpAnyH_ready (rs := [7]) (by kernel_rfl) (by simp) ?_
         refine AllReadyH.cons rfl (fun K hK => ?_) AllReadyH.nil
         refine step_append_seg (E := intEl) (n := wr.heap.size) intOk rfl (.tmp 52) (.tmp 54) rfl rfl hOz1.out [(n : Int)] rfl (lit_int hLit.out) (by simp only [toZ_len, List.length_append, List.length_singleton, List.length_nil, List.length_take, List.length_drop]; unfold maxLen; omega) (by simp only [toZ_len, List.length_append, List.length_singleton, List.length_nil, List.length_take, List.length_drop]; omega) (Bel.size hBz1.out) ?_
         intro v2 z2 ho hg hb
         have hBz2 := Lib.hid (Bel.trans_below' hBz1.out hb)
         have hOz2 := Lib.hid ho
         clear ho hg hb
         refine hK.out _ _ trivial (fun hHeld => ?_);clear hK K;try simp only[Act.put,sqA,sqB,sqC]
         refine wpAnyH_ready (rs := [11]) (by kernel_rfl) (by simp) ?_
         refine AllReadyH.cons rfl (fun K hK => ?_) AllReadyH.nil
         refine step_append_seg (E := intEl) (n := wr.heap.size) intOk rfl (.tmp 55) (.tmp 58) rfl rfl hOz2.out (toZ (out.drop k)) rfl (HIGH.out _ hBz2.out) (by simp only [toZ_len, List.length_append, List.length_singleton, List.length_nil, List.length_take, List.length_drop]; unfold maxLen; omega) (by simp only [toZ_len, List.length_append, List.length_singleton, List.length_nil, List.length_take, List.length_drop]; omega) (Bel.size hBz2.out) ?_
         intro v3 z3 ho hg hb
         have hBz3 := Lib.hid (Bel.trans_below' hBz2.out hb)
         have hOz3 := Lib.hid ho
         obtain ⟨p3, c3, hv3⟩ := ownG_len ho
         have hlen3 : (toZ (out.take k) ++ [(n : Int)] ++ toZ (out.drop k)).length = out.length + 1 := by simp only [toZ_len, List.length_append, List.length_singleton, List.length_take, List.length_drop]; omega
         rw [List.nil_append, hlen3] at hv3
         subst hv3
         replace hOz3 := Lib.hid ho
         clear ho hg hb
         refine hK.out _ _ trivial (fun hHeld => ?_);clear hK K;try simp only[Act.put,sqA,sqB,sqC]
         refine tk (v := ?_) 12 rfl ?_ ?_
         rotate_left
         ·(intros;go_simp<;>with_reducible rfl)
         try simp only[Act.put,sqA,sqB,sqC]
         refine wpAnyH_done (by kernel_rfl) ?_ _
         go_wp2_with (fail)
         go_roundw
         case rel => exact ⟨i + 1, by go_num, by omega, by
          rw [HE.out, HI.out]
          have e : toZ (out.take k ++ [n] ++ out.drop k) = [] ++ toZ (out.take k) ++ [(n : Int)] ++ toZ (out.drop k) := by simp [toZ]
          rw [e]
          exact hOz3.out.low HW.out.size, HW.out.trans hBz3.out⟩
         case measure => simp [intOf]; omega
       ·go_simp
        refine hK.out _ _ trivial (fun hHeld => ?_);clear hK K;try simp only[Act.put,sqA,sqB,sqC]
        refine wpAnyH_ready (rs := [0]) (by kernel_rfl) (by simp) ?_
        refine AllReadyH.cons rfl (fun K hK => ?_) AllReadyH.nil
        go_simp
        refine hK.out _ _ trivial (fun hHeld => ?_);clear hK K;try simp only[Act.put,sqA,sqB,sqC]
        refine wpAnyH_ready (rs := [4]) (by kernel_rfl) (by simp) ?_
        refine AllReadyH.cons rfl (fun K hK => ?_) AllReadyH.nil
        refine step_append_seg (E := intEl) (n := wr.heap.size) (v := .slice (some ⟨wr.heap.size + 1, 0, none⟩) 0 0) intOk rfl (.tmp 48) (.tmp 51) rfl rfl (ownG_none_int (B := wr.heap.size + 1) (at_new (by simp)) (by omega)) (toZ (out.take k)) rfl (LOW.out _ (((Bel.refl wr).drew.alloc _).alloc _)) (by simp only [toZ_len, List.length_append, List.length_singleton, List.length_nil, List.length_take, List.length_drop]; unfold maxLen; omega) (by simp only [toZ_len, List.length_append, List.length_singleton, List.length_nil, List.length_take, List.length_drop]; omega) (Bel.size (((Bel.refl wr).drew.alloc _).alloc _)) ?_
        intro v1 z1 ho hg hb
        have hBz1 := Lib.hid (Bel.trans_below' (((Bel.refl wr).drew.alloc _).alloc _) hb)
        have hOz1 := Lib.hid ho
        have hLit := Lib.hid (show z1.heap[wr.heap.size]? = some (.cells #[.int .i64 n] 3) from at_grown hg (at_old (heap_alloc_new wr.drew _)) (by simp [Value.ownBlock]))
        clear ho hg hb
        refine hK.out _ _ trivial (fun hHeld => ?_);clear hK K;try simp only[Act.put,sqA,sqB,sqC]
        refine wpAnyH_ready (rs := [7]) (by kernel_rfl) (by simp) ?_
        refine AllReadyH.cons rfl (fun K hK => ?_) AllReadyH.nil
        refine step_append_seg (E := intEl) (n := wr.heap.size) intOk rfl (.tmp 52) (.tmp 54) rfl rfl hOz1.out [(n : Int)] rfl (lit_int hLit.out) (by simp only [toZ_len, List.length_append, List.length_singleton, List.length_nil, List.length_take, List.length_drop]; unfold maxLen; omega) (by simp only [toZ_len, List.length_append, List.length_singleton, List.length_nil, List.length_take, List.length_drop]; omega) (Bel.size hBz1.out) ?_
        intro v2 z2 ho hg hb
        have hBz2 := Lib.hid (Bel.trans_below' hBz1.out hb)
        have hOz2 := Lib.hid ho
        clear ho hg hb
        refine hK.out _ _ trivial (fun hHeld => ?_);clear hK K;try simp only[Act.put,sqA,sqB,sqC]
        refine wpAnyH_ready (rs := [11]) (by kernel_rfl) (by simp) ?_
        refine AllReadyH.cons rfl (fun K hK => ?_) AllReadyH.nil
        refine step_append_seg (E := intEl) (n := wr.heap.size) intOk rfl (.tmp 55) (.tmp 58) rfl rfl hOz2.out (toZ (out.drop k)) rfl (HIGH.out _ hBz2.out) (by simp only [toZ_len, List.length_append, List.length_singleton, List.length_nil, List.length_take, List.length_drop]; unfold maxLen; omega) (by simp only [toZ_len, List.length_append, List.length_singleton, List.length_nil, List.length_take, List.length_drop]; omega) (Bel.size hBz2.out) ?_
        intro v3 z3 ho hg hb
        have hBz3 := Lib.hid (Bel.trans_below' hBz2.out hb)
        have hOz3 := Lib.hid ho
        obtain ⟨p3, c3, hv3⟩ := ownG_len ho
        have hlen3 : (toZ (out.take k) ++ [(n : Int)] ++ toZ (out.drop k)).length = out.length + 1 := by simp only [toZ_len, List.length_append, List.length_singleton, List.length_take, List.length_drop]; omega
        rw [List.nil_append, hlen3] at hv3
        subst hv3
        replace hOz3 := Lib.hid ho
        clear ho hg hb
        refine hK.out _ _ trivial (fun hHeld => ?_);clear hK K;try simp only[Act.put,sqA,sqB,sqC]
        refine tk (v := ?_) 12 rfl ?_ ?_
        rotate_left
        ·(intros;go_simp<;>with_reducible rfl)
        try simp only[Act.put,sqA,sqB,sqC]
        refine wpAnyH_done (by kernel_rfl) ?_ _
        go_wp2_with (fail)
        go_roundw
        case rel => exact ⟨i + 1, by go_num, by omega, by
         rw [HE.out, HI.out]
         have e : toZ (out.take k ++ [n] ++ out.drop k) = [] ++ toZ (out.take k) ++ [(n : Int)] ++ toZ (out.drop k) := by simp [toZ]
         rw [e]
         exact hOz3.out.low HW.out.size, HW.out.trans hBz3.out⟩
        case measure => simp [intOf]; omega
      ·have hko' : k = out.length := by omega
       clear hstop hko'
       go_wp2_with (fail)
       have HW := Lib.hid (HB1.out.trans HB2.out)
       obtain ⟨s1, s2, hr1, hr2, hlow, hhigh⟩ := slice_parts (HO1.out.bel HB2.out) k hkl2 (by omega)
       have LOW := Lib.hid hlow
       have HIGH := Lib.hid hhigh
       clear hlow hhigh
       generalize hov : Value.slice op out.length oc = ov at *
       clear hov
       refine wp_region_held_drew (S := fun z => True) (by kernel_rfl) trivial (fun hHeld => ?_)
       refine tk (v := ?_) 1 rfl ?_ ?_
       rotate_left
       ·(intros;go_simp<;>with_reducible rfl)
       try simp only[Act.put,sqA,sqB,sqC]
       refine tk (v := ?_) 2 rfl ?_ ?_
       rotate_left
       ·(intros;go_simp<;>with_reducible rfl)
       try simp only[Act.put,sqA,sqB,sqC]
       refine tk (v := ?_) 5 rfl ?_ ?_
       rotate_left
       ·(intros;go_simp<;>with_reducible rfl)
       try simp only[Act.put,sqA,sqB,sqC]
       refine tk (v := ?_) 8 rfl ?_ ?_
       rotate_left
       ·(intros;go_simp<;>with_reducible rfl)
       try simp only[Act.put,sqA,sqB,sqC]
       refine tk (v := ?_) 9 rfl ?_ ?_
       rotate_left
       ·(intros;go_simp<;>with_reducible rfl)
       try simp only[Act.put,sqA,sqB,sqC]
       refine tk (v := ?_) 3 rfl ?_ ?_
       rotate_left
       ·(intros;go_simp<;>with_reducible rfl)
       try simp only[Act.put,sqA,sqB,sqC]
       refine tk (v := ?_) 10 rfl ?_ ?_
       rotate_left
       ·(intros;go_simp<;>with_reducible rfl)
       try simp only[Act.put,sqA,sqB,sqC]
       refine wpAnyH_ready (rs := [0, 6]) (by kernel_rfl) (by simp) ?_
       refine (AllReadyH.cons rfl (fun K hK => ?_) (AllReadyH.cons rfl (fun K hK => ?_) AllReadyH.nil))
       ·go_simp
        refine hK.out _ _ trivial (fun hHeld => ?_);clear hK K;try simp only[Act.put,sqA,sqB,sqC]
        refine wpAnyH_ready (rs := [4, 6]) (by kernel_rfl) (by simp) ?_
        refine (AllReadyH.cons rfl (fun K hK => ?_) (AllReadyH.cons rfl (fun K hK => ?_) AllReadyH.nil))
        ·refine step_append_seg (E := intEl) (n := wr.heap.size) (v := .slice (some ⟨wr.heap.size, 0, none⟩) 0 0) intOk rfl (.tmp 48) (.tmp 51) rfl rfl (ownG_none_int (heap_alloc_new wr.drew _) (Nat.le_refl _)) (toZ (out.take k)) rfl (LOW.out _ ((Bel.refl wr).drew.alloc _)) (by simp only [toZ_len, List.length_append, List.length_singleton, List.length_nil, List.length_take, List.length_drop]; unfold maxLen; omega) (by simp only [toZ_len, List.length_append, List.length_singleton, List.length_nil, List.length_take, List.length_drop]; omega) (Bel.size ((Bel.refl wr).drew.alloc _)) ?_
         intro v1 z1 ho hg hb
         have hBz1 := Lib.hid (Bel.trans_below' ((Bel.refl wr).drew.alloc _) hb)
         have hOz1 := Lib.hid ho
         clear ho hg hb
         refine hK.out _ _ trivial (fun hHeld => ?_);clear hK K;try simp only[Act.put,sqA,sqB,sqC]
         refine wpAnyH_ready (rs := [6]) (by kernel_rfl) (by simp) ?_
         refine AllReadyH.cons rfl (fun K hK => ?_) AllReadyH.nil
         go_simp
         refine hK.out _ _ trivial (fun hHeld => ?_);clear hK K;try simp only[Act.put,sqA,sqB,sqC]
         have hBz := Lib.hid (hBz1.out.alloc (.cells #[.int .i64 n] 3))
         have hLit := Lib.hid (heap_alloc_new z1 (.cells #[.int .i64 n] 3))
         refine wpAnyH_ready (rs := [7]) (by kernel_rfl) (by simp) ?_
         refine AllReadyH.cons rfl (fun K hK => ?_) AllReadyH.nil
         refine step_append_seg (E := intEl) (n := wr.heap.size) intOk rfl (.tmp 52) (.tmp 54) rfl rfl (hOz1.out.alloc _) [(n : Int)] rfl (lit_int hLit.out) (by simp only [toZ_len, List.length_append, List.length_singleton, List.length_nil, List.length_take, List.length_drop]; unfold maxLen; omega) (by simp only [toZ_len, List.length_append, List.length_singleton, List.length_nil, List.length_take, List.length_drop]; omega) (Bel.size hBz.out) ?_
         intro v2 z2 ho hg hb
         have hBz2 := Lib.hid (Bel.trans_below' hBz.out hb)
         have hOz2 := Lib.hid ho
         clear ho hg hb
         refine hK.out _ _ trivial (fun hHeld => ?_);clear hK K;try simp only[Act.put,sqA,sqB,sqC]
         refine wpAnyH_ready (rs := [11]) (by kernel_rfl) (by simp) ?_
         refine AllReadyH.cons rfl (fun K hK => ?_) AllReadyH.nil
         refine step_append_seg (E := intEl) (n := wr.heap.size) intOk rfl (.tmp 55) (.tmp 58) rfl rfl hOz2.out (toZ (out.drop k)) rfl (HIGH.out _ hBz2.out) (by simp only [toZ_len, List.length_append, List.length_singleton, List.length_nil, List.length_take, List.length_drop]; unfold maxLen; omega) (by simp only [toZ_len, List.length_append, List.length_singleton, List.length_nil, List.length_take, List.length_drop]; omega) (Bel.size hBz2.out) ?_
         intro v3 z3 ho hg hb
         have hBz3 := Lib.hid (Bel.trans_below' hBz2.out hb)
         have hOz3 := Lib.hid ho
         obtain ⟨p3, c3, hv3⟩ := ownG_len ho
         have hlen3 : (toZ (out.take k) ++ [(n : Int)] ++ toZ (out.drop k)).length = out.length + 1 := by simp only [toZ_len, List.length_append, List.length_singleton, List.length_take, List.length_drop]; omega
         rw [List.nil_append, hlen3] at hv3
         subst hv3
         replace hOz3 := Lib.hid ho
         clear ho hg hb
         refine hK.out _ _ trivial (fun hHeld => ?_);clear hK K;try simp only[Act.put,sqA,sqB,sqC]
         refine tk (v := ?_) 12 rfl ?_ ?_
         rotate_left
         ·(intros;go_simp<;>with_reducible rfl)
         try simp only[Act.put,sqA,sqB,sqC]
         refine wpAnyH_done (by kernel_rfl) ?_ _
         go_wp2_with (fail)
         go_roundw
         case rel => exact ⟨i + 1, by go_num, by omega, by
          rw [HE.out, HI.out]
          have e : toZ (out.take k ++ [n] ++ out.drop k) = [] ++ toZ (out.take k) ++ [(n : Int)] ++ toZ (out.drop k) := by simp [toZ]
          rw [e]
          exact hOz3.out.low HW.out.size, HW.out.trans hBz3.out⟩
         case measure => simp [intOf]; omega
        ·go_simp
         refine hK.out _ _ trivial (fun hHeld => ?_);clear hK K;try simp only[Act.put,sqA,sqB,sqC]
         refine wpAnyH_ready (rs := [4]) (by kernel_rfl) (by simp) ?_
         refine AllReadyH.cons rfl (fun K hK => ?_) AllReadyH.nil
         refine step_append_seg (E := intEl) (n := wr.heap.size) (v := .slice (some ⟨wr.heap.size, 0, none⟩) 0 0) intOk rfl (.tmp 48) (.tmp 51) rfl rfl ((ownG_none_int (heap_alloc_new wr.drew _) (Nat.le_refl _)).alloc _) (toZ (out.take k)) rfl (LOW.out _ (((Bel.refl wr).drew.alloc _).alloc _)) (by simp only [toZ_len, List.length_append, List.length_singleton, List.length_nil, List.length_take, List.length_drop]; unfold maxLen; omega) (by simp only [toZ_len, List.length_append, List.length_singleton, List.length_nil, List.length_take, List.length_drop]; omega) (Bel.size (((Bel.refl wr).drew.alloc _).alloc _)) ?_
         intro v1 z1 ho hg hb
         have hBz1 := Lib.hid (Bel.trans_below' (((Bel.refl wr).drew.alloc _).alloc _) hb)
         have hOz1 := Lib.hid ho
         have hLit := Lib.hid (show z1.heap[wr.heap.size + 1]? = some (.cells #[.int .i64 n] 3) from at_grown hg (at_new (by simp)) (by simp [Value.ownBlock]))
         clear ho hg hb
         refine hK.out _ _ trivial (fun hHeld => ?_);clear hK K;try simp only[Act.put,sqA,sqB,sqC]
         refine wpAnyH_ready (rs := [7]) (by kernel_rfl) (by simp) ?_
         refine AllReadyH.cons rfl (fun K hK => ?_) AllReadyH.nil
         refine step_append_seg (E := intEl) (n := wr.heap.size) intOk rfl (.tmp 52) (.tmp 54) rfl rfl hOz1.out [(n : Int)] rfl (lit_int hLit.out) (by simp only [toZ_len, List.length_append, List.length_singleton, List.length_nil, List.length_take, List.length_drop]; unfold maxLen; omega) (by simp only [toZ_len, List.length_append, List.length_singleton, List.length_nil, List.length_take, List.length_drop]; omega) (Bel.size hBz1.out) ?_
         intro v2 z2 ho hg hb
         have hBz2 := Lib.hid (Bel.trans_below' hBz1.out hb)
         have hOz2 := Lib.hid ho
         clear ho hg hb
         refine hK.out _ _ trivial (fun hHeld => ?_);clear hK K;try simp only[Act.put,sqA,sqB,sqC]
         refine wpAnyH_ready (rs := [11]) (by kernel_rfl) (by simp) ?_
         refine AllReadyH.cons rfl (fun K hK => ?_) AllReadyH.nil
         refine step_append_seg (E := intEl) (n := wr.heap.size) intOk rfl (.tmp 55) (.tmp 58) rfl rfl hOz2.out (toZ (out.drop k)) rfl (HIGH.out _ hBz2.out) (by simp only [toZ_len, List.length_append, List.length_singleton, List.length_nil, List.length_take, List.length_drop]; unfold maxLen; omega) (by simp only [toZ_len, List.length_append, List.length_singleton, List.length_nil, List.length_take, List.length_drop]; omega) (Bel.size hBz2.out) ?_
         intro v3 z3 ho hg hb
         have hBz3 := Lib.hid (Bel.trans_below' hBz2.out hb)
         have hOz3 := Lib.hid ho
         obtain ⟨p3, c3, hv3⟩ := ownG_len ho
         have hlen3 : (toZ (out.take k) ++ [(n : Int)] ++ toZ (out.drop k)).length = out.length + 1 := by simp only [toZ_len, List.length_append, List.length_singleton, List.length_take, List.length_drop]; omega
         rw [List.nil_append, hlen3] at hv3
         subst hv3
         replace hOz3 := Lib.hid ho
         clear ho hg hb
         refine hK.out _ _ trivial (fun hHeld => ?_);clear hK K;try simp only[Act.put,sqA,sqB,sqC]
         refine tk (v := ?_) 12 rfl ?_ ?_
         rotate_left
         ·(intros;go_simp<;>with_reducible rfl)
         try simp only[Act.put,sqA,sqB,sqC]
         refine wpAnyH_done (by kernel_rfl) ?_ _
         go_wp2_with (fail)
         go_roundw
         case rel => exact ⟨i + 1, by go_num, by omega, by
          rw [HE.out, HI.out]
          have e : toZ (out.take k ++ [n] ++ out.drop k) = [] ++ toZ (out.take k) ++ [(n : Int)] ++ toZ (out.drop k) := by simp [toZ]
          rw [e]
          exact hOz3.out.low HW.out.size, HW.out.trans hBz3.out⟩
         case measure => simp [intOf]; omega
       ·go_simp
        refine hK.out _ _ trivial (fun hHeld => ?_);clear hK K;try simp only[Act.put,sqA,sqB,sqC]
        refine wpAnyH_ready (rs := [0]) (by kernel_rfl) (by simp) ?_
        refine AllReadyH.cons rfl (fun K hK => ?_) AllReadyH.nil
        go_simp
        refine hK.out _ _ trivial (fun hHeld => ?_);clear hK K;try simp only[Act.put,sqA,sqB,sqC]
        refine wpAnyH_ready (rs := [4]) (by kernel_rfl) (by simp) ?_
        refine AllReadyH.cons rfl (fun K hK => ?_) AllReadyH.nil
        refine step_append_seg (E := intEl) (n := wr.heap.size) (v := .slice (some ⟨wr.heap.size + 1, 0, none⟩) 0 0) intOk rfl (.tmp 48) (.tmp 51) rfl rfl (ownG_none_int (B := wr.heap.size + 1) (at_new (by simp)) (by omega)) (toZ (out.take k)) rfl (LOW.out _ (((Bel.refl wr).drew.alloc _).alloc _)) (by simp only [toZ_len, List.length_append, List.length_singleton, List.length_nil, List.length_take, List.length_drop]; unfold maxLen; omega) (by simp only [toZ_len, List.length_append, List.length_singleton, List.length_nil, List.length_take, List.length_drop]; omega) (Bel.size (((Bel.refl wr).drew.alloc _).alloc _)) ?_
        intro v1 z1 ho hg hb
        have hBz1 := Lib.hid (Bel.trans_below' (((Bel.refl wr).drew.alloc _).alloc _) hb)
        have hOz1 := Lib.hid ho
        have hLit := Lib.hid (show z1.heap[wr.heap.size]? = some (.cells #[.int .i64 n] 3) from at_grown hg (at_old (heap_alloc_new wr.drew _)) (by simp [Value.ownBlock]))
        clear ho hg hb
        refine hK.out _ _ trivial (fun hHeld => ?_);clear hK K;try simp only[Act.put,sqA,sqB,sqC]
        refine wpAnyH_ready (rs := [7]) (by kernel_rfl) (by simp) ?_
        refine AllReadyH.cons rfl (fun K hK => ?_) AllReadyH.nil
        refine step_append_seg (E := intEl) (n := wr.heap.size) intOk rfl (.tmp 52) (.tmp 54) rfl rfl hOz1.out [(n : Int)] rfl (lit_int hLit.out) (by simp only [toZ_len, List.length_append, List.length_singleton, List.length_nil, List.length_take, List.length_drop]; unfold maxLen; omega) (by simp only [toZ_len, List.length_append, List.length_singleton, List.length_nil, List.length_take, List.length_drop]; omega) (Bel.size hBz1.out) ?_
        intro v2 z2 ho hg hb
        have hBz2 := Lib.hid (Bel.trans_below' hBz1.out hb)
        have hOz2 := Lib.hid ho
        clear ho hg hb
        refine hK.out _ _ trivial (fun hHeld => ?_);clear hK K;try simp only[Act.put,sqA,sqB,sqC]
        refine wpAnyH_ready (rs := [11]) (by kernel_rfl) (by simp) ?_
        refine AllReadyH.cons rfl (fun K hK => ?_) AllReadyH.nil
        refine step_append_seg (E := intEl) (n := wr.heap.size) intOk rfl (.tmp 55) (.tmp 58) rfl rfl hOz2.out (toZ (out.drop k)) rfl (HIGH.out _ hBz2.out) (by simp only [toZ_len, List.length_append, List.length_singleton, List.length_nil, List.length_take, List.length_drop]; unfold maxLen; omega) (by simp only [toZ_len, List.length_append, List.length_singleton, List.length_nil, List.length_take, List.length_drop]; omega) (Bel.size hBz2.out) ?_
        intro v3 z3 ho hg hb
        have hBz3 := Lib.hid (Bel.trans_below' hBz2.out hb)
        have hOz3 := Lib.hid ho
        obtain ⟨p3, c3, hv3⟩ := ownG_len ho
        have hlen3 : (toZ (out.take k) ++ [(n : Int)] ++ toZ (out.drop k)).length = out.length + 1 := by simp only [toZ_len, List.length_append, List.length_singleton, List.length_take, List.length_drop]; omega
        rw [List.nil_append, hlen3] at hv3
        subst hv3
        replace hOz3 := Lib.hid ho
        clear ho hg hb
        refine hK.out _ _ trivial (fun hHeld => ?_);clear hK K;try simp only[Act.put,sqA,sqB,sqC]
        refine tk (v := ?_) 12 rfl ?_ ?_
        rotate_left
        ·(intros;go_simp<;>with_reducible rfl)
        try simp only[Act.put,sqA,sqB,sqC]
        refine wpAnyH_done (by kernel_rfl) ?_ _
        go_wp2_with (fail)
        go_roundw
        case rel => exact ⟨i + 1, by go_num, by omega, by
         rw [HE.out, HI.out]
         have e : toZ (out.take k ++ [n] ++ out.drop k) = [] ++ toZ (out.take k) ++ [(n : Int)] ++ toZ (out.drop k) := by simp [toZ]
         rw [e]
         exact hOz3.out.low HW.out.size, HW.out.trans hBz3.out⟩
        case measure => simp [intOf]; omega
  ·obtain rfl : i = M.L.length := by omega
   go_wp2_with (fail)
   go_ret
   have e : segsL p.data.toList M.L = segsL p.data.toList (M.L.take M.L.length) := by rw [List.take_length]
   exact ⟨_, rfl, by rw [e]; exact HO.out, HB.out⟩

structure JS (n₀ : Nat) (w : World) (b : Nat) (M : RS) (F : List Nat) (jb : Nat) (p : ByteArray) (most : Int) : Prop where
 prog : ProgAt n₀ w b M F
 ok : M.ok
 j : JAt w jb b p most
 out : jb ∉ F
 std : ∀ z, Keep F w z → Std z
section
variable {n₀ : Nat} {w x y : World} {b jb : Nat} {M M1 M2 : RS} {F F1 : List Nat} {p : ByteArray} {most : Int}
theorem JS.std0 (h : JS n₀ w b M F jb p most) : Std w := h.std w (Keep.refl _ _)
theorem JS.bel (h : JS n₀ w b M F jb p most) (hb : Bel w x) : JS n₀ x b M F jb p most :=
 ⟨h.prog.bel hb, h.ok, h.j.bel hb, h.out, fun z hz => h.std z ((Keep.of_bel hb F).trans hz (fun k hk => Or.inl hk))⟩
theorem JS.step (h : JS n₀ w b M F jb p most) (hT : ProgTo n₀ w x b M1 F) (hM : M1.ok) : ∃ F1, JS n₀ x b M1 F1 jb p most ∧ Keep F w x ∧ (∀ k ∈ F1, k ∈ F ∨ w.heap.size ≤ k) := by
 obtain ⟨F1, h1, h2, h3⟩ := hT
 refine ⟨F1, ⟨h1, hM, h.j.keep (h2.block jb h.j.lt h.out), fun hm => ?_, fun z hz => h.std z (h2.trans hz h3)⟩, h2, h3⟩
 rcases h3 jb hm with h4 | h4
 ·exact h.out h4
 ·have := h.j.lt; omega
theorem to_then (hk : Keep F w x) (hF : ∀ k ∈ F1, k ∈ F ∨ w.heap.size ≤ k) (h2 : ProgTo n₀ x y b M2 F1) : ProgTo n₀ w y b M2 F := by
 obtain ⟨F2, q1, q2, q3⟩ := h2
 refine ⟨F2, q1, hk.trans q2 hF, fun k hm => ?_⟩
 rcases q3 k hm with h | h
 ·exact hF k h
 ·exact Or.inr (Nat.le_trans hk.size h)
end

set_option maxHeartbeats 4000000 in
set_option maxRecDepth 20000 in
theorem jturn_any (n₀ : Nat) (w : World) (b : Nat) (M : RS) (F : List Nat) (jb : Nat) (p : ByteArray) (most : Int) (h : JS n₀ w b M F jb p most) (hp : p.size ≤ 100) (h9 : lastN p.data.toList M.L < 9999999) :
  Calls Tryz.prog 51 #[.pointer (some ⟨jb, 0, none⟩)] w fun e y => e = .returned (.int .i64 (jturn p.data.toList M).1) ∧ ProgTo n₀ w y b (jturn p.data.toList M).2 F := by
 have H := Lib.hid h
 have c0 := h.j.files
 clear h
 obtain ⟨n, hn⟩ : ∃ n, n = lastN p.data.toList M.L := ⟨_, rfl⟩
 have HN := Lib.hid hn
 rw [← hn] at h9
 have hne : ((n : Int) == 9999999) = false := by rw [beq_eq_false_iff_ne]; omega
 have hfl := file_len p.data.toList (n := n + 1) (by omega)
 have hfz := str_len (fileN p.data.toList (n + 1))
 have hpl : p.data.toList.length = p.size := rfl
 have HCF := Lib.hid (fun (z : World) (hj : JAt z jb b p most) (hs : Std z) => file_any z jb b p most (n + 1) hj hp (by omega) hs)
 have hcast : ((n + 1 : Nat) : Int) = (n : Int) + 1 := by omega
 rw [hcast] at HCF
 have hwr : IntKind.i64.wrap ((n : Int) + 1) = (n : Int) + 1 := IntWalk.i64_in _ (by omega)
 clear hn hcast
 go_enter Tryz.func51, Tryz.ntmps51
 go_wp2_with (fail)
 refine (num_any n₀ w jb b p most M F H.out.prog H.out.ok H.out.j hp H.out.std0).mono ?_
 rintro e w1 ⟨rfl, hb1⟩
 rw [← HN.out]
 have HB1 := Lib.hid hb1
 have c1 := cell_later hb1 c0
 clear hb1
 have HX := Lib.hid (H.out.bel HB1.out)
 go_wp2_with (fail)
 refine wp_region_held_drew (S := fun z => z.cell? ⟨jb, 0, none⟩ = some (.pointer (some ⟨b, 0, none⟩))) (by kernel_rfl) c1 (fun hHeld => ?_)
 refine tq ⟨some 13, .move (.tmp 0), 108, "journal.go:105", #[], none⟩ ?_ 0 rfl ?_ ?_;rotate_left;·(intros;go_simp<;>with_reducible rfl)
 try simp only[Act.put,sqA,sqB,sqC]
 refine tq ⟨some 14, .nilCheck (.tmp 13), 0, "journal.go:105", #[⟨0, .data⟩], none⟩ ?_ 1 rfl ?_ ?_;rotate_left;·(intros;go_simp<;>with_reducible rfl)
 try simp only[Act.put,sqA,sqB,sqC]
 refine tq ⟨some 15, .fieldAddr 153 (.tmp 14) 0, 0, "journal.go:105", #[⟨1, .data⟩], none⟩ ?_ 2 rfl ?_ ?_;rotate_left;·(intros;go_simp<;>with_reducible rfl)
 try simp only[Act.put,sqA,sqB,sqC]
 refine tq ⟨some 16, .load 55 (.tmp 15), 55, "journal.go:105", #[⟨2, .data⟩], none⟩ ?_ 3 rfl ?_ ?_;rotate_left;·(intros;go_simp<;>with_reducible rfl)
 try simp only[Act.put,sqA,sqB,sqC]
 refine tq ⟨some 17, .move (.tmp 0), 108, "journal.go:105", #[], none⟩ ?_ 4 rfl ?_ ?_;rotate_left;·(intros;go_simp<;>with_reducible rfl)
 try simp only[Act.put,sqA,sqB,sqC]
 refine tq ⟨some 18, .move (.tmp 3), 3, "journal.go:105", #[], none⟩ ?_ 5 rfl ?_ ?_;rotate_left;·(intros;go_simp<;>with_reducible rfl)
 try simp only[Act.put,sqA,sqB,sqC]
 refine tq ⟨some 19, .binOp .add 3 (.tmp 18) (.const (.int .i64 1)) 3, 3, "journal.go:105", #[⟨5, .data⟩], none⟩ ?_ 6 rfl ?_ ?_;rotate_left;·(intros;go_simp<;>with_reducible rfl)
 try simp only[Act.put,sqA,sqB,sqC]
 refine wpAnyH_ready (rs := [7]) (by kernel_rfl) (by simp) ?_
 refine ar1 ⟨some 20, .call ⟨.value (.func 84), #[.tmp 17, .tmp 19], #[108, 3]⟩, 9, "journal.go:105", #[⟨4, .data⟩, ⟨6, .data⟩], none⟩ rfl (fun K hK => ?_)
 go_simp
 refine (HCF.out _ (HX.out.bel (Bel.refl w1).drew).j (HX.out.bel (Bel.refl w1).drew).std0).mono ?_
 rintro e w2 ⟨rfl, hb2⟩
 have HB2 := Lib.hid ((HB1.out.drew).trans hb2)
 have c2 := cell_later hb2 (show _ = _ from c1)
 clear hb2
 dsimp only
 refine hK.out _ _ c2 (fun hHeld => ?_);clear hK K;try simp only[Act.put,sqA,sqB,sqC]
 refine wpAnyH_ready (rs := [8]) (by kernel_rfl) (by simp) ?_
 refine ar1 ⟨some 21, .call { callee := .value (.func 35), args := #[.tmp 16, .tmp 20, .const (.string { data := #[] })], argTypes := #[55, 9, 9] }, 31, "journal.go:105", #[⟨3, .data⟩, ⟨7, .data⟩, ⟨7, .chain⟩], none⟩ rfl (fun K hK => ?_)
 go_simp
 refine (padd_any n₀ w2 b M F (⟨(fileN p.data.toList (n + 1)).toArray⟩ : ByteArray) ⟨#[]⟩ (H.out.prog.bel HB2.out) (by omega) (by decide) H.out.ok.srt (good_len H.out.ok) (good_bytes H.out.ok) H.out.ok.room).mono ?_
 rintro e w3 ⟨rfl, hT⟩
 rw [str_list] at hT ⊢
 have HT := Lib.hid (hT.before HB2.out)
 have c3 : w3.cell? ⟨jb, 0, none⟩ = some (.pointer (some ⟨b, 0, none⟩)) := by
  obtain ⟨F3, _, q2, _⟩ := hT
  exact q2.cell c2 H.out.out
 clear hT
 have HJ := Lib.hid (show jturn p.data.toList M = addS (fileN p.data.toList (n + 1)) (⟨#[]⟩ : ByteArray).data.toList M by unfold jturn; rw [← HN.out])
 dsimp only
 refine hK.out _ _ c3 (fun hHeld => ?_);clear hK K;try simp only[Act.put,sqA,sqB,sqC]
 refine tq ⟨some 2, .assign (.tmp 21), 31, "journal.go:105", #[⟨8, .data⟩, ⟨8, .chain⟩, ⟨0, .phase⟩, ⟨1, .phase⟩, ⟨2, .phase⟩, ⟨3, .phase⟩, ⟨4, .phase⟩, ⟨5, .phase⟩, ⟨6, .phase⟩, ⟨7, .phase⟩, ⟨8, .phase⟩], none⟩ ?_ 9 rfl ?_ ?_;rotate_left;·(intros;go_simp<;>with_reducible rfl)
 try simp only[Act.put,sqA,sqB,sqC]
 refine wpAnyH_done (by kernel_rfl) ?_ _
 go_wp2_with (fail)
 go_ret
 exact ⟨by rw [HJ.out]; rfl, by rw [HJ.out]; exact HT.out⟩

structure RJS (n₀ : Nat) (w : World) (b : Nat) (M : RS) (F : List Nat) (jb : Nat) (p : ByteArray) (most : Int) : Prop where
 ref : RefP n₀ w b M F
 ok : M.ok
 j : JAt w jb b p most
 out : jb ∉ F
section
variable {n₀ : Nat} {w x y : World} {b jb : Nat} {M M1 M2 : RS} {F F1 : List Nat} {p : ByteArray} {most : Int}
theorem RJS.bel (h : RJS n₀ w b M F jb p most) (hb : Bel w x) : RJS n₀ x b M F jb p most :=
 ⟨h.ref.bel hb, h.ok, h.j.bel hb, h.out⟩
theorem RJS.step (h : RJS n₀ w b M F jb p most) (hT : RefTo n₀ w x b M1 F) (hM : M1.ok) : ∃ F1, RJS n₀ x b M1 F1 jb p most ∧ Keep F w x ∧ (∀ k ∈ F1, k ∈ F ∨ w.heap.size ≤ k) := by
 obtain ⟨F1, h1, h2, h3⟩ := hT
 refine ⟨F1, ⟨h1, hM, h.j.keep (h2.block jb h.j.lt h.out), fun hm => ?_⟩, h2, h3⟩
 rcases h3 jb hm with h4 | h4
 ·exact h.out h4
 ·have := h.j.lt; omega
end

end Go.Proofs.YtfbiinnenlgkfaaGreatDoor
