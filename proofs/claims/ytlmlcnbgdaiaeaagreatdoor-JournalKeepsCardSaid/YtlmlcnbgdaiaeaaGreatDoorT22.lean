/- JSegs, JRSegs, JTurn, JRTurn, JWrite, JTrim, JRTrim, JOpen, JROpen, JRWrite, JHold, JSame, JShown, JAct, laid together. -/
import Derived.Test.YtlmlcnbgdaiaeaaGreatDoorT21
import Derived.Test.YtlmlcnbgdaiaeaaGreatDoorT14
import Derived.Sort.OwnSortedInts
import Derived.Test.YtlmlcnbgdaiaeaaGreatDoorT2
import Derived.Test.YtlmlcnbgdaiaeaaGreatDoorT24
import Derived.Test.YtlmlcnbgdaiaeaaGreatDoorT7
set_option linter.unusedSimpArgs false
set_option linter.unusedVariables false
/- journal's Segments, Number, names. -/
namespace Go.Proofs.YtlmlcnbgdaiaeaaGreatDoor
open Go.RowKit Go.Deep Go.Maps

def intEl : El Int := ⟨3, 35, 1, fun i => [.int .i64 i]⟩
theorem intOk : ElOk intEl 8 := ⟨fun _ => rfl, fun a u hu => by simp [intEl] at hu; subst hu; rfl, by kernel_rfl, ⟨.int .i64 0, by kernel_rfl, rfl⟩, by decide⟩
theorem intAll (l : List Int) : intEl.all l = l.map (Value.int .i64) := by
  induction l with
  | nil => rfl
  | cons x l ih => simp only [El.all, List.flatMap_cons, List.map_cons] at *; rw [ih]; rfl
theorem sort_own {B : Nat} {w : World} {v : Value} {l : List Int} (h : OwnG intEl B w v l) (hB : B ≤ w.heap.size) (hl : l.length ≤ 1000) :
    Calls Tryz.prog 71 #[v] w fun e w' => e = .returned (.tuple #[]) ∧ OwnG intEl B w' v (l.mergeSort fun x y => decide (x ≤ y)) ∧ Below B w w' := by
  obtain ⟨h1, h2⟩ := h
  rcases h2 with ⟨rfl, h0⟩ | ⟨g, cap, cur, rfl, hg, hh, hc, hx, hsz, htk⟩
  · obtain rfl : l = [] := List.length_eq_zero_iff.1 h0
    refine (Any.slices_Sort_int_none Tryz.lays189 none 0 w).mono ?_
    rintro e w' ⟨rfl, rfl⟩
    exact ⟨rfl, by rw [List.mergeSort_nil]; exact OwnG.nil _ _ _, Below.refl _ _⟩
  · have hgs : g < w.heap.size := (Array.getElem?_eq_some_iff.1 hh).1
    have ht : cur.toList.take l.length = l.map (Value.int .i64) := by
      rw [show intEl.n = 1 from rfl, Nat.mul_one] at htk; rw [← intAll]; exact htk
    have hlen : (l.mergeSort fun x y => decide (x ≤ y)).length = l.length := List.length_mergeSort _
    refine (Any.slices_Sort_int Tryz.lays189 g 0 cap l w (holds_of_blockI hh ht) hgs (by omega)).mono ?_
    rintro e w' ⟨rfl, n, os, rfl⟩
    refine ⟨rfl, ?_, ?_⟩
    · have := ownsRow_sortedI (n := n) (os := os) (ts := l.mergeSort fun x y => decide (x ≤ y)) hlen hg hh hc hx (by rw [hsz]; rfl)
      unfold OwnG
      rw [intAll, hlen]
      exact this
    · exact (Below.refl B w).grown (grownBy_sortedI _) hB (fun k hk => by simp at hk; omega)

def SgRel (p : List UInt8) (L : List FI) (w1 : World) (lv iv : Value) (x : World) : Prop :=
  ∃ k : Nat, iv = .int .i64 k ∧ k ≤ L.length ∧ OwnG intEl w1.heap.size x lv ((colL p (L.take k)).map fun n : Nat => (n : Int)) ∧ Bel w1 x
theorem col_snoc (p : List UInt8) (L : List FI) (k : Nat) (h : k < L.length) : colL p (L.take (k + 1)) = if segN p L[k].name = 0 then colL p (L.take k) else colL p (L.take k) ++ [segN p L[k].name] := by
  rw [List.take_add_one, List.getElem?_eq_getElem h]
  exact col_step p _ _
theorem col_len (p : List UInt8) (L : List FI) : (colL p L).length ≤ L.length := by
  unfold colL
  exact Nat.le_trans (List.length_filter_le _ _) (by simp)
set_option maxHeartbeats 4000000 in
theorem segs_any (n₀ : Nat) (w : World) (jb b : Nat) (p : ByteArray) (most : Int) (M : RS) (F : List Nat) (h : ProgAt n₀ w b M F) (hM : M.ok) (hj : JAt w jb b p most) (hp : p.size ≤ 100) (hstd : Std w) :
    Calls Tryz.prog 29 #[.pointer (some ⟨jb, 0, none⟩)] w fun e w' => ∃ v, e = .returned v ∧ OwnG intEl w.heap.size w' v ((segsL p.data.toList M.L).map fun n : Nat => (n : Int)) ∧ Bel w w' := by
  have HS := Lib.hid hstd; clear hstd
  have HJ := Lib.hid hj
  have c0 := hj.files
  have HP := Lib.hid h
  have HM := Lib.hid hM
  have h60 := hM.len
  clear hj h hM
  go_enter Tryz.func29, Tryz.ntmps29
  go_wp2_with (fail)
  refine (pnames_any n₀ w b M F HP.out HM.out.srt (good_len HM.out)).mono ?_
  rintro e w1 ⟨v, rfl, hnm, hb1⟩
  have HNM := Lib.hid hnm
  have HB1 := Lib.hid hb1
  obtain ⟨np, ncap, hnv⟩ := ownG_len hnm
  rw [List.length_map] at hnv
  subst hnv
  clear hnm hb1
  go_wp2_with (fail)
  go_loopw [3, 19] (fun lv iv x => SgRel p.data.toList M.L w1 lv iv x) (fun _ iv _ => M.L.length - (intOf iv).toNat)
  case atStart => exact ⟨0, rfl, Nat.zero_le _, OwnG.nil _ _ _, Bel.refl _⟩
  case round =>
    obtain ⟨k, rfl, hk, hown, hb⟩ := hrel
    have HB := Lib.hid hb
    have HV := Lib.hid hown
    obtain ⟨lp, lc, hlv⟩ := ownG_len hown
    rw [List.length_map] at hlv
    subst hlv
    clear hown hb
    by_cases hlt : k < M.L.length
    · have hne : M.L.map (·.name) ≠ [] := by intro e; rw [List.map_eq_nil_iff] at e; rw [e] at hlt; simp at hlt
      obtain ⟨g, ncap', hv, _, hgl, _, hcs⟩ := ownG_cells strOk (HNM.out.bel HB.out) hne
      rw [List.length_map] at hv
      simp only [Value.slice.injEq, true_and] at hv
      obtain ⟨rfl, rfl⟩ := hv
      have e0 := hcs k M.L[k].name (by rw [List.getElem?_map, List.getElem?_eq_getElem hlt]; rfl) 0 _ rfl
      have hcn := col_snoc p.data.toList M.L k hlt
      have hyn := name_len (HM.out.each M.L[k] (List.getElem_mem hlt)).1
      obtain ⟨y, hy⟩ : ∃ y, y = M.L[k] := ⟨_, rfl⟩
      rw [← hy] at e0 hcn hyn
      simp only [strEl, Nat.mul_one, Nat.add_zero] at e0
      have hsz := str_len y.name
      have HSL := Lib.hid (str_list y.name)
      have HCN := Lib.hid hcn
      clear hy hcs hne hcn
      have hcl := col_len p.data.toList (M.L.take k)
      have hcl2 : (M.L.take k).length ≤ k := by rw [List.length_take]; omega
      by_cases h0 : segN p.data.toList y.name = 0
      · have HN := Lib.hid (numV_none (p := p.data.toList) (nm := (⟨y.name.toArray⟩ : ByteArray).data.toList) (by rw [HSL.out]; exact h0))
        have HCE := Lib.hid (show colL p.data.toList (M.L.take (k + 1)) = colL p.data.toList (M.L.take k) by rw [HCN.out, if_pos h0])
        clear hcl hcl2 h0
        go_wp2_with (fail)
        refine (jnumber_any _ jb b p most ⟨y.name.toArray⟩ (HJ.out.bel (HB1.out.trans HB.out)) hp (by omega) (HS.out.bel (HB1.out.trans HB.out))).mono ?_
        rintro e w2 ⟨rfl, hb2⟩
        rw [HN.out]
        have HB2 := Lib.hid (HB.out.trans hb2)
        have HV2 := Lib.hid (HV.out.bel hb2)
        clear hb2
        go_wp2_with (fail)
        go_roundw
        case rel => exact ⟨k + 1, by go_num, by omega, by rw [HCE.out]; exact HV2.out, HB2.out⟩
        case measure => simp [intOf]; omega
      · obtain ⟨n, hn⟩ : ∃ n, n = segN p.data.toList y.name := ⟨_, rfl⟩
        have HN := Lib.hid (numV_some (p := p.data.toList) (nm := (⟨y.name.toArray⟩ : ByteArray).data.toList) (n := n) (by rw [HSL.out]; exact hn.symm) (by omega))
        have HCE := Lib.hid (show (colL p.data.toList (M.L.take (k + 1))).map (fun n : Nat => (n : Int)) = (colL p.data.toList (M.L.take k)).map (fun n : Nat => (n : Int)) ++ [(n : Int)] by rw [HCN.out, if_neg h0, ← hn]; simp)
        have hml : ((colL p.data.toList (M.L.take k)).map fun n : Nat => (n : Int)).length ≤ 60 := by rw [List.length_map]; omega
        clear hcl hcl2 h0 hn
        go_wp2_with (fail)
        refine (jnumber_any _ jb b p most ⟨y.name.toArray⟩ (HJ.out.bel (HB1.out.trans HB.out)) hp (by omega) (HS.out.bel (HB1.out.trans HB.out))).mono ?_
        rintro e w2 ⟨rfl, hb2⟩
        rw [HN.out]
        have HB2 := Lib.hid (HB.out.trans hb2)
        have HV2 := Lib.hid (HV.out.bel hb2)
        clear hb2
        go_wp2_with (at_builtin; refine stop_here ?_)
        refine go_on ?_
        refine append_glit (L := (colL p.data.toList (M.L.take k)).map fun n : Nat => (n : Int)) intOk rfl _ _ rfl rfl HV2.out _ _ _ [(n : Int)] rfl rfl rfl (by unfold maxLen; simp only [List.length_singleton]; omega) (by simp only [List.length_singleton]; omega) HB2.out.size (Or.inl rfl) ?_
        intro v3 w3 hown3 hb3 hZ3
        obtain ⟨p3, c3, hv3⟩ := ownG_len hown3
        rw [List.length_append, List.length_map, List.length_singleton] at hv3
        subst hv3
        have HV3 := Lib.hid hown3
        have HB3 := Lib.hid (HB2.out.trans_below hb3)
        clear hown3 hb3
        go_wp2_with (fail)
        go_roundw
        case rel => exact ⟨k + 1, by go_num, by omega, by rw [HCE.out]; exact HV3.out, HB3.out⟩
        case measure => simp [intOf]; omega
    · obtain rfl : k = M.L.length := by omega
      have hv1 := HV.out
      rw [List.take_length] at hv1
      have HSO := Lib.hid (sort_own hv1 HB.out.size (by rw [List.length_map]; have := col_len p.data.toList M.L; omega))
      rw [List.take_length] at *
      clear hv1
      go_wp2_with (fail)
      refine HSO.out.mono ?_
      rintro e w2 ⟨rfl, hown2, hb2⟩
      rw [segs_merge] at hown2
      have HB2 := Lib.hid (HB.out.trans_below hb2)
      have HV2 := Lib.hid hown2
      clear hown2 hb2
      go_wp2_with (fail)
      go_ret
      exact ⟨_, rfl, HV2.out.low HB1.out.size, HB1.out.trans HB2.out⟩
def NbRel (l : List Nat) (w1 : World) (nv iv : Value) (x : World) : Prop :=
  ∃ k : Nat, iv = .int .i64 k ∧ k ≤ l.length ∧ nv = .int .i64 ((l.take k).getLast?.getD 0 : Nat) ∧ Bel w1 x
theorem last_take (l : List Nat) (k : Nat) (h : k < l.length) : (l.take (k + 1)).getLast?.getD 0 = l[k] := by
  rw [List.take_add_one, List.getElem?_eq_getElem h, Option.toList_some, List.getLast?_concat]; rfl
theorem int_at {B : Nat} {x : World} {v : Value} {l : List Nat} (h : OwnG intEl B x v (l.map fun n : Nat => (n : Int))) (k : Nat) (hk : k < l.length) : ∃ g cap, v = .slice (some ⟨g, 0, none⟩) l.length cap ∧ l.length ≤ cap ∧ B ≤ g ∧ x.cell? ⟨g, k, none⟩ = some (.int .i64 (l[k] : Nat)) := by
  have hne : l.map (fun n : Nat => (n : Int)) ≠ [] := by intro e; rw [List.map_eq_nil_iff] at e; rw [e] at hk; simp at hk
  obtain ⟨g, cap, rfl, hg, _, hgl, hcs⟩ := ownG_cells intOk h hne
  rw [List.length_map] at hgl
  refine ⟨g, cap, by rw [List.length_map], hgl, hg, ?_⟩
  have := hcs k (l[k] : Int) (by rw [List.getElem?_map, List.getElem?_eq_getElem hk]; rfl) 0 _ rfl
  simpa [intEl] using this
set_option maxHeartbeats 4000000 in
theorem num_any (n₀ : Nat) (w : World) (jb b : Nat) (p : ByteArray) (most : Int) (M : RS) (F : List Nat) (h : ProgAt n₀ w b M F) (hM : M.ok) (hj : JAt w jb b p most) (hp : p.size ≤ 100) (hstd : Std w) :
    Calls Tryz.prog 26 #[.pointer (some ⟨jb, 0, none⟩)] w fun e w' => e = .returned (.int .i64 (lastN p.data.toList M.L : Nat)) ∧ Bel w w' := by
  have HC := Lib.hid (segs_any n₀ w jb b p most M F h hM hj hp hstd)
  have hsl := segs_len p.data.toList M.L
  have h60 := hM.len
  obtain ⟨l, hl⟩ : ∃ l, l = segsL p.data.toList M.L := ⟨_, rfl⟩
  have HLN := Lib.hid (show lastN p.data.toList M.L = l.getLast?.getD 0 by rw [hl]; rfl)
  rw [← hl] at HC hsl
  clear hl hj h hM hstd
  go_enter Tryz.func26, Tryz.ntmps26
  go_wp2_with (fail)
  refine HC.out.mono ?_
  rintro e w1 ⟨v, rfl, hown, hb1⟩
  have HV := Lib.hid hown
  have HB1 := Lib.hid hb1
  obtain ⟨sp, sc, hv⟩ := ownG_len hown
  rw [List.length_map] at hv
  subst hv
  clear hown hb1
  go_wp2_with (fail)
  go_loopw [3, 9] (fun nv iv x => NbRel l w1 nv iv x) (fun _ iv _ => l.length - (intOf iv).toNat)
  case atStart => exact ⟨0, rfl, Nat.zero_le _, rfl, Bel.refl _⟩
  case round =>
    obtain ⟨k, rfl, hk, rfl, hb⟩ := hrel
    have HB := Lib.hid hb; clear hb
    by_cases hlt : k < l.length
    · obtain ⟨g, cap, hv, hcap, _, e0⟩ := int_at (HV.out.bel HB.out) k hlt
      simp only [Value.slice.injEq, true_and] at hv
      obtain ⟨rfl, rfl⟩ := hv
      have HLT := Lib.hid (last_take l k hlt)
      obtain ⟨m, hm⟩ : ∃ m, m = l[k] := ⟨_, rfl⟩
      rw [← hm] at e0 HLT
      clear hm
      go_wp2_with (fail)
      go_roundw
      case rel => exact ⟨k + 1, by go_num, by omega, by rw [HLT.out], HB.out⟩
      case measure => simp [intOf]; omega
    · obtain rfl : k = l.length := by omega
      go_wp2_with (fail)
      go_ret
      exact ⟨by rw [HLN.out, List.take_length]; rfl, HB1.out.trans HB.out⟩
def NsRel (p : List UInt8) (l : List Nat) (w1 : World) (lv iv : Value) (x : World) : Prop :=
  ∃ k : Nat, iv = .int .i64 k ∧ k ≤ l.length ∧ OwnG strEl w1.heap.size x lv ((l.take k).map (fileN p)) ∧ Bel w1 x
set_option maxHeartbeats 4000000 in
theorem jnames_any (n₀ : Nat) (w : World) (jb b : Nat) (p : ByteArray) (most : Int) (M : RS) (F : List Nat) (h : ProgAt n₀ w b M F) (hM : M.ok) (hj : JAt w jb b p most) (hp : p.size ≤ 100) (hstd : Std w) :
    Calls Tryz.prog 55 #[.pointer (some ⟨jb, 0, none⟩)] w fun e w' => ∃ v, e = .returned v ∧ OwnG strEl w.heap.size w' v ((segsL p.data.toList M.L).map (fileN p.data.toList)) ∧ Bel w w' := by
  have HC := Lib.hid (segs_any n₀ w jb b p most M F h hM hj hp hstd)
  have hsl := segs_len p.data.toList M.L
  have h60 := hM.len
  obtain ⟨l, hl⟩ : ∃ l, l = segsL p.data.toList M.L := ⟨_, rfl⟩
  have HLE := Lib.hid (show ∀ n ∈ l, n ≤ 9999999 from fun n hn => by rw [hl] at hn; exact (mem_segs_file.1 hn).2.1)
  rw [← hl] at HC hsl ⊢
  have HS := Lib.hid hstd
  have HJ := Lib.hid hj
  clear hl hj h hM hstd
  go_enter Tryz.func55, Tryz.ntmps55
  go_wp2_with (fail)
  refine HC.out.mono ?_
  rintro e w1 ⟨v, rfl, hown, hb1⟩
  have HV := Lib.hid hown
  have HB1 := Lib.hid hb1
  obtain ⟨sp, sc, hv⟩ := ownG_len hown
  rw [List.length_map] at hv
  subst hv
  clear hown hb1
  go_wp2_with (fail)
  go_loopw [3, 9] (fun lv iv x => NsRel p.data.toList l w1 lv iv x) (fun _ iv _ => l.length - (intOf iv).toNat)
  case atStart => exact ⟨0, rfl, Nat.zero_le _, OwnG.nil _ _ _, Bel.refl _⟩
  case round =>
    obtain ⟨k, rfl, hk, hown, hb⟩ := hrel
    have HB := Lib.hid hb
    have HL := Lib.hid hown
    obtain ⟨lp, lc, hlv⟩ := ownG_len hown
    rw [List.length_map, List.length_take, Nat.min_eq_left hk] at hlv
    subst hlv
    clear hown hb
    by_cases hlt : k < l.length
    · obtain ⟨g, cap, hv, hcap, _, e0⟩ := int_at (HV.out.bel HB.out) k hlt
      simp only [Value.slice.injEq, true_and] at hv
      obtain ⟨rfl, rfl⟩ := hv
      have HLT := Lib.hid (show (l.take (k + 1)).map (fileN p.data.toList) = (l.take k).map (fileN p.data.toList) ++ [fileN p.data.toList l[k]] by
        rw [List.take_add_one, List.getElem?_eq_getElem hlt, List.map_append]; rfl)
      have hm9 := HLE.out l[k] (List.getElem_mem hlt)
      obtain ⟨m, hm⟩ : ∃ m, m = l[k] := ⟨_, rfl⟩
      rw [← hm] at e0 HLT hm9
      clear hm
      have hml : ((l.take k).map (fileN p.data.toList)).length ≤ 60 := by rw [List.length_map, List.length_take]; omega
      have hml2 : ((l.take k).map (fileN p.data.toList)).length = k := by rw [List.length_map, List.length_take]; omega
      go_wp2_with (fail)
      refine (file_any _ jb b p most m (HJ.out.bel (HB1.out.trans HB.out)) hp (by omega) (HS.out.bel (HB1.out.trans HB.out))).mono ?_
      rintro e w2 ⟨rfl, hb2⟩
      have HB2 := Lib.hid (HB.out.trans hb2)
      have HL2 := Lib.hid (HL.out.bel hb2)
      clear hb2
      go_wp2_with (at_builtin; refine stop_here ?_)
      refine go_on ?_
      refine append_glit (L := (l.take k).map (fileN p.data.toList)) strOk rfl _ _ rfl rfl HL2.out _ _ _ [fileN p.data.toList m] rfl rfl rfl (by unfold maxLen; simp only [List.length_singleton]; omega) (by simp only [List.length_singleton]; omega) HB2.out.size (Or.inl rfl) ?_
      intro v3 w3 hown3 hb3 hZ3
      obtain ⟨p3, c3, hv3⟩ := ownG_len hown3
      rw [List.length_append, hml2] at hv3
      subst hv3
      have HV3 := Lib.hid hown3
      have HB3 := Lib.hid (HB2.out.trans_below hb3)
      clear hown3 hb3
      go_wp2_with (fail)
      go_roundw
      case rel => exact ⟨k + 1, by go_num, by omega, by rw [HLT.out]; exact HV3.out, HB3.out⟩
      case measure => simp [intOf]; omega
    · obtain rfl : k = l.length := by omega
      go_wp2_with (fail)
      go_ret
      have := HL.out
      rw [List.take_length] at this
      exact ⟨_, rfl, this.low HB1.out.size, HB1.out.trans HB.out⟩
end Go.Proofs.YtlmlcnbgdaiaeaaGreatDoor
/- moultref7's Segments and Number. -/
namespace Go.Proofs.YtlmlcnbgdaiaeaaGreatDoor
open Go.RowKit Go.Deep Go.Maps

def toZ (l : List Nat) : List Int := l.map fun n : Nat => (n : Int)
theorem toZ_len (l : List Nat) : (toZ l).length = l.length := by unfold toZ; rw [List.length_map]
theorem tw_le : ∀ (n : Nat) (out : List Nat), (out.takeWhile (fun m => decide (m < n))).length ≤ out.length
  | n, [] => by simp
  | n, x :: out => by
    rw [List.takeWhile_cons]
    split
    · simp only [List.length_cons]; have := tw_le n out; omega
    · simp
theorem tw_get (n : Nat) (out : List Nat) (k : Nat) (hk : k < (out.takeWhile (fun m => decide (m < n))).length) (hko : k < out.length) : out[k] < n := by
  have h1 := take_less n out _ (List.getElem_mem hk)
  have h2 := List.takeWhile_append_dropWhile (p := fun m => decide (m < n)) (l := out)
  have h3 : out[k]? = some (out.takeWhile (fun m => decide (m < n)))[k] := by
    conv => lhs; rw [← h2]
    rw [List.getElem?_append_left hk, List.getElem?_eq_getElem hk]
  rw [List.getElem?_eq_getElem hko] at h3
  injection h3 with h3
  omega
theorem tw_stop (n : Nat) (out : List Nat) (k : Nat) (hk : k = (out.takeWhile (fun m => decide (m < n))).length) (hko : k < out.length) : n ≤ out[k] := by
  have h2 := List.takeWhile_append_dropWhile (p := fun m => decide (m < n)) (l := out)
  have h3 : out[k]? = (out.dropWhile (fun m => decide (m < n)))[0]? := by
    conv => lhs; rw [← h2]
    rw [List.getElem?_append_right (by omega), hk, Nat.sub_self]
  rw [List.getElem?_eq_getElem hko] at h3
  cases hd : out.dropWhile (fun m => decide (m < n)) with
  | nil => rw [hd] at h3; simp at h3
  | cons x r =>
    rw [hd] at h3
    simp at h3
    rw [h3]
    exact drop_head n out x r hd
theorem tw_ins (n : Nat) (out : List Nat) (k : Nat) (hk : k = (out.takeWhile (fun m => decide (m < n))).length) : insN n out = out.take k ++ [n] ++ out.drop k := by
  have h2 := List.takeWhile_append_dropWhile (p := fun m => decide (m < n)) (l := out)
  have e1 : out.take k = out.takeWhile (fun m => decide (m < n)) := by
    have : (out.takeWhile (fun m => decide (m < n)) ++ out.dropWhile (fun m => decide (m < n))).take k = out.takeWhile (fun m => decide (m < n)) := by rw [hk, List.take_left]
    rwa [h2] at this
  have e2 : out.drop k = out.dropWhile (fun m => decide (m < n)) := by
    have : (out.takeWhile (fun m => decide (m < n)) ++ out.dropWhile (fun m => decide (m < n))).drop k = out.dropWhile (fun m => decide (m < n)) := by rw [hk, List.drop_left]
    rwa [h2] at this
  rw [e1, e2]
  unfold insN
  simp
theorem ownG_none_int {W : World} {n B : Nat} (h : W.heap[B]? = some (.cells #[] 3 (0, 0))) (hn : n ≤ B) : OwnG intEl n W (.slice (some ⟨B, 0, none⟩) 0 0) [] := by
  refine ⟨rfl, Or.inr ⟨B, 0, #[], rfl, hn, h, Nat.le_refl _, by unfold maxLen; omega, by simp, by simp [El.all]⟩⟩
theorem lit_int {W : World} {B : Nat} {n : Int} (h : W.heap[B]? = some (.cells #[.int .i64 n] 3 (0, 0))) : SrcAt intEl W (.slice (some ⟨B, 0, none⟩) 1 1) [n] := by
  refine Or.inr ⟨_, 1, rfl, fun j u hj => ?_⟩
  have e : (⟨B, 0, none⟩ : Addr).add j = ⟨B, j, none⟩ := by cases j <;> simp [Addr.add]
  rw [e]
  rw [intAll] at hj
  cases j with
  | zero => simp at hj; subst hj; simp [World.cell?, h]
  | succ j => simp at hj
theorem slice_parts {B : Nat} {x : World} {op : Option Addr} {oc : Nat} {out : List Nat} (h : OwnG intEl B x (.slice op out.length oc) (toZ out)) (k : Nat) (hk : k ≤ out.length) (hl : out.length ≤ 1000) :
    ∃ v1 v2, (∀ w, (Instr.slice 35 (.slice op out.length oc) none (some (.int .i64 k)) none).run Tryz.prog w = .ok v1 w) ∧ (∀ w, (Instr.slice 35 (.slice op out.length oc) (some (.int .i64 k)) none none).run Tryz.prog w = .ok v2 w) ∧
      (∀ y, Bel x y → SrcAt intEl y v1 (toZ (out.take k))) ∧ (∀ y, Bel x y → SrcAt intEl y v2 (toZ (out.drop k))) := by
  rcases h.2 with ⟨hv, h0⟩ | ⟨g, cap, cur, hv, hg, hh, hc, hx, _⟩
  · have ho : out = [] := by rw [← List.length_eq_zero_iff, ← toZ_len]; exact h0
    subst ho
    obtain rfl : k = 0 := by simpa using hk
    simp only [Value.slice.injEq] at hv
    obtain ⟨rfl, -, rfl⟩ := hv
    refine ⟨.slice none 0 0, .slice none 0 0, fun w => by go_simp, fun w => by go_simp, fun y _ => Or.inl ⟨rfl, rfl⟩, fun y _ => Or.inl ⟨rfl, rfl⟩⟩
  · simp only [Value.slice.injEq] at hv
    obtain ⟨rfl, -, rfl⟩ := hv
    rw [toZ_len] at hc
    unfold maxLen at hx
    have hcells : ∀ y, Bel x y → ∀ j (hj : j < out.length), y.cell? ⟨g, j, none⟩ = some (.int .i64 (out[j] : Nat)) := fun y hy j hj => by
      obtain ⟨g', cap', hv, _, _, e⟩ := int_at (h.bel hy) j hj
      simp only [Value.slice.injEq, Option.some.injEq, Addr.mk.injEq] at hv
      obtain ⟨⟨rfl, -⟩, -⟩ := hv
      exact e
    have add0 : ∀ (o j : Nat), (⟨g, o, none⟩ : Addr).add j = ⟨g, o + j, none⟩ := fun o j => by cases j <;> simp [Addr.add]
    have hlow : ∀ y, Bel x y → SrcAt intEl y (.slice (some ⟨g, 0, none⟩) k oc) (toZ (out.take k)) := fun y hy => by
      refine Or.inr ⟨⟨g, 0, none⟩, oc, by rw [toZ_len, List.length_take, Nat.min_eq_left hk], fun j u hj => ?_⟩
      rw [intAll, toZ, List.map_map, List.getElem?_map, List.getElem?_take] at hj
      split at hj
      · rename_i hjk
        rw [List.getElem?_eq_getElem (show j < out.length by omega)] at hj
        simp at hj
        rw [add0, Nat.zero_add, hcells y hy j (by omega), ← hj]
      · simp at hj
    have hhigh : ∀ y, Bel x y → SrcAt intEl y (.slice (some ⟨g, k, none⟩) (out.length - k) (oc - k)) (toZ (out.drop k)) := fun y hy => by
      refine Or.inr ⟨⟨g, k, none⟩, oc - k, by rw [toZ_len, List.length_drop], fun j u hj => ?_⟩
      rw [intAll, toZ, List.map_map, List.getElem?_map, List.getElem?_drop] at hj
      by_cases hjk : k + j < out.length
      · rw [List.getElem?_eq_getElem hjk] at hj
        simp at hj
        rw [add0, hcells y hy (k + j) hjk, ← hj]
      · rw [List.getElem?_eq_none (by omega)] at hj
        simp at hj
    by_cases hkc : oc = k
    · subst hkc
      have hol : out.length = oc := by omega
      refine ⟨_, .slice (some ⟨g, 0, none⟩) 0 0, fun w => by first | (go_simp; done) | (go_simp; intro hx; omega), fun w => by first | (go_simp; done) | (go_simp; intro hx; omega), hlow, fun y hy => ?_⟩
      rw [List.drop_eq_nil_of_le (by omega)]
      exact Or.inr ⟨_, 0, rfl, fun j u hj => by simp [toZ, El.all] at hj⟩
    · refine ⟨_, _, fun w => by first | (go_simp; done) | (go_simp; intro hx; omega), fun w => by first | (go_simp; done) | (go_simp; intro hx; omega), hlow, hhigh⟩
set_option maxHeartbeats 4000000 in
set_option maxRecDepth 20000 in
theorem rsegs_any (n₀ : Nat) (w : World) (jb b : Nat) (p : ByteArray) (most : Int) (M : RS) (F : List Nat) (h : RefP n₀ w b M F) (hM : M.ok) (hj : JAt w jb b p most) (hp : p.size ≤ 100) :
    Calls Tryz.prog 42 #[.pointer (some ⟨jb, 0, none⟩)] w fun e w' => ∃ v, e = .returned v ∧ OwnG intEl w.heap.size w' v (toZ (segsL p.data.toList M.L)) ∧ Bel w w' := by
  have HJ := Lib.hid hj
  have j0 := hj.files
  have HM := Lib.hid hM
  have h60 := hM.len
  obtain ⟨v, hr, -, -, -⟩ := h
  have HR := Lib.hid hr
  obtain ⟨rp, rcap, rfl⟩ := ownG_len hr.own
  obtain ⟨c0, -, -, c3⟩ := hr.cells
  clear hr hj hM c3
  go_enter Tryz.func42, Tryz.ntmps42
  go_wp2_with (fail)
  go_loopw [3, 4] (fun ov iv x => ∃ i : Nat, iv = .int .i64 i ∧ i ≤ M.L.length ∧ OwnG intEl w.heap.size x ov (toZ (segsL p.data.toList (M.L.take i))) ∧ Bel w x) (fun _ iv _ => M.L.length - (intOf iv).toNat)
  case atStart => exact ⟨0, rfl, Nat.zero_le _, OwnG.nil _ _ _, Bel.refl _⟩
  case round =>
    obtain ⟨i, rfl, hi, hown, hb⟩ := hrel
    have HB := Lib.hid hb
    have HO := Lib.hid hown
    obtain ⟨op, oc, hov⟩ := ownG_len hown
    rw [toZ_len] at hov
    subst hov
    have j0' := cell_later hb j0
    have c0' := cell_later hb c0
    clear hown hb
    have hsl := segs_len p.data.toList (M.L.take i)
    rw [List.length_take] at hsl
    by_cases hlt : i < M.L.length
    · have hne2 : M.L ≠ [] := by intro e; rw [e] at hlt; simp at hlt
      obtain ⟨g2, rcap', hv, _, hgl2, _, hcs2⟩ := ownG_cells fileOk (HR.out.own.bel HB.out) hne2
      simp only [Value.slice.injEq, true_and] at hv
      obtain ⟨rfl, rfl⟩ := hv
      have hst := segs_step p.data.toList (M.L.take i) M.L[i]
      have htk : M.L.take i ++ [M.L[i]] = M.L.take (i + 1) := by rw [List.take_add_one, List.getElem?_eq_getElem hlt]; rfl
      rw [htk] at hst
      have hyn := name_len (HM.out.each M.L[i] (List.getElem_mem hlt)).1
      obtain ⟨y, hy⟩ : ∃ y, y = M.L[i] := ⟨_, rfl⟩
      have f0 := hcs2 i y (by rw [hy, List.getElem?_eq_getElem hlt]) 0 _ rfl
      simp only [fileEl, Nat.add_zero] at f0
      rw [← hy] at hst hyn
      have hsz := str_len y.name
      have HSL := Lib.hid (str_list y.name)
      have HST := Lib.hid hst
      clear hy hcs2 hne2 hst htk
      obtain ⟨out, hout⟩ : ∃ out, out = segsL p.data.toList (M.L.take i) := ⟨_, rfl⟩
      rw [← hout] at HO HST hsl ⊢
      clear hout
      have HN := Lib.hid (rnumber_any (s := (⟨y.name.toArray⟩ : ByteArray)) (p := p) (b := jb) (f := b) (most := most))
      rw [HSL.out] at HN
      obtain ⟨n, hn⟩ : ∃ n, n = segN p.data.toList y.name := ⟨_, rfl⟩
      rw [← hn] at HST HN
      have hn9 := seg_le p.data.toList y.name
      rw [← hn] at hn9
      clear hn
      go_wp2_with (fail)
      refine (HN.out _ (HJ.out.bel HB.out) hp (by omega)).mono ?_
      rintro e w1 ⟨rfl, hb1⟩
      have HB1 := Lib.hid (HB.out.trans hb1)
      have HO1 := Lib.hid (HO.out.bel hb1)
      clear hb1
      by_cases hn0 : n = 0
      · subst hn0
        have HE := Lib.hid (show segsL p.data.toList (M.L.take (i + 1)) = out by rw [HST.out, if_pos rfl])
        go_wp2_with (fail)
        go_roundw
        case rel => exact ⟨i + 1, by go_num, by omega, by rw [HE.out]; exact HO1.out, HB1.out⟩
        case measure => simp [intOf]; omega
      · have HE := Lib.hid (show segsL p.data.toList (M.L.take (i + 1)) = insN n out by rw [HST.out, if_neg hn0])
        have hn1 : (n : Int) ≠ 0 := by omega
        have HT := Lib.hid (take_less n out)
        go_wp2_with (fail)
        go_loopw [6] (fun kv x => ∃ k : Nat, kv = .int .i64 k ∧ k ≤ (out.takeWhile (fun m => decide (m < n))).length ∧ Bel w1 x) (fun kv _ => out.length - (intOf kv).toNat)
        case atStart => exact ⟨0, rfl, Nat.zero_le _, Bel.refl _⟩
        case round =>
          obtain ⟨k, rfl, hk, hb⟩ := hrel
          have HB2 := Lib.hid hb; clear hb
          have hle := tw_le n out
          by_cases hkl : k < (out.takeWhile (fun m => decide (m < n))).length
          · have hko : k < out.length := by omega
            obtain ⟨g, cap, hv, hcap, _, e0⟩ := int_at (HO1.out.bel HB2.out) k hko
            simp only [Value.slice.injEq, true_and] at hv
            obtain ⟨rfl, rfl⟩ := hv
            have hlt2 := tw_get n out k hkl hko
            obtain ⟨m, hm⟩ : ∃ m, m = out[k] := ⟨_, rfl⟩
            rw [← hm] at e0 hlt2
            clear hm
            go_wp2_with (fail)
            go_roundw
            case rel => exact ⟨k + 1, by go_num, by omega, HB2.out⟩
            case measure => simp [intOf]; omega
          · have hkk : k = (out.takeWhile (fun m => decide (m < n))).length := by omega
            have HI := Lib.hid (tw_ins n out k hkk)
            have hstop := Lib.hid (tw_stop n out k hkk)
            have hkl2 : k ≤ out.length := by omega
            clear hle hkl hk hkk
            by_cases hko : k < out.length
            · obtain ⟨g, cap, hv, hcap, hgw, e0⟩ := int_at (HO1.out.bel HB2.out) k hko
              simp only [Value.slice.injEq, true_and] at hv
              obtain ⟨rfl, rfl⟩ := hv
              have hge := hstop.out hko
              obtain ⟨m, hm⟩ : ∃ m, m = out[k] := ⟨_, rfl⟩
              rw [← hm] at e0 hge
              clear hm hstop
              go_wp2_with (fail)
              have HW := Lib.hid (HB1.out.trans HB2.out)
              obtain ⟨s1, s2, hr1, hr2, hlow, hhigh⟩ := slice_parts (HO1.out.bel HB2.out) k hkl2 (by omega)
              have LOW := Lib.hid hlow
              have HIGH := Lib.hid hhigh
              clear hlow hhigh
              generalize hov : Value.slice (some ⟨g, 0, none⟩) out.length oc = ov at *
              clear hov
              refine wp_region_held_drew (S := fun z => True) (by kernel_rfl) trivial (fun hHeld => ?_)
              refine tk (v := ?_) 1 rfl ?_ ?_
              rotate_left
              · (intro w hSw; (try dsimp only at hSw); first | (go_simp; done) | (go_simp; with_reducible rfl))
              try simp only [Act.put, List.setIfInBounds_toArray, List.set_cons_zero, List.set_cons_succ]
              refine tk (v := ?_) 2 rfl ?_ ?_
              rotate_left
              · (intro w hSw; (try dsimp only at hSw); first | (go_simp; done) | (go_simp; with_reducible rfl))
              try simp only [Act.put, List.setIfInBounds_toArray, List.set_cons_zero, List.set_cons_succ]
              refine tk (v := ?_) 5 rfl ?_ ?_
              rotate_left
              · (intro w hSw; (try dsimp only at hSw); first | (go_simp; done) | (go_simp; with_reducible rfl))
              try simp only [Act.put, List.setIfInBounds_toArray, List.set_cons_zero, List.set_cons_succ]
              refine tk (v := ?_) 8 rfl ?_ ?_
              rotate_left
              · (intro w hSw; (try dsimp only at hSw); first | (go_simp; done) | (go_simp; with_reducible rfl))
              try simp only [Act.put, List.setIfInBounds_toArray, List.set_cons_zero, List.set_cons_succ]
              refine tk (v := ?_) 9 rfl ?_ ?_
              rotate_left
              · (intro w hSw; (try dsimp only at hSw); first | (go_simp; done) | (go_simp; with_reducible rfl))
              try simp only [Act.put, List.setIfInBounds_toArray, List.set_cons_zero, List.set_cons_succ]
              refine tk (v := ?_) 3 rfl ?_ ?_
              rotate_left
              · (intro w hSw; (try dsimp only at hSw); first | (go_simp; done) | (go_simp; with_reducible rfl))
              try simp only [Act.put, List.setIfInBounds_toArray, List.set_cons_zero, List.set_cons_succ]
              refine tk (v := ?_) 10 rfl ?_ ?_
              rotate_left
              · (intro w hSw; (try dsimp only at hSw); first | (go_simp; done) | (go_simp; with_reducible rfl))
              try simp only [Act.put, List.setIfInBounds_toArray, List.set_cons_zero, List.set_cons_succ]
              refine wpAnyH_ready (rs := [0, 6]) (by kernel_rfl) (by simp) ?_
              refine (AllReadyH.cons rfl (fun K hK => ?_) (AllReadyH.cons rfl (fun K hK => ?_) AllReadyH.nil))
              · go_simp
                refine hK.out _ _ trivial (fun hHeld => ?_)
                clear hK K
                try simp only [Act.put, List.setIfInBounds_toArray, List.set_cons_zero, List.set_cons_succ]
                refine wpAnyH_ready (rs := [4, 6]) (by kernel_rfl) (by simp) ?_
                refine (AllReadyH.cons rfl (fun K hK => ?_) (AllReadyH.cons rfl (fun K hK => ?_) AllReadyH.nil))
                · refine step_append_seg (E := intEl) (n := wr.heap.size) (v := .slice (some ⟨wr.heap.size, 0, none⟩) 0 0) intOk rfl (.tmp 48) (.tmp 51) rfl rfl (ownG_none_int (heap_alloc_new wr.drew _) (Nat.le_refl _)) (toZ (out.take k)) rfl (LOW.out _ ((Bel.refl wr).drew.alloc _)) (by simp only [toZ_len, List.length_append, List.length_singleton, List.length_nil, List.length_take, List.length_drop]; unfold maxLen; omega) (by simp only [toZ_len, List.length_append, List.length_singleton, List.length_nil, List.length_take, List.length_drop]; omega) (Bel.size ((Bel.refl wr).drew.alloc _)) ?_
                  intro v1 z1 ho hg hb
                  have hBz1 := Lib.hid (Bel.trans_below' ((Bel.refl wr).drew.alloc _) hb)
                  have hOz1 := Lib.hid ho
                  clear ho hg hb
                  refine hK.out _ _ trivial (fun hHeld => ?_)
                  clear hK K
                  try simp only [Act.put, List.setIfInBounds_toArray, List.set_cons_zero, List.set_cons_succ]
                  refine wpAnyH_ready (rs := [6]) (by kernel_rfl) (by simp) ?_
                  refine AllReadyH.cons rfl (fun K hK => ?_) AllReadyH.nil
                  go_simp
                  refine hK.out _ _ trivial (fun hHeld => ?_)
                  clear hK K
                  try simp only [Act.put, List.setIfInBounds_toArray, List.set_cons_zero, List.set_cons_succ]
                  have hBz := Lib.hid (hBz1.out.alloc (.cells #[.int .i64 n] 3))
                  have hLit := Lib.hid (heap_alloc_new z1 (.cells #[.int .i64 n] 3))
                  refine wpAnyH_ready (rs := [7]) (by kernel_rfl) (by simp) ?_
                  refine AllReadyH.cons rfl (fun K hK => ?_) AllReadyH.nil
                  refine step_append_seg (E := intEl) (n := wr.heap.size) intOk rfl (.tmp 52) (.tmp 54) rfl rfl (hOz1.out.alloc _) [(n : Int)] rfl (lit_int hLit.out) (by simp only [toZ_len, List.length_append, List.length_singleton, List.length_nil, List.length_take, List.length_drop]; unfold maxLen; omega) (by simp only [toZ_len, List.length_append, List.length_singleton, List.length_nil, List.length_take, List.length_drop]; omega) (Bel.size hBz.out) ?_
                  intro v2 z2 ho hg hb
                  have hBz2 := Lib.hid (Bel.trans_below' hBz.out hb)
                  have hOz2 := Lib.hid ho
                  clear ho hg hb
                  refine hK.out _ _ trivial (fun hHeld => ?_)
                  clear hK K
                  try simp only [Act.put, List.setIfInBounds_toArray, List.set_cons_zero, List.set_cons_succ]
                  refine wpAnyH_ready (rs := [11]) (by kernel_rfl) (by simp) ?_
                  refine AllReadyH.cons rfl (fun K hK => ?_) AllReadyH.nil
                  refine step_append_seg (E := intEl) (n := wr.heap.size) intOk rfl (.tmp 55) (.tmp 58) rfl rfl hOz2.out (toZ (out.drop k)) rfl (HIGH.out _ hBz2.out) (by simp only [toZ_len, List.length_append, List.length_singleton, List.length_nil, List.length_take, List.length_drop]; unfold maxLen; omega) (by simp only [toZ_len, List.length_append, List.length_singleton, List.length_nil, List.length_take, List.length_drop]; omega) (Bel.size hBz2.out) ?_
                  intro v3 z3 ho hg hb
                  have hBz3 := Lib.hid (Bel.trans_below' hBz2.out hb)
                  have hOz3 := Lib.hid ho
                  obtain ⟨p3, c3, hv3⟩ := ownG_len ho
                  have hlen3 : (toZ (out.take k) ++ [(n : Int)] ++ toZ (out.drop k)).length = out.length + 1 := by simp only [toZ_len, List.length_append, List.length_singleton, List.length_take, List.length_drop]; omega
                  rw [List.nil_append, hlen3] at hv3
                  subst hv3
                  replace hOz3 := Lib.hid ho
                  clear ho hg hb
                  refine hK.out _ _ trivial (fun hHeld => ?_)
                  clear hK K
                  try simp only [Act.put, List.setIfInBounds_toArray, List.set_cons_zero, List.set_cons_succ]
                  refine tk (v := ?_) 12 rfl ?_ ?_
                  rotate_left
                  · (intro w hSw; (try dsimp only at hSw); first | (go_simp; done) | (go_simp; with_reducible rfl))
                  try simp only [Act.put, List.setIfInBounds_toArray, List.set_cons_zero, List.set_cons_succ]
                  refine wpAnyH_done (by kernel_rfl) ?_ _
                  go_wp2_with (fail)
                  go_roundw
                  case rel => exact ⟨i + 1, by go_num, by omega, by
                    rw [HE.out, HI.out]
                    have e : toZ (out.take k ++ [n] ++ out.drop k) = [] ++ toZ (out.take k) ++ [(n : Int)] ++ toZ (out.drop k) := by simp [toZ]
                    rw [e]
                    exact hOz3.out.low HW.out.size, HW.out.trans hBz3.out⟩
                  case measure => simp [intOf]; omega
                · go_simp
                  refine hK.out _ _ trivial (fun hHeld => ?_)
                  clear hK K
                  try simp only [Act.put, List.setIfInBounds_toArray, List.set_cons_zero, List.set_cons_succ]
                  refine wpAnyH_ready (rs := [4]) (by kernel_rfl) (by simp) ?_
                  refine AllReadyH.cons rfl (fun K hK => ?_) AllReadyH.nil
                  refine step_append_seg (E := intEl) (n := wr.heap.size) (v := .slice (some ⟨wr.heap.size, 0, none⟩) 0 0) intOk rfl (.tmp 48) (.tmp 51) rfl rfl ((ownG_none_int (heap_alloc_new wr.drew _) (Nat.le_refl _)).alloc _) (toZ (out.take k)) rfl (LOW.out _ (((Bel.refl wr).drew.alloc _).alloc _)) (by simp only [toZ_len, List.length_append, List.length_singleton, List.length_nil, List.length_take, List.length_drop]; unfold maxLen; omega) (by simp only [toZ_len, List.length_append, List.length_singleton, List.length_nil, List.length_take, List.length_drop]; omega) (Bel.size (((Bel.refl wr).drew.alloc _).alloc _)) ?_
                  intro v1 z1 ho hg hb
                  have hBz1 := Lib.hid (Bel.trans_below' (((Bel.refl wr).drew.alloc _).alloc _) hb)
                  have hOz1 := Lib.hid ho
                  have hLit := Lib.hid (show z1.heap[wr.heap.size + 1]? = some (.cells #[.int .i64 n] 3) from at_grown hg (at_new (by simp)) (by simp [Value.ownBlock]))
                  clear ho hg hb
                  refine hK.out _ _ trivial (fun hHeld => ?_)
                  clear hK K
                  try simp only [Act.put, List.setIfInBounds_toArray, List.set_cons_zero, List.set_cons_succ]
                  refine wpAnyH_ready (rs := [7]) (by kernel_rfl) (by simp) ?_
                  refine AllReadyH.cons rfl (fun K hK => ?_) AllReadyH.nil
                  refine step_append_seg (E := intEl) (n := wr.heap.size) intOk rfl (.tmp 52) (.tmp 54) rfl rfl hOz1.out [(n : Int)] rfl (lit_int hLit.out) (by simp only [toZ_len, List.length_append, List.length_singleton, List.length_nil, List.length_take, List.length_drop]; unfold maxLen; omega) (by simp only [toZ_len, List.length_append, List.length_singleton, List.length_nil, List.length_take, List.length_drop]; omega) (Bel.size hBz1.out) ?_
                  intro v2 z2 ho hg hb
                  have hBz2 := Lib.hid (Bel.trans_below' hBz1.out hb)
                  have hOz2 := Lib.hid ho
                  clear ho hg hb
                  refine hK.out _ _ trivial (fun hHeld => ?_)
                  clear hK K
                  try simp only [Act.put, List.setIfInBounds_toArray, List.set_cons_zero, List.set_cons_succ]
                  refine wpAnyH_ready (rs := [11]) (by kernel_rfl) (by simp) ?_
                  refine AllReadyH.cons rfl (fun K hK => ?_) AllReadyH.nil
                  refine step_append_seg (E := intEl) (n := wr.heap.size) intOk rfl (.tmp 55) (.tmp 58) rfl rfl hOz2.out (toZ (out.drop k)) rfl (HIGH.out _ hBz2.out) (by simp only [toZ_len, List.length_append, List.length_singleton, List.length_nil, List.length_take, List.length_drop]; unfold maxLen; omega) (by simp only [toZ_len, List.length_append, List.length_singleton, List.length_nil, List.length_take, List.length_drop]; omega) (Bel.size hBz2.out) ?_
                  intro v3 z3 ho hg hb
                  have hBz3 := Lib.hid (Bel.trans_below' hBz2.out hb)
                  have hOz3 := Lib.hid ho
                  obtain ⟨p3, c3, hv3⟩ := ownG_len ho
                  have hlen3 : (toZ (out.take k) ++ [(n : Int)] ++ toZ (out.drop k)).length = out.length + 1 := by simp only [toZ_len, List.length_append, List.length_singleton, List.length_take, List.length_drop]; omega
                  rw [List.nil_append, hlen3] at hv3
                  subst hv3
                  replace hOz3 := Lib.hid ho
                  clear ho hg hb
                  refine hK.out _ _ trivial (fun hHeld => ?_)
                  clear hK K
                  try simp only [Act.put, List.setIfInBounds_toArray, List.set_cons_zero, List.set_cons_succ]
                  refine tk (v := ?_) 12 rfl ?_ ?_
                  rotate_left
                  · (intro w hSw; (try dsimp only at hSw); first | (go_simp; done) | (go_simp; with_reducible rfl))
                  try simp only [Act.put, List.setIfInBounds_toArray, List.set_cons_zero, List.set_cons_succ]
                  refine wpAnyH_done (by kernel_rfl) ?_ _
                  go_wp2_with (fail)
                  go_roundw
                  case rel => exact ⟨i + 1, by go_num, by omega, by
                    rw [HE.out, HI.out]
                    have e : toZ (out.take k ++ [n] ++ out.drop k) = [] ++ toZ (out.take k) ++ [(n : Int)] ++ toZ (out.drop k) := by simp [toZ]
                    rw [e]
                    exact hOz3.out.low HW.out.size, HW.out.trans hBz3.out⟩
                  case measure => simp [intOf]; omega
              · go_simp
                refine hK.out _ _ trivial (fun hHeld => ?_)
                clear hK K
                try simp only [Act.put, List.setIfInBounds_toArray, List.set_cons_zero, List.set_cons_succ]
                refine wpAnyH_ready (rs := [0]) (by kernel_rfl) (by simp) ?_
                refine AllReadyH.cons rfl (fun K hK => ?_) AllReadyH.nil
                go_simp
                refine hK.out _ _ trivial (fun hHeld => ?_)
                clear hK K
                try simp only [Act.put, List.setIfInBounds_toArray, List.set_cons_zero, List.set_cons_succ]
                refine wpAnyH_ready (rs := [4]) (by kernel_rfl) (by simp) ?_
                refine AllReadyH.cons rfl (fun K hK => ?_) AllReadyH.nil
                refine step_append_seg (E := intEl) (n := wr.heap.size) (v := .slice (some ⟨wr.heap.size + 1, 0, none⟩) 0 0) intOk rfl (.tmp 48) (.tmp 51) rfl rfl (ownG_none_int (B := wr.heap.size + 1) (at_new (by simp)) (by omega)) (toZ (out.take k)) rfl (LOW.out _ (((Bel.refl wr).drew.alloc _).alloc _)) (by simp only [toZ_len, List.length_append, List.length_singleton, List.length_nil, List.length_take, List.length_drop]; unfold maxLen; omega) (by simp only [toZ_len, List.length_append, List.length_singleton, List.length_nil, List.length_take, List.length_drop]; omega) (Bel.size (((Bel.refl wr).drew.alloc _).alloc _)) ?_
                intro v1 z1 ho hg hb
                have hBz1 := Lib.hid (Bel.trans_below' (((Bel.refl wr).drew.alloc _).alloc _) hb)
                have hOz1 := Lib.hid ho
                have hLit := Lib.hid (show z1.heap[wr.heap.size]? = some (.cells #[.int .i64 n] 3) from at_grown hg (at_old (heap_alloc_new wr.drew _)) (by simp [Value.ownBlock]))
                clear ho hg hb
                refine hK.out _ _ trivial (fun hHeld => ?_)
                clear hK K
                try simp only [Act.put, List.setIfInBounds_toArray, List.set_cons_zero, List.set_cons_succ]
                refine wpAnyH_ready (rs := [7]) (by kernel_rfl) (by simp) ?_
                refine AllReadyH.cons rfl (fun K hK => ?_) AllReadyH.nil
                refine step_append_seg (E := intEl) (n := wr.heap.size) intOk rfl (.tmp 52) (.tmp 54) rfl rfl hOz1.out [(n : Int)] rfl (lit_int hLit.out) (by simp only [toZ_len, List.length_append, List.length_singleton, List.length_nil, List.length_take, List.length_drop]; unfold maxLen; omega) (by simp only [toZ_len, List.length_append, List.length_singleton, List.length_nil, List.length_take, List.length_drop]; omega) (Bel.size hBz1.out) ?_
                intro v2 z2 ho hg hb
                have hBz2 := Lib.hid (Bel.trans_below' hBz1.out hb)
                have hOz2 := Lib.hid ho
                clear ho hg hb
                refine hK.out _ _ trivial (fun hHeld => ?_)
                clear hK K
                try simp only [Act.put, List.setIfInBounds_toArray, List.set_cons_zero, List.set_cons_succ]
                refine wpAnyH_ready (rs := [11]) (by kernel_rfl) (by simp) ?_
                refine AllReadyH.cons rfl (fun K hK => ?_) AllReadyH.nil
                refine step_append_seg (E := intEl) (n := wr.heap.size) intOk rfl (.tmp 55) (.tmp 58) rfl rfl hOz2.out (toZ (out.drop k)) rfl (HIGH.out _ hBz2.out) (by simp only [toZ_len, List.length_append, List.length_singleton, List.length_nil, List.length_take, List.length_drop]; unfold maxLen; omega) (by simp only [toZ_len, List.length_append, List.length_singleton, List.length_nil, List.length_take, List.length_drop]; omega) (Bel.size hBz2.out) ?_
                intro v3 z3 ho hg hb
                have hBz3 := Lib.hid (Bel.trans_below' hBz2.out hb)
                have hOz3 := Lib.hid ho
                obtain ⟨p3, c3, hv3⟩ := ownG_len ho
                have hlen3 : (toZ (out.take k) ++ [(n : Int)] ++ toZ (out.drop k)).length = out.length + 1 := by simp only [toZ_len, List.length_append, List.length_singleton, List.length_take, List.length_drop]; omega
                rw [List.nil_append, hlen3] at hv3
                subst hv3
                replace hOz3 := Lib.hid ho
                clear ho hg hb
                refine hK.out _ _ trivial (fun hHeld => ?_)
                clear hK K
                try simp only [Act.put, List.setIfInBounds_toArray, List.set_cons_zero, List.set_cons_succ]
                refine tk (v := ?_) 12 rfl ?_ ?_
                rotate_left
                · (intro w hSw; (try dsimp only at hSw); first | (go_simp; done) | (go_simp; with_reducible rfl))
                try simp only [Act.put, List.setIfInBounds_toArray, List.set_cons_zero, List.set_cons_succ]
                refine wpAnyH_done (by kernel_rfl) ?_ _
                go_wp2_with (fail)
                go_roundw
                case rel => exact ⟨i + 1, by go_num, by omega, by
                  rw [HE.out, HI.out]
                  have e : toZ (out.take k ++ [n] ++ out.drop k) = [] ++ toZ (out.take k) ++ [(n : Int)] ++ toZ (out.drop k) := by simp [toZ]
                  rw [e]
                  exact hOz3.out.low HW.out.size, HW.out.trans hBz3.out⟩
                case measure => simp [intOf]; omega
            · have hko' : k = out.length := by omega
              clear hstop hko'
              go_wp2_with (fail)
              have HW := Lib.hid (HB1.out.trans HB2.out)
              obtain ⟨s1, s2, hr1, hr2, hlow, hhigh⟩ := slice_parts (HO1.out.bel HB2.out) k hkl2 (by omega)
              have LOW := Lib.hid hlow
              have HIGH := Lib.hid hhigh
              clear hlow hhigh
              generalize hov : Value.slice op out.length oc = ov at *
              clear hov
              refine wp_region_held_drew (S := fun z => True) (by kernel_rfl) trivial (fun hHeld => ?_)
              refine tk (v := ?_) 1 rfl ?_ ?_
              rotate_left
              · (intro w hSw; (try dsimp only at hSw); first | (go_simp; done) | (go_simp; with_reducible rfl))
              try simp only [Act.put, List.setIfInBounds_toArray, List.set_cons_zero, List.set_cons_succ]
              refine tk (v := ?_) 2 rfl ?_ ?_
              rotate_left
              · (intro w hSw; (try dsimp only at hSw); first | (go_simp; done) | (go_simp; with_reducible rfl))
              try simp only [Act.put, List.setIfInBounds_toArray, List.set_cons_zero, List.set_cons_succ]
              refine tk (v := ?_) 5 rfl ?_ ?_
              rotate_left
              · (intro w hSw; (try dsimp only at hSw); first | (go_simp; done) | (go_simp; with_reducible rfl))
              try simp only [Act.put, List.setIfInBounds_toArray, List.set_cons_zero, List.set_cons_succ]
              refine tk (v := ?_) 8 rfl ?_ ?_
              rotate_left
              · (intro w hSw; (try dsimp only at hSw); first | (go_simp; done) | (go_simp; with_reducible rfl))
              try simp only [Act.put, List.setIfInBounds_toArray, List.set_cons_zero, List.set_cons_succ]
              refine tk (v := ?_) 9 rfl ?_ ?_
              rotate_left
              · (intro w hSw; (try dsimp only at hSw); first | (go_simp; done) | (go_simp; with_reducible rfl))
              try simp only [Act.put, List.setIfInBounds_toArray, List.set_cons_zero, List.set_cons_succ]
              refine tk (v := ?_) 3 rfl ?_ ?_
              rotate_left
              · (intro w hSw; (try dsimp only at hSw); first | (go_simp; done) | (go_simp; with_reducible rfl))
              try simp only [Act.put, List.setIfInBounds_toArray, List.set_cons_zero, List.set_cons_succ]
              refine tk (v := ?_) 10 rfl ?_ ?_
              rotate_left
              · (intro w hSw; (try dsimp only at hSw); first | (go_simp; done) | (go_simp; with_reducible rfl))
              try simp only [Act.put, List.setIfInBounds_toArray, List.set_cons_zero, List.set_cons_succ]
              refine wpAnyH_ready (rs := [0, 6]) (by kernel_rfl) (by simp) ?_
              refine (AllReadyH.cons rfl (fun K hK => ?_) (AllReadyH.cons rfl (fun K hK => ?_) AllReadyH.nil))
              · go_simp
                refine hK.out _ _ trivial (fun hHeld => ?_)
                clear hK K
                try simp only [Act.put, List.setIfInBounds_toArray, List.set_cons_zero, List.set_cons_succ]
                refine wpAnyH_ready (rs := [4, 6]) (by kernel_rfl) (by simp) ?_
                refine (AllReadyH.cons rfl (fun K hK => ?_) (AllReadyH.cons rfl (fun K hK => ?_) AllReadyH.nil))
                · refine step_append_seg (E := intEl) (n := wr.heap.size) (v := .slice (some ⟨wr.heap.size, 0, none⟩) 0 0) intOk rfl (.tmp 48) (.tmp 51) rfl rfl (ownG_none_int (heap_alloc_new wr.drew _) (Nat.le_refl _)) (toZ (out.take k)) rfl (LOW.out _ ((Bel.refl wr).drew.alloc _)) (by simp only [toZ_len, List.length_append, List.length_singleton, List.length_nil, List.length_take, List.length_drop]; unfold maxLen; omega) (by simp only [toZ_len, List.length_append, List.length_singleton, List.length_nil, List.length_take, List.length_drop]; omega) (Bel.size ((Bel.refl wr).drew.alloc _)) ?_
                  intro v1 z1 ho hg hb
                  have hBz1 := Lib.hid (Bel.trans_below' ((Bel.refl wr).drew.alloc _) hb)
                  have hOz1 := Lib.hid ho
                  clear ho hg hb
                  refine hK.out _ _ trivial (fun hHeld => ?_)
                  clear hK K
                  try simp only [Act.put, List.setIfInBounds_toArray, List.set_cons_zero, List.set_cons_succ]
                  refine wpAnyH_ready (rs := [6]) (by kernel_rfl) (by simp) ?_
                  refine AllReadyH.cons rfl (fun K hK => ?_) AllReadyH.nil
                  go_simp
                  refine hK.out _ _ trivial (fun hHeld => ?_)
                  clear hK K
                  try simp only [Act.put, List.setIfInBounds_toArray, List.set_cons_zero, List.set_cons_succ]
                  have hBz := Lib.hid (hBz1.out.alloc (.cells #[.int .i64 n] 3))
                  have hLit := Lib.hid (heap_alloc_new z1 (.cells #[.int .i64 n] 3))
                  refine wpAnyH_ready (rs := [7]) (by kernel_rfl) (by simp) ?_
                  refine AllReadyH.cons rfl (fun K hK => ?_) AllReadyH.nil
                  refine step_append_seg (E := intEl) (n := wr.heap.size) intOk rfl (.tmp 52) (.tmp 54) rfl rfl (hOz1.out.alloc _) [(n : Int)] rfl (lit_int hLit.out) (by simp only [toZ_len, List.length_append, List.length_singleton, List.length_nil, List.length_take, List.length_drop]; unfold maxLen; omega) (by simp only [toZ_len, List.length_append, List.length_singleton, List.length_nil, List.length_take, List.length_drop]; omega) (Bel.size hBz.out) ?_
                  intro v2 z2 ho hg hb
                  have hBz2 := Lib.hid (Bel.trans_below' hBz.out hb)
                  have hOz2 := Lib.hid ho
                  clear ho hg hb
                  refine hK.out _ _ trivial (fun hHeld => ?_)
                  clear hK K
                  try simp only [Act.put, List.setIfInBounds_toArray, List.set_cons_zero, List.set_cons_succ]
                  refine wpAnyH_ready (rs := [11]) (by kernel_rfl) (by simp) ?_
                  refine AllReadyH.cons rfl (fun K hK => ?_) AllReadyH.nil
                  refine step_append_seg (E := intEl) (n := wr.heap.size) intOk rfl (.tmp 55) (.tmp 58) rfl rfl hOz2.out (toZ (out.drop k)) rfl (HIGH.out _ hBz2.out) (by simp only [toZ_len, List.length_append, List.length_singleton, List.length_nil, List.length_take, List.length_drop]; unfold maxLen; omega) (by simp only [toZ_len, List.length_append, List.length_singleton, List.length_nil, List.length_take, List.length_drop]; omega) (Bel.size hBz2.out) ?_
                  intro v3 z3 ho hg hb
                  have hBz3 := Lib.hid (Bel.trans_below' hBz2.out hb)
                  have hOz3 := Lib.hid ho
                  obtain ⟨p3, c3, hv3⟩ := ownG_len ho
                  have hlen3 : (toZ (out.take k) ++ [(n : Int)] ++ toZ (out.drop k)).length = out.length + 1 := by simp only [toZ_len, List.length_append, List.length_singleton, List.length_take, List.length_drop]; omega
                  rw [List.nil_append, hlen3] at hv3
                  subst hv3
                  replace hOz3 := Lib.hid ho
                  clear ho hg hb
                  refine hK.out _ _ trivial (fun hHeld => ?_)
                  clear hK K
                  try simp only [Act.put, List.setIfInBounds_toArray, List.set_cons_zero, List.set_cons_succ]
                  refine tk (v := ?_) 12 rfl ?_ ?_
                  rotate_left
                  · (intro w hSw; (try dsimp only at hSw); first | (go_simp; done) | (go_simp; with_reducible rfl))
                  try simp only [Act.put, List.setIfInBounds_toArray, List.set_cons_zero, List.set_cons_succ]
                  refine wpAnyH_done (by kernel_rfl) ?_ _
                  go_wp2_with (fail)
                  go_roundw
                  case rel => exact ⟨i + 1, by go_num, by omega, by
                    rw [HE.out, HI.out]
                    have e : toZ (out.take k ++ [n] ++ out.drop k) = [] ++ toZ (out.take k) ++ [(n : Int)] ++ toZ (out.drop k) := by simp [toZ]
                    rw [e]
                    exact hOz3.out.low HW.out.size, HW.out.trans hBz3.out⟩
                  case measure => simp [intOf]; omega
                · go_simp
                  refine hK.out _ _ trivial (fun hHeld => ?_)
                  clear hK K
                  try simp only [Act.put, List.setIfInBounds_toArray, List.set_cons_zero, List.set_cons_succ]
                  refine wpAnyH_ready (rs := [4]) (by kernel_rfl) (by simp) ?_
                  refine AllReadyH.cons rfl (fun K hK => ?_) AllReadyH.nil
                  refine step_append_seg (E := intEl) (n := wr.heap.size) (v := .slice (some ⟨wr.heap.size, 0, none⟩) 0 0) intOk rfl (.tmp 48) (.tmp 51) rfl rfl ((ownG_none_int (heap_alloc_new wr.drew _) (Nat.le_refl _)).alloc _) (toZ (out.take k)) rfl (LOW.out _ (((Bel.refl wr).drew.alloc _).alloc _)) (by simp only [toZ_len, List.length_append, List.length_singleton, List.length_nil, List.length_take, List.length_drop]; unfold maxLen; omega) (by simp only [toZ_len, List.length_append, List.length_singleton, List.length_nil, List.length_take, List.length_drop]; omega) (Bel.size (((Bel.refl wr).drew.alloc _).alloc _)) ?_
                  intro v1 z1 ho hg hb
                  have hBz1 := Lib.hid (Bel.trans_below' (((Bel.refl wr).drew.alloc _).alloc _) hb)
                  have hOz1 := Lib.hid ho
                  have hLit := Lib.hid (show z1.heap[wr.heap.size + 1]? = some (.cells #[.int .i64 n] 3) from at_grown hg (at_new (by simp)) (by simp [Value.ownBlock]))
                  clear ho hg hb
                  refine hK.out _ _ trivial (fun hHeld => ?_)
                  clear hK K
                  try simp only [Act.put, List.setIfInBounds_toArray, List.set_cons_zero, List.set_cons_succ]
                  refine wpAnyH_ready (rs := [7]) (by kernel_rfl) (by simp) ?_
                  refine AllReadyH.cons rfl (fun K hK => ?_) AllReadyH.nil
                  refine step_append_seg (E := intEl) (n := wr.heap.size) intOk rfl (.tmp 52) (.tmp 54) rfl rfl hOz1.out [(n : Int)] rfl (lit_int hLit.out) (by simp only [toZ_len, List.length_append, List.length_singleton, List.length_nil, List.length_take, List.length_drop]; unfold maxLen; omega) (by simp only [toZ_len, List.length_append, List.length_singleton, List.length_nil, List.length_take, List.length_drop]; omega) (Bel.size hBz1.out) ?_
                  intro v2 z2 ho hg hb
                  have hBz2 := Lib.hid (Bel.trans_below' hBz1.out hb)
                  have hOz2 := Lib.hid ho
                  clear ho hg hb
                  refine hK.out _ _ trivial (fun hHeld => ?_)
                  clear hK K
                  try simp only [Act.put, List.setIfInBounds_toArray, List.set_cons_zero, List.set_cons_succ]
                  refine wpAnyH_ready (rs := [11]) (by kernel_rfl) (by simp) ?_
                  refine AllReadyH.cons rfl (fun K hK => ?_) AllReadyH.nil
                  refine step_append_seg (E := intEl) (n := wr.heap.size) intOk rfl (.tmp 55) (.tmp 58) rfl rfl hOz2.out (toZ (out.drop k)) rfl (HIGH.out _ hBz2.out) (by simp only [toZ_len, List.length_append, List.length_singleton, List.length_nil, List.length_take, List.length_drop]; unfold maxLen; omega) (by simp only [toZ_len, List.length_append, List.length_singleton, List.length_nil, List.length_take, List.length_drop]; omega) (Bel.size hBz2.out) ?_
                  intro v3 z3 ho hg hb
                  have hBz3 := Lib.hid (Bel.trans_below' hBz2.out hb)
                  have hOz3 := Lib.hid ho
                  obtain ⟨p3, c3, hv3⟩ := ownG_len ho
                  have hlen3 : (toZ (out.take k) ++ [(n : Int)] ++ toZ (out.drop k)).length = out.length + 1 := by simp only [toZ_len, List.length_append, List.length_singleton, List.length_take, List.length_drop]; omega
                  rw [List.nil_append, hlen3] at hv3
                  subst hv3
                  replace hOz3 := Lib.hid ho
                  clear ho hg hb
                  refine hK.out _ _ trivial (fun hHeld => ?_)
                  clear hK K
                  try simp only [Act.put, List.setIfInBounds_toArray, List.set_cons_zero, List.set_cons_succ]
                  refine tk (v := ?_) 12 rfl ?_ ?_
                  rotate_left
                  · (intro w hSw; (try dsimp only at hSw); first | (go_simp; done) | (go_simp; with_reducible rfl))
                  try simp only [Act.put, List.setIfInBounds_toArray, List.set_cons_zero, List.set_cons_succ]
                  refine wpAnyH_done (by kernel_rfl) ?_ _
                  go_wp2_with (fail)
                  go_roundw
                  case rel => exact ⟨i + 1, by go_num, by omega, by
                    rw [HE.out, HI.out]
                    have e : toZ (out.take k ++ [n] ++ out.drop k) = [] ++ toZ (out.take k) ++ [(n : Int)] ++ toZ (out.drop k) := by simp [toZ]
                    rw [e]
                    exact hOz3.out.low HW.out.size, HW.out.trans hBz3.out⟩
                  case measure => simp [intOf]; omega
              · go_simp
                refine hK.out _ _ trivial (fun hHeld => ?_)
                clear hK K
                try simp only [Act.put, List.setIfInBounds_toArray, List.set_cons_zero, List.set_cons_succ]
                refine wpAnyH_ready (rs := [0]) (by kernel_rfl) (by simp) ?_
                refine AllReadyH.cons rfl (fun K hK => ?_) AllReadyH.nil
                go_simp
                refine hK.out _ _ trivial (fun hHeld => ?_)
                clear hK K
                try simp only [Act.put, List.setIfInBounds_toArray, List.set_cons_zero, List.set_cons_succ]
                refine wpAnyH_ready (rs := [4]) (by kernel_rfl) (by simp) ?_
                refine AllReadyH.cons rfl (fun K hK => ?_) AllReadyH.nil
                refine step_append_seg (E := intEl) (n := wr.heap.size) (v := .slice (some ⟨wr.heap.size + 1, 0, none⟩) 0 0) intOk rfl (.tmp 48) (.tmp 51) rfl rfl (ownG_none_int (B := wr.heap.size + 1) (at_new (by simp)) (by omega)) (toZ (out.take k)) rfl (LOW.out _ (((Bel.refl wr).drew.alloc _).alloc _)) (by simp only [toZ_len, List.length_append, List.length_singleton, List.length_nil, List.length_take, List.length_drop]; unfold maxLen; omega) (by simp only [toZ_len, List.length_append, List.length_singleton, List.length_nil, List.length_take, List.length_drop]; omega) (Bel.size (((Bel.refl wr).drew.alloc _).alloc _)) ?_
                intro v1 z1 ho hg hb
                have hBz1 := Lib.hid (Bel.trans_below' (((Bel.refl wr).drew.alloc _).alloc _) hb)
                have hOz1 := Lib.hid ho
                have hLit := Lib.hid (show z1.heap[wr.heap.size]? = some (.cells #[.int .i64 n] 3) from at_grown hg (at_old (heap_alloc_new wr.drew _)) (by simp [Value.ownBlock]))
                clear ho hg hb
                refine hK.out _ _ trivial (fun hHeld => ?_)
                clear hK K
                try simp only [Act.put, List.setIfInBounds_toArray, List.set_cons_zero, List.set_cons_succ]
                refine wpAnyH_ready (rs := [7]) (by kernel_rfl) (by simp) ?_
                refine AllReadyH.cons rfl (fun K hK => ?_) AllReadyH.nil
                refine step_append_seg (E := intEl) (n := wr.heap.size) intOk rfl (.tmp 52) (.tmp 54) rfl rfl hOz1.out [(n : Int)] rfl (lit_int hLit.out) (by simp only [toZ_len, List.length_append, List.length_singleton, List.length_nil, List.length_take, List.length_drop]; unfold maxLen; omega) (by simp only [toZ_len, List.length_append, List.length_singleton, List.length_nil, List.length_take, List.length_drop]; omega) (Bel.size hBz1.out) ?_
                intro v2 z2 ho hg hb
                have hBz2 := Lib.hid (Bel.trans_below' hBz1.out hb)
                have hOz2 := Lib.hid ho
                clear ho hg hb
                refine hK.out _ _ trivial (fun hHeld => ?_)
                clear hK K
                try simp only [Act.put, List.setIfInBounds_toArray, List.set_cons_zero, List.set_cons_succ]
                refine wpAnyH_ready (rs := [11]) (by kernel_rfl) (by simp) ?_
                refine AllReadyH.cons rfl (fun K hK => ?_) AllReadyH.nil
                refine step_append_seg (E := intEl) (n := wr.heap.size) intOk rfl (.tmp 55) (.tmp 58) rfl rfl hOz2.out (toZ (out.drop k)) rfl (HIGH.out _ hBz2.out) (by simp only [toZ_len, List.length_append, List.length_singleton, List.length_nil, List.length_take, List.length_drop]; unfold maxLen; omega) (by simp only [toZ_len, List.length_append, List.length_singleton, List.length_nil, List.length_take, List.length_drop]; omega) (Bel.size hBz2.out) ?_
                intro v3 z3 ho hg hb
                have hBz3 := Lib.hid (Bel.trans_below' hBz2.out hb)
                have hOz3 := Lib.hid ho
                obtain ⟨p3, c3, hv3⟩ := ownG_len ho
                have hlen3 : (toZ (out.take k) ++ [(n : Int)] ++ toZ (out.drop k)).length = out.length + 1 := by simp only [toZ_len, List.length_append, List.length_singleton, List.length_take, List.length_drop]; omega
                rw [List.nil_append, hlen3] at hv3
                subst hv3
                replace hOz3 := Lib.hid ho
                clear ho hg hb
                refine hK.out _ _ trivial (fun hHeld => ?_)
                clear hK K
                try simp only [Act.put, List.setIfInBounds_toArray, List.set_cons_zero, List.set_cons_succ]
                refine tk (v := ?_) 12 rfl ?_ ?_
                rotate_left
                · (intro w hSw; (try dsimp only at hSw); first | (go_simp; done) | (go_simp; with_reducible rfl))
                try simp only [Act.put, List.setIfInBounds_toArray, List.set_cons_zero, List.set_cons_succ]
                refine wpAnyH_done (by kernel_rfl) ?_ _
                go_wp2_with (fail)
                go_roundw
                case rel => exact ⟨i + 1, by go_num, by omega, by
                  rw [HE.out, HI.out]
                  have e : toZ (out.take k ++ [n] ++ out.drop k) = [] ++ toZ (out.take k) ++ [(n : Int)] ++ toZ (out.drop k) := by simp [toZ]
                  rw [e]
                  exact hOz3.out.low HW.out.size, HW.out.trans hBz3.out⟩
                case measure => simp [intOf]; omega
    · obtain rfl : i = M.L.length := by omega
      go_wp2_with (fail)
      go_ret
      have e : segsL p.data.toList M.L = segsL p.data.toList (M.L.take M.L.length) := by rw [List.take_length]
      exact ⟨_, rfl, by rw [e]; exact HO.out, HB.out⟩
set_option maxHeartbeats 4000000 in
theorem rnum_any (n₀ : Nat) (w : World) (jb b : Nat) (p : ByteArray) (most : Int) (M : RS) (F : List Nat) (h : RefP n₀ w b M F) (hM : M.ok) (hj : JAt w jb b p most) (hp : p.size ≤ 100) :
    Calls Tryz.prog 41 #[.pointer (some ⟨jb, 0, none⟩)] w fun e w' => e = .returned (.int .i64 (lastN p.data.toList M.L : Nat)) ∧ Bel w w' := by
  have HC := Lib.hid (rsegs_any n₀ w jb b p most M F h hM hj hp)
  have hsl := segs_len p.data.toList M.L
  have h60 := hM.len
  obtain ⟨l, hl⟩ : ∃ l, l = segsL p.data.toList M.L := ⟨_, rfl⟩
  have HLN := Lib.hid (show lastN p.data.toList M.L = l.getLast?.getD 0 by rw [hl]; rfl)
  rw [← hl] at HC hsl
  clear hl hj h hM
  go_enter Tryz.func41, Tryz.ntmps41
  go_wp2_with (fail)
  refine HC.out.mono ?_
  rintro e w1 ⟨v, rfl, hown, hb1⟩
  have HV := Lib.hid hown
  have HB1 := Lib.hid hb1
  obtain ⟨sp, sc, hv⟩ := ownG_len hown
  rw [toZ_len] at hv
  subst hv
  clear hown hb1
  by_cases h0 : l.length = 0
  · have HZ := Lib.hid (show l.getLast?.getD 0 = 0 by rw [List.length_eq_zero_iff.1 h0]; rfl)
    go_wp2_with (fail)
    go_ret
    exact ⟨by rw [HLN.out, HZ.out]; rfl, HB1.out⟩
  · obtain ⟨k, hk⟩ : ∃ k, l.length = k + 1 := ⟨l.length - 1, by omega⟩
    have hkl : k < l.length := by omega
    obtain ⟨g, cap, hv, hcap, _, e0⟩ := int_at HV.out k hkl
    simp only [Value.slice.injEq, true_and] at hv
    obtain ⟨rfl, rfl⟩ := hv
    have HZ := Lib.hid (show l.getLast?.getD 0 = l[k] by
      rw [List.getLast?_eq_getElem?, show l.length - 1 = k by omega, List.getElem?_eq_getElem hkl]; rfl)
    obtain ⟨m, hm⟩ : ∃ m, m = l[k] := ⟨_, rfl⟩
    rw [← hm] at e0 HZ
    have hk1 : (l.length : Int) - 1 = (k : Int) := by omega
    clear hm
    go_wp2_with (fail)
    go_ret
    exact ⟨by rw [HLN.out, HZ.out]; rfl, HB1.out⟩
end Go.Proofs.YtlmlcnbgdaiaeaaGreatDoor
/- journal's Turn, withRoom, Write. -/
namespace Go.Proofs.YtlmlcnbgdaiaeaaGreatDoor
open Go.RowKit Go.Deep Go.Maps

structure JS (n₀ : Nat) (w : World) (b : Nat) (M : RS) (F : List Nat) (jb : Nat) (p : ByteArray) (most : Int) : Prop where
  prog : ProgAt n₀ w b M F
  ok : M.ok
  j : JAt w jb b p most
  out : jb ∉ F
  std : ∀ z, Keep F w z → Std z
section
variable {n₀ : Nat} {w x y : World} {b jb : Nat} {M M1 M2 : RS} {F F1 : List Nat} {p : ByteArray} {most : Int}
theorem JS.std0 (h : JS n₀ w b M F jb p most) : Std w := h.std w (Keep.refl _ _)
theorem JS.bel (h : JS n₀ w b M F jb p most) (hb : Bel w x) : JS n₀ x b M F jb p most :=
  ⟨h.prog.bel hb, h.ok, h.j.bel hb, h.out, fun z hz => h.std z ((Keep.of_bel hb F).trans hz (fun k hk => Or.inl hk))⟩
theorem JS.step (h : JS n₀ w b M F jb p most) (hT : ProgTo n₀ w x b M1 F) (hM : M1.ok) : ∃ F1, JS n₀ x b M1 F1 jb p most ∧ Keep F w x ∧ (∀ k ∈ F1, k ∈ F ∨ w.heap.size ≤ k) := by
  obtain ⟨F1, h1, h2, h3⟩ := hT
  refine ⟨F1, ⟨h1, hM, h.j.keep (h2.block jb h.j.lt h.out), fun hm => ?_, fun z hz => h.std z (h2.trans hz h3)⟩, h2, h3⟩
  rcases h3 jb hm with h4 | h4
  · exact h.out h4
  · have := h.j.lt; omega
theorem to_then (hk : Keep F w x) (hF : ∀ k ∈ F1, k ∈ F ∨ w.heap.size ≤ k) (h2 : ProgTo n₀ x y b M2 F1) : ProgTo n₀ w y b M2 F := by
  obtain ⟨F2, q1, q2, q3⟩ := h2
  refine ⟨F2, q1, hk.trans q2 hF, fun k hm => ?_⟩
  rcases q3 k hm with h | h
  · exact hF k h
  · exact Or.inr (Nat.le_trans hk.size h)
end

set_option maxHeartbeats 4000000 in
set_option maxRecDepth 20000 in
theorem jturn_any (n₀ : Nat) (w : World) (b : Nat) (M : RS) (F : List Nat) (jb : Nat) (p : ByteArray) (most : Int) (h : JS n₀ w b M F jb p most) (hp : p.size ≤ 100) (h9 : lastN p.data.toList M.L < 9999999) :
    Calls Tryz.prog 25 #[.pointer (some ⟨jb, 0, none⟩)] w fun e y => e = .returned (.int .i64 (jturn p.data.toList M).1) ∧ ProgTo n₀ w y b (jturn p.data.toList M).2 F := by
  have H := Lib.hid h
  have c0 := h.j.files
  clear h
  obtain ⟨n, hn⟩ : ∃ n, n = lastN p.data.toList M.L := ⟨_, rfl⟩
  have HN := Lib.hid hn
  rw [← hn] at h9
  have hne : ((n : Int) == 9999999) = false := by rw [beq_eq_false_iff_ne]; omega
  have hfl := file_len p.data.toList (n := n + 1) (by omega)
  have hfz := str_len (fileN p.data.toList (n + 1))
  have hpl : p.data.toList.length = p.size := rfl
  have HCF := Lib.hid (fun (z : World) (hj : JAt z jb b p most) (hs : Std z) => file_any z jb b p most (n + 1) hj hp (by omega) hs)
  have hcast : ((n + 1 : Nat) : Int) = (n : Int) + 1 := by omega
  rw [hcast] at HCF
  have hwr : IntKind.i64.wrap ((n : Int) + 1) = (n : Int) + 1 := IntWalk.i64_in _ (by omega)
  clear hn hcast
  go_enter Tryz.func25, Tryz.ntmps25
  go_wp2_with (fail)
  refine (num_any n₀ w jb b p most M F H.out.prog H.out.ok H.out.j hp H.out.std0).mono ?_
  rintro e w1 ⟨rfl, hb1⟩
  rw [← HN.out]
  have HB1 := Lib.hid hb1
  have c1 := cell_later hb1 c0
  clear hb1
  have HX := Lib.hid (H.out.bel HB1.out)
  go_wp2_with (fail)
  refine wp_region_held_drew (S := fun z => z.cell? ⟨jb, 0, none⟩ = some (.pointer (some ⟨b, 0, none⟩))) (by kernel_rfl) c1 (fun hHeld => ?_)
  refine tk (oi := { dst := some 13, op := Op.move (Operand.tmp 0), type := 51, pos := "journal.go:105", after := #[], guard := none }) (v := ?_) 0 rfl ?_ ?_
  rotate_left
  · (intro w hSw; (try dsimp only at hSw); first | (go_simp; done) | (go_simp; with_reducible rfl))
  try simp only [Act.put, List.setIfInBounds_toArray, List.set_cons_zero, List.set_cons_succ]
  refine tk (oi := { dst := some 14, op := Op.nilCheck (Operand.tmp 13), type := 0, pos := "journal.go:105", after := #[{ on := 0, ground := Ground.data }], guard := none }) (v := ?_) 1 rfl ?_ ?_
  rotate_left
  · (intro w hSw; (try dsimp only at hSw); first | (go_simp; done) | (go_simp; with_reducible rfl))
  try simp only [Act.put, List.setIfInBounds_toArray, List.set_cons_zero, List.set_cons_succ]
  refine tk (oi := { dst := some 15, op := Op.fieldAddr 99 (Operand.tmp 14) 0, type := 0, pos := "journal.go:105", after := #[{ on := 1, ground := Ground.data }], guard := none }) (v := ?_) 2 rfl ?_ ?_
  rotate_left
  · (intro w hSw; (try dsimp only at hSw); first | (go_simp; done) | (go_simp; with_reducible rfl))
  try simp only [Act.put, List.setIfInBounds_toArray, List.set_cons_zero, List.set_cons_succ]
  refine tk (oi := { dst := some 16, op := Op.load 42 (Operand.tmp 15), type := 42, pos := "journal.go:105", after := #[{ on := 2, ground := Ground.data }], guard := none }) (v := ?_) 3 rfl ?_ ?_
  rotate_left
  · (intro w hSw; (try dsimp only at hSw); first | (go_simp; done) | (go_simp; with_reducible rfl))
  try simp only [Act.put, List.setIfInBounds_toArray, List.set_cons_zero, List.set_cons_succ]
  refine tk (oi := { dst := some 17, op := Op.move (Operand.tmp 0), type := 51, pos := "journal.go:105", after := #[], guard := none }) (v := ?_) 4 rfl ?_ ?_
  rotate_left
  · (intro w hSw; (try dsimp only at hSw); first | (go_simp; done) | (go_simp; with_reducible rfl))
  try simp only [Act.put, List.setIfInBounds_toArray, List.set_cons_zero, List.set_cons_succ]
  refine tk (oi := { dst := some 18, op := Op.move (Operand.tmp 3), type := 3, pos := "journal.go:105", after := #[], guard := none }) (v := ?_) 5 rfl ?_ ?_
  rotate_left
  · (intro w hSw; (try dsimp only at hSw); first | (go_simp; done) | (go_simp; with_reducible rfl))
  try simp only [Act.put, List.setIfInBounds_toArray, List.set_cons_zero, List.set_cons_succ]
  refine tk (oi := { dst := some 19, op := Op.binOp BinOp.add 3 (Operand.tmp 18) (Operand.const (Value.int IntKind.i64 1)) 3, type := 3, pos := "journal.go:105", after := #[{ on := 5, ground := Ground.data }], guard := none }) (v := ?_) 6 rfl ?_ ?_
  rotate_left
  · (intro w hSw; (try dsimp only at hSw); first | (go_simp; done) | (go_simp; with_reducible rfl))
  try simp only [Act.put, List.setIfInBounds_toArray, List.set_cons_zero, List.set_cons_succ]
  refine wpAnyH_ready (rs := [7]) (by kernel_rfl) (by simp) ?_
  refine AllReadyH.cons (o := { dst := some 20, op := Op.call { callee := Callee.value (Operand.func 64), args := #[Operand.tmp 17, Operand.tmp 19], argTypes := #[51, 3] }, type := 9, pos := "journal.go:105", after := #[{ on := 4, ground := Ground.data }, { on := 6, ground := Ground.data }], guard := none }) rfl (fun K hK => ?_) AllReadyH.nil
  go_simp
  refine (HCF.out _ (HX.out.bel (Bel.refl w1).drew).j (HX.out.bel (Bel.refl w1).drew).std0).mono ?_
  rintro e w2 ⟨rfl, hb2⟩
  have HB2 := Lib.hid ((HB1.out.drew).trans hb2)
  have c2 := cell_later hb2 (show _ = _ from c1)
  clear hb2
  dsimp only
  refine hK.out _ _ c2 (fun hHeld => ?_)
  clear hK K
  try simp only [Act.put, List.setIfInBounds_toArray, List.set_cons_zero, List.set_cons_succ]
  refine wpAnyH_ready (rs := [8]) (by kernel_rfl) (by simp) ?_
  refine AllReadyH.cons (o := { dst := some 21, op := Op.call { callee := Callee.value (Operand.func 17), args := #[Operand.tmp 16, Operand.tmp 20, Operand.const (Value.string { data := #[] })], argTypes := #[42, 9, 9] }, type := 31, pos := "journal.go:105", after := #[{ on := 3, ground := Ground.data }, { on := 7, ground := Ground.data }, { on := 7, ground := Ground.chain }], guard := none }) rfl (fun K hK => ?_) AllReadyH.nil
  go_simp
  refine (padd_any n₀ w2 b M F (⟨(fileN p.data.toList (n + 1)).toArray⟩ : ByteArray) ⟨#[]⟩ (H.out.prog.bel HB2.out) (by omega) (by decide) H.out.ok.srt (good_len H.out.ok) (good_bytes H.out.ok) H.out.ok.room).mono ?_
  rintro e w3 ⟨rfl, hT⟩
  rw [str_list] at hT ⊢
  have HT := Lib.hid (hT.before HB2.out)
  have c3 : w3.cell? ⟨jb, 0, none⟩ = some (.pointer (some ⟨b, 0, none⟩)) := by
    obtain ⟨F3, _, q2, _⟩ := hT
    exact q2.cell c2 H.out.out
  clear hT
  have HJ := Lib.hid (show jturn p.data.toList M = addS (fileN p.data.toList (n + 1)) (⟨#[]⟩ : ByteArray).data.toList M by unfold jturn; rw [← HN.out])
  dsimp only
  refine hK.out _ _ c3 (fun hHeld => ?_)
  clear hK K
  try simp only [Act.put, List.setIfInBounds_toArray, List.set_cons_zero, List.set_cons_succ]
  refine tk (oi := { dst := some 2, op := Op.assign (Operand.tmp 21), type := 31, pos := "journal.go:105", after := #[{ on := 8, ground := Ground.data }, { on := 8, ground := Ground.chain }, { on := 0, ground := Ground.phase }, { on := 1, ground := Ground.phase }, { on := 2, ground := Ground.phase }, { on := 3, ground := Ground.phase }, { on := 4, ground := Ground.phase }, { on := 5, ground := Ground.phase }, { on := 6, ground := Ground.phase }, { on := 7, ground := Ground.phase }, { on := 8, ground := Ground.phase }], guard := none }) (v := ?_) 9 rfl ?_ ?_
  rotate_left
  · (intro w hSw; (try dsimp only at hSw); first | (go_simp; done) | (go_simp; with_reducible rfl))
  try simp only [Act.put, List.setIfInBounds_toArray, List.set_cons_zero, List.set_cons_succ]
  refine wpAnyH_done (by kernel_rfl) ?_ _
  go_wp2_with (fail)
  go_ret
  exact ⟨by rw [HJ.out]; rfl, by rw [HJ.out]; exact HT.out⟩
end Go.Proofs.YtlmlcnbgdaiaeaaGreatDoor
/- moultref7's Turn. -/
namespace Go.Proofs.YtlmlcnbgdaiaeaaGreatDoor
open Go.RowKit Go.Deep Go.Maps

structure RJS (n₀ : Nat) (w : World) (b : Nat) (M : RS) (F : List Nat) (jb : Nat) (p : ByteArray) (most : Int) : Prop where
  ref : RefP n₀ w b M F
  ok : M.ok
  j : JAt w jb b p most
  out : jb ∉ F
section
variable {n₀ : Nat} {w x y : World} {b jb : Nat} {M M1 M2 : RS} {F F1 : List Nat} {p : ByteArray} {most : Int}
theorem RJS.bel (h : RJS n₀ w b M F jb p most) (hb : Bel w x) : RJS n₀ x b M F jb p most :=
  ⟨h.ref.bel hb, h.ok, h.j.bel hb, h.out⟩
theorem RJS.step (h : RJS n₀ w b M F jb p most) (hT : RefTo n₀ w x b M1 F) (hM : M1.ok) : ∃ F1, RJS n₀ x b M1 F1 jb p most ∧ Keep F w x ∧ (∀ k ∈ F1, k ∈ F ∨ w.heap.size ≤ k) := by
  obtain ⟨F1, h1, h2, h3⟩ := hT
  refine ⟨F1, ⟨h1, hM, h.j.keep (h2.block jb h.j.lt h.out), fun hm => ?_⟩, h2, h3⟩
  rcases h3 jb hm with h4 | h4
  · exact h.out h4
  · have := h.j.lt; omega
end

end Go.Proofs.YtlmlcnbgdaiaeaaGreatDoor
/- journal's withRoom, Write. -/
namespace Go.Proofs.YtlmlcnbgdaiaeaaGreatDoor
open Go.RowKit Go.Deep Go.Maps

def roomS (p : List UInt8) (most : Int) (M : RS) : Int × RS := if M.gone = true then (7, M) else jroom p most M
theorem roomS_ok {M : RS} (h : M.ok) (p : List UInt8) (most : Int) : (roomS p most M).2.ok := by
  unfold roomS; split; exact h; exact jroom_ok h p most
theorem js_fileC {n₀ : Nat} {z : World} {b : Nat} {M : RS} {F : List Nat} {jb : Nat} {p : ByteArray} {most : Int} (h : JS n₀ z b M F jb p most) (hp : p.size ≤ 100) (n : Nat) (hn : n ≤ 10000000) :
    Calls Tryz.prog 64 #[.pointer (some ⟨jb, 0, none⟩), .int .i64 n] z fun e w' => e = .returned (.string ⟨(fileN p.data.toList n).toArray⟩) ∧ Bel z w' := file_any z jb b p most n h.j hp hn h.std0
theorem str_empty {l : List UInt8} (h : l ≠ []) : (⟨l.toArray⟩ : ByteArray).toList.isEmpty = false := by
  rw [ByteArray.toList_eq]
  cases l with
  | nil => exact absurd rfl h
  | cons a l => rfl
set_option maxHeartbeats 4000000 in
set_option maxRecDepth 20000 in
theorem withroom_any (n₀ : Nat) (w : World) (b : Nat) (M : RS) (F : List Nat) (jb : Nat) (p : ByteArray) (most : Int) (h : JS n₀ w b M F jb p most) (hp : p.size ≤ 100) (h0 : lastN p.data.toList M.L ≠ 0) (h9 : lastN p.data.toList M.L < 9999999) (hmost : in64 most) :
    Calls Tryz.prog 63 #[.pointer (some ⟨jb, 0, none⟩)] w fun e y => ∃ m : Nat, e = .returned (.tuple #[.int .i64 m, .int .i64 (roomS p.data.toList most M).1]) ∧ ProgTo n₀ w y b (roomS p.data.toList most M).2 F ∧ ((roomS p.data.toList most M).1 = 0 → m = lastN p.data.toList (roomS p.data.toList most M).2.L) := by
  have H := Lib.hid h
  have HMS := Lib.hid hmost
  obtain ⟨n, hn⟩ : ∃ n, n = lastN p.data.toList M.L := ⟨_, rfl⟩
  have HN := Lib.hid hn
  rw [← hn] at h9 h0
  have hmem : n ∈ segsL p.data.toList M.L := by rw [hn]; exact last_mem (fun e => h0 (by rw [hn]; exact last_zero.2 e))
  obtain ⟨-, -, hget⟩ := (mem_segs_get h.ok.srt).1 hmem
  obtain ⟨y, hy⟩ := Option.isSome_iff_exists.1 hget
  have hyb := (each_ok h.ok y (getF_mem hy)).1
  have HBY := Lib.hid (show bytesOf (fileN p.data.toList n) M = y.bytes from bytesOf_get hy)
  have HY := Lib.hid hy
  have hbz := str_len y.bytes
  have hfl := file_len p.data.toList (n := n) (by omega)
  have hfz := str_len (fileN p.data.toList n)
  have hpl : p.data.toList.length = p.size := rfl
  have hne0 : ((n : Int) == 0) = false := by rw [beq_eq_false_iff_ne]; omega
  clear h hn hmem hget hy hmost
  cases hg : M.gone with
  | true =>
    have HR := Lib.hid (show roomS p.data.toList most M = (7, M) by unfold roomS; rw [if_pos hg])
    have HGS := Lib.hid (show getS (fileN p.data.toList n) M = ([], 7) by unfold getS; rw [hg]; rfl)
    go_enter Tryz.func63, Tryz.ntmps63
    go_wp2_with (fail)
    refine (num_any n₀ w jb b p most M F H.out.prog H.out.ok H.out.j hp H.out.std0).mono ?_
    rintro e w1 ⟨rfl, hb1⟩
    rw [← HN.out]
    have HB1 := Lib.hid hb1
    have HX := Lib.hid (H.out.bel hb1)
    clear hb1
    go_wp2_with (fail)
    refine wp_region_held_drew (S := fun z => z.cell? ⟨jb, 0, none⟩ = some (.pointer (some ⟨b, 0, none⟩))) (by kernel_rfl) HX.out.j.files (fun hHeld => ?_)
    refine tk (oi := { dst := some 14, op := Op.move (Operand.tmp 0), type := 51, pos := "journal.go:84", after := #[], guard := none }) (v := ?_) 0 rfl ?_ ?_
    rotate_left
    · (intro w hSw; (try dsimp only at hSw); first | (go_simp; done) | (go_simp; with_reducible rfl))
    try simp only [Act.put, List.setIfInBounds_toArray, List.set_cons_zero, List.set_cons_succ]
    refine tk (oi := { dst := some 15, op := Op.nilCheck (Operand.tmp 14), type := 0, pos := "journal.go:84", after := #[{ on := 0, ground := Ground.data }], guard := none }) (v := ?_) 1 rfl ?_ ?_
    rotate_left
    · (intro w hSw; (try dsimp only at hSw); first | (go_simp; done) | (go_simp; with_reducible rfl))
    try simp only [Act.put, List.setIfInBounds_toArray, List.set_cons_zero, List.set_cons_succ]
    refine tk (oi := { dst := some 16, op := Op.fieldAddr 99 (Operand.tmp 15) 0, type := 0, pos := "journal.go:84", after := #[{ on := 1, ground := Ground.data }], guard := none }) (v := ?_) 2 rfl ?_ ?_
    rotate_left
    · (intro w hSw; (try dsimp only at hSw); first | (go_simp; done) | (go_simp; with_reducible rfl))
    try simp only [Act.put, List.setIfInBounds_toArray, List.set_cons_zero, List.set_cons_succ]
    refine tk (oi := { dst := some 17, op := Op.load 42 (Operand.tmp 16), type := 42, pos := "journal.go:84", after := #[{ on := 2, ground := Ground.data }], guard := none }) (v := ?_) 3 rfl ?_ ?_
    rotate_left
    · (intro w hSw; (try dsimp only at hSw); first | (go_simp; done) | (go_simp; with_reducible rfl))
    try simp only [Act.put, List.setIfInBounds_toArray, List.set_cons_zero, List.set_cons_succ]
    refine tk (oi := { dst := some 18, op := Op.move (Operand.tmp 0), type := 51, pos := "journal.go:84", after := #[], guard := none }) (v := ?_) 4 rfl ?_ ?_
    rotate_left
    · (intro w hSw; (try dsimp only at hSw); first | (go_simp; done) | (go_simp; with_reducible rfl))
    try simp only [Act.put, List.setIfInBounds_toArray, List.set_cons_zero, List.set_cons_succ]
    refine tk (oi := { dst := some 19, op := Op.move (Operand.tmp 4), type := 3, pos := "journal.go:84", after := #[], guard := none }) (v := ?_) 5 rfl ?_ ?_
    rotate_left
    · (intro w hSw; (try dsimp only at hSw); first | (go_simp; done) | (go_simp; with_reducible rfl))
    try simp only [Act.put, List.setIfInBounds_toArray, List.set_cons_zero, List.set_cons_succ]
    refine wpAnyH_ready (rs := [6]) (by kernel_rfl) (by simp) ?_
    refine AllReadyH.cons (o := { dst := some 20, op := Op.call { callee := Callee.value (Operand.func 64), args := #[Operand.tmp 18, Operand.tmp 19], argTypes := #[51, 3] }, type := 9, pos := "journal.go:84", after := #[{ on := 4, ground := Ground.data }, { on := 5, ground := Ground.data }], guard := none }) rfl (fun K hK => ?_) AllReadyH.nil
    go_simp
    refine (js_fileC (HX.out.bel (Bel.refl w1).drew) hp n (by omega)).mono ?_
    rintro e zf ⟨rfl, hbf⟩
    have HBf := Lib.hid ((Bel.refl w1).drew.trans hbf)
    have HXf := Lib.hid (HX.out.bel HBf.out)
    clear hbf
    dsimp only
    refine hK.out _ _ HXf.out.j.files (fun hHeld => ?_)
    clear hK K
    try simp only [Act.put, List.setIfInBounds_toArray, List.set_cons_zero, List.set_cons_succ]
    refine wpAnyH_ready (rs := [7]) (by kernel_rfl) (by simp) ?_
    refine AllReadyH.cons (o := { dst := some 21, op := Op.call { callee := Callee.value (Operand.func 40), args := #[Operand.tmp 17, Operand.tmp 20], argTypes := #[42, 9] }, type := 73, pos := "journal.go:84", after := #[{ on := 3, ground := Ground.data }, { on := 6, ground := Ground.data }, { on := 6, ground := Ground.chain }], guard := none }) rfl (fun K hK => ?_) AllReadyH.nil
    go_simp
    refine (pget_any n₀ zf b M F (⟨(fileN p.data.toList n).toArray⟩ : ByteArray) HXf.out.prog (by unfold maxLen; omega)).mono ?_
    rintro e w3 ⟨rfl, hb3⟩
    rw [str_list, HGS.out]
    have HB3 := Lib.hid (HB1.out.trans (HBf.out.trans hb3))
    have HX3 := Lib.hid (HXf.out.bel hb3)
    have cN := HX3.out.j.files
    clear hb3
    dsimp only
    refine hK.out _ _ cN (fun hHeld => ?_)
    clear hK K
    try simp only [Act.put, List.setIfInBounds_toArray, List.set_cons_zero, List.set_cons_succ]
    refine tk (oi := { dst := some 13, op := Op.move (Operand.tmp 21), type := 73, pos := "journal.go:84", after := #[{ on := 7, ground := Ground.data }], guard := none }) (v := ?_) 8 rfl ?_ ?_
    rotate_left
    · (intro w hSw; (try dsimp only at hSw); first | (go_simp; done) | (go_simp; with_reducible rfl))
    try simp only [Act.put, List.setIfInBounds_toArray, List.set_cons_zero, List.set_cons_succ]
    refine tk (oi := { dst := some 22, op := Op.extract (Operand.tmp 13) 0, type := 9, pos := "journal.go:84", after := #[{ on := 8, ground := Ground.data }], guard := none }) (v := ?_) 9 rfl ?_ ?_
    rotate_left
    · (intro w hSw; (try dsimp only at hSw); first | (go_simp; done) | (go_simp; with_reducible rfl))
    try simp only [Act.put, List.setIfInBounds_toArray, List.set_cons_zero, List.set_cons_succ]
    refine tk (oi := { dst := some 23, op := Op.extract (Operand.tmp 13) 1, type := 31, pos := "journal.go:84", after := #[{ on := 8, ground := Ground.data }, { on := 11, ground := Ground.gcOnly Departure.lateStores }], guard := none }) (v := ?_) 10 rfl ?_ ?_
    rotate_left
    · (intro w hSw; (try dsimp only at hSw); first | (go_simp; done) | (go_simp; with_reducible rfl))
    try simp only [Act.put, List.setIfInBounds_toArray, List.set_cons_zero, List.set_cons_succ]
    refine tk (oi := { dst := some 5, op := Op.assign (Operand.tmp 22), type := 9, pos := "journal.go:84", after := #[{ on := 9, ground := Ground.data }, { on := 7, ground := Ground.chain }, { on := 0, ground := Ground.phase }, { on := 1, ground := Ground.phase }, { on := 2, ground := Ground.phase }, { on := 3, ground := Ground.phase }, { on := 4, ground := Ground.phase }, { on := 5, ground := Ground.phase }, { on := 6, ground := Ground.phase }, { on := 7, ground := Ground.phase }, { on := 8, ground := Ground.phase }, { on := 9, ground := Ground.phase }, { on := 10, ground := Ground.textOnly Departure.lateStores }], guard := none }) (v := ?_) 11 rfl ?_ ?_
    rotate_left
    · (intro w hSw; (try dsimp only at hSw); first | (go_simp; done) | (go_simp; with_reducible rfl))
    try simp only [Act.put, List.setIfInBounds_toArray, List.set_cons_zero, List.set_cons_succ]
    refine tk (oi := { dst := some 6, op := Op.assign (Operand.tmp 23), type := 31, pos := "journal.go:84", after := #[{ on := 10, ground := Ground.data }, { on := 11, ground := Ground.chain }, { on := 0, ground := Ground.phase }, { on := 1, ground := Ground.phase }, { on := 2, ground := Ground.phase }, { on := 3, ground := Ground.phase }, { on := 4, ground := Ground.phase }, { on := 5, ground := Ground.phase }, { on := 6, ground := Ground.phase }, { on := 7, ground := Ground.phase }, { on := 8, ground := Ground.phase }, { on := 9, ground := Ground.phase }, { on := 10, ground := Ground.phase }, { on := 11, ground := Ground.phase }], guard := none }) (v := ?_) 12 rfl ?_ ?_
    rotate_left
    · (intro w hSw; (try dsimp only at hSw); first | (go_simp; done) | (go_simp; with_reducible rfl))
    try simp only [Act.put, List.setIfInBounds_toArray, List.set_cons_zero, List.set_cons_succ]
    refine wpAnyH_done (by kernel_rfl) ?_ _
    go_wp2_with (fail)
    go_ret2
    exact ⟨0, by rw [HR.out]; rfl, by rw [HR.out]; exact ProgAt.to H.out.prog HB3.out, fun hc => by rw [HR.out] at hc; cases hc⟩
  | false =>
    have HRS := Lib.hid (show roomS p.data.toList most M = jroom p.data.toList most M by unfold roomS; rw [hg]; rfl)
    have HGS := Lib.hid (show getS (fileN p.data.toList n) M = (y.bytes, 0) by unfold getS; rw [hg, HY.out]; rfl)
    by_cases hfull : y.bytes ≠ [] ∧ most ≤ (y.bytes.length : Int)
    · obtain ⟨hnb, hml⟩ := hfull
      have HR := Lib.hid (show roomS p.data.toList most M = jturn p.data.toList M by rw [HRS.out]; unfold jroom; rw [← HN.out, HBY.out, if_pos ⟨hnb, hml⟩])
      have hemp := str_empty hnb
      have hemp2 : y.bytes.isEmpty = false := by cases hb : y.bytes with | nil => exact absurd hb hnb | cons _ _ => rfl
      have hlt : ¬ ((y.bytes.length : Int) < most) := by omega
      go_enter Tryz.func63, Tryz.ntmps63
      go_wp2_with (fail)
      refine (num_any n₀ w jb b p most M F H.out.prog H.out.ok H.out.j hp H.out.std0).mono ?_
      rintro e w1 ⟨rfl, hb1⟩
      rw [← HN.out]
      have HB1 := Lib.hid hb1
      have HX := Lib.hid (H.out.bel hb1)
      clear hb1
      go_wp2_with (fail)
      refine wp_region_held_drew (S := fun z => z.cell? ⟨jb, 0, none⟩ = some (.pointer (some ⟨b, 0, none⟩))) (by kernel_rfl) HX.out.j.files (fun hHeld => ?_)
      refine tk (oi := { dst := some 14, op := Op.move (Operand.tmp 0), type := 51, pos := "journal.go:84", after := #[], guard := none }) (v := ?_) 0 rfl ?_ ?_
      rotate_left
      · (intro w hSw; (try dsimp only at hSw); first | (go_simp; done) | (go_simp; with_reducible rfl))
      try simp only [Act.put, List.setIfInBounds_toArray, List.set_cons_zero, List.set_cons_succ]
      refine tk (oi := { dst := some 15, op := Op.nilCheck (Operand.tmp 14), type := 0, pos := "journal.go:84", after := #[{ on := 0, ground := Ground.data }], guard := none }) (v := ?_) 1 rfl ?_ ?_
      rotate_left
      · (intro w hSw; (try dsimp only at hSw); first | (go_simp; done) | (go_simp; with_reducible rfl))
      try simp only [Act.put, List.setIfInBounds_toArray, List.set_cons_zero, List.set_cons_succ]
      refine tk (oi := { dst := some 16, op := Op.fieldAddr 99 (Operand.tmp 15) 0, type := 0, pos := "journal.go:84", after := #[{ on := 1, ground := Ground.data }], guard := none }) (v := ?_) 2 rfl ?_ ?_
      rotate_left
      · (intro w hSw; (try dsimp only at hSw); first | (go_simp; done) | (go_simp; with_reducible rfl))
      try simp only [Act.put, List.setIfInBounds_toArray, List.set_cons_zero, List.set_cons_succ]
      refine tk (oi := { dst := some 17, op := Op.load 42 (Operand.tmp 16), type := 42, pos := "journal.go:84", after := #[{ on := 2, ground := Ground.data }], guard := none }) (v := ?_) 3 rfl ?_ ?_
      rotate_left
      · (intro w hSw; (try dsimp only at hSw); first | (go_simp; done) | (go_simp; with_reducible rfl))
      try simp only [Act.put, List.setIfInBounds_toArray, List.set_cons_zero, List.set_cons_succ]
      refine tk (oi := { dst := some 18, op := Op.move (Operand.tmp 0), type := 51, pos := "journal.go:84", after := #[], guard := none }) (v := ?_) 4 rfl ?_ ?_
      rotate_left
      · (intro w hSw; (try dsimp only at hSw); first | (go_simp; done) | (go_simp; with_reducible rfl))
      try simp only [Act.put, List.setIfInBounds_toArray, List.set_cons_zero, List.set_cons_succ]
      refine tk (oi := { dst := some 19, op := Op.move (Operand.tmp 4), type := 3, pos := "journal.go:84", after := #[], guard := none }) (v := ?_) 5 rfl ?_ ?_
      rotate_left
      · (intro w hSw; (try dsimp only at hSw); first | (go_simp; done) | (go_simp; with_reducible rfl))
      try simp only [Act.put, List.setIfInBounds_toArray, List.set_cons_zero, List.set_cons_succ]
      refine wpAnyH_ready (rs := [6]) (by kernel_rfl) (by simp) ?_
      refine AllReadyH.cons (o := { dst := some 20, op := Op.call { callee := Callee.value (Operand.func 64), args := #[Operand.tmp 18, Operand.tmp 19], argTypes := #[51, 3] }, type := 9, pos := "journal.go:84", after := #[{ on := 4, ground := Ground.data }, { on := 5, ground := Ground.data }], guard := none }) rfl (fun K hK => ?_) AllReadyH.nil
      go_simp
      refine (js_fileC (HX.out.bel (Bel.refl w1).drew) hp n (by omega)).mono ?_
      rintro e zf ⟨rfl, hbf⟩
      have HBf := Lib.hid ((Bel.refl w1).drew.trans hbf)
      have HXf := Lib.hid (HX.out.bel HBf.out)
      clear hbf
      dsimp only
      refine hK.out _ _ HXf.out.j.files (fun hHeld => ?_)
      clear hK K
      try simp only [Act.put, List.setIfInBounds_toArray, List.set_cons_zero, List.set_cons_succ]
      refine wpAnyH_ready (rs := [7]) (by kernel_rfl) (by simp) ?_
      refine AllReadyH.cons (o := { dst := some 21, op := Op.call { callee := Callee.value (Operand.func 40), args := #[Operand.tmp 17, Operand.tmp 20], argTypes := #[42, 9] }, type := 73, pos := "journal.go:84", after := #[{ on := 3, ground := Ground.data }, { on := 6, ground := Ground.data }, { on := 6, ground := Ground.chain }], guard := none }) rfl (fun K hK => ?_) AllReadyH.nil
      go_simp
      refine (pget_any n₀ zf b M F (⟨(fileN p.data.toList n).toArray⟩ : ByteArray) HXf.out.prog (by unfold maxLen; omega)).mono ?_
      rintro e w3 ⟨rfl, hb3⟩
      rw [str_list, HGS.out]
      have HB3 := Lib.hid (HB1.out.trans (HBf.out.trans hb3))
      have HX3 := Lib.hid (HXf.out.bel hb3)
      have cN := HX3.out.j.files
      clear hb3
      dsimp only
      refine hK.out _ _ cN (fun hHeld => ?_)
      clear hK K
      try simp only [Act.put, List.setIfInBounds_toArray, List.set_cons_zero, List.set_cons_succ]
      refine tk (oi := { dst := some 13, op := Op.move (Operand.tmp 21), type := 73, pos := "journal.go:84", after := #[{ on := 7, ground := Ground.data }], guard := none }) (v := ?_) 8 rfl ?_ ?_
      rotate_left
      · (intro w hSw; (try dsimp only at hSw); first | (go_simp; done) | (go_simp; with_reducible rfl))
      try simp only [Act.put, List.setIfInBounds_toArray, List.set_cons_zero, List.set_cons_succ]
      refine tk (oi := { dst := some 22, op := Op.extract (Operand.tmp 13) 0, type := 9, pos := "journal.go:84", after := #[{ on := 8, ground := Ground.data }], guard := none }) (v := ?_) 9 rfl ?_ ?_
      rotate_left
      · (intro w hSw; (try dsimp only at hSw); first | (go_simp; done) | (go_simp; with_reducible rfl))
      try simp only [Act.put, List.setIfInBounds_toArray, List.set_cons_zero, List.set_cons_succ]
      refine tk (oi := { dst := some 23, op := Op.extract (Operand.tmp 13) 1, type := 31, pos := "journal.go:84", after := #[{ on := 8, ground := Ground.data }, { on := 11, ground := Ground.gcOnly Departure.lateStores }], guard := none }) (v := ?_) 10 rfl ?_ ?_
      rotate_left
      · (intro w hSw; (try dsimp only at hSw); first | (go_simp; done) | (go_simp; with_reducible rfl))
      try simp only [Act.put, List.setIfInBounds_toArray, List.set_cons_zero, List.set_cons_succ]
      refine tk (oi := { dst := some 5, op := Op.assign (Operand.tmp 22), type := 9, pos := "journal.go:84", after := #[{ on := 9, ground := Ground.data }, { on := 7, ground := Ground.chain }, { on := 0, ground := Ground.phase }, { on := 1, ground := Ground.phase }, { on := 2, ground := Ground.phase }, { on := 3, ground := Ground.phase }, { on := 4, ground := Ground.phase }, { on := 5, ground := Ground.phase }, { on := 6, ground := Ground.phase }, { on := 7, ground := Ground.phase }, { on := 8, ground := Ground.phase }, { on := 9, ground := Ground.phase }, { on := 10, ground := Ground.textOnly Departure.lateStores }], guard := none }) (v := ?_) 11 rfl ?_ ?_
      rotate_left
      · (intro w hSw; (try dsimp only at hSw); first | (go_simp; done) | (go_simp; with_reducible rfl))
      try simp only [Act.put, List.setIfInBounds_toArray, List.set_cons_zero, List.set_cons_succ]
      refine tk (oi := { dst := some 6, op := Op.assign (Operand.tmp 23), type := 31, pos := "journal.go:84", after := #[{ on := 10, ground := Ground.data }, { on := 11, ground := Ground.chain }, { on := 0, ground := Ground.phase }, { on := 1, ground := Ground.phase }, { on := 2, ground := Ground.phase }, { on := 3, ground := Ground.phase }, { on := 4, ground := Ground.phase }, { on := 5, ground := Ground.phase }, { on := 6, ground := Ground.phase }, { on := 7, ground := Ground.phase }, { on := 8, ground := Ground.phase }, { on := 9, ground := Ground.phase }, { on := 10, ground := Ground.phase }, { on := 11, ground := Ground.phase }], guard := none }) (v := ?_) 12 rfl ?_ ?_
      rotate_left
      · (intro w hSw; (try dsimp only at hSw); first | (go_simp; done) | (go_simp; with_reducible rfl))
      try simp only [Act.put, List.setIfInBounds_toArray, List.set_cons_zero, List.set_cons_succ]
      refine wpAnyH_done (by kernel_rfl) ?_ _
      have c2 := HX3.out.j.most
      clear cN
      go_wp2_with (fail)
      refine (jturn_any n₀ w3 b M F jb p most HX3.out hp (by rw [← HN.out]; exact h9)).mono ?_
      rintro e w4 ⟨rfl, hT⟩
      have HT := Lib.hid (hT.before HB3.out)
      clear hT
      have hwr : IntKind.i64.wrap ((n : Int) + 1) = (n : Int) + 1 := IntWalk.i64_in _ (by omega)
      go_wp2_with (fail)
      go_ret2
      exact ⟨n + 1, by rw [HR.out]; rfl, by rw [HR.out]; exact HT.out, fun hc => by
        rw [HR.out] at hc ⊢
        rw [jturn_last H.out.ok (by rw [← HN.out]; exact h9) hc, ← HN.out]⟩
    · have HR := Lib.hid (show roomS p.data.toList most M = (0, M) by rw [HRS.out]; unfold jroom; rw [← HN.out, HBY.out, if_neg hfull])
      by_cases hnb : y.bytes = []
      · have hemp : (⟨y.bytes.toArray⟩ : ByteArray) = ⟨#[]⟩ := by rw [hnb]
        have HE := Lib.hid hemp
        clear hfull
        go_enter Tryz.func63, Tryz.ntmps63
        go_wp2_with (fail)
        refine (num_any n₀ w jb b p most M F H.out.prog H.out.ok H.out.j hp H.out.std0).mono ?_
        rintro e w1 ⟨rfl, hb1⟩
        rw [← HN.out]
        have HB1 := Lib.hid hb1
        have HX := Lib.hid (H.out.bel hb1)
        clear hb1
        go_wp2_with (fail)
        refine wp_region_held_drew (S := fun z => z.cell? ⟨jb, 0, none⟩ = some (.pointer (some ⟨b, 0, none⟩))) (by kernel_rfl) HX.out.j.files (fun hHeld => ?_)
        refine tk (oi := { dst := some 14, op := Op.move (Operand.tmp 0), type := 51, pos := "journal.go:84", after := #[], guard := none }) (v := ?_) 0 rfl ?_ ?_
        rotate_left
        · (intro w hSw; (try dsimp only at hSw); first | (go_simp; done) | (go_simp; with_reducible rfl))
        try simp only [Act.put, List.setIfInBounds_toArray, List.set_cons_zero, List.set_cons_succ]
        refine tk (oi := { dst := some 15, op := Op.nilCheck (Operand.tmp 14), type := 0, pos := "journal.go:84", after := #[{ on := 0, ground := Ground.data }], guard := none }) (v := ?_) 1 rfl ?_ ?_
        rotate_left
        · (intro w hSw; (try dsimp only at hSw); first | (go_simp; done) | (go_simp; with_reducible rfl))
        try simp only [Act.put, List.setIfInBounds_toArray, List.set_cons_zero, List.set_cons_succ]
        refine tk (oi := { dst := some 16, op := Op.fieldAddr 99 (Operand.tmp 15) 0, type := 0, pos := "journal.go:84", after := #[{ on := 1, ground := Ground.data }], guard := none }) (v := ?_) 2 rfl ?_ ?_
        rotate_left
        · (intro w hSw; (try dsimp only at hSw); first | (go_simp; done) | (go_simp; with_reducible rfl))
        try simp only [Act.put, List.setIfInBounds_toArray, List.set_cons_zero, List.set_cons_succ]
        refine tk (oi := { dst := some 17, op := Op.load 42 (Operand.tmp 16), type := 42, pos := "journal.go:84", after := #[{ on := 2, ground := Ground.data }], guard := none }) (v := ?_) 3 rfl ?_ ?_
        rotate_left
        · (intro w hSw; (try dsimp only at hSw); first | (go_simp; done) | (go_simp; with_reducible rfl))
        try simp only [Act.put, List.setIfInBounds_toArray, List.set_cons_zero, List.set_cons_succ]
        refine tk (oi := { dst := some 18, op := Op.move (Operand.tmp 0), type := 51, pos := "journal.go:84", after := #[], guard := none }) (v := ?_) 4 rfl ?_ ?_
        rotate_left
        · (intro w hSw; (try dsimp only at hSw); first | (go_simp; done) | (go_simp; with_reducible rfl))
        try simp only [Act.put, List.setIfInBounds_toArray, List.set_cons_zero, List.set_cons_succ]
        refine tk (oi := { dst := some 19, op := Op.move (Operand.tmp 4), type := 3, pos := "journal.go:84", after := #[], guard := none }) (v := ?_) 5 rfl ?_ ?_
        rotate_left
        · (intro w hSw; (try dsimp only at hSw); first | (go_simp; done) | (go_simp; with_reducible rfl))
        try simp only [Act.put, List.setIfInBounds_toArray, List.set_cons_zero, List.set_cons_succ]
        refine wpAnyH_ready (rs := [6]) (by kernel_rfl) (by simp) ?_
        refine AllReadyH.cons (o := { dst := some 20, op := Op.call { callee := Callee.value (Operand.func 64), args := #[Operand.tmp 18, Operand.tmp 19], argTypes := #[51, 3] }, type := 9, pos := "journal.go:84", after := #[{ on := 4, ground := Ground.data }, { on := 5, ground := Ground.data }], guard := none }) rfl (fun K hK => ?_) AllReadyH.nil
        go_simp
        refine (js_fileC (HX.out.bel (Bel.refl w1).drew) hp n (by omega)).mono ?_
        rintro e zf ⟨rfl, hbf⟩
        have HBf := Lib.hid ((Bel.refl w1).drew.trans hbf)
        have HXf := Lib.hid (HX.out.bel HBf.out)
        clear hbf
        dsimp only
        refine hK.out _ _ HXf.out.j.files (fun hHeld => ?_)
        clear hK K
        try simp only [Act.put, List.setIfInBounds_toArray, List.set_cons_zero, List.set_cons_succ]
        refine wpAnyH_ready (rs := [7]) (by kernel_rfl) (by simp) ?_
        refine AllReadyH.cons (o := { dst := some 21, op := Op.call { callee := Callee.value (Operand.func 40), args := #[Operand.tmp 17, Operand.tmp 20], argTypes := #[42, 9] }, type := 73, pos := "journal.go:84", after := #[{ on := 3, ground := Ground.data }, { on := 6, ground := Ground.data }, { on := 6, ground := Ground.chain }], guard := none }) rfl (fun K hK => ?_) AllReadyH.nil
        go_simp
        refine (pget_any n₀ zf b M F (⟨(fileN p.data.toList n).toArray⟩ : ByteArray) HXf.out.prog (by unfold maxLen; omega)).mono ?_
        rintro e w3 ⟨rfl, hb3⟩
        rw [str_list, HGS.out, HE.out]
        have HB3 := Lib.hid (HB1.out.trans (HBf.out.trans hb3))
        have HX3 := Lib.hid (HXf.out.bel hb3)
        have cN := HX3.out.j.files
        clear hb3
        dsimp only
        refine hK.out _ _ cN (fun hHeld => ?_)
        clear hK K
        try simp only [Act.put, List.setIfInBounds_toArray, List.set_cons_zero, List.set_cons_succ]
        refine tk (oi := { dst := some 13, op := Op.move (Operand.tmp 21), type := 73, pos := "journal.go:84", after := #[{ on := 7, ground := Ground.data }], guard := none }) (v := ?_) 8 rfl ?_ ?_
        rotate_left
        · (intro w hSw; (try dsimp only at hSw); first | (go_simp; done) | (go_simp; with_reducible rfl))
        try simp only [Act.put, List.setIfInBounds_toArray, List.set_cons_zero, List.set_cons_succ]
        refine tk (oi := { dst := some 22, op := Op.extract (Operand.tmp 13) 0, type := 9, pos := "journal.go:84", after := #[{ on := 8, ground := Ground.data }], guard := none }) (v := ?_) 9 rfl ?_ ?_
        rotate_left
        · (intro w hSw; (try dsimp only at hSw); first | (go_simp; done) | (go_simp; with_reducible rfl))
        try simp only [Act.put, List.setIfInBounds_toArray, List.set_cons_zero, List.set_cons_succ]
        refine tk (oi := { dst := some 23, op := Op.extract (Operand.tmp 13) 1, type := 31, pos := "journal.go:84", after := #[{ on := 8, ground := Ground.data }, { on := 11, ground := Ground.gcOnly Departure.lateStores }], guard := none }) (v := ?_) 10 rfl ?_ ?_
        rotate_left
        · (intro w hSw; (try dsimp only at hSw); first | (go_simp; done) | (go_simp; with_reducible rfl))
        try simp only [Act.put, List.setIfInBounds_toArray, List.set_cons_zero, List.set_cons_succ]
        refine tk (oi := { dst := some 5, op := Op.assign (Operand.tmp 22), type := 9, pos := "journal.go:84", after := #[{ on := 9, ground := Ground.data }, { on := 7, ground := Ground.chain }, { on := 0, ground := Ground.phase }, { on := 1, ground := Ground.phase }, { on := 2, ground := Ground.phase }, { on := 3, ground := Ground.phase }, { on := 4, ground := Ground.phase }, { on := 5, ground := Ground.phase }, { on := 6, ground := Ground.phase }, { on := 7, ground := Ground.phase }, { on := 8, ground := Ground.phase }, { on := 9, ground := Ground.phase }, { on := 10, ground := Ground.textOnly Departure.lateStores }], guard := none }) (v := ?_) 11 rfl ?_ ?_
        rotate_left
        · (intro w hSw; (try dsimp only at hSw); first | (go_simp; done) | (go_simp; with_reducible rfl))
        try simp only [Act.put, List.setIfInBounds_toArray, List.set_cons_zero, List.set_cons_succ]
        refine tk (oi := { dst := some 6, op := Op.assign (Operand.tmp 23), type := 31, pos := "journal.go:84", after := #[{ on := 10, ground := Ground.data }, { on := 11, ground := Ground.chain }, { on := 0, ground := Ground.phase }, { on := 1, ground := Ground.phase }, { on := 2, ground := Ground.phase }, { on := 3, ground := Ground.phase }, { on := 4, ground := Ground.phase }, { on := 5, ground := Ground.phase }, { on := 6, ground := Ground.phase }, { on := 7, ground := Ground.phase }, { on := 8, ground := Ground.phase }, { on := 9, ground := Ground.phase }, { on := 10, ground := Ground.phase }, { on := 11, ground := Ground.phase }], guard := none }) (v := ?_) 12 rfl ?_ ?_
        rotate_left
        · (intro w hSw; (try dsimp only at hSw); first | (go_simp; done) | (go_simp; with_reducible rfl))
        try simp only [Act.put, List.setIfInBounds_toArray, List.set_cons_zero, List.set_cons_succ]
        refine wpAnyH_done (by kernel_rfl) ?_ _
        clear hemp
        go_wp2_with (fail)
        go_ret2
        exact ⟨n, by rw [HR.out]; rfl, by rw [HR.out]; exact ProgAt.to H.out.prog HB3.out, fun hc => by rw [HR.out]; exact HN.out⟩
      · have hlt : ((y.bytes.length : Int) < most) := by
          rcases Int.lt_or_le (y.bytes.length : Int) most with h | h
          · exact h
          · exact absurd ⟨hnb, h⟩ hfull
        have hemp := str_empty hnb
        have hemp2 : y.bytes.isEmpty = false := by cases hb : y.bytes with | nil => exact absurd hb hnb | cons _ _ => rfl
        clear hfull
        go_enter Tryz.func63, Tryz.ntmps63
        go_wp2_with (fail)
        refine (num_any n₀ w jb b p most M F H.out.prog H.out.ok H.out.j hp H.out.std0).mono ?_
        rintro e w1 ⟨rfl, hb1⟩
        rw [← HN.out]
        have HB1 := Lib.hid hb1
        have HX := Lib.hid (H.out.bel hb1)
        clear hb1
        go_wp2_with (fail)
        refine wp_region_held_drew (S := fun z => z.cell? ⟨jb, 0, none⟩ = some (.pointer (some ⟨b, 0, none⟩))) (by kernel_rfl) HX.out.j.files (fun hHeld => ?_)
        refine tk (oi := { dst := some 14, op := Op.move (Operand.tmp 0), type := 51, pos := "journal.go:84", after := #[], guard := none }) (v := ?_) 0 rfl ?_ ?_
        rotate_left
        · (intro w hSw; (try dsimp only at hSw); first | (go_simp; done) | (go_simp; with_reducible rfl))
        try simp only [Act.put, List.setIfInBounds_toArray, List.set_cons_zero, List.set_cons_succ]
        refine tk (oi := { dst := some 15, op := Op.nilCheck (Operand.tmp 14), type := 0, pos := "journal.go:84", after := #[{ on := 0, ground := Ground.data }], guard := none }) (v := ?_) 1 rfl ?_ ?_
        rotate_left
        · (intro w hSw; (try dsimp only at hSw); first | (go_simp; done) | (go_simp; with_reducible rfl))
        try simp only [Act.put, List.setIfInBounds_toArray, List.set_cons_zero, List.set_cons_succ]
        refine tk (oi := { dst := some 16, op := Op.fieldAddr 99 (Operand.tmp 15) 0, type := 0, pos := "journal.go:84", after := #[{ on := 1, ground := Ground.data }], guard := none }) (v := ?_) 2 rfl ?_ ?_
        rotate_left
        · (intro w hSw; (try dsimp only at hSw); first | (go_simp; done) | (go_simp; with_reducible rfl))
        try simp only [Act.put, List.setIfInBounds_toArray, List.set_cons_zero, List.set_cons_succ]
        refine tk (oi := { dst := some 17, op := Op.load 42 (Operand.tmp 16), type := 42, pos := "journal.go:84", after := #[{ on := 2, ground := Ground.data }], guard := none }) (v := ?_) 3 rfl ?_ ?_
        rotate_left
        · (intro w hSw; (try dsimp only at hSw); first | (go_simp; done) | (go_simp; with_reducible rfl))
        try simp only [Act.put, List.setIfInBounds_toArray, List.set_cons_zero, List.set_cons_succ]
        refine tk (oi := { dst := some 18, op := Op.move (Operand.tmp 0), type := 51, pos := "journal.go:84", after := #[], guard := none }) (v := ?_) 4 rfl ?_ ?_
        rotate_left
        · (intro w hSw; (try dsimp only at hSw); first | (go_simp; done) | (go_simp; with_reducible rfl))
        try simp only [Act.put, List.setIfInBounds_toArray, List.set_cons_zero, List.set_cons_succ]
        refine tk (oi := { dst := some 19, op := Op.move (Operand.tmp 4), type := 3, pos := "journal.go:84", after := #[], guard := none }) (v := ?_) 5 rfl ?_ ?_
        rotate_left
        · (intro w hSw; (try dsimp only at hSw); first | (go_simp; done) | (go_simp; with_reducible rfl))
        try simp only [Act.put, List.setIfInBounds_toArray, List.set_cons_zero, List.set_cons_succ]
        refine wpAnyH_ready (rs := [6]) (by kernel_rfl) (by simp) ?_
        refine AllReadyH.cons (o := { dst := some 20, op := Op.call { callee := Callee.value (Operand.func 64), args := #[Operand.tmp 18, Operand.tmp 19], argTypes := #[51, 3] }, type := 9, pos := "journal.go:84", after := #[{ on := 4, ground := Ground.data }, { on := 5, ground := Ground.data }], guard := none }) rfl (fun K hK => ?_) AllReadyH.nil
        go_simp
        refine (js_fileC (HX.out.bel (Bel.refl w1).drew) hp n (by omega)).mono ?_
        rintro e zf ⟨rfl, hbf⟩
        have HBf := Lib.hid ((Bel.refl w1).drew.trans hbf)
        have HXf := Lib.hid (HX.out.bel HBf.out)
        clear hbf
        dsimp only
        refine hK.out _ _ HXf.out.j.files (fun hHeld => ?_)
        clear hK K
        try simp only [Act.put, List.setIfInBounds_toArray, List.set_cons_zero, List.set_cons_succ]
        refine wpAnyH_ready (rs := [7]) (by kernel_rfl) (by simp) ?_
        refine AllReadyH.cons (o := { dst := some 21, op := Op.call { callee := Callee.value (Operand.func 40), args := #[Operand.tmp 17, Operand.tmp 20], argTypes := #[42, 9] }, type := 73, pos := "journal.go:84", after := #[{ on := 3, ground := Ground.data }, { on := 6, ground := Ground.data }, { on := 6, ground := Ground.chain }], guard := none }) rfl (fun K hK => ?_) AllReadyH.nil
        go_simp
        refine (pget_any n₀ zf b M F (⟨(fileN p.data.toList n).toArray⟩ : ByteArray) HXf.out.prog (by unfold maxLen; omega)).mono ?_
        rintro e w3 ⟨rfl, hb3⟩
        rw [str_list, HGS.out]
        have HB3 := Lib.hid (HB1.out.trans (HBf.out.trans hb3))
        have HX3 := Lib.hid (HXf.out.bel hb3)
        have cN := HX3.out.j.files
        clear hb3
        dsimp only
        refine hK.out _ _ cN (fun hHeld => ?_)
        clear hK K
        try simp only [Act.put, List.setIfInBounds_toArray, List.set_cons_zero, List.set_cons_succ]
        refine tk (oi := { dst := some 13, op := Op.move (Operand.tmp 21), type := 73, pos := "journal.go:84", after := #[{ on := 7, ground := Ground.data }], guard := none }) (v := ?_) 8 rfl ?_ ?_
        rotate_left
        · (intro w hSw; (try dsimp only at hSw); first | (go_simp; done) | (go_simp; with_reducible rfl))
        try simp only [Act.put, List.setIfInBounds_toArray, List.set_cons_zero, List.set_cons_succ]
        refine tk (oi := { dst := some 22, op := Op.extract (Operand.tmp 13) 0, type := 9, pos := "journal.go:84", after := #[{ on := 8, ground := Ground.data }], guard := none }) (v := ?_) 9 rfl ?_ ?_
        rotate_left
        · (intro w hSw; (try dsimp only at hSw); first | (go_simp; done) | (go_simp; with_reducible rfl))
        try simp only [Act.put, List.setIfInBounds_toArray, List.set_cons_zero, List.set_cons_succ]
        refine tk (oi := { dst := some 23, op := Op.extract (Operand.tmp 13) 1, type := 31, pos := "journal.go:84", after := #[{ on := 8, ground := Ground.data }, { on := 11, ground := Ground.gcOnly Departure.lateStores }], guard := none }) (v := ?_) 10 rfl ?_ ?_
        rotate_left
        · (intro w hSw; (try dsimp only at hSw); first | (go_simp; done) | (go_simp; with_reducible rfl))
        try simp only [Act.put, List.setIfInBounds_toArray, List.set_cons_zero, List.set_cons_succ]
        refine tk (oi := { dst := some 5, op := Op.assign (Operand.tmp 22), type := 9, pos := "journal.go:84", after := #[{ on := 9, ground := Ground.data }, { on := 7, ground := Ground.chain }, { on := 0, ground := Ground.phase }, { on := 1, ground := Ground.phase }, { on := 2, ground := Ground.phase }, { on := 3, ground := Ground.phase }, { on := 4, ground := Ground.phase }, { on := 5, ground := Ground.phase }, { on := 6, ground := Ground.phase }, { on := 7, ground := Ground.phase }, { on := 8, ground := Ground.phase }, { on := 9, ground := Ground.phase }, { on := 10, ground := Ground.textOnly Departure.lateStores }], guard := none }) (v := ?_) 11 rfl ?_ ?_
        rotate_left
        · (intro w hSw; (try dsimp only at hSw); first | (go_simp; done) | (go_simp; with_reducible rfl))
        try simp only [Act.put, List.setIfInBounds_toArray, List.set_cons_zero, List.set_cons_succ]
        refine tk (oi := { dst := some 6, op := Op.assign (Operand.tmp 23), type := 31, pos := "journal.go:84", after := #[{ on := 10, ground := Ground.data }, { on := 11, ground := Ground.chain }, { on := 0, ground := Ground.phase }, { on := 1, ground := Ground.phase }, { on := 2, ground := Ground.phase }, { on := 3, ground := Ground.phase }, { on := 4, ground := Ground.phase }, { on := 5, ground := Ground.phase }, { on := 6, ground := Ground.phase }, { on := 7, ground := Ground.phase }, { on := 8, ground := Ground.phase }, { on := 9, ground := Ground.phase }, { on := 10, ground := Ground.phase }, { on := 11, ground := Ground.phase }], guard := none }) (v := ?_) 12 rfl ?_ ?_
        rotate_left
        · (intro w hSw; (try dsimp only at hSw); first | (go_simp; done) | (go_simp; with_reducible rfl))
        try simp only [Act.put, List.setIfInBounds_toArray, List.set_cons_zero, List.set_cons_succ]
        refine wpAnyH_done (by kernel_rfl) ?_ _
        have c2 := HX3.out.j.most
        clear cN
        go_wp2_with (fail)
        go_ret2
        exact ⟨n, by rw [HR.out]; rfl, by rw [HR.out]; exact ProgAt.to H.out.prog HB3.out, fun hc => by rw [HR.out]; exact HN.out⟩

set_option maxHeartbeats 4000000 in
set_option maxRecDepth 20000 in
theorem write_any (n₀ : Nat) (w : World) (b : Nat) (M : RS) (F : List Nat) (jb : Nat) (p : ByteArray) (most : Int) (lp : Option Addr) (lc : Nat) (L : List (List UInt8)) (h : JS n₀ w b M F jb p most) (hp : p.size ≤ 100) (h0 : lastN p.data.toList M.L ≠ 0) (h9 : lastN p.data.toList M.L < 9999999) (hmost : in64 most)
    (hl : StrsAt w lp L) (hL : L.length ≤ maxLen) (ht : ∀ t ∈ L, t.length ≤ 1000000) :
    Calls Tryz.prog 23 #[.pointer (some ⟨jb, 0, none⟩), .slice lp L.length lc] w fun e y => e = .returned (.int .i64 (jwrite p.data.toList most L M).1) ∧ ProgTo n₀ w y b (jwrite p.data.toList most L M).2 F := by
  have H := Lib.hid h
  have HMS := Lib.hid hmost
  have HC := Lib.hid (batch_any w lp lc L hl hL ht)
  have HLL := Lib.hid hL
  have hbl := batch_len L
  have hpl : p.data.toList.length = p.size := rfl
  have HRO := Lib.hid (roomS_ok h.ok p.data.toList most)
  obtain ⟨s, e0, hB⟩ : ∃ s e0, batchS L = (s, e0) := ⟨_, _, rfl⟩
  have HBV := Lib.hid (show batchV L = .tuple #[.string ⟨s.toArray⟩, .int .i64 e0] by unfold batchV; rw [hB])
  rw [hB] at hbl
  simp only at hbl
  have hsz := str_len s
  obtain ⟨r, M1, hR⟩ : ∃ r M1, roomS p.data.toList most M = (r, M1) := ⟨_, _, rfl⟩
  have HR := Lib.hid hR
  rw [hR] at HRO
  have HRO1 := Lib.hid (show M1.ok from HRO.out)
  have HW := Lib.hid (show jwrite p.data.toList most L M = if e0 ≠ 0 then (e0, M) else if r ≠ 0 then (r, M1) else jput (fileN p.data.toList (lastN p.data.toList M1.L)) (frameL s) M1 by
    unfold jwrite
    rw [hB]
    unfold roomS at hR
    by_cases hg : M.gone = true
    · rw [if_pos hg] at hR ⊢
      simp only [Prod.mk.injEq] at hR
      obtain ⟨rfl, rfl⟩ := hR
      simp
    · rw [if_neg hg] at hR ⊢
      rw [hR])
  have H0 := Lib.hid h0
  have H9 := Lib.hid h9
  clear h hB hR hmost hl hL ht HRO h0 h9
  go_enter Tryz.func23, Tryz.ntmps23
  go_wp2_with (fail)
  refine HC.out.mono ?_
  rintro e w1 ⟨rfl, hb1⟩
  rw [HBV.out]
  have HB1 := Lib.hid hb1
  clear hb1
  by_cases he0 : e0 = 0
  · subst he0
    rw [if_neg (by simp)] at HW
    go_wp2_with (fail)
    refine (frame_ok ⟨s.toArray⟩ _ (by omega)).mono ?_
    rintro e w2 ⟨rfl, hb2⟩
    rw [frameV, str_list]
    have HB2 := Lib.hid (HB1.out.trans hb2)
    have HX2 := Lib.hid (H.out.bel HB2.out)
    clear hb2
    go_wp2_with (fail)
    refine (withroom_any n₀ w2 b M F jb p most HX2.out hp H0.out H9.out HMS.out).mono ?_
    rintro e w3 ⟨m, rfl, hT, hm⟩
    rw [HR.out] at hT hm ⊢
    by_cases hr : r = 0
    · subst hr
      rw [if_neg (by simp)] at HW
      have hmm : m = lastN p.data.toList M1.L := hm rfl
      have hm9 : m ≤ 9999999 := by rw [hmm]; exact last_le _ _
      have HMM := Lib.hid hmm
      obtain ⟨F3, hX3, hK3, hF3⟩ := HX2.out.step hT HRO1.out
      have HX := Lib.hid hX3
      have HK3 := Lib.hid ((Keep.of_bel HB2.out F).trans hK3 (fun x hx => Or.inl hx))
      have HF3 := Lib.hid (show ∀ k ∈ F3, k ∈ F ∨ w.heap.size ≤ k from fun k hk => (hF3 k hk).imp id (fun h => Nat.le_trans HB2.out.size h))
      clear hT hm hmm hX3 hK3 hF3
      have hfl := file_len p.data.toList (n := m) (by omega)
      have hfz := str_len (fileN p.data.toList m)
      have hfrz := str_len (frameL s)
      have hfrl := frame_len s
      have hszN := szN_le s.length
      obtain ⟨ra, M2, hA⟩ : ∃ ra M2, addS (fileN p.data.toList m) (frameL s) M1 = (ra, M2) := ⟨_, _, rfl⟩
      have HA := Lib.hid hA
      have HM2 := Lib.hid (show M2.ok by have := add_ok HRO1.out (fileN p.data.toList m) (frameL s); rwa [hA] at this)
      have HJP := Lib.hid (show jput (fileN p.data.toList (lastN p.data.toList M1.L)) (frameL s) M1 = if ra ≠ 0 then (ra, M2) else flushS (fileN p.data.toList m) M2 by
        unfold jput; rw [← HMM.out, HA.out])
      rw [HJP.out] at HW
      clear hA
      go_wp2_with (fail)
      refine wp_region_held_drew (S := fun z => z.cell? ⟨jb, 0, none⟩ = some (.pointer (some ⟨b, 0, none⟩))) (by kernel_rfl) HX.out.j.files (fun hHeld => ?_)
      refine tk (oi := { dst := some 34, op := Op.move (Operand.tmp 0), type := 51, pos := "journal.go:72", after := #[], guard := none }) (v := ?_) 0 rfl ?_ ?_
      rotate_left
      · (intro w hSw; (try dsimp only at hSw); first | (go_simp; done) | (go_simp; with_reducible rfl))
      try simp only [Act.put, List.setIfInBounds_toArray, List.set_cons_zero, List.set_cons_succ]
      refine tk (oi := { dst := some 35, op := Op.nilCheck (Operand.tmp 34), type := 0, pos := "journal.go:72", after := #[{ on := 0, ground := Ground.data }], guard := none }) (v := ?_) 1 rfl ?_ ?_
      rotate_left
      · (intro w hSw; (try dsimp only at hSw); first | (go_simp; done) | (go_simp; with_reducible rfl))
      try simp only [Act.put, List.setIfInBounds_toArray, List.set_cons_zero, List.set_cons_succ]
      refine tk (oi := { dst := some 36, op := Op.fieldAddr 99 (Operand.tmp 35) 0, type := 0, pos := "journal.go:72", after := #[{ on := 1, ground := Ground.data }], guard := none }) (v := ?_) 2 rfl ?_ ?_
      rotate_left
      · (intro w hSw; (try dsimp only at hSw); first | (go_simp; done) | (go_simp; with_reducible rfl))
      try simp only [Act.put, List.setIfInBounds_toArray, List.set_cons_zero, List.set_cons_succ]
      refine tk (oi := { dst := some 37, op := Op.load 42 (Operand.tmp 36), type := 42, pos := "journal.go:72", after := #[{ on := 2, ground := Ground.data }], guard := none }) (v := ?_) 3 rfl ?_ ?_
      rotate_left
      · (intro w hSw; (try dsimp only at hSw); first | (go_simp; done) | (go_simp; with_reducible rfl))
      try simp only [Act.put, List.setIfInBounds_toArray, List.set_cons_zero, List.set_cons_succ]
      refine tk (oi := { dst := some 38, op := Op.move (Operand.tmp 0), type := 51, pos := "journal.go:72", after := #[], guard := none }) (v := ?_) 4 rfl ?_ ?_
      rotate_left
      · (intro w hSw; (try dsimp only at hSw); first | (go_simp; done) | (go_simp; with_reducible rfl))
      try simp only [Act.put, List.setIfInBounds_toArray, List.set_cons_zero, List.set_cons_succ]
      refine tk (oi := { dst := some 39, op := Op.move (Operand.tmp 8), type := 3, pos := "journal.go:72", after := #[], guard := none }) (v := ?_) 5 rfl ?_ ?_
      rotate_left
      · (intro w hSw; (try dsimp only at hSw); first | (go_simp; done) | (go_simp; with_reducible rfl))
      try simp only [Act.put, List.setIfInBounds_toArray, List.set_cons_zero, List.set_cons_succ]
      refine tk (oi := { dst := some 41, op := Op.move (Operand.tmp 7), type := 9, pos := "journal.go:72", after := #[], guard := none }) (v := ?_) 7 rfl ?_ ?_
      rotate_left
      · (intro w hSw; (try dsimp only at hSw); first | (go_simp; done) | (go_simp; with_reducible rfl))
      try simp only [Act.put, List.setIfInBounds_toArray, List.set_cons_zero, List.set_cons_succ]
      refine wpAnyH_ready (rs := [6]) (by kernel_rfl) (by simp) ?_
      refine AllReadyH.cons (o := { dst := some 40, op := Op.call { callee := Callee.value (Operand.func 64), args := #[Operand.tmp 38, Operand.tmp 39], argTypes := #[51, 3] }, type := 9, pos := "journal.go:72", after := #[{ on := 4, ground := Ground.data }, { on := 5, ground := Ground.data }], guard := none }) rfl (fun K hK => ?_) AllReadyH.nil
      go_simp
      refine (js_fileC (HX.out.bel (Bel.refl w3).drew) hp m (by omega)).mono ?_
      rintro e zf ⟨rfl, hbf⟩
      have HBf := Lib.hid ((Bel.refl w3).drew.trans hbf)
      have HXf := Lib.hid (HX.out.bel HBf.out)
      clear hbf
      dsimp only
      refine hK.out _ _ HXf.out.j.files (fun hHeld => ?_)
      clear hK K
      try simp only [Act.put, List.setIfInBounds_toArray, List.set_cons_zero, List.set_cons_succ]
      refine wpAnyH_ready (rs := [8]) (by kernel_rfl) (by simp) ?_
      refine AllReadyH.cons (o := { dst := some 42, op := Op.call { callee := Callee.value (Operand.func 17), args := #[Operand.tmp 37, Operand.tmp 40, Operand.tmp 41], argTypes := #[42, 9, 9] }, type := 31, pos := "journal.go:72", after := #[{ on := 3, ground := Ground.data }, { on := 6, ground := Ground.data }, { on := 7, ground := Ground.data }, { on := 6, ground := Ground.chain }], guard := none }) rfl (fun K hK => ?_) AllReadyH.nil
      go_simp
      refine (padd_any n₀ zf b M1 F3 (⟨(fileN p.data.toList m).toArray⟩ : ByteArray) (⟨(frameL s).toArray⟩ : ByteArray) HXf.out.prog (by omega) (by omega) HRO1.out.srt (good_len HRO1.out) (good_bytes HRO1.out) HRO1.out.room).mono ?_
      rintro e w4 ⟨rfl, hT⟩
      rw [str_list, str_list, HA.out] at hT ⊢
      obtain ⟨F4, hX4, hK4, hF4⟩ := HXf.out.step hT HM2.out
      have HX4 := Lib.hid hX4
      have HK4 := Lib.hid ((HK3.out.then HBf.out).trans hK4 (fun x hx => HF3.out x hx))
      have HF4 := Lib.hid (show ∀ k ∈ F4, k ∈ F ∨ w.heap.size ≤ k from fun k hk => by
        rcases hF4 k hk with h | h
        · exact HF3.out k h
        · exact Or.inr (Nat.le_trans (HK3.out.then HBf.out).size h))
      have cN := HX4.out.j.files
      clear hT hX4 hK4 hF4
      dsimp only
      refine hK.out _ _ cN (fun hHeld => ?_)
      clear hK K
      try simp only [Act.put, List.setIfInBounds_toArray, List.set_cons_zero, List.set_cons_succ]
      refine tk (oi := { dst := some 9, op := Op.assign (Operand.tmp 42), type := 31, pos := "journal.go:72", after := #[{ on := 8, ground := Ground.data }, { on := 8, ground := Ground.chain }, { on := 0, ground := Ground.phase }, { on := 1, ground := Ground.phase }, { on := 2, ground := Ground.phase }, { on := 3, ground := Ground.phase }, { on := 4, ground := Ground.phase }, { on := 5, ground := Ground.phase }, { on := 6, ground := Ground.phase }, { on := 7, ground := Ground.phase }, { on := 8, ground := Ground.phase }], guard := none }) (v := ?_) 9 rfl ?_ ?_
      rotate_left
      · (intro w hSw; (try dsimp only at hSw); first | (go_simp; done) | (go_simp; with_reducible rfl))
      try simp only [Act.put, List.setIfInBounds_toArray, List.set_cons_zero, List.set_cons_succ]
      refine wpAnyH_done (by kernel_rfl) ?_ _
      by_cases hra : ra = 0
      · subst hra
        rw [if_neg (by simp)] at HW
        clear cN HX HXf HBf
        have HX := HX4
        go_wp2_with (fail)
        refine wp_region_held_drew (S := fun z => z.cell? ⟨jb, 0, none⟩ = some (.pointer (some ⟨b, 0, none⟩))) (by kernel_rfl) HX.out.j.files (fun hHeld => ?_)
        refine tk (oi := { dst := some 46, op := Op.move (Operand.tmp 0), type := 51, pos := "journal.go:75", after := #[], guard := none }) (v := ?_) 0 rfl ?_ ?_
        rotate_left
        · (intro w hSw; (try dsimp only at hSw); first | (go_simp; done) | (go_simp; with_reducible rfl))
        try simp only [Act.put, List.setIfInBounds_toArray, List.set_cons_zero, List.set_cons_succ]
        refine tk (oi := { dst := some 47, op := Op.nilCheck (Operand.tmp 46), type := 0, pos := "journal.go:75", after := #[{ on := 0, ground := Ground.data }], guard := none }) (v := ?_) 1 rfl ?_ ?_
        rotate_left
        · (intro w hSw; (try dsimp only at hSw); first | (go_simp; done) | (go_simp; with_reducible rfl))
        try simp only [Act.put, List.setIfInBounds_toArray, List.set_cons_zero, List.set_cons_succ]
        refine tk (oi := { dst := some 48, op := Op.fieldAddr 99 (Operand.tmp 47) 0, type := 0, pos := "journal.go:75", after := #[{ on := 1, ground := Ground.data }], guard := none }) (v := ?_) 2 rfl ?_ ?_
        rotate_left
        · (intro w hSw; (try dsimp only at hSw); first | (go_simp; done) | (go_simp; with_reducible rfl))
        try simp only [Act.put, List.setIfInBounds_toArray, List.set_cons_zero, List.set_cons_succ]
        refine tk (oi := { dst := some 49, op := Op.load 42 (Operand.tmp 48), type := 42, pos := "journal.go:75", after := #[{ on := 2, ground := Ground.data }], guard := none }) (v := ?_) 3 rfl ?_ ?_
        rotate_left
        · (intro w hSw; (try dsimp only at hSw); first | (go_simp; done) | (go_simp; with_reducible rfl))
        try simp only [Act.put, List.setIfInBounds_toArray, List.set_cons_zero, List.set_cons_succ]
        refine tk (oi := { dst := some 50, op := Op.move (Operand.tmp 0), type := 51, pos := "journal.go:75", after := #[], guard := none }) (v := ?_) 4 rfl ?_ ?_
        rotate_left
        · (intro w hSw; (try dsimp only at hSw); first | (go_simp; done) | (go_simp; with_reducible rfl))
        try simp only [Act.put, List.setIfInBounds_toArray, List.set_cons_zero, List.set_cons_succ]
        refine tk (oi := { dst := some 51, op := Op.move (Operand.tmp 8), type := 3, pos := "journal.go:75", after := #[], guard := none }) (v := ?_) 5 rfl ?_ ?_
        rotate_left
        · (intro w hSw; (try dsimp only at hSw); first | (go_simp; done) | (go_simp; with_reducible rfl))
        try simp only [Act.put, List.setIfInBounds_toArray, List.set_cons_zero, List.set_cons_succ]
        refine wpAnyH_ready (rs := [6]) (by kernel_rfl) (by simp) ?_
        refine AllReadyH.cons (o := { dst := some 52, op := Op.call { callee := Callee.value (Operand.func 64), args := #[Operand.tmp 50, Operand.tmp 51], argTypes := #[51, 3] }, type := 9, pos := "journal.go:75", after := #[{ on := 4, ground := Ground.data }, { on := 5, ground := Ground.data }], guard := none }) rfl (fun K hK => ?_) AllReadyH.nil
        go_simp
        refine (js_fileC (HX.out.bel (Bel.refl w4).drew) hp m (by omega)).mono ?_
        rintro e zf ⟨rfl, hbf⟩
        have HBf := Lib.hid ((Bel.refl w4).drew.trans hbf)
        have HXf := Lib.hid (HX.out.bel HBf.out)
        clear hbf
        dsimp only
        refine hK.out _ _ HXf.out.j.files (fun hHeld => ?_)
        clear hK K
        try simp only [Act.put, List.setIfInBounds_toArray, List.set_cons_zero, List.set_cons_succ]
        refine wpAnyH_ready (rs := [7]) (by kernel_rfl) (by simp) ?_
        refine AllReadyH.cons (o := { dst := some 53, op := Op.call { callee := Callee.value (Operand.func 65), args := #[Operand.tmp 49, Operand.tmp 52], argTypes := #[42, 9] }, type := 31, pos := "journal.go:75", after := #[{ on := 3, ground := Ground.data }, { on := 6, ground := Ground.data }, { on := 6, ground := Ground.chain }], guard := none }) rfl (fun K hK => ?_) AllReadyH.nil
        go_simp
        refine (pflush_any n₀ zf b M2 F4 (⟨(fileN p.data.toList m).toArray⟩ : ByteArray) HXf.out.prog (by unfold maxLen; omega) HM2.out.srt (good_len HM2.out)).mono ?_
        rintro e w5 ⟨rfl, hT⟩
        rw [str_list] at hT ⊢
        have HT5 := Lib.hid (to_then (HK4.out.then HBf.out) HF4.out hT)
        have cN : w5.cell? ⟨jb, 0, none⟩ = some (.pointer (some ⟨b, 0, none⟩)) := by
          obtain ⟨F5, _, q2, _⟩ := hT
          exact q2.cell HXf.out.j.files HXf.out.out
        clear hT
        dsimp only
        refine hK.out _ _ cN (fun hHeld => ?_)
        clear hK K
        try simp only [Act.put, List.setIfInBounds_toArray, List.set_cons_zero, List.set_cons_succ]
        refine tk (oi := { dst := some 4, op := Op.assign (Operand.tmp 53), type := 31, pos := "journal.go:75", after := #[{ on := 7, ground := Ground.data }, { on := 7, ground := Ground.chain }, { on := 0, ground := Ground.phase }, { on := 1, ground := Ground.phase }, { on := 2, ground := Ground.phase }, { on := 3, ground := Ground.phase }, { on := 4, ground := Ground.phase }, { on := 5, ground := Ground.phase }, { on := 6, ground := Ground.phase }, { on := 7, ground := Ground.phase }], guard := none }) (v := ?_) 8 rfl ?_ ?_
        rotate_left
        · (intro w hSw; (try dsimp only at hSw); first | (go_simp; done) | (go_simp; with_reducible rfl))
        try simp only [Act.put, List.setIfInBounds_toArray, List.set_cons_zero, List.set_cons_succ]
        refine wpAnyH_done (by kernel_rfl) ?_ _
        go_wp2_with (fail)
        go_ret
        exact ⟨by rw [HW.out]; rfl, by rw [HW.out]; exact HT5.out⟩
      · rw [if_pos hra] at HW
        have hx3 : (ra != 0) = true := by rw [bne_iff_ne]; exact hra
        have hx2 : (ra == 0) = false := by rw [beq_eq_false_iff_ne]; exact hra
        clear cN
        go_wp2_with (fail)
        go_ret
        exact ⟨by rw [HW.out]; rfl, by rw [HW.out]; exact ⟨F4, HX4.out.prog, HK4.out, HF4.out⟩⟩
    · rw [if_pos hr] at HW
      have HT := Lib.hid (hT.before HB2.out)
      have hx3 : (r != 0) = true := by rw [bne_iff_ne]; exact hr
      have hx2 : (r == 0) = false := by rw [beq_eq_false_iff_ne]; exact hr
      clear hT hm
      go_wp2_with (fail)
      go_ret
      exact ⟨by rw [HW.out]; rfl, by rw [HW.out]; exact HT.out⟩
  · rw [if_pos he0] at HW
    have hx3 : (e0 != 0) = true := by rw [bne_iff_ne]; exact he0
    have hx2 : (e0 == 0) = false := by rw [beq_eq_false_iff_ne]; exact he0
    go_wp2_with (fail)
    go_ret
    exact ⟨by rw [HW.out]; rfl, by rw [HW.out]; exact ProgAt.to H.out.prog HB1.out⟩
end Go.Proofs.YtlmlcnbgdaiaeaaGreatDoor
/- journal's Trim. -/
namespace Go.Proofs.YtlmlcnbgdaiaeaaGreatDoor
open Go.RowKit Go.Deep Go.Maps

theorem trim_stop (p : List UInt8) (before : Int) {n : Nat} {r : List Nat} {M : RS} (h : ¬ (n : Int) < before) : trimL p before (n :: r) M = (0, M) := by
  cases r with
  | nil => rfl
  | cons m r => simp only [trimL]; rw [if_neg h]
theorem trim_one (p : List UInt8) (before : Int) {n : Nat} {M : RS} : trimL p before [n] M = (0, M) := rfl
theorem trim_step (p : List UInt8) (before : Int) {n : Nat} {r : List Nat} {M : RS} (hr : r ≠ []) (h : (n : Int) < before) : trimL p before (n :: r) M = if (dropS (fileN p n) M).1 = 0 then trimL p before r (dropS (fileN p n) M).2 else dropS (fileN p n) M := by
  cases r with
  | nil => exact absurd rfl hr
  | cons m r => simp only [trimL]; rw [if_pos h]
def TrRel (n₀ : Nat) (w1 : World) (b : Nat) (F : List Nat) (jb : Nat) (p : ByteArray) (most before : Int) (l : List Nat) (sv : Value) (M : RS) (iv : Value) (x : World) : Prop :=
  ∃ (i : Nat) (Mi : RS) (Fi : List Nat), iv = .int .i64 i ∧ i ≤ l.length ∧ JS n₀ x b Mi Fi jb p most ∧ Keep F w1 x ∧ (∀ k ∈ Fi, k ∈ F ∨ w1.heap.size ≤ k) ∧ OwnG intEl 0 x sv (l.map fun n : Nat => (n : Int)) ∧ trimL p.data.toList before l M = trimL p.data.toList before (l.drop i) Mi
set_option maxHeartbeats 4000000 in
set_option maxRecDepth 20000 in
theorem trim_any (n₀ : Nat) (w : World) (b : Nat) (M : RS) (F : List Nat) (jb : Nat) (p : ByteArray) (most before : Int) (h : JS n₀ w b M F jb p most) (hp : p.size ≤ 100) (hbefore : in64 before) :
    Calls Tryz.prog 27 #[.pointer (some ⟨jb, 0, none⟩), .int .i64 before] w fun e y => e = .returned (.int .i64 (jtrim p.data.toList before M).1) ∧ ProgTo n₀ w y b (jtrim p.data.toList before M).2 F := by
  have H := Lib.hid h
  have HBF := Lib.hid hbefore
  have HFL := Lib.hid (prog_lt h.prog)
  have HC := Lib.hid (segs_any n₀ w jb b p most M F h.prog h.ok h.j hp h.std0)
  have hsl := segs_len p.data.toList M.L
  have h60 := h.ok.len
  have hpl : p.data.toList.length = p.size := rfl
  unfold jtrim
  obtain ⟨l, hl⟩ : ∃ l, l = segsL p.data.toList M.L := ⟨_, rfl⟩
  have HL9 := Lib.hid (show ∀ n ∈ l, n ≤ 9999999 from fun n hn => by rw [hl] at hn; exact (mem_segs_file.1 hn).2.1)
  rw [← hl] at HC hsl ⊢
  clear h hl hbefore
  go_enter Tryz.func27, Tryz.ntmps27
  go_wp2_with (fail)
  refine HC.out.mono ?_
  rintro e w1 ⟨v, rfl, hown, hb1⟩
  have HV := Lib.hid hown
  have HB1 := Lib.hid hb1
  obtain ⟨sp, sc, hv⟩ := ownG_len hown
  rw [List.length_map] at hv
  subst hv
  have HVB := Lib.hid hown.lt
  clear hown hb1
  go_wp2_with (fail)
  go_loopw [13] (fun iv x => TrRel n₀ w1 b F jb p most before l (.slice sp l.length sc) M iv x) (fun iv _ => l.length - (intOf iv).toNat)
  case atStart => exact ⟨0, M, F, rfl, Nat.zero_le _, H.out.bel HB1.out, Keep.refl _ _, fun k hk => Or.inl hk, HV.out.low (Nat.zero_le _), by rw [List.drop_zero]⟩
  case round =>
    obtain ⟨i, Mi, Fi, rfl, hi, hx, hk, hfi, ho, htr⟩ := hrel
    have HX := Lib.hid hx
    have HKi := Lib.hid hk
    have HFi := Lib.hid hfi
    have HO := Lib.hid ho
    have HTR := Lib.hid htr
    clear hx hk hfi ho htr
    by_cases hlt : i < l.length
    · obtain ⟨g, cap, hv, hcap, _, e0⟩ := int_at HO.out i hlt
      simp only [Value.slice.injEq, true_and] at hv
      obtain ⟨rfl, rfl⟩ := hv
      have hn9 := HL9.out l[i] (List.getElem_mem hlt)
      have HDR := Lib.hid (show l.drop i = l[i] :: l.drop (i + 1) from List.drop_eq_getElem_cons hlt)
      obtain ⟨n, hn⟩ : ∃ n, n = l[i] := ⟨_, rfl⟩
      rw [← hn] at e0 hn9 HDR
      clear hn
      by_cases hnb : (n : Int) < before
      · by_cases hil : i + 1 = l.length
        · have hq : ((i : Int) == (l.length : Int) - 1) = true := by rw [beq_iff_eq]; omega
          have HE := Lib.hid (show trimL p.data.toList before l M = (0, Mi) by
            rw [HTR.out, HDR.out, show l.drop (i + 1) = [] from List.drop_eq_nil_of_le (by omega)]; exact trim_one _ _)
          clear hil
          go_wp2_with (fail)
          go_ret
          exact ⟨by rw [HE.out]; rfl, by rw [HE.out]; exact ⟨Fi, HX.out.prog, (Keep.of_bel HB1.out F).trans HKi.out (fun x hx => Or.inl hx), fun k hk => (HFi.out k hk).imp id (fun h => Nat.le_trans HB1.out.size h)⟩⟩
        · have hq : ((i : Int) == (l.length : Int) - 1) = false := by rw [beq_eq_false_iff_ne]; omega
          have HE := Lib.hid (show trimL p.data.toList before l M = if (dropS (fileN p.data.toList n) Mi).1 = 0 then trimL p.data.toList before (l.drop (i + 1)) (dropS (fileN p.data.toList n) Mi).2 else dropS (fileN p.data.toList n) Mi by
            rw [HTR.out, HDR.out]
            exact trim_step _ _ (by intro e; have := congrArg List.length e; rw [List.length_drop, List.length_nil] at this; omega) hnb)
          obtain ⟨rd, Md, hD⟩ : ∃ rd Md, dropS (fileN p.data.toList n) Mi = (rd, Md) := ⟨_, _, rfl⟩
          have HD := Lib.hid hD
          have HMd := Lib.hid (show Md.ok by have := drop_ok HX.out.ok (fileN p.data.toList n); rwa [hD] at this)
          rw [hD] at HE
          have hfl := file_len p.data.toList (n := n) (by omega)
          have hfz := str_len (fileN p.data.toList n)
          have hgw : g < w1.heap.size ∧ w.heap.size ≤ g := ⟨(HVB.out g rfl).2, (HVB.out g rfl).1⟩
          have hgF : g ∉ Fi := fun hm => by
            rcases HFi.out g hm with h | h
            · have := HFL.out g h; omega
            · omega
          clear hD hil
          obtain ⟨x0, hx0⟩ : ∃ x0, x0 = Mi := ⟨_, rfl⟩
          clear hx0 x0
          go_wp2_with (fail)
          refine wp_region_held_drew (S := fun z => z.cell? ⟨jb, 0, none⟩ = some (.pointer (some ⟨b, 0, none⟩))) (by kernel_rfl) HX.out.j.files (fun hHeld => ?_)
          refine tk (oi := { dst := some 28, op := Op.move (Operand.tmp 0), type := 51, pos := "journal.go:163", after := #[], guard := none }) (v := ?_) 0 rfl ?_ ?_
          rotate_left
          · (intro w hSw; (try dsimp only at hSw); first | (go_simp; done) | (go_simp; with_reducible rfl))
          try simp only [Act.put, List.setIfInBounds_toArray, List.set_cons_zero, List.set_cons_succ]
          refine tk (oi := { dst := some 29, op := Op.nilCheck (Operand.tmp 28), type := 0, pos := "journal.go:163", after := #[{ on := 0, ground := Ground.data }], guard := none }) (v := ?_) 1 rfl ?_ ?_
          rotate_left
          · (intro w hSw; (try dsimp only at hSw); first | (go_simp; done) | (go_simp; with_reducible rfl))
          try simp only [Act.put, List.setIfInBounds_toArray, List.set_cons_zero, List.set_cons_succ]
          refine tk (oi := { dst := some 30, op := Op.fieldAddr 99 (Operand.tmp 29) 0, type := 0, pos := "journal.go:163", after := #[{ on := 1, ground := Ground.data }], guard := none }) (v := ?_) 2 rfl ?_ ?_
          rotate_left
          · (intro w hSw; (try dsimp only at hSw); first | (go_simp; done) | (go_simp; with_reducible rfl))
          try simp only [Act.put, List.setIfInBounds_toArray, List.set_cons_zero, List.set_cons_succ]
          refine tk (oi := { dst := some 31, op := Op.load 42 (Operand.tmp 30), type := 42, pos := "journal.go:163", after := #[{ on := 2, ground := Ground.data }], guard := none }) (v := ?_) 3 rfl ?_ ?_
          rotate_left
          · (intro w hSw; (try dsimp only at hSw); first | (go_simp; done) | (go_simp; with_reducible rfl))
          try simp only [Act.put, List.setIfInBounds_toArray, List.set_cons_zero, List.set_cons_succ]
          refine tk (oi := { dst := some 32, op := Op.move (Operand.tmp 0), type := 51, pos := "journal.go:163", after := #[], guard := none }) (v := ?_) 4 rfl ?_ ?_
          rotate_left
          · (intro w hSw; (try dsimp only at hSw); first | (go_simp; done) | (go_simp; with_reducible rfl))
          try simp only [Act.put, List.setIfInBounds_toArray, List.set_cons_zero, List.set_cons_succ]
          refine tk (oi := { dst := some 33, op := Op.move (Operand.tmp 7), type := 3, pos := "journal.go:163", after := #[], guard := none }) (v := ?_) 5 rfl ?_ ?_
          rotate_left
          · (intro w hSw; (try dsimp only at hSw); first | (go_simp; done) | (go_simp; with_reducible rfl))
          try simp only [Act.put, List.setIfInBounds_toArray, List.set_cons_zero, List.set_cons_succ]
          refine wpAnyH_ready (rs := [6]) (by kernel_rfl) (by simp) ?_
          refine AllReadyH.cons (o := { dst := some 34, op := Op.call { callee := Callee.value (Operand.func 64), args := #[Operand.tmp 32, Operand.tmp 33], argTypes := #[51, 3] }, type := 9, pos := "journal.go:163", after := #[{ on := 4, ground := Ground.data }, { on := 5, ground := Ground.data }], guard := none }) rfl (fun K hK => ?_) AllReadyH.nil
          go_simp
          refine (js_fileC (HX.out.bel (Bel.refl _).drew) hp n (by omega)).mono ?_
          rintro e zf ⟨rfl, hbf⟩
          have HBf := Lib.hid ((Bel.refl _).drew.trans hbf)
          have HXf := Lib.hid (HX.out.bel HBf.out)
          clear hbf
          dsimp only
          refine hK.out _ _ HXf.out.j.files (fun hHeld => ?_)
          clear hK K
          try simp only [Act.put, List.setIfInBounds_toArray, List.set_cons_zero, List.set_cons_succ]
          refine wpAnyH_ready (rs := [7]) (by kernel_rfl) (by simp) ?_
          refine AllReadyH.cons (o := { dst := some 35, op := Op.call { callee := Callee.value (Operand.func 69), args := #[Operand.tmp 31, Operand.tmp 34], argTypes := #[42, 9] }, type := 31, pos := "journal.go:163", after := #[{ on := 3, ground := Ground.data }, { on := 6, ground := Ground.data }, { on := 6, ground := Ground.chain }], guard := none }) rfl (fun K hK => ?_) AllReadyH.nil
          go_simp
          refine (pdrop_any n₀ zf b Mi Fi (⟨(fileN p.data.toList n).toArray⟩ : ByteArray) HXf.out.prog (by unfold maxLen; omega) HX.out.ok.srt (good_len HX.out.ok)).mono ?_
          rintro e w4 ⟨rfl, hT⟩
          rw [str_list, HD.out] at hT ⊢
          obtain ⟨F4, hX4, hK4, hF4⟩ := HXf.out.step hT HMd.out
          have HX4 := Lib.hid hX4
          have HK4 := Lib.hid ((HKi.out.then HBf.out).trans hK4 (fun x hx => HFi.out x hx))
          have HF4 := Lib.hid (show ∀ k ∈ F4, k ∈ F ∨ w1.heap.size ≤ k from fun k hk => by
            rcases hF4 k hk with h | h
            · exact HFi.out k h
            · exact Or.inr (Nat.le_trans (HKi.out.then HBf.out).size h))
          have HO4 := Lib.hid ((HO.out.bel HBf.out).keep hK4 (fun j hj => by simp only [Value.ownBlock, Option.some.injEq] at hj; subst hj; exact hgF))
          have cN := HX4.out.j.files
          clear hT hX4 hK4 hF4
          dsimp only
          refine hK.out _ _ cN (fun hHeld => ?_)
          clear hK K
          try simp only [Act.put, List.setIfInBounds_toArray, List.set_cons_zero, List.set_cons_succ]
          refine tk (oi := { dst := some 8, op := Op.assign (Operand.tmp 35), type := 31, pos := "journal.go:163", after := #[{ on := 7, ground := Ground.data }, { on := 7, ground := Ground.chain }, { on := 0, ground := Ground.phase }, { on := 1, ground := Ground.phase }, { on := 2, ground := Ground.phase }, { on := 3, ground := Ground.phase }, { on := 4, ground := Ground.phase }, { on := 5, ground := Ground.phase }, { on := 6, ground := Ground.phase }, { on := 7, ground := Ground.phase }], guard := none }) (v := ?_) 8 rfl ?_ ?_
          rotate_left
          · (intro w hSw; (try dsimp only at hSw); first | (go_simp; done) | (go_simp; with_reducible rfl))
          try simp only [Act.put, List.setIfInBounds_toArray, List.set_cons_zero, List.set_cons_succ]
          refine wpAnyH_done (by kernel_rfl) ?_ _
          by_cases hrd : rd = 0
          · subst hrd
            rw [if_pos rfl] at HE
            clear cN
            go_wp2_with (fail)
            go_roundw
            case rel => exact ⟨i + 1, Md, F4, by go_num, by omega, HX4.out, HK4.out, HF4.out, HO4.out, HE.out⟩
            case measure => simp [intOf]; omega
          · rw [if_neg hrd] at HE
            have hx3 : (rd != 0) = true := by rw [bne_iff_ne]; exact hrd
            have hx2 : (rd == 0) = false := by rw [beq_eq_false_iff_ne]; exact hrd
            clear cN
            go_wp2_with (fail)
            go_ret
            exact ⟨by rw [HE.out]; rfl, by rw [HE.out]; exact ⟨F4, HX4.out.prog, (Keep.of_bel HB1.out F).trans HK4.out (fun x hx => Or.inl hx), fun k hk => (HF4.out k hk).imp id (fun h => Nat.le_trans HB1.out.size h)⟩⟩
      · have HE := Lib.hid (show trimL p.data.toList before l M = (0, Mi) by rw [HTR.out, HDR.out]; exact trim_stop _ _ hnb)
        have hge : before ≤ (n : Int) := by omega
        go_wp2_with (fail)
        go_ret
        exact ⟨by rw [HE.out]; rfl, by rw [HE.out]; exact ⟨Fi, HX.out.prog, (Keep.of_bel HB1.out F).trans HKi.out (fun x hx => Or.inl hx), fun k hk => (HFi.out k hk).imp id (fun h => Nat.le_trans HB1.out.size h)⟩⟩
    · obtain rfl : i = l.length := by omega
      have HE := Lib.hid (show trimL p.data.toList before l M = (0, Mi) by rw [HTR.out, List.drop_length]; rfl)
      go_wp2_with (fail)
      go_ret
      exact ⟨by rw [HE.out]; rfl, by rw [HE.out]; exact ⟨Fi, HX.out.prog, (Keep.of_bel HB1.out F).trans HKi.out (fun x hx => Or.inl hx), fun k hk => (HFi.out k hk).imp id (fun h => Nat.le_trans HB1.out.size h)⟩⟩
end Go.Proofs.YtlmlcnbgdaiaeaaGreatDoor
/- moultref7's Trim. -/
namespace Go.Proofs.YtlmlcnbgdaiaeaaGreatDoor
open Go.RowKit Go.Deep Go.Maps

theorem rj_fileC {n₀ : Nat} {z : World} {b jb : Nat} {M : RS} {F : List Nat} {p : ByteArray} {most : Int} (h : RJS n₀ z b M F jb p most) (hp : p.size ≤ 100) (n : Nat) (hn : n ≤ 10000000) :
    Calls Tryz.prog 57 #[.pointer (some ⟨jb, 0, none⟩), .int .i64 n] z fun e y => e = .returned (.string ⟨(fileN p.data.toList n).toArray⟩) ∧ Bel z y := rfile_any z jb b p most n h.j hp hn
theorem ref_lt {n₀ : Nat} {w : World} {b : Nat} {M : RS} {F : List Nat} (h : RefP n₀ w b M F) : ∀ k ∈ F, k < w.heap.size := by
  obtain ⟨v, _, _, _, h⟩ := h
  exact fun k hk => (h k hk).2
end Go.Proofs.YtlmlcnbgdaiaeaaGreatDoor
/- journal's Open. -/
namespace Go.Proofs.YtlmlcnbgdaiaeaaGreatDoor
open Go.RowKit Go.Deep Go.Maps

theorem chg_room (M : RS) (L' : List FI) : (chgS M L').2.room = M.room := by
  unfold chgS
  split
  · exact turn_room M
  · exact turn_room M
theorem add_room (M : RS) (nm t : List UInt8) : (addS nm t M).2.room = M.room := by
  unfold addS; split; exact chg_room M _; rfl
theorem room_sizes {M : RS} (h : M.ok) (hr : M.room ≤ 1000000) : ∀ y ∈ M.L, y.bytes.length ≤ 1000000 := fun y hy => by
  have h1 := bytes_mem hy
  have h2 := h.fits
  omega
def OpPost (n₀ : Nat) (w : World) (b : Nat) (F : List Nat) (nm : ByteArray) (most : Int) (M' : RS) (L : List (List (List UInt8))) (err : Int) (e : Ending) (y : World) : Prop :=
  ∃ jv v F', e = .returned (.tuple #[jv, v, .int .i64 err]) ∧ ProgAt n₀ y b M' F' ∧ Keep F w y ∧ (∀ k ∈ F', k ∈ F ∨ w.heap.size ≤ k) ∧ OwnQ w y F' v L ∧
    (err = 0 → ∃ jb, jv = .pointer (some ⟨jb, 0, none⟩) ∧ JAt y jb b nm most ∧ Qb w y F' jb) ∧ (err ≠ 0 → jv = .pointer none)
theorem open_new {p : List UInt8} {M : RS} (hM : M.ok) (h0 : segsL p M.L = []) (ht : (jturn p M).1 = 0) : segsL p (jturn p M).2.L = [1] ∧ (jturn p M).2.gone = false ∧ readSegs p [1] (jturn p M).2 = (0, [], (jturn p M).2) := by
  have hl : lastN p M.L = 0 := last_zero.2 h0
  obtain ⟨h1, -, h3, h4, -⟩ := (jturn_segs hM (by omega)).1 ht
  rw [hl, h0] at h1
  rw [hl] at h4
  refine ⟨h1, h3, ?_⟩
  have hb : bytesOf (fileN p 1) (jturn p M).2 = [] := bytesOf_get h4
  simp only [readSegs, hb, read_nil]
  simp
set_option maxHeartbeats 4000000 in
theorem open_rest (n₀ : Nat) (w x : World) (b : Nat) (M : RS) (F F0 : List Nat) (jb : Nat) (nm : ByteArray) (most : Int) (h : JS n₀ x b M F jb nm most) (hg : M.gone = false) (hnm : nm.size ≤ 100) (hr : M.room ≤ 1000000) :
    Calls Tryz.prog 55 #[.pointer (some ⟨jb, 0, none⟩)] x fun e y => ∃ p cap, e = .returned (.slice p (segsL nm.data.toList M.L).length cap) ∧ StrsAt y p ((segsL nm.data.toList M.L).map (fileN nm.data.toList)) ∧ Bel x y := by
  refine (jnames_any n₀ x jb b nm most M F h.prog h.ok h.j hnm h.std0).mono ?_
  rintro e y ⟨v, rfl, ho, hb⟩
  obtain ⟨p, cap, rfl, hat⟩ := ownG_strs ho
  exact ⟨p, cap, by rw [List.length_map], hat, hb⟩
set_option maxHeartbeats 4000000 in
theorem open_any (n₀ : Nat) (w : World) (b : Nat) (M : RS) (F : List Nat) (nm : ByteArray) (most : Int) (h : ProgAt n₀ w b M F) (hM : M.ok) (hstd : ∀ z, Keep F w z → Std z) (hnm : nm.size ≤ 100) (hr : M.room ≤ 1000000) :
    Calls Tryz.prog 19 #[.pointer (some ⟨b, 0, none⟩), .string nm, .int .i64 most] w (OpPost n₀ w b F nm most (jopen nm.data.toList M).2.2 (jopen nm.data.toList M).2.1 (jopen nm.data.toList M).1) := by
  have HP := Lib.hid h
  have HM := Lib.hid hM
  have HS := Lib.hid hstd
  have HFL := Lib.hid (prog_lt h)
  have HR := Lib.hid hr
  clear h hM hstd hr
  cases hN : nameJ nm.data.toList with
  | false =>
    have HO := Lib.hid (show jopen nm.data.toList M = (3, [], M) by unfold jopen; rw [if_pos hN])
    have HNJ := Lib.hid hN; clear hN
    go_enter Tryz.func19, Tryz.ntmps19
    go_wp2_with (fail)
    refine (jisname_any nm w (by unfold maxLen; omega)).mono ?_
    rintro e w1 ⟨rfl, hd1⟩
    rw [HNJ.out]
    have HB1 := Lib.hid hd1.bel; clear hd1
    go_wp2_with (fail)
    go_ret3
    rw [HO.out]
    exact ⟨_, _, F, rfl, HP.out.bel HB1.out, Keep.of_bel HB1.out F, fun k hk => Or.inl hk, OwnQ.nil _ _ _, (fun hc => absurd hc (by simp)), (fun _ => rfl)⟩
  | true =>
    have HNJ := Lib.hid hN
    cases hg : M.gone with
    | true =>
      have HO := Lib.hid (show jopen nm.data.toList M = (7, [], M) by unfold jopen; rw [if_neg (by rw [hN]; simp), if_pos hg])
      clear hN
      go_enter Tryz.func19, Tryz.ntmps19
      go_wp2_with (fail)
      refine (jisname_any nm w (by unfold maxLen; omega)).mono ?_
      rintro e w1 ⟨rfl, hd1⟩
      rw [HNJ.out]
      have HB1 := Lib.hid hd1.bel; clear hd1
      go_wp2_with (fail)
      refine (dead_any n₀ _ b M F (HP.out.bel HB1.out)).mono ?_
      rintro e w2 ⟨rfl, hd2⟩
      rw [hg]
      have HB2 := Lib.hid (HB1.out.trans hd2.bel); clear hd2
      go_wp2_with (fail)
      go_ret3
      rw [HO.out]
      exact ⟨_, _, F, rfl, HP.out.bel HB2.out, Keep.of_bel HB2.out F, fun k hk => Or.inl hk, OwnQ.nil _ _ _, (fun hc => absurd hc (by simp)), (fun _ => rfl)⟩
    | false =>
      have HO := Lib.hid (show jopen nm.data.toList M = if segsL nm.data.toList M.L = [] then ((jturn nm.data.toList M).1, [], (jturn nm.data.toList M).2) else readSegs nm.data.toList (segsL nm.data.toList M.L) M by
        unfold jopen; rw [if_neg (by rw [hN]; simp), if_neg (by rw [hg]; simp)])
      clear hN
      have HG := Lib.hid hg; clear hg
      go_enter Tryz.func19, Tryz.ntmps19
      go_wp2_with (fail)
      refine (jisname_any nm w (by unfold maxLen; omega)).mono ?_
      rintro e w1 ⟨rfl, hd1⟩
      rw [HNJ.out]
      have HB1 := Lib.hid hd1.bel; clear hd1
      go_wp2_with (fail)
      refine (dead_any n₀ _ b M F (HP.out.bel HB1.out)).mono ?_
      rintro e w2 ⟨rfl, hd2⟩
      rw [HG.out]
      have HB2 := Lib.hid (HB1.out.trans hd2.bel); clear hd2
      go_wp2_with (fail)
      obtain ⟨jb, hjb⟩ : ∃ jb, jb = w2.heap.size := ⟨_, rfl⟩
      have HJB := Lib.hid hjb
      obtain ⟨x0, hx0⟩ : ∃ x0, x0 = w2.alloc (.cells #[.pointer (some ⟨b, 0, none⟩), .string nm, .int .i64 most] 99) := ⟨_, rfl⟩
      have HBX := Lib.hid (show Bel w x0 by rw [hx0]; exact HB2.out.alloc _)
      have HX := Lib.hid (show JS n₀ x0 b M F jb nm most from
        ⟨HP.out.bel HBX.out, HM.out, by rw [hjb, hx0]; exact ⟨by go_simp, by go_simp, by go_simp⟩, fun hm => by have h1 := HFL.out jb hm; have h2 := HB2.out.size; omega, fun z hz => HS.out z ((Keep.of_bel HBX.out F).trans hz (fun k hk => Or.inl hk))⟩)
      have HJW := Lib.hid (show w.heap.size ≤ jb by rw [hjb]; exact HB2.out.size)
      rw [← hjb, ← hx0]
      clear hx0 hjb HJB
      refine (num_any n₀ x0 jb b nm most M F HX.out.prog HX.out.ok HX.out.j hnm HX.out.std0).mono ?_
      rintro e x4 ⟨rfl, hb4⟩
      have HX4 := Lib.hid (HX.out.bel hb4)
      have HB4 := Lib.hid (HBX.out.trans hb4)
      clear hb4
      by_cases hs0 : segsL nm.data.toList M.L = []
      · have hl0 : lastN nm.data.toList M.L = 0 := last_zero.2 hs0
        rw [if_pos hs0] at HO
        rw [hl0]
        go_wp2_with (fail)
        refine (jturn_any n₀ x4 b M F jb nm most HX4.out hnm (by rw [hl0]; omega)).mono ?_
        rintro e x5 ⟨rfl, hT⟩
        obtain ⟨rt, M1, ht⟩ : ∃ rt M1, jturn nm.data.toList M = (rt, M1) := ⟨_, _, rfl⟩
        have HON := Lib.hid (open_new HM.out hs0)
        have HM1 := Lib.hid (show M1.ok by have := jturn_ok HM.out nm.data.toList; rwa [ht] at this)
        have HR1 := Lib.hid (show M1.room ≤ 1000000 by have := add_room M (fileN nm.data.toList (lastN nm.data.toList M.L + 1)) []; rw [show addS (fileN nm.data.toList (lastN nm.data.toList M.L + 1)) [] M = (rt, M1) from ht] at this; simp only at this; rw [this]; exact HR.out)
        rw [ht] at hT HON HO ⊢
        clear ht
        obtain ⟨F5, hX5, hK5, hF5⟩ := HX4.out.step hT HM1.out
        have HX5 := Lib.hid hX5
        have HK5 := Lib.hid (show Keep F w x5 from (Keep.of_bel HB4.out F).trans hK5 (fun k hk => Or.inl hk))
        have HF5 := Lib.hid (show ∀ k ∈ F5, k ∈ F ∨ w.heap.size ≤ k from fun k hk => (hF5 k hk).imp id (fun h => Nat.le_trans HB4.out.size h))
        clear hT hX5 hK5 hF5
        by_cases hrt : rt = 0
        · subst hrt
          obtain ⟨hs1, hg1, hrd1⟩ := HON.out rfl
          have HG1 := Lib.hid hg1
          have HRD1 := Lib.hid (show readSegs nm.data.toList (segsL nm.data.toList M1.L) M1 = (0, [], M1) by rw [hs1]; exact hrd1)
          clear hs1 hg1 hrd1
          go_wp2_with (fail)
          refine (open_rest n₀ w _ b M1 F5 F5 jb nm most HX5.out HG1.out hnm HR1.out).mono ?_
          rintro e x1 ⟨sp, sc, rfl, hat, hbn⟩
          have HSA := Lib.hid hat
          have HY1 := Lib.hid (HX5.out.bel hbn)
          have HBN := Lib.hid hbn
          clear hat hbn
          have hsl := segs_len nm.data.toList M1.L
          have h60 := HX5.out.ok.len
          have hml : ((segsL nm.data.toList M1.L).map (fileN nm.data.toList)).length = (segsL nm.data.toList M1.L).length := List.length_map _
          have HSO := Lib.hid (segof_any x1 sp sc ((segsL nm.data.toList M1.L).map (fileN nm.data.toList)) HSA.out (by omega))
          rw [hml] at HSO
          have HRS := Lib.hid (fun (z : World) (sv : Value) (hp : ProgAt n₀ z b M1 F5) (hs : OwnG segEl 0 z sv (segF ((segsL nm.data.toList M1.L).map (fileN nm.data.toList)))) (hq : ∀ k, sv.ownBlock = some k → k < z.heap.size ∧ k ∉ F5) =>
            readall_any n₀ z b M1 F5 nm.data.toList (segsL nm.data.toList M1.L) sv hp HX5.out.ok HG1.out hnm (fun n hn => ⟨(mem_segs_file.1 hn).2.1, Option.isSome_iff_exists.1 ((mem_segs_get HX5.out.ok.srt).1 hn).2.2⟩) (by omega) (room_sizes HX5.out.ok HR1.out) hs hq)
          obtain ⟨er, LL, MF, hread⟩ : ∃ er LL MF, readSegs nm.data.toList (segsL nm.data.toList M1.L) M1 = (er, LL, MF) := ⟨_, _, _, rfl⟩
          rw [hread] at HRS
          have HRD := Lib.hid hread
          clear hread hml
          go_wp2_with (fail)
          refine HSO.out.mono ?_
          rintro e x2 ⟨sv, rfl, hso, hbs⟩
          have HY2 := Lib.hid (HY1.out.bel hbs)
          have HSV := Lib.hid (hso.low (Nat.zero_le _))
          have HSQ := Lib.hid (show ∀ k, sv.ownBlock = some k → k < x2.heap.size ∧ k ∉ F5 from fun k hk => ⟨(hso.lt k hk).2, fun hm => by
            have h1 := (hso.lt k hk).1
            have h2 := prog_lt HY1.out.prog k hm
            omega⟩)
          have HB12 := Lib.hid (HBN.out.trans hbs)
          clear hso hbs
          go_wp2_with (fail)
          refine (HRS.out x2 sv HY2.out.prog HSV.out HSQ.out).mono ?_
          rintro e x3 ⟨v, F3, rfl, hp3, hk3, hf3, hq3⟩
          have HP3 := Lib.hid hp3
          have HK3 := Lib.hid (show Keep F w x3 from (HK5.out.then HB12.out).trans hk3 (fun k hk => HF5.out k hk))
          have HF3 := Lib.hid (show ∀ k ∈ F3, k ∈ F ∨ w.heap.size ≤ k from fun k hk => by
            rcases hf3 k hk with h | h
            · exact HF5.out k h
            · exact Or.inr (Nat.le_trans (HK5.out.then HB12.out).size h))
          have HQ3 := Lib.hid (hq3.lower (w' := w) (HK5.out.then HB12.out).size)
          have HJ3 := Lib.hid (HY2.out.j.keep (hk3.block jb HY2.out.j.lt HY2.out.out))
          have HJQ := Lib.hid (show Qb w x3 F3 jb from ⟨HJW.out, Nat.lt_of_lt_of_le HY2.out.j.lt hk3.size, fun hm => by
            rcases hf3 jb hm with h | h
            · exact HY2.out.out h
            · have := HY2.out.j.lt; omega⟩)
          clear hp3 hk3 hf3 hq3
          by_cases her : er = 0
          · subst her
            have HE := Lib.hid (show jopen nm.data.toList M = (0, LL, MF) by rw [HO.out]; exact HRD1.out.symm.trans HRD.out)
            go_wp2_with (fail)
            go_ret3
            rw [HE.out]
            exact ⟨_, _, F3, rfl, HP3.out, HK3.out, HF3.out, HQ3.out, (fun _ => ⟨jb, rfl, HJ3.out, HJQ.out⟩), (fun hc => absurd rfl hc)⟩
          · have HE := Lib.hid (show jopen nm.data.toList M = (er, [], MF) by
              have hl : LL = [] := by
                have := read_err nm.data.toList (segsL nm.data.toList M1.L) M1 (by rw [HRD.out]; exact her)
                rwa [HRD.out] at this
              rw [HO.out, ← hl]; exact absurd (congrArg Prod.fst (HRD.out.symm.trans HRD1.out)) her)
            have hx3 : (er != 0) = true := by rw [bne_iff_ne]; exact her
            have hx2 : (er == 0) = false := by rw [beq_eq_false_iff_ne]; exact her
            go_wp2_with (fail)
            go_ret3
            rw [HE.out]
            exact ⟨_, _, F3, rfl, HP3.out, HK3.out, HF3.out, OwnQ.nil _ _ _, (fun hc => absurd hc her), (fun _ => rfl)⟩
        · have hx3 : (rt != 0) = true := by rw [bne_iff_ne]; exact hrt
          have hx2 : (rt == 0) = false := by rw [beq_eq_false_iff_ne]; exact hrt
          go_wp2_with (fail)
          go_ret3
          rw [HO.out]
          exact ⟨_, _, F5, rfl, HX5.out.prog, HK5.out, HF5.out, OwnQ.nil _ _ _, (fun hc => absurd hc hrt), (fun _ => rfl)⟩
      · rw [if_neg hs0] at HO
        have hne0 : ((lastN nm.data.toList M.L : Nat) : Int) ≠ 0 := fun e => hs0 (last_zero.1 (by omega))
        have HK4 := Lib.hid (Keep.of_bel HB4.out F)
        have HF4 := Lib.hid (show ∀ k ∈ F, k ∈ F ∨ w.heap.size ≤ k from fun k hk => Or.inl hk)
        generalize lastN nm.data.toList M.L = ln at *
        have hne1 : ((ln : Int) == 0) = false := by rw [beq_eq_false_iff_ne]; exact hne0
        clear hne0
        go_wp2_with (fail)
        refine (open_rest n₀ w _ b M F F jb nm most HX4.out HG.out hnm HR.out).mono ?_
        rintro e x1 ⟨sp, sc, rfl, hat, hbn⟩
        have HSA := Lib.hid hat
        have HY1 := Lib.hid (HX4.out.bel hbn)
        have HBN := Lib.hid hbn
        clear hat hbn
        have hsl := segs_len nm.data.toList M.L
        have h60 := HX4.out.ok.len
        have hml : ((segsL nm.data.toList M.L).map (fileN nm.data.toList)).length = (segsL nm.data.toList M.L).length := List.length_map _
        have HSO := Lib.hid (segof_any x1 sp sc ((segsL nm.data.toList M.L).map (fileN nm.data.toList)) HSA.out (by omega))
        rw [hml] at HSO
        have HRS := Lib.hid (fun (z : World) (sv : Value) (hp : ProgAt n₀ z b M F) (hs : OwnG segEl 0 z sv (segF ((segsL nm.data.toList M.L).map (fileN nm.data.toList)))) (hq : ∀ k, sv.ownBlock = some k → k < z.heap.size ∧ k ∉ F) =>
          readall_any n₀ z b M F nm.data.toList (segsL nm.data.toList M.L) sv hp HX4.out.ok HG.out hnm (fun n hn => ⟨(mem_segs_file.1 hn).2.1, Option.isSome_iff_exists.1 ((mem_segs_get HX4.out.ok.srt).1 hn).2.2⟩) (by omega) (room_sizes HX4.out.ok HR.out) hs hq)
        obtain ⟨er, LL, MF, hread⟩ : ∃ er LL MF, readSegs nm.data.toList (segsL nm.data.toList M.L) M = (er, LL, MF) := ⟨_, _, _, rfl⟩
        rw [hread] at HRS
        have HRD := Lib.hid hread
        clear hread hml
        go_wp2_with (fail)
        refine HSO.out.mono ?_
        rintro e x2 ⟨sv, rfl, hso, hbs⟩
        have HY2 := Lib.hid (HY1.out.bel hbs)
        have HSV := Lib.hid (hso.low (Nat.zero_le _))
        have HSQ := Lib.hid (show ∀ k, sv.ownBlock = some k → k < x2.heap.size ∧ k ∉ F from fun k hk => ⟨(hso.lt k hk).2, fun hm => by
          have h1 := (hso.lt k hk).1
          have h2 := prog_lt HY1.out.prog k hm
          omega⟩)
        have HB12 := Lib.hid (HBN.out.trans hbs)
        clear hso hbs
        go_wp2_with (fail)
        refine (HRS.out x2 sv HY2.out.prog HSV.out HSQ.out).mono ?_
        rintro e x3 ⟨v, F3, rfl, hp3, hk3, hf3, hq3⟩
        have HP3 := Lib.hid hp3
        have HK3 := Lib.hid (show Keep F w x3 from (HK4.out.then HB12.out).trans hk3 (fun k hk => HF4.out k hk))
        have HF3 := Lib.hid (show ∀ k ∈ F3, k ∈ F ∨ w.heap.size ≤ k from fun k hk => by
          rcases hf3 k hk with h | h
          · exact HF4.out k h
          · exact Or.inr (Nat.le_trans (HK4.out.then HB12.out).size h))
        have HQ3 := Lib.hid (hq3.lower (w' := w) (HK4.out.then HB12.out).size)
        have HJ3 := Lib.hid (HY2.out.j.keep (hk3.block jb HY2.out.j.lt HY2.out.out))
        have HJQ := Lib.hid (show Qb w x3 F3 jb from ⟨HJW.out, Nat.lt_of_lt_of_le HY2.out.j.lt hk3.size, fun hm => by
          rcases hf3 jb hm with h | h
          · exact HY2.out.out h
          · have := HY2.out.j.lt; omega⟩)
        clear hp3 hk3 hf3 hq3
        by_cases her : er = 0
        · subst her
          have HE := Lib.hid (show jopen nm.data.toList M = (0, LL, MF) by rw [HO.out]; exact HRD.out)
          go_wp2_with (fail)
          go_ret3
          rw [HE.out]
          exact ⟨_, _, F3, rfl, HP3.out, HK3.out, HF3.out, HQ3.out, (fun _ => ⟨jb, rfl, HJ3.out, HJQ.out⟩), (fun hc => absurd rfl hc)⟩
        · have HE := Lib.hid (show jopen nm.data.toList M = (er, [], MF) by
            have hl : LL = [] := by
              have := read_err nm.data.toList (segsL nm.data.toList M.L) M (by rw [HRD.out]; exact her)
              rwa [HRD.out] at this
            rw [HO.out, ← hl]; exact HRD.out)
          have hx3 : (er != 0) = true := by rw [bne_iff_ne]; exact her
          have hx2 : (er == 0) = false := by rw [beq_eq_false_iff_ne]; exact her
          go_wp2_with (fail)
          go_ret3
          rw [HE.out]
          exact ⟨_, _, F3, rfl, HP3.out, HK3.out, HF3.out, OwnQ.nil _ _ _, (fun hc => absurd hc her), (fun _ => rfl)⟩
end Go.Proofs.YtlmlcnbgdaiaeaaGreatDoor
/- moultref7's Open. -/
namespace Go.Proofs.YtlmlcnbgdaiaeaaGreatDoor
open Go.RowKit Go.Deep Go.Maps

def RopPost (n₀ : Nat) (w : World) (b : Nat) (F : List Nat) (nm : ByteArray) (most : Int) (M' : RS) (L : List (List (List UInt8))) (err : Int) (e : Ending) (y : World) : Prop :=
  ∃ jv v F', e = .returned (.tuple #[jv, v, .int .i64 err]) ∧ RefP n₀ y b M' F' ∧ Keep F w y ∧ (∀ k ∈ F', k ∈ F ∨ w.heap.size ≤ k) ∧ OwnQ w y F' v L ∧
    (err = 0 → ∃ jb, jv = .pointer (some ⟨jb, 0, none⟩) ∧ JAt y jb b nm most ∧ Qb w y F' jb) ∧ (err ≠ 0 → jv = .pointer none)
def ROpRel (n₀ : Nat) (w3 : World) (b : Nat) (F : List Nat) (jb : Nat) (nm : ByteArray) (most : Int) (l : List Nat) (lv : Value) (M : RS) (ov iv : Value) (x : World) : Prop :=
  ∃ (k : Nat) (acc : List (List (List UInt8))) (Mk : RS) (Fk : List Nat), iv = .int .i64 k ∧ k ≤ l.length ∧ RJS n₀ x b Mk Fk jb nm most ∧ Keep F w3 x ∧ (∀ j ∈ Fk, j ∈ F ∨ w3.heap.size ≤ j) ∧ OwnQ w3 x Fk ov acc ∧ LeftS nm.data.toList l M k acc Mk ∧ acc.length ≤ 1000000 * k ∧
    OwnG intEl 0 x lv (l.map fun n : Nat => (n : Int))
theorem mended_of {nm s : List UInt8} {M : RS} {L : List (List (List UInt8))} {k : Nat} {e rc : Int} {Mc : RS} (hR : readL s = (L, k, e)) (he : e ≠ 0) (hc : cutS nm (k : Nat) M = (rc, Mc)) :
    mendedS nm s M = if rc ≠ 0 then ([], rc, Mc) else if (flushS nm Mc).1 = 0 then (L, 0, (flushS nm Mc).2) else ([], (flushS nm Mc).1, (flushS nm Mc).2) := by
  unfold mendedS mendS
  rw [hR]
  simp only
  rw [if_neg he, hc]
  by_cases hrc : rc = 0
  · subst hrc; simp
  · simp [hrc]
set_option maxHeartbeats 8000000 in
set_option maxRecDepth 20000 in
theorem ropen_any (n₀ : Nat) (w : World) (b : Nat) (M : RS) (F : List Nat) (nm : ByteArray) (most : Int) (h : RefP n₀ w b M F) (hM : M.ok) (hnm : nm.size ≤ 100) (hr : M.room ≤ 1000000) :
    Calls Tryz.prog 20 #[.pointer (some ⟨b, 0, none⟩), .string nm, .int .i64 most] w (RopPost n₀ w b F nm most (jopen nm.data.toList M).2.2 (jopen nm.data.toList M).2.1 (jopen nm.data.toList M).1) := by
  have HP := Lib.hid h
  have HM := Lib.hid hM
  have HFL := Lib.hid (ref_lt h)
  have HR := Lib.hid hr
  have HRA := Lib.hid h
  have hpl : nm.data.toList.length = nm.size := rfl
  clear h hM hr
  cases hN : nameJ nm.data.toList with
  | false =>
    have HO := Lib.hid (show jopen nm.data.toList M = (3, [], M) by unfold jopen; rw [if_pos hN])
    have HNJ := Lib.hid hN; clear hN
    go_enter Tryz.func20, Tryz.ntmps20
    go_wp2_with (fail)
    refine (jnamed_any nm w (by unfold maxLen; omega)).mono ?_
    rintro e w1 ⟨rfl, hd1⟩
    rw [HNJ.out]
    have HB1 := Lib.hid hd1.bel; clear hd1
    go_wp2_with (fail)
    go_ret3
    rw [HO.out]
    exact ⟨_, _, F, rfl, HP.out.bel HB1.out, Keep.of_bel HB1.out F, fun k hk => Or.inl hk, OwnQ.nil _ _ _, (fun hc => absurd hc (by simp)), (fun _ => rfl)⟩
  | true =>
    have HNJ := Lib.hid hN
    have HC3 := Lib.hid (show ∀ x, Bel w x → x.cell? ⟨b, 3, none⟩ = some (.bool M.gone) from fun x hx => by
      obtain ⟨v, hra, -, -, -⟩ := HP.out.bel hx
      exact hra.cells.2.2.2)
    cases hg : M.gone with
    | true =>
      rw [hg] at HC3
      have HO := Lib.hid (show jopen nm.data.toList M = (7, [], M) by unfold jopen; rw [if_neg (by rw [hN]; simp), if_pos hg])
      clear hN
      go_enter Tryz.func20, Tryz.ntmps20
      go_wp2_with (fail)
      refine (jnamed_any nm w (by unfold maxLen; omega)).mono ?_
      rintro e w1 ⟨rfl, hd1⟩
      rw [HNJ.out]
      have HB1 := Lib.hid hd1.bel; clear hd1
      have c3 := HC3.out _ HB1.out
      go_wp2_with (fail)
      go_ret3
      rw [HO.out]
      exact ⟨_, _, F, rfl, HP.out.bel HB1.out, Keep.of_bel HB1.out F, fun k hk => Or.inl hk, OwnQ.nil _ _ _, (fun hc => absurd hc (by simp)), (fun _ => rfl)⟩
    | false =>
      rw [hg] at HC3
      have HO := Lib.hid (show jopen nm.data.toList M = if segsL nm.data.toList M.L = [] then ((jturn nm.data.toList M).1, [], (jturn nm.data.toList M).2) else readSegs nm.data.toList (segsL nm.data.toList M.L) M by
        unfold jopen; rw [if_neg (by rw [hN]; simp), if_neg (by rw [hg]; simp)])
      clear hN
      have HG := Lib.hid hg; clear hg
      have hsl := segs_len nm.data.toList M.L
      have h60 := HM.out.len
      go_enter Tryz.func20, Tryz.ntmps20
      go_wp2_with (fail)
      refine (jnamed_any nm w (by unfold maxLen; omega)).mono ?_
      rintro e w1 ⟨rfl, hd1⟩
      rw [HNJ.out]
      have HB1 := Lib.hid hd1.bel; clear hd1
      have c3 := HC3.out _ HB1.out
      go_wp2_with (fail)
      obtain ⟨jb, hjb⟩ : ∃ jb, jb = w1.heap.size := ⟨_, rfl⟩
      obtain ⟨x0, hx0⟩ : ∃ x0, x0 = w1.alloc (.cells #[.pointer (some ⟨b, 0, none⟩), .string nm, .int .i64 most] 104) := ⟨_, rfl⟩
      have HBX := Lib.hid (show Bel w x0 by rw [hx0]; exact HB1.out.alloc _)
      have HX := Lib.hid (show RJS n₀ x0 b M F jb nm most from
        ⟨HP.out.bel HBX.out, HM.out, by rw [hjb, hx0]; exact ⟨by go_simp, by go_simp, by go_simp⟩, fun hm => by have h1 := HFL.out jb hm; have h2 := HB1.out.size; omega⟩)
      have HJW := Lib.hid (show w.heap.size ≤ jb by rw [hjb]; exact HB1.out.size)
      rw [← hjb, ← hx0]
      clear hx0 hjb c3
      refine (rsegs_any n₀ x0 jb b nm most M F HX.out.ref HX.out.ok HX.out.j hnm).mono ?_
      rintro e w3 ⟨lv, rfl, hown, hb3⟩
      have HX3 := Lib.hid (HX.out.bel hb3)
      have HB3 := Lib.hid (HBX.out.trans hb3)
      have HJL := Lib.hid (show jb < w3.heap.size from HX3.out.j.lt)
      obtain ⟨l, hl⟩ : ∃ l, l = segsL nm.data.toList M.L := ⟨_, rfl⟩
      have HSG := Lib.hid hl
      rw [← hl] at hown hsl HO
      have HLV := Lib.hid (hown.low (Nat.zero_le _))
      have HVB := Lib.hid hown.lt
      have HXS := Lib.hid hb3.size
      have HXF := Lib.hid (ref_lt HX.out.ref)
      obtain ⟨sp, sc, hv⟩ := ownG_len hown
      rw [toZ_len] at hv
      subst hv
      clear hown hb3
      by_cases hs0 : l = []
      · have hll : l.length = 0 := by rw [hs0]; rfl
        have HJT := Lib.hid (show jturn nm.data.toList M = addS (fileN nm.data.toList 1) [] M by unfold jturn; rw [last_zero.2 (by rw [← hl]; exact hs0)])
        rw [if_pos hs0, HJT.out] at HO
        have hfl := file_len nm.data.toList (n := 1) (by omega)
        have hfz := str_len (fileN nm.data.toList 1)
        obtain ⟨rt, M1, ht⟩ : ∃ rt M1, addS (fileN nm.data.toList 1) [] M = (rt, M1) := ⟨_, _, rfl⟩
        have HT := Lib.hid ht
        have HM1 := Lib.hid (show M1.ok by have := add_ok HM.out (fileN nm.data.toList 1) []; rwa [ht] at this)
        rw [ht] at HO
        clear ht hl hs0
        go_wp2_with (fail)
        refine (rj_fileC HX3.out hnm 1 (by omega)).mono ?_
        rintro e w4 ⟨rfl, hb4⟩
        have HX4 := Lib.hid (HX3.out.bel hb4)
        have HB4 := Lib.hid (HB3.out.trans hb4)
        clear hb4
        go_wp2_with (fail)
        refine (radd_any n₀ w4 b M F (⟨(fileN nm.data.toList 1).toArray⟩ : ByteArray) ⟨#[]⟩ (by omega) (by decide) HX4.out.ref HX4.out.ok).mono ?_
        rintro e w5 ⟨rfl, hT⟩
        rw [str_list, show (⟨#[]⟩ : ByteArray).data.toList = [] from rfl, HT.out] at hT ⊢
        obtain ⟨F5, hX5, hK5, hF5⟩ := HX4.out.step hT HM1.out
        have HX5 := Lib.hid hX5
        have HK5 := Lib.hid (show Keep F w w5 from (Keep.of_bel HB4.out F).trans hK5 (fun k hk => Or.inl hk))
        have HF5 := Lib.hid (show ∀ k ∈ F5, k ∈ F ∨ w.heap.size ≤ k from fun k hk => (hF5 k hk).imp id (fun h => Nat.le_trans HB4.out.size h))
        clear hT hX5 hK5 hF5
        by_cases hrt : rt = 0
        · subst hrt
          go_wp2_with (fail)
          go_ret3
          rw [HO.out]
          exact ⟨_, _, F5, rfl, HX5.out.ref, HK5.out, HF5.out, OwnQ.nil _ _ _, (fun _ => ⟨jb, rfl, HX5.out.j, ⟨HJW.out, HX5.out.j.lt, HX5.out.out⟩⟩), (fun hc => absurd rfl hc)⟩
        · have hx3 : (rt != 0) = true := by rw [bne_iff_ne]; exact hrt
          have hx2 : (rt == 0) = false := by rw [beq_eq_false_iff_ne]; exact hrt
          go_wp2_with (fail)
          go_ret3
          rw [HO.out]
          exact ⟨_, _, F5, rfl, HX5.out.ref, HK5.out, HF5.out, OwnQ.nil _ _ _, (fun hc => absurd hc hrt), (fun _ => rfl)⟩
      · have hlp : l.length ≠ 0 := fun e => hs0 (List.length_eq_zero_iff.1 e)
        have hz : ((l.length : Int) == 0) = false := by rw [beq_eq_false_iff_ne]; omega
        rw [if_neg hs0] at HO
        have HL := Lib.hid (show ∀ n ∈ l, n ≤ 9999999 ∧ ∃ y, getF (fileN nm.data.toList n) M.L = some y from fun n hn => by
          rw [hl] at hn
          exact ⟨(mem_segs_file.1 hn).2.1, Option.isSome_iff_exists.1 ((mem_segs_get HM.out.srt).1 hn).2.2⟩)
        have HSZ := Lib.hid (room_sizes HM.out HR.out)
        clear hl hs0 HSG
        go_wp2_with (fail)
        go_loopw [13, 14] (fun ov iv x => ROpRel n₀ w3 b F jb nm most l (.slice sp l.length sc) M ov iv x) (fun _ iv _ => l.length - (intOf iv).toNat)
        case atStart => exact ⟨0, [], M, F, rfl, Nat.zero_le _, HX3.out, Keep.refl _ _, fun j hj => Or.inl hj, OwnQ.nil _ _ _, left_start _ _ _, by simp, HLV.out⟩
        case round =>
          obtain ⟨k, acc, Mk, Fk, rfl, hk, hxk, hkeep, hfk, hoq, hleft, hal, hlv⟩ := hrel
          have HXK := Lib.hid hxk
          have HK := Lib.hid hkeep
          have HFK := Lib.hid hfk
          have HOQ := Lib.hid hoq
          have HLF := Lib.hid hleft
          have HLK := Lib.hid hlv
          obtain ⟨op, oc, hov⟩ := hoq.own.len
          subst hov
          clear hxk hkeep hfk hoq hleft hlv
          by_cases hlt : k < l.length
          · obtain rfl : Mk = M := HLF.out.1 hlt
            have HGS := Lib.hid (show ∃ g, sp = some ⟨g, 0, none⟩ ∧ g < w3.heap.size ∧ g ∉ F from by
              obtain ⟨g, cap, hv, hcap, _, e0⟩ := int_at HLK.out k hlt
              simp only [Value.slice.injEq] at hv
              obtain ⟨rfl, -, -⟩ := hv
              have h1 := HVB.out g rfl
              exact ⟨g, rfl, h1.2, fun hm => by have h2 := HXF.out g hm; have := h1.1; omega⟩)
            obtain ⟨g, hsp, hgw, hgF⟩ := HGS.out
            subst hsp
            have hgk : g ∉ Fk := fun hm => by
              rcases HFK.out g hm with h | h
              · exact hgF h
              · omega
            obtain ⟨g', cap', hv, hcap, _, e0⟩ := int_at HLK.out k hlt
            simp only [Value.slice.injEq, true_and, Option.some.injEq, Addr.mk.injEq, and_true] at hv
            obtain ⟨rfl, rfl⟩ := hv
            obtain ⟨hn9, y, hy⟩ := HL.out l[k] (List.getElem_mem hlt)
            have hyb := HSZ.out y (getF_mem hy)
            have HBY := Lib.hid (bytesOf_get hy)
            have HGT := Lib.hid (show getS (fileN nm.data.toList l[k]) Mk = (y.bytes, 0) by unfold getS; rw [HG.out, hy]; rfl)
            have HWN := Lib.hid (fun L2 (hw : wholeS (bytesOf (fileN nm.data.toList l[k]) Mk) = (L2, 0)) => left_next HLF.out hlt hw)
            have HWF := Lib.hid (fun (hne : k + 1 ≠ l.length) (L2 : List (List (List UInt8))) (e : Int) (he : e ≠ 0) (hw : wholeS (bytesOf (fileN nm.data.toList l[k]) Mk) = (L2, e)) => left_fail HLF.out hlt hne he hw)
            have HWL := Lib.hid (fun (hl : k + 1 = l.length) (L2 : List (List (List UInt8))) (e : Int) (M2 : RS) (hw : mendedS (fileN nm.data.toList l[k]) (bytesOf (fileN nm.data.toList l[k]) Mk) Mk = (L2, e, M2)) => left_last HLF.out hlt hl hw)
            rw [HBY.out] at HWN HWF HWL
            have hfl := file_len nm.data.toList (n := l[k]) (by omega)
            have hfz := str_len (fileN nm.data.toList l[k])
            obtain ⟨n, hn⟩ : ∃ n, n = l[k] := ⟨_, rfl⟩
            rw [← hn] at e0 hn9 HGT HWL hfl hfz
            have HLN0 := Lib.hid hn
            clear hn hy HBY
            have hyz := str_len y.bytes
            obtain ⟨L2, N2, e2, hR⟩ : ∃ L2 N2 e2, readL y.bytes = (L2, N2, e2) := ⟨_, _, _, rfl⟩
            have HRD := Lib.hid hR
            have hrs := read_size y.bytes.length y.bytes (Nat.le_refl _)
            rw [hR] at hrs
            simp only at hrs
            obtain ⟨hrs1, hrs2, -, -⟩ := hrs
            clear hR
            go_wp2_with (fail)
            refine (rj_fileC HXK.out hnm n (by omega)).mono ?_
            rintro e z1 ⟨rfl, hb1⟩
            have HC1 := Lib.hid hb1
            have HY1 := Lib.hid (HXK.out.bel hb1)
            have e1 := cell_later hb1 e0
            clear hb1 e0
            go_wp2_with (fail)
            refine (rget_ref HY1.out.ref HM.out (⟨(fileN nm.data.toList n).toArray⟩ : ByteArray)).mono ?_
            rintro e z2 ⟨rfl, hb2⟩
            rw [str_list, HGT.out]
            have HC2 := Lib.hid (HC1.out.trans hb2)
            clear hb2 e1
            go_wp2_with (fail)
            refine (rread_any (⟨y.bytes.toArray⟩ : ByteArray) z2 (by omega)).mono ?_
            rintro e z3 ⟨bv, rfl, hbo, hb3⟩
            rw [str_list, HRD.out] at hbo ⊢
            have HC3 := Lib.hid (HC2.out.trans hb3)
            have HKZ := Lib.hid (show w3.heap.size ≤ z2.heap.size from Nat.le_trans HK.out.size HC2.out.size)
            have HBQ := Lib.hid ((OwnQ.of hbo (F := Fk) (fun j hj => Nat.lt_of_lt_of_le (ref_lt HXK.out.ref j hj) HC2.out.size)).lower HKZ.out)
            have HOQ3 := Lib.hid (HOQ.out.bel HC3.out)
            have HXZ := Lib.hid (HXK.out.bel HC3.out)
            have HKW := Lib.hid (show Keep F w3 z3 from HK.out.then HC3.out)
            have HLZ := Lib.hid (HLK.out.bel HC3.out)
            clear hbo hb3
            go_wp2_with (at_builtin; refine stop_here ?_)
            refine go_on ?_
            refine ownq_append rfl _ _ rfl rfl rfl HOQ3.out HBQ.out (by omega) (ref_lt HXZ.out.ref) HKW.out.size ?_
            intro v3 z4 hq3 hk3
            obtain ⟨p3, c3, hv3⟩ := hq3.own.len
            rw [List.length_append] at hv3
            subst hv3
            have HQ4 := Lib.hid hq3
            have HX4 := Lib.hid (show RJS n₀ z4 b Mk Fk jb nm most from ⟨HXZ.out.ref.keep hk3 (fun j hj hm => by
              rw [Option.mem_toList] at hm
              exact (HOQ3.out.blk j hm).2.2 hj), HM.out, HXZ.out.j.keep (hk3.block jb HXZ.out.j.lt (fun hm => by
              rw [Option.mem_toList] at hm
              have := (HOQ3.out.blk _ hm).1
              have := HJL.out; omega)), HXZ.out.out⟩)
            have HK4 := Lib.hid (HKW.out.trans hk3 (fun j hj => by
              rw [Option.mem_toList] at hj
              exact Or.inr (HOQ3.out.blk j hj).1))
            have HL4 := Lib.hid (HLZ.out.keep hk3 (fun j hj hm => by
              simp only [Value.ownBlock, Option.some.injEq] at hj; subst hj
              rw [Option.mem_toList] at hm
              have := (HOQ3.out.blk _ hm).1
              omega))
            clear hq3 hk3
            by_cases he : e2 = 0
            · subst he
              have HLN := Lib.hid (HWN.out L2 (by unfold wholeS; rw [HRD.out]; rfl))
              clear hpl hfz hyz hfl hcap
              go_wp2_with (fail)
              go_roundw
              case rel => exact ⟨k + 1, acc ++ L2, Mk, Fk, by go_num, by omega, HX4.out, HK4.out, HFK.out, HQ4.out, HLN.out, by rw [List.length_append]; omega, HL4.out⟩
              case measure => simp [intOf]; omega
            · have hx3 : (e2 != 0) = true := by rw [bne_iff_ne]; exact he
              have hx2 : (e2 == 0) = false := by rw [beq_eq_false_iff_ne]; exact he
              by_cases hlast : k + 1 = l.length
              · have hq : (l.length : Int) - 1 ≤ (k : Int) := by omega
                obtain ⟨rc, Mc, hc⟩ : ∃ rc Mc, cutS (fileN nm.data.toList n) (N2 : Nat) Mk = (rc, Mc) := ⟨_, _, rfl⟩
                have HMO := Lib.hid (mended_of HRD.out he hc)
                have HCT := Lib.hid hc
                have HMC := Lib.hid (show Mc.ok by have := cut_ok HM.out (fileN nm.data.toList n) (N2 : Nat); rwa [hc] at this)
                clear hc
                obtain ⟨g', cap', hv, hcap, _, e4⟩ := int_at HL4.out k hlt
                simp only [Value.slice.injEq, true_and, Option.some.injEq, Addr.mk.injEq, and_true] at hv
                obtain ⟨rfl, rfl⟩ := hv
                rw [← HLN0.out] at e4
                go_wp2_with (fail)
                refine (rj_fileC HX4.out hnm n (by omega)).mono ?_
                rintro e z5 ⟨rfl, hb5⟩
                have HX5 := Lib.hid (HX4.out.bel hb5)
                have HK5 := Lib.hid (HK4.out.then hb5)
                have HL5 := Lib.hid (HL4.out.bel hb5)
                have HQ5 := Lib.hid (HQ4.out.bel hb5)
                clear hb5 e4
                go_wp2_with (fail)
                refine (rcut_any n₀ z5 b Mk Fk (⟨(fileN nm.data.toList n).toArray⟩ : ByteArray) (N2 : Int) (show in64 (N2 : Int) from ⟨by omega, by omega⟩) HX5.out.ref HM.out).mono ?_
                rintro e z6 ⟨rfl, hT⟩
                rw [str_list, HCT.out] at hT ⊢
                obtain ⟨F6, hX6, hK6, hF6⟩ := HX5.out.step hT HMC.out
                have HX6 := Lib.hid hX6
                have HQ6 := Lib.hid (HQ5.out.step hK6 hF6)
                have HL6 := Lib.hid (HL5.out.keep hK6 (fun j hj => by simp only [Value.ownBlock, Option.some.injEq] at hj; subst hj; exact hgk))
                have HK6 := Lib.hid (HK5.out.trans hK6 (fun j hj => HFK.out j hj))
                have HF6 := Lib.hid (show ∀ j ∈ F6, j ∈ F ∨ w3.heap.size ≤ j from fun j hj => by
                  rcases hF6 j hj with h | h
                  · exact HFK.out j h
                  · exact Or.inr (Nat.le_trans HK5.out.size h))
                have hgk6 : g ∉ F6 := fun hm => by
                  rcases HF6.out g hm with h | h
                  · exact hgF h
                  · omega
                clear hT hX6 hK6 hF6
                by_cases hrc : rc = 0
                · subst hrc
                  rw [if_neg (by simp)] at HMO
                  obtain ⟨rf, Mf, hf⟩ : ∃ rf Mf, flushS (fileN nm.data.toList n) Mc = (rf, Mf) := ⟨_, _, rfl⟩
                  have HFT := Lib.hid hf
                  have HMF := Lib.hid (show Mf.ok by have := flush_ok HMC.out (fileN nm.data.toList n); rwa [hf] at this)
                  rw [hf] at HMO
                  clear hf
                  obtain ⟨g', cap', hv, hcap, _, e6⟩ := int_at HL6.out k hlt
                  simp only [Value.slice.injEq, true_and, Option.some.injEq, Addr.mk.injEq, and_true] at hv
                  obtain ⟨rfl, rfl⟩ := hv
                  rw [← HLN0.out] at e6
                  go_wp2_with (fail)
                  refine (rj_fileC HX6.out hnm n (by omega)).mono ?_
                  rintro e z7 ⟨rfl, hb7⟩
                  have HX7 := Lib.hid (HX6.out.bel hb7)
                  have HK7 := Lib.hid (HK6.out.then hb7)
                  have HL7 := Lib.hid (HL6.out.bel hb7)
                  have HQ7 := Lib.hid (HQ6.out.bel hb7)
                  clear hb7 e6
                  go_wp2_with (fail)
                  refine (rflush_any n₀ z7 b Mc F6 (⟨(fileN nm.data.toList n).toArray⟩ : ByteArray) HX7.out.ref HMC.out).mono ?_
                  rintro e z8 ⟨rfl, hT⟩
                  rw [str_list, HFT.out] at hT ⊢
                  obtain ⟨F8, hX8, hK8, hF8⟩ := HX7.out.step hT HMF.out
                  have HX8 := Lib.hid hX8
                  have HQ8 := Lib.hid (HQ7.out.step hK8 hF8)
                  have HL8 := Lib.hid (HL7.out.keep hK8 (fun j hj => by simp only [Value.ownBlock, Option.some.injEq] at hj; subst hj; exact hgk6))
                  have HK8 := Lib.hid (HK7.out.trans hK8 (fun j hj => HF6.out j hj))
                  have HF8 := Lib.hid (show ∀ j ∈ F8, j ∈ F ∨ w3.heap.size ≤ j from fun j hj => by
                    rcases hF8 j hj with h | h
                    · exact HF6.out j h
                    · exact Or.inr (Nat.le_trans HK7.out.size h))
                  clear hT hX8 hK8 hF8
                  by_cases hrf : rf = 0
                  · subst hrf
                    simp only [if_true] at HMO
                    have HLL := Lib.hid ((HWL.out hlast L2 0 Mf HMO.out).1 rfl)
                    have HLS := Lib.hid hlast
                    clear hpl hfz hyz hfl hcap hlast
                    go_wp2_with (fail)
                    go_roundw
                    case rel => exact ⟨k + 1, acc ++ L2, Mf, F8, by go_num, by omega, HX8.out, HK8.out, HF8.out, HQ8.out, HLL.out, by rw [List.length_append]; omega, HL8.out⟩
                    case measure => simp [intOf]; omega
                  · rw [if_neg hrf] at HMO
                    have HE := Lib.hid ((HWL.out hlast [] rf Mf HMO.out).2 hrf)
                    have hx5 : (rf != 0) = true := by rw [bne_iff_ne]; exact hrf
                    have hx6 : (rf == 0) = false := by rw [beq_eq_false_iff_ne]; exact hrf
                    go_wp2_with (fail)
                    go_ret3
                    rw [HO.out, HE.out]
                    exact ⟨_, _, F8, rfl, HX8.out.ref, (Keep.of_bel HB3.out F).trans HK8.out (fun x hx => Or.inl hx), fun j hj => (HF8.out j hj).imp id (fun h => Nat.le_trans HB3.out.size h), OwnQ.nil _ _ _, (fun hc => absurd hc hrf), (fun _ => rfl)⟩
                · rw [if_pos hrc] at HMO
                  have HE := Lib.hid ((HWL.out hlast [] rc Mc HMO.out).2 hrc)
                  have hx5 : (rc != 0) = true := by rw [bne_iff_ne]; exact hrc
                  have hx6 : (rc == 0) = false := by rw [beq_eq_false_iff_ne]; exact hrc
                  go_wp2_with (fail)
                  go_ret3
                  rw [HO.out, HE.out]
                  exact ⟨_, _, F6, rfl, HX6.out.ref, (Keep.of_bel HB3.out F).trans HK6.out (fun x hx => Or.inl hx), fun j hj => (HF6.out j hj).imp id (fun h => Nat.le_trans HB3.out.size h), OwnQ.nil _ _ _, (fun hc => absurd hc hrc), (fun _ => rfl)⟩
              · have HE := Lib.hid (HWF.out hlast [] e2 he (by unfold wholeS; rw [HRD.out]; simp only; rw [if_neg he]))
                have hq : (k : Int) < (l.length : Int) - 1 := by omega
                go_wp2_with (fail)
                go_ret3
                rw [HO.out, HE.out]
                exact ⟨_, _, Fk, rfl, HX4.out.ref, (Keep.of_bel HB3.out F).trans HK4.out (fun x hx => Or.inl hx), fun j hj => (HFK.out j hj).imp id (fun h => Nat.le_trans HB3.out.size h), OwnQ.nil _ _ _, (fun hc => absurd hc he), (fun _ => rfl)⟩
          · obtain rfl : k = l.length := by omega
            have HE := Lib.hid (left_end HLF.out)
            go_wp2_with (fail)
            go_ret3
            rw [HO.out, HE.out]
            exact ⟨_, _, Fk, rfl, HXK.out.ref, (Keep.of_bel HB3.out F).trans HK.out (fun x hx => Or.inl hx), fun j hj => (HFK.out j hj).imp id (fun h => Nat.le_trans HB3.out.size h), HOQ.out.lower HB3.out.size,
              (fun _ => ⟨jb, rfl, HXK.out.j, ⟨HJW.out, HXK.out.j.lt, HXK.out.out⟩⟩), (fun hc => absurd rfl hc)⟩
end Go.Proofs.YtlmlcnbgdaiaeaaGreatDoor
/- moultref7's Write. -/
namespace Go.Proofs.YtlmlcnbgdaiaeaaGreatDoor
open Go.RowKit Go.Deep Go.Maps

theorem last_there {p : List UInt8} {M : RS} (h : M.ok) {n : Nat} (hn : lastN p M.L = n) (h0 : n ≠ 0) : (getF (fileN p n) M.L).isSome = true := by
  have hmem : n ∈ segsL p M.L := by rw [← hn]; exact last_mem (fun e => h0 (by rw [← hn]; exact last_zero.2 e))
  exact ((mem_segs_get h.srt).1 hmem).2.2
end Go.Proofs.YtlmlcnbgdaiaeaaGreatDoor
/- Mathematics of a journal whose segments hold batches (HoldX), through calls, crashes and openings; no program. -/
namespace Go.Proofs.YtlmlcnbgdaiaeaaGreatDoor
open Go.RowKit Go.Deep Go.Maps

def jcrO (l s : Int) (x : FI) : FI := if x.safe = x.bytes.length then x else crX l s x
theorem jcrash_get (lf sp : List Int) (nm : List UInt8) : ∀ (L : List FI) (k : Nat), (getF nm L = none → getF nm (crashF lf sp k L) = none) ∧ (∀ x, getF nm L = some x → ∃ j, getF nm (crashF lf sp k L) = some (jcrO (atN lf j) (atN sp j) x))
  | [], k => ⟨fun _ => rfl, (fun x hx => by cases hx)⟩
  | y :: L, k => by
    rw [crashF, getF_cons]
    by_cases hn : y.name = nm
    · rw [if_pos hn]
      refine ⟨(fun h => by cases h), fun x hx => ?_⟩
      obtain rfl : y = x := by simpa using hx
      by_cases hs : y.safe = y.bytes.length
      · rw [if_pos hs, getF_cons, if_pos hn]
        exact ⟨0, by unfold jcrO; rw [if_pos hs]⟩
      · rw [if_neg hs, getF_cons, if_pos (by exact hn)]
        exact ⟨k, by unfold jcrO; rw [if_neg hs]⟩
    · rw [if_neg hn]
      by_cases hs : y.safe = y.bytes.length
      · rw [if_pos hs, getF_cons, if_neg hn]
        exact jcrash_get lf sp nm L k
      · rw [if_neg hs, getF_cons, if_neg (by exact hn)]
        exact jcrash_get lf sp nm L (k + 1)
theorem jcrash_saved (lf sp : List Int) : ∀ (L : List FI) (k : Nat), (∀ x ∈ L, x.safe ≤ x.bytes.length) → ∀ x ∈ crashF lf sp k L, x.safe = x.bytes.length
  | [], _, _, x, hx => by cases hx
  | y :: L, k, h, x, hx => by
    rw [crashF] at hx
    split at hx
    · rename_i hs
      rcases List.mem_cons.1 hx with rfl | hx
      · exact hs
      · exact jcrash_saved lf sp L k (fun z hz => h z (by simp [hz])) x hx
    · rcases List.mem_cons.1 hx with rfl | hx
      · rw [crX_len _ _ _ (h y (by simp))]; rfl
      · exact jcrash_saved lf sp L (k + 1) (fun z hz => h z (by simp [hz])) x hx
theorem jcrO_bytes (l q : Int) (nm s t : List UInt8) : ∃ r, (jcrO l q ⟨nm, s ++ t, s.length⟩).bytes = s ++ r ∧ r.length ≤ t.length ∧ (r.length ≤ 1 ∨ r.take (r.length - 1) = t.take (r.length - 1)) := by
  unfold jcrO
  split
  · rename_i hs
    simp at hs
    subst hs
    exact ⟨[], by simp, by simp, by simp⟩
  · have hk := left_le l t.length
    unfold crX
    simp only [List.length_append, Nat.add_sub_cancel_left]
    generalize leftN l t.length = k at *
    split
    · rename_i h0
      subst h0
      exact ⟨[], by simp, by simp, by simp⟩
    · rename_i h0
      refine ⟨(t.take k).set (k - 1) (spb ((s ++ t).getD (s.length + k - 1) 0) q), ?_, by simp; omega, ?_⟩
      · rw [List.take_length_add_append, List.set_append_right _ _ (by omega)]
        congr 2
        omega
      · right
        have e : ((t.take k).set (k - 1) (spb ((s ++ t).getD (s.length + k - 1) 0) q)).length = k := by rw [List.length_set, List.length_take]; omega
        rw [e, List.take_set_of_le (by omega), List.take_take]
        congr 1
        omega

def frsL (bs : List (List (List UInt8))) : List UInt8 := bs.flatMap (fun l => frameL (encL l))
def goodB (l : List (List UInt8)) : Prop := l.length ≤ 50 ∧ (encL l).length ≤ 40000
theorem tail_frame {x r t r' : List UInt8} (hx : x.length ≤ 40000) (hl : r.length ≤ (frameL x).length) (ht : r.length ≤ 1 ∨ r.take (r.length - 1) = (frameL x).take (r.length - 1)) (h : unframeL r = (t, r', 0)) : r = frameL x := by
  obtain ⟨hb, ht4⟩ := frame_back h
  have hlen := congrArg List.length hb
  rw [List.length_append, frame_len] at hlen
  rw [frame_len] at hl
  have hp := szN_pos t.length
  have hs4 : szN x.length ≤ 4 := by unfold szN; (repeat' split) <;> omega
  rcases ht with ht | ht
  · omega
  have e1 : r.take (szN x.length) = putL x.length := by
    have := congrArg (List.take (szN x.length)) ht
    rw [List.take_take, List.take_take, Nat.min_eq_left (by omega)] at this
    rw [this, frameL, List.take_left' (putL_len _)]
  have e2 : takeL r = (x.length, r.drop (szN x.length), true) := by
    have := take_put x.length (by omega) (r.drop (szN x.length))
    rwa [← e1, List.take_append_drop] at this
  have e3 : takeL r = (t.length, (t ++ bigL (crcN t) 4) ++ r', true) := by
    rw [← hb, frameL, List.append_assoc]
    exact take_put t.length (by omega) _
  have htx : t.length = x.length := by
    have := e3.symm.trans e2
    simp only [Prod.mk.injEq] at this
    exact this.1
  have hr' : r' = [] := by
    rw [← List.length_eq_zero_iff]
    rw [htx] at hlen
    omega
  subst hr'
  rw [List.append_nil] at hb
  have hxt : t = x := by
    have := congrArg (List.take (szN x.length + x.length)) ht
    rw [List.take_take, List.take_take, Nat.min_eq_left (by rw [htx] at hlen; omega), ← hb, frameL, frameL, ← List.append_assoc, ← List.append_assoc, List.take_left' (by rw [List.length_append, putL_len, htx]), List.take_left' (by rw [List.length_append, putL_len]), htx] at this
    exact List.append_cancel_left this
  rw [← hb, hxt]
theorem tail_read {x r : List UInt8} (hx : x.length ≤ 40000) (hl : r.length ≤ (frameL x).length) (ht : r.length ≤ 1 ∨ r.take (r.length - 1) = (frameL x).take (r.length - 1)) : ((readL r).1 = [] ∧ (readL r).2.1 = 0) ∨ r = frameL x := by
  by_cases hr : r = []
  · subst hr; exact Or.inl ⟨rfl, rfl⟩
  · obtain ⟨a, b, e, hF⟩ : ∃ a b e, firstL r = (a, b, e) := ⟨_, _, _, rfl⟩
    by_cases he : e = 0
    · subst he
      obtain ⟨t, hu, -, -⟩ := first_rest hF
      exact Or.inr (tail_frame hx hl ht hu)
    · rw [read_end hr hF he]
      exact Or.inl ⟨rfl, rfl⟩
theorem readsegs_nil (p : List UInt8) (l : List Nat) (M : RS) : joinS [] (readSegs p l M) = readSegs p l M := by
  unfold joinS
  by_cases h : (readSegs p l M).1 = 0
  · rw [if_pos h, List.nil_append]; rw [← h]
  · rw [if_neg h, ← read_err p l M h]
theorem readsegs_app {p : List UInt8} {f : Nat → List (List (List UInt8))} {M : RS} (n : Nat) : ∀ (ns : List Nat), (∀ m ∈ ns, (readL (bytesOf (fileN p m) M)).1 = f m ∧ (readL (bytesOf (fileN p m) M)).2.2 = 0) → readSegs p (ns ++ [n]) M = joinS (ns.flatMap f) (readSegs p [n] M)
  | [], _ => (readsegs_nil p [n] M).symm
  | m :: ns, h => by
    have ih := readsegs_app n ns (fun k hk => h k (by simp [hk]))
    obtain ⟨h1, h2⟩ := h m (by simp)
    rw [List.cons_append]
    conv => lhs; rw [readSegs]
    rw [if_pos h2, h1, ih, List.flatMap_cons]
    generalize readSegs p [n] M = R
    unfold joinS
    by_cases hR : R.1 = 0
    · simp only [hR, if_true, List.append_assoc]
    · simp only [hR, if_false]
theorem readsegs_one (p : List UInt8) (n : Nat) (M : RS) : readSegs p [n] M = if (readL (bytesOf (fileN p n) M)).2.2 = 0 then (0, (readL (bytesOf (fileN p n) M)).1, M)
    else if (mendS (fileN p n) ((readL (bytesOf (fileN p n) M)).2.1 : Nat) M).1 = 0 then (0, (readL (bytesOf (fileN p n) M)).1, (mendS (fileN p n) ((readL (bytesOf (fileN p n) M)).2.1 : Nat) M).2)
    else ((mendS (fileN p n) ((readL (bytesOf (fileN p n) M)).2.1 : Nat) M).1, [], (mendS (fileN p n) ((readL (bytesOf (fileN p n) M)).2.1 : Nat) M).2) := by
  rw [readSegs]
  simp only [readSegs, ne_eq, not_true_eq_false, if_false, if_true, List.append_nil]
structure HoldX (p : List UInt8) (L : List FI) (f : Nat → List (List (List UInt8))) (r : List UInt8) : Prop where
  ne : segsL p L ≠ []
  seg : ∀ n ∈ segsL p L, n ≠ lastN p L → ∃ y, getF (fileN p n) L = some y ∧ y.bytes = frsL (f n)
  last : ∃ y, getF (fileN p (lastN p L)) L = some y ∧ y.bytes = frsL (f (lastN p L)) ++ r
  good : ∀ n, ∀ l ∈ f n, goodB l
def Saved (L : List FI) : Prop := ∀ y ∈ L, y.safe = y.bytes.length
def allF (p : List UInt8) (L : List FI) (f : Nat → List (List (List UInt8))) : List (List (List UInt8)) := (segsL p L).flatMap f
theorem segs_split {p : List UInt8} {L : List FI} (h : segsL p L ≠ []) : segsL p L = (segsL p L).dropLast ++ [lastN p L] := by
  conv => lhs; rw [← List.dropLast_concat_getLast h]
  rw [show lastN p L = (segsL p L).getLast h by unfold lastN; rw [List.getLast?_eq_some_getLast h]; rfl]
theorem col_nodup (p : List UInt8) {L : List FI} (hs : Srt L) : (colL p L).Nodup := by
  unfold colL
  induction L with
  | nil => simp
  | cons x L ih =>
    have h2 := srt_cons.1 hs
    rw [List.map_cons, List.filter_cons]
    split
    · rename_i h0
      rw [List.nodup_cons]
      refine ⟨fun hm => ?_, ih h2.2⟩
      rw [List.mem_filter, List.mem_map] at hm
      obtain ⟨⟨y, hy, he⟩, -⟩ := hm
      have h0' : segN p x.name ≠ 0 := by simpa using h0
      have e1 := (seg_pos h0').1
      have e2 := (seg_pos (p := p) (nm := y.name) (by rw [he]; exact h0')).1
      have : x.name = y.name := by rw [e1, e2, he]
      have hb := h2.1 y hy
      rw [this, bl_irrefl] at hb
      cases hb
    · exact ih h2.2
theorem segs_nodup (p : List UInt8) {L : List FI} (hs : Srt L) : (segsL p L).Nodup := ((segs_perm p L).nodup_iff).2 (col_nodup p hs)
theorem segs_front {p : List UInt8} {L : List FI} (hs : Srt L) (h : segsL p L ≠ []) : ∀ n ∈ (segsL p L).dropLast, n ≠ lastN p L ∧ n ∈ segsL p L := fun n hn => by
  have hd := segs_nodup p hs
  rw [segs_split h, List.nodup_append] at hd
  exact ⟨fun e => hd.2.2 n hn (lastN p L) (by simp) e, List.dropLast_subset _ hn⟩
theorem all_split {p : List UInt8} {L : List FI} (h : segsL p L ≠ []) (f : Nat → List (List (List UInt8))) : allF p L f = (segsL p L).dropLast.flatMap f ++ f (lastN p L) := by
  unfold allF
  conv => lhs; rw [segs_split h]
  rw [List.flatMap_append]; simp
theorem read_frs {bs : List (List (List UInt8))} (h : ∀ l ∈ bs, goodB l) (s : List UInt8) : readL (frsL bs ++ s) = (bs ++ (readL s).1, (frsL bs).length + (readL s).2.1, (readL s).2.2) := read_frames bs s h
theorem mend_cases {p : List UInt8} {M : RS} (hM : M.ok) (hg : M.gone = false) {nm A r : List UInt8} {y : FI} (hy : getF nm M.L = some y) (hb : y.bytes = A ++ r) (hsv : Saved M.L) :
    ((mendS nm (A.length : Nat) M).1 = 0 ∨ (mendS nm (A.length : Nat) M).1 = 7) ∧ (M.turns = -1 → (mendS nm (A.length : Nat) M).1 = 0) ∧ Saved (mendS nm (A.length : Nat) M).2.L ∧ (∀ m, m ≠ nm → getF m (mendS nm (A.length : Nat) M).2.L = getF m M.L) ∧
      ∃ y', getF nm (mendS nm (A.length : Nat) M).2.L = some y' ∧ (y'.bytes = A ++ r ∨ y'.bytes = A) := by
  have hyn := getF_name hy
  obtain ⟨y1, hy1⟩ : ∃ y1 : FI, y1 = { y with bytes := y.bytes.take A.length, safe := min y.safe A.length } := ⟨_, rfl⟩
  have hy1n : y1.name = nm := by rw [hy1]; exact hyn
  have hy1b : y1.bytes = A := by rw [hy1]; show y.bytes.take A.length = A; rw [hb, List.take_left' rfl]
  have hy1s : y1.safe = y1.bytes.length := by
    rw [hy1b, hy1]
    show min y.safe A.length = A.length
    rw [hsv y (getF_mem hy), hb, List.length_append]; omega
  have hcut : cutS nm (A.length : Nat) M = chgS M (insS y1 M.L) := by
    unfold cutS onS
    rw [if_neg (by rw [hg]; simp), hy]
    simp only
    rw [if_neg (by rw [hb, List.length_append]; omega), hy1, Int.toNat_natCast]
  have hins : ∀ m, getF m (insS y1 M.L) = if m = nm then some y1 else getF m M.L := fun m => by rw [getF_ins y1 hM.srt, hy1n]
  have hsv1 : Saved (insS y1 M.L) := fun z hz => by
    rcases mem_ins hz with rfl | hz
    · exact hy1s
    · exact hsv z hz
  have hs1 : Srt (insS y1 M.L) := srt_ins y1 hM.srt
  by_cases ht : M.turns = 0
  · have hc : cutS nm (A.length : Nat) M = (7, (turnS M).2) := by rw [hcut]; unfold chgS; rw [if_pos ht]
    have hm : mendS nm (A.length : Nat) M = (7, (turnS M).2) := by unfold mendS; rw [hc]; simp
    rw [hm]
    simp only [turn_L]
    exact ⟨by simp, fun h => by omega, hsv, by simp, y, hy, Or.inl hb⟩
  · have hc : cutS nm (A.length : Nat) M = (0, { (turnS M).2 with L := insS y1 M.L }) := by rw [hcut]; unfold chgS; rw [if_neg ht]
    have hm : mendS nm (A.length : Nat) M = flushS nm { (turnS M).2 with L := insS y1 M.L } := by unfold mendS; rw [hc]; simp
    obtain ⟨M1, hM1⟩ : ∃ M1 : RS, M1 = { (turnS M).2 with L := insS y1 M.L } := ⟨_, rfl⟩
    rw [← hM1] at hm
    have hg1 : M1.gone = false := by rw [hM1]; show (turnS M).2.gone = false; unfold turnS; rw [if_neg ht]; split <;> exact hg
    have hL1 : M1.L = insS y1 M.L := by rw [hM1]
    have ht1 : M.turns = -1 → M1.turns = -1 := fun h => by rw [hM1]; show (turnS M).2.turns = -1; unfold turnS; rw [if_neg ht, if_neg (by omega)]; exact h
    obtain ⟨y2, hy2⟩ : ∃ y2 : FI, y2 = { y1 with safe := y1.bytes.length } := ⟨_, rfl⟩
    have hfl : flushS nm M1 = chgS M1 (insS y2 M1.L) := by
      unfold flushS onS
      rw [if_neg (by rw [hg1]; simp), hL1, hins, if_pos rfl, hy2]
    rw [hm, hfl]
    have hy2n : y2.name = nm := by rw [hy2]; exact hy1n
    by_cases ht2 : M1.turns = 0
    · have hc2 : chgS M1 (insS y2 M1.L) = (7, (turnS M1).2) := by unfold chgS; rw [if_pos ht2]
      rw [hc2]
      simp only [turn_L, hL1]
      exact ⟨by simp, fun h => by have := ht1 h; omega, hsv1, fun m hm => by rw [hins, if_neg hm], y1, by rw [hins, if_pos rfl], Or.inr hy1b⟩
    · have hc2 : chgS M1 (insS y2 M1.L) = (0, { (turnS M1).2 with L := insS y2 M1.L }) := by unfold chgS; rw [if_neg ht2]
      rw [hc2]
      simp only [hL1]
      have hins2 : ∀ m, getF m (insS y2 (insS y1 M.L)) = if m = nm then some y2 else getF m M.L := fun m => by
        rw [getF_ins y2 hs1, hy2n]
        by_cases h : m = nm
        · rw [if_pos h, if_pos h]
        · rw [if_neg h, if_neg h, hins, if_neg h]
      exact ⟨by simp, fun _ => by simp, fun z hz => by
        rcases mem_ins hz with rfl | hz
        · rw [hy2]
        · exact hsv1 z hz, fun m hm => by rw [hins2, if_neg hm], y2, by rw [hins2, if_pos rfl], Or.inr (by rw [hy2]; exact hy1b)⟩
theorem open_hold {p : List UInt8} {M : RS} (hM : M.ok) (hg : M.gone = false) (hp : nameJ p = true) {f : Nat → List (List (List UInt8))} {l : List (List UInt8)} {r : List UInt8} (h : HoldX p M.L f r)
    (hr : ((readL r).1 = [] ∧ (readL r).2.1 = 0) ∨ (r = frameL (encL l) ∧ goodB l)) (hsv : Saved M.L) :
    ((jopen p M).1 = 0 → (jopen p M).2.1 = allF p M.L f ∨ (r = frameL (encL l) ∧ (jopen p M).2.1 = allF p M.L f ++ [l])) ∧ (M.turns = -1 → (jopen p M).1 = 0) ∧
      ((jopen p M).1 ≠ 0 → segsL p (jopen p M).2.2.L = segsL p M.L ∧ Saved (jopen p M).2.2.L ∧ ∃ r', HoldX p (jopen p M).2.2.L f r' ∧ (readL r').1 = [] ∧ (readL r').2.1 = 0) ∧ ((readL r).2.2 = 0 → jopen p M = (0, (jopen p M).2.1, M)) := by
  obtain ⟨y, hy, hyb⟩ := h.last
  have hB : bytesOf (fileN p (lastN p M.L)) M = frsL (f (lastN p M.L)) ++ r := by rw [bytesOf_get hy, hyb]
  have hR := read_frs (h.good (lastN p M.L)) r
  have hJ : jopen p M = joinS ((segsL p M.L).dropLast.flatMap f) (readSegs p [lastN p M.L] M) := by
    unfold jopen
    rw [if_neg (by rw [hp]; simp), if_neg (by rw [hg]; simp), if_neg h.ne]
    conv => lhs; rw [segs_split h.ne]
    refine readsegs_app (lastN p M.L) _ (fun m hm => ?_)
    obtain ⟨h1, h2⟩ := segs_front hM.srt h.ne m hm
    obtain ⟨z, hz, hzb⟩ := h.seg m h2 h1
    have := read_frs (h.good m) []
    rw [List.append_nil, read_nil] at this
    rw [bytesOf_get hz, hzb, this]
    simp
  have hone := readsegs_one p (lastN p M.L) M
  rw [hB, hR] at hone
  simp only at hone
  have hall := all_split h.ne f
  rcases hr with ⟨hr1, hr2⟩ | ⟨hr0, hgl⟩
  · rw [hr1, hr2, List.append_nil, Nat.add_zero] at hone
    by_cases h0 : (readL r).2.2 = 0
    · rw [if_pos h0] at hone
      rw [hone, join_zero] at hJ
      rw [hJ]
      exact ⟨fun _ => Or.inl hall.symm, fun _ => rfl, fun h => absurd rfl h, fun _ => rfl⟩
    · rw [if_neg h0] at hone
      obtain ⟨q1, q2, q3, q4, y', q5, q6⟩ := mend_cases (p := p) hM hg hy hyb hsv
      have hnm := mend_names hM (fileN p (lastN p M.L)) ((frsL (f (lastN p M.L))).length : Nat)
      generalize mendS (fileN p (lastN p M.L)) ((frsL (f (lastN p M.L))).length : Nat) M = m at *
      by_cases hm : m.1 = 0
      · rw [if_pos hm] at hone
        rw [hone, join_zero] at hJ
        rw [hJ]
        exact ⟨fun _ => Or.inl hall.symm, fun _ => rfl, fun h => absurd rfl h, fun h => absurd h h0⟩
      · rw [if_neg hm] at hone
        rw [hone, join_err _ _ _ hm] at hJ
        rw [hJ]
        have hsg := segs_names (p := p) hnm
        have hln := last_names (p := p) hnm
        refine ⟨fun h => absurd h hm, fun h => absurd (q2 h) hm, fun _ => ⟨hsg, q3, ?_⟩, fun h => absurd h h0⟩
        have hseg : ∀ n ∈ segsL p m.2.L, n ≠ lastN p m.2.L → ∃ y, getF (fileN p n) m.2.L = some y ∧ y.bytes = frsL (f n) := fun n hn hne => by
          rw [hsg] at hn
          rw [hln] at hne
          obtain ⟨z, hz, hzb⟩ := h.seg n hn hne
          exact ⟨z, by rw [q4 _ (fun e => hne (file_inj e)), hz], hzb⟩
        rcases q6 with q6 | q6
        · exact ⟨r, ⟨by rw [hsg]; exact h.ne, hseg, ⟨y', by rw [hln]; exact q5, by rw [hln]; exact q6⟩, h.good⟩, hr1, hr2⟩
        · exact ⟨[], ⟨by rw [hsg]; exact h.ne, hseg, ⟨y', by rw [hln]; exact q5, by rw [hln, List.append_nil]; exact q6⟩, h.good⟩, rfl, rfl⟩
  · have hrr : readL r = ([l], r.length, 0) := by
      have := read_frs (bs := [l]) (fun m hm => by rw [List.mem_singleton] at hm; subst hm; exact hgl) []
      simp only [frsL, List.flatMap_cons, List.flatMap_nil, List.append_nil, read_nil] at this
      rw [hr0, this]; simp
    rw [hrr] at hone
    simp only [if_true] at hone
    rw [hone, join_zero] at hJ
    rw [hJ, hrr]
    exact ⟨fun _ => Or.inr ⟨hr0, by rw [hall, List.append_assoc]⟩, fun _ => rfl, fun h => absurd rfl h, fun _ => rfl⟩
theorem crashF_saved (lf sp : List Int) : ∀ (L : List FI) (k : Nat), Saved L → crashF lf sp k L = L
  | [], _, _ => rfl
  | x :: L, k, h => by
    rw [crashF, if_pos (h x (by simp)), crashF_saved lf sp L k (fun y hy => h y (by simp [hy]))]
theorem crash_holdx {p : List UInt8} {M : RS} (hM : M.ok) (lf sp : List Int) {f : Nat → List (List (List UInt8))} {x : List UInt8} (hx : x.length ≤ 40000) (h : HoldX p M.L f (frameL x)) (hs : ∀ n ∈ segsL p M.L, n ≠ lastN p M.L → ∀ y, getF (fileN p n) M.L = some y → y.safe = y.bytes.length)
    (hl : ∀ y, getF (fileN p (lastN p M.L)) M.L = some y → y.safe = (frsL (f (lastN p M.L))).length) :
    ∃ r, HoldX p (crashF lf sp 0 M.L) f r ∧ (((readL r).1 = [] ∧ (readL r).2.1 = 0) ∨ r = frameL x) := by
  have hnm := crash_names lf sp M.L 0
  have hsg := segs_names (p := p) hnm
  have hln := last_names (p := p) hnm
  obtain ⟨y, hy, hyb⟩ := h.last
  have hys := hl y hy
  obtain ⟨j, hj⟩ := (jcrash_get lf sp (fileN p (lastN p M.L)) M.L 0).2 y hy
  have hy2 : y = ⟨y.name, frsL (f (lastN p M.L)) ++ frameL x, (frsL (f (lastN p M.L))).length⟩ := by rw [← hyb, ← hys]
  obtain ⟨r, h1, h2, h3⟩ := jcrO_bytes (atN lf j) (atN sp j) y.name (frsL (f (lastN p M.L))) (frameL x)
  rw [← hy2] at h1
  refine ⟨r, ⟨by rw [hsg]; exact h.ne, fun n hn hne => ?_, ⟨_, by rw [hln]; exact hj, by rw [hln]; exact h1⟩, h.good⟩, tail_read hx h2 h3⟩
  rw [hsg] at hn
  rw [hln] at hne
  obtain ⟨z, hz, hzb⟩ := h.seg n hn hne
  obtain ⟨j2, hj2⟩ := (jcrash_get lf sp (fileN p n) M.L 0).2 z hz
  refine ⟨_, hj2, ?_⟩
  unfold jcrO
  rw [if_pos (hs n hn hne z hz)]
  exact hzb
end Go.Proofs.YtlmlcnbgdaiaeaaGreatDoor
/- moultlaw7's pick, same, sameAll, sameInts. -/
namespace Go.Proofs.YtlmlcnbgdaiaeaaGreatDoor
open Go.RowKit Go.Deep Go.Maps

theorem jpick_same (c : Int) (n : Nat) (w : World) (hc : in64 c) (hn : 0 < n) (hn2 : n ≤ 1000000) :
    Calls Tryz.prog 10 #[.int .i64 c, .int .i64 n] w fun e w' => e = .returned (.int .i64 (pickN c n : Nat)) ∧ w' = w := by
  obtain ⟨h1, h2⟩ := hc
  by_cases h : c < 0
  · obtain ⟨m, rfl⟩ : ∃ m : Nat, c = -(m : Int) - 1 := ⟨(-(c + 1)).toNat, by omega⟩
    have HP := Lib.hid (show ((pickN (-(m : Int) - 1) n : Nat) : Int) = (m : Int) % (n : Int) by
      unfold pickN
      rw [if_pos h, show (-(-(m : Int) - 1 + 1)).toNat = m by omega, Int.natCast_emod])
    go_enter Tryz.func10, Tryz.ntmps10
    go_wp2
    go_ret
    exact ⟨ret_int (by rw [HP.out]), rfl⟩
  · obtain ⟨m, rfl⟩ : ∃ m : Nat, c = m := ⟨c.toNat, by omega⟩
    have HP := Lib.hid (show ((pickN m n : Nat) : Int) = (m : Int) % (n : Int) by
      unfold pickN
      rw [if_neg h, Int.toNat_natCast, Int.natCast_emod])
    go_enter Tryz.func10, Tryz.ntmps10
    go_wp2
    go_ret
    exact ⟨ret_int (by rw [HP.out]), rfl⟩
theorem jpick_at (c x : Int) (n : Nat) (w : World) (hc : in64 c) (hn : 0 < n) (hn2 : n ≤ 1000000) (hx : x = n) :
    Calls Tryz.prog 10 #[.int .i64 c, .int .i64 x] w fun e w' => e = .returned (.int .i64 (pickN c n : Nat)) ∧ w' = w := by
  subst hx; exact jpick_same c n w hc hn hn2

theorem take_ext {α : Type} [Inhabited α] {l m : List α} {k : Nat} (hk : k < l.length) (hk' : k < m.length) (h : l.take k = m.take k) (he : l[k] = m[k]) : l.take (k + 1) = m.take (k + 1) := by
  rw [List.take_add_one, List.take_add_one, List.getElem?_eq_getElem hk, List.getElem?_eq_getElem hk', h, he]
def SeRel {α : Type} (l m : List α) (i : Value) : Prop := ∃ k : Nat, i = .int .i64 k ∧ k ≤ l.length ∧ l.take k = m.take k
theorem ne_at {α : Type} {l m : List α} {k : Nat} (hk : k < l.length) (hk' : k < m.length) (h : l[k] ≠ m[k]) : l ≠ m := by
  rintro rfl; exact h rfl
set_option maxHeartbeats 4000000 in
theorem jsame_any (w : World) (p q : Option Addr) (cap cap' : Nat) (l m : List (List UInt8)) (h : StrsAt w p l) (h' : StrsAt w q m) (hl : l.length ≤ 1000000) (hm : m.length ≤ 1000000) :
    Calls Tryz.prog 43 #[.slice p l.length cap, .slice q m.length cap'] w fun e w' => e = .returned (.bool (decide (l = m))) ∧ Drw w w' := by
  have H := Lib.hid h; clear h
  have H' := Lib.hid h'; clear h'
  by_cases hlen : l.length = m.length
  · have HLN := Lib.hid hlen
    go_enter Tryz.func43, Tryz.ntmps43
    go_wp2_with (fail)
    go_loopw [5] (fun i x => SeRel l m i ∧ Drw w x) (fun i _ => l.length - (intOf i).toNat)
    case atStart => exact ⟨⟨0, rfl, Nat.zero_le _, by simp⟩, Drw.refl w⟩
    case round =>
      obtain ⟨⟨k, rfl, hk, htk⟩, hw⟩ := hrel
      have HW := Lib.hid hw; clear hw
      have HT := Lib.hid htk; clear htk
      by_cases hlt : k < l.length
      · have hlt' : k < m.length := by omega
        obtain ⟨a, rfl, hc⟩ := (H.out.bel HW.out.bel) k hlt
        obtain ⟨b, rfl, hd⟩ := (H'.out.bel HW.out.bel) k hlt'
        by_cases he : l[k] = m[k]
        · have HN := Lib.hid (take_ext hlt hlt' HT.out he)
          rw [← he] at hd
          obtain ⟨x, hx⟩ : ∃ x, x = l[k] := ⟨_, rfl⟩
          rw [← hx] at hc hd
          clear hx he
          go_wp2_with (fail)
          go_quiet (fail)
          go_wp2_with (fail)
          go_roundw
          case rel => exact ⟨⟨k + 1, by go_num, by omega, HN.out⟩, HW.out.drewN _⟩
          case measure => simp [intOf]; omega
        · have HE := Lib.hid (show decide (l = m) = false from decide_eq_false (ne_at hlt hlt' he))
          obtain ⟨x, hx⟩ : ∃ x, x = l[k] := ⟨_, rfl⟩
          obtain ⟨y, hy⟩ : ∃ y, y = m[k] := ⟨_, rfl⟩
          rw [← hx] at hc he
          rw [← hy] at hd he
          clear hx hy
          have q1 : (x == y) = false := by rw [beq_eq_false_iff_ne]; exact he
          have q2 : ((⟨x.toArray⟩ : ByteArray).toList == (⟨y.toArray⟩ : ByteArray).toList) = false := by rw [beq_eq_false_iff_ne, ByteArray.toList_eq, ByteArray.toList_eq, str_list, str_list]; exact he
          have q3 : ((⟨x.toArray⟩ : ByteArray).toList != (⟨y.toArray⟩ : ByteArray).toList) = true := by rw [bne, q2]; rfl
          have q4 : (x != y) = true := by rw [bne, q1]; rfl
          go_wp2_with (fail)
          go_quiet (fail)
          go_wp2_with (fail)
          go_ret
          exact ⟨by rw [HE.out]; rfl, HW.out.drewN _⟩
      · obtain rfl : k = l.length := by omega
        have HE := Lib.hid (show decide (l = m) = true by
          have := HT.out
          rw [List.take_length, HLN.out, List.take_length] at this
          exact decide_eq_true this)
        go_wp2_with (fail)
        go_ret
        exact ⟨by rw [HE.out]; rfl, HW.out⟩
  · have HE := Lib.hid (show decide (l = m) = false from decide_eq_false (fun e => hlen (by rw [e])))
    have hz : ((l.length : Int) == (m.length : Int)) = false := by rw [beq_eq_false_iff_ne]; omega
    have hz2 : ((l.length : Int) != (m.length : Int)) = true := by rw [bne, hz]; rfl
    go_enter Tryz.func43, Tryz.ntmps43
    go_wp2_with (fail)
    go_ret
    exact ⟨by rw [HE.out]; rfl, Drw.refl w⟩
set_option maxHeartbeats 4000000 in
theorem jints_any (w : World) (va vb : Value) (l m : List Nat) (B B' : Nat) (h : OwnG intEl B w va (l.map fun n : Nat => (n : Int))) (h' : OwnG intEl B' w vb (m.map fun n : Nat => (n : Int))) (hl : l.length ≤ 1000000) (hm : m.length ≤ 1000000) :
    Calls Tryz.prog 28 #[va, vb] w fun e w' => e = .returned (.bool (decide (l = m))) ∧ Drw w w' := by
  obtain ⟨p, cap, hva⟩ := ownG_len h
  rw [List.length_map] at hva
  obtain ⟨q, cap', hvb⟩ := ownG_len h'
  rw [List.length_map] at hvb
  subst hva hvb
  have H := Lib.hid h; clear h
  have H' := Lib.hid h'; clear h'
  by_cases hlen : l.length = m.length
  · have HLN := Lib.hid hlen
    go_enter Tryz.func28, Tryz.ntmps28
    go_wp2_with (fail)
    go_loopw [5] (fun i x => SeRel l m i ∧ Drw w x) (fun i _ => l.length - (intOf i).toNat)
    case atStart => exact ⟨⟨0, rfl, Nat.zero_le _, by simp⟩, Drw.refl w⟩
    case round =>
      obtain ⟨⟨k, rfl, hk, htk⟩, hw⟩ := hrel
      have HW := Lib.hid hw; clear hw
      have HT := Lib.hid htk; clear htk
      by_cases hlt : k < l.length
      · have hlt' : k < m.length := by omega
        obtain ⟨g, c1, hv, _, _, hc⟩ := int_at (H.out.bel HW.out.bel) k hlt
        simp only [Value.slice.injEq, true_and] at hv
        obtain ⟨rfl, rfl⟩ := hv
        obtain ⟨g2, c2, hv, _, _, hd⟩ := int_at (H'.out.bel HW.out.bel) k hlt'
        simp only [Value.slice.injEq, true_and] at hv
        obtain ⟨rfl, rfl⟩ := hv
        by_cases he : l[k] = m[k]
        · have HN := Lib.hid (take_ext hlt hlt' HT.out he)
          rw [← he] at hd
          obtain ⟨x, hx⟩ : ∃ x, x = l[k] := ⟨_, rfl⟩
          rw [← hx] at hc hd
          clear hx he
          go_wp2_with (fail)
          go_quiet (fail)
          go_wp2_with (fail)
          go_roundw
          case rel => exact ⟨⟨k + 1, by go_num, by omega, HN.out⟩, HW.out.drewN _⟩
          case measure => simp [intOf]; omega
        · have HE := Lib.hid (show decide (l = m) = false from decide_eq_false (ne_at hlt hlt' he))
          obtain ⟨x, hx⟩ : ∃ x, x = l[k] := ⟨_, rfl⟩
          obtain ⟨y, hy⟩ : ∃ y, y = m[k] := ⟨_, rfl⟩
          rw [← hx] at hc he
          rw [← hy] at hd he
          clear hx hy
          have q1 : ((x : Int) == (y : Int)) = false := by rw [beq_eq_false_iff_ne]; omega
          have q4 : ((x : Int) != (y : Int)) = true := by rw [bne, q1]; rfl
          go_wp2_with (fail)
          go_quiet (fail)
          go_wp2_with (fail)
          go_ret
          exact ⟨by rw [HE.out]; rfl, HW.out.drewN _⟩
      · obtain rfl : k = l.length := by omega
        have HE := Lib.hid (show decide (l = m) = true by
          have := HT.out
          rw [List.take_length, HLN.out, List.take_length] at this
          exact decide_eq_true this)
        go_wp2_with (fail)
        go_ret
        exact ⟨by rw [HE.out]; rfl, HW.out⟩
  · have HE := Lib.hid (show decide (l = m) = false from decide_eq_false (fun e => hlen (by rw [e])))
    have hz : ((l.length : Int) == (m.length : Int)) = false := by rw [beq_eq_false_iff_ne]; omega
    have hz2 : ((l.length : Int) != (m.length : Int)) = true := by rw [bne, hz]; rfl
    go_enter Tryz.func28, Tryz.ntmps28
    go_wp2_with (fail)
    go_ret
    exact ⟨by rw [HE.out]; rfl, Drw.refl w⟩
theorem row_at {P : Nat → Prop} {x : World} {p : Option Addr} {L : List (List (List UInt8))} (h : RowL P x p L) (k : Nat) (hk : k < L.length) : ∃ a sp sc, p = some a ∧ x.cell? (a.add k) = some (.slice sp L[k].length sc) ∧ StrsAt x sp L[k] := by
  obtain ⟨H, h1, h2, h3⟩ := h.ex
  obtain ⟨a, ha, _, hc⟩ := h2 k H[k] (List.getElem?_eq_getElem (by omega))
  have q := h3 k H[k] L[k] (List.getElem?_eq_getElem (by omega)) (List.getElem?_eq_getElem hk)
  refine ⟨a, H[k].p, H[k].cap, ha, ?_, q.at_⟩
  rw [hc, SL.val, q.len]
set_option maxHeartbeats 4000000 in
theorem jall_any (w : World) (P Q : Nat → Prop) (p q : Option Addr) (cap cap' : Nat) (L M : List (List (List UInt8))) (h : RowL P w p L) (h' : RowL Q w q M) (hl : L.length ≤ 1000000000) (hm : M.length ≤ 1000000000) (hL : ∀ l ∈ L, l.length ≤ 1000000) (hM : ∀ l ∈ M, l.length ≤ 1000000) :
    Calls Tryz.prog 14 #[.slice p L.length cap, .slice q M.length cap'] w fun e w' => e = .returned (.bool (decide (L = M))) ∧ Bel w w' := by
  have H := Lib.hid h; clear h
  have H' := Lib.hid h'; clear h'
  have HL := Lib.hid hL
  have HM := Lib.hid hM
  clear hL hM
  by_cases hlen : L.length = M.length
  · have HLN := Lib.hid hlen
    have hzz : ((L.length : Int) == (M.length : Int)) = true := by rw [beq_iff_eq]; omega
    have hzb : ((L.length : Int) != (M.length : Int)) = false := by rw [bne, hzz]; rfl
    clear hlen
    go_enter Tryz.func14, Tryz.ntmps14
    go_wp2_with (fail)
    go_loopw [5] (fun i x => SeRel L M i ∧ Bel w x) (fun i _ => L.length - (intOf i).toNat)
    case atStart => exact ⟨⟨0, rfl, Nat.zero_le _, by simp⟩, Bel.refl w⟩
    case round =>
      obtain ⟨⟨k, rfl, hk, htk⟩, hw⟩ := hrel
      have HW := Lib.hid hw; clear hw
      have HT := Lib.hid htk; clear htk
      by_cases hlt : k < L.length
      · have hlt' : k < M.length := by rw [← HLN.out]; exact hlt
        obtain ⟨a, sp, sc, rfl, hc, ha⟩ := row_at (H.out.bel HW.out) k hlt
        obtain ⟨b, sq, sd, rfl, hd, hb⟩ := row_at (H'.out.bel HW.out) k hlt'
        have hx1 := HL.out _ (List.getElem_mem hlt)
        have hx2 := HM.out _ (List.getElem_mem hlt')
        have HN := Lib.hid (take_ext (l := L) (m := M) hlt hlt' HT.out)
        have HE := Lib.hid (show L[k] ≠ M[k] → decide (L = M) = false from fun he => decide_eq_false (ne_at hlt hlt' he))
        obtain ⟨x, hx⟩ : ∃ x, x = L[k] := ⟨_, rfl⟩
        obtain ⟨y, hy⟩ : ∃ y, y = M[k] := ⟨_, rfl⟩
        rw [← hx] at hc ha hx1 HN HE
        rw [← hy] at hd hb hx2 HN HE
        have HC := Lib.hid (fun z (hz : Bel _ z) => jsame_any z sp sq sc sd x y (ha.bel hz) (hb.bel hz) hx1 hx2)
        clear hx hy
        go_wp2_with (fail)
        refine wp_region_held_drew (S := fun z => z.cell? (a.add k) = some (.slice sp x.length sc) ∧ z.cell? (b.add k) = some (.slice sq y.length sd)) (by kernel_rfl) ⟨hc, hd⟩ (fun hHeld => ?_)
        refine tk (oi := { dst := some 17, op := Op.move (Operand.tmp 0), type := 30, pos := "law.go:38", after := #[], guard := none }) (v := ?_) 0 rfl ?_ ?_
        rotate_left
        · (intro w hSw; (try dsimp only at hSw); first | (go_simp; done) | (go_simp; with_reducible rfl))
        try simp only [Act.put, List.setIfInBounds_toArray, List.set_cons_zero, List.set_cons_succ]
        refine tk (oi := { dst := some 18, op := Op.move (Operand.tmp 5), type := 3, pos := "law.go:38", after := #[], guard := none }) (v := ?_) 1 rfl ?_ ?_
        rotate_left
        · (intro w hSw; (try dsimp only at hSw); first | (go_simp; done) | (go_simp; with_reducible rfl))
        try simp only [Act.put, List.setIfInBounds_toArray, List.set_cons_zero, List.set_cons_succ]
        refine tk (oi := { dst := some 19, op := Op.indexAddr 30 (Operand.tmp 17) (Operand.tmp 18), type := 0, pos := "law.go:38", after := #[{ on := 0, ground := Ground.data }, { on := 1, ground := Ground.data }], guard := none }) (v := ?_) 2 rfl ?_ ?_
        rotate_left
        · (intro w hSw; (try dsimp only at hSw); first | (go_simp; done) | (go_simp; with_reducible rfl))
        try simp only [Act.put, List.setIfInBounds_toArray, List.set_cons_zero, List.set_cons_succ]
        refine tk (oi := { dst := some 20, op := Op.load 34 (Operand.tmp 19), type := 34, pos := "law.go:38", after := #[{ on := 2, ground := Ground.data }], guard := none }) (v := ?_) 3 rfl ?_ ?_
        rotate_left
        · (intro w hSw; (try dsimp only at hSw); first | (go_simp; done) | (go_simp; with_reducible rfl))
        try simp only [Act.put, List.setIfInBounds_toArray, List.set_cons_zero, List.set_cons_succ]
        refine tk (oi := { dst := some 21, op := Op.move (Operand.tmp 1), type := 30, pos := "law.go:38", after := #[], guard := none }) (v := ?_) 4 rfl ?_ ?_
        rotate_left
        · (intro w hSw; (try dsimp only at hSw); first | (go_simp; done) | (go_simp; with_reducible rfl))
        try simp only [Act.put, List.setIfInBounds_toArray, List.set_cons_zero, List.set_cons_succ]
        refine tk (oi := { dst := some 22, op := Op.move (Operand.tmp 5), type := 3, pos := "law.go:38", after := #[], guard := none }) (v := ?_) 5 rfl ?_ ?_
        rotate_left
        · (intro w hSw; (try dsimp only at hSw); first | (go_simp; done) | (go_simp; with_reducible rfl))
        try simp only [Act.put, List.setIfInBounds_toArray, List.set_cons_zero, List.set_cons_succ]
        refine tk (oi := { dst := some 23, op := Op.indexAddr 30 (Operand.tmp 21) (Operand.tmp 22), type := 0, pos := "law.go:38", after := #[{ on := 4, ground := Ground.data }, { on := 5, ground := Ground.data }], guard := none }) (v := ?_) 6 rfl ?_ ?_
        rotate_left
        · (intro w hSw; (try dsimp only at hSw); first | (go_simp; done) | (go_simp; with_reducible rfl))
        try simp only [Act.put, List.setIfInBounds_toArray, List.set_cons_zero, List.set_cons_succ]
        refine tk (oi := { dst := some 24, op := Op.load 34 (Operand.tmp 23), type := 34, pos := "law.go:38", after := #[{ on := 6, ground := Ground.data }], guard := none }) (v := ?_) 7 rfl ?_ ?_
        rotate_left
        · (intro w hSw; (try dsimp only at hSw); first | (go_simp; done) | (go_simp; with_reducible rfl))
        try simp only [Act.put, List.setIfInBounds_toArray, List.set_cons_zero, List.set_cons_succ]
        refine wpAnyH_ready (rs := [8]) (by kernel_rfl) (by simp) ?_
        refine AllReadyH.cons (o := { dst := some 25, op := Op.call { callee := Callee.value (Operand.func 43), args := #[Operand.tmp 20, Operand.tmp 24], argTypes := #[34, 34] }, type := 4, pos := "law.go:38", after := #[{ on := 3, ground := Ground.data }, { on := 7, ground := Ground.data }], guard := none }) rfl (fun K hK => ?_) AllReadyH.nil
        go_simp
        refine (HC.out _ (Bel.refl _).drew).mono ?_
        rintro e z ⟨rfl, hdz⟩
        have HZ := Lib.hid (HW.out.drew.trans hdz.bel)
        have hc' := cell_later hdz.bel (show _ = _ from hc)
        have hd' := cell_later hdz.bel (show _ = _ from hd)
        clear hdz
        dsimp only
        refine hK.out _ _ ⟨hc', hd'⟩ (fun hHeld => ?_)
        clear hK K
        try simp only [Act.put, List.setIfInBounds_toArray, List.set_cons_zero, List.set_cons_succ]
        by_cases he : x = y
        · have HN2 := Lib.hid (HN.out he)
          have hdx : decide (x = y) = true := decide_eq_true he
          rw [hdx]
          clear he
          refine tk (oi := { dst := some 26, op := Op.unOp UnOp.not 4 (Operand.tmp 25), type := 4, pos := "law.go:38", after := #[{ on := 8, ground := Ground.data }], guard := none }) (v := ?_) 9 rfl ?_ ?_
          rotate_left
          · (intro w hSw; (try dsimp only at hSw); first | (go_simp; done) | (go_simp; with_reducible rfl))
          try simp only [Act.put, List.setIfInBounds_toArray, List.set_cons_zero, List.set_cons_succ]
          refine wpAnyH_done (by kernel_rfl) ?_ _
          go_wp2_with (fail)
          go_roundw
          case rel => exact ⟨⟨k + 1, by go_num, by omega, HN2.out⟩, HZ.out⟩
          case measure => simp [intOf]; omega
        · have HE2 := Lib.hid (HE.out he)
          have hdx : decide (x = y) = false := decide_eq_false he
          rw [hdx]
          clear he
          refine tk (oi := { dst := some 26, op := Op.unOp UnOp.not 4 (Operand.tmp 25), type := 4, pos := "law.go:38", after := #[{ on := 8, ground := Ground.data }], guard := none }) (v := ?_) 9 rfl ?_ ?_
          rotate_left
          · (intro w hSw; (try dsimp only at hSw); first | (go_simp; done) | (go_simp; with_reducible rfl))
          try simp only [Act.put, List.setIfInBounds_toArray, List.set_cons_zero, List.set_cons_succ]
          refine wpAnyH_done (by kernel_rfl) ?_ _
          go_wp2_with (fail)
          go_ret
          exact ⟨by rw [HE2.out]; rfl, HZ.out⟩
      · obtain rfl : k = L.length := by omega
        have HE := Lib.hid (show decide (L = M) = true by
          have := HT.out
          rw [List.take_length, HLN.out, List.take_length] at this
          exact decide_eq_true this)
        go_wp2_with (fail)
        go_ret
        exact ⟨by rw [HE.out]; rfl, HW.out⟩
  · have HE := Lib.hid (show decide (L = M) = false from decide_eq_false (fun e => hlen (by rw [e])))
    have hz : ((L.length : Int) == (M.length : Int)) = false := by rw [beq_eq_false_iff_ne]; omega
    have hz2 : ((L.length : Int) != (M.length : Int)) = true := by rw [bne, hz]; rfl
    go_enter Tryz.func14, Tryz.ntmps14
    go_wp2_with (fail)
    go_ret
    exact ⟨by rw [HE.out]; rfl, Bel.refl w⟩
end Go.Proofs.YtlmlcnbgdaiaeaaGreatDoor
/- moultlaw7's shown. -/
namespace Go.Proofs.YtlmlcnbgdaiaeaaGreatDoor
open Go.RowKit Go.Deep Go.Maps

def JSB (w x : World) (b : Nat) (M : RS) (jb : Nat) (p : ByteArray) (most : Int) : Prop := ∃ F, JS w.heap.size x b M F jb p most ∧ Bel w x
section
variable {w x y : World} {b jb : Nat} {M M1 : RS} {F : List Nat} {p : ByteArray} {most : Int}
theorem js_of (hs : Std w) (hb : Bel w x) (hp : ProgAt w.heap.size x b M F) (hM : M.ok) (hj : JAt x jb b p most) (ho : jb ∉ F) : JS w.heap.size x b M F jb p most :=
  ⟨hp, hM, hj, ho, fun z hz => hs.bel (((Keep.of_bel hb F).trans hz (fun k hk => Or.inl hk)).bel (fun k hk => (hp.within k hk).1))⟩
theorem JSB.bel (h : JSB w x b M jb p most) (hb : Bel x y) : JSB w y b M jb p most := by
  obtain ⟨F, h1, h2⟩ := h
  exact ⟨F, h1.bel hb, h2.trans hb⟩
theorem jsb_of (h : JS w.heap.size x b M F jb p most) (hb : Bel w x) (hT : ProgTo w.heap.size x y b M1 F) (hM : M1.ok) : JSB w y b M1 jb p most := by
  obtain ⟨F1, q1, q2, q3⟩ := h.step hT hM
  exact ⟨F1, q1, ((Keep.of_bel hb F).trans q2 (fun k hk => Or.inl hk)).bel (fun k hk => (h.prog.within k hk).1)⟩
theorem JSB.low (h : JSB w x b M jb p most) : Bel w x := by obtain ⟨F, _, h2⟩ := h; exact h2
theorem JSB.good (h : JSB w x b M jb p most) : M.ok := by obtain ⟨F, h1, _⟩ := h; exact h1.ok
theorem jsb_write (h : JSB w x b M jb p most) (hp : p.size ≤ 100) (lp : Option Addr) (lc : Nat) (L : List (List UInt8)) (h0 : lastN p.data.toList M.L ≠ 0) (h9 : lastN p.data.toList M.L < 9999999) (hmost : in64 most) {z : World} (hz : Bel x z)
    (hl : StrsAt z lp L) (hL : L.length ≤ maxLen) (ht : ∀ t ∈ L, t.length ≤ 1000000) :
    Calls Tryz.prog 23 #[.pointer (some ⟨jb, 0, none⟩), .slice lp L.length lc] z fun e y => e = .returned (.int .i64 (jwrite p.data.toList most L M).1) ∧ JSB w y b (jwrite p.data.toList most L M).2 jb p most := by
  obtain ⟨F, h1, h2⟩ := h.bel hz
  exact (write_any _ z b M F jb p most lp lc L h1 hp h0 h9 hmost hl hL ht).mono fun e y hq => ⟨hq.1, jsb_of h1 h2 hq.2 (jwrite_ok h1.ok _ _ _)⟩
theorem jsb_turn (h : JSB w x b M jb p most) (hp : p.size ≤ 100) (h9 : lastN p.data.toList M.L < 9999999) :
    Calls Tryz.prog 25 #[.pointer (some ⟨jb, 0, none⟩)] x fun e y => e = .returned (.int .i64 (jturn p.data.toList M).1) ∧ JSB w y b (jturn p.data.toList M).2 jb p most := by
  obtain ⟨F, h1, h2⟩ := h
  exact (jturn_any _ x b M F jb p most h1 hp h9).mono fun e y hq => ⟨hq.1, jsb_of h1 h2 hq.2 (jturn_ok h1.ok _)⟩
theorem jsb_num (h : JSB w x b M jb p most) (hp : p.size ≤ 100) :
    Calls Tryz.prog 26 #[.pointer (some ⟨jb, 0, none⟩)] x fun e y => e = .returned (.int .i64 (lastN p.data.toList M.L : Nat)) ∧ JSB w y b M jb p most ∧ Bel x y := by
  have h0 := h
  obtain ⟨F, h1, h2⟩ := h
  exact (num_any _ x jb b p most M F h1.prog h1.ok h1.j hp h1.std0).mono fun e y hq => ⟨hq.1, h0.bel hq.2, hq.2⟩
end
theorem open_st {w x : World} {b : Nat} {M : RS} {F : List Nat} (hs : Std w) (hb : Bel w x) (hp : ProgAt w.heap.size x b M F) (hM : M.ok) (nm : ByteArray) (most : Int) (hnm : nm.size ≤ 100) (hr : M.room ≤ 1000000) {err : Int} {L : List (List (List UInt8))} {M' : RS} (hj : jopen nm.data.toList M = (err, L, M')) :
    Calls Tryz.prog 19 #[.pointer (some ⟨b, 0, none⟩), .string nm, .int .i64 most] x fun e y => ∃ jv v F', e = .returned (.tuple #[jv, v, .int .i64 err]) ∧ ProgAt w.heap.size y b M' F' ∧ Keep F x y ∧ (∀ k ∈ F', k ∈ F ∨ x.heap.size ≤ k) ∧ OwnQ x y F' v L ∧ Bel w y ∧ M'.ok ∧
      (err = 0 → ∃ jb, jv = .pointer (some ⟨jb, 0, none⟩) ∧ JS w.heap.size y b M' F' jb nm most ∧ Qb x y F' jb) ∧ (err ≠ 0 → jv = .pointer none) := by
  have hstd : ∀ z, Keep F x z → Std z := fun z hz => hs.bel (((Keep.of_bel hb F).trans hz (fun k hk => Or.inl hk)).bel (fun k hk => (hp.within k hk).1))
  refine (open_any _ x b M F nm most hp hM hstd hnm hr).mono ?_
  rintro e y ⟨jv, v, F', rfl, h1, h2, h3, h4, h5, h6⟩
  have hok := jopen_ok nm.data.toList hM
  rw [hj] at h1 h4 h5 h6 hok ⊢
  have hbl : Bel w y := ((Keep.of_bel hb F).trans h2 (fun k hk => Or.inl hk)).bel (fun k hk => (hp.within k hk).1)
  refine ⟨jv, v, F', rfl, h1, h2, h3, h4, hbl, hok, fun he => ?_, h6⟩
  obtain ⟨jb, q1, q2, q3⟩ := h5 he
  exact ⟨jb, q1, js_of hs hbl h1 hok q2 q3.2.2, q3⟩

def logP : List UInt8 := [108, 111, 103]
def fl1 : List UInt8 := [108, 111, 103, 46, 49]
def fl2 : List UInt8 := [108, 111, 103, 46, 50]
theorem file1 : fileN logP 1 = fl1 := by unfold fileN; rw [itoa_nat, digits_one 1 (by omega)]; rfl
theorem file2 : fileN logP 2 = fl2 := by unfold fileN; rw [itoa_nat, digits_one 2 (by omega)]; rfl
theorem seg1 : segN logP fl1 = 1 := by rw [← file1]; exact seg_file _ 1 (by omega) (by omega)
theorem seg2 : segN logP fl2 = 2 := by rw [← file2]; exact seg_file _ 2 (by omega) (by omega)
theorem segs1 (b : List UInt8) (s : Nat) : segsL logP [⟨fl1, b, s⟩] = [1] := by
  show (if segN logP fl1 = 0 then [] else insN (segN logP fl1) []) = _
  rw [seg1]; rfl
theorem last1 (b : List UInt8) (s : Nat) : lastN logP [⟨fl1, b, s⟩] = 1 := by unfold lastN; rw [segs1]; rfl
theorem last2 (b : List UInt8) (s : Nat) : lastN logP [⟨fl1, b, s⟩, ⟨fl2, [], 0⟩] = 2 := by
  have : segsL logP [⟨fl1, b, s⟩, ⟨fl2, [], 0⟩] = [1, 2] := by
    show (if segN logP fl2 = 0 then _ else insN (segN logP fl2) (if segN logP fl1 = 0 then [] else insN (segN logP fl1) [])) = _
    rw [seg1, seg2]; rfl
  unfold lastN; rw [this]; rfl
def fr1 : List UInt8 := frameL (encL [[97], [98]])
def fr2 : List UInt8 := frameL (encL [])
def sM1 : RS := ⟨[⟨fl1, [], 0⟩], 10000, -1, false⟩
def sM2 : RS := ⟨[⟨fl1, fr1, fr1.length⟩], 10000, -1, false⟩
def sM3 : RS := ⟨[⟨fl1, fr1 ++ fr2, fr1.length + fr2.length⟩], 10000, -1, false⟩
def sM4 : RS := ⟨[⟨fl1, fr1 ++ fr2, fr1.length + fr2.length⟩, ⟨fl2, [], 0⟩], 10000, -1, false⟩
theorem sh_open : jopen logP (newS 10000) = (0, [], sM1) := by
  unfold jopen
  rw [if_neg (by decide), if_neg (by decide), if_pos (by rfl)]
  unfold jturn
  rw [show lastN logP (newS 10000).L + 1 = 1 from rfl, file1]
  kernel_rfl
theorem sh_w1 : jwrite logP 100 [[97], [98]] sM1 = (0, sM2) := by
  have hr : jroom logP 100 sM1 = (0, sM1) := by
    unfold jroom
    rw [show lastN logP sM1.L = 1 from last1 _ _, file1]
    kernel_rfl
  unfold jwrite
  have hb : batchS [[97], [98]] = (encL [[97], [98]], 0) := by kernel_rfl
  have hp : jput fl1 fr1 sM1 = (0, sM2) := by kernel_rfl
  rw [hr, show lastN logP (0, sM1).2.L = 1 from last1 _ _, file1, hb]
  exact hp
theorem sh_w2 : jwrite logP 100 [] sM2 = (0, sM3) := by
  have hr : jroom logP 100 sM2 = (0, sM2) := by
    unfold jroom
    rw [show lastN logP sM2.L = 1 from last1 _ _, file1]
    kernel_rfl
  unfold jwrite
  have hb : batchS [] = (encL [], 0) := by kernel_rfl
  have hp : jput fl1 fr2 sM2 = (0, sM3) := by kernel_rfl
  rw [hr, show lastN logP (0, sM2).2.L = 1 from last1 _ _, file1, hb]
  exact hp
theorem sh_open2 : jopen logP sM3 = (0, [[[97], [98]], []], sM3) := by
  have hr : readL (fr1 ++ fr2) = ([[[97], [98]], []], (fr1 ++ fr2).length, 0) := by
    have := read_frames [[[97], [98]], []] [] (fun l hl => by
      simp only [List.mem_cons, List.not_mem_nil, or_false] at hl
      rcases hl with rfl | rfl <;> decide)
    simpa [fr1, fr2, read_nil] using this
  unfold jopen
  rw [if_neg (by decide), if_neg (by decide), show segsL logP sM3.L = [1] from segs1 _ _, if_neg (by simp)]
  have hb : bytesOf (fileN logP 1) sM3 = fr1 ++ fr2 := by rw [file1]; exact bytesOf_get (y := ⟨fl1, fr1 ++ fr2, fr1.length + fr2.length⟩) (by rfl)
  simp only [readSegs, hb, hr]
  simp
theorem sh_turn : jturn logP sM3 = (0, sM4) := by
  unfold jturn
  rw [show lastN logP sM3.L = 1 from last1 _ _, file2]
  kernel_rfl
theorem lit_strs (W : World) (arr : Array Value) (l : List (List UInt8)) (h : arr.toList = l.map fun t => .string ⟨t.toArray⟩) : StrsAt (W.alloc (.cells arr 9)) (some ⟨W.heap.size, 0, none⟩) l := by
  intro i hi
  refine ⟨_, rfl, ?_⟩
  have := cellsG_new (E := strEl) W arr 9 l (by rw [h]; induction l with
    | nil => rfl
    | cons x l ih => simp [El.all, strEl, List.flatMap_cons, List.map_eq_flatMap]) i (.string ⟨l[i].toArray⟩) (by
      have e : strEl.all l = l.map fun t => .string ⟨t.toArray⟩ := by
        simp [El.all, strEl, List.map_eq_flatMap]
      rw [e, List.getElem?_map, List.getElem?_eq_getElem hi]; rfl)
  exact this
theorem strs_nil (x : World) (p : Option Addr) : StrsAt x p [] := fun i hi => by simp at hi
theorem lit_row (W : World) : RowL (fun _ => True) ((W.alloc (.cells #[.string ⟨#[97]⟩, .string ⟨#[98]⟩] 9)).alloc (.cells #[.slice (some ⟨W.heap.size, 0, none⟩) 2 2, .slice none 0 0] 34)) (some ⟨W.heap.size + 1, 0, none⟩) [[[97], [98]], []] := by
  refine ⟨[⟨some ⟨W.heap.size, 0, none⟩, 2, 2⟩, ⟨none, 0, 0⟩], rfl, fun i s hs => ⟨_, rfl, trivial, ?_⟩, fun i s l hs hl => ?_⟩
  · match i, hs with
    | 0, hs => simp at hs; subst hs; go_simp; rfl
    | 1, hs => simp at hs; subst hs; go_simp; rfl
    | i + 2, hs => simp at hs
  · match i, hs, hl with
    | 0, hs, hl =>
      simp at hs hl; subst hs hl
      exact ⟨rfl, (lit_strs W #[.string ⟨#[97]⟩, .string ⟨#[98]⟩] [[97], [98]] rfl).bel ((Bel.refl _).alloc _), fun _ _ _ => trivial⟩
    | 1, hs, hl => simp at hs hl; subst hs hl; exact ⟨rfl, strs_nil _ _, fun _ _ _ => trivial⟩
    | i + 2, hs, hl => simp at hs
set_option maxHeartbeats 4000000 in
theorem jshown_any (w : World) (hstd : Std w) : Calls Tryz.prog 7 #[] w fun e w' => e = .returned (.bool true) ∧ Bel w w' := by
  have HS := Lib.hid hstd; clear hstd
  go_enter Tryz.func7, Tryz.ntmps7
  go_wp2_with (fail)
  refine (pnew_any 10000 w (by omega)).mono ?_
  rintro e w1 ⟨rfl, hp1, hb1⟩
  obtain ⟨b, hb⟩ : ∃ b, b = w.heap.size := ⟨_, rfl⟩
  have HP1 := Lib.hid (show ProgAt w.heap.size w1 b (newS 10000) [w.heap.size] by rw [hb]; exact hp1)
  have HB1 := Lib.hid hb1
  rw [← hb]
  clear hp1 hb1 hb
  go_wp2_with (fail)
  refine (open_st HS.out HB1.out HP1.out (new_ok 10000 (by omega)) ⟨#[108, 111, 103]⟩ 100 (by decide) (by decide) sh_open).mono ?_
  rintro e w2 ⟨jv, v, F2, rfl, hp2, hk2, hf2, hq2, hb2, hm2, hj2, -⟩
  obtain ⟨jb, rfl, hjs, -⟩ := hj2 rfl
  obtain ⟨vp, vc, rfl⟩ := hq2.own.len
  have HJ2 := Lib.hid (show JSB w w2 b sM1 jb ⟨#[108, 111, 103]⟩ 100 from ⟨F2, hjs, hb2⟩)
  clear hp2 hk2 hf2 hq2 hb2 hm2 hj2 hjs
  go_wp2_with (fail)
  refine (jsb_write HJ2.out (by decide) (some ⟨w2.heap.size, 0, none⟩) 2 [[97], [98]] (by rw [show lastN (⟨#[108, 111, 103]⟩ : ByteArray).data.toList sM1.L = 1 from last1 _ _]; omega) (by rw [show lastN (⟨#[108, 111, 103]⟩ : ByteArray).data.toList sM1.L = 1 from last1 _ _]; omega) ⟨by decide, by decide⟩ ((Bel.refl w2).alloc _) (lit_strs w2 _ _ rfl) (by unfold maxLen; decide) (by decide)).mono ?_
  rintro e w3 ⟨rfl, hj3⟩
  rw [show jwrite (⟨#[108, 111, 103]⟩ : ByteArray).data.toList 100 [[97], [98]] sM1 = (0, sM2) from sh_w1] at hj3 ⊢
  have HJ3 := Lib.hid hj3; clear hj3
  go_wp2_with (fail)
  refine (jsb_write HJ3.out (by decide) none 0 [] (by rw [show lastN (⟨#[108, 111, 103]⟩ : ByteArray).data.toList sM2.L = 1 from last1 _ _]; omega) (by rw [show lastN (⟨#[108, 111, 103]⟩ : ByteArray).data.toList sM2.L = 1 from last1 _ _]; omega) ⟨by decide, by decide⟩ (Bel.refl w3) (strs_nil _ _) (by unfold maxLen; decide) (by decide)).mono ?_
  rintro e w4 ⟨rfl, hj4⟩
  rw [show jwrite (⟨#[108, 111, 103]⟩ : ByteArray).data.toList 100 [] sM2 = (0, sM3) from sh_w2] at hj4 ⊢
  obtain ⟨F4, hj4, hb4⟩ := hj4
  have HJ4 := Lib.hid hj4
  have HB4 := Lib.hid hb4
  clear hj4 hb4
  go_wp2_with (fail)
  refine (open_st HS.out HB4.out HJ4.out.prog HJ4.out.ok ⟨#[108, 111, 103]⟩ 100 (by decide) (by decide) sh_open2).mono ?_
  rintro e w5 ⟨jv2, v2, F5, rfl, hp5, hk5, hf5, hq5, hb5, hm5, hj5, -⟩
  obtain ⟨jb2, rfl, -, -⟩ := hj5 rfl
  have HJ5 := Lib.hid (jsb_of HJ4.out HB4.out ⟨F5, hp5, hk5, hf5⟩ hm5)
  obtain ⟨vp5, vc5, rfl, hrow⟩ := hq5.own.row
  have HRW := Lib.hid hrow
  clear hp5 hk5 hf5 hq5 hb5 hm5 hj5 hrow
  go_wp2_with (fail)
  refine (batch_any _ (some ⟨w5.heap.size, 0, none⟩) 1 [[97]] (lit_strs w5 _ _ rfl) (by unfold maxLen; decide) (by decide)).mono ?_
  rintro e w6 ⟨rfl, hb6⟩
  rw [show batchV [[97]] = .tuple #[.string ⟨#[1, 1, 97]⟩, .int .i64 0] by kernel_rfl]
  have HB6 := Lib.hid (((Bel.refl w5).alloc _).trans hb6); clear hb6
  go_wp2_with (fail)
  refine (unbatch_any ⟨#[1]⟩ w6 (by decide)).mono ?_
  rintro e w7 ⟨uv, rfl, -, hb7⟩
  rw [show (unbS (⟨#[1]⟩ : ByteArray).data.toList).2 = 8 by kernel_rfl]
  have HB7 := Lib.hid (HB6.out.trans hb7); clear hb7
  go_wp2_with (fail)
  refine (jall_any _ _ _ vp5 (some ⟨w7.heap.size + 1, 0, none⟩) vc5 2 [[[97], [98]], []] [[[97], [98]], []] (HRW.out.bel (HB7.out.trans (((Bel.refl w7).alloc _).alloc _))) (lit_row w7) (by decide) (by decide) (by decide) (by decide)).mono ?_
  rintro e w8 ⟨rfl, hb8⟩
  rw [show decide (([[[97], [98]], []] : List (List (List UInt8))) = [[[97], [98]], []]) = true from decide_eq_true rfl]
  have HB8 := Lib.hid (HB7.out.trans ((((Bel.refl w7).alloc _).alloc _).trans hb8)); clear hb8
  have HJ8 := Lib.hid (HJ5.out.bel HB8.out)
  go_wp2_with (fail)
  refine (jsb_num HJ8.out (by decide)).mono ?_
  rintro e w9 ⟨rfl, hj9, -⟩
  rw [show lastN (⟨#[108, 111, 103]⟩ : ByteArray).data.toList sM3.L = 1 from last1 _ _]
  have HJ9 := Lib.hid hj9; clear hj9
  go_wp2_with (fail)
  refine (jsb_turn HJ9.out (by decide) (by rw [show lastN (⟨#[108, 111, 103]⟩ : ByteArray).data.toList sM3.L = 1 from last1 _ _]; omega)).mono ?_
  rintro e w10 ⟨rfl, hj10⟩
  rw [show jturn (⟨#[108, 111, 103]⟩ : ByteArray).data.toList sM3 = (0, sM4) from sh_turn] at hj10 ⊢
  have HJ10 := Lib.hid hj10; clear hj10
  go_wp2_with (fail)
  refine (jsb_num HJ10.out (by decide)).mono ?_
  rintro e w11 ⟨rfl, hj11, -⟩
  rw [show lastN (⟨#[108, 111, 103]⟩ : ByteArray).data.toList sM4.L = 2 from last2 _ _]
  have HJ11 := Lib.hid hj11; clear hj11
  go_wp2_with (fail)
  go_ret
  exact ⟨rfl, HJ11.out.low⟩
end Go.Proofs.YtlmlcnbgdaiaeaaGreatDoor
/- moultlaw7's acts, as they lie; small. -/
namespace Go.Proofs.YtlmlcnbgdaiaeaaGreatDoor
open Go.RowKit Go.Deep Go.Maps

structure JV where
  op : Int
  n : Int
  bp : Option Addr
  bc : Nat
  bl : List (List UInt8)
  left : SI
  spoil : SI
structure JV.ok (w : World) (x : JV) : Prop where
  op : in64 x.op
  n : in64 x.n
  at_ : StrsAt w x.bp x.bl
  len : x.bl.length ≤ maxLen
  each : ∀ t ∈ x.bl, t.length ≤ maxLen
  left : SI.ok w x.left
  spoil : SI.ok w x.spoil
def JV.cells (x : JV) : List Value := [.int .i64 x.op, .int .i64 x.n, .slice x.bp x.bl.length x.bc, x.left.val, x.spoil.val]
def JActs (w : World) (p : Option Addr) (L : List JV) : Prop := ∀ i (h : i < L.length), ∃ B O sp, p.map (fun a => a.add (i * 5)) = some ⟨B, O, sp⟩ ∧
  (∀ j u, L[i].cells[j]? = some u → w.cell? ((⟨B, O, sp⟩ : Addr).add j) = some u) ∧ JV.ok w L[i]
theorem JV.ok.bel {w x : World} {v : JV} (h : JV.ok w v) (hb : Bel w x) : JV.ok x v := ⟨h.op, h.n, h.at_.bel hb, h.len, h.each, h.left.bel hb, h.spoil.bel hb⟩
theorem JActs.bel {w x : World} {p : Option Addr} {L : List JV} (h : JActs w p L) (hb : Bel w x) : JActs x p L := by
  intro i hi
  obtain ⟨B, O, sp, hp, hc, ho⟩ := h i hi
  exact ⟨B, O, sp, hp, fun j u hj => (Below.cell hb (block_lt_of_cell (hc j u hj))).trans (hc j u hj), ho.bel hb⟩
theorem jact_cells {w : World} {p : Option Addr} {L : List JV} (h : JActs w p L) {k : Nat} (hk : k < L.length) : ∃ B O sp, p.map (fun a => a.add (k * 5)) = some ⟨B, O, sp⟩ ∧
    w.cell? ⟨B, O, sp⟩ = some (.int .i64 L[k].op) ∧ w.cell? ⟨B, O + 1, none⟩ = some (.int .i64 L[k].n) ∧ w.cell? ⟨B, O + 2, none⟩ = some (.slice L[k].bp L[k].bl.length L[k].bc) ∧ w.cell? ⟨B, O + 3, none⟩ = some L[k].left.val ∧
    w.cell? ⟨B, O + 4, none⟩ = some L[k].spoil.val ∧ JV.ok w L[k] := by
  obtain ⟨B, O, sp, hp, hc, ho⟩ := h k hk
  refine ⟨B, O, sp, hp, ?_, ?_, ?_, ?_, ?_, ho⟩
  · simpa [Addr.add] using hc 0 _ rfl
  · simpa [Addr.add] using hc 1 _ rfl
  · simpa [Addr.add] using hc 2 _ rfl
  · simpa [Addr.add] using hc 3 _ rfl
  · simpa [Addr.add] using hc 4 _ rfl
def strsB (l : List (List UInt8)) : Bool := l.all fun t => decide (t.length ≤ 900)
def JV.small (x : JV) : Bool := (decide (x.bl.length ≤ 60) && (decide (x.left.L.length ≤ 60) && decide (x.spoil.L.length ≤ 60))) && strsB x.bl
def jsmallB (L : List JV) : Bool := decide (L.length ≤ 60) && L.all JV.small
theorem drw_cell {w x : World} (h : Drw w x) (a : Addr) : x.cell? a = w.cell? a := by obtain ⟨m, rfl⟩ := h; rfl
theorem strs_drw {w x y : World} {p : Option Addr} {l : List (List UInt8)} (hx : Drw w x) (hy : Drw w y) (h : StrsAt x p l) : StrsAt y p l := fun i hi => by
  obtain ⟨a, ha, hc⟩ := h i hi
  exact ⟨a, ha, (drw_cell hy _).trans ((drw_cell hx _).symm.trans hc)⟩
def JsRel (L : List JV) (i : Value) : Prop := ∃ k : Nat, i = .int .i64 k ∧ k ≤ L.length ∧ (L.take k).all JV.small = true
set_option maxHeartbeats 4000000 in
theorem jsmall_any (w : World) (p : Option Addr) (cap : Nat) (L : List JV) (h : JActs w p L) (hL : L.length ≤ maxLen) :
    Calls Tryz.prog 8 #[.slice p L.length cap] w fun e w' => e = .returned (.bool (jsmallB L)) ∧ Drw w w' := by
  unfold maxLen at hL
  have H := Lib.hid h; clear h
  by_cases h60 : 60 < L.length
  · have HB := Lib.hid (show jsmallB L = false by unfold jsmallB; rw [decide_eq_false (by omega)]; rfl)
    go_enter Tryz.func8, Tryz.ntmps8
    go_wp2_with (fail)
    go_ret
    exact ⟨ret_bool (by rw [HB.out]), Drw.refl w⟩
  have h60' : L.length ≤ 60 := by omega
  go_enter Tryz.func8, Tryz.ntmps8
  go_wp2_with (fail)
  go_loopw [3] (fun i x => JsRel L i ∧ Drw w x) (fun i _ => L.length - (intOf i).toNat)
  case atStart => exact ⟨⟨0, rfl, Nat.zero_le _, rfl⟩, Drw.refl w⟩
  case round =>
    obtain ⟨⟨k, rfl, hk, hall⟩, hw⟩ := hrel
    have HW := Lib.hid hw; clear hw
    have HA := Lib.hid hall; clear hall
    by_cases hlt : k < L.length
    · obtain ⟨B, O, sp, hp, c0, c1, c2, c3, c4, hok⟩ := jact_cells (H.out.bel HW.out.bel) hlt
      cases p with
      | none => cases hp
      | some a =>
      simp only [Option.map_some, Option.some.injEq] at hp
      obtain ⟨y, hy⟩ : ∃ y, y = L[k] := ⟨_, rfl⟩
      have HT := Lib.hid (show (L.take (k + 1)).all JV.small = JV.small y by
        rw [List.take_add_one, List.getElem?_eq_getElem hlt, List.all_append, HA.out, hy]; simp)
      have HF := Lib.hid (show JV.small y = false → jsmallB L = false by
        intro hs
        unfold jsmallB
        have : L.all JV.small = false := by rw [List.all_eq_false]; exact ⟨L[k], List.getElem_mem hlt, by rw [← hy, hs]; simp⟩
        rw [this, Bool.and_false])
      rw [← hy] at c0 c1 c2 c3 c4 hok
      have k1 := hok.len
      have k4 := hok.left.2.1
      have k5 := hok.spoil.2.1
      have HOK := Lib.hid hok
      unfold SI.val at c3 c4
      unfold maxLen at k1 k4 k5
      clear hok hy
      by_cases q1 : y.bl.length ≤ 60
      · by_cases q4 : y.left.L.length ≤ 60
        · by_cases q5 : y.spoil.L.length ≤ 60
          · have HE := Lib.hid (show JV.small y = strsB y.bl by unfold JV.small; rw [decide_eq_true q1, decide_eq_true q4, decide_eq_true q5]; simp)
            go_wp2_with (fail)
            go_loopw [4] (fun i x => (∃ j : Nat, i = .int .i64 j ∧ j ≤ y.bl.length ∧ strsB (y.bl.take j) = true) ∧ Drw w x) (fun i _ => y.bl.length - (intOf i).toNat)
            case atStart => exact ⟨⟨0, rfl, Nat.zero_le _, rfl⟩, HW.out⟩
            case round =>
              obtain ⟨⟨j, rfl, hj, hst⟩, hw2⟩ := hrel
              have HST := Lib.hid hst
              have HW2 := Lib.hid hw2
              clear hst hw2
              have d2 := (drw_cell HW2.out ⟨B, O + 2, none⟩).trans ((drw_cell HW.out _).symm.trans c2)
              have HSX := Lib.hid (strs_drw HW.out HW2.out HOK.out.at_)
              clear c0 c1 c2 c3 c4
              by_cases hjl : j < y.bl.length
              · obtain ⟨q, hq, hcq⟩ := HSX.out j hjl
                have htl := HOK.out.each y.bl[j] (List.getElem_mem hjl)
                have HTJ := Lib.hid (show strsB (y.bl.take (j + 1)) = decide (y.bl[j].length ≤ 900) by
                  unfold strsB at HST ⊢
                  rw [List.take_add_one, List.getElem?_eq_getElem hjl, List.all_append, HST.out]; simp)
                have HFJ := Lib.hid (show ¬ y.bl[j].length ≤ 900 → strsB y.bl = false from fun hn => by
                  unfold strsB
                  rw [List.all_eq_false]
                  exact ⟨y.bl[j], List.getElem_mem hjl, by simp; omega⟩)
                obtain ⟨t, ht⟩ : ∃ t, t = y.bl[j] := ⟨_, rfl⟩
                rw [← ht] at hcq htl HTJ HFJ
                have htz := str_len t
                unfold maxLen at htl
                rw [hq] at d2
                clear ht
                by_cases h9 : t.length ≤ 900
                · have HT9 := Lib.hid (HTJ.out.trans (decide_eq_true h9))
                  go_wp2_with (fail)
                  go_roundw
                  case rel => exact ⟨⟨j + 1, by go_num, by omega, HT9.out⟩, HW2.out⟩
                  case measure => simp [intOf]; omega
                · have HS := Lib.hid (HF.out (by rw [HE.out, HFJ.out h9]))
                  go_wp2_with (fail)
                  go_ret
                  exact ⟨ret_bool (by rw [HS.out]), HW2.out⟩
              · obtain rfl : j = y.bl.length := by omega
                have HSM := Lib.hid (show JV.small y = true by
                  rw [HE.out]
                  have := HST.out
                  rwa [List.take_length] at this)
                go_wp2_with (fail)
                go_roundw
                case rel => exact ⟨⟨k + 1, by go_num, by omega, by rw [HT.out, HSM.out]⟩, HW2.out⟩
                case measure => simp [intOf]; omega
          · have HS := Lib.hid (HF.out (by unfold JV.small; rw [decide_eq_false q5]; simp))
            go_wp2_with (fail)
            go_ret
            exact ⟨ret_bool (by rw [HS.out]), HW.out⟩
        · have HS := Lib.hid (HF.out (by unfold JV.small; rw [decide_eq_false q4]; simp))
          go_wp2_with (fail)
          go_ret
          exact ⟨ret_bool (by rw [HS.out]), HW.out⟩
      · have HS := Lib.hid (HF.out (by unfold JV.small; rw [decide_eq_false q1]; simp))
        go_wp2_with (fail)
        go_ret
        exact ⟨ret_bool (by rw [HS.out]), HW.out⟩
    · obtain rfl : k = L.length := by omega
      have HS := Lib.hid (show jsmallB L = true by
        have := HA.out
        rw [List.take_length] at this
        unfold jsmallB
        rw [this]; simp; omega)
      go_wp2_with (fail)
      go_ret
      exact ⟨ret_bool (by rw [HS.out]), HW.out⟩
end Go.Proofs.YtlmlcnbgdaiaeaaGreatDoor
