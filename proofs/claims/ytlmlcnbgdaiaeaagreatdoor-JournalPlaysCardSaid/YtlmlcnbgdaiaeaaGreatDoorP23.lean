/- JSegs, JRSegs, JTurn, JRTurn, JWrite, JTrim, JRTrim, JOpen, JROpen, laid together. -/
import Derived.Test.YtlmlcnbgdaiaeaaGreatDoorP22
import Derived.Test.YtlmlcnbgdaiaeaaGreatDoorP14
import Derived.Sort.OwnSortedInts
import Derived.Test.YtlmlcnbgdaiaeaaGreatDoorP2
import Derived.Test.YtlmlcnbgdaiaeaaGreatDoorP26
set_option linter.unusedSimpArgs false
set_option linter.unusedVariables false
/- journal's Segments, Number, names. -/
namespace Go.Proofs.YtlmlcnbgdaiaeaaGreatDoor
open Go.RowKit Go.Deep Go.Maps

def intEl : El Int := ⟨3, 35, 1, fun i => [.int .i64 i]⟩
theorem intOk : ElOk intEl 8 := ⟨fun _ => rfl, fun a u hu => by simp [intEl] at hu; subst hu; rfl, by kernel_rfl, ⟨.int .i64 0, by kernel_rfl, rfl⟩, by decide⟩
theorem intAll (l : List Int) : intEl.all l = l.map (Value.int .i64) := by
  induction l with
  | nil => rfl
  | cons x l ih => simp only [El.all, List.flatMap_cons, List.map_cons] at *; rw [ih]; rfl
theorem sort_own {B : Nat} {w : World} {v : Value} {l : List Int} (h : OwnG intEl B w v l) (hB : B ≤ w.heap.size) (hl : l.length ≤ 1000) :
    Calls Tryz.prog 71 #[v] w fun e w' => e = .returned (.tuple #[]) ∧ OwnG intEl B w' v (l.mergeSort fun x y => decide (x ≤ y)) ∧ Below B w w' := by
  obtain ⟨h1, h2⟩ := h
  rcases h2 with ⟨rfl, h0⟩ | ⟨g, cap, cur, rfl, hg, hh, hc, hx, hsz, htk⟩
  · obtain rfl : l = [] := List.length_eq_zero_iff.1 h0
    refine (Any.slices_Sort_int_none Tryz.lays189 none 0 w).mono ?_
    rintro e w' ⟨rfl, rfl⟩
    exact ⟨rfl, by rw [List.mergeSort_nil]; exact OwnG.nil _ _ _, Below.refl _ _⟩
  · have hgs : g < w.heap.size := (Array.getElem?_eq_some_iff.1 hh).1
    have ht : cur.toList.take l.length = l.map (Value.int .i64) := by
      rw [show intEl.n = 1 from rfl, Nat.mul_one] at htk; rw [← intAll]; exact htk
    have hlen : (l.mergeSort fun x y => decide (x ≤ y)).length = l.length := List.length_mergeSort _
    refine (Any.slices_Sort_int Tryz.lays189 g 0 cap l w (holds_of_blockI hh ht) hgs (by omega)).mono ?_
    rintro e w' ⟨rfl, n, os, rfl⟩
    refine ⟨rfl, ?_, ?_⟩
    · have := ownsRow_sortedI (n := n) (os := os) (ts := l.mergeSort fun x y => decide (x ≤ y)) hlen hg hh hc hx (by rw [hsz]; rfl)
      unfold OwnG
      rw [intAll, hlen]
      exact this
    · exact (Below.refl B w).grown (grownBy_sortedI _) hB (fun k hk => by simp at hk; omega)

def SgRel (p : List UInt8) (L : List FI) (w1 : World) (lv iv : Value) (x : World) : Prop :=
  ∃ k : Nat, iv = .int .i64 k ∧ k ≤ L.length ∧ OwnG intEl w1.heap.size x lv ((colL p (L.take k)).map fun n : Nat => (n : Int)) ∧ Bel w1 x
theorem col_snoc (p : List UInt8) (L : List FI) (k : Nat) (h : k < L.length) : colL p (L.take (k + 1)) = if segN p L[k].name = 0 then colL p (L.take k) else colL p (L.take k) ++ [segN p L[k].name] := by
  rw [List.take_add_one, List.getElem?_eq_getElem h]
  exact col_step p _ _
theorem col_len (p : List UInt8) (L : List FI) : (colL p L).length ≤ L.length := by
  unfold colL
  exact Nat.le_trans (List.length_filter_le _ _) (by simp)
set_option maxHeartbeats 4000000 in
theorem segs_any (n₀ : Nat) (w : World) (jb b : Nat) (p : ByteArray) (most : Int) (M : RS) (F : List Nat) (h : ProgAt n₀ w b M F) (hM : M.ok) (hj : JAt w jb b p most) (hp : p.size ≤ 100) (hstd : Std w) :
    Calls Tryz.prog 29 #[.pointer (some ⟨jb, 0, none⟩)] w fun e w' => ∃ v, e = .returned v ∧ OwnG intEl w.heap.size w' v ((segsL p.data.toList M.L).map fun n : Nat => (n : Int)) ∧ Bel w w' := by
  have HS := Lib.hid hstd; clear hstd
  have HJ := Lib.hid hj
  have c0 := hj.files
  have HP := Lib.hid h
  have HM := Lib.hid hM
  have h60 := hM.len
  clear hj h hM
  go_enter Tryz.func29, Tryz.ntmps29
  go_wp2_with (fail)
  refine (pnames_any n₀ w b M F HP.out HM.out.srt (good_len HM.out)).mono ?_
  rintro e w1 ⟨v, rfl, hnm, hb1⟩
  have HNM := Lib.hid hnm
  have HB1 := Lib.hid hb1
  obtain ⟨np, ncap, hnv⟩ := ownG_len hnm
  rw [List.length_map] at hnv
  subst hnv
  clear hnm hb1
  go_wp2_with (fail)
  go_loopw [3, 19] (fun lv iv x => SgRel p.data.toList M.L w1 lv iv x) (fun _ iv _ => M.L.length - (intOf iv).toNat)
  case atStart => exact ⟨0, rfl, Nat.zero_le _, OwnG.nil _ _ _, Bel.refl _⟩
  case round =>
    obtain ⟨k, rfl, hk, hown, hb⟩ := hrel
    have HB := Lib.hid hb
    have HV := Lib.hid hown
    obtain ⟨lp, lc, hlv⟩ := ownG_len hown
    rw [List.length_map] at hlv
    subst hlv
    clear hown hb
    by_cases hlt : k < M.L.length
    · have hne : M.L.map (·.name) ≠ [] := by intro e; rw [List.map_eq_nil_iff] at e; rw [e] at hlt; simp at hlt
      obtain ⟨g, ncap', hv, _, hgl, _, hcs⟩ := ownG_cells strOk (HNM.out.bel HB.out) hne
      rw [List.length_map] at hv
      simp only [Value.slice.injEq, true_and] at hv
      obtain ⟨rfl, rfl⟩ := hv
      have e0 := hcs k M.L[k].name (by rw [List.getElem?_map, List.getElem?_eq_getElem hlt]; rfl) 0 _ rfl
      have hcn := col_snoc p.data.toList M.L k hlt
      have hyn := name_len (HM.out.each M.L[k] (List.getElem_mem hlt)).1
      obtain ⟨y, hy⟩ : ∃ y, y = M.L[k] := ⟨_, rfl⟩
      rw [← hy] at e0 hcn hyn
      simp only [strEl, Nat.mul_one, Nat.add_zero] at e0
      have hsz := str_len y.name
      have HSL := Lib.hid (str_list y.name)
      have HCN := Lib.hid hcn
      clear hy hcs hne hcn
      have hcl := col_len p.data.toList (M.L.take k)
      have hcl2 : (M.L.take k).length ≤ k := by rw [List.length_take]; omega
      by_cases h0 : segN p.data.toList y.name = 0
      · have HN := Lib.hid (numV_none (p := p.data.toList) (nm := (⟨y.name.toArray⟩ : ByteArray).data.toList) (by rw [HSL.out]; exact h0))
        have HCE := Lib.hid (show colL p.data.toList (M.L.take (k + 1)) = colL p.data.toList (M.L.take k) by rw [HCN.out, if_pos h0])
        clear hcl hcl2 h0
        go_wp2_with (fail)
        refine (jnumber_any _ jb b p most ⟨y.name.toArray⟩ (HJ.out.bel (HB1.out.trans HB.out)) hp (by omega) (HS.out.bel (HB1.out.trans HB.out))).mono ?_
        rintro e w2 ⟨rfl, hb2⟩
        rw [HN.out]
        have HB2 := Lib.hid (HB.out.trans hb2)
        have HV2 := Lib.hid (HV.out.bel hb2)
        clear hb2
        go_wp2_with (fail)
        go_roundw
        case rel => exact ⟨k + 1, by go_num, by omega, by rw [HCE.out]; exact HV2.out, HB2.out⟩
        case measure => simp [intOf]; omega
      · obtain ⟨n, hn⟩ : ∃ n, n = segN p.data.toList y.name := ⟨_, rfl⟩
        have HN := Lib.hid (numV_some (p := p.data.toList) (nm := (⟨y.name.toArray⟩ : ByteArray).data.toList) (n := n) (by rw [HSL.out]; exact hn.symm) (by omega))
        have HCE := Lib.hid (show (colL p.data.toList (M.L.take (k + 1))).map (fun n : Nat => (n : Int)) = (colL p.data.toList (M.L.take k)).map (fun n : Nat => (n : Int)) ++ [(n : Int)] by rw [HCN.out, if_neg h0, ← hn]; simp)
        have hml : ((colL p.data.toList (M.L.take k)).map fun n : Nat => (n : Int)).length ≤ 60 := by rw [List.length_map]; omega
        clear hcl hcl2 h0 hn
        go_wp2_with (fail)
        refine (jnumber_any _ jb b p most ⟨y.name.toArray⟩ (HJ.out.bel (HB1.out.trans HB.out)) hp (by omega) (HS.out.bel (HB1.out.trans HB.out))).mono ?_
        rintro e w2 ⟨rfl, hb2⟩
        rw [HN.out]
        have HB2 := Lib.hid (HB.out.trans hb2)
        have HV2 := Lib.hid (HV.out.bel hb2)
        clear hb2
        go_wp2_with (at_builtin; refine stop_here ?_)
        refine go_on ?_
        refine append_glit (L := (colL p.data.toList (M.L.take k)).map fun n : Nat => (n : Int)) intOk rfl _ _ rfl rfl HV2.out _ _ _ [(n : Int)] rfl rfl rfl (by unfold maxLen; simp only [List.length_singleton]; omega) (by simp only [List.length_singleton]; omega) HB2.out.size (Or.inl rfl) ?_
        intro v3 w3 hown3 hb3 hZ3
        obtain ⟨p3, c3, hv3⟩ := ownG_len hown3
        rw [List.length_append, List.length_map, List.length_singleton] at hv3
        subst hv3
        have HV3 := Lib.hid hown3
        have HB3 := Lib.hid (HB2.out.trans_below hb3)
        clear hown3 hb3
        go_wp2_with (fail)
        go_roundw
        case rel => exact ⟨k + 1, by go_num, by omega, by rw [HCE.out]; exact HV3.out, HB3.out⟩
        case measure => simp [intOf]; omega
    · obtain rfl : k = M.L.length := by omega
      have hv1 := HV.out
      rw [List.take_length] at hv1
      have HSO := Lib.hid (sort_own hv1 HB.out.size (by rw [List.length_map]; have := col_len p.data.toList M.L; omega))
      rw [List.take_length] at *
      clear hv1
      go_wp2_with (fail)
      refine HSO.out.mono ?_
      rintro e w2 ⟨rfl, hown2, hb2⟩
      rw [segs_merge] at hown2
      have HB2 := Lib.hid (HB.out.trans_below hb2)
      have HV2 := Lib.hid hown2
      clear hown2 hb2
      go_wp2_with (fail)
      go_ret
      exact ⟨_, rfl, HV2.out.low HB1.out.size, HB1.out.trans HB2.out⟩
def NbRel (l : List Nat) (w1 : World) (nv iv : Value) (x : World) : Prop :=
  ∃ k : Nat, iv = .int .i64 k ∧ k ≤ l.length ∧ nv = .int .i64 ((l.take k).getLast?.getD 0 : Nat) ∧ Bel w1 x
theorem last_take (l : List Nat) (k : Nat) (h : k < l.length) : (l.take (k + 1)).getLast?.getD 0 = l[k] := by
  rw [List.take_add_one, List.getElem?_eq_getElem h, Option.toList_some, List.getLast?_concat]; rfl
theorem int_at {B : Nat} {x : World} {v : Value} {l : List Nat} (h : OwnG intEl B x v (l.map fun n : Nat => (n : Int))) (k : Nat) (hk : k < l.length) : ∃ g cap, v = .slice (some ⟨g, 0, none⟩) l.length cap ∧ l.length ≤ cap ∧ B ≤ g ∧ x.cell? ⟨g, k, none⟩ = some (.int .i64 (l[k] : Nat)) := by
  have hne : l.map (fun n : Nat => (n : Int)) ≠ [] := by intro e; rw [List.map_eq_nil_iff] at e; rw [e] at hk; simp at hk
  obtain ⟨g, cap, rfl, hg, _, hgl, hcs⟩ := ownG_cells intOk h hne
  rw [List.length_map] at hgl
  refine ⟨g, cap, by rw [List.length_map], hgl, hg, ?_⟩
  have := hcs k (l[k] : Int) (by rw [List.getElem?_map, List.getElem?_eq_getElem hk]; rfl) 0 _ rfl
  simpa [intEl] using this
set_option maxHeartbeats 4000000 in
theorem num_any (n₀ : Nat) (w : World) (jb b : Nat) (p : ByteArray) (most : Int) (M : RS) (F : List Nat) (h : ProgAt n₀ w b M F) (hM : M.ok) (hj : JAt w jb b p most) (hp : p.size ≤ 100) (hstd : Std w) :
    Calls Tryz.prog 26 #[.pointer (some ⟨jb, 0, none⟩)] w fun e w' => e = .returned (.int .i64 (lastN p.data.toList M.L : Nat)) ∧ Bel w w' := by
  have HC := Lib.hid (segs_any n₀ w jb b p most M F h hM hj hp hstd)
  have hsl := segs_len p.data.toList M.L
  have h60 := hM.len
  obtain ⟨l, hl⟩ : ∃ l, l = segsL p.data.toList M.L := ⟨_, rfl⟩
  have HLN := Lib.hid (show lastN p.data.toList M.L = l.getLast?.getD 0 by rw [hl]; rfl)
  rw [← hl] at HC hsl
  clear hl hj h hM hstd
  go_enter Tryz.func26, Tryz.ntmps26
  go_wp2_with (fail)
  refine HC.out.mono ?_
  rintro e w1 ⟨v, rfl, hown, hb1⟩
  have HV := Lib.hid hown
  have HB1 := Lib.hid hb1
  obtain ⟨sp, sc, hv⟩ := ownG_len hown
  rw [List.length_map] at hv
  subst hv
  clear hown hb1
  go_wp2_with (fail)
  go_loopw [3, 9] (fun nv iv x => NbRel l w1 nv iv x) (fun _ iv _ => l.length - (intOf iv).toNat)
  case atStart => exact ⟨0, rfl, Nat.zero_le _, rfl, Bel.refl _⟩
  case round =>
    obtain ⟨k, rfl, hk, rfl, hb⟩ := hrel
    have HB := Lib.hid hb; clear hb
    by_cases hlt : k < l.length
    · obtain ⟨g, cap, hv, hcap, _, e0⟩ := int_at (HV.out.bel HB.out) k hlt
      simp only [Value.slice.injEq, true_and] at hv
      obtain ⟨rfl, rfl⟩ := hv
      have HLT := Lib.hid (last_take l k hlt)
      obtain ⟨m, hm⟩ : ∃ m, m = l[k] := ⟨_, rfl⟩
      rw [← hm] at e0 HLT
      clear hm
      go_wp2_with (fail)
      go_roundw
      case rel => exact ⟨k + 1, by go_num, by omega, by rw [HLT.out], HB.out⟩
      case measure => simp [intOf]; omega
    · obtain rfl : k = l.length := by omega
      go_wp2_with (fail)
      go_ret
      exact ⟨by rw [HLN.out, List.take_length]; rfl, HB1.out.trans HB.out⟩
def NsRel (p : List UInt8) (l : List Nat) (w1 : World) (lv iv : Value) (x : World) : Prop :=
  ∃ k : Nat, iv = .int .i64 k ∧ k ≤ l.length ∧ OwnG strEl w1.heap.size x lv ((l.take k).map (fileN p)) ∧ Bel w1 x
set_option maxHeartbeats 4000000 in
theorem jnames_any (n₀ : Nat) (w : World) (jb b : Nat) (p : ByteArray) (most : Int) (M : RS) (F : List Nat) (h : ProgAt n₀ w b M F) (hM : M.ok) (hj : JAt w jb b p most) (hp : p.size ≤ 100) (hstd : Std w) :
    Calls Tryz.prog 55 #[.pointer (some ⟨jb, 0, none⟩)] w fun e w' => ∃ v, e = .returned v ∧ OwnG strEl w.heap.size w' v ((segsL p.data.toList M.L).map (fileN p.data.toList)) ∧ Bel w w' := by
  have HC := Lib.hid (segs_any n₀ w jb b p most M F h hM hj hp hstd)
  have hsl := segs_len p.data.toList M.L
  have h60 := hM.len
  obtain ⟨l, hl⟩ : ∃ l, l = segsL p.data.toList M.L := ⟨_, rfl⟩
  have HLE := Lib.hid (show ∀ n ∈ l, n ≤ 9999999 from fun n hn => by rw [hl] at hn; exact (mem_segs_file.1 hn).2.1)
  rw [← hl] at HC hsl ⊢
  have HS := Lib.hid hstd
  have HJ := Lib.hid hj
  clear hl hj h hM hstd
  go_enter Tryz.func55, Tryz.ntmps55
  go_wp2_with (fail)
  refine HC.out.mono ?_
  rintro e w1 ⟨v, rfl, hown, hb1⟩
  have HV := Lib.hid hown
  have HB1 := Lib.hid hb1
  obtain ⟨sp, sc, hv⟩ := ownG_len hown
  rw [List.length_map] at hv
  subst hv
  clear hown hb1
  go_wp2_with (fail)
  go_loopw [3, 9] (fun lv iv x => NsRel p.data.toList l w1 lv iv x) (fun _ iv _ => l.length - (intOf iv).toNat)
  case atStart => exact ⟨0, rfl, Nat.zero_le _, OwnG.nil _ _ _, Bel.refl _⟩
  case round =>
    obtain ⟨k, rfl, hk, hown, hb⟩ := hrel
    have HB := Lib.hid hb
    have HL := Lib.hid hown
    obtain ⟨lp, lc, hlv⟩ := ownG_len hown
    rw [List.length_map, List.length_take, Nat.min_eq_left hk] at hlv
    subst hlv
    clear hown hb
    by_cases hlt : k < l.length
    · obtain ⟨g, cap, hv, hcap, _, e0⟩ := int_at (HV.out.bel HB.out) k hlt
      simp only [Value.slice.injEq, true_and] at hv
      obtain ⟨rfl, rfl⟩ := hv
      have HLT := Lib.hid (show (l.take (k + 1)).map (fileN p.data.toList) = (l.take k).map (fileN p.data.toList) ++ [fileN p.data.toList l[k]] by
        rw [List.take_add_one, List.getElem?_eq_getElem hlt, List.map_append]; rfl)
      have hm9 := HLE.out l[k] (List.getElem_mem hlt)
      obtain ⟨m, hm⟩ : ∃ m, m = l[k] := ⟨_, rfl⟩
      rw [← hm] at e0 HLT hm9
      clear hm
      have hml : ((l.take k).map (fileN p.data.toList)).length ≤ 60 := by rw [List.length_map, List.length_take]; omega
      have hml2 : ((l.take k).map (fileN p.data.toList)).length = k := by rw [List.length_map, List.length_take]; omega
      go_wp2_with (fail)
      refine (file_any _ jb b p most m (HJ.out.bel (HB1.out.trans HB.out)) hp (by omega) (HS.out.bel (HB1.out.trans HB.out))).mono ?_
      rintro e w2 ⟨rfl, hb2⟩
      have HB2 := Lib.hid (HB.out.trans hb2)
      have HL2 := Lib.hid (HL.out.bel hb2)
      clear hb2
      go_wp2_with (at_builtin; refine stop_here ?_)
      refine go_on ?_
      refine append_glit (L := (l.take k).map (fileN p.data.toList)) strOk rfl _ _ rfl rfl HL2.out _ _ _ [fileN p.data.toList m] rfl rfl rfl (by unfold maxLen; simp only [List.length_singleton]; omega) (by simp only [List.length_singleton]; omega) HB2.out.size (Or.inl rfl) ?_
      intro v3 w3 hown3 hb3 hZ3
      obtain ⟨p3, c3, hv3⟩ := ownG_len hown3
      rw [List.length_append, hml2] at hv3
      subst hv3
      have HV3 := Lib.hid hown3
      have HB3 := Lib.hid (HB2.out.trans_below hb3)
      clear hown3 hb3
      go_wp2_with (fail)
      go_roundw
      case rel => exact ⟨k + 1, by go_num, by omega, by rw [HLT.out]; exact HV3.out, HB3.out⟩
      case measure => simp [intOf]; omega
    · obtain rfl : k = l.length := by omega
      go_wp2_with (fail)
      go_ret
      have := HL.out
      rw [List.take_length] at this
      exact ⟨_, rfl, this.low HB1.out.size, HB1.out.trans HB.out⟩
end Go.Proofs.YtlmlcnbgdaiaeaaGreatDoor
/- moultref7's Segments and Number. -/
namespace Go.Proofs.YtlmlcnbgdaiaeaaGreatDoor
open Go.RowKit Go.Deep Go.Maps

def toZ (l : List Nat) : List Int := l.map fun n : Nat => (n : Int)
theorem toZ_len (l : List Nat) : (toZ l).length = l.length := by unfold toZ; rw [List.length_map]
theorem tw_le : ∀ (n : Nat) (out : List Nat), (out.takeWhile (fun m => decide (m < n))).length ≤ out.length
  | n, [] => by simp
  | n, x :: out => by
    rw [List.takeWhile_cons]
    split
    · simp only [List.length_cons]; have := tw_le n out; omega
    · simp
theorem tw_get (n : Nat) (out : List Nat) (k : Nat) (hk : k < (out.takeWhile (fun m => decide (m < n))).length) (hko : k < out.length) : out[k] < n := by
  have h1 := take_less n out _ (List.getElem_mem hk)
  have h2 := List.takeWhile_append_dropWhile (p := fun m => decide (m < n)) (l := out)
  have h3 : out[k]? = some (out.takeWhile (fun m => decide (m < n)))[k] := by
    conv => lhs; rw [← h2]
    rw [List.getElem?_append_left hk, List.getElem?_eq_getElem hk]
  rw [List.getElem?_eq_getElem hko] at h3
  injection h3 with h3
  omega
theorem tw_stop (n : Nat) (out : List Nat) (k : Nat) (hk : k = (out.takeWhile (fun m => decide (m < n))).length) (hko : k < out.length) : n ≤ out[k] := by
  have h2 := List.takeWhile_append_dropWhile (p := fun m => decide (m < n)) (l := out)
  have h3 : out[k]? = (out.dropWhile (fun m => decide (m < n)))[0]? := by
    conv => lhs; rw [← h2]
    rw [List.getElem?_append_right (by omega), hk, Nat.sub_self]
  rw [List.getElem?_eq_getElem hko] at h3
  cases hd : out.dropWhile (fun m => decide (m < n)) with
  | nil => rw [hd] at h3; simp at h3
  | cons x r =>
    rw [hd] at h3
    simp at h3
    rw [h3]
    exact drop_head n out x r hd
theorem tw_ins (n : Nat) (out : List Nat) (k : Nat) (hk : k = (out.takeWhile (fun m => decide (m < n))).length) : insN n out = out.take k ++ [n] ++ out.drop k := by
  have h2 := List.takeWhile_append_dropWhile (p := fun m => decide (m < n)) (l := out)
  have e1 : out.take k = out.takeWhile (fun m => decide (m < n)) := by
    have : (out.takeWhile (fun m => decide (m < n)) ++ out.dropWhile (fun m => decide (m < n))).take k = out.takeWhile (fun m => decide (m < n)) := by rw [hk, List.take_left]
    rwa [h2] at this
  have e2 : out.drop k = out.dropWhile (fun m => decide (m < n)) := by
    have : (out.takeWhile (fun m => decide (m < n)) ++ out.dropWhile (fun m => decide (m < n))).drop k = out.dropWhile (fun m => decide (m < n)) := by rw [hk, List.drop_left]
    rwa [h2] at this
  rw [e1, e2]
  unfold insN
  simp
theorem ownG_none_int {W : World} {n B : Nat} (h : W.heap[B]? = some (.cells #[] 3 (0, 0))) (hn : n ≤ B) : OwnG intEl n W (.slice (some ⟨B, 0, none⟩) 0 0) [] := by
  refine ⟨rfl, Or.inr ⟨B, 0, #[], rfl, hn, h, Nat.le_refl _, by unfold maxLen; omega, by simp, by simp [El.all]⟩⟩
theorem lit_int {W : World} {B : Nat} {n : Int} (h : W.heap[B]? = some (.cells #[.int .i64 n] 3 (0, 0))) : SrcAt intEl W (.slice (some ⟨B, 0, none⟩) 1 1) [n] := by
  refine Or.inr ⟨_, 1, rfl, fun j u hj => ?_⟩
  have e : (⟨B, 0, none⟩ : Addr).add j = ⟨B, j, none⟩ := by cases j <;> simp [Addr.add]
  rw [e]
  rw [intAll] at hj
  cases j with
  | zero => simp at hj; subst hj; simp [World.cell?, h]
  | succ j => simp at hj
theorem slice_parts {B : Nat} {x : World} {op : Option Addr} {oc : Nat} {out : List Nat} (h : OwnG intEl B x (.slice op out.length oc) (toZ out)) (k : Nat) (hk : k ≤ out.length) (hl : out.length ≤ 1000) :
    ∃ v1 v2, (∀ w, (Instr.slice 35 (.slice op out.length oc) none (some (.int .i64 k)) none).run Tryz.prog w = .ok v1 w) ∧ (∀ w, (Instr.slice 35 (.slice op out.length oc) (some (.int .i64 k)) none none).run Tryz.prog w = .ok v2 w) ∧
      (∀ y, Bel x y → SrcAt intEl y v1 (toZ (out.take k))) ∧ (∀ y, Bel x y → SrcAt intEl y v2 (toZ (out.drop k))) := by
  rcases h.2 with ⟨hv, h0⟩ | ⟨g, cap, cur, hv, hg, hh, hc, hx, _⟩
  · have ho : out = [] := by rw [← List.length_eq_zero_iff, ← toZ_len]; exact h0
    subst ho
    obtain rfl : k = 0 := by simpa using hk
    simp only [Value.slice.injEq] at hv
    obtain ⟨rfl, -, rfl⟩ := hv
    refine ⟨.slice none 0 0, .slice none 0 0, fun w => by go_simp, fun w => by go_simp, fun y _ => Or.inl ⟨rfl, rfl⟩, fun y _ => Or.inl ⟨rfl, rfl⟩⟩
  · simp only [Value.slice.injEq] at hv
    obtain ⟨rfl, -, rfl⟩ := hv
    rw [toZ_len] at hc
    unfold maxLen at hx
    have hcells : ∀ y, Bel x y → ∀ j (hj : j < out.length), y.cell? ⟨g, j, none⟩ = some (.int .i64 (out[j] : Nat)) := fun y hy j hj => by
      obtain ⟨g', cap', hv, _, _, e⟩ := int_at (h.bel hy) j hj
      simp only [Value.slice.injEq, Option.some.injEq, Addr.mk.injEq] at hv
      obtain ⟨⟨rfl, -⟩, -⟩ := hv
      exact e
    have add0 : ∀ (o j : Nat), (⟨g, o, none⟩ : Addr).add j = ⟨g, o + j, none⟩ := fun o j => by cases j <;> simp [Addr.add]
    have hlow : ∀ y, Bel x y → SrcAt intEl y (.slice (some ⟨g, 0, none⟩) k oc) (toZ (out.take k)) := fun y hy => by
      refine Or.inr ⟨⟨g, 0, none⟩, oc, by rw [toZ_len, List.length_take, Nat.min_eq_left hk], fun j u hj => ?_⟩
      rw [intAll, toZ, List.map_map, List.getElem?_map, List.getElem?_take] at hj
      split at hj
      · rename_i hjk
        rw [List.getElem?_eq_getElem (show j < out.length by omega)] at hj
        simp at hj
        rw [add0, Nat.zero_add, hcells y hy j (by omega), ← hj]
      · simp at hj
    have hhigh : ∀ y, Bel x y → SrcAt intEl y (.slice (some ⟨g, k, none⟩) (out.length - k) (oc - k)) (toZ (out.drop k)) := fun y hy => by
      refine Or.inr ⟨⟨g, k, none⟩, oc - k, by rw [toZ_len, List.length_drop], fun j u hj => ?_⟩
      rw [intAll, toZ, List.map_map, List.getElem?_map, List.getElem?_drop] at hj
      by_cases hjk : k + j < out.length
      · rw [List.getElem?_eq_getElem hjk] at hj
        simp at hj
        rw [add0, hcells y hy (k + j) hjk, ← hj]
      · rw [List.getElem?_eq_none (by omega)] at hj
        simp at hj
    by_cases hkc : oc = k
    · subst hkc
      have hol : out.length = oc := by omega
      refine ⟨_, .slice (some ⟨g, 0, none⟩) 0 0, fun w => by first | (go_simp; done) | (go_simp; intro hx; omega), fun w => by first | (go_simp; done) | (go_simp; intro hx; omega), hlow, fun y hy => ?_⟩
      rw [List.drop_eq_nil_of_le (by omega)]
      exact Or.inr ⟨_, 0, rfl, fun j u hj => by simp [toZ, El.all] at hj⟩
    · refine ⟨_, _, fun w => by first | (go_simp; done) | (go_simp; intro hx; omega), fun w => by first | (go_simp; done) | (go_simp; intro hx; omega), hlow, hhigh⟩
set_option maxHeartbeats 4000000 in
set_option maxRecDepth 20000 in
theorem rsegs_any (n₀ : Nat) (w : World) (jb b : Nat) (p : ByteArray) (most : Int) (M : RS) (F : List Nat) (h : RefP n₀ w b M F) (hM : M.ok) (hj : JAt w jb b p most) (hp : p.size ≤ 100) :
    Calls Tryz.prog 42 #[.pointer (some ⟨jb, 0, none⟩)] w fun e w' => ∃ v, e = .returned v ∧ OwnG intEl w.heap.size w' v (toZ (segsL p.data.toList M.L)) ∧ Bel w w' := by
  have HJ := Lib.hid hj
  have j0 := hj.files
  have HM := Lib.hid hM
  have h60 := hM.len
  obtain ⟨v, hr, -, -, -⟩ := h
  have HR := Lib.hid hr
  obtain ⟨rp, rcap, rfl⟩ := ownG_len hr.own
  obtain ⟨c0, -, -, c3⟩ := hr.cells
  clear hr hj hM c3
  go_enter Tryz.func42, Tryz.ntmps42
  go_wp2_with (fail)
  go_loopw [3, 4] (fun ov iv x => ∃ i : Nat, iv = .int .i64 i ∧ i ≤ M.L.length ∧ OwnG intEl w.heap.size x ov (toZ (segsL p.data.toList (M.L.take i))) ∧ Bel w x) (fun _ iv _ => M.L.length - (intOf iv).toNat)
  case atStart => exact ⟨0, rfl, Nat.zero_le _, OwnG.nil _ _ _, Bel.refl _⟩
  case round =>
    obtain ⟨i, rfl, hi, hown, hb⟩ := hrel
    have HB := Lib.hid hb
    have HO := Lib.hid hown
    obtain ⟨op, oc, hov⟩ := ownG_len hown
    rw [toZ_len] at hov
    subst hov
    have j0' := cell_later hb j0
    have c0' := cell_later hb c0
    clear hown hb
    have hsl := segs_len p.data.toList (M.L.take i)
    rw [List.length_take] at hsl
    by_cases hlt : i < M.L.length
    · have hne2 : M.L ≠ [] := by intro e; rw [e] at hlt; simp at hlt
      obtain ⟨g2, rcap', hv, _, hgl2, _, hcs2⟩ := ownG_cells fileOk (HR.out.own.bel HB.out) hne2
      simp only [Value.slice.injEq, true_and] at hv
      obtain ⟨rfl, rfl⟩ := hv
      have hst := segs_step p.data.toList (M.L.take i) M.L[i]
      have htk : M.L.take i ++ [M.L[i]] = M.L.take (i + 1) := by rw [List.take_add_one, List.getElem?_eq_getElem hlt]; rfl
      rw [htk] at hst
      have hyn := name_len (HM.out.each M.L[i] (List.getElem_mem hlt)).1
      obtain ⟨y, hy⟩ : ∃ y, y = M.L[i] := ⟨_, rfl⟩
      have f0 := hcs2 i y (by rw [hy, List.getElem?_eq_getElem hlt]) 0 _ rfl
      simp only [fileEl, Nat.add_zero] at f0
      rw [← hy] at hst hyn
      have hsz := str_len y.name
      have HSL := Lib.hid (str_list y.name)
      have HST := Lib.hid hst
      clear hy hcs2 hne2 hst htk
      obtain ⟨out, hout⟩ : ∃ out, out = segsL p.data.toList (M.L.take i) := ⟨_, rfl⟩
      rw [← hout] at HO HST hsl ⊢
      clear hout
      have HN := Lib.hid (rnumber_any (s := (⟨y.name.toArray⟩ : ByteArray)) (p := p) (b := jb) (f := b) (most := most))
      rw [HSL.out] at HN
      obtain ⟨n, hn⟩ : ∃ n, n = segN p.data.toList y.name := ⟨_, rfl⟩
      rw [← hn] at HST HN
      have hn9 := seg_le p.data.toList y.name
      rw [← hn] at hn9
      clear hn
      go_wp2_with (fail)
      refine (HN.out _ (HJ.out.bel HB.out) hp (by omega)).mono ?_
      rintro e w1 ⟨rfl, hb1⟩
      have HB1 := Lib.hid (HB.out.trans hb1)
      have HO1 := Lib.hid (HO.out.bel hb1)
      clear hb1
      by_cases hn0 : n = 0
      · subst hn0
        have HE := Lib.hid (show segsL p.data.toList (M.L.take (i + 1)) = out by rw [HST.out, if_pos rfl])
        go_wp2_with (fail)
        go_roundw
        case rel => exact ⟨i + 1, by go_num, by omega, by rw [HE.out]; exact HO1.out, HB1.out⟩
        case measure => simp [intOf]; omega
      · have HE := Lib.hid (show segsL p.data.toList (M.L.take (i + 1)) = insN n out by rw [HST.out, if_neg hn0])
        have hn1 : (n : Int) ≠ 0 := by omega
        have HT := Lib.hid (take_less n out)
        go_wp2_with (fail)
        go_loopw [6] (fun kv x => ∃ k : Nat, kv = .int .i64 k ∧ k ≤ (out.takeWhile (fun m => decide (m < n))).length ∧ Bel w1 x) (fun kv _ => out.length - (intOf kv).toNat)
        case atStart => exact ⟨0, rfl, Nat.zero_le _, Bel.refl _⟩
        case round =>
          obtain ⟨k, rfl, hk, hb⟩ := hrel
          have HB2 := Lib.hid hb; clear hb
          have hle := tw_le n out
          by_cases hkl : k < (out.takeWhile (fun m => decide (m < n))).length
          · have hko : k < out.length := by omega
            obtain ⟨g, cap, hv, hcap, _, e0⟩ := int_at (HO1.out.bel HB2.out) k hko
            simp only [Value.slice.injEq, true_and] at hv
            obtain ⟨rfl, rfl⟩ := hv
            have hlt2 := tw_get n out k hkl hko
            obtain ⟨m, hm⟩ : ∃ m, m = out[k] := ⟨_, rfl⟩
            rw [← hm] at e0 hlt2
            clear hm
            go_wp2_with (fail)
            go_roundw
            case rel => exact ⟨k + 1, by go_num, by omega, HB2.out⟩
            case measure => simp [intOf]; omega
          · have hkk : k = (out.takeWhile (fun m => decide (m < n))).length := by omega
            have HI := Lib.hid (tw_ins n out k hkk)
            have hstop := Lib.hid (tw_stop n out k hkk)
            have hkl2 : k ≤ out.length := by omega
            clear hle hkl hk hkk
            by_cases hko : k < out.length
            · obtain ⟨g, cap, hv, hcap, hgw, e0⟩ := int_at (HO1.out.bel HB2.out) k hko
              simp only [Value.slice.injEq, true_and] at hv
              obtain ⟨rfl, rfl⟩ := hv
              have hge := hstop.out hko
              obtain ⟨m, hm⟩ : ∃ m, m = out[k] := ⟨_, rfl⟩
              rw [← hm] at e0 hge
              clear hm hstop
              go_wp2_with (fail)
              have HW := Lib.hid (HB1.out.trans HB2.out)
              obtain ⟨s1, s2, hr1, hr2, hlow, hhigh⟩ := slice_parts (HO1.out.bel HB2.out) k hkl2 (by omega)
              have LOW := Lib.hid hlow
              have HIGH := Lib.hid hhigh
              clear hlow hhigh
              generalize hov : Value.slice (some ⟨g, 0, none⟩) out.length oc = ov at *
              clear hov
              refine wp_region_held_drew (S := fun z => True) (by kernel_rfl) trivial (fun hHeld => ?_)
              refine tk (v := ?_) 1 rfl ?_ ?_
              rotate_left
              · (intro w hSw; (try dsimp only at hSw); first | (go_simp; done) | (go_simp; with_reducible rfl))
              try simp only [Act.put, List.setIfInBounds_toArray, List.set_cons_zero, List.set_cons_succ]
              refine tk (v := ?_) 2 rfl ?_ ?_
              rotate_left
              · (intro w hSw; (try dsimp only at hSw); first | (go_simp; done) | (go_simp; with_reducible rfl))
              try simp only [Act.put, List.setIfInBounds_toArray, List.set_cons_zero, List.set_cons_succ]
              refine tk (v := ?_) 5 rfl ?_ ?_
              rotate_left
              · (intro w hSw; (try dsimp only at hSw); first | (go_simp; done) | (go_simp; with_reducible rfl))
              try simp only [Act.put, List.setIfInBounds_toArray, List.set_cons_zero, List.set_cons_succ]
              refine tk (v := ?_) 8 rfl ?_ ?_
              rotate_left
              · (intro w hSw; (try dsimp only at hSw); first | (go_simp; done) | (go_simp; with_reducible rfl))
              try simp only [Act.put, List.setIfInBounds_toArray, List.set_cons_zero, List.set_cons_succ]
              refine tk (v := ?_) 9 rfl ?_ ?_
              rotate_left
              · (intro w hSw; (try dsimp only at hSw); first | (go_simp; done) | (go_simp; with_reducible rfl))
              try simp only [Act.put, List.setIfInBounds_toArray, List.set_cons_zero, List.set_cons_succ]
              refine tk (v := ?_) 3 rfl ?_ ?_
              rotate_left
              · (intro w hSw; (try dsimp only at hSw); first | (go_simp; done) | (go_simp; with_reducible rfl))
              try simp only [Act.put, List.setIfInBounds_toArray, List.set_cons_zero, List.set_cons_succ]
              refine tk (v := ?_) 10 rfl ?_ ?_
              rotate_left
              · (intro w hSw; (try dsimp only at hSw); first | (go_simp; done) | (go_simp; with_reducible rfl))
              try simp only [Act.put, List.setIfInBounds_toArray, List.set_cons_zero, List.set_cons_succ]
              refine wpAnyH_ready (rs := [0, 6]) (by kernel_rfl) (by simp) ?_
              refine (AllReadyH.cons rfl (fun K hK => ?_) (AllReadyH.cons rfl (fun K hK => ?_) AllReadyH.nil))
              · go_simp
                refine hK.out _ _ trivial (fun hHeld => ?_)
                clear hK K
                try simp only [Act.put, List.setIfInBounds_toArray, List.set_cons_zero, List.set_cons_succ]
                refine wpAnyH_ready (rs := [4, 6]) (by kernel_rfl) (by simp) ?_
                refine (AllReadyH.cons rfl (fun K hK => ?_) (AllReadyH.cons rfl (fun K hK => ?_) AllReadyH.nil))
                · refine step_append_seg (E := intEl) (n := wr.heap.size) (v := .slice (some ⟨wr.heap.size, 0, none⟩) 0 0) intOk rfl (.tmp 48) (.tmp 51) rfl rfl (ownG_none_int (heap_alloc_new wr.drew _) (Nat.le_refl _)) (toZ (out.take k)) rfl (LOW.out _ ((Bel.refl wr).drew.alloc _)) (by simp only [toZ_len, List.length_append, List.length_singleton, List.length_nil, List.length_take, List.length_drop]; unfold maxLen; omega) (by simp only [toZ_len, List.length_append, List.length_singleton, List.length_nil, List.length_take, List.length_drop]; omega) (Bel.size ((Bel.refl wr).drew.alloc _)) ?_
                  intro v1 z1 ho hg hb
                  have hBz1 := Lib.hid (Bel.trans_below' ((Bel.refl wr).drew.alloc _) hb)
                  have hOz1 := Lib.hid ho
                  clear ho hg hb
                  refine hK.out _ _ trivial (fun hHeld => ?_)
                  clear hK K
                  try simp only [Act.put, List.setIfInBounds_toArray, List.set_cons_zero, List.set_cons_succ]
                  refine wpAnyH_ready (rs := [6]) (by kernel_rfl) (by simp) ?_
                  refine AllReadyH.cons rfl (fun K hK => ?_) AllReadyH.nil
                  go_simp
                  refine hK.out _ _ trivial (fun hHeld => ?_)
                  clear hK K
                  try simp only [Act.put, List.setIfInBounds_toArray, List.set_cons_zero, List.set_cons_succ]
                  have hBz := Lib.hid (hBz1.out.alloc (.cells #[.int .i64 n] 3))
                  have hLit := Lib.hid (heap_alloc_new z1 (.cells #[.int .i64 n] 3))
                  refine wpAnyH_ready (rs := [7]) (by kernel_rfl) (by simp) ?_
                  refine AllReadyH.cons rfl (fun K hK => ?_) AllReadyH.nil
                  refine step_append_seg (E := intEl) (n := wr.heap.size) intOk rfl (.tmp 52) (.tmp 54) rfl rfl (hOz1.out.alloc _) [(n : Int)] rfl (lit_int hLit.out) (by simp only [toZ_len, List.length_append, List.length_singleton, List.length_nil, List.length_take, List.length_drop]; unfold maxLen; omega) (by simp only [toZ_len, List.length_append, List.length_singleton, List.length_nil, List.length_take, List.length_drop]; omega) (Bel.size hBz.out) ?_
                  intro v2 z2 ho hg hb
                  have hBz2 := Lib.hid (Bel.trans_below' hBz.out hb)
                  have hOz2 := Lib.hid ho
                  clear ho hg hb
                  refine hK.out _ _ trivial (fun hHeld => ?_)
                  clear hK K
                  try simp only [Act.put, List.setIfInBounds_toArray, List.set_cons_zero, List.set_cons_succ]
                  refine wpAnyH_ready (rs := [11]) (by kernel_rfl) (by simp) ?_
                  refine AllReadyH.cons rfl (fun K hK => ?_) AllReadyH.nil
                  refine step_append_seg (E := intEl) (n := wr.heap.size) intOk rfl (.tmp 55) (.tmp 58) rfl rfl hOz2.out (toZ (out.drop k)) rfl (HIGH.out _ hBz2.out) (by simp only [toZ_len, List.length_append, List.length_singleton, List.length_nil, List.length_take, List.length_drop]; unfold maxLen; omega) (by simp only [toZ_len, List.length_append, List.length_singleton, List.length_nil, List.length_take, List.length_drop]; omega) (Bel.size hBz2.out) ?_
                  intro v3 z3 ho hg hb
                  have hBz3 := Lib.hid (Bel.trans_below' hBz2.out hb)
                  have hOz3 := Lib.hid ho
                  obtain ⟨p3, c3, hv3⟩ := ownG_len ho
                  have hlen3 : (toZ (out.take k) ++ [(n : Int)] ++ toZ (out.drop k)).length = out.length + 1 := by simp only [toZ_len, List.length_append, List.length_singleton, List.length_take, List.length_drop]; omega
                  rw [List.nil_append, hlen3] at hv3
                  subst hv3
                  replace hOz3 := Lib.hid ho
                  clear ho hg hb
                  refine hK.out _ _ trivial (fun hHeld => ?_)
                  clear hK K
                  try simp only [Act.put, List.setIfInBounds_toArray, List.set_cons_zero, List.set_cons_succ]
                  refine tk (v := ?_) 12 rfl ?_ ?_
                  rotate_left
                  · (intro w hSw; (try dsimp only at hSw); first | (go_simp; done) | (go_simp; with_reducible rfl))
                  try simp only [Act.put, List.setIfInBounds_toArray, List.set_cons_zero, List.set_cons_succ]
                  refine wpAnyH_done (by kernel_rfl) ?_ _
                  go_wp2_with (fail)
                  go_roundw
                  case rel => exact ⟨i + 1, by go_num, by omega, by
                    rw [HE.out, HI.out]
                    have e : toZ (out.take k ++ [n] ++ out.drop k) = [] ++ toZ (out.take k) ++ [(n : Int)] ++ toZ (out.drop k) := by simp [toZ]
                    rw [e]
                    exact hOz3.out.low HW.out.size, HW.out.trans hBz3.out⟩
                  case measure => simp [intOf]; omega
                · go_simp
                  refine hK.out _ _ trivial (fun hHeld => ?_)
                  clear hK K
                  try simp only [Act.put, List.setIfInBounds_toArray, List.set_cons_zero, List.set_cons_succ]
                  refine wpAnyH_ready (rs := [4]) (by kernel_rfl) (by simp) ?_
                  refine AllReadyH.cons rfl (fun K hK => ?_) AllReadyH.nil
                  refine step_append_seg (E := intEl) (n := wr.heap.size) (v := .slice (some ⟨wr.heap.size, 0, none⟩) 0 0) intOk rfl (.tmp 48) (.tmp 51) rfl rfl ((ownG_none_int (heap_alloc_new wr.drew _) (Nat.le_refl _)).alloc _) (toZ (out.take k)) rfl (LOW.out _ (((Bel.refl wr).drew.alloc _).alloc _)) (by simp only [toZ_len, List.length_append, List.length_singleton, List.length_nil, List.length_take, List.length_drop]; unfold maxLen; omega) (by simp only [toZ_len, List.length_append, List.length_singleton, List.length_nil, List.length_take, List.length_drop]; omega) (Bel.size (((Bel.refl wr).drew.alloc _).alloc _)) ?_
                  intro v1 z1 ho hg hb
                  have hBz1 := Lib.hid (Bel.trans_below' (((Bel.refl wr).drew.alloc _).alloc _) hb)
                  have hOz1 := Lib.hid ho
                  have hLit := Lib.hid (show z1.heap[wr.heap.size + 1]? = some (.cells #[.int .i64 n] 3) from at_grown hg (at_new (by simp)) (by simp [Value.ownBlock]))
                  clear ho hg hb
                  refine hK.out _ _ trivial (fun hHeld => ?_)
                  clear hK K
                  try simp only [Act.put, List.setIfInBounds_toArray, List.set_cons_zero, List.set_cons_succ]
                  refine wpAnyH_ready (rs := [7]) (by kernel_rfl) (by simp) ?_
                  refine AllReadyH.cons rfl (fun K hK => ?_) AllReadyH.nil
                  refine step_append_seg (E := intEl) (n := wr.heap.size) intOk rfl (.tmp 52) (.tmp 54) rfl rfl hOz1.out [(n : Int)] rfl (lit_int hLit.out) (by simp only [toZ_len, List.length_append, List.length_singleton, List.length_nil, List.length_take, List.length_drop]; unfold maxLen; omega) (by simp only [toZ_len, List.length_append, List.length_singleton, List.length_nil, List.length_take, List.length_drop]; omega) (Bel.size hBz1.out) ?_
                  intro v2 z2 ho hg hb
                  have hBz2 := Lib.hid (Bel.trans_below' hBz1.out hb)
                  have hOz2 := Lib.hid ho
                  clear ho hg hb
                  refine hK.out _ _ trivial (fun hHeld => ?_)
                  clear hK K
                  try simp only [Act.put, List.setIfInBounds_toArray, List.set_cons_zero, List.set_cons_succ]
                  refine wpAnyH_ready (rs := [11]) (by kernel_rfl) (by simp) ?_
                  refine AllReadyH.cons rfl (fun K hK => ?_) AllReadyH.nil
                  refine step_append_seg (E := intEl) (n := wr.heap.size) intOk rfl (.tmp 55) (.tmp 58) rfl rfl hOz2.out (toZ (out.drop k)) rfl (HIGH.out _ hBz2.out) (by simp only [toZ_len, List.length_append, List.length_singleton, List.length_nil, List.length_take, List.length_drop]; unfold maxLen; omega) (by simp only [toZ_len, List.length_append, List.length_singleton, List.length_nil, List.length_take, List.length_drop]; omega) (Bel.size hBz2.out) ?_
                  intro v3 z3 ho hg hb
                  have hBz3 := Lib.hid (Bel.trans_below' hBz2.out hb)
                  have hOz3 := Lib.hid ho
                  obtain ⟨p3, c3, hv3⟩ := ownG_len ho
                  have hlen3 : (toZ (out.take k) ++ [(n : Int)] ++ toZ (out.drop k)).length = out.length + 1 := by simp only [toZ_len, List.length_append, List.length_singleton, List.length_take, List.length_drop]; omega
                  rw [List.nil_append, hlen3] at hv3
                  subst hv3
                  replace hOz3 := Lib.hid ho
                  clear ho hg hb
                  refine hK.out _ _ trivial (fun hHeld => ?_)
                  clear hK K
                  try simp only [Act.put, List.setIfInBounds_toArray, List.set_cons_zero, List.set_cons_succ]
                  refine tk (v := ?_) 12 rfl ?_ ?_
                  rotate_left
                  · (intro w hSw; (try dsimp only at hSw); first | (go_simp; done) | (go_simp; with_reducible rfl))
                  try simp only [Act.put, List.setIfInBounds_toArray, List.set_cons_zero, List.set_cons_succ]
                  refine wpAnyH_done (by kernel_rfl) ?_ _
                  go_wp2_with (fail)
                  go_roundw
                  case rel => exact ⟨i + 1, by go_num, by omega, by
                    rw [HE.out, HI.out]
                    have e : toZ (out.take k ++ [n] ++ out.drop k) = [] ++ toZ (out.take k) ++ [(n : Int)] ++ toZ (out.drop k) := by simp [toZ]
                    rw [e]
                    exact hOz3.out.low HW.out.size, HW.out.trans hBz3.out⟩
                  case measure => simp [intOf]; omega
              · go_simp
                refine hK.out _ _ trivial (fun hHeld => ?_)
                clear hK K
                try simp only [Act.put, List.setIfInBounds_toArray, List.set_cons_zero, List.set_cons_succ]
                refine wpAnyH_ready (rs := [0]) (by kernel_rfl) (by simp) ?_
                refine AllReadyH.cons rfl (fun K hK => ?_) AllReadyH.nil
                go_simp
                refine hK.out _ _ trivial (fun hHeld => ?_)
                clear hK K
                try simp only [Act.put, List.setIfInBounds_toArray, List.set_cons_zero, List.set_cons_succ]
                refine wpAnyH_ready (rs := [4]) (by kernel_rfl) (by simp) ?_
                refine AllReadyH.cons rfl (fun K hK => ?_) AllReadyH.nil
                refine step_append_seg (E := intEl) (n := wr.heap.size) (v := .slice (some ⟨wr.heap.size + 1, 0, none⟩) 0 0) intOk rfl (.tmp 48) (.tmp 51) rfl rfl (ownG_none_int (B := wr.heap.size + 1) (at_new (by simp)) (by omega)) (toZ (out.take k)) rfl (LOW.out _ (((Bel.refl wr).drew.alloc _).alloc _)) (by simp only [toZ_len, List.length_append, List.length_singleton, List.length_nil, List.length_take, List.length_drop]; unfold maxLen; omega) (by simp only [toZ_len, List.length_append, List.length_singleton, List.length_nil, List.length_take, List.length_drop]; omega) (Bel.size (((Bel.refl wr).drew.alloc _).alloc _)) ?_
                intro v1 z1 ho hg hb
                have hBz1 := Lib.hid (Bel.trans_below' (((Bel.refl wr).drew.alloc _).alloc _) hb)
                have hOz1 := Lib.hid ho
                have hLit := Lib.hid (show z1.heap[wr.heap.size]? = some (.cells #[.int .i64 n] 3) from at_grown hg (at_old (heap_alloc_new wr.drew _)) (by simp [Value.ownBlock]))
                clear ho hg hb
                refine hK.out _ _ trivial (fun hHeld => ?_)
                clear hK K
                try simp only [Act.put, List.setIfInBounds_toArray, List.set_cons_zero, List.set_cons_succ]
                refine wpAnyH_ready (rs := [7]) (by kernel_rfl) (by simp) ?_
                refine AllReadyH.cons rfl (fun K hK => ?_) AllReadyH.nil
                refine step_append_seg (E := intEl) (n := wr.heap.size) intOk rfl (.tmp 52) (.tmp 54) rfl rfl hOz1.out [(n : Int)] rfl (lit_int hLit.out) (by simp only [toZ_len, List.length_append, List.length_singleton, List.length_nil, List.length_take, List.length_drop]; unfold maxLen; omega) (by simp only [toZ_len, List.length_append, List.length_singleton, List.length_nil, List.length_take, List.length_drop]; omega) (Bel.size hBz1.out) ?_
                intro v2 z2 ho hg hb
                have hBz2 := Lib.hid (Bel.trans_below' hBz1.out hb)
                have hOz2 := Lib.hid ho
                clear ho hg hb
                refine hK.out _ _ trivial (fun hHeld => ?_)
                clear hK K
                try simp only [Act.put, List.setIfInBounds_toArray, List.set_cons_zero, List.set_cons_succ]
                refine wpAnyH_ready (rs := [11]) (by kernel_rfl) (by simp) ?_
                refine AllReadyH.cons rfl (fun K hK => ?_) AllReadyH.nil
                refine step_append_seg (E := intEl) (n := wr.heap.size) intOk rfl (.tmp 55) (.tmp 58) rfl rfl hOz2.out (toZ (out.drop k)) rfl (HIGH.out _ hBz2.out) (by simp only [toZ_len, List.length_append, List.length_singleton, List.length_nil, List.length_take, List.length_drop]; unfold maxLen; omega) (by simp only [toZ_len, List.length_append, List.length_singleton, List.length_nil, List.length_take, List.length_drop]; omega) (Bel.size hBz2.out) ?_
                intro v3 z3 ho hg hb
                have hBz3 := Lib.hid (Bel.trans_below' hBz2.out hb)
                have hOz3 := Lib.hid ho
                obtain ⟨p3, c3, hv3⟩ := ownG_len ho
                have hlen3 : (toZ (out.take k) ++ [(n : Int)] ++ toZ (out.drop k)).length = out.length + 1 := by simp only [toZ_len, List.length_append, List.length_singleton, List.length_take, List.length_drop]; omega
                rw [List.nil_append, hlen3] at hv3
                subst hv3
                replace hOz3 := Lib.hid ho
                clear ho hg hb
                refine hK.out _ _ trivial (fun hHeld => ?_)
                clear hK K
                try simp only [Act.put, List.setIfInBounds_toArray, List.set_cons_zero, List.set_cons_succ]
                refine tk (v := ?_) 12 rfl ?_ ?_
                rotate_left
                · (intro w hSw; (try dsimp only at hSw); first | (go_simp; done) | (go_simp; with_reducible rfl))
                try simp only [Act.put, List.setIfInBounds_toArray, List.set_cons_zero, List.set_cons_succ]
                refine wpAnyH_done (by kernel_rfl) ?_ _
                go_wp2_with (fail)
                go_roundw
                case rel => exact ⟨i + 1, by go_num, by omega, by
                  rw [HE.out, HI.out]
                  have e : toZ (out.take k ++ [n] ++ out.drop k) = [] ++ toZ (out.take k) ++ [(n : Int)] ++ toZ (out.drop k) := by simp [toZ]
                  rw [e]
                  exact hOz3.out.low HW.out.size, HW.out.trans hBz3.out⟩
                case measure => simp [intOf]; omega
            · have hko' : k = out.length := by omega
              clear hstop hko'
              go_wp2_with (fail)
              have HW := Lib.hid (HB1.out.trans HB2.out)
              obtain ⟨s1, s2, hr1, hr2, hlow, hhigh⟩ := slice_parts (HO1.out.bel HB2.out) k hkl2 (by omega)
              have LOW := Lib.hid hlow
              have HIGH := Lib.hid hhigh
              clear hlow hhigh
              generalize hov : Value.slice op out.length oc = ov at *
              clear hov
              refine wp_region_held_drew (S := fun z => True) (by kernel_rfl) trivial (fun hHeld => ?_)
              refine tk (v := ?_) 1 rfl ?_ ?_
              rotate_left
              · (intro w hSw; (try dsimp only at hSw); first | (go_simp; done) | (go_simp; with_reducible rfl))
              try simp only [Act.put, List.setIfInBounds_toArray, List.set_cons_zero, List.set_cons_succ]
              refine tk (v := ?_) 2 rfl ?_ ?_
              rotate_left
              · (intro w hSw; (try dsimp only at hSw); first | (go_simp; done) | (go_simp; with_reducible rfl))
              try simp only [Act.put, List.setIfInBounds_toArray, List.set_cons_zero, List.set_cons_succ]
              refine tk (v := ?_) 5 rfl ?_ ?_
              rotate_left
              · (intro w hSw; (try dsimp only at hSw); first | (go_simp; done) | (go_simp; with_reducible rfl))
              try simp only [Act.put, List.setIfInBounds_toArray, List.set_cons_zero, List.set_cons_succ]
              refine tk (v := ?_) 8 rfl ?_ ?_
              rotate_left
              · (intro w hSw; (try dsimp only at hSw); first | (go_simp; done) | (go_simp; with_reducible rfl))
              try simp only [Act.put, List.setIfInBounds_toArray, List.set_cons_zero, List.set_cons_succ]
              refine tk (v := ?_) 9 rfl ?_ ?_
              rotate_left
              · (intro w hSw; (try dsimp only at hSw); first | (go_simp; done) | (go_simp; with_reducible rfl))
              try simp only [Act.put, List.setIfInBounds_toArray, List.set_cons_zero, List.set_cons_succ]
              refine tk (v := ?_) 3 rfl ?_ ?_
              rotate_left
              · (intro w hSw; (try dsimp only at hSw); first | (go_simp; done) | (go_simp; with_reducible rfl))
              try simp only [Act.put, List.setIfInBounds_toArray, List.set_cons_zero, List.set_cons_succ]
              refine tk (v := ?_) 10 rfl ?_ ?_
              rotate_left
              · (intro w hSw; (try dsimp only at hSw); first | (go_simp; done) | (go_simp; with_reducible rfl))
              try simp only [Act.put, List.setIfInBounds_toArray, List.set_cons_zero, List.set_cons_succ]
              refine wpAnyH_ready (rs := [0, 6]) (by kernel_rfl) (by simp) ?_
              refine (AllReadyH.cons rfl (fun K hK => ?_) (AllReadyH.cons rfl (fun K hK => ?_) AllReadyH.nil))
              · go_simp
                refine hK.out _ _ trivial (fun hHeld => ?_)
                clear hK K
                try simp only [Act.put, List.setIfInBounds_toArray, List.set_cons_zero, List.set_cons_succ]
                refine wpAnyH_ready (rs := [4, 6]) (by kernel_rfl) (by simp) ?_
                refine (AllReadyH.cons rfl (fun K hK => ?_) (AllReadyH.cons rfl (fun K hK => ?_) AllReadyH.nil))
                · refine step_append_seg (E := intEl) (n := wr.heap.size) (v := .slice (some ⟨wr.heap.size, 0, none⟩) 0 0) intOk rfl (.tmp 48) (.tmp 51) rfl rfl (ownG_none_int (heap_alloc_new wr.drew _) (Nat.le_refl _)) (toZ (out.take k)) rfl (LOW.out _ ((Bel.refl wr).drew.alloc _)) (by simp only [toZ_len, List.length_append, List.length_singleton, List.length_nil, List.length_take, List.length_drop]; unfold maxLen; omega) (by simp only [toZ_len, List.length_append, List.length_singleton, List.length_nil, List.length_take, List.length_drop]; omega) (Bel.size ((Bel.refl wr).drew.alloc _)) ?_
                  intro v1 z1 ho hg hb
                  have hBz1 := Lib.hid (Bel.trans_below' ((Bel.refl wr).drew.alloc _) hb)
                  have hOz1 := Lib.hid ho
                  clear ho hg hb
                  refine hK.out _ _ trivial (fun hHeld => ?_)
                  clear hK K
                  try simp only [Act.put, List.setIfInBounds_toArray, List.set_cons_zero, List.set_cons_succ]
                  refine wpAnyH_ready (rs := [6]) (by kernel_rfl) (by simp) ?_
                  refine AllReadyH.cons rfl (fun K hK => ?_) AllReadyH.nil
                  go_simp
                  refine hK.out _ _ trivial (fun hHeld => ?_)
                  clear hK K
                  try simp only [Act.put, List.setIfInBounds_toArray, List.set_cons_zero, List.set_cons_succ]
                  have hBz := Lib.hid (hBz1.out.alloc (.cells #[.int .i64 n] 3))
                  have hLit := Lib.hid (heap_alloc_new z1 (.cells #[.int .i64 n] 3))
                  refine wpAnyH_ready (rs := [7]) (by kernel_rfl) (by simp) ?_
                  refine AllReadyH.cons rfl (fun K hK => ?_) AllReadyH.nil
                  refine step_append_seg (E := intEl) (n := wr.heap.size) intOk rfl (.tmp 52) (.tmp 54) rfl rfl (hOz1.out.alloc _) [(n : Int)] rfl (lit_int hLit.out) (by simp only [toZ_len, List.length_append, List.length_singleton, List.length_nil, List.length_take, List.length_drop]; unfold maxLen; omega) (by simp only [toZ_len, List.length_append, List.length_singleton, List.length_nil, List.length_take, List.length_drop]; omega) (Bel.size hBz.out) ?_
                  intro v2 z2 ho hg hb
                  have hBz2 := Lib.hid (Bel.trans_below' hBz.out hb)
                  have hOz2 := Lib.hid ho
                  clear ho hg hb
                  refine hK.out _ _ trivial (fun hHeld => ?_)
                  clear hK K
                  try simp only [Act.put, List.setIfInBounds_toArray, List.set_cons_zero, List.set_cons_succ]
                  refine wpAnyH_ready (rs := [11]) (by kernel_rfl) (by simp) ?_
                  refine AllReadyH.cons rfl (fun K hK => ?_) AllReadyH.nil
                  refine step_append_seg (E := intEl) (n := wr.heap.size) intOk rfl (.tmp 55) (.tmp 58) rfl rfl hOz2.out (toZ (out.drop k)) rfl (HIGH.out _ hBz2.out) (by simp only [toZ_len, List.length_append, List.length_singleton, List.length_nil, List.length_take, List.length_drop]; unfold maxLen; omega) (by simp only [toZ_len, List.length_append, List.length_singleton, List.length_nil, List.length_take, List.length_drop]; omega) (Bel.size hBz2.out) ?_
                  intro v3 z3 ho hg hb
                  have hBz3 := Lib.hid (Bel.trans_below' hBz2.out hb)
                  have hOz3 := Lib.hid ho
                  obtain ⟨p3, c3, hv3⟩ := ownG_len ho
                  have hlen3 : (toZ (out.take k) ++ [(n : Int)] ++ toZ (out.drop k)).length = out.length + 1 := by simp only [toZ_len, List.length_append, List.length_singleton, List.length_take, List.length_drop]; omega
                  rw [List.nil_append, hlen3] at hv3
                  subst hv3
                  replace hOz3 := Lib.hid ho
                  clear ho hg hb
                  refine hK.out _ _ trivial (fun hHeld => ?_)
                  clear hK K
                  try simp only [Act.put, List.setIfInBounds_toArray, List.set_cons_zero, List.set_cons_succ]
                  refine tk (v := ?_) 12 rfl ?_ ?_
                  rotate_left
                  · (intro w hSw; (try dsimp only at hSw); first | (go_simp; done) | (go_simp; with_reducible rfl))
                  try simp only [Act.put, List.setIfInBounds_toArray, List.set_cons_zero, List.set_cons_succ]
                  refine wpAnyH_done (by kernel_rfl) ?_ _
                  go_wp2_with (fail)
                  go_roundw
                  case rel => exact ⟨i + 1, by go_num, by omega, by
                    rw [HE.out, HI.out]
                    have e : toZ (out.take k ++ [n] ++ out.drop k) = [] ++ toZ (out.take k) ++ [(n : Int)] ++ toZ (out.drop k) := by simp [toZ]
                    rw [e]
                    exact hOz3.out.low HW.out.size, HW.out.trans hBz3.out⟩
                  case measure => simp [intOf]; omega
                · go_simp
                  refine hK.out _ _ trivial (fun hHeld => ?_)
                  clear hK K
                  try simp only [Act.put, List.setIfInBounds_toArray, List.set_cons_zero, List.set_cons_succ]
                  refine wpAnyH_ready (rs := [4]) (by kernel_rfl) (by simp) ?_
                  refine AllReadyH.cons rfl (fun K hK => ?_) AllReadyH.nil
                  refine step_append_seg (E := intEl) (n := wr.heap.size) (v := .slice (some ⟨wr.heap.size, 0, none⟩) 0 0) intOk rfl (.tmp 48) (.tmp 51) rfl rfl ((ownG_none_int (heap_alloc_new wr.drew _) (Nat.le_refl _)).alloc _) (toZ (out.take k)) rfl (LOW.out _ (((Bel.refl wr).drew.alloc _).alloc _)) (by simp only [toZ_len, List.length_append, List.length_singleton, List.length_nil, List.length_take, List.length_drop]; unfold maxLen; omega) (by simp only [toZ_len, List.length_append, List.length_singleton, List.length_nil, List.length_take, List.length_drop]; omega) (Bel.size (((Bel.refl wr).drew.alloc _).alloc _)) ?_
                  intro v1 z1 ho hg hb
                  have hBz1 := Lib.hid (Bel.trans_below' (((Bel.refl wr).drew.alloc _).alloc _) hb)
                  have hOz1 := Lib.hid ho
                  have hLit := Lib.hid (show z1.heap[wr.heap.size + 1]? = some (.cells #[.int .i64 n] 3) from at_grown hg (at_new (by simp)) (by simp [Value.ownBlock]))
                  clear ho hg hb
                  refine hK.out _ _ trivial (fun hHeld => ?_)
                  clear hK K
                  try simp only [Act.put, List.setIfInBounds_toArray, List.set_cons_zero, List.set_cons_succ]
                  refine wpAnyH_ready (rs := [7]) (by kernel_rfl) (by simp) ?_
                  refine AllReadyH.cons rfl (fun K hK => ?_) AllReadyH.nil
                  refine step_append_seg (E := intEl) (n := wr.heap.size) intOk rfl (.tmp 52) (.tmp 54) rfl rfl hOz1.out [(n : Int)] rfl (lit_int hLit.out) (by simp only [toZ_len, List.length_append, List.length_singleton, List.length_nil, List.length_take, List.length_drop]; unfold maxLen; omega) (by simp only [toZ_len, List.length_append, List.length_singleton, List.length_nil, List.length_take, List.length_drop]; omega) (Bel.size hBz1.out) ?_
                  intro v2 z2 ho hg hb
                  have hBz2 := Lib.hid (Bel.trans_below' hBz1.out hb)
                  have hOz2 := Lib.hid ho
                  clear ho hg hb
                  refine hK.out _ _ trivial (fun hHeld => ?_)
                  clear hK K
                  try simp only [Act.put, List.setIfInBounds_toArray, List.set_cons_zero, List.set_cons_succ]
                  refine wpAnyH_ready (rs := [11]) (by kernel_rfl) (by simp) ?_
                  refine AllReadyH.cons rfl (fun K hK => ?_) AllReadyH.nil
                  refine step_append_seg (E := intEl) (n := wr.heap.size) intOk rfl (.tmp 55) (.tmp 58) rfl rfl hOz2.out (toZ (out.drop k)) rfl (HIGH.out _ hBz2.out) (by simp only [toZ_len, List.length_append, List.length_singleton, List.length_nil, List.length_take, List.length_drop]; unfold maxLen; omega) (by simp only [toZ_len, List.length_append, List.length_singleton, List.length_nil, List.length_take, List.length_drop]; omega) (Bel.size hBz2.out) ?_
                  intro v3 z3 ho hg hb
                  have hBz3 := Lib.hid (Bel.trans_below' hBz2.out hb)
                  have hOz3 := Lib.hid ho
                  obtain ⟨p3, c3, hv3⟩ := ownG_len ho
                  have hlen3 : (toZ (out.take k) ++ [(n : Int)] ++ toZ (out.drop k)).length = out.length + 1 := by simp only [toZ_len, List.length_append, List.length_singleton, List.length_take, List.length_drop]; omega
                  rw [List.nil_append, hlen3] at hv3
                  subst hv3
                  replace hOz3 := Lib.hid ho
                  clear ho hg hb
                  refine hK.out _ _ trivial (fun hHeld => ?_)
                  clear hK K
                  try simp only [Act.put, List.setIfInBounds_toArray, List.set_cons_zero, List.set_cons_succ]
                  refine tk (v := ?_) 12 rfl ?_ ?_
                  rotate_left
                  · (intro w hSw; (try dsimp only at hSw); first | (go_simp; done) | (go_simp; with_reducible rfl))
                  try simp only [Act.put, List.setIfInBounds_toArray, List.set_cons_zero, List.set_cons_succ]
                  refine wpAnyH_done (by kernel_rfl) ?_ _
                  go_wp2_with (fail)
                  go_roundw
                  case rel => exact ⟨i + 1, by go_num, by omega, by
                    rw [HE.out, HI.out]
                    have e : toZ (out.take k ++ [n] ++ out.drop k) = [] ++ toZ (out.take k) ++ [(n : Int)] ++ toZ (out.drop k) := by simp [toZ]
                    rw [e]
                    exact hOz3.out.low HW.out.size, HW.out.trans hBz3.out⟩
                  case measure => simp [intOf]; omega
              · go_simp
                refine hK.out _ _ trivial (fun hHeld => ?_)
                clear hK K
                try simp only [Act.put, List.setIfInBounds_toArray, List.set_cons_zero, List.set_cons_succ]
                refine wpAnyH_ready (rs := [0]) (by kernel_rfl) (by simp) ?_
                refine AllReadyH.cons rfl (fun K hK => ?_) AllReadyH.nil
                go_simp
                refine hK.out _ _ trivial (fun hHeld => ?_)
                clear hK K
                try simp only [Act.put, List.setIfInBounds_toArray, List.set_cons_zero, List.set_cons_succ]
                refine wpAnyH_ready (rs := [4]) (by kernel_rfl) (by simp) ?_
                refine AllReadyH.cons rfl (fun K hK => ?_) AllReadyH.nil
                refine step_append_seg (E := intEl) (n := wr.heap.size) (v := .slice (some ⟨wr.heap.size + 1, 0, none⟩) 0 0) intOk rfl (.tmp 48) (.tmp 51) rfl rfl (ownG_none_int (B := wr.heap.size + 1) (at_new (by simp)) (by omega)) (toZ (out.take k)) rfl (LOW.out _ (((Bel.refl wr).drew.alloc _).alloc _)) (by simp only [toZ_len, List.length_append, List.length_singleton, List.length_nil, List.length_take, List.length_drop]; unfold maxLen; omega) (by simp only [toZ_len, List.length_append, List.length_singleton, List.length_nil, List.length_take, List.length_drop]; omega) (Bel.size (((Bel.refl wr).drew.alloc _).alloc _)) ?_
                intro v1 z1 ho hg hb
                have hBz1 := Lib.hid (Bel.trans_below' (((Bel.refl wr).drew.alloc _).alloc _) hb)
                have hOz1 := Lib.hid ho
                have hLit := Lib.hid (show z1.heap[wr.heap.size]? = some (.cells #[.int .i64 n] 3) from at_grown hg (at_old (heap_alloc_new wr.drew _)) (by simp [Value.ownBlock]))
                clear ho hg hb
                refine hK.out _ _ trivial (fun hHeld => ?_)
                clear hK K
                try simp only [Act.put, List.setIfInBounds_toArray, List.set_cons_zero, List.set_cons_succ]
                refine wpAnyH_ready (rs := [7]) (by kernel_rfl) (by simp) ?_
                refine AllReadyH.cons rfl (fun K hK => ?_) AllReadyH.nil
                refine step_append_seg (E := intEl) (n := wr.heap.size) intOk rfl (.tmp 52) (.tmp 54) rfl rfl hOz1.out [(n : Int)] rfl (lit_int hLit.out) (by simp only [toZ_len, List.length_append, List.length_singleton, List.length_nil, List.length_take, List.length_drop]; unfold maxLen; omega) (by simp only [toZ_len, List.length_append, List.length_singleton, List.length_nil, List.length_take, List.length_drop]; omega) (Bel.size hBz1.out) ?_
                intro v2 z2 ho hg hb
                have hBz2 := Lib.hid (Bel.trans_below' hBz1.out hb)
                have hOz2 := Lib.hid ho
                clear ho hg hb
                refine hK.out _ _ trivial (fun hHeld => ?_)
                clear hK K
                try simp only [Act.put, List.setIfInBounds_toArray, List.set_cons_zero, List.set_cons_succ]
                refine wpAnyH_ready (rs := [11]) (by kernel_rfl) (by simp) ?_
                refine AllReadyH.cons rfl (fun K hK => ?_) AllReadyH.nil
                refine step_append_seg (E := intEl) (n := wr.heap.size) intOk rfl (.tmp 55) (.tmp 58) rfl rfl hOz2.out (toZ (out.drop k)) rfl (HIGH.out _ hBz2.out) (by simp only [toZ_len, List.length_append, List.length_singleton, List.length_nil, List.length_take, List.length_drop]; unfold maxLen; omega) (by simp only [toZ_len, List.length_append, List.length_singleton, List.length_nil, List.length_take, List.length_drop]; omega) (Bel.size hBz2.out) ?_
                intro v3 z3 ho hg hb
                have hBz3 := Lib.hid (Bel.trans_below' hBz2.out hb)
                have hOz3 := Lib.hid ho
                obtain ⟨p3, c3, hv3⟩ := ownG_len ho
                have hlen3 : (toZ (out.take k) ++ [(n : Int)] ++ toZ (out.drop k)).length = out.length + 1 := by simp only [toZ_len, List.length_append, List.length_singleton, List.length_take, List.length_drop]; omega
                rw [List.nil_append, hlen3] at hv3
                subst hv3
                replace hOz3 := Lib.hid ho
                clear ho hg hb
                refine hK.out _ _ trivial (fun hHeld => ?_)
                clear hK K
                try simp only [Act.put, List.setIfInBounds_toArray, List.set_cons_zero, List.set_cons_succ]
                refine tk (v := ?_) 12 rfl ?_ ?_
                rotate_left
                · (intro w hSw; (try dsimp only at hSw); first | (go_simp; done) | (go_simp; with_reducible rfl))
                try simp only [Act.put, List.setIfInBounds_toArray, List.set_cons_zero, List.set_cons_succ]
                refine wpAnyH_done (by kernel_rfl) ?_ _
                go_wp2_with (fail)
                go_roundw
                case rel => exact ⟨i + 1, by go_num, by omega, by
                  rw [HE.out, HI.out]
                  have e : toZ (out.take k ++ [n] ++ out.drop k) = [] ++ toZ (out.take k) ++ [(n : Int)] ++ toZ (out.drop k) := by simp [toZ]
                  rw [e]
                  exact hOz3.out.low HW.out.size, HW.out.trans hBz3.out⟩
                case measure => simp [intOf]; omega
    · obtain rfl : i = M.L.length := by omega
      go_wp2_with (fail)
      go_ret
      have e : segsL p.data.toList M.L = segsL p.data.toList (M.L.take M.L.length) := by rw [List.take_length]
      exact ⟨_, rfl, by rw [e]; exact HO.out, HB.out⟩
set_option maxHeartbeats 4000000 in
theorem rnum_any (n₀ : Nat) (w : World) (jb b : Nat) (p : ByteArray) (most : Int) (M : RS) (F : List Nat) (h : RefP n₀ w b M F) (hM : M.ok) (hj : JAt w jb b p most) (hp : p.size ≤ 100) :
    Calls Tryz.prog 41 #[.pointer (some ⟨jb, 0, none⟩)] w fun e w' => e = .returned (.int .i64 (lastN p.data.toList M.L : Nat)) ∧ Bel w w' := by
  have HC := Lib.hid (rsegs_any n₀ w jb b p most M F h hM hj hp)
  have hsl := segs_len p.data.toList M.L
  have h60 := hM.len
  obtain ⟨l, hl⟩ : ∃ l, l = segsL p.data.toList M.L := ⟨_, rfl⟩
  have HLN := Lib.hid (show lastN p.data.toList M.L = l.getLast?.getD 0 by rw [hl]; rfl)
  rw [← hl] at HC hsl
  clear hl hj h hM
  go_enter Tryz.func41, Tryz.ntmps41
  go_wp2_with (fail)
  refine HC.out.mono ?_
  rintro e w1 ⟨v, rfl, hown, hb1⟩
  have HV := Lib.hid hown
  have HB1 := Lib.hid hb1
  obtain ⟨sp, sc, hv⟩ := ownG_len hown
  rw [toZ_len] at hv
  subst hv
  clear hown hb1
  by_cases h0 : l.length = 0
  · have HZ := Lib.hid (show l.getLast?.getD 0 = 0 by rw [List.length_eq_zero_iff.1 h0]; rfl)
    go_wp2_with (fail)
    go_ret
    exact ⟨by rw [HLN.out, HZ.out]; rfl, HB1.out⟩
  · obtain ⟨k, hk⟩ : ∃ k, l.length = k + 1 := ⟨l.length - 1, by omega⟩
    have hkl : k < l.length := by omega
    obtain ⟨g, cap, hv, hcap, _, e0⟩ := int_at HV.out k hkl
    simp only [Value.slice.injEq, true_and] at hv
    obtain ⟨rfl, rfl⟩ := hv
    have HZ := Lib.hid (show l.getLast?.getD 0 = l[k] by
      rw [List.getLast?_eq_getElem?, show l.length - 1 = k by omega, List.getElem?_eq_getElem hkl]; rfl)
    obtain ⟨m, hm⟩ : ∃ m, m = l[k] := ⟨_, rfl⟩
    rw [← hm] at e0 HZ
    have hk1 : (l.length : Int) - 1 = (k : Int) := by omega
    clear hm
    go_wp2_with (fail)
    go_ret
    exact ⟨by rw [HLN.out, HZ.out]; rfl, HB1.out⟩
end Go.Proofs.YtlmlcnbgdaiaeaaGreatDoor
/- journal's Turn, withRoom, Write. -/
namespace Go.Proofs.YtlmlcnbgdaiaeaaGreatDoor
open Go.RowKit Go.Deep Go.Maps

structure JS (n₀ : Nat) (w : World) (b : Nat) (M : RS) (F : List Nat) (jb : Nat) (p : ByteArray) (most : Int) : Prop where
  prog : ProgAt n₀ w b M F
  ok : M.ok
  j : JAt w jb b p most
  out : jb ∉ F
  std : ∀ z, Keep F w z → Std z
section
variable {n₀ : Nat} {w x y : World} {b jb : Nat} {M M1 M2 : RS} {F F1 : List Nat} {p : ByteArray} {most : Int}
theorem JS.std0 (h : JS n₀ w b M F jb p most) : Std w := h.std w (Keep.refl _ _)
theorem JS.bel (h : JS n₀ w b M F jb p most) (hb : Bel w x) : JS n₀ x b M F jb p most :=
  ⟨h.prog.bel hb, h.ok, h.j.bel hb, h.out, fun z hz => h.std z ((Keep.of_bel hb F).trans hz (fun k hk => Or.inl hk))⟩
theorem JS.step (h : JS n₀ w b M F jb p most) (hT : ProgTo n₀ w x b M1 F) (hM : M1.ok) : ∃ F1, JS n₀ x b M1 F1 jb p most ∧ Keep F w x ∧ (∀ k ∈ F1, k ∈ F ∨ w.heap.size ≤ k) := by
  obtain ⟨F1, h1, h2, h3⟩ := hT
  refine ⟨F1, ⟨h1, hM, h.j.keep (h2.block jb h.j.lt h.out), fun hm => ?_, fun z hz => h.std z (h2.trans hz h3)⟩, h2, h3⟩
  rcases h3 jb hm with h4 | h4
  · exact h.out h4
  · have := h.j.lt; omega
theorem to_then (hk : Keep F w x) (hF : ∀ k ∈ F1, k ∈ F ∨ w.heap.size ≤ k) (h2 : ProgTo n₀ x y b M2 F1) : ProgTo n₀ w y b M2 F := by
  obtain ⟨F2, q1, q2, q3⟩ := h2
  refine ⟨F2, q1, hk.trans q2 hF, fun k hm => ?_⟩
  rcases q3 k hm with h | h
  · exact hF k h
  · exact Or.inr (Nat.le_trans hk.size h)
end

set_option maxHeartbeats 4000000 in
set_option maxRecDepth 20000 in
theorem jturn_any (n₀ : Nat) (w : World) (b : Nat) (M : RS) (F : List Nat) (jb : Nat) (p : ByteArray) (most : Int) (h : JS n₀ w b M F jb p most) (hp : p.size ≤ 100) (h9 : lastN p.data.toList M.L < 9999999) :
    Calls Tryz.prog 25 #[.pointer (some ⟨jb, 0, none⟩)] w fun e y => e = .returned (.int .i64 (jturn p.data.toList M).1) ∧ ProgTo n₀ w y b (jturn p.data.toList M).2 F := by
  have H := Lib.hid h
  have c0 := h.j.files
  clear h
  obtain ⟨n, hn⟩ : ∃ n, n = lastN p.data.toList M.L := ⟨_, rfl⟩
  have HN := Lib.hid hn
  rw [← hn] at h9
  have hne : ((n : Int) == 9999999) = false := by rw [beq_eq_false_iff_ne]; omega
  have hfl := file_len p.data.toList (n := n + 1) (by omega)
  have hfz := str_len (fileN p.data.toList (n + 1))
  have hpl : p.data.toList.length = p.size := rfl
  have HCF := Lib.hid (fun (z : World) (hj : JAt z jb b p most) (hs : Std z) => file_any z jb b p most (n + 1) hj hp (by omega) hs)
  have hcast : ((n + 1 : Nat) : Int) = (n : Int) + 1 := by omega
  rw [hcast] at HCF
  have hwr : IntKind.i64.wrap ((n : Int) + 1) = (n : Int) + 1 := IntWalk.i64_in _ (by omega)
  clear hn hcast
  go_enter Tryz.func25, Tryz.ntmps25
  go_wp2_with (fail)
  refine (num_any n₀ w jb b p most M F H.out.prog H.out.ok H.out.j hp H.out.std0).mono ?_
  rintro e w1 ⟨rfl, hb1⟩
  rw [← HN.out]
  have HB1 := Lib.hid hb1
  have c1 := cell_later hb1 c0
  clear hb1
  have HX := Lib.hid (H.out.bel HB1.out)
  go_wp2_with (fail)
  refine wp_region_held_drew (S := fun z => z.cell? ⟨jb, 0, none⟩ = some (.pointer (some ⟨b, 0, none⟩))) (by kernel_rfl) c1 (fun hHeld => ?_)
  refine tk (oi := { dst := some 13, op := Op.move (Operand.tmp 0), type := 51, pos := "journal.go:105", after := #[], guard := none }) (v := ?_) 0 rfl ?_ ?_
  rotate_left
  · (intro w hSw; (try dsimp only at hSw); first | (go_simp; done) | (go_simp; with_reducible rfl))
  try simp only [Act.put, List.setIfInBounds_toArray, List.set_cons_zero, List.set_cons_succ]
  refine tk (oi := { dst := some 14, op := Op.nilCheck (Operand.tmp 13), type := 0, pos := "journal.go:105", after := #[{ on := 0, ground := Ground.data }], guard := none }) (v := ?_) 1 rfl ?_ ?_
  rotate_left
  · (intro w hSw; (try dsimp only at hSw); first | (go_simp; done) | (go_simp; with_reducible rfl))
  try simp only [Act.put, List.setIfInBounds_toArray, List.set_cons_zero, List.set_cons_succ]
  refine tk (oi := { dst := some 15, op := Op.fieldAddr 99 (Operand.tmp 14) 0, type := 0, pos := "journal.go:105", after := #[{ on := 1, ground := Ground.data }], guard := none }) (v := ?_) 2 rfl ?_ ?_
  rotate_left
  · (intro w hSw; (try dsimp only at hSw); first | (go_simp; done) | (go_simp; with_reducible rfl))
  try simp only [Act.put, List.setIfInBounds_toArray, List.set_cons_zero, List.set_cons_succ]
  refine tk (oi := { dst := some 16, op := Op.load 42 (Operand.tmp 15), type := 42, pos := "journal.go:105", after := #[{ on := 2, ground := Ground.data }], guard := none }) (v := ?_) 3 rfl ?_ ?_
  rotate_left
  · (intro w hSw; (try dsimp only at hSw); first | (go_simp; done) | (go_simp; with_reducible rfl))
  try simp only [Act.put, List.setIfInBounds_toArray, List.set_cons_zero, List.set_cons_succ]
  refine tk (oi := { dst := some 17, op := Op.move (Operand.tmp 0), type := 51, pos := "journal.go:105", after := #[], guard := none }) (v := ?_) 4 rfl ?_ ?_
  rotate_left
  · (intro w hSw; (try dsimp only at hSw); first | (go_simp; done) | (go_simp; with_reducible rfl))
  try simp only [Act.put, List.setIfInBounds_toArray, List.set_cons_zero, List.set_cons_succ]
  refine tk (oi := { dst := some 18, op := Op.move (Operand.tmp 3), type := 3, pos := "journal.go:105", after := #[], guard := none }) (v := ?_) 5 rfl ?_ ?_
  rotate_left
  · (intro w hSw; (try dsimp only at hSw); first | (go_simp; done) | (go_simp; with_reducible rfl))
  try simp only [Act.put, List.setIfInBounds_toArray, List.set_cons_zero, List.set_cons_succ]
  refine tk (oi := { dst := some 19, op := Op.binOp BinOp.add 3 (Operand.tmp 18) (Operand.const (Value.int IntKind.i64 1)) 3, type := 3, pos := "journal.go:105", after := #[{ on := 5, ground := Ground.data }], guard := none }) (v := ?_) 6 rfl ?_ ?_
  rotate_left
  · (intro w hSw; (try dsimp only at hSw); first | (go_simp; done) | (go_simp; with_reducible rfl))
  try simp only [Act.put, List.setIfInBounds_toArray, List.set_cons_zero, List.set_cons_succ]
  refine wpAnyH_ready (rs := [7]) (by kernel_rfl) (by simp) ?_
  refine AllReadyH.cons (o := { dst := some 20, op := Op.call { callee := Callee.value (Operand.func 64), args := #[Operand.tmp 17, Operand.tmp 19], argTypes := #[51, 3] }, type := 9, pos := "journal.go:105", after := #[{ on := 4, ground := Ground.data }, { on := 6, ground := Ground.data }], guard := none }) rfl (fun K hK => ?_) AllReadyH.nil
  go_simp
  refine (HCF.out _ (HX.out.bel (Bel.refl w1).drew).j (HX.out.bel (Bel.refl w1).drew).std0).mono ?_
  rintro e w2 ⟨rfl, hb2⟩
  have HB2 := Lib.hid ((HB1.out.drew).trans hb2)
  have c2 := cell_later hb2 (show _ = _ from c1)
  clear hb2
  dsimp only
  refine hK.out _ _ c2 (fun hHeld => ?_)
  clear hK K
  try simp only [Act.put, List.setIfInBounds_toArray, List.set_cons_zero, List.set_cons_succ]
  refine wpAnyH_ready (rs := [8]) (by kernel_rfl) (by simp) ?_
  refine AllReadyH.cons (o := { dst := some 21, op := Op.call { callee := Callee.value (Operand.func 17), args := #[Operand.tmp 16, Operand.tmp 20, Operand.const (Value.string { data := #[] })], argTypes := #[42, 9, 9] }, type := 31, pos := "journal.go:105", after := #[{ on := 3, ground := Ground.data }, { on := 7, ground := Ground.data }, { on := 7, ground := Ground.chain }], guard := none }) rfl (fun K hK => ?_) AllReadyH.nil
  go_simp
  refine (padd_any n₀ w2 b M F (⟨(fileN p.data.toList (n + 1)).toArray⟩ : ByteArray) ⟨#[]⟩ (H.out.prog.bel HB2.out) (by omega) (by decide) H.out.ok.srt (good_len H.out.ok) (good_bytes H.out.ok) H.out.ok.room).mono ?_
  rintro e w3 ⟨rfl, hT⟩
  rw [str_list] at hT ⊢
  have HT := Lib.hid (hT.before HB2.out)
  have c3 : w3.cell? ⟨jb, 0, none⟩ = some (.pointer (some ⟨b, 0, none⟩)) := by
    obtain ⟨F3, _, q2, _⟩ := hT
    exact q2.cell c2 H.out.out
  clear hT
  have HJ := Lib.hid (show jturn p.data.toList M = addS (fileN p.data.toList (n + 1)) (⟨#[]⟩ : ByteArray).data.toList M by unfold jturn; rw [← HN.out])
  dsimp only
  refine hK.out _ _ c3 (fun hHeld => ?_)
  clear hK K
  try simp only [Act.put, List.setIfInBounds_toArray, List.set_cons_zero, List.set_cons_succ]
  refine tk (oi := { dst := some 2, op := Op.assign (Operand.tmp 21), type := 31, pos := "journal.go:105", after := #[{ on := 8, ground := Ground.data }, { on := 8, ground := Ground.chain }, { on := 0, ground := Ground.phase }, { on := 1, ground := Ground.phase }, { on := 2, ground := Ground.phase }, { on := 3, ground := Ground.phase }, { on := 4, ground := Ground.phase }, { on := 5, ground := Ground.phase }, { on := 6, ground := Ground.phase }, { on := 7, ground := Ground.phase }, { on := 8, ground := Ground.phase }], guard := none }) (v := ?_) 9 rfl ?_ ?_
  rotate_left
  · (intro w hSw; (try dsimp only at hSw); first | (go_simp; done) | (go_simp; with_reducible rfl))
  try simp only [Act.put, List.setIfInBounds_toArray, List.set_cons_zero, List.set_cons_succ]
  refine wpAnyH_done (by kernel_rfl) ?_ _
  go_wp2_with (fail)
  go_ret
  exact ⟨by rw [HJ.out]; rfl, by rw [HJ.out]; exact HT.out⟩
end Go.Proofs.YtlmlcnbgdaiaeaaGreatDoor
/- moultref7's Turn. -/
namespace Go.Proofs.YtlmlcnbgdaiaeaaGreatDoor
open Go.RowKit Go.Deep Go.Maps

structure RJS (n₀ : Nat) (w : World) (b : Nat) (M : RS) (F : List Nat) (jb : Nat) (p : ByteArray) (most : Int) : Prop where
  ref : RefP n₀ w b M F
  ok : M.ok
  j : JAt w jb b p most
  out : jb ∉ F
section
variable {n₀ : Nat} {w x y : World} {b jb : Nat} {M M1 M2 : RS} {F F1 : List Nat} {p : ByteArray} {most : Int}
theorem RJS.bel (h : RJS n₀ w b M F jb p most) (hb : Bel w x) : RJS n₀ x b M F jb p most :=
  ⟨h.ref.bel hb, h.ok, h.j.bel hb, h.out⟩
theorem RJS.step (h : RJS n₀ w b M F jb p most) (hT : RefTo n₀ w x b M1 F) (hM : M1.ok) : ∃ F1, RJS n₀ x b M1 F1 jb p most ∧ Keep F w x ∧ (∀ k ∈ F1, k ∈ F ∨ w.heap.size ≤ k) := by
  obtain ⟨F1, h1, h2, h3⟩ := hT
  refine ⟨F1, ⟨h1, hM, h.j.keep (h2.block jb h.j.lt h.out), fun hm => ?_⟩, h2, h3⟩
  rcases h3 jb hm with h4 | h4
  · exact h.out h4
  · have := h.j.lt; omega
theorem rto_then (hk : Keep F w x) (hF : ∀ k ∈ F1, k ∈ F ∨ w.heap.size ≤ k) (h2 : RefTo n₀ x y b M2 F1) : RefTo n₀ w y b M2 F := by
  obtain ⟨F2, q1, q2, q3⟩ := h2
  refine ⟨F2, q1, hk.trans q2 hF, fun k hm => ?_⟩
  rcases q3 k hm with h | h
  · exact hF k h
  · exact Or.inr (Nat.le_trans hk.size h)
end

set_option maxHeartbeats 4000000 in
set_option maxRecDepth 20000 in
theorem rjturn_any (n₀ : Nat) (w : World) (b : Nat) (M : RS) (F : List Nat) (jb : Nat) (p : ByteArray) (most : Int) (h : RJS n₀ w b M F jb p most) (hp : p.size ≤ 100) (h9 : lastN p.data.toList M.L < 9999999) :
    Calls Tryz.prog 32 #[.pointer (some ⟨jb, 0, none⟩)] w fun e y => e = .returned (.int .i64 (jturn p.data.toList M).1) ∧ RefTo n₀ w y b (jturn p.data.toList M).2 F := by
  have H := Lib.hid h
  have c0 := h.j.files
  clear h
  obtain ⟨n, hn⟩ : ∃ n, n = lastN p.data.toList M.L := ⟨_, rfl⟩
  have HN := Lib.hid hn
  rw [← hn] at h9
  have hfl := file_len p.data.toList (n := n + 1) (by omega)
  have hfz := str_len (fileN p.data.toList (n + 1))
  have hpl : p.data.toList.length = p.size := rfl
  have HCF := Lib.hid (fun (z : World) (hj : JAt z jb b p most) => rfile_any z jb b p most (n + 1) hj hp (by omega))
  have hcast : ((n + 1 : Nat) : Int) = (n : Int) + 1 := by omega
  rw [hcast] at HCF
  have hwr : IntKind.i64.wrap ((n : Int) + 1) = (n : Int) + 1 := IntWalk.i64_in _ (by omega)
  clear hn hcast
  go_enter Tryz.func32, Tryz.ntmps32
  go_wp2_with (fail)
  refine wp_region_held_drew (S := fun z => z.cell? ⟨jb, 0, none⟩ = some (.pointer (some ⟨b, 0, none⟩))) (by kernel_rfl) c0 (fun hHeld => ?_)
  refine tk (oi := { dst := some 3, op := Op.move (Operand.tmp 0), type := 54, pos := "ref.go:181", after := #[], guard := none }) (v := ?_) 0 rfl ?_ ?_
  rotate_left
  · (intro w hSw; (try dsimp only at hSw); first | (go_simp; done) | (go_simp; with_reducible rfl))
  try simp only [Act.put, List.setIfInBounds_toArray, List.set_cons_zero, List.set_cons_succ]
  refine tk (oi := { dst := some 4, op := Op.nilCheck (Operand.tmp 3), type := 0, pos := "ref.go:181", after := #[{ on := 0, ground := Ground.data }], guard := none }) (v := ?_) 1 rfl ?_ ?_
  rotate_left
  · (intro w hSw; (try dsimp only at hSw); first | (go_simp; done) | (go_simp; with_reducible rfl))
  try simp only [Act.put, List.setIfInBounds_toArray, List.set_cons_zero, List.set_cons_succ]
  refine tk (oi := { dst := some 5, op := Op.fieldAddr 104 (Operand.tmp 4) 0, type := 0, pos := "ref.go:181", after := #[{ on := 1, ground := Ground.data }], guard := none }) (v := ?_) 2 rfl ?_ ?_
  rotate_left
  · (intro w hSw; (try dsimp only at hSw); first | (go_simp; done) | (go_simp; with_reducible rfl))
  try simp only [Act.put, List.setIfInBounds_toArray, List.set_cons_zero, List.set_cons_succ]
  refine tk (oi := { dst := some 6, op := Op.load 45 (Operand.tmp 5), type := 45, pos := "ref.go:181", after := #[{ on := 2, ground := Ground.data }], guard := none }) (v := ?_) 3 rfl ?_ ?_
  rotate_left
  · (intro w hSw; (try dsimp only at hSw); first | (go_simp; done) | (go_simp; with_reducible rfl))
  try simp only [Act.put, List.setIfInBounds_toArray, List.set_cons_zero, List.set_cons_succ]
  refine tk (oi := { dst := some 7, op := Op.move (Operand.tmp 0), type := 54, pos := "ref.go:181", after := #[], guard := none }) (v := ?_) 4 rfl ?_ ?_
  rotate_left
  · (intro w hSw; (try dsimp only at hSw); first | (go_simp; done) | (go_simp; with_reducible rfl))
  try simp only [Act.put, List.setIfInBounds_toArray, List.set_cons_zero, List.set_cons_succ]
  refine tk (oi := { dst := some 8, op := Op.move (Operand.tmp 0), type := 54, pos := "ref.go:181", after := #[], guard := none }) (v := ?_) 5 rfl ?_ ?_
  rotate_left
  · (intro w hSw; (try dsimp only at hSw); first | (go_simp; done) | (go_simp; with_reducible rfl))
  try simp only [Act.put, List.setIfInBounds_toArray, List.set_cons_zero, List.set_cons_succ]
  refine wpAnyH_ready (rs := [6]) (by kernel_rfl) (by simp) ?_
  refine AllReadyH.cons (o := { dst := some 9, op := Op.call { callee := Callee.value (Operand.func 41), args := #[Operand.tmp 8], argTypes := #[54] }, type := 3, pos := "ref.go:181", after := #[{ on := 5, ground := Ground.data }], guard := none }) rfl (fun K hK => ?_) AllReadyH.nil
  go_simp
  refine (rnum_any n₀ _ jb b p most M F (H.out.bel (Bel.refl w).drew).ref H.out.ok (H.out.bel (Bel.refl w).drew).j hp).mono ?_
  rintro e w1 ⟨rfl, hb1⟩
  rw [← HN.out]
  have HB1 := Lib.hid (((Bel.refl w).drew).trans hb1)
  have c1 := cell_later hb1 (show _ = _ from c0)
  clear hb1
  have HX := Lib.hid (H.out.bel HB1.out)
  dsimp only
  refine hK.out _ _ c1 (fun hHeld => ?_)
  clear hK K
  try simp only [Act.put, List.setIfInBounds_toArray, List.set_cons_zero, List.set_cons_succ]
  refine tk (oi := { dst := some 10, op := Op.binOp BinOp.add 3 (Operand.tmp 9) (Operand.const (Value.int IntKind.i64 1)) 3, type := 3, pos := "ref.go:181", after := #[{ on := 6, ground := Ground.data }], guard := none }) (v := ?_) 7 rfl ?_ ?_
  rotate_left
  · (intro w hSw; (try dsimp only at hSw); first | (go_simp; done) | (go_simp; with_reducible rfl))
  try simp only [Act.put, List.setIfInBounds_toArray, List.set_cons_zero, List.set_cons_succ]
  refine wpAnyH_ready (rs := [8]) (by kernel_rfl) (by simp) ?_
  refine AllReadyH.cons (o := { dst := some 11, op := Op.call { callee := Callee.value (Operand.func 57), args := #[Operand.tmp 7, Operand.tmp 10], argTypes := #[54, 3] }, type := 9, pos := "ref.go:181", after := #[{ on := 4, ground := Ground.data }, { on := 7, ground := Ground.data }, { on := 6, ground := Ground.chain }], guard := none }) rfl (fun K hK => ?_) AllReadyH.nil
  go_simp
  refine (HCF.out _ HX.out.j).mono ?_
  rintro e w2 ⟨rfl, hb2⟩
  have HB2 := Lib.hid (HB1.out.trans hb2)
  have c2 := cell_later hb2 (show _ = _ from c1)
  clear hb2
  dsimp only
  refine hK.out _ _ c2 (fun hHeld => ?_)
  clear hK K
  try simp only [Act.put, List.setIfInBounds_toArray, List.set_cons_zero, List.set_cons_succ]
  refine wpAnyH_ready (rs := [9]) (by kernel_rfl) (by simp) ?_
  refine AllReadyH.cons (o := { dst := some 12, op := Op.call { callee := Callee.value (Operand.func 18), args := #[Operand.tmp 6, Operand.tmp 11, Operand.const (Value.string { data := #[] })], argTypes := #[45, 9, 9] }, type := 31, pos := "ref.go:181", after := #[{ on := 3, ground := Ground.data }, { on := 8, ground := Ground.data }, { on := 8, ground := Ground.chain }], guard := none }) rfl (fun K hK => ?_) AllReadyH.nil
  go_simp
  refine (radd_any n₀ w2 b M F (⟨(fileN p.data.toList (n + 1)).toArray⟩ : ByteArray) ⟨#[]⟩ (by omega) (by decide) (H.out.ref.bel HB2.out) H.out.ok).mono ?_
  rintro e w3 ⟨rfl, hT⟩
  rw [str_list] at hT ⊢
  have HT := Lib.hid (hT.before HB2.out)
  have c3 : w3.cell? ⟨jb, 0, none⟩ = some (.pointer (some ⟨b, 0, none⟩)) := by
    obtain ⟨F3, _, q2, _⟩ := hT
    exact q2.cell c2 H.out.out
  clear hT
  have HJ := Lib.hid (show jturn p.data.toList M = addS (fileN p.data.toList (n + 1)) (⟨#[]⟩ : ByteArray).data.toList M by unfold jturn; rw [← HN.out])
  dsimp only
  refine hK.out _ _ c3 (fun hHeld => ?_)
  clear hK K
  try simp only [Act.put, List.setIfInBounds_toArray, List.set_cons_zero, List.set_cons_succ]
  refine tk (oi := { dst := some 2, op := Op.assign (Operand.tmp 12), type := 31, pos := "ref.go:181", after := #[{ on := 9, ground := Ground.data }, { on := 9, ground := Ground.chain }, { on := 0, ground := Ground.phase }, { on := 1, ground := Ground.phase }, { on := 2, ground := Ground.phase }, { on := 3, ground := Ground.phase }, { on := 4, ground := Ground.phase }, { on := 5, ground := Ground.phase }, { on := 6, ground := Ground.phase }, { on := 7, ground := Ground.phase }, { on := 8, ground := Ground.phase }, { on := 9, ground := Ground.phase }], guard := none }) (v := ?_) 10 rfl ?_ ?_
  rotate_left
  · (intro w hSw; (try dsimp only at hSw); first | (go_simp; done) | (go_simp; with_reducible rfl))
  try simp only [Act.put, List.setIfInBounds_toArray, List.set_cons_zero, List.set_cons_succ]
  refine wpAnyH_done (by kernel_rfl) ?_ _
  go_wp2_with (fail)
  go_ret
  exact ⟨by rw [HJ.out]; rfl, by rw [HJ.out]; exact HT.out⟩
end Go.Proofs.YtlmlcnbgdaiaeaaGreatDoor
/- journal's withRoom, Write. -/
namespace Go.Proofs.YtlmlcnbgdaiaeaaGreatDoor
open Go.RowKit Go.Deep Go.Maps

def roomS (p : List UInt8) (most : Int) (M : RS) : Int × RS := if M.gone = true then (7, M) else jroom p most M
theorem roomS_ok {M : RS} (h : M.ok) (p : List UInt8) (most : Int) : (roomS p most M).2.ok := by
  unfold roomS; split; exact h; exact jroom_ok h p most
theorem js_fileC {n₀ : Nat} {z : World} {b : Nat} {M : RS} {F : List Nat} {jb : Nat} {p : ByteArray} {most : Int} (h : JS n₀ z b M F jb p most) (hp : p.size ≤ 100) (n : Nat) (hn : n ≤ 10000000) :
    Calls Tryz.prog 64 #[.pointer (some ⟨jb, 0, none⟩), .int .i64 n] z fun e w' => e = .returned (.string ⟨(fileN p.data.toList n).toArray⟩) ∧ Bel z w' := file_any z jb b p most n h.j hp hn h.std0
theorem str_empty {l : List UInt8} (h : l ≠ []) : (⟨l.toArray⟩ : ByteArray).toList.isEmpty = false := by
  rw [ByteArray.toList_eq]
  cases l with
  | nil => exact absurd rfl h
  | cons a l => rfl
set_option maxHeartbeats 4000000 in
set_option maxRecDepth 20000 in
theorem withroom_any (n₀ : Nat) (w : World) (b : Nat) (M : RS) (F : List Nat) (jb : Nat) (p : ByteArray) (most : Int) (h : JS n₀ w b M F jb p most) (hp : p.size ≤ 100) (h0 : lastN p.data.toList M.L ≠ 0) (h9 : lastN p.data.toList M.L < 9999999) (hmost : in64 most) :
    Calls Tryz.prog 63 #[.pointer (some ⟨jb, 0, none⟩)] w fun e y => ∃ m : Nat, e = .returned (.tuple #[.int .i64 m, .int .i64 (roomS p.data.toList most M).1]) ∧ ProgTo n₀ w y b (roomS p.data.toList most M).2 F ∧ ((roomS p.data.toList most M).1 = 0 → m = lastN p.data.toList (roomS p.data.toList most M).2.L) := by
  have H := Lib.hid h
  have HMS := Lib.hid hmost
  obtain ⟨n, hn⟩ : ∃ n, n = lastN p.data.toList M.L := ⟨_, rfl⟩
  have HN := Lib.hid hn
  rw [← hn] at h9 h0
  have hmem : n ∈ segsL p.data.toList M.L := by rw [hn]; exact last_mem (fun e => h0 (by rw [hn]; exact last_zero.2 e))
  obtain ⟨-, -, hget⟩ := (mem_segs_get h.ok.srt).1 hmem
  obtain ⟨y, hy⟩ := Option.isSome_iff_exists.1 hget
  have hyb := (each_ok h.ok y (getF_mem hy)).1
  have HBY := Lib.hid (show bytesOf (fileN p.data.toList n) M = y.bytes from bytesOf_get hy)
  have HY := Lib.hid hy
  have hbz := str_len y.bytes
  have hfl := file_len p.data.toList (n := n) (by omega)
  have hfz := str_len (fileN p.data.toList n)
  have hpl : p.data.toList.length = p.size := rfl
  have hne0 : ((n : Int) == 0) = false := by rw [beq_eq_false_iff_ne]; omega
  clear h hn hmem hget hy hmost
  cases hg : M.gone with
  | true =>
    have HR := Lib.hid (show roomS p.data.toList most M = (7, M) by unfold roomS; rw [if_pos hg])
    have HGS := Lib.hid (show getS (fileN p.data.toList n) M = ([], 7) by unfold getS; rw [hg]; rfl)
    go_enter Tryz.func63, Tryz.ntmps63
    go_wp2_with (fail)
    refine (num_any n₀ w jb b p most M F H.out.prog H.out.ok H.out.j hp H.out.std0).mono ?_
    rintro e w1 ⟨rfl, hb1⟩
    rw [← HN.out]
    have HB1 := Lib.hid hb1
    have HX := Lib.hid (H.out.bel hb1)
    clear hb1
    go_wp2_with (fail)
    refine wp_region_held_drew (S := fun z => z.cell? ⟨jb, 0, none⟩ = some (.pointer (some ⟨b, 0, none⟩))) (by kernel_rfl) HX.out.j.files (fun hHeld => ?_)
    refine tk (oi := { dst := some 14, op := Op.move (Operand.tmp 0), type := 51, pos := "journal.go:84", after := #[], guard := none }) (v := ?_) 0 rfl ?_ ?_
    rotate_left
    · (intro w hSw; (try dsimp only at hSw); first | (go_simp; done) | (go_simp; with_reducible rfl))
    try simp only [Act.put, List.setIfInBounds_toArray, List.set_cons_zero, List.set_cons_succ]
    refine tk (oi := { dst := some 15, op := Op.nilCheck (Operand.tmp 14), type := 0, pos := "journal.go:84", after := #[{ on := 0, ground := Ground.data }], guard := none }) (v := ?_) 1 rfl ?_ ?_
    rotate_left
    · (intro w hSw; (try dsimp only at hSw); first | (go_simp; done) | (go_simp; with_reducible rfl))
    try simp only [Act.put, List.setIfInBounds_toArray, List.set_cons_zero, List.set_cons_succ]
    refine tk (oi := { dst := some 16, op := Op.fieldAddr 99 (Operand.tmp 15) 0, type := 0, pos := "journal.go:84", after := #[{ on := 1, ground := Ground.data }], guard := none }) (v := ?_) 2 rfl ?_ ?_
    rotate_left
    · (intro w hSw; (try dsimp only at hSw); first | (go_simp; done) | (go_simp; with_reducible rfl))
    try simp only [Act.put, List.setIfInBounds_toArray, List.set_cons_zero, List.set_cons_succ]
    refine tk (oi := { dst := some 17, op := Op.load 42 (Operand.tmp 16), type := 42, pos := "journal.go:84", after := #[{ on := 2, ground := Ground.data }], guard := none }) (v := ?_) 3 rfl ?_ ?_
    rotate_left
    · (intro w hSw; (try dsimp only at hSw); first | (go_simp; done) | (go_simp; with_reducible rfl))
    try simp only [Act.put, List.setIfInBounds_toArray, List.set_cons_zero, List.set_cons_succ]
    refine tk (oi := { dst := some 18, op := Op.move (Operand.tmp 0), type := 51, pos := "journal.go:84", after := #[], guard := none }) (v := ?_) 4 rfl ?_ ?_
    rotate_left
    · (intro w hSw; (try dsimp only at hSw); first | (go_simp; done) | (go_simp; with_reducible rfl))
    try simp only [Act.put, List.setIfInBounds_toArray, List.set_cons_zero, List.set_cons_succ]
    refine tk (oi := { dst := some 19, op := Op.move (Operand.tmp 4), type := 3, pos := "journal.go:84", after := #[], guard := none }) (v := ?_) 5 rfl ?_ ?_
    rotate_left
    · (intro w hSw; (try dsimp only at hSw); first | (go_simp; done) | (go_simp; with_reducible rfl))
    try simp only [Act.put, List.setIfInBounds_toArray, List.set_cons_zero, List.set_cons_succ]
    refine wpAnyH_ready (rs := [6]) (by kernel_rfl) (by simp) ?_
    refine AllReadyH.cons (o := { dst := some 20, op := Op.call { callee := Callee.value (Operand.func 64), args := #[Operand.tmp 18, Operand.tmp 19], argTypes := #[51, 3] }, type := 9, pos := "journal.go:84", after := #[{ on := 4, ground := Ground.data }, { on := 5, ground := Ground.data }], guard := none }) rfl (fun K hK => ?_) AllReadyH.nil
    go_simp
    refine (js_fileC (HX.out.bel (Bel.refl w1).drew) hp n (by omega)).mono ?_
    rintro e zf ⟨rfl, hbf⟩
    have HBf := Lib.hid ((Bel.refl w1).drew.trans hbf)
    have HXf := Lib.hid (HX.out.bel HBf.out)
    clear hbf
    dsimp only
    refine hK.out _ _ HXf.out.j.files (fun hHeld => ?_)
    clear hK K
    try simp only [Act.put, List.setIfInBounds_toArray, List.set_cons_zero, List.set_cons_succ]
    refine wpAnyH_ready (rs := [7]) (by kernel_rfl) (by simp) ?_
    refine AllReadyH.cons (o := { dst := some 21, op := Op.call { callee := Callee.value (Operand.func 40), args := #[Operand.tmp 17, Operand.tmp 20], argTypes := #[42, 9] }, type := 73, pos := "journal.go:84", after := #[{ on := 3, ground := Ground.data }, { on := 6, ground := Ground.data }, { on := 6, ground := Ground.chain }], guard := none }) rfl (fun K hK => ?_) AllReadyH.nil
    go_simp
    refine (pget_any n₀ zf b M F (⟨(fileN p.data.toList n).toArray⟩ : ByteArray) HXf.out.prog (by unfold maxLen; omega)).mono ?_
    rintro e w3 ⟨rfl, hb3⟩
    rw [str_list, HGS.out]
    have HB3 := Lib.hid (HB1.out.trans (HBf.out.trans hb3))
    have HX3 := Lib.hid (HXf.out.bel hb3)
    have cN := HX3.out.j.files
    clear hb3
    dsimp only
    refine hK.out _ _ cN (fun hHeld => ?_)
    clear hK K
    try simp only [Act.put, List.setIfInBounds_toArray, List.set_cons_zero, List.set_cons_succ]
    refine tk (oi := { dst := some 13, op := Op.move (Operand.tmp 21), type := 73, pos := "journal.go:84", after := #[{ on := 7, ground := Ground.data }], guard := none }) (v := ?_) 8 rfl ?_ ?_
    rotate_left
    · (intro w hSw; (try dsimp only at hSw); first | (go_simp; done) | (go_simp; with_reducible rfl))
    try simp only [Act.put, List.setIfInBounds_toArray, List.set_cons_zero, List.set_cons_succ]
    refine tk (oi := { dst := some 22, op := Op.extract (Operand.tmp 13) 0, type := 9, pos := "journal.go:84", after := #[{ on := 8, ground := Ground.data }], guard := none }) (v := ?_) 9 rfl ?_ ?_
    rotate_left
    · (intro w hSw; (try dsimp only at hSw); first | (go_simp; done) | (go_simp; with_reducible rfl))
    try simp only [Act.put, List.setIfInBounds_toArray, List.set_cons_zero, List.set_cons_succ]
    refine tk (oi := { dst := some 23, op := Op.extract (Operand.tmp 13) 1, type := 31, pos := "journal.go:84", after := #[{ on := 8, ground := Ground.data }, { on := 11, ground := Ground.gcOnly Departure.lateStores }], guard := none }) (v := ?_) 10 rfl ?_ ?_
    rotate_left
    · (intro w hSw; (try dsimp only at hSw); first | (go_simp; done) | (go_simp; with_reducible rfl))
    try simp only [Act.put, List.setIfInBounds_toArray, List.set_cons_zero, List.set_cons_succ]
    refine tk (oi := { dst := some 5, op := Op.assign (Operand.tmp 22), type := 9, pos := "journal.go:84", after := #[{ on := 9, ground := Ground.data }, { on := 7, ground := Ground.chain }, { on := 0, ground := Ground.phase }, { on := 1, ground := Ground.phase }, { on := 2, ground := Ground.phase }, { on := 3, ground := Ground.phase }, { on := 4, ground := Ground.phase }, { on := 5, ground := Ground.phase }, { on := 6, ground := Ground.phase }, { on := 7, ground := Ground.phase }, { on := 8, ground := Ground.phase }, { on := 9, ground := Ground.phase }, { on := 10, ground := Ground.textOnly Departure.lateStores }], guard := none }) (v := ?_) 11 rfl ?_ ?_
    rotate_left
    · (intro w hSw; (try dsimp only at hSw); first | (go_simp; done) | (go_simp; with_reducible rfl))
    try simp only [Act.put, List.setIfInBounds_toArray, List.set_cons_zero, List.set_cons_succ]
    refine tk (oi := { dst := some 6, op := Op.assign (Operand.tmp 23), type := 31, pos := "journal.go:84", after := #[{ on := 10, ground := Ground.data }, { on := 11, ground := Ground.chain }, { on := 0, ground := Ground.phase }, { on := 1, ground := Ground.phase }, { on := 2, ground := Ground.phase }, { on := 3, ground := Ground.phase }, { on := 4, ground := Ground.phase }, { on := 5, ground := Ground.phase }, { on := 6, ground := Ground.phase }, { on := 7, ground := Ground.phase }, { on := 8, ground := Ground.phase }, { on := 9, ground := Ground.phase }, { on := 10, ground := Ground.phase }, { on := 11, ground := Ground.phase }], guard := none }) (v := ?_) 12 rfl ?_ ?_
    rotate_left
    · (intro w hSw; (try dsimp only at hSw); first | (go_simp; done) | (go_simp; with_reducible rfl))
    try simp only [Act.put, List.setIfInBounds_toArray, List.set_cons_zero, List.set_cons_succ]
    refine wpAnyH_done (by kernel_rfl) ?_ _
    go_wp2_with (fail)
    go_ret2
    exact ⟨0, by rw [HR.out]; rfl, by rw [HR.out]; exact ProgAt.to H.out.prog HB3.out, fun hc => by rw [HR.out] at hc; cases hc⟩
  | false =>
    have HRS := Lib.hid (show roomS p.data.toList most M = jroom p.data.toList most M by unfold roomS; rw [hg]; rfl)
    have HGS := Lib.hid (show getS (fileN p.data.toList n) M = (y.bytes, 0) by unfold getS; rw [hg, HY.out]; rfl)
    by_cases hfull : y.bytes ≠ [] ∧ most ≤ (y.bytes.length : Int)
    · obtain ⟨hnb, hml⟩ := hfull
      have HR := Lib.hid (show roomS p.data.toList most M = jturn p.data.toList M by rw [HRS.out]; unfold jroom; rw [← HN.out, HBY.out, if_pos ⟨hnb, hml⟩])
      have hemp := str_empty hnb
      have hemp2 : y.bytes.isEmpty = false := by cases hb : y.bytes with | nil => exact absurd hb hnb | cons _ _ => rfl
      have hlt : ¬ ((y.bytes.length : Int) < most) := by omega
      go_enter Tryz.func63, Tryz.ntmps63
      go_wp2_with (fail)
      refine (num_any n₀ w jb b p most M F H.out.prog H.out.ok H.out.j hp H.out.std0).mono ?_
      rintro e w1 ⟨rfl, hb1⟩
      rw [← HN.out]
      have HB1 := Lib.hid hb1
      have HX := Lib.hid (H.out.bel hb1)
      clear hb1
      go_wp2_with (fail)
      refine wp_region_held_drew (S := fun z => z.cell? ⟨jb, 0, none⟩ = some (.pointer (some ⟨b, 0, none⟩))) (by kernel_rfl) HX.out.j.files (fun hHeld => ?_)
      refine tk (oi := { dst := some 14, op := Op.move (Operand.tmp 0), type := 51, pos := "journal.go:84", after := #[], guard := none }) (v := ?_) 0 rfl ?_ ?_
      rotate_left
      · (intro w hSw; (try dsimp only at hSw); first | (go_simp; done) | (go_simp; with_reducible rfl))
      try simp only [Act.put, List.setIfInBounds_toArray, List.set_cons_zero, List.set_cons_succ]
      refine tk (oi := { dst := some 15, op := Op.nilCheck (Operand.tmp 14), type := 0, pos := "journal.go:84", after := #[{ on := 0, ground := Ground.data }], guard := none }) (v := ?_) 1 rfl ?_ ?_
      rotate_left
      · (intro w hSw; (try dsimp only at hSw); first | (go_simp; done) | (go_simp; with_reducible rfl))
      try simp only [Act.put, List.setIfInBounds_toArray, List.set_cons_zero, List.set_cons_succ]
      refine tk (oi := { dst := some 16, op := Op.fieldAddr 99 (Operand.tmp 15) 0, type := 0, pos := "journal.go:84", after := #[{ on := 1, ground := Ground.data }], guard := none }) (v := ?_) 2 rfl ?_ ?_
      rotate_left
      · (intro w hSw; (try dsimp only at hSw); first | (go_simp; done) | (go_simp; with_reducible rfl))
      try simp only [Act.put, List.setIfInBounds_toArray, List.set_cons_zero, List.set_cons_succ]
      refine tk (oi := { dst := some 17, op := Op.load 42 (Operand.tmp 16), type := 42, pos := "journal.go:84", after := #[{ on := 2, ground := Ground.data }], guard := none }) (v := ?_) 3 rfl ?_ ?_
      rotate_left
      · (intro w hSw; (try dsimp only at hSw); first | (go_simp; done) | (go_simp; with_reducible rfl))
      try simp only [Act.put, List.setIfInBounds_toArray, List.set_cons_zero, List.set_cons_succ]
      refine tk (oi := { dst := some 18, op := Op.move (Operand.tmp 0), type := 51, pos := "journal.go:84", after := #[], guard := none }) (v := ?_) 4 rfl ?_ ?_
      rotate_left
      · (intro w hSw; (try dsimp only at hSw); first | (go_simp; done) | (go_simp; with_reducible rfl))
      try simp only [Act.put, List.setIfInBounds_toArray, List.set_cons_zero, List.set_cons_succ]
      refine tk (oi := { dst := some 19, op := Op.move (Operand.tmp 4), type := 3, pos := "journal.go:84", after := #[], guard := none }) (v := ?_) 5 rfl ?_ ?_
      rotate_left
      · (intro w hSw; (try dsimp only at hSw); first | (go_simp; done) | (go_simp; with_reducible rfl))
      try simp only [Act.put, List.setIfInBounds_toArray, List.set_cons_zero, List.set_cons_succ]
      refine wpAnyH_ready (rs := [6]) (by kernel_rfl) (by simp) ?_
      refine AllReadyH.cons (o := { dst := some 20, op := Op.call { callee := Callee.value (Operand.func 64), args := #[Operand.tmp 18, Operand.tmp 19], argTypes := #[51, 3] }, type := 9, pos := "journal.go:84", after := #[{ on := 4, ground := Ground.data }, { on := 5, ground := Ground.data }], guard := none }) rfl (fun K hK => ?_) AllReadyH.nil
      go_simp
      refine (js_fileC (HX.out.bel (Bel.refl w1).drew) hp n (by omega)).mono ?_
      rintro e zf ⟨rfl, hbf⟩
      have HBf := Lib.hid ((Bel.refl w1).drew.trans hbf)
      have HXf := Lib.hid (HX.out.bel HBf.out)
      clear hbf
      dsimp only
      refine hK.out _ _ HXf.out.j.files (fun hHeld => ?_)
      clear hK K
      try simp only [Act.put, List.setIfInBounds_toArray, List.set_cons_zero, List.set_cons_succ]
      refine wpAnyH_ready (rs := [7]) (by kernel_rfl) (by simp) ?_
      refine AllReadyH.cons (o := { dst := some 21, op := Op.call { callee := Callee.value (Operand.func 40), args := #[Operand.tmp 17, Operand.tmp 20], argTypes := #[42, 9] }, type := 73, pos := "journal.go:84", after := #[{ on := 3, ground := Ground.data }, { on := 6, ground := Ground.data }, { on := 6, ground := Ground.chain }], guard := none }) rfl (fun K hK => ?_) AllReadyH.nil
      go_simp
      refine (pget_any n₀ zf b M F (⟨(fileN p.data.toList n).toArray⟩ : ByteArray) HXf.out.prog (by unfold maxLen; omega)).mono ?_
      rintro e w3 ⟨rfl, hb3⟩
      rw [str_list, HGS.out]
      have HB3 := Lib.hid (HB1.out.trans (HBf.out.trans hb3))
      have HX3 := Lib.hid (HXf.out.bel hb3)
      have cN := HX3.out.j.files
      clear hb3
      dsimp only
      refine hK.out _ _ cN (fun hHeld => ?_)
      clear hK K
      try simp only [Act.put, List.setIfInBounds_toArray, List.set_cons_zero, List.set_cons_succ]
      refine tk (oi := { dst := some 13, op := Op.move (Operand.tmp 21), type := 73, pos := "journal.go:84", after := #[{ on := 7, ground := Ground.data }], guard := none }) (v := ?_) 8 rfl ?_ ?_
      rotate_left
      · (intro w hSw; (try dsimp only at hSw); first | (go_simp; done) | (go_simp; with_reducible rfl))
      try simp only [Act.put, List.setIfInBounds_toArray, List.set_cons_zero, List.set_cons_succ]
      refine tk (oi := { dst := some 22, op := Op.extract (Operand.tmp 13) 0, type := 9, pos := "journal.go:84", after := #[{ on := 8, ground := Ground.data }], guard := none }) (v := ?_) 9 rfl ?_ ?_
      rotate_left
      · (intro w hSw; (try dsimp only at hSw); first | (go_simp; done) | (go_simp; with_reducible rfl))
      try simp only [Act.put, List.setIfInBounds_toArray, List.set_cons_zero, List.set_cons_succ]
      refine tk (oi := { dst := some 23, op := Op.extract (Operand.tmp 13) 1, type := 31, pos := "journal.go:84", after := #[{ on := 8, ground := Ground.data }, { on := 11, ground := Ground.gcOnly Departure.lateStores }], guard := none }) (v := ?_) 10 rfl ?_ ?_
      rotate_left
      · (intro w hSw; (try dsimp only at hSw); first | (go_simp; done) | (go_simp; with_reducible rfl))
      try simp only [Act.put, List.setIfInBounds_toArray, List.set_cons_zero, List.set_cons_succ]
      refine tk (oi := { dst := some 5, op := Op.assign (Operand.tmp 22), type := 9, pos := "journal.go:84", after := #[{ on := 9, ground := Ground.data }, { on := 7, ground := Ground.chain }, { on := 0, ground := Ground.phase }, { on := 1, ground := Ground.phase }, { on := 2, ground := Ground.phase }, { on := 3, ground := Ground.phase }, { on := 4, ground := Ground.phase }, { on := 5, ground := Ground.phase }, { on := 6, ground := Ground.phase }, { on := 7, ground := Ground.phase }, { on := 8, ground := Ground.phase }, { on := 9, ground := Ground.phase }, { on := 10, ground := Ground.textOnly Departure.lateStores }], guard := none }) (v := ?_) 11 rfl ?_ ?_
      rotate_left
      · (intro w hSw; (try dsimp only at hSw); first | (go_simp; done) | (go_simp; with_reducible rfl))
      try simp only [Act.put, List.setIfInBounds_toArray, List.set_cons_zero, List.set_cons_succ]
      refine tk (oi := { dst := some 6, op := Op.assign (Operand.tmp 23), type := 31, pos := "journal.go:84", after := #[{ on := 10, ground := Ground.data }, { on := 11, ground := Ground.chain }, { on := 0, ground := Ground.phase }, { on := 1, ground := Ground.phase }, { on := 2, ground := Ground.phase }, { on := 3, ground := Ground.phase }, { on := 4, ground := Ground.phase }, { on := 5, ground := Ground.phase }, { on := 6, ground := Ground.phase }, { on := 7, ground := Ground.phase }, { on := 8, ground := Ground.phase }, { on := 9, ground := Ground.phase }, { on := 10, ground := Ground.phase }, { on := 11, ground := Ground.phase }], guard := none }) (v := ?_) 12 rfl ?_ ?_
      rotate_left
      · (intro w hSw; (try dsimp only at hSw); first | (go_simp; done) | (go_simp; with_reducible rfl))
      try simp only [Act.put, List.setIfInBounds_toArray, List.set_cons_zero, List.set_cons_succ]
      refine wpAnyH_done (by kernel_rfl) ?_ _
      have c2 := HX3.out.j.most
      clear cN
      go_wp2_with (fail)
      refine (jturn_any n₀ w3 b M F jb p most HX3.out hp (by rw [← HN.out]; exact h9)).mono ?_
      rintro e w4 ⟨rfl, hT⟩
      have HT := Lib.hid (hT.before HB3.out)
      clear hT
      have hwr : IntKind.i64.wrap ((n : Int) + 1) = (n : Int) + 1 := IntWalk.i64_in _ (by omega)
      go_wp2_with (fail)
      go_ret2
      exact ⟨n + 1, by rw [HR.out]; rfl, by rw [HR.out]; exact HT.out, fun hc => by
        rw [HR.out] at hc ⊢
        rw [jturn_last H.out.ok (by rw [← HN.out]; exact h9) hc, ← HN.out]⟩
    · have HR := Lib.hid (show roomS p.data.toList most M = (0, M) by rw [HRS.out]; unfold jroom; rw [← HN.out, HBY.out, if_neg hfull])
      by_cases hnb : y.bytes = []
      · have hemp : (⟨y.bytes.toArray⟩ : ByteArray) = ⟨#[]⟩ := by rw [hnb]
        have HE := Lib.hid hemp
        clear hfull
        go_enter Tryz.func63, Tryz.ntmps63
        go_wp2_with (fail)
        refine (num_any n₀ w jb b p most M F H.out.prog H.out.ok H.out.j hp H.out.std0).mono ?_
        rintro e w1 ⟨rfl, hb1⟩
        rw [← HN.out]
        have HB1 := Lib.hid hb1
        have HX := Lib.hid (H.out.bel hb1)
        clear hb1
        go_wp2_with (fail)
        refine wp_region_held_drew (S := fun z => z.cell? ⟨jb, 0, none⟩ = some (.pointer (some ⟨b, 0, none⟩))) (by kernel_rfl) HX.out.j.files (fun hHeld => ?_)
        refine tk (oi := { dst := some 14, op := Op.move (Operand.tmp 0), type := 51, pos := "journal.go:84", after := #[], guard := none }) (v := ?_) 0 rfl ?_ ?_
        rotate_left
        · (intro w hSw; (try dsimp only at hSw); first | (go_simp; done) | (go_simp; with_reducible rfl))
        try simp only [Act.put, List.setIfInBounds_toArray, List.set_cons_zero, List.set_cons_succ]
        refine tk (oi := { dst := some 15, op := Op.nilCheck (Operand.tmp 14), type := 0, pos := "journal.go:84", after := #[{ on := 0, ground := Ground.data }], guard := none }) (v := ?_) 1 rfl ?_ ?_
        rotate_left
        · (intro w hSw; (try dsimp only at hSw); first | (go_simp; done) | (go_simp; with_reducible rfl))
        try simp only [Act.put, List.setIfInBounds_toArray, List.set_cons_zero, List.set_cons_succ]
        refine tk (oi := { dst := some 16, op := Op.fieldAddr 99 (Operand.tmp 15) 0, type := 0, pos := "journal.go:84", after := #[{ on := 1, ground := Ground.data }], guard := none }) (v := ?_) 2 rfl ?_ ?_
        rotate_left
        · (intro w hSw; (try dsimp only at hSw); first | (go_simp; done) | (go_simp; with_reducible rfl))
        try simp only [Act.put, List.setIfInBounds_toArray, List.set_cons_zero, List.set_cons_succ]
        refine tk (oi := { dst := some 17, op := Op.load 42 (Operand.tmp 16), type := 42, pos := "journal.go:84", after := #[{ on := 2, ground := Ground.data }], guard := none }) (v := ?_) 3 rfl ?_ ?_
        rotate_left
        · (intro w hSw; (try dsimp only at hSw); first | (go_simp; done) | (go_simp; with_reducible rfl))
        try simp only [Act.put, List.setIfInBounds_toArray, List.set_cons_zero, List.set_cons_succ]
        refine tk (oi := { dst := some 18, op := Op.move (Operand.tmp 0), type := 51, pos := "journal.go:84", after := #[], guard := none }) (v := ?_) 4 rfl ?_ ?_
        rotate_left
        · (intro w hSw; (try dsimp only at hSw); first | (go_simp; done) | (go_simp; with_reducible rfl))
        try simp only [Act.put, List.setIfInBounds_toArray, List.set_cons_zero, List.set_cons_succ]
        refine tk (oi := { dst := some 19, op := Op.move (Operand.tmp 4), type := 3, pos := "journal.go:84", after := #[], guard := none }) (v := ?_) 5 rfl ?_ ?_
        rotate_left
        · (intro w hSw; (try dsimp only at hSw); first | (go_simp; done) | (go_simp; with_reducible rfl))
        try simp only [Act.put, List.setIfInBounds_toArray, List.set_cons_zero, List.set_cons_succ]
        refine wpAnyH_ready (rs := [6]) (by kernel_rfl) (by simp) ?_
        refine AllReadyH.cons (o := { dst := some 20, op := Op.call { callee := Callee.value (Operand.func 64), args := #[Operand.tmp 18, Operand.tmp 19], argTypes := #[51, 3] }, type := 9, pos := "journal.go:84", after := #[{ on := 4, ground := Ground.data }, { on := 5, ground := Ground.data }], guard := none }) rfl (fun K hK => ?_) AllReadyH.nil
        go_simp
        refine (js_fileC (HX.out.bel (Bel.refl w1).drew) hp n (by omega)).mono ?_
        rintro e zf ⟨rfl, hbf⟩
        have HBf := Lib.hid ((Bel.refl w1).drew.trans hbf)
        have HXf := Lib.hid (HX.out.bel HBf.out)
        clear hbf
        dsimp only
        refine hK.out _ _ HXf.out.j.files (fun hHeld => ?_)
        clear hK K
        try simp only [Act.put, List.setIfInBounds_toArray, List.set_cons_zero, List.set_cons_succ]
        refine wpAnyH_ready (rs := [7]) (by kernel_rfl) (by simp) ?_
        refine AllReadyH.cons (o := { dst := some 21, op := Op.call { callee := Callee.value (Operand.func 40), args := #[Operand.tmp 17, Operand.tmp 20], argTypes := #[42, 9] }, type := 73, pos := "journal.go:84", after := #[{ on := 3, ground := Ground.data }, { on := 6, ground := Ground.data }, { on := 6, ground := Ground.chain }], guard := none }) rfl (fun K hK => ?_) AllReadyH.nil
        go_simp
        refine (pget_any n₀ zf b M F (⟨(fileN p.data.toList n).toArray⟩ : ByteArray) HXf.out.prog (by unfold maxLen; omega)).mono ?_
        rintro e w3 ⟨rfl, hb3⟩
        rw [str_list, HGS.out, HE.out]
        have HB3 := Lib.hid (HB1.out.trans (HBf.out.trans hb3))
        have HX3 := Lib.hid (HXf.out.bel hb3)
        have cN := HX3.out.j.files
        clear hb3
        dsimp only
        refine hK.out _ _ cN (fun hHeld => ?_)
        clear hK K
        try simp only [Act.put, List.setIfInBounds_toArray, List.set_cons_zero, List.set_cons_succ]
        refine tk (oi := { dst := some 13, op := Op.move (Operand.tmp 21), type := 73, pos := "journal.go:84", after := #[{ on := 7, ground := Ground.data }], guard := none }) (v := ?_) 8 rfl ?_ ?_
        rotate_left
        · (intro w hSw; (try dsimp only at hSw); first | (go_simp; done) | (go_simp; with_reducible rfl))
        try simp only [Act.put, List.setIfInBounds_toArray, List.set_cons_zero, List.set_cons_succ]
        refine tk (oi := { dst := some 22, op := Op.extract (Operand.tmp 13) 0, type := 9, pos := "journal.go:84", after := #[{ on := 8, ground := Ground.data }], guard := none }) (v := ?_) 9 rfl ?_ ?_
        rotate_left
        · (intro w hSw; (try dsimp only at hSw); first | (go_simp; done) | (go_simp; with_reducible rfl))
        try simp only [Act.put, List.setIfInBounds_toArray, List.set_cons_zero, List.set_cons_succ]
        refine tk (oi := { dst := some 23, op := Op.extract (Operand.tmp 13) 1, type := 31, pos := "journal.go:84", after := #[{ on := 8, ground := Ground.data }, { on := 11, ground := Ground.gcOnly Departure.lateStores }], guard := none }) (v := ?_) 10 rfl ?_ ?_
        rotate_left
        · (intro w hSw; (try dsimp only at hSw); first | (go_simp; done) | (go_simp; with_reducible rfl))
        try simp only [Act.put, List.setIfInBounds_toArray, List.set_cons_zero, List.set_cons_succ]
        refine tk (oi := { dst := some 5, op := Op.assign (Operand.tmp 22), type := 9, pos := "journal.go:84", after := #[{ on := 9, ground := Ground.data }, { on := 7, ground := Ground.chain }, { on := 0, ground := Ground.phase }, { on := 1, ground := Ground.phase }, { on := 2, ground := Ground.phase }, { on := 3, ground := Ground.phase }, { on := 4, ground := Ground.phase }, { on := 5, ground := Ground.phase }, { on := 6, ground := Ground.phase }, { on := 7, ground := Ground.phase }, { on := 8, ground := Ground.phase }, { on := 9, ground := Ground.phase }, { on := 10, ground := Ground.textOnly Departure.lateStores }], guard := none }) (v := ?_) 11 rfl ?_ ?_
        rotate_left
        · (intro w hSw; (try dsimp only at hSw); first | (go_simp; done) | (go_simp; with_reducible rfl))
        try simp only [Act.put, List.setIfInBounds_toArray, List.set_cons_zero, List.set_cons_succ]
        refine tk (oi := { dst := some 6, op := Op.assign (Operand.tmp 23), type := 31, pos := "journal.go:84", after := #[{ on := 10, ground := Ground.data }, { on := 11, ground := Ground.chain }, { on := 0, ground := Ground.phase }, { on := 1, ground := Ground.phase }, { on := 2, ground := Ground.phase }, { on := 3, ground := Ground.phase }, { on := 4, ground := Ground.phase }, { on := 5, ground := Ground.phase }, { on := 6, ground := Ground.phase }, { on := 7, ground := Ground.phase }, { on := 8, ground := Ground.phase }, { on := 9, ground := Ground.phase }, { on := 10, ground := Ground.phase }, { on := 11, ground := Ground.phase }], guard := none }) (v := ?_) 12 rfl ?_ ?_
        rotate_left
        · (intro w hSw; (try dsimp only at hSw); first | (go_simp; done) | (go_simp; with_reducible rfl))
        try simp only [Act.put, List.setIfInBounds_toArray, List.set_cons_zero, List.set_cons_succ]
        refine wpAnyH_done (by kernel_rfl) ?_ _
        clear hemp
        go_wp2_with (fail)
        go_ret2
        exact ⟨n, by rw [HR.out]; rfl, by rw [HR.out]; exact ProgAt.to H.out.prog HB3.out, fun hc => by rw [HR.out]; exact HN.out⟩
      · have hlt : ((y.bytes.length : Int) < most) := by
          rcases Int.lt_or_le (y.bytes.length : Int) most with h | h
          · exact h
          · exact absurd ⟨hnb, h⟩ hfull
        have hemp := str_empty hnb
        have hemp2 : y.bytes.isEmpty = false := by cases hb : y.bytes with | nil => exact absurd hb hnb | cons _ _ => rfl
        clear hfull
        go_enter Tryz.func63, Tryz.ntmps63
        go_wp2_with (fail)
        refine (num_any n₀ w jb b p most M F H.out.prog H.out.ok H.out.j hp H.out.std0).mono ?_
        rintro e w1 ⟨rfl, hb1⟩
        rw [← HN.out]
        have HB1 := Lib.hid hb1
        have HX := Lib.hid (H.out.bel hb1)
        clear hb1
        go_wp2_with (fail)
        refine wp_region_held_drew (S := fun z => z.cell? ⟨jb, 0, none⟩ = some (.pointer (some ⟨b, 0, none⟩))) (by kernel_rfl) HX.out.j.files (fun hHeld => ?_)
        refine tk (oi := { dst := some 14, op := Op.move (Operand.tmp 0), type := 51, pos := "journal.go:84", after := #[], guard := none }) (v := ?_) 0 rfl ?_ ?_
        rotate_left
        · (intro w hSw; (try dsimp only at hSw); first | (go_simp; done) | (go_simp; with_reducible rfl))
        try simp only [Act.put, List.setIfInBounds_toArray, List.set_cons_zero, List.set_cons_succ]
        refine tk (oi := { dst := some 15, op := Op.nilCheck (Operand.tmp 14), type := 0, pos := "journal.go:84", after := #[{ on := 0, ground := Ground.data }], guard := none }) (v := ?_) 1 rfl ?_ ?_
        rotate_left
        · (intro w hSw; (try dsimp only at hSw); first | (go_simp; done) | (go_simp; with_reducible rfl))
        try simp only [Act.put, List.setIfInBounds_toArray, List.set_cons_zero, List.set_cons_succ]
        refine tk (oi := { dst := some 16, op := Op.fieldAddr 99 (Operand.tmp 15) 0, type := 0, pos := "journal.go:84", after := #[{ on := 1, ground := Ground.data }], guard := none }) (v := ?_) 2 rfl ?_ ?_
        rotate_left
        · (intro w hSw; (try dsimp only at hSw); first | (go_simp; done) | (go_simp; with_reducible rfl))
        try simp only [Act.put, List.setIfInBounds_toArray, List.set_cons_zero, List.set_cons_succ]
        refine tk (oi := { dst := some 17, op := Op.load 42 (Operand.tmp 16), type := 42, pos := "journal.go:84", after := #[{ on := 2, ground := Ground.data }], guard := none }) (v := ?_) 3 rfl ?_ ?_
        rotate_left
        · (intro w hSw; (try dsimp only at hSw); first | (go_simp; done) | (go_simp; with_reducible rfl))
        try simp only [Act.put, List.setIfInBounds_toArray, List.set_cons_zero, List.set_cons_succ]
        refine tk (oi := { dst := some 18, op := Op.move (Operand.tmp 0), type := 51, pos := "journal.go:84", after := #[], guard := none }) (v := ?_) 4 rfl ?_ ?_
        rotate_left
        · (intro w hSw; (try dsimp only at hSw); first | (go_simp; done) | (go_simp; with_reducible rfl))
        try simp only [Act.put, List.setIfInBounds_toArray, List.set_cons_zero, List.set_cons_succ]
        refine tk (oi := { dst := some 19, op := Op.move (Operand.tmp 4), type := 3, pos := "journal.go:84", after := #[], guard := none }) (v := ?_) 5 rfl ?_ ?_
        rotate_left
        · (intro w hSw; (try dsimp only at hSw); first | (go_simp; done) | (go_simp; with_reducible rfl))
        try simp only [Act.put, List.setIfInBounds_toArray, List.set_cons_zero, List.set_cons_succ]
        refine wpAnyH_ready (rs := [6]) (by kernel_rfl) (by simp) ?_
        refine AllReadyH.cons (o := { dst := some 20, op := Op.call { callee := Callee.value (Operand.func 64), args := #[Operand.tmp 18, Operand.tmp 19], argTypes := #[51, 3] }, type := 9, pos := "journal.go:84", after := #[{ on := 4, ground := Ground.data }, { on := 5, ground := Ground.data }], guard := none }) rfl (fun K hK => ?_) AllReadyH.nil
        go_simp
        refine (js_fileC (HX.out.bel (Bel.refl w1).drew) hp n (by omega)).mono ?_
        rintro e zf ⟨rfl, hbf⟩
        have HBf := Lib.hid ((Bel.refl w1).drew.trans hbf)
        have HXf := Lib.hid (HX.out.bel HBf.out)
        clear hbf
        dsimp only
        refine hK.out _ _ HXf.out.j.files (fun hHeld => ?_)
        clear hK K
        try simp only [Act.put, List.setIfInBounds_toArray, List.set_cons_zero, List.set_cons_succ]
        refine wpAnyH_ready (rs := [7]) (by kernel_rfl) (by simp) ?_
        refine AllReadyH.cons (o := { dst := some 21, op := Op.call { callee := Callee.value (Operand.func 40), args := #[Operand.tmp 17, Operand.tmp 20], argTypes := #[42, 9] }, type := 73, pos := "journal.go:84", after := #[{ on := 3, ground := Ground.data }, { on := 6, ground := Ground.data }, { on := 6, ground := Ground.chain }], guard := none }) rfl (fun K hK => ?_) AllReadyH.nil
        go_simp
        refine (pget_any n₀ zf b M F (⟨(fileN p.data.toList n).toArray⟩ : ByteArray) HXf.out.prog (by unfold maxLen; omega)).mono ?_
        rintro e w3 ⟨rfl, hb3⟩
        rw [str_list, HGS.out]
        have HB3 := Lib.hid (HB1.out.trans (HBf.out.trans hb3))
        have HX3 := Lib.hid (HXf.out.bel hb3)
        have cN := HX3.out.j.files
        clear hb3
        dsimp only
        refine hK.out _ _ cN (fun hHeld => ?_)
        clear hK K
        try simp only [Act.put, List.setIfInBounds_toArray, List.set_cons_zero, List.set_cons_succ]
        refine tk (oi := { dst := some 13, op := Op.move (Operand.tmp 21), type := 73, pos := "journal.go:84", after := #[{ on := 7, ground := Ground.data }], guard := none }) (v := ?_) 8 rfl ?_ ?_
        rotate_left
        · (intro w hSw; (try dsimp only at hSw); first | (go_simp; done) | (go_simp; with_reducible rfl))
        try simp only [Act.put, List.setIfInBounds_toArray, List.set_cons_zero, List.set_cons_succ]
        refine tk (oi := { dst := some 22, op := Op.extract (Operand.tmp 13) 0, type := 9, pos := "journal.go:84", after := #[{ on := 8, ground := Ground.data }], guard := none }) (v := ?_) 9 rfl ?_ ?_
        rotate_left
        · (intro w hSw; (try dsimp only at hSw); first | (go_simp; done) | (go_simp; with_reducible rfl))
        try simp only [Act.put, List.setIfInBounds_toArray, List.set_cons_zero, List.set_cons_succ]
        refine tk (oi := { dst := some 23, op := Op.extract (Operand.tmp 13) 1, type := 31, pos := "journal.go:84", after := #[{ on := 8, ground := Ground.data }, { on := 11, ground := Ground.gcOnly Departure.lateStores }], guard := none }) (v := ?_) 10 rfl ?_ ?_
        rotate_left
        · (intro w hSw; (try dsimp only at hSw); first | (go_simp; done) | (go_simp; with_reducible rfl))
        try simp only [Act.put, List.setIfInBounds_toArray, List.set_cons_zero, List.set_cons_succ]
        refine tk (oi := { dst := some 5, op := Op.assign (Operand.tmp 22), type := 9, pos := "journal.go:84", after := #[{ on := 9, ground := Ground.data }, { on := 7, ground := Ground.chain }, { on := 0, ground := Ground.phase }, { on := 1, ground := Ground.phase }, { on := 2, ground := Ground.phase }, { on := 3, ground := Ground.phase }, { on := 4, ground := Ground.phase }, { on := 5, ground := Ground.phase }, { on := 6, ground := Ground.phase }, { on := 7, ground := Ground.phase }, { on := 8, ground := Ground.phase }, { on := 9, ground := Ground.phase }, { on := 10, ground := Ground.textOnly Departure.lateStores }], guard := none }) (v := ?_) 11 rfl ?_ ?_
        rotate_left
        · (intro w hSw; (try dsimp only at hSw); first | (go_simp; done) | (go_simp; with_reducible rfl))
        try simp only [Act.put, List.setIfInBounds_toArray, List.set_cons_zero, List.set_cons_succ]
        refine tk (oi := { dst := some 6, op := Op.assign (Operand.tmp 23), type := 31, pos := "journal.go:84", after := #[{ on := 10, ground := Ground.data }, { on := 11, ground := Ground.chain }, { on := 0, ground := Ground.phase }, { on := 1, ground := Ground.phase }, { on := 2, ground := Ground.phase }, { on := 3, ground := Ground.phase }, { on := 4, ground := Ground.phase }, { on := 5, ground := Ground.phase }, { on := 6, ground := Ground.phase }, { on := 7, ground := Ground.phase }, { on := 8, ground := Ground.phase }, { on := 9, ground := Ground.phase }, { on := 10, ground := Ground.phase }, { on := 11, ground := Ground.phase }], guard := none }) (v := ?_) 12 rfl ?_ ?_
        rotate_left
        · (intro w hSw; (try dsimp only at hSw); first | (go_simp; done) | (go_simp; with_reducible rfl))
        try simp only [Act.put, List.setIfInBounds_toArray, List.set_cons_zero, List.set_cons_succ]
        refine wpAnyH_done (by kernel_rfl) ?_ _
        have c2 := HX3.out.j.most
        clear cN
        go_wp2_with (fail)
        go_ret2
        exact ⟨n, by rw [HR.out]; rfl, by rw [HR.out]; exact ProgAt.to H.out.prog HB3.out, fun hc => by rw [HR.out]; exact HN.out⟩

set_option maxHeartbeats 4000000 in
set_option maxRecDepth 20000 in
theorem write_any (n₀ : Nat) (w : World) (b : Nat) (M : RS) (F : List Nat) (jb : Nat) (p : ByteArray) (most : Int) (lp : Option Addr) (lc : Nat) (L : List (List UInt8)) (h : JS n₀ w b M F jb p most) (hp : p.size ≤ 100) (h0 : lastN p.data.toList M.L ≠ 0) (h9 : lastN p.data.toList M.L < 9999999) (hmost : in64 most)
    (hl : StrsAt w lp L) (hL : L.length ≤ maxLen) (ht : ∀ t ∈ L, t.length ≤ 1000000) :
    Calls Tryz.prog 23 #[.pointer (some ⟨jb, 0, none⟩), .slice lp L.length lc] w fun e y => e = .returned (.int .i64 (jwrite p.data.toList most L M).1) ∧ ProgTo n₀ w y b (jwrite p.data.toList most L M).2 F := by
  have H := Lib.hid h
  have HMS := Lib.hid hmost
  have HC := Lib.hid (batch_any w lp lc L hl hL ht)
  have HLL := Lib.hid hL
  have hbl := batch_len L
  have hpl : p.data.toList.length = p.size := rfl
  have HRO := Lib.hid (roomS_ok h.ok p.data.toList most)
  obtain ⟨s, e0, hB⟩ : ∃ s e0, batchS L = (s, e0) := ⟨_, _, rfl⟩
  have HBV := Lib.hid (show batchV L = .tuple #[.string ⟨s.toArray⟩, .int .i64 e0] by unfold batchV; rw [hB])
  rw [hB] at hbl
  simp only at hbl
  have hsz := str_len s
  obtain ⟨r, M1, hR⟩ : ∃ r M1, roomS p.data.toList most M = (r, M1) := ⟨_, _, rfl⟩
  have HR := Lib.hid hR
  rw [hR] at HRO
  have HRO1 := Lib.hid (show M1.ok from HRO.out)
  have HW := Lib.hid (show jwrite p.data.toList most L M = if e0 ≠ 0 then (e0, M) else if r ≠ 0 then (r, M1) else jput (fileN p.data.toList (lastN p.data.toList M1.L)) (frameL s) M1 by
    unfold jwrite
    rw [hB]
    unfold roomS at hR
    by_cases hg : M.gone = true
    · rw [if_pos hg] at hR ⊢
      simp only [Prod.mk.injEq] at hR
      obtain ⟨rfl, rfl⟩ := hR
      simp
    · rw [if_neg hg] at hR ⊢
      rw [hR])
  have H0 := Lib.hid h0
  have H9 := Lib.hid h9
  clear h hB hR hmost hl hL ht HRO h0 h9
  go_enter Tryz.func23, Tryz.ntmps23
  go_wp2_with (fail)
  refine HC.out.mono ?_
  rintro e w1 ⟨rfl, hb1⟩
  rw [HBV.out]
  have HB1 := Lib.hid hb1
  clear hb1
  by_cases he0 : e0 = 0
  · subst he0
    rw [if_neg (by simp)] at HW
    go_wp2_with (fail)
    refine (frame_ok ⟨s.toArray⟩ _ (by omega)).mono ?_
    rintro e w2 ⟨rfl, hb2⟩
    rw [frameV, str_list]
    have HB2 := Lib.hid (HB1.out.trans hb2)
    have HX2 := Lib.hid (H.out.bel HB2.out)
    clear hb2
    go_wp2_with (fail)
    refine (withroom_any n₀ w2 b M F jb p most HX2.out hp H0.out H9.out HMS.out).mono ?_
    rintro e w3 ⟨m, rfl, hT, hm⟩
    rw [HR.out] at hT hm ⊢
    by_cases hr : r = 0
    · subst hr
      rw [if_neg (by simp)] at HW
      have hmm : m = lastN p.data.toList M1.L := hm rfl
      have hm9 : m ≤ 9999999 := by rw [hmm]; exact last_le _ _
      have HMM := Lib.hid hmm
      obtain ⟨F3, hX3, hK3, hF3⟩ := HX2.out.step hT HRO1.out
      have HX := Lib.hid hX3
      have HK3 := Lib.hid ((Keep.of_bel HB2.out F).trans hK3 (fun x hx => Or.inl hx))
      have HF3 := Lib.hid (show ∀ k ∈ F3, k ∈ F ∨ w.heap.size ≤ k from fun k hk => (hF3 k hk).imp id (fun h => Nat.le_trans HB2.out.size h))
      clear hT hm hmm hX3 hK3 hF3
      have hfl := file_len p.data.toList (n := m) (by omega)
      have hfz := str_len (fileN p.data.toList m)
      have hfrz := str_len (frameL s)
      have hfrl := frame_len s
      have hszN := szN_le s.length
      obtain ⟨ra, M2, hA⟩ : ∃ ra M2, addS (fileN p.data.toList m) (frameL s) M1 = (ra, M2) := ⟨_, _, rfl⟩
      have HA := Lib.hid hA
      have HM2 := Lib.hid (show M2.ok by have := add_ok HRO1.out (fileN p.data.toList m) (frameL s); rwa [hA] at this)
      have HJP := Lib.hid (show jput (fileN p.data.toList (lastN p.data.toList M1.L)) (frameL s) M1 = if ra ≠ 0 then (ra, M2) else flushS (fileN p.data.toList m) M2 by
        unfold jput; rw [← HMM.out, HA.out])
      rw [HJP.out] at HW
      clear hA
      go_wp2_with (fail)
      refine wp_region_held_drew (S := fun z => z.cell? ⟨jb, 0, none⟩ = some (.pointer (some ⟨b, 0, none⟩))) (by kernel_rfl) HX.out.j.files (fun hHeld => ?_)
      refine tk (oi := { dst := some 34, op := Op.move (Operand.tmp 0), type := 51, pos := "journal.go:72", after := #[], guard := none }) (v := ?_) 0 rfl ?_ ?_
      rotate_left
      · (intro w hSw; (try dsimp only at hSw); first | (go_simp; done) | (go_simp; with_reducible rfl))
      try simp only [Act.put, List.setIfInBounds_toArray, List.set_cons_zero, List.set_cons_succ]
      refine tk (oi := { dst := some 35, op := Op.nilCheck (Operand.tmp 34), type := 0, pos := "journal.go:72", after := #[{ on := 0, ground := Ground.data }], guard := none }) (v := ?_) 1 rfl ?_ ?_
      rotate_left
      · (intro w hSw; (try dsimp only at hSw); first | (go_simp; done) | (go_simp; with_reducible rfl))
      try simp only [Act.put, List.setIfInBounds_toArray, List.set_cons_zero, List.set_cons_succ]
      refine tk (oi := { dst := some 36, op := Op.fieldAddr 99 (Operand.tmp 35) 0, type := 0, pos := "journal.go:72", after := #[{ on := 1, ground := Ground.data }], guard := none }) (v := ?_) 2 rfl ?_ ?_
      rotate_left
      · (intro w hSw; (try dsimp only at hSw); first | (go_simp; done) | (go_simp; with_reducible rfl))
      try simp only [Act.put, List.setIfInBounds_toArray, List.set_cons_zero, List.set_cons_succ]
      refine tk (oi := { dst := some 37, op := Op.load 42 (Operand.tmp 36), type := 42, pos := "journal.go:72", after := #[{ on := 2, ground := Ground.data }], guard := none }) (v := ?_) 3 rfl ?_ ?_
      rotate_left
      · (intro w hSw; (try dsimp only at hSw); first | (go_simp; done) | (go_simp; with_reducible rfl))
      try simp only [Act.put, List.setIfInBounds_toArray, List.set_cons_zero, List.set_cons_succ]
      refine tk (oi := { dst := some 38, op := Op.move (Operand.tmp 0), type := 51, pos := "journal.go:72", after := #[], guard := none }) (v := ?_) 4 rfl ?_ ?_
      rotate_left
      · (intro w hSw; (try dsimp only at hSw); first | (go_simp; done) | (go_simp; with_reducible rfl))
      try simp only [Act.put, List.setIfInBounds_toArray, List.set_cons_zero, List.set_cons_succ]
      refine tk (oi := { dst := some 39, op := Op.move (Operand.tmp 8), type := 3, pos := "journal.go:72", after := #[], guard := none }) (v := ?_) 5 rfl ?_ ?_
      rotate_left
      · (intro w hSw; (try dsimp only at hSw); first | (go_simp; done) | (go_simp; with_reducible rfl))
      try simp only [Act.put, List.setIfInBounds_toArray, List.set_cons_zero, List.set_cons_succ]
      refine tk (oi := { dst := some 41, op := Op.move (Operand.tmp 7), type := 9, pos := "journal.go:72", after := #[], guard := none }) (v := ?_) 7 rfl ?_ ?_
      rotate_left
      · (intro w hSw; (try dsimp only at hSw); first | (go_simp; done) | (go_simp; with_reducible rfl))
      try simp only [Act.put, List.setIfInBounds_toArray, List.set_cons_zero, List.set_cons_succ]
      refine wpAnyH_ready (rs := [6]) (by kernel_rfl) (by simp) ?_
      refine AllReadyH.cons (o := { dst := some 40, op := Op.call { callee := Callee.value (Operand.func 64), args := #[Operand.tmp 38, Operand.tmp 39], argTypes := #[51, 3] }, type := 9, pos := "journal.go:72", after := #[{ on := 4, ground := Ground.data }, { on := 5, ground := Ground.data }], guard := none }) rfl (fun K hK => ?_) AllReadyH.nil
      go_simp
      refine (js_fileC (HX.out.bel (Bel.refl w3).drew) hp m (by omega)).mono ?_
      rintro e zf ⟨rfl, hbf⟩
      have HBf := Lib.hid ((Bel.refl w3).drew.trans hbf)
      have HXf := Lib.hid (HX.out.bel HBf.out)
      clear hbf
      dsimp only
      refine hK.out _ _ HXf.out.j.files (fun hHeld => ?_)
      clear hK K
      try simp only [Act.put, List.setIfInBounds_toArray, List.set_cons_zero, List.set_cons_succ]
      refine wpAnyH_ready (rs := [8]) (by kernel_rfl) (by simp) ?_
      refine AllReadyH.cons (o := { dst := some 42, op := Op.call { callee := Callee.value (Operand.func 17), args := #[Operand.tmp 37, Operand.tmp 40, Operand.tmp 41], argTypes := #[42, 9, 9] }, type := 31, pos := "journal.go:72", after := #[{ on := 3, ground := Ground.data }, { on := 6, ground := Ground.data }, { on := 7, ground := Ground.data }, { on := 6, ground := Ground.chain }], guard := none }) rfl (fun K hK => ?_) AllReadyH.nil
      go_simp
      refine (padd_any n₀ zf b M1 F3 (⟨(fileN p.data.toList m).toArray⟩ : ByteArray) (⟨(frameL s).toArray⟩ : ByteArray) HXf.out.prog (by omega) (by omega) HRO1.out.srt (good_len HRO1.out) (good_bytes HRO1.out) HRO1.out.room).mono ?_
      rintro e w4 ⟨rfl, hT⟩
      rw [str_list, str_list, HA.out] at hT ⊢
      obtain ⟨F4, hX4, hK4, hF4⟩ := HXf.out.step hT HM2.out
      have HX4 := Lib.hid hX4
      have HK4 := Lib.hid ((HK3.out.then HBf.out).trans hK4 (fun x hx => HF3.out x hx))
      have HF4 := Lib.hid (show ∀ k ∈ F4, k ∈ F ∨ w.heap.size ≤ k from fun k hk => by
        rcases hF4 k hk with h | h
        · exact HF3.out k h
        · exact Or.inr (Nat.le_trans (HK3.out.then HBf.out).size h))
      have cN := HX4.out.j.files
      clear hT hX4 hK4 hF4
      dsimp only
      refine hK.out _ _ cN (fun hHeld => ?_)
      clear hK K
      try simp only [Act.put, List.setIfInBounds_toArray, List.set_cons_zero, List.set_cons_succ]
      refine tk (oi := { dst := some 9, op := Op.assign (Operand.tmp 42), type := 31, pos := "journal.go:72", after := #[{ on := 8, ground := Ground.data }, { on := 8, ground := Ground.chain }, { on := 0, ground := Ground.phase }, { on := 1, ground := Ground.phase }, { on := 2, ground := Ground.phase }, { on := 3, ground := Ground.phase }, { on := 4, ground := Ground.phase }, { on := 5, ground := Ground.phase }, { on := 6, ground := Ground.phase }, { on := 7, ground := Ground.phase }, { on := 8, ground := Ground.phase }], guard := none }) (v := ?_) 9 rfl ?_ ?_
      rotate_left
      · (intro w hSw; (try dsimp only at hSw); first | (go_simp; done) | (go_simp; with_reducible rfl))
      try simp only [Act.put, List.setIfInBounds_toArray, List.set_cons_zero, List.set_cons_succ]
      refine wpAnyH_done (by kernel_rfl) ?_ _
      by_cases hra : ra = 0
      · subst hra
        rw [if_neg (by simp)] at HW
        clear cN HX HXf HBf
        have HX := HX4
        go_wp2_with (fail)
        refine wp_region_held_drew (S := fun z => z.cell? ⟨jb, 0, none⟩ = some (.pointer (some ⟨b, 0, none⟩))) (by kernel_rfl) HX.out.j.files (fun hHeld => ?_)
        refine tk (oi := { dst := some 46, op := Op.move (Operand.tmp 0), type := 51, pos := "journal.go:75", after := #[], guard := none }) (v := ?_) 0 rfl ?_ ?_
        rotate_left
        · (intro w hSw; (try dsimp only at hSw); first | (go_simp; done) | (go_simp; with_reducible rfl))
        try simp only [Act.put, List.setIfInBounds_toArray, List.set_cons_zero, List.set_cons_succ]
        refine tk (oi := { dst := some 47, op := Op.nilCheck (Operand.tmp 46), type := 0, pos := "journal.go:75", after := #[{ on := 0, ground := Ground.data }], guard := none }) (v := ?_) 1 rfl ?_ ?_
        rotate_left
        · (intro w hSw; (try dsimp only at hSw); first | (go_simp; done) | (go_simp; with_reducible rfl))
        try simp only [Act.put, List.setIfInBounds_toArray, List.set_cons_zero, List.set_cons_succ]
        refine tk (oi := { dst := some 48, op := Op.fieldAddr 99 (Operand.tmp 47) 0, type := 0, pos := "journal.go:75", after := #[{ on := 1, ground := Ground.data }], guard := none }) (v := ?_) 2 rfl ?_ ?_
        rotate_left
        · (intro w hSw; (try dsimp only at hSw); first | (go_simp; done) | (go_simp; with_reducible rfl))
        try simp only [Act.put, List.setIfInBounds_toArray, List.set_cons_zero, List.set_cons_succ]
        refine tk (oi := { dst := some 49, op := Op.load 42 (Operand.tmp 48), type := 42, pos := "journal.go:75", after := #[{ on := 2, ground := Ground.data }], guard := none }) (v := ?_) 3 rfl ?_ ?_
        rotate_left
        · (intro w hSw; (try dsimp only at hSw); first | (go_simp; done) | (go_simp; with_reducible rfl))
        try simp only [Act.put, List.setIfInBounds_toArray, List.set_cons_zero, List.set_cons_succ]
        refine tk (oi := { dst := some 50, op := Op.move (Operand.tmp 0), type := 51, pos := "journal.go:75", after := #[], guard := none }) (v := ?_) 4 rfl ?_ ?_
        rotate_left
        · (intro w hSw; (try dsimp only at hSw); first | (go_simp; done) | (go_simp; with_reducible rfl))
        try simp only [Act.put, List.setIfInBounds_toArray, List.set_cons_zero, List.set_cons_succ]
        refine tk (oi := { dst := some 51, op := Op.move (Operand.tmp 8), type := 3, pos := "journal.go:75", after := #[], guard := none }) (v := ?_) 5 rfl ?_ ?_
        rotate_left
        · (intro w hSw; (try dsimp only at hSw); first | (go_simp; done) | (go_simp; with_reducible rfl))
        try simp only [Act.put, List.setIfInBounds_toArray, List.set_cons_zero, List.set_cons_succ]
        refine wpAnyH_ready (rs := [6]) (by kernel_rfl) (by simp) ?_
        refine AllReadyH.cons (o := { dst := some 52, op := Op.call { callee := Callee.value (Operand.func 64), args := #[Operand.tmp 50, Operand.tmp 51], argTypes := #[51, 3] }, type := 9, pos := "journal.go:75", after := #[{ on := 4, ground := Ground.data }, { on := 5, ground := Ground.data }], guard := none }) rfl (fun K hK => ?_) AllReadyH.nil
        go_simp
        refine (js_fileC (HX.out.bel (Bel.refl w4).drew) hp m (by omega)).mono ?_
        rintro e zf ⟨rfl, hbf⟩
        have HBf := Lib.hid ((Bel.refl w4).drew.trans hbf)
        have HXf := Lib.hid (HX.out.bel HBf.out)
        clear hbf
        dsimp only
        refine hK.out _ _ HXf.out.j.files (fun hHeld => ?_)
        clear hK K
        try simp only [Act.put, List.setIfInBounds_toArray, List.set_cons_zero, List.set_cons_succ]
        refine wpAnyH_ready (rs := [7]) (by kernel_rfl) (by simp) ?_
        refine AllReadyH.cons (o := { dst := some 53, op := Op.call { callee := Callee.value (Operand.func 65), args := #[Operand.tmp 49, Operand.tmp 52], argTypes := #[42, 9] }, type := 31, pos := "journal.go:75", after := #[{ on := 3, ground := Ground.data }, { on := 6, ground := Ground.data }, { on := 6, ground := Ground.chain }], guard := none }) rfl (fun K hK => ?_) AllReadyH.nil
        go_simp
        refine (pflush_any n₀ zf b M2 F4 (⟨(fileN p.data.toList m).toArray⟩ : ByteArray) HXf.out.prog (by unfold maxLen; omega) HM2.out.srt (good_len HM2.out)).mono ?_
        rintro e w5 ⟨rfl, hT⟩
        rw [str_list] at hT ⊢
        have HT5 := Lib.hid (to_then (HK4.out.then HBf.out) HF4.out hT)
        have cN : w5.cell? ⟨jb, 0, none⟩ = some (.pointer (some ⟨b, 0, none⟩)) := by
          obtain ⟨F5, _, q2, _⟩ := hT
          exact q2.cell HXf.out.j.files HXf.out.out
        clear hT
        dsimp only
        refine hK.out _ _ cN (fun hHeld => ?_)
        clear hK K
        try simp only [Act.put, List.setIfInBounds_toArray, List.set_cons_zero, List.set_cons_succ]
        refine tk (oi := { dst := some 4, op := Op.assign (Operand.tmp 53), type := 31, pos := "journal.go:75", after := #[{ on := 7, ground := Ground.data }, { on := 7, ground := Ground.chain }, { on := 0, ground := Ground.phase }, { on := 1, ground := Ground.phase }, { on := 2, ground := Ground.phase }, { on := 3, ground := Ground.phase }, { on := 4, ground := Ground.phase }, { on := 5, ground := Ground.phase }, { on := 6, ground := Ground.phase }, { on := 7, ground := Ground.phase }], guard := none }) (v := ?_) 8 rfl ?_ ?_
        rotate_left
        · (intro w hSw; (try dsimp only at hSw); first | (go_simp; done) | (go_simp; with_reducible rfl))
        try simp only [Act.put, List.setIfInBounds_toArray, List.set_cons_zero, List.set_cons_succ]
        refine wpAnyH_done (by kernel_rfl) ?_ _
        go_wp2_with (fail)
        go_ret
        exact ⟨by rw [HW.out]; rfl, by rw [HW.out]; exact HT5.out⟩
      · rw [if_pos hra] at HW
        have hx3 : (ra != 0) = true := by rw [bne_iff_ne]; exact hra
        have hx2 : (ra == 0) = false := by rw [beq_eq_false_iff_ne]; exact hra
        clear cN
        go_wp2_with (fail)
        go_ret
        exact ⟨by rw [HW.out]; rfl, by rw [HW.out]; exact ⟨F4, HX4.out.prog, HK4.out, HF4.out⟩⟩
    · rw [if_pos hr] at HW
      have HT := Lib.hid (hT.before HB2.out)
      have hx3 : (r != 0) = true := by rw [bne_iff_ne]; exact hr
      have hx2 : (r == 0) = false := by rw [beq_eq_false_iff_ne]; exact hr
      clear hT hm
      go_wp2_with (fail)
      go_ret
      exact ⟨by rw [HW.out]; rfl, by rw [HW.out]; exact HT.out⟩
  · rw [if_pos he0] at HW
    have hx3 : (e0 != 0) = true := by rw [bne_iff_ne]; exact he0
    have hx2 : (e0 == 0) = false := by rw [beq_eq_false_iff_ne]; exact he0
    go_wp2_with (fail)
    go_ret
    exact ⟨by rw [HW.out]; rfl, by rw [HW.out]; exact ProgAt.to H.out.prog HB1.out⟩
end Go.Proofs.YtlmlcnbgdaiaeaaGreatDoor
/- journal's Trim. -/
namespace Go.Proofs.YtlmlcnbgdaiaeaaGreatDoor
open Go.RowKit Go.Deep Go.Maps

theorem trim_stop (p : List UInt8) (before : Int) {n : Nat} {r : List Nat} {M : RS} (h : ¬ (n : Int) < before) : trimL p before (n :: r) M = (0, M) := by
  cases r with
  | nil => rfl
  | cons m r => simp only [trimL]; rw [if_neg h]
theorem trim_one (p : List UInt8) (before : Int) {n : Nat} {M : RS} : trimL p before [n] M = (0, M) := rfl
theorem trim_step (p : List UInt8) (before : Int) {n : Nat} {r : List Nat} {M : RS} (hr : r ≠ []) (h : (n : Int) < before) : trimL p before (n :: r) M = if (dropS (fileN p n) M).1 = 0 then trimL p before r (dropS (fileN p n) M).2 else dropS (fileN p n) M := by
  cases r with
  | nil => exact absurd rfl hr
  | cons m r => simp only [trimL]; rw [if_pos h]
def TrRel (n₀ : Nat) (w1 : World) (b : Nat) (F : List Nat) (jb : Nat) (p : ByteArray) (most before : Int) (l : List Nat) (sv : Value) (M : RS) (iv : Value) (x : World) : Prop :=
  ∃ (i : Nat) (Mi : RS) (Fi : List Nat), iv = .int .i64 i ∧ i ≤ l.length ∧ JS n₀ x b Mi Fi jb p most ∧ Keep F w1 x ∧ (∀ k ∈ Fi, k ∈ F ∨ w1.heap.size ≤ k) ∧ OwnG intEl 0 x sv (l.map fun n : Nat => (n : Int)) ∧ trimL p.data.toList before l M = trimL p.data.toList before (l.drop i) Mi
set_option maxHeartbeats 4000000 in
set_option maxRecDepth 20000 in
theorem trim_any (n₀ : Nat) (w : World) (b : Nat) (M : RS) (F : List Nat) (jb : Nat) (p : ByteArray) (most before : Int) (h : JS n₀ w b M F jb p most) (hp : p.size ≤ 100) (hbefore : in64 before) :
    Calls Tryz.prog 27 #[.pointer (some ⟨jb, 0, none⟩), .int .i64 before] w fun e y => e = .returned (.int .i64 (jtrim p.data.toList before M).1) ∧ ProgTo n₀ w y b (jtrim p.data.toList before M).2 F := by
  have H := Lib.hid h
  have HBF := Lib.hid hbefore
  have HFL := Lib.hid (prog_lt h.prog)
  have HC := Lib.hid (segs_any n₀ w jb b p most M F h.prog h.ok h.j hp h.std0)
  have hsl := segs_len p.data.toList M.L
  have h60 := h.ok.len
  have hpl : p.data.toList.length = p.size := rfl
  unfold jtrim
  obtain ⟨l, hl⟩ : ∃ l, l = segsL p.data.toList M.L := ⟨_, rfl⟩
  have HL9 := Lib.hid (show ∀ n ∈ l, n ≤ 9999999 from fun n hn => by rw [hl] at hn; exact (mem_segs_file.1 hn).2.1)
  rw [← hl] at HC hsl ⊢
  clear h hl hbefore
  go_enter Tryz.func27, Tryz.ntmps27
  go_wp2_with (fail)
  refine HC.out.mono ?_
  rintro e w1 ⟨v, rfl, hown, hb1⟩
  have HV := Lib.hid hown
  have HB1 := Lib.hid hb1
  obtain ⟨sp, sc, hv⟩ := ownG_len hown
  rw [List.length_map] at hv
  subst hv
  have HVB := Lib.hid hown.lt
  clear hown hb1
  go_wp2_with (fail)
  go_loopw [13] (fun iv x => TrRel n₀ w1 b F jb p most before l (.slice sp l.length sc) M iv x) (fun iv _ => l.length - (intOf iv).toNat)
  case atStart => exact ⟨0, M, F, rfl, Nat.zero_le _, H.out.bel HB1.out, Keep.refl _ _, fun k hk => Or.inl hk, HV.out.low (Nat.zero_le _), by rw [List.drop_zero]⟩
  case round =>
    obtain ⟨i, Mi, Fi, rfl, hi, hx, hk, hfi, ho, htr⟩ := hrel
    have HX := Lib.hid hx
    have HKi := Lib.hid hk
    have HFi := Lib.hid hfi
    have HO := Lib.hid ho
    have HTR := Lib.hid htr
    clear hx hk hfi ho htr
    by_cases hlt : i < l.length
    · obtain ⟨g, cap, hv, hcap, _, e0⟩ := int_at HO.out i hlt
      simp only [Value.slice.injEq, true_and] at hv
      obtain ⟨rfl, rfl⟩ := hv
      have hn9 := HL9.out l[i] (List.getElem_mem hlt)
      have HDR := Lib.hid (show l.drop i = l[i] :: l.drop (i + 1) from List.drop_eq_getElem_cons hlt)
      obtain ⟨n, hn⟩ : ∃ n, n = l[i] := ⟨_, rfl⟩
      rw [← hn] at e0 hn9 HDR
      clear hn
      by_cases hnb : (n : Int) < before
      · by_cases hil : i + 1 = l.length
        · have hq : ((i : Int) == (l.length : Int) - 1) = true := by rw [beq_iff_eq]; omega
          have HE := Lib.hid (show trimL p.data.toList before l M = (0, Mi) by
            rw [HTR.out, HDR.out, show l.drop (i + 1) = [] from List.drop_eq_nil_of_le (by omega)]; exact trim_one _ _)
          clear hil
          go_wp2_with (fail)
          go_ret
          exact ⟨by rw [HE.out]; rfl, by rw [HE.out]; exact ⟨Fi, HX.out.prog, (Keep.of_bel HB1.out F).trans HKi.out (fun x hx => Or.inl hx), fun k hk => (HFi.out k hk).imp id (fun h => Nat.le_trans HB1.out.size h)⟩⟩
        · have hq : ((i : Int) == (l.length : Int) - 1) = false := by rw [beq_eq_false_iff_ne]; omega
          have HE := Lib.hid (show trimL p.data.toList before l M = if (dropS (fileN p.data.toList n) Mi).1 = 0 then trimL p.data.toList before (l.drop (i + 1)) (dropS (fileN p.data.toList n) Mi).2 else dropS (fileN p.data.toList n) Mi by
            rw [HTR.out, HDR.out]
            exact trim_step _ _ (by intro e; have := congrArg List.length e; rw [List.length_drop, List.length_nil] at this; omega) hnb)
          obtain ⟨rd, Md, hD⟩ : ∃ rd Md, dropS (fileN p.data.toList n) Mi = (rd, Md) := ⟨_, _, rfl⟩
          have HD := Lib.hid hD
          have HMd := Lib.hid (show Md.ok by have := drop_ok HX.out.ok (fileN p.data.toList n); rwa [hD] at this)
          rw [hD] at HE
          have hfl := file_len p.data.toList (n := n) (by omega)
          have hfz := str_len (fileN p.data.toList n)
          have hgw : g < w1.heap.size ∧ w.heap.size ≤ g := ⟨(HVB.out g rfl).2, (HVB.out g rfl).1⟩
          have hgF : g ∉ Fi := fun hm => by
            rcases HFi.out g hm with h | h
            · have := HFL.out g h; omega
            · omega
          clear hD hil
          obtain ⟨x0, hx0⟩ : ∃ x0, x0 = Mi := ⟨_, rfl⟩
          clear hx0 x0
          go_wp2_with (fail)
          refine wp_region_held_drew (S := fun z => z.cell? ⟨jb, 0, none⟩ = some (.pointer (some ⟨b, 0, none⟩))) (by kernel_rfl) HX.out.j.files (fun hHeld => ?_)
          refine tk (oi := { dst := some 28, op := Op.move (Operand.tmp 0), type := 51, pos := "journal.go:163", after := #[], guard := none }) (v := ?_) 0 rfl ?_ ?_
          rotate_left
          · (intro w hSw; (try dsimp only at hSw); first | (go_simp; done) | (go_simp; with_reducible rfl))
          try simp only [Act.put, List.setIfInBounds_toArray, List.set_cons_zero, List.set_cons_succ]
          refine tk (oi := { dst := some 29, op := Op.nilCheck (Operand.tmp 28), type := 0, pos := "journal.go:163", after := #[{ on := 0, ground := Ground.data }], guard := none }) (v := ?_) 1 rfl ?_ ?_
          rotate_left
          · (intro w hSw; (try dsimp only at hSw); first | (go_simp; done) | (go_simp; with_reducible rfl))
          try simp only [Act.put, List.setIfInBounds_toArray, List.set_cons_zero, List.set_cons_succ]
          refine tk (oi := { dst := some 30, op := Op.fieldAddr 99 (Operand.tmp 29) 0, type := 0, pos := "journal.go:163", after := #[{ on := 1, ground := Ground.data }], guard := none }) (v := ?_) 2 rfl ?_ ?_
          rotate_left
          · (intro w hSw; (try dsimp only at hSw); first | (go_simp; done) | (go_simp; with_reducible rfl))
          try simp only [Act.put, List.setIfInBounds_toArray, List.set_cons_zero, List.set_cons_succ]
          refine tk (oi := { dst := some 31, op := Op.load 42 (Operand.tmp 30), type := 42, pos := "journal.go:163", after := #[{ on := 2, ground := Ground.data }], guard := none }) (v := ?_) 3 rfl ?_ ?_
          rotate_left
          · (intro w hSw; (try dsimp only at hSw); first | (go_simp; done) | (go_simp; with_reducible rfl))
          try simp only [Act.put, List.setIfInBounds_toArray, List.set_cons_zero, List.set_cons_succ]
          refine tk (oi := { dst := some 32, op := Op.move (Operand.tmp 0), type := 51, pos := "journal.go:163", after := #[], guard := none }) (v := ?_) 4 rfl ?_ ?_
          rotate_left
          · (intro w hSw; (try dsimp only at hSw); first | (go_simp; done) | (go_simp; with_reducible rfl))
          try simp only [Act.put, List.setIfInBounds_toArray, List.set_cons_zero, List.set_cons_succ]
          refine tk (oi := { dst := some 33, op := Op.move (Operand.tmp 7), type := 3, pos := "journal.go:163", after := #[], guard := none }) (v := ?_) 5 rfl ?_ ?_
          rotate_left
          · (intro w hSw; (try dsimp only at hSw); first | (go_simp; done) | (go_simp; with_reducible rfl))
          try simp only [Act.put, List.setIfInBounds_toArray, List.set_cons_zero, List.set_cons_succ]
          refine wpAnyH_ready (rs := [6]) (by kernel_rfl) (by simp) ?_
          refine AllReadyH.cons (o := { dst := some 34, op := Op.call { callee := Callee.value (Operand.func 64), args := #[Operand.tmp 32, Operand.tmp 33], argTypes := #[51, 3] }, type := 9, pos := "journal.go:163", after := #[{ on := 4, ground := Ground.data }, { on := 5, ground := Ground.data }], guard := none }) rfl (fun K hK => ?_) AllReadyH.nil
          go_simp
          refine (js_fileC (HX.out.bel (Bel.refl _).drew) hp n (by omega)).mono ?_
          rintro e zf ⟨rfl, hbf⟩
          have HBf := Lib.hid ((Bel.refl _).drew.trans hbf)
          have HXf := Lib.hid (HX.out.bel HBf.out)
          clear hbf
          dsimp only
          refine hK.out _ _ HXf.out.j.files (fun hHeld => ?_)
          clear hK K
          try simp only [Act.put, List.setIfInBounds_toArray, List.set_cons_zero, List.set_cons_succ]
          refine wpAnyH_ready (rs := [7]) (by kernel_rfl) (by simp) ?_
          refine AllReadyH.cons (o := { dst := some 35, op := Op.call { callee := Callee.value (Operand.func 69), args := #[Operand.tmp 31, Operand.tmp 34], argTypes := #[42, 9] }, type := 31, pos := "journal.go:163", after := #[{ on := 3, ground := Ground.data }, { on := 6, ground := Ground.data }, { on := 6, ground := Ground.chain }], guard := none }) rfl (fun K hK => ?_) AllReadyH.nil
          go_simp
          refine (pdrop_any n₀ zf b Mi Fi (⟨(fileN p.data.toList n).toArray⟩ : ByteArray) HXf.out.prog (by unfold maxLen; omega) HX.out.ok.srt (good_len HX.out.ok)).mono ?_
          rintro e w4 ⟨rfl, hT⟩
          rw [str_list, HD.out] at hT ⊢
          obtain ⟨F4, hX4, hK4, hF4⟩ := HXf.out.step hT HMd.out
          have HX4 := Lib.hid hX4
          have HK4 := Lib.hid ((HKi.out.then HBf.out).trans hK4 (fun x hx => HFi.out x hx))
          have HF4 := Lib.hid (show ∀ k ∈ F4, k ∈ F ∨ w1.heap.size ≤ k from fun k hk => by
            rcases hF4 k hk with h | h
            · exact HFi.out k h
            · exact Or.inr (Nat.le_trans (HKi.out.then HBf.out).size h))
          have HO4 := Lib.hid ((HO.out.bel HBf.out).keep hK4 (fun j hj => by simp only [Value.ownBlock, Option.some.injEq] at hj; subst hj; exact hgF))
          have cN := HX4.out.j.files
          clear hT hX4 hK4 hF4
          dsimp only
          refine hK.out _ _ cN (fun hHeld => ?_)
          clear hK K
          try simp only [Act.put, List.setIfInBounds_toArray, List.set_cons_zero, List.set_cons_succ]
          refine tk (oi := { dst := some 8, op := Op.assign (Operand.tmp 35), type := 31, pos := "journal.go:163", after := #[{ on := 7, ground := Ground.data }, { on := 7, ground := Ground.chain }, { on := 0, ground := Ground.phase }, { on := 1, ground := Ground.phase }, { on := 2, ground := Ground.phase }, { on := 3, ground := Ground.phase }, { on := 4, ground := Ground.phase }, { on := 5, ground := Ground.phase }, { on := 6, ground := Ground.phase }, { on := 7, ground := Ground.phase }], guard := none }) (v := ?_) 8 rfl ?_ ?_
          rotate_left
          · (intro w hSw; (try dsimp only at hSw); first | (go_simp; done) | (go_simp; with_reducible rfl))
          try simp only [Act.put, List.setIfInBounds_toArray, List.set_cons_zero, List.set_cons_succ]
          refine wpAnyH_done (by kernel_rfl) ?_ _
          by_cases hrd : rd = 0
          · subst hrd
            rw [if_pos rfl] at HE
            clear cN
            go_wp2_with (fail)
            go_roundw
            case rel => exact ⟨i + 1, Md, F4, by go_num, by omega, HX4.out, HK4.out, HF4.out, HO4.out, HE.out⟩
            case measure => simp [intOf]; omega
          · rw [if_neg hrd] at HE
            have hx3 : (rd != 0) = true := by rw [bne_iff_ne]; exact hrd
            have hx2 : (rd == 0) = false := by rw [beq_eq_false_iff_ne]; exact hrd
            clear cN
            go_wp2_with (fail)
            go_ret
            exact ⟨by rw [HE.out]; rfl, by rw [HE.out]; exact ⟨F4, HX4.out.prog, (Keep.of_bel HB1.out F).trans HK4.out (fun x hx => Or.inl hx), fun k hk => (HF4.out k hk).imp id (fun h => Nat.le_trans HB1.out.size h)⟩⟩
      · have HE := Lib.hid (show trimL p.data.toList before l M = (0, Mi) by rw [HTR.out, HDR.out]; exact trim_stop _ _ hnb)
        have hge : before ≤ (n : Int) := by omega
        go_wp2_with (fail)
        go_ret
        exact ⟨by rw [HE.out]; rfl, by rw [HE.out]; exact ⟨Fi, HX.out.prog, (Keep.of_bel HB1.out F).trans HKi.out (fun x hx => Or.inl hx), fun k hk => (HFi.out k hk).imp id (fun h => Nat.le_trans HB1.out.size h)⟩⟩
    · obtain rfl : i = l.length := by omega
      have HE := Lib.hid (show trimL p.data.toList before l M = (0, Mi) by rw [HTR.out, List.drop_length]; rfl)
      go_wp2_with (fail)
      go_ret
      exact ⟨by rw [HE.out]; rfl, by rw [HE.out]; exact ⟨Fi, HX.out.prog, (Keep.of_bel HB1.out F).trans HKi.out (fun x hx => Or.inl hx), fun k hk => (HFi.out k hk).imp id (fun h => Nat.le_trans HB1.out.size h)⟩⟩
end Go.Proofs.YtlmlcnbgdaiaeaaGreatDoor
/- moultref7's Trim. -/
namespace Go.Proofs.YtlmlcnbgdaiaeaaGreatDoor
open Go.RowKit Go.Deep Go.Maps

theorem rj_fileC {n₀ : Nat} {z : World} {b jb : Nat} {M : RS} {F : List Nat} {p : ByteArray} {most : Int} (h : RJS n₀ z b M F jb p most) (hp : p.size ≤ 100) (n : Nat) (hn : n ≤ 10000000) :
    Calls Tryz.prog 57 #[.pointer (some ⟨jb, 0, none⟩), .int .i64 n] z fun e y => e = .returned (.string ⟨(fileN p.data.toList n).toArray⟩) ∧ Bel z y := rfile_any z jb b p most n h.j hp hn
def RTrRel (n₀ : Nat) (w1 : World) (b : Nat) (F : List Nat) (jb : Nat) (p : ByteArray) (most before : Int) (l : List Nat) (sv : Value) (M : RS) (iv : Value) (x : World) : Prop :=
  ∃ (i : Nat) (Mi : RS) (Fi : List Nat), iv = .int .i64 i ∧ i ≤ l.length ∧ RJS n₀ x b Mi Fi jb p most ∧ Keep F w1 x ∧ (∀ k ∈ Fi, k ∈ F ∨ w1.heap.size ≤ k) ∧ OwnG intEl 0 x sv (l.map fun n : Nat => (n : Int)) ∧ trimL p.data.toList before l M = trimL p.data.toList before (l.drop i) Mi
theorem trim_end (p : List UInt8) (before : Int) {l : List Nat} {M : RS} (h : l.length ≤ 1) : trimL p before l M = (0, M) := by
  match l, h with
  | [], _ => rfl
  | [n], _ => rfl
  | _ :: _ :: _, h => simp only [List.length_cons] at h; omega
theorem ref_lt {n₀ : Nat} {w : World} {b : Nat} {M : RS} {F : List Nat} (h : RefP n₀ w b M F) : ∀ k ∈ F, k < w.heap.size := by
  obtain ⟨v, _, _, _, h⟩ := h
  exact fun k hk => (h k hk).2
set_option maxHeartbeats 4000000 in
set_option maxRecDepth 20000 in
theorem rtrim_any (n₀ : Nat) (w : World) (b : Nat) (M : RS) (F : List Nat) (jb : Nat) (p : ByteArray) (most before : Int) (h : RJS n₀ w b M F jb p most) (hp : p.size ≤ 100) (hbefore : in64 before) :
    Calls Tryz.prog 33 #[.pointer (some ⟨jb, 0, none⟩), .int .i64 before] w fun e y => e = .returned (.int .i64 (jtrim p.data.toList before M).1) ∧ RefTo n₀ w y b (jtrim p.data.toList before M).2 F := by
  have H := Lib.hid h
  have HBF := Lib.hid hbefore
  have HFL := Lib.hid (ref_lt h.ref)
  have HC := Lib.hid (rsegs_any n₀ w jb b p most M F h.ref h.ok h.j hp)
  have hsl := segs_len p.data.toList M.L
  have h60 := h.ok.len
  have hpl : p.data.toList.length = p.size := rfl
  unfold jtrim
  obtain ⟨l, hl⟩ : ∃ l, l = segsL p.data.toList M.L := ⟨_, rfl⟩
  have HL9 := Lib.hid (show ∀ n ∈ l, n ≤ 9999999 from fun n hn => by rw [hl] at hn; exact (mem_segs_file.1 hn).2.1)
  rw [← hl] at HC hsl ⊢
  clear h hl hbefore
  go_enter Tryz.func33, Tryz.ntmps33
  go_wp2_with (fail)
  refine HC.out.mono ?_
  rintro e w1 ⟨v, rfl, hown, hb1⟩
  have HV := Lib.hid hown
  have HB1 := Lib.hid hb1
  obtain ⟨sp, sc, hv⟩ := ownG_len hown
  rw [toZ_len] at hv
  subst hv
  have HVB := Lib.hid hown.lt
  clear hown hb1
  go_wp2_with (fail)
  go_loopw [6] (fun iv x => RTrRel n₀ w1 b F jb p most before l (.slice sp l.length sc) M iv x) (fun iv _ => l.length - (intOf iv).toNat)
  case atStart => exact ⟨0, M, F, rfl, Nat.zero_le _, H.out.bel HB1.out, Keep.refl _ _, fun k hk => Or.inl hk, HV.out.low (Nat.zero_le _), by rw [List.drop_zero]⟩
  case round =>
    obtain ⟨i, Mi, Fi, rfl, hi, hx, hk, hfi, ho, htr⟩ := hrel
    have HX := Lib.hid hx
    have HKi := Lib.hid hk
    have HFi := Lib.hid hfi
    have HO := Lib.hid ho
    have HTR := Lib.hid htr
    clear hx hk hfi ho htr
    have hw1 : IntKind.i64.wrap ((i : Int) + 1) = (i : Int) + 1 := IntWalk.i64_in _ (by omega)
    by_cases hlt1 : i + 1 < l.length
    · have hlt : i < l.length := by omega
      have hq : (i : Int) + 1 < (l.length : Int) := by omega
      obtain ⟨g, cap, hv, hcap, _, e0⟩ := int_at HO.out i hlt
      simp only [Value.slice.injEq, true_and] at hv
      obtain ⟨rfl, rfl⟩ := hv
      have hn9 := HL9.out l[i] (List.getElem_mem hlt)
      have HDR := Lib.hid (show l.drop i = l[i] :: l.drop (i + 1) from List.drop_eq_getElem_cons hlt)
      obtain ⟨n, hn⟩ : ∃ n, n = l[i] := ⟨_, rfl⟩
      rw [← hn] at e0 hn9 HDR
      clear hn
      by_cases hnb : (n : Int) < before
      · have HE := Lib.hid (show trimL p.data.toList before l M = if (dropS (fileN p.data.toList n) Mi).1 = 0 then trimL p.data.toList before (l.drop (i + 1)) (dropS (fileN p.data.toList n) Mi).2 else dropS (fileN p.data.toList n) Mi by
          rw [HTR.out, HDR.out]
          exact trim_step _ _ (by intro e; have := congrArg List.length e; rw [List.length_drop, List.length_nil] at this; omega) hnb)
        obtain ⟨rd, Md, hD⟩ : ∃ rd Md, dropS (fileN p.data.toList n) Mi = (rd, Md) := ⟨_, _, rfl⟩
        have HD := Lib.hid hD
        have HMd := Lib.hid (show Md.ok by have := drop_ok HX.out.ok (fileN p.data.toList n); rwa [hD] at this)
        rw [hD] at HE
        have hfl := file_len p.data.toList (n := n) (by omega)
        have hfz := str_len (fileN p.data.toList n)
        have hgw : g < w1.heap.size ∧ w.heap.size ≤ g := ⟨(HVB.out g rfl).2, (HVB.out g rfl).1⟩
        have hgF : g ∉ Fi := fun hm => by
          rcases HFi.out g hm with h | h
          · have := HFL.out g h; omega
          · omega
        clear hD
        obtain ⟨x0, hx0⟩ : ∃ x0, x0 = Mi := ⟨_, rfl⟩
        clear hx0 x0
        go_wp2_with (fail)
        refine wp_region_held_drew (S := fun z => z.cell? ⟨jb, 0, none⟩ = some (.pointer (some ⟨b, 0, none⟩)) ∧ z.cell? ⟨g, i, none⟩ = some (.int .i64 n)) (by kernel_rfl) ⟨HX.out.j.files, e0⟩ (fun hHeld => ?_)
        refine tk (oi := { dst := some 25, op := Op.move (Operand.tmp 0), type := 54, pos := "ref.go:205", after := #[], guard := none }) (v := ?_) 0 rfl ?_ ?_
        rotate_left
        · (intro w hSw; (try dsimp only at hSw); first | (go_simp; done) | (go_simp; with_reducible rfl))
        try simp only [Act.put, List.setIfInBounds_toArray, List.set_cons_zero, List.set_cons_succ]
        refine tk (oi := { dst := some 26, op := Op.nilCheck (Operand.tmp 25), type := 0, pos := "ref.go:205", after := #[{ on := 0, ground := Ground.data }], guard := none }) (v := ?_) 1 rfl ?_ ?_
        rotate_left
        · (intro w hSw; (try dsimp only at hSw); first | (go_simp; done) | (go_simp; with_reducible rfl))
        try simp only [Act.put, List.setIfInBounds_toArray, List.set_cons_zero, List.set_cons_succ]
        refine tk (oi := { dst := some 27, op := Op.fieldAddr 104 (Operand.tmp 26) 0, type := 0, pos := "ref.go:205", after := #[{ on := 1, ground := Ground.data }], guard := none }) (v := ?_) 2 rfl ?_ ?_
        rotate_left
        · (intro w hSw; (try dsimp only at hSw); first | (go_simp; done) | (go_simp; with_reducible rfl))
        try simp only [Act.put, List.setIfInBounds_toArray, List.set_cons_zero, List.set_cons_succ]
        refine tk (oi := { dst := some 28, op := Op.load 45 (Operand.tmp 27), type := 45, pos := "ref.go:205", after := #[{ on := 2, ground := Ground.data }], guard := none }) (v := ?_) 3 rfl ?_ ?_
        rotate_left
        · (intro w hSw; (try dsimp only at hSw); first | (go_simp; done) | (go_simp; with_reducible rfl))
        try simp only [Act.put, List.setIfInBounds_toArray, List.set_cons_zero, List.set_cons_succ]
        refine tk (oi := { dst := some 29, op := Op.move (Operand.tmp 0), type := 54, pos := "ref.go:205", after := #[], guard := none }) (v := ?_) 4 rfl ?_ ?_
        rotate_left
        · (intro w hSw; (try dsimp only at hSw); first | (go_simp; done) | (go_simp; with_reducible rfl))
        try simp only [Act.put, List.setIfInBounds_toArray, List.set_cons_zero, List.set_cons_succ]
        refine tk (oi := { dst := some 30, op := Op.move (Operand.tmp 5), type := 35, pos := "ref.go:205", after := #[], guard := none }) (v := ?_) 5 rfl ?_ ?_
        rotate_left
        · (intro w hSw; (try dsimp only at hSw); first | (go_simp; done) | (go_simp; with_reducible rfl))
        try simp only [Act.put, List.setIfInBounds_toArray, List.set_cons_zero, List.set_cons_succ]
        refine tk (oi := { dst := some 31, op := Op.move (Operand.tmp 6), type := 3, pos := "ref.go:205", after := #[], guard := none }) (v := ?_) 6 rfl ?_ ?_
        rotate_left
        · (intro w hSw; (try dsimp only at hSw); first | (go_simp; done) | (go_simp; with_reducible rfl))
        try simp only [Act.put, List.setIfInBounds_toArray, List.set_cons_zero, List.set_cons_succ]
        refine tk (oi := { dst := some 32, op := Op.indexAddr 35 (Operand.tmp 30) (Operand.tmp 31), type := 0, pos := "ref.go:205", after := #[{ on := 5, ground := Ground.data }, { on := 6, ground := Ground.data }], guard := none }) (v := ?_) 7 rfl ?_ ?_
        rotate_left
        · (intro w hSw; (try dsimp only at hSw); first | (go_simp; done) | (go_simp; with_reducible rfl))
        try simp only [Act.put, List.setIfInBounds_toArray, List.set_cons_zero, List.set_cons_succ]
        refine tk (oi := { dst := some 33, op := Op.load 3 (Operand.tmp 32), type := 3, pos := "ref.go:205", after := #[{ on := 7, ground := Ground.data }], guard := none }) (v := ?_) 8 rfl ?_ ?_
        rotate_left
        · (intro w hSw; (try dsimp only at hSw); first | (go_simp; done) | (go_simp; with_reducible rfl))
        try simp only [Act.put, List.setIfInBounds_toArray, List.set_cons_zero, List.set_cons_succ]
        refine wpAnyH_ready (rs := [9]) (by kernel_rfl) (by simp) ?_
        refine AllReadyH.cons (o := { dst := some 34, op := Op.call { callee := Callee.value (Operand.func 57), args := #[Operand.tmp 29, Operand.tmp 33], argTypes := #[54, 3] }, type := 9, pos := "ref.go:205", after := #[{ on := 4, ground := Ground.data }, { on := 8, ground := Ground.data }], guard := none }) rfl (fun K hK => ?_) AllReadyH.nil
        go_simp
        refine (rj_fileC (HX.out.bel (Bel.refl _).drew) hp n (by omega)).mono ?_
        rintro e zf ⟨rfl, hbf⟩
        have HBf := Lib.hid ((Bel.refl _).drew.trans hbf)
        have HXf := Lib.hid (HX.out.bel HBf.out)
        have ef := cell_later HBf.out e0
        clear hbf
        dsimp only
        refine hK.out _ _ ⟨HXf.out.j.files, ef⟩ (fun hHeld => ?_)
        clear hK K
        try simp only [Act.put, List.setIfInBounds_toArray, List.set_cons_zero, List.set_cons_succ]
        refine wpAnyH_ready (rs := [10]) (by kernel_rfl) (by simp) ?_
        refine AllReadyH.cons (o := { dst := some 35, op := Op.call { callee := Callee.value (Operand.func 74), args := #[Operand.tmp 28, Operand.tmp 34], argTypes := #[45, 9] }, type := 31, pos := "ref.go:205", after := #[{ on := 3, ground := Ground.data }, { on := 9, ground := Ground.data }, { on := 9, ground := Ground.chain }], guard := none }) rfl (fun K hK => ?_) AllReadyH.nil
        go_simp
        refine (rdrop_any n₀ zf b Mi Fi (⟨(fileN p.data.toList n).toArray⟩ : ByteArray) HXf.out.ref HX.out.ok).mono ?_
        rintro e w4 ⟨rfl, hT⟩
        rw [str_list, HD.out] at hT ⊢
        obtain ⟨F4, hX4, hK4, hF4⟩ := HXf.out.step hT HMd.out
        have HX4 := Lib.hid hX4
        have HK4 := Lib.hid ((HKi.out.then HBf.out).trans hK4 (fun x hx => HFi.out x hx))
        have HF4 := Lib.hid (show ∀ k ∈ F4, k ∈ F ∨ w1.heap.size ≤ k from fun k hk => by
          rcases hF4 k hk with h | h
          · exact HFi.out k h
          · exact Or.inr (Nat.le_trans (HKi.out.then HBf.out).size h))
        have HO4 := Lib.hid ((HO.out.bel HBf.out).keep hK4 (fun j hj => by simp only [Value.ownBlock, Option.some.injEq] at hj; subst hj; exact hgF))
        have cN := HX4.out.j.files
        have eN := hK4.cell ef hgF
        clear hT hX4 hK4 hF4
        dsimp only
        refine hK.out _ _ ⟨cN, eN⟩ (fun hHeld => ?_)
        clear hK K
        try simp only [Act.put, List.setIfInBounds_toArray, List.set_cons_zero, List.set_cons_succ]
        refine tk (oi := { dst := some 7, op := Op.assign (Operand.tmp 35), type := 31, pos := "ref.go:205", after := #[{ on := 10, ground := Ground.data }, { on := 10, ground := Ground.chain }, { on := 0, ground := Ground.phase }, { on := 1, ground := Ground.phase }, { on := 2, ground := Ground.phase }, { on := 3, ground := Ground.phase }, { on := 4, ground := Ground.phase }, { on := 5, ground := Ground.phase }, { on := 6, ground := Ground.phase }, { on := 7, ground := Ground.phase }, { on := 8, ground := Ground.phase }, { on := 9, ground := Ground.phase }, { on := 10, ground := Ground.phase }], guard := none }) (v := ?_) 11 rfl ?_ ?_
        rotate_left
        · (intro w hSw; (try dsimp only at hSw); first | (go_simp; done) | (go_simp; with_reducible rfl))
        try simp only [Act.put, List.setIfInBounds_toArray, List.set_cons_zero, List.set_cons_succ]
        refine wpAnyH_done (by kernel_rfl) ?_ _
        by_cases hrd : rd = 0
        · subst hrd
          rw [if_pos rfl] at HE
          clear cN eN
          go_wp2_with (fail)
          go_roundw
          case rel => exact ⟨i + 1, Md, F4, by go_num, by omega, HX4.out, HK4.out, HF4.out, HO4.out, HE.out⟩
          case measure => simp [intOf]; omega
        · rw [if_neg hrd] at HE
          have hx3 : (rd != 0) = true := by rw [bne_iff_ne]; exact hrd
          have hx2 : (rd == 0) = false := by rw [beq_eq_false_iff_ne]; exact hrd
          clear cN eN
          go_wp2_with (fail)
          go_ret
          exact ⟨by rw [HE.out]; rfl, by rw [HE.out]; exact ⟨F4, HX4.out.ref, (Keep.of_bel HB1.out F).trans HK4.out (fun x hx => Or.inl hx), fun k hk => (HF4.out k hk).imp id (fun h => Nat.le_trans HB1.out.size h)⟩⟩
      · have HE := Lib.hid (show trimL p.data.toList before l M = (0, Mi) by rw [HTR.out, HDR.out]; exact trim_stop _ _ hnb)
        have hge : before ≤ (n : Int) := by omega
        go_wp2_with (fail)
        go_ret
        exact ⟨by rw [HE.out]; rfl, by rw [HE.out]; exact ⟨Fi, HX.out.ref, (Keep.of_bel HB1.out F).trans HKi.out (fun x hx => Or.inl hx), fun k hk => (HFi.out k hk).imp id (fun h => Nat.le_trans HB1.out.size h)⟩⟩
    · have hq : (l.length : Int) ≤ (i : Int) + 1 := by omega
      have HE := Lib.hid (show trimL p.data.toList before l M = (0, Mi) by rw [HTR.out]; exact trim_end _ _ (by rw [List.length_drop]; omega))
      go_wp2_with (fail)
      go_ret
      exact ⟨by rw [HE.out]; rfl, by rw [HE.out]; exact ⟨Fi, HX.out.ref, (Keep.of_bel HB1.out F).trans HKi.out (fun x hx => Or.inl hx), fun k hk => (HFi.out k hk).imp id (fun h => Nat.le_trans HB1.out.size h)⟩⟩
end Go.Proofs.YtlmlcnbgdaiaeaaGreatDoor
/- journal's Open. -/
namespace Go.Proofs.YtlmlcnbgdaiaeaaGreatDoor
open Go.RowKit Go.Deep Go.Maps

theorem chg_room (M : RS) (L' : List FI) : (chgS M L').2.room = M.room := by
  unfold chgS
  split
  · exact turn_room M
  · exact turn_room M
theorem add_room (M : RS) (nm t : List UInt8) : (addS nm t M).2.room = M.room := by
  unfold addS; split; exact chg_room M _; rfl
theorem room_sizes {M : RS} (h : M.ok) (hr : M.room ≤ 1000000) : ∀ y ∈ M.L, y.bytes.length ≤ 1000000 := fun y hy => by
  have h1 := bytes_mem hy
  have h2 := h.fits
  omega
def OpPost (n₀ : Nat) (w : World) (b : Nat) (F : List Nat) (nm : ByteArray) (most : Int) (M' : RS) (L : List (List (List UInt8))) (err : Int) (e : Ending) (y : World) : Prop :=
  ∃ jv v F', e = .returned (.tuple #[jv, v, .int .i64 err]) ∧ ProgAt n₀ y b M' F' ∧ Keep F w y ∧ (∀ k ∈ F', k ∈ F ∨ w.heap.size ≤ k) ∧ OwnQ w y F' v L ∧
    (err = 0 → ∃ jb, jv = .pointer (some ⟨jb, 0, none⟩) ∧ JAt y jb b nm most ∧ Qb w y F' jb) ∧ (err ≠ 0 → jv = .pointer none)
theorem open_new {p : List UInt8} {M : RS} (hM : M.ok) (h0 : segsL p M.L = []) (ht : (jturn p M).1 = 0) : segsL p (jturn p M).2.L = [1] ∧ (jturn p M).2.gone = false ∧ readSegs p [1] (jturn p M).2 = (0, [], (jturn p M).2) := by
  have hl : lastN p M.L = 0 := last_zero.2 h0
  obtain ⟨h1, -, h3, h4, -⟩ := (jturn_segs hM (by omega)).1 ht
  rw [hl, h0] at h1
  rw [hl] at h4
  refine ⟨h1, h3, ?_⟩
  have hb : bytesOf (fileN p 1) (jturn p M).2 = [] := bytesOf_get h4
  simp only [readSegs, hb, read_nil]
  simp
set_option maxHeartbeats 4000000 in
theorem open_rest (n₀ : Nat) (w x : World) (b : Nat) (M : RS) (F F0 : List Nat) (jb : Nat) (nm : ByteArray) (most : Int) (h : JS n₀ x b M F jb nm most) (hg : M.gone = false) (hnm : nm.size ≤ 100) (hr : M.room ≤ 1000000) :
    Calls Tryz.prog 55 #[.pointer (some ⟨jb, 0, none⟩)] x fun e y => ∃ p cap, e = .returned (.slice p (segsL nm.data.toList M.L).length cap) ∧ StrsAt y p ((segsL nm.data.toList M.L).map (fileN nm.data.toList)) ∧ Bel x y := by
  refine (jnames_any n₀ x jb b nm most M F h.prog h.ok h.j hnm h.std0).mono ?_
  rintro e y ⟨v, rfl, ho, hb⟩
  obtain ⟨p, cap, rfl, hat⟩ := ownG_strs ho
  exact ⟨p, cap, by rw [List.length_map], hat, hb⟩
set_option maxHeartbeats 4000000 in
theorem open_any (n₀ : Nat) (w : World) (b : Nat) (M : RS) (F : List Nat) (nm : ByteArray) (most : Int) (h : ProgAt n₀ w b M F) (hM : M.ok) (hstd : ∀ z, Keep F w z → Std z) (hnm : nm.size ≤ 100) (hr : M.room ≤ 1000000) :
    Calls Tryz.prog 19 #[.pointer (some ⟨b, 0, none⟩), .string nm, .int .i64 most] w (OpPost n₀ w b F nm most (jopen nm.data.toList M).2.2 (jopen nm.data.toList M).2.1 (jopen nm.data.toList M).1) := by
  have HP := Lib.hid h
  have HM := Lib.hid hM
  have HS := Lib.hid hstd
  have HFL := Lib.hid (prog_lt h)
  have HR := Lib.hid hr
  clear h hM hstd hr
  cases hN : nameJ nm.data.toList with
  | false =>
    have HO := Lib.hid (show jopen nm.data.toList M = (3, [], M) by unfold jopen; rw [if_pos hN])
    have HNJ := Lib.hid hN; clear hN
    go_enter Tryz.func19, Tryz.ntmps19
    go_wp2_with (fail)
    refine (jisname_any nm w (by unfold maxLen; omega)).mono ?_
    rintro e w1 ⟨rfl, hd1⟩
    rw [HNJ.out]
    have HB1 := Lib.hid hd1.bel; clear hd1
    go_wp2_with (fail)
    go_ret3
    rw [HO.out]
    exact ⟨_, _, F, rfl, HP.out.bel HB1.out, Keep.of_bel HB1.out F, fun k hk => Or.inl hk, OwnQ.nil _ _ _, (fun hc => absurd hc (by simp)), (fun _ => rfl)⟩
  | true =>
    have HNJ := Lib.hid hN
    cases hg : M.gone with
    | true =>
      have HO := Lib.hid (show jopen nm.data.toList M = (7, [], M) by unfold jopen; rw [if_neg (by rw [hN]; simp), if_pos hg])
      clear hN
      go_enter Tryz.func19, Tryz.ntmps19
      go_wp2_with (fail)
      refine (jisname_any nm w (by unfold maxLen; omega)).mono ?_
      rintro e w1 ⟨rfl, hd1⟩
      rw [HNJ.out]
      have HB1 := Lib.hid hd1.bel; clear hd1
      go_wp2_with (fail)
      refine (dead_any n₀ _ b M F (HP.out.bel HB1.out)).mono ?_
      rintro e w2 ⟨rfl, hd2⟩
      rw [hg]
      have HB2 := Lib.hid (HB1.out.trans hd2.bel); clear hd2
      go_wp2_with (fail)
      go_ret3
      rw [HO.out]
      exact ⟨_, _, F, rfl, HP.out.bel HB2.out, Keep.of_bel HB2.out F, fun k hk => Or.inl hk, OwnQ.nil _ _ _, (fun hc => absurd hc (by simp)), (fun _ => rfl)⟩
    | false =>
      have HO := Lib.hid (show jopen nm.data.toList M = if segsL nm.data.toList M.L = [] then ((jturn nm.data.toList M).1, [], (jturn nm.data.toList M).2) else readSegs nm.data.toList (segsL nm.data.toList M.L) M by
        unfold jopen; rw [if_neg (by rw [hN]; simp), if_neg (by rw [hg]; simp)])
      clear hN
      have HG := Lib.hid hg; clear hg
      go_enter Tryz.func19, Tryz.ntmps19
      go_wp2_with (fail)
      refine (jisname_any nm w (by unfold maxLen; omega)).mono ?_
      rintro e w1 ⟨rfl, hd1⟩
      rw [HNJ.out]
      have HB1 := Lib.hid hd1.bel; clear hd1
      go_wp2_with (fail)
      refine (dead_any n₀ _ b M F (HP.out.bel HB1.out)).mono ?_
      rintro e w2 ⟨rfl, hd2⟩
      rw [HG.out]
      have HB2 := Lib.hid (HB1.out.trans hd2.bel); clear hd2
      go_wp2_with (fail)
      obtain ⟨jb, hjb⟩ : ∃ jb, jb = w2.heap.size := ⟨_, rfl⟩
      have HJB := Lib.hid hjb
      obtain ⟨x0, hx0⟩ : ∃ x0, x0 = w2.alloc (.cells #[.pointer (some ⟨b, 0, none⟩), .string nm, .int .i64 most] 99) := ⟨_, rfl⟩
      have HBX := Lib.hid (show Bel w x0 by rw [hx0]; exact HB2.out.alloc _)
      have HX := Lib.hid (show JS n₀ x0 b M F jb nm most from
        ⟨HP.out.bel HBX.out, HM.out, by rw [hjb, hx0]; exact ⟨by go_simp, by go_simp, by go_simp⟩, fun hm => by have h1 := HFL.out jb hm; have h2 := HB2.out.size; omega, fun z hz => HS.out z ((Keep.of_bel HBX.out F).trans hz (fun k hk => Or.inl hk))⟩)
      have HJW := Lib.hid (show w.heap.size ≤ jb by rw [hjb]; exact HB2.out.size)
      rw [← hjb, ← hx0]
      clear hx0 hjb HJB
      refine (num_any n₀ x0 jb b nm most M F HX.out.prog HX.out.ok HX.out.j hnm HX.out.std0).mono ?_
      rintro e x4 ⟨rfl, hb4⟩
      have HX4 := Lib.hid (HX.out.bel hb4)
      have HB4 := Lib.hid (HBX.out.trans hb4)
      clear hb4
      by_cases hs0 : segsL nm.data.toList M.L = []
      · have hl0 : lastN nm.data.toList M.L = 0 := last_zero.2 hs0
        rw [if_pos hs0] at HO
        rw [hl0]
        go_wp2_with (fail)
        refine (jturn_any n₀ x4 b M F jb nm most HX4.out hnm (by rw [hl0]; omega)).mono ?_
        rintro e x5 ⟨rfl, hT⟩
        obtain ⟨rt, M1, ht⟩ : ∃ rt M1, jturn nm.data.toList M = (rt, M1) := ⟨_, _, rfl⟩
        have HON := Lib.hid (open_new HM.out hs0)
        have HM1 := Lib.hid (show M1.ok by have := jturn_ok HM.out nm.data.toList; rwa [ht] at this)
        have HR1 := Lib.hid (show M1.room ≤ 1000000 by have := add_room M (fileN nm.data.toList (lastN nm.data.toList M.L + 1)) []; rw [show addS (fileN nm.data.toList (lastN nm.data.toList M.L + 1)) [] M = (rt, M1) from ht] at this; simp only at this; rw [this]; exact HR.out)
        rw [ht] at hT HON HO ⊢
        clear ht
        obtain ⟨F5, hX5, hK5, hF5⟩ := HX4.out.step hT HM1.out
        have HX5 := Lib.hid hX5
        have HK5 := Lib.hid (show Keep F w x5 from (Keep.of_bel HB4.out F).trans hK5 (fun k hk => Or.inl hk))
        have HF5 := Lib.hid (show ∀ k ∈ F5, k ∈ F ∨ w.heap.size ≤ k from fun k hk => (hF5 k hk).imp id (fun h => Nat.le_trans HB4.out.size h))
        clear hT hX5 hK5 hF5
        by_cases hrt : rt = 0
        · subst hrt
          obtain ⟨hs1, hg1, hrd1⟩ := HON.out rfl
          have HG1 := Lib.hid hg1
          have HRD1 := Lib.hid (show readSegs nm.data.toList (segsL nm.data.toList M1.L) M1 = (0, [], M1) by rw [hs1]; exact hrd1)
          clear hs1 hg1 hrd1
          go_wp2_with (fail)
          refine (open_rest n₀ w _ b M1 F5 F5 jb nm most HX5.out HG1.out hnm HR1.out).mono ?_
          rintro e x1 ⟨sp, sc, rfl, hat, hbn⟩
          have HSA := Lib.hid hat
          have HY1 := Lib.hid (HX5.out.bel hbn)
          have HBN := Lib.hid hbn
          clear hat hbn
          have hsl := segs_len nm.data.toList M1.L
          have h60 := HX5.out.ok.len
          have hml : ((segsL nm.data.toList M1.L).map (fileN nm.data.toList)).length = (segsL nm.data.toList M1.L).length := List.length_map _
          have HSO := Lib.hid (segof_any x1 sp sc ((segsL nm.data.toList M1.L).map (fileN nm.data.toList)) HSA.out (by omega))
          rw [hml] at HSO
          have HRS := Lib.hid (fun (z : World) (sv : Value) (hp : ProgAt n₀ z b M1 F5) (hs : OwnG segEl 0 z sv (segF ((segsL nm.data.toList M1.L).map (fileN nm.data.toList)))) (hq : ∀ k, sv.ownBlock = some k → k < z.heap.size ∧ k ∉ F5) =>
            readall_any n₀ z b M1 F5 nm.data.toList (segsL nm.data.toList M1.L) sv hp HX5.out.ok HG1.out hnm (fun n hn => ⟨(mem_segs_file.1 hn).2.1, Option.isSome_iff_exists.1 ((mem_segs_get HX5.out.ok.srt).1 hn).2.2⟩) (by omega) (room_sizes HX5.out.ok HR1.out) hs hq)
          obtain ⟨er, LL, MF, hread⟩ : ∃ er LL MF, readSegs nm.data.toList (segsL nm.data.toList M1.L) M1 = (er, LL, MF) := ⟨_, _, _, rfl⟩
          rw [hread] at HRS
          have HRD := Lib.hid hread
          clear hread hml
          go_wp2_with (fail)
          refine HSO.out.mono ?_
          rintro e x2 ⟨sv, rfl, hso, hbs⟩
          have HY2 := Lib.hid (HY1.out.bel hbs)
          have HSV := Lib.hid (hso.low (Nat.zero_le _))
          have HSQ := Lib.hid (show ∀ k, sv.ownBlock = some k → k < x2.heap.size ∧ k ∉ F5 from fun k hk => ⟨(hso.lt k hk).2, fun hm => by
            have h1 := (hso.lt k hk).1
            have h2 := prog_lt HY1.out.prog k hm
            omega⟩)
          have HB12 := Lib.hid (HBN.out.trans hbs)
          clear hso hbs
          go_wp2_with (fail)
          refine (HRS.out x2 sv HY2.out.prog HSV.out HSQ.out).mono ?_
          rintro e x3 ⟨v, F3, rfl, hp3, hk3, hf3, hq3⟩
          have HP3 := Lib.hid hp3
          have HK3 := Lib.hid (show Keep F w x3 from (HK5.out.then HB12.out).trans hk3 (fun k hk => HF5.out k hk))
          have HF3 := Lib.hid (show ∀ k ∈ F3, k ∈ F ∨ w.heap.size ≤ k from fun k hk => by
            rcases hf3 k hk with h | h
            · exact HF5.out k h
            · exact Or.inr (Nat.le_trans (HK5.out.then HB12.out).size h))
          have HQ3 := Lib.hid (hq3.lower (w' := w) (HK5.out.then HB12.out).size)
          have HJ3 := Lib.hid (HY2.out.j.keep (hk3.block jb HY2.out.j.lt HY2.out.out))
          have HJQ := Lib.hid (show Qb w x3 F3 jb from ⟨HJW.out, Nat.lt_of_lt_of_le HY2.out.j.lt hk3.size, fun hm => by
            rcases hf3 jb hm with h | h
            · exact HY2.out.out h
            · have := HY2.out.j.lt; omega⟩)
          clear hp3 hk3 hf3 hq3
          by_cases her : er = 0
          · subst her
            have HE := Lib.hid (show jopen nm.data.toList M = (0, LL, MF) by rw [HO.out]; exact HRD1.out.symm.trans HRD.out)
            go_wp2_with (fail)
            go_ret3
            rw [HE.out]
            exact ⟨_, _, F3, rfl, HP3.out, HK3.out, HF3.out, HQ3.out, (fun _ => ⟨jb, rfl, HJ3.out, HJQ.out⟩), (fun hc => absurd rfl hc)⟩
          · have HE := Lib.hid (show jopen nm.data.toList M = (er, [], MF) by
              have hl : LL = [] := by
                have := read_err nm.data.toList (segsL nm.data.toList M1.L) M1 (by rw [HRD.out]; exact her)
                rwa [HRD.out] at this
              rw [HO.out, ← hl]; exact absurd (congrArg Prod.fst (HRD.out.symm.trans HRD1.out)) her)
            have hx3 : (er != 0) = true := by rw [bne_iff_ne]; exact her
            have hx2 : (er == 0) = false := by rw [beq_eq_false_iff_ne]; exact her
            go_wp2_with (fail)
            go_ret3
            rw [HE.out]
            exact ⟨_, _, F3, rfl, HP3.out, HK3.out, HF3.out, OwnQ.nil _ _ _, (fun hc => absurd hc her), (fun _ => rfl)⟩
        · have hx3 : (rt != 0) = true := by rw [bne_iff_ne]; exact hrt
          have hx2 : (rt == 0) = false := by rw [beq_eq_false_iff_ne]; exact hrt
          go_wp2_with (fail)
          go_ret3
          rw [HO.out]
          exact ⟨_, _, F5, rfl, HX5.out.prog, HK5.out, HF5.out, OwnQ.nil _ _ _, (fun hc => absurd hc hrt), (fun _ => rfl)⟩
      · rw [if_neg hs0] at HO
        have hne0 : ((lastN nm.data.toList M.L : Nat) : Int) ≠ 0 := fun e => hs0 (last_zero.1 (by omega))
        have HK4 := Lib.hid (Keep.of_bel HB4.out F)
        have HF4 := Lib.hid (show ∀ k ∈ F, k ∈ F ∨ w.heap.size ≤ k from fun k hk => Or.inl hk)
        generalize lastN nm.data.toList M.L = ln at *
        have hne1 : ((ln : Int) == 0) = false := by rw [beq_eq_false_iff_ne]; exact hne0
        clear hne0
        go_wp2_with (fail)
        refine (open_rest n₀ w _ b M F F jb nm most HX4.out HG.out hnm HR.out).mono ?_
        rintro e x1 ⟨sp, sc, rfl, hat, hbn⟩
        have HSA := Lib.hid hat
        have HY1 := Lib.hid (HX4.out.bel hbn)
        have HBN := Lib.hid hbn
        clear hat hbn
        have hsl := segs_len nm.data.toList M.L
        have h60 := HX4.out.ok.len
        have hml : ((segsL nm.data.toList M.L).map (fileN nm.data.toList)).length = (segsL nm.data.toList M.L).length := List.length_map _
        have HSO := Lib.hid (segof_any x1 sp sc ((segsL nm.data.toList M.L).map (fileN nm.data.toList)) HSA.out (by omega))
        rw [hml] at HSO
        have HRS := Lib.hid (fun (z : World) (sv : Value) (hp : ProgAt n₀ z b M F) (hs : OwnG segEl 0 z sv (segF ((segsL nm.data.toList M.L).map (fileN nm.data.toList)))) (hq : ∀ k, sv.ownBlock = some k → k < z.heap.size ∧ k ∉ F) =>
          readall_any n₀ z b M F nm.data.toList (segsL nm.data.toList M.L) sv hp HX4.out.ok HG.out hnm (fun n hn => ⟨(mem_segs_file.1 hn).2.1, Option.isSome_iff_exists.1 ((mem_segs_get HX4.out.ok.srt).1 hn).2.2⟩) (by omega) (room_sizes HX4.out.ok HR.out) hs hq)
        obtain ⟨er, LL, MF, hread⟩ : ∃ er LL MF, readSegs nm.data.toList (segsL nm.data.toList M.L) M = (er, LL, MF) := ⟨_, _, _, rfl⟩
        rw [hread] at HRS
        have HRD := Lib.hid hread
        clear hread hml
        go_wp2_with (fail)
        refine HSO.out.mono ?_
        rintro e x2 ⟨sv, rfl, hso, hbs⟩
        have HY2 := Lib.hid (HY1.out.bel hbs)
        have HSV := Lib.hid (hso.low (Nat.zero_le _))
        have HSQ := Lib.hid (show ∀ k, sv.ownBlock = some k → k < x2.heap.size ∧ k ∉ F from fun k hk => ⟨(hso.lt k hk).2, fun hm => by
          have h1 := (hso.lt k hk).1
          have h2 := prog_lt HY1.out.prog k hm
          omega⟩)
        have HB12 := Lib.hid (HBN.out.trans hbs)
        clear hso hbs
        go_wp2_with (fail)
        refine (HRS.out x2 sv HY2.out.prog HSV.out HSQ.out).mono ?_
        rintro e x3 ⟨v, F3, rfl, hp3, hk3, hf3, hq3⟩
        have HP3 := Lib.hid hp3
        have HK3 := Lib.hid (show Keep F w x3 from (HK4.out.then HB12.out).trans hk3 (fun k hk => HF4.out k hk))
        have HF3 := Lib.hid (show ∀ k ∈ F3, k ∈ F ∨ w.heap.size ≤ k from fun k hk => by
          rcases hf3 k hk with h | h
          · exact HF4.out k h
          · exact Or.inr (Nat.le_trans (HK4.out.then HB12.out).size h))
        have HQ3 := Lib.hid (hq3.lower (w' := w) (HK4.out.then HB12.out).size)
        have HJ3 := Lib.hid (HY2.out.j.keep (hk3.block jb HY2.out.j.lt HY2.out.out))
        have HJQ := Lib.hid (show Qb w x3 F3 jb from ⟨HJW.out, Nat.lt_of_lt_of_le HY2.out.j.lt hk3.size, fun hm => by
          rcases hf3 jb hm with h | h
          · exact HY2.out.out h
          · have := HY2.out.j.lt; omega⟩)
        clear hp3 hk3 hf3 hq3
        by_cases her : er = 0
        · subst her
          have HE := Lib.hid (show jopen nm.data.toList M = (0, LL, MF) by rw [HO.out]; exact HRD.out)
          go_wp2_with (fail)
          go_ret3
          rw [HE.out]
          exact ⟨_, _, F3, rfl, HP3.out, HK3.out, HF3.out, HQ3.out, (fun _ => ⟨jb, rfl, HJ3.out, HJQ.out⟩), (fun hc => absurd rfl hc)⟩
        · have HE := Lib.hid (show jopen nm.data.toList M = (er, [], MF) by
            have hl : LL = [] := by
              have := read_err nm.data.toList (segsL nm.data.toList M.L) M (by rw [HRD.out]; exact her)
              rwa [HRD.out] at this
            rw [HO.out, ← hl]; exact HRD.out)
          have hx3 : (er != 0) = true := by rw [bne_iff_ne]; exact her
          have hx2 : (er == 0) = false := by rw [beq_eq_false_iff_ne]; exact her
          go_wp2_with (fail)
          go_ret3
          rw [HE.out]
          exact ⟨_, _, F3, rfl, HP3.out, HK3.out, HF3.out, OwnQ.nil _ _ _, (fun hc => absurd hc her), (fun _ => rfl)⟩
end Go.Proofs.YtlmlcnbgdaiaeaaGreatDoor
/- moultref7's Open. -/
namespace Go.Proofs.YtlmlcnbgdaiaeaaGreatDoor
open Go.RowKit Go.Deep Go.Maps

def RopPost (n₀ : Nat) (w : World) (b : Nat) (F : List Nat) (nm : ByteArray) (most : Int) (M' : RS) (L : List (List (List UInt8))) (err : Int) (e : Ending) (y : World) : Prop :=
  ∃ jv v F', e = .returned (.tuple #[jv, v, .int .i64 err]) ∧ RefP n₀ y b M' F' ∧ Keep F w y ∧ (∀ k ∈ F', k ∈ F ∨ w.heap.size ≤ k) ∧ OwnQ w y F' v L ∧
    (err = 0 → ∃ jb, jv = .pointer (some ⟨jb, 0, none⟩) ∧ JAt y jb b nm most ∧ Qb w y F' jb) ∧ (err ≠ 0 → jv = .pointer none)
def ROpRel (n₀ : Nat) (w3 : World) (b : Nat) (F : List Nat) (jb : Nat) (nm : ByteArray) (most : Int) (l : List Nat) (lv : Value) (M : RS) (ov iv : Value) (x : World) : Prop :=
  ∃ (k : Nat) (acc : List (List (List UInt8))) (Mk : RS) (Fk : List Nat), iv = .int .i64 k ∧ k ≤ l.length ∧ RJS n₀ x b Mk Fk jb nm most ∧ Keep F w3 x ∧ (∀ j ∈ Fk, j ∈ F ∨ w3.heap.size ≤ j) ∧ OwnQ w3 x Fk ov acc ∧ LeftS nm.data.toList l M k acc Mk ∧ acc.length ≤ 1000000 * k ∧
    OwnG intEl 0 x lv (l.map fun n : Nat => (n : Int))
theorem mended_of {nm s : List UInt8} {M : RS} {L : List (List (List UInt8))} {k : Nat} {e rc : Int} {Mc : RS} (hR : readL s = (L, k, e)) (he : e ≠ 0) (hc : cutS nm (k : Nat) M = (rc, Mc)) :
    mendedS nm s M = if rc ≠ 0 then ([], rc, Mc) else if (flushS nm Mc).1 = 0 then (L, 0, (flushS nm Mc).2) else ([], (flushS nm Mc).1, (flushS nm Mc).2) := by
  unfold mendedS mendS
  rw [hR]
  simp only
  rw [if_neg he, hc]
  by_cases hrc : rc = 0
  · subst hrc; simp
  · simp [hrc]
set_option maxHeartbeats 8000000 in
set_option maxRecDepth 20000 in
theorem ropen_any (n₀ : Nat) (w : World) (b : Nat) (M : RS) (F : List Nat) (nm : ByteArray) (most : Int) (h : RefP n₀ w b M F) (hM : M.ok) (hnm : nm.size ≤ 100) (hr : M.room ≤ 1000000) :
    Calls Tryz.prog 20 #[.pointer (some ⟨b, 0, none⟩), .string nm, .int .i64 most] w (RopPost n₀ w b F nm most (jopen nm.data.toList M).2.2 (jopen nm.data.toList M).2.1 (jopen nm.data.toList M).1) := by
  have HP := Lib.hid h
  have HM := Lib.hid hM
  have HFL := Lib.hid (ref_lt h)
  have HR := Lib.hid hr
  have HRA := Lib.hid h
  have hpl : nm.data.toList.length = nm.size := rfl
  clear h hM hr
  cases hN : nameJ nm.data.toList with
  | false =>
    have HO := Lib.hid (show jopen nm.data.toList M = (3, [], M) by unfold jopen; rw [if_pos hN])
    have HNJ := Lib.hid hN; clear hN
    go_enter Tryz.func20, Tryz.ntmps20
    go_wp2_with (fail)
    refine (jnamed_any nm w (by unfold maxLen; omega)).mono ?_
    rintro e w1 ⟨rfl, hd1⟩
    rw [HNJ.out]
    have HB1 := Lib.hid hd1.bel; clear hd1
    go_wp2_with (fail)
    go_ret3
    rw [HO.out]
    exact ⟨_, _, F, rfl, HP.out.bel HB1.out, Keep.of_bel HB1.out F, fun k hk => Or.inl hk, OwnQ.nil _ _ _, (fun hc => absurd hc (by simp)), (fun _ => rfl)⟩
  | true =>
    have HNJ := Lib.hid hN
    have HC3 := Lib.hid (show ∀ x, Bel w x → x.cell? ⟨b, 3, none⟩ = some (.bool M.gone) from fun x hx => by
      obtain ⟨v, hra, -, -, -⟩ := HP.out.bel hx
      exact hra.cells.2.2.2)
    cases hg : M.gone with
    | true =>
      rw [hg] at HC3
      have HO := Lib.hid (show jopen nm.data.toList M = (7, [], M) by unfold jopen; rw [if_neg (by rw [hN]; simp), if_pos hg])
      clear hN
      go_enter Tryz.func20, Tryz.ntmps20
      go_wp2_with (fail)
      refine (jnamed_any nm w (by unfold maxLen; omega)).mono ?_
      rintro e w1 ⟨rfl, hd1⟩
      rw [HNJ.out]
      have HB1 := Lib.hid hd1.bel; clear hd1
      have c3 := HC3.out _ HB1.out
      go_wp2_with (fail)
      go_ret3
      rw [HO.out]
      exact ⟨_, _, F, rfl, HP.out.bel HB1.out, Keep.of_bel HB1.out F, fun k hk => Or.inl hk, OwnQ.nil _ _ _, (fun hc => absurd hc (by simp)), (fun _ => rfl)⟩
    | false =>
      rw [hg] at HC3
      have HO := Lib.hid (show jopen nm.data.toList M = if segsL nm.data.toList M.L = [] then ((jturn nm.data.toList M).1, [], (jturn nm.data.toList M).2) else readSegs nm.data.toList (segsL nm.data.toList M.L) M by
        unfold jopen; rw [if_neg (by rw [hN]; simp), if_neg (by rw [hg]; simp)])
      clear hN
      have HG := Lib.hid hg; clear hg
      have hsl := segs_len nm.data.toList M.L
      have h60 := HM.out.len
      go_enter Tryz.func20, Tryz.ntmps20
      go_wp2_with (fail)
      refine (jnamed_any nm w (by unfold maxLen; omega)).mono ?_
      rintro e w1 ⟨rfl, hd1⟩
      rw [HNJ.out]
      have HB1 := Lib.hid hd1.bel; clear hd1
      have c3 := HC3.out _ HB1.out
      go_wp2_with (fail)
      obtain ⟨jb, hjb⟩ : ∃ jb, jb = w1.heap.size := ⟨_, rfl⟩
      obtain ⟨x0, hx0⟩ : ∃ x0, x0 = w1.alloc (.cells #[.pointer (some ⟨b, 0, none⟩), .string nm, .int .i64 most] 104) := ⟨_, rfl⟩
      have HBX := Lib.hid (show Bel w x0 by rw [hx0]; exact HB1.out.alloc _)
      have HX := Lib.hid (show RJS n₀ x0 b M F jb nm most from
        ⟨HP.out.bel HBX.out, HM.out, by rw [hjb, hx0]; exact ⟨by go_simp, by go_simp, by go_simp⟩, fun hm => by have h1 := HFL.out jb hm; have h2 := HB1.out.size; omega⟩)
      have HJW := Lib.hid (show w.heap.size ≤ jb by rw [hjb]; exact HB1.out.size)
      rw [← hjb, ← hx0]
      clear hx0 hjb c3
      refine (rsegs_any n₀ x0 jb b nm most M F HX.out.ref HX.out.ok HX.out.j hnm).mono ?_
      rintro e w3 ⟨lv, rfl, hown, hb3⟩
      have HX3 := Lib.hid (HX.out.bel hb3)
      have HB3 := Lib.hid (HBX.out.trans hb3)
      have HJL := Lib.hid (show jb < w3.heap.size from HX3.out.j.lt)
      obtain ⟨l, hl⟩ : ∃ l, l = segsL nm.data.toList M.L := ⟨_, rfl⟩
      have HSG := Lib.hid hl
      rw [← hl] at hown hsl HO
      have HLV := Lib.hid (hown.low (Nat.zero_le _))
      have HVB := Lib.hid hown.lt
      have HXS := Lib.hid hb3.size
      have HXF := Lib.hid (ref_lt HX.out.ref)
      obtain ⟨sp, sc, hv⟩ := ownG_len hown
      rw [toZ_len] at hv
      subst hv
      clear hown hb3
      by_cases hs0 : l = []
      · have hll : l.length = 0 := by rw [hs0]; rfl
        have HJT := Lib.hid (show jturn nm.data.toList M = addS (fileN nm.data.toList 1) [] M by unfold jturn; rw [last_zero.2 (by rw [← hl]; exact hs0)])
        rw [if_pos hs0, HJT.out] at HO
        have hfl := file_len nm.data.toList (n := 1) (by omega)
        have hfz := str_len (fileN nm.data.toList 1)
        obtain ⟨rt, M1, ht⟩ : ∃ rt M1, addS (fileN nm.data.toList 1) [] M = (rt, M1) := ⟨_, _, rfl⟩
        have HT := Lib.hid ht
        have HM1 := Lib.hid (show M1.ok by have := add_ok HM.out (fileN nm.data.toList 1) []; rwa [ht] at this)
        rw [ht] at HO
        clear ht hl hs0
        go_wp2_with (fail)
        refine (rj_fileC HX3.out hnm 1 (by omega)).mono ?_
        rintro e w4 ⟨rfl, hb4⟩
        have HX4 := Lib.hid (HX3.out.bel hb4)
        have HB4 := Lib.hid (HB3.out.trans hb4)
        clear hb4
        go_wp2_with (fail)
        refine (radd_any n₀ w4 b M F (⟨(fileN nm.data.toList 1).toArray⟩ : ByteArray) ⟨#[]⟩ (by omega) (by decide) HX4.out.ref HX4.out.ok).mono ?_
        rintro e w5 ⟨rfl, hT⟩
        rw [str_list, show (⟨#[]⟩ : ByteArray).data.toList = [] from rfl, HT.out] at hT ⊢
        obtain ⟨F5, hX5, hK5, hF5⟩ := HX4.out.step hT HM1.out
        have HX5 := Lib.hid hX5
        have HK5 := Lib.hid (show Keep F w w5 from (Keep.of_bel HB4.out F).trans hK5 (fun k hk => Or.inl hk))
        have HF5 := Lib.hid (show ∀ k ∈ F5, k ∈ F ∨ w.heap.size ≤ k from fun k hk => (hF5 k hk).imp id (fun h => Nat.le_trans HB4.out.size h))
        clear hT hX5 hK5 hF5
        by_cases hrt : rt = 0
        · subst hrt
          go_wp2_with (fail)
          go_ret3
          rw [HO.out]
          exact ⟨_, _, F5, rfl, HX5.out.ref, HK5.out, HF5.out, OwnQ.nil _ _ _, (fun _ => ⟨jb, rfl, HX5.out.j, ⟨HJW.out, HX5.out.j.lt, HX5.out.out⟩⟩), (fun hc => absurd rfl hc)⟩
        · have hx3 : (rt != 0) = true := by rw [bne_iff_ne]; exact hrt
          have hx2 : (rt == 0) = false := by rw [beq_eq_false_iff_ne]; exact hrt
          go_wp2_with (fail)
          go_ret3
          rw [HO.out]
          exact ⟨_, _, F5, rfl, HX5.out.ref, HK5.out, HF5.out, OwnQ.nil _ _ _, (fun hc => absurd hc hrt), (fun _ => rfl)⟩
      · have hlp : l.length ≠ 0 := fun e => hs0 (List.length_eq_zero_iff.1 e)
        have hz : ((l.length : Int) == 0) = false := by rw [beq_eq_false_iff_ne]; omega
        rw [if_neg hs0] at HO
        have HL := Lib.hid (show ∀ n ∈ l, n ≤ 9999999 ∧ ∃ y, getF (fileN nm.data.toList n) M.L = some y from fun n hn => by
          rw [hl] at hn
          exact ⟨(mem_segs_file.1 hn).2.1, Option.isSome_iff_exists.1 ((mem_segs_get HM.out.srt).1 hn).2.2⟩)
        have HSZ := Lib.hid (room_sizes HM.out HR.out)
        clear hl hs0 HSG
        go_wp2_with (fail)
        go_loopw [13, 14] (fun ov iv x => ROpRel n₀ w3 b F jb nm most l (.slice sp l.length sc) M ov iv x) (fun _ iv _ => l.length - (intOf iv).toNat)
        case atStart => exact ⟨0, [], M, F, rfl, Nat.zero_le _, HX3.out, Keep.refl _ _, fun j hj => Or.inl hj, OwnQ.nil _ _ _, left_start _ _ _, by simp, HLV.out⟩
        case round =>
          obtain ⟨k, acc, Mk, Fk, rfl, hk, hxk, hkeep, hfk, hoq, hleft, hal, hlv⟩ := hrel
          have HXK := Lib.hid hxk
          have HK := Lib.hid hkeep
          have HFK := Lib.hid hfk
          have HOQ := Lib.hid hoq
          have HLF := Lib.hid hleft
          have HLK := Lib.hid hlv
          obtain ⟨op, oc, hov⟩ := hoq.own.len
          subst hov
          clear hxk hkeep hfk hoq hleft hlv
          by_cases hlt : k < l.length
          · obtain rfl : Mk = M := HLF.out.1 hlt
            have HGS := Lib.hid (show ∃ g, sp = some ⟨g, 0, none⟩ ∧ g < w3.heap.size ∧ g ∉ F from by
              obtain ⟨g, cap, hv, hcap, _, e0⟩ := int_at HLK.out k hlt
              simp only [Value.slice.injEq] at hv
              obtain ⟨rfl, -, -⟩ := hv
              have h1 := HVB.out g rfl
              exact ⟨g, rfl, h1.2, fun hm => by have h2 := HXF.out g hm; have := h1.1; omega⟩)
            obtain ⟨g, hsp, hgw, hgF⟩ := HGS.out
            subst hsp
            have hgk : g ∉ Fk := fun hm => by
              rcases HFK.out g hm with h | h
              · exact hgF h
              · omega
            obtain ⟨g', cap', hv, hcap, _, e0⟩ := int_at HLK.out k hlt
            simp only [Value.slice.injEq, true_and, Option.some.injEq, Addr.mk.injEq, and_true] at hv
            obtain ⟨rfl, rfl⟩ := hv
            obtain ⟨hn9, y, hy⟩ := HL.out l[k] (List.getElem_mem hlt)
            have hyb := HSZ.out y (getF_mem hy)
            have HBY := Lib.hid (bytesOf_get hy)
            have HGT := Lib.hid (show getS (fileN nm.data.toList l[k]) Mk = (y.bytes, 0) by unfold getS; rw [HG.out, hy]; rfl)
            have HWN := Lib.hid (fun L2 (hw : wholeS (bytesOf (fileN nm.data.toList l[k]) Mk) = (L2, 0)) => left_next HLF.out hlt hw)
            have HWF := Lib.hid (fun (hne : k + 1 ≠ l.length) (L2 : List (List (List UInt8))) (e : Int) (he : e ≠ 0) (hw : wholeS (bytesOf (fileN nm.data.toList l[k]) Mk) = (L2, e)) => left_fail HLF.out hlt hne he hw)
            have HWL := Lib.hid (fun (hl : k + 1 = l.length) (L2 : List (List (List UInt8))) (e : Int) (M2 : RS) (hw : mendedS (fileN nm.data.toList l[k]) (bytesOf (fileN nm.data.toList l[k]) Mk) Mk = (L2, e, M2)) => left_last HLF.out hlt hl hw)
            rw [HBY.out] at HWN HWF HWL
            have hfl := file_len nm.data.toList (n := l[k]) (by omega)
            have hfz := str_len (fileN nm.data.toList l[k])
            obtain ⟨n, hn⟩ : ∃ n, n = l[k] := ⟨_, rfl⟩
            rw [← hn] at e0 hn9 HGT HWL hfl hfz
            have HLN0 := Lib.hid hn
            clear hn hy HBY
            have hyz := str_len y.bytes
            obtain ⟨L2, N2, e2, hR⟩ : ∃ L2 N2 e2, readL y.bytes = (L2, N2, e2) := ⟨_, _, _, rfl⟩
            have HRD := Lib.hid hR
            have hrs := read_size y.bytes.length y.bytes (Nat.le_refl _)
            rw [hR] at hrs
            simp only at hrs
            obtain ⟨hrs1, hrs2, -, -⟩ := hrs
            clear hR
            go_wp2_with (fail)
            refine (rj_fileC HXK.out hnm n (by omega)).mono ?_
            rintro e z1 ⟨rfl, hb1⟩
            have HC1 := Lib.hid hb1
            have HY1 := Lib.hid (HXK.out.bel hb1)
            have e1 := cell_later hb1 e0
            clear hb1 e0
            go_wp2_with (fail)
            refine (rget_ref HY1.out.ref HM.out (⟨(fileN nm.data.toList n).toArray⟩ : ByteArray)).mono ?_
            rintro e z2 ⟨rfl, hb2⟩
            rw [str_list, HGT.out]
            have HC2 := Lib.hid (HC1.out.trans hb2)
            clear hb2 e1
            go_wp2_with (fail)
            refine (rread_any (⟨y.bytes.toArray⟩ : ByteArray) z2 (by omega)).mono ?_
            rintro e z3 ⟨bv, rfl, hbo, hb3⟩
            rw [str_list, HRD.out] at hbo ⊢
            have HC3 := Lib.hid (HC2.out.trans hb3)
            have HKZ := Lib.hid (show w3.heap.size ≤ z2.heap.size from Nat.le_trans HK.out.size HC2.out.size)
            have HBQ := Lib.hid ((OwnQ.of hbo (F := Fk) (fun j hj => Nat.lt_of_lt_of_le (ref_lt HXK.out.ref j hj) HC2.out.size)).lower HKZ.out)
            have HOQ3 := Lib.hid (HOQ.out.bel HC3.out)
            have HXZ := Lib.hid (HXK.out.bel HC3.out)
            have HKW := Lib.hid (show Keep F w3 z3 from HK.out.then HC3.out)
            have HLZ := Lib.hid (HLK.out.bel HC3.out)
            clear hbo hb3
            go_wp2_with (at_builtin; refine stop_here ?_)
            refine go_on ?_
            refine ownq_append rfl _ _ rfl rfl rfl HOQ3.out HBQ.out (by omega) (ref_lt HXZ.out.ref) HKW.out.size ?_
            intro v3 z4 hq3 hk3
            obtain ⟨p3, c3, hv3⟩ := hq3.own.len
            rw [List.length_append] at hv3
            subst hv3
            have HQ4 := Lib.hid hq3
            have HX4 := Lib.hid (show RJS n₀ z4 b Mk Fk jb nm most from ⟨HXZ.out.ref.keep hk3 (fun j hj hm => by
              rw [Option.mem_toList] at hm
              exact (HOQ3.out.blk j hm).2.2 hj), HM.out, HXZ.out.j.keep (hk3.block jb HXZ.out.j.lt (fun hm => by
              rw [Option.mem_toList] at hm
              have := (HOQ3.out.blk _ hm).1
              have := HJL.out; omega)), HXZ.out.out⟩)
            have HK4 := Lib.hid (HKW.out.trans hk3 (fun j hj => by
              rw [Option.mem_toList] at hj
              exact Or.inr (HOQ3.out.blk j hj).1))
            have HL4 := Lib.hid (HLZ.out.keep hk3 (fun j hj hm => by
              simp only [Value.ownBlock, Option.some.injEq] at hj; subst hj
              rw [Option.mem_toList] at hm
              have := (HOQ3.out.blk _ hm).1
              omega))
            clear hq3 hk3
            by_cases he : e2 = 0
            · subst he
              have HLN := Lib.hid (HWN.out L2 (by unfold wholeS; rw [HRD.out]; rfl))
              clear hpl hfz hyz hfl hcap
              go_wp2_with (fail)
              go_roundw
              case rel => exact ⟨k + 1, acc ++ L2, Mk, Fk, by go_num, by omega, HX4.out, HK4.out, HFK.out, HQ4.out, HLN.out, by rw [List.length_append]; omega, HL4.out⟩
              case measure => simp [intOf]; omega
            · have hx3 : (e2 != 0) = true := by rw [bne_iff_ne]; exact he
              have hx2 : (e2 == 0) = false := by rw [beq_eq_false_iff_ne]; exact he
              by_cases hlast : k + 1 = l.length
              · have hq : (l.length : Int) - 1 ≤ (k : Int) := by omega
                obtain ⟨rc, Mc, hc⟩ : ∃ rc Mc, cutS (fileN nm.data.toList n) (N2 : Nat) Mk = (rc, Mc) := ⟨_, _, rfl⟩
                have HMO := Lib.hid (mended_of HRD.out he hc)
                have HCT := Lib.hid hc
                have HMC := Lib.hid (show Mc.ok by have := cut_ok HM.out (fileN nm.data.toList n) (N2 : Nat); rwa [hc] at this)
                clear hc
                obtain ⟨g', cap', hv, hcap, _, e4⟩ := int_at HL4.out k hlt
                simp only [Value.slice.injEq, true_and, Option.some.injEq, Addr.mk.injEq, and_true] at hv
                obtain ⟨rfl, rfl⟩ := hv
                rw [← HLN0.out] at e4
                go_wp2_with (fail)
                refine (rj_fileC HX4.out hnm n (by omega)).mono ?_
                rintro e z5 ⟨rfl, hb5⟩
                have HX5 := Lib.hid (HX4.out.bel hb5)
                have HK5 := Lib.hid (HK4.out.then hb5)
                have HL5 := Lib.hid (HL4.out.bel hb5)
                have HQ5 := Lib.hid (HQ4.out.bel hb5)
                clear hb5 e4
                go_wp2_with (fail)
                refine (rcut_any n₀ z5 b Mk Fk (⟨(fileN nm.data.toList n).toArray⟩ : ByteArray) (N2 : Int) (show in64 (N2 : Int) from ⟨by omega, by omega⟩) HX5.out.ref HM.out).mono ?_
                rintro e z6 ⟨rfl, hT⟩
                rw [str_list, HCT.out] at hT ⊢
                obtain ⟨F6, hX6, hK6, hF6⟩ := HX5.out.step hT HMC.out
                have HX6 := Lib.hid hX6
                have HQ6 := Lib.hid (HQ5.out.step hK6 hF6)
                have HL6 := Lib.hid (HL5.out.keep hK6 (fun j hj => by simp only [Value.ownBlock, Option.some.injEq] at hj; subst hj; exact hgk))
                have HK6 := Lib.hid (HK5.out.trans hK6 (fun j hj => HFK.out j hj))
                have HF6 := Lib.hid (show ∀ j ∈ F6, j ∈ F ∨ w3.heap.size ≤ j from fun j hj => by
                  rcases hF6 j hj with h | h
                  · exact HFK.out j h
                  · exact Or.inr (Nat.le_trans HK5.out.size h))
                have hgk6 : g ∉ F6 := fun hm => by
                  rcases HF6.out g hm with h | h
                  · exact hgF h
                  · omega
                clear hT hX6 hK6 hF6
                by_cases hrc : rc = 0
                · subst hrc
                  rw [if_neg (by simp)] at HMO
                  obtain ⟨rf, Mf, hf⟩ : ∃ rf Mf, flushS (fileN nm.data.toList n) Mc = (rf, Mf) := ⟨_, _, rfl⟩
                  have HFT := Lib.hid hf
                  have HMF := Lib.hid (show Mf.ok by have := flush_ok HMC.out (fileN nm.data.toList n); rwa [hf] at this)
                  rw [hf] at HMO
                  clear hf
                  obtain ⟨g', cap', hv, hcap, _, e6⟩ := int_at HL6.out k hlt
                  simp only [Value.slice.injEq, true_and, Option.some.injEq, Addr.mk.injEq, and_true] at hv
                  obtain ⟨rfl, rfl⟩ := hv
                  rw [← HLN0.out] at e6
                  go_wp2_with (fail)
                  refine (rj_fileC HX6.out hnm n (by omega)).mono ?_
                  rintro e z7 ⟨rfl, hb7⟩
                  have HX7 := Lib.hid (HX6.out.bel hb7)
                  have HK7 := Lib.hid (HK6.out.then hb7)
                  have HL7 := Lib.hid (HL6.out.bel hb7)
                  have HQ7 := Lib.hid (HQ6.out.bel hb7)
                  clear hb7 e6
                  go_wp2_with (fail)
                  refine (rflush_any n₀ z7 b Mc F6 (⟨(fileN nm.data.toList n).toArray⟩ : ByteArray) HX7.out.ref HMC.out).mono ?_
                  rintro e z8 ⟨rfl, hT⟩
                  rw [str_list, HFT.out] at hT ⊢
                  obtain ⟨F8, hX8, hK8, hF8⟩ := HX7.out.step hT HMF.out
                  have HX8 := Lib.hid hX8
                  have HQ8 := Lib.hid (HQ7.out.step hK8 hF8)
                  have HL8 := Lib.hid (HL7.out.keep hK8 (fun j hj => by simp only [Value.ownBlock, Option.some.injEq] at hj; subst hj; exact hgk6))
                  have HK8 := Lib.hid (HK7.out.trans hK8 (fun j hj => HF6.out j hj))
                  have HF8 := Lib.hid (show ∀ j ∈ F8, j ∈ F ∨ w3.heap.size ≤ j from fun j hj => by
                    rcases hF8 j hj with h | h
                    · exact HF6.out j h
                    · exact Or.inr (Nat.le_trans HK7.out.size h))
                  clear hT hX8 hK8 hF8
                  by_cases hrf : rf = 0
                  · subst hrf
                    simp only [if_true] at HMO
                    have HLL := Lib.hid ((HWL.out hlast L2 0 Mf HMO.out).1 rfl)
                    have HLS := Lib.hid hlast
                    clear hpl hfz hyz hfl hcap hlast
                    go_wp2_with (fail)
                    go_roundw
                    case rel => exact ⟨k + 1, acc ++ L2, Mf, F8, by go_num, by omega, HX8.out, HK8.out, HF8.out, HQ8.out, HLL.out, by rw [List.length_append]; omega, HL8.out⟩
                    case measure => simp [intOf]; omega
                  · rw [if_neg hrf] at HMO
                    have HE := Lib.hid ((HWL.out hlast [] rf Mf HMO.out).2 hrf)
                    have hx5 : (rf != 0) = true := by rw [bne_iff_ne]; exact hrf
                    have hx6 : (rf == 0) = false := by rw [beq_eq_false_iff_ne]; exact hrf
                    go_wp2_with (fail)
                    go_ret3
                    rw [HO.out, HE.out]
                    exact ⟨_, _, F8, rfl, HX8.out.ref, (Keep.of_bel HB3.out F).trans HK8.out (fun x hx => Or.inl hx), fun j hj => (HF8.out j hj).imp id (fun h => Nat.le_trans HB3.out.size h), OwnQ.nil _ _ _, (fun hc => absurd hc hrf), (fun _ => rfl)⟩
                · rw [if_pos hrc] at HMO
                  have HE := Lib.hid ((HWL.out hlast [] rc Mc HMO.out).2 hrc)
                  have hx5 : (rc != 0) = true := by rw [bne_iff_ne]; exact hrc
                  have hx6 : (rc == 0) = false := by rw [beq_eq_false_iff_ne]; exact hrc
                  go_wp2_with (fail)
                  go_ret3
                  rw [HO.out, HE.out]
                  exact ⟨_, _, F6, rfl, HX6.out.ref, (Keep.of_bel HB3.out F).trans HK6.out (fun x hx => Or.inl hx), fun j hj => (HF6.out j hj).imp id (fun h => Nat.le_trans HB3.out.size h), OwnQ.nil _ _ _, (fun hc => absurd hc hrc), (fun _ => rfl)⟩
              · have HE := Lib.hid (HWF.out hlast [] e2 he (by unfold wholeS; rw [HRD.out]; simp only; rw [if_neg he]))
                have hq : (k : Int) < (l.length : Int) - 1 := by omega
                go_wp2_with (fail)
                go_ret3
                rw [HO.out, HE.out]
                exact ⟨_, _, Fk, rfl, HX4.out.ref, (Keep.of_bel HB3.out F).trans HK4.out (fun x hx => Or.inl hx), fun j hj => (HFK.out j hj).imp id (fun h => Nat.le_trans HB3.out.size h), OwnQ.nil _ _ _, (fun hc => absurd hc he), (fun _ => rfl)⟩
          · obtain rfl : k = l.length := by omega
            have HE := Lib.hid (left_end HLF.out)
            go_wp2_with (fail)
            go_ret3
            rw [HO.out, HE.out]
            exact ⟨_, _, Fk, rfl, HXK.out.ref, (Keep.of_bel HB3.out F).trans HK.out (fun x hx => Or.inl hx), fun j hj => (HFK.out j hj).imp id (fun h => Nat.le_trans HB3.out.size h), HOQ.out.lower HB3.out.size,
              (fun _ => ⟨jb, rfl, HXK.out.j, ⟨HJW.out, HXK.out.j.lt, HXK.out.out⟩⟩), (fun hc => absurd rfl hc)⟩
end Go.Proofs.YtlmlcnbgdaiaeaaGreatDoor
