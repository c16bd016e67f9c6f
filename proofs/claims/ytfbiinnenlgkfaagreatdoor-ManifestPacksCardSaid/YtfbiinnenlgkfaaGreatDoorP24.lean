/- JSegs, JRSegs, JTurn, JRTurn, JWrite, JTrim, JRTrim, JOpen, JROpen, JRWrite, JHold, JSame, JShown, JAct, JWM, JBegin, JDoes, JInv, NMod, NShM, NPLast, NPM, NPSet, NPOpen, NPSta, NShown, NAct, laid together. -/
import Derived.Test.YtfbiinnenlgkfaaGreatDoorP23
import Derived.Test.YtfbiinnenlgkfaaGreatDoorP16
import Derived.Sort.OwnSortedInts
import Derived.Test.YtfbiinnenlgkfaaGreatDoorP2
import Derived.Test.YtfbiinnenlgkfaaGreatDoorP25
import Derived.Test.YtfbiinnenlgkfaaGreatDoorP9
import Derived.Test.YtfbiinnenlgkfaaGreatDoorP5
import Derived.Deep.RegionHeld
set_option linter.unusedSimpArgs false
set_option linter.unusedVariables false
/- journal's Segments, Number, names. -/
namespace Go.Proofs.YtfbiinnenlgkfaaGreatDoor
open Go.RowKit Go.Deep Go.Maps

def intEl : El Int := ⟨3, 52, 1, fun i => [.int .i64 i]⟩
theorem intOk : ElOk intEl 8 := ⟨fun _ => rfl, fun a u hu => by simp [intEl] at hu; subst hu; rfl, by kernel_rfl, ⟨.int .i64 0, by kernel_rfl, rfl⟩, by decide⟩
theorem intAll (l : List Int) : intEl.all l = l.map (Value.int .i64) := by
  induction l with
  | nil => rfl
  | cons x l ih => simp only [El.all, List.flatMap_cons, List.map_cons] at *; rw [ih]; rfl
theorem sort_own {B : Nat} {w : World} {v : Value} {l : List Int} (h : OwnG intEl B w v l) (hB : B ≤ w.heap.size) (hl : l.length ≤ 1000) :
    Calls Tryz.prog 122 #[v] w fun e w' => e = .returned (.tuple #[]) ∧ OwnG intEl B w' v (l.mergeSort fun x y => decide (x ≤ y)) ∧ Below B w w' := by
  obtain ⟨h1, h2⟩ := h
  rcases h2 with ⟨rfl, h0⟩ | ⟨g, cap, cur, rfl, hg, hh, hc, hx, hsz, htk⟩
  · obtain rfl : l = [] := List.length_eq_zero_iff.1 h0
    refine (Any.slices_Sort_int_none Tryz.lays189 none 0 w).mono ?_
    rintro e w' ⟨rfl, rfl⟩
    exact ⟨rfl, by rw [List.mergeSort_nil]; exact OwnG.nil _ _ _, Below.refl _ _⟩
  · have hgs : g < w.heap.size := (Array.getElem?_eq_some_iff.1 hh).1
    have ht : cur.toList.take l.length = l.map (Value.int .i64) := by
      rw [show intEl.n = 1 from rfl, Nat.mul_one] at htk; rw [← intAll]; exact htk
    have hlen : (l.mergeSort fun x y => decide (x ≤ y)).length = l.length := List.length_mergeSort _
    refine (Any.slices_Sort_int Tryz.lays189 g 0 cap l w (holds_of_blockI hh ht) hgs (by omega)).mono ?_
    rintro e w' ⟨rfl, n, os, rfl⟩
    refine ⟨rfl, ?_, ?_⟩
    · have := ownsRow_sortedI (n := n) (os := os) (ts := l.mergeSort fun x y => decide (x ≤ y)) hlen hg hh hc hx (by rw [hsz]; rfl)
      unfold OwnG
      rw [intAll, hlen]
      exact this
    · exact (Below.refl B w).grown (grownBy_sortedI _) hB (fun k hk => by simp at hk; omega)

def SgRel (p : List UInt8) (L : List FI) (w1 : World) (lv iv : Value) (x : World) : Prop :=
  ∃ k : Nat, iv = .int .i64 k ∧ k ≤ L.length ∧ OwnG intEl w1.heap.size x lv ((colL p (L.take k)).map fun n : Nat => (n : Int)) ∧ Bel w1 x
theorem col_snoc (p : List UInt8) (L : List FI) (k : Nat) (h : k < L.length) : colL p (L.take (k + 1)) = if segN p L[k].name = 0 then colL p (L.take k) else colL p (L.take k) ++ [segN p L[k].name] := by
  rw [List.take_add_one, List.getElem?_eq_getElem h]
  exact col_step p _ _
theorem col_len (p : List UInt8) (L : List FI) : (colL p L).length ≤ L.length := by
  unfold colL
  exact Nat.le_trans (List.length_filter_le _ _) (by simp)
set_option maxHeartbeats 4000000 in
theorem segs_any (n₀ : Nat) (w : World) (jb b : Nat) (p : ByteArray) (most : Int) (M : RS) (F : List Nat) (h : ProgAt n₀ w b M F) (hM : M.ok) (hj : JAt w jb b p most) (hp : p.size ≤ 100) (hstd : Std w) :
    Calls Tryz.prog 89 #[.pointer (some ⟨jb, 0, none⟩)] w fun e w' => ∃ v, e = .returned v ∧ OwnG intEl w.heap.size w' v ((segsL p.data.toList M.L).map fun n : Nat => (n : Int)) ∧ Bel w w' := by
  have HS := Lib.hid hstd; clear hstd
  have HJ := Lib.hid hj
  have c0 := hj.files
  have HP := Lib.hid h
  have HM := Lib.hid hM
  have h60 := hM.len
  clear hj h hM
  go_enter Tryz.func89, Tryz.ntmps89
  go_wp2_with (fail)
  refine (pnames_any n₀ w b M F HP.out HM.out.srt (good_len HM.out)).mono ?_
  rintro e w1 ⟨v, rfl, hnm, hb1⟩
  have HNM := Lib.hid hnm
  have HB1 := Lib.hid hb1
  obtain ⟨np, ncap, hnv⟩ := ownG_len hnm
  rw [List.length_map] at hnv
  subst hnv
  clear hnm hb1
  go_wp2_with (fail)
  go_loopw [3, 19] (fun lv iv x => SgRel p.data.toList M.L w1 lv iv x) (fun _ iv _ => M.L.length - (intOf iv).toNat)
  case atStart => exact ⟨0, rfl, Nat.zero_le _, OwnG.nil _ _ _, Bel.refl _⟩
  case round =>
    obtain ⟨k, rfl, hk, hown, hb⟩ := hrel
    have HB := Lib.hid hb
    have HV := Lib.hid hown
    obtain ⟨lp, lc, hlv⟩ := ownG_len hown
    rw [List.length_map] at hlv
    subst hlv
    clear hown hb
    by_cases hlt : k < M.L.length
    · have hne : M.L.map (·.name) ≠ [] := by intro e; rw [List.map_eq_nil_iff] at e; rw [e] at hlt; simp at hlt
      obtain ⟨g, ncap', hv, _, hgl, _, hcs⟩ := ownG_cells strOk (HNM.out.bel HB.out) hne
      rw [List.length_map] at hv
      simp only [Value.slice.injEq, true_and] at hv
      obtain ⟨rfl, rfl⟩ := hv
      have e0 := hcs k M.L[k].name (by rw [List.getElem?_map, List.getElem?_eq_getElem hlt]; rfl) 0 _ rfl
      have hcn := col_snoc p.data.toList M.L k hlt
      have hyn := name_len (HM.out.each M.L[k] (List.getElem_mem hlt)).1
      obtain ⟨y, hy⟩ : ∃ y, y = M.L[k] := ⟨_, rfl⟩
      rw [← hy] at e0 hcn hyn
      simp only [strEl, Nat.mul_one, Nat.add_zero] at e0
      have hsz := str_len y.name
      have HSL := Lib.hid (str_list y.name)
      have HCN := Lib.hid hcn
      clear hy hcs hne hcn
      have hcl := col_len p.data.toList (M.L.take k)
      have hcl2 : (M.L.take k).length ≤ k := by rw [List.length_take]; omega
      by_cases h0 : segN p.data.toList y.name = 0
      · have HN := Lib.hid (numV_none (p := p.data.toList) (nm := (⟨y.name.toArray⟩ : ByteArray).data.toList) (by rw [HSL.out]; exact h0))
        have HCE := Lib.hid (show colL p.data.toList (M.L.take (k + 1)) = colL p.data.toList (M.L.take k) by rw [HCN.out, if_pos h0])
        clear hcl hcl2 h0
        go_wp2_with (fail)
        refine (jnumber_any _ jb b p most ⟨y.name.toArray⟩ (HJ.out.bel (HB1.out.trans HB.out)) hp (by omega) (HS.out.bel (HB1.out.trans HB.out))).mono ?_
        rintro e w2 ⟨rfl, hb2⟩
        rw [HN.out]
        have HB2 := Lib.hid (HB.out.trans hb2)
        have HV2 := Lib.hid (HV.out.bel hb2)
        clear hb2
        go_wp2_with (fail)
        go_roundw
        case rel => exact ⟨k + 1, by go_num, by omega, by rw [HCE.out]; exact HV2.out, HB2.out⟩
        case measure => simp [intOf]; omega
      · obtain ⟨n, hn⟩ : ∃ n, n = segN p.data.toList y.name := ⟨_, rfl⟩
        have HN := Lib.hid (numV_some (p := p.data.toList) (nm := (⟨y.name.toArray⟩ : ByteArray).data.toList) (n := n) (by rw [HSL.out]; exact hn.symm) (by omega))
        have HCE := Lib.hid (show (colL p.data.toList (M.L.take (k + 1))).map (fun n : Nat => (n : Int)) = (colL p.data.toList (M.L.take k)).map (fun n : Nat => (n : Int)) ++ [(n : Int)] by rw [HCN.out, if_neg h0, ← hn]; simp)
        have hml : ((colL p.data.toList (M.L.take k)).map fun n : Nat => (n : Int)).length ≤ 60 := by rw [List.length_map]; omega
        clear hcl hcl2 h0 hn
        go_wp2_with (fail)
        refine (jnumber_any _ jb b p most ⟨y.name.toArray⟩ (HJ.out.bel (HB1.out.trans HB.out)) hp (by omega) (HS.out.bel (HB1.out.trans HB.out))).mono ?_
        rintro e w2 ⟨rfl, hb2⟩
        rw [HN.out]
        have HB2 := Lib.hid (HB.out.trans hb2)
        have HV2 := Lib.hid (HV.out.bel hb2)
        clear hb2
        go_wp2_with (at_builtin; refine stop_here ?_)
        refine go_on ?_
        refine append_glit (L := (colL p.data.toList (M.L.take k)).map fun n : Nat => (n : Int)) intOk rfl _ _ rfl rfl HV2.out _ _ _ [(n : Int)] rfl rfl rfl (by unfold maxLen; simp only [List.length_singleton]; omega) (by simp only [List.length_singleton]; omega) HB2.out.size (Or.inl rfl) ?_
        intro v3 w3 hown3 hb3 hZ3
        obtain ⟨p3, c3, hv3⟩ := ownG_len hown3
        rw [List.length_append, List.length_map, List.length_singleton] at hv3
        subst hv3
        have HV3 := Lib.hid hown3
        have HB3 := Lib.hid (HB2.out.trans_below hb3)
        clear hown3 hb3
        go_wp2_with (fail)
        go_roundw
        case rel => exact ⟨k + 1, by go_num, by omega, by rw [HCE.out]; exact HV3.out, HB3.out⟩
        case measure => simp [intOf]; omega
    · obtain rfl : k = M.L.length := by omega
      have hv1 := HV.out
      rw [List.take_length] at hv1
      have HSO := Lib.hid (sort_own hv1 HB.out.size (by rw [List.length_map]; have := col_len p.data.toList M.L; omega))
      rw [List.take_length] at *
      clear hv1
      go_wp2_with (fail)
      refine HSO.out.mono ?_
      rintro e w2 ⟨rfl, hown2, hb2⟩
      rw [segs_merge] at hown2
      have HB2 := Lib.hid (HB.out.trans_below hb2)
      have HV2 := Lib.hid hown2
      clear hown2 hb2
      go_wp2_with (fail)
      go_ret
      exact ⟨_, rfl, HV2.out.low HB1.out.size, HB1.out.trans HB2.out⟩
def NbRel (l : List Nat) (w1 : World) (nv iv : Value) (x : World) : Prop :=
  ∃ k : Nat, iv = .int .i64 k ∧ k ≤ l.length ∧ nv = .int .i64 ((l.take k).getLast?.getD 0 : Nat) ∧ Bel w1 x
theorem last_take (l : List Nat) (k : Nat) (h : k < l.length) : (l.take (k + 1)).getLast?.getD 0 = l[k] := by
  rw [List.take_add_one, List.getElem?_eq_getElem h, Option.toList_some, List.getLast?_concat]; rfl
theorem int_at {B : Nat} {x : World} {v : Value} {l : List Nat} (h : OwnG intEl B x v (l.map fun n : Nat => (n : Int))) (k : Nat) (hk : k < l.length) : ∃ g cap, v = .slice (some ⟨g, 0, none⟩) l.length cap ∧ l.length ≤ cap ∧ B ≤ g ∧ x.cell? ⟨g, k, none⟩ = some (.int .i64 (l[k] : Nat)) := by
  have hne : l.map (fun n : Nat => (n : Int)) ≠ [] := by intro e; rw [List.map_eq_nil_iff] at e; rw [e] at hk; simp at hk
  obtain ⟨g, cap, rfl, hg, _, hgl, hcs⟩ := ownG_cells intOk h hne
  rw [List.length_map] at hgl
  refine ⟨g, cap, by rw [List.length_map], hgl, hg, ?_⟩
  have := hcs k (l[k] : Int) (by rw [List.getElem?_map, List.getElem?_eq_getElem hk]; rfl) 0 _ rfl
  simpa [intEl] using this
set_option maxHeartbeats 4000000 in
theorem num_any (n₀ : Nat) (w : World) (jb b : Nat) (p : ByteArray) (most : Int) (M : RS) (F : List Nat) (h : ProgAt n₀ w b M F) (hM : M.ok) (hj : JAt w jb b p most) (hp : p.size ≤ 100) (hstd : Std w) :
    Calls Tryz.prog 54 #[.pointer (some ⟨jb, 0, none⟩)] w fun e w' => e = .returned (.int .i64 (lastN p.data.toList M.L : Nat)) ∧ Bel w w' := by
  have HC := Lib.hid (segs_any n₀ w jb b p most M F h hM hj hp hstd)
  have hsl := segs_len p.data.toList M.L
  have h60 := hM.len
  obtain ⟨l, hl⟩ : ∃ l, l = segsL p.data.toList M.L := ⟨_, rfl⟩
  have HLN := Lib.hid (show lastN p.data.toList M.L = l.getLast?.getD 0 by rw [hl]; rfl)
  rw [← hl] at HC hsl
  clear hl hj h hM hstd
  go_enter Tryz.func54, Tryz.ntmps54
  go_wp2_with (fail)
  refine HC.out.mono ?_
  rintro e w1 ⟨v, rfl, hown, hb1⟩
  have HV := Lib.hid hown
  have HB1 := Lib.hid hb1
  obtain ⟨sp, sc, hv⟩ := ownG_len hown
  rw [List.length_map] at hv
  subst hv
  clear hown hb1
  go_wp2_with (fail)
  go_loopw [3, 9] (fun nv iv x => NbRel l w1 nv iv x) (fun _ iv _ => l.length - (intOf iv).toNat)
  case atStart => exact ⟨0, rfl, Nat.zero_le _, rfl, Bel.refl _⟩
  case round =>
    obtain ⟨k, rfl, hk, rfl, hb⟩ := hrel
    have HB := Lib.hid hb; clear hb
    by_cases hlt : k < l.length
    · obtain ⟨g, cap, hv, hcap, _, e0⟩ := int_at (HV.out.bel HB.out) k hlt
      simp only [Value.slice.injEq, true_and] at hv
      obtain ⟨rfl, rfl⟩ := hv
      have HLT := Lib.hid (last_take l k hlt)
      obtain ⟨m, hm⟩ : ∃ m, m = l[k] := ⟨_, rfl⟩
      rw [← hm] at e0 HLT
      clear hm
      go_wp2_with (fail)
      go_roundw
      case rel => exact ⟨k + 1, by go_num, by omega, by rw [HLT.out], HB.out⟩
      case measure => simp [intOf]; omega
    · obtain rfl : k = l.length := by omega
      go_wp2_with (fail)
      go_ret
      exact ⟨by rw [HLN.out, List.take_length]; rfl, HB1.out.trans HB.out⟩
def NsRel (p : List UInt8) (l : List Nat) (w1 : World) (lv iv : Value) (x : World) : Prop :=
  ∃ k : Nat, iv = .int .i64 k ∧ k ≤ l.length ∧ OwnG strEl w1.heap.size x lv ((l.take k).map (fileN p)) ∧ Bel w1 x
set_option maxHeartbeats 4000000 in
theorem jnames_any (n₀ : Nat) (w : World) (jb b : Nat) (p : ByteArray) (most : Int) (M : RS) (F : List Nat) (h : ProgAt n₀ w b M F) (hM : M.ok) (hj : JAt w jb b p most) (hp : p.size ≤ 100) (hstd : Std w) :
    Calls Tryz.prog 96 #[.pointer (some ⟨jb, 0, none⟩)] w fun e w' => ∃ v, e = .returned v ∧ OwnG strEl w.heap.size w' v ((segsL p.data.toList M.L).map (fileN p.data.toList)) ∧ Bel w w' := by
  have HC := Lib.hid (segs_any n₀ w jb b p most M F h hM hj hp hstd)
  have hsl := segs_len p.data.toList M.L
  have h60 := hM.len
  obtain ⟨l, hl⟩ : ∃ l, l = segsL p.data.toList M.L := ⟨_, rfl⟩
  have HLE := Lib.hid (show ∀ n ∈ l, n ≤ 9999999 from fun n hn => by rw [hl] at hn; exact (mem_segs_file.1 hn).2.1)
  rw [← hl] at HC hsl ⊢
  have HS := Lib.hid hstd
  have HJ := Lib.hid hj
  clear hl hj h hM hstd
  go_enter Tryz.func96, Tryz.ntmps96
  go_wp2_with (fail)
  refine HC.out.mono ?_
  rintro e w1 ⟨v, rfl, hown, hb1⟩
  have HV := Lib.hid hown
  have HB1 := Lib.hid hb1
  obtain ⟨sp, sc, hv⟩ := ownG_len hown
  rw [List.length_map] at hv
  subst hv
  clear hown hb1
  go_wp2_with (fail)
  go_loopw [3, 9] (fun lv iv x => NsRel p.data.toList l w1 lv iv x) (fun _ iv _ => l.length - (intOf iv).toNat)
  case atStart => exact ⟨0, rfl, Nat.zero_le _, OwnG.nil _ _ _, Bel.refl _⟩
  case round =>
    obtain ⟨k, rfl, hk, hown, hb⟩ := hrel
    have HB := Lib.hid hb
    have HL := Lib.hid hown
    obtain ⟨lp, lc, hlv⟩ := ownG_len hown
    rw [List.length_map, List.length_take, Nat.min_eq_left hk] at hlv
    subst hlv
    clear hown hb
    by_cases hlt : k < l.length
    · obtain ⟨g, cap, hv, hcap, _, e0⟩ := int_at (HV.out.bel HB.out) k hlt
      simp only [Value.slice.injEq, true_and] at hv
      obtain ⟨rfl, rfl⟩ := hv
      have HLT := Lib.hid (show (l.take (k + 1)).map (fileN p.data.toList) = (l.take k).map (fileN p.data.toList) ++ [fileN p.data.toList l[k]] by
        rw [List.take_add_one, List.getElem?_eq_getElem hlt, List.map_append]; rfl)
      have hm9 := HLE.out l[k] (List.getElem_mem hlt)
      obtain ⟨m, hm⟩ : ∃ m, m = l[k] := ⟨_, rfl⟩
      rw [← hm] at e0 HLT hm9
      clear hm
      have hml : ((l.take k).map (fileN p.data.toList)).length ≤ 60 := by rw [List.length_map, List.length_take]; omega
      have hml2 : ((l.take k).map (fileN p.data.toList)).length = k := by rw [List.length_map, List.length_take]; omega
      go_wp2_with (fail)
      refine (file_any _ jb b p most m (HJ.out.bel (HB1.out.trans HB.out)) hp (by omega) (HS.out.bel (HB1.out.trans HB.out))).mono ?_
      rintro e w2 ⟨rfl, hb2⟩
      have HB2 := Lib.hid (HB.out.trans hb2)
      have HL2 := Lib.hid (HL.out.bel hb2)
      clear hb2
      go_wp2_with (at_builtin; refine stop_here ?_)
      refine go_on ?_
      refine append_glit (L := (l.take k).map (fileN p.data.toList)) strOk rfl _ _ rfl rfl HL2.out _ _ _ [fileN p.data.toList m] rfl rfl rfl (by unfold maxLen; simp only [List.length_singleton]; omega) (by simp only [List.length_singleton]; omega) HB2.out.size (Or.inl rfl) ?_
      intro v3 w3 hown3 hb3 hZ3
      obtain ⟨p3, c3, hv3⟩ := ownG_len hown3
      rw [List.length_append, hml2] at hv3
      subst hv3
      have HV3 := Lib.hid hown3
      have HB3 := Lib.hid (HB2.out.trans_below hb3)
      clear hown3 hb3
      go_wp2_with (fail)
      go_roundw
      case rel => exact ⟨k + 1, by go_num, by omega, by rw [HLT.out]; exact HV3.out, HB3.out⟩
      case measure => simp [intOf]; omega
    · obtain rfl : k = l.length := by omega
      go_wp2_with (fail)
      go_ret
      have := HL.out
      rw [List.take_length] at this
      exact ⟨_, rfl, this.low HB1.out.size, HB1.out.trans HB.out⟩
end Go.Proofs.YtfbiinnenlgkfaaGreatDoor
/- moultref7's Segments and Number. -/
namespace Go.Proofs.YtfbiinnenlgkfaaGreatDoor
open Go.RowKit Go.Deep Go.Maps

end Go.Proofs.YtfbiinnenlgkfaaGreatDoor
/- journal's Turn, withRoom, Write. -/
namespace Go.Proofs.YtfbiinnenlgkfaaGreatDoor
open Go.RowKit Go.Deep Go.Maps

structure JS (n₀ : Nat) (w : World) (b : Nat) (M : RS) (F : List Nat) (jb : Nat) (p : ByteArray) (most : Int) : Prop where
  prog : ProgAt n₀ w b M F
  ok : M.ok
  j : JAt w jb b p most
  out : jb ∉ F
  std : ∀ z, Keep F w z → Std z
section
variable {n₀ : Nat} {w x y : World} {b jb : Nat} {M M1 M2 : RS} {F F1 : List Nat} {p : ByteArray} {most : Int}
theorem JS.std0 (h : JS n₀ w b M F jb p most) : Std w := h.std w (Keep.refl _ _)
theorem JS.bel (h : JS n₀ w b M F jb p most) (hb : Bel w x) : JS n₀ x b M F jb p most :=
  ⟨h.prog.bel hb, h.ok, h.j.bel hb, h.out, fun z hz => h.std z ((Keep.of_bel hb F).trans hz (fun k hk => Or.inl hk))⟩
theorem JS.step (h : JS n₀ w b M F jb p most) (hT : ProgTo n₀ w x b M1 F) (hM : M1.ok) : ∃ F1, JS n₀ x b M1 F1 jb p most ∧ Keep F w x ∧ (∀ k ∈ F1, k ∈ F ∨ w.heap.size ≤ k) := by
  obtain ⟨F1, h1, h2, h3⟩ := hT
  refine ⟨F1, ⟨h1, hM, h.j.keep (h2.block jb h.j.lt h.out), fun hm => ?_, fun z hz => h.std z (h2.trans hz h3)⟩, h2, h3⟩
  rcases h3 jb hm with h4 | h4
  · exact h.out h4
  · have := h.j.lt; omega
theorem to_then (hk : Keep F w x) (hF : ∀ k ∈ F1, k ∈ F ∨ w.heap.size ≤ k) (h2 : ProgTo n₀ x y b M2 F1) : ProgTo n₀ w y b M2 F := by
  obtain ⟨F2, q1, q2, q3⟩ := h2
  refine ⟨F2, q1, hk.trans q2 hF, fun k hm => ?_⟩
  rcases q3 k hm with h | h
  · exact hF k h
  · exact Or.inr (Nat.le_trans hk.size h)
end

set_option maxHeartbeats 4000000 in
set_option maxRecDepth 20000 in
theorem jturn_any (n₀ : Nat) (w : World) (b : Nat) (M : RS) (F : List Nat) (jb : Nat) (p : ByteArray) (most : Int) (h : JS n₀ w b M F jb p most) (hp : p.size ≤ 100) (h9 : lastN p.data.toList M.L < 9999999) :
    Calls Tryz.prog 51 #[.pointer (some ⟨jb, 0, none⟩)] w fun e y => e = .returned (.int .i64 (jturn p.data.toList M).1) ∧ ProgTo n₀ w y b (jturn p.data.toList M).2 F := by
  have H := Lib.hid h
  have c0 := h.j.files
  clear h
  obtain ⟨n, hn⟩ : ∃ n, n = lastN p.data.toList M.L := ⟨_, rfl⟩
  have HN := Lib.hid hn
  rw [← hn] at h9
  have hne : ((n : Int) == 9999999) = false := by rw [beq_eq_false_iff_ne]; omega
  have hfl := file_len p.data.toList (n := n + 1) (by omega)
  have hfz := str_len (fileN p.data.toList (n + 1))
  have hpl : p.data.toList.length = p.size := rfl
  have HCF := Lib.hid (fun (z : World) (hj : JAt z jb b p most) (hs : Std z) => file_any z jb b p most (n + 1) hj hp (by omega) hs)
  have hcast : ((n + 1 : Nat) : Int) = (n : Int) + 1 := by omega
  rw [hcast] at HCF
  have hwr : IntKind.i64.wrap ((n : Int) + 1) = (n : Int) + 1 := IntWalk.i64_in _ (by omega)
  clear hn hcast
  go_enter Tryz.func51, Tryz.ntmps51
  go_wp2_with (fail)
  refine (num_any n₀ w jb b p most M F H.out.prog H.out.ok H.out.j hp H.out.std0).mono ?_
  rintro e w1 ⟨rfl, hb1⟩
  rw [← HN.out]
  have HB1 := Lib.hid hb1
  have c1 := cell_later hb1 c0
  clear hb1
  have HX := Lib.hid (H.out.bel HB1.out)
  go_wp2_with (fail)
  refine wp_region_held_drew (S := fun z => z.cell? ⟨jb, 0, none⟩ = some (.pointer (some ⟨b, 0, none⟩))) (by kernel_rfl) c1 (fun hHeld => ?_)
  refine tk (oi := { dst := some 13, op := Op.move (Operand.tmp 0), type := 108, pos := "journal.go:105", after := #[], guard := none }) (v := ?_) 0 rfl ?_ ?_
  rotate_left
  · (intro w hSw; (try dsimp only at hSw); first | (go_simp; done) | (go_simp; with_reducible rfl))
  try simp only [Act.put, List.setIfInBounds_toArray, List.set_cons_zero, List.set_cons_succ]
  refine tk (oi := { dst := some 14, op := Op.nilCheck (Operand.tmp 13), type := 0, pos := "journal.go:105", after := #[{ on := 0, ground := Ground.data }], guard := none }) (v := ?_) 1 rfl ?_ ?_
  rotate_left
  · (intro w hSw; (try dsimp only at hSw); first | (go_simp; done) | (go_simp; with_reducible rfl))
  try simp only [Act.put, List.setIfInBounds_toArray, List.set_cons_zero, List.set_cons_succ]
  refine tk (oi := { dst := some 15, op := Op.fieldAddr 153 (Operand.tmp 14) 0, type := 0, pos := "journal.go:105", after := #[{ on := 1, ground := Ground.data }], guard := none }) (v := ?_) 2 rfl ?_ ?_
  rotate_left
  · (intro w hSw; (try dsimp only at hSw); first | (go_simp; done) | (go_simp; with_reducible rfl))
  try simp only [Act.put, List.setIfInBounds_toArray, List.set_cons_zero, List.set_cons_succ]
  refine tk (oi := { dst := some 16, op := Op.load 55 (Operand.tmp 15), type := 55, pos := "journal.go:105", after := #[{ on := 2, ground := Ground.data }], guard := none }) (v := ?_) 3 rfl ?_ ?_
  rotate_left
  · (intro w hSw; (try dsimp only at hSw); first | (go_simp; done) | (go_simp; with_reducible rfl))
  try simp only [Act.put, List.setIfInBounds_toArray, List.set_cons_zero, List.set_cons_succ]
  refine tk (oi := { dst := some 17, op := Op.move (Operand.tmp 0), type := 108, pos := "journal.go:105", after := #[], guard := none }) (v := ?_) 4 rfl ?_ ?_
  rotate_left
  · (intro w hSw; (try dsimp only at hSw); first | (go_simp; done) | (go_simp; with_reducible rfl))
  try simp only [Act.put, List.setIfInBounds_toArray, List.set_cons_zero, List.set_cons_succ]
  refine tk (oi := { dst := some 18, op := Op.move (Operand.tmp 3), type := 3, pos := "journal.go:105", after := #[], guard := none }) (v := ?_) 5 rfl ?_ ?_
  rotate_left
  · (intro w hSw; (try dsimp only at hSw); first | (go_simp; done) | (go_simp; with_reducible rfl))
  try simp only [Act.put, List.setIfInBounds_toArray, List.set_cons_zero, List.set_cons_succ]
  refine tk (oi := { dst := some 19, op := Op.binOp BinOp.add 3 (Operand.tmp 18) (Operand.const (Value.int IntKind.i64 1)) 3, type := 3, pos := "journal.go:105", after := #[{ on := 5, ground := Ground.data }], guard := none }) (v := ?_) 6 rfl ?_ ?_
  rotate_left
  · (intro w hSw; (try dsimp only at hSw); first | (go_simp; done) | (go_simp; with_reducible rfl))
  try simp only [Act.put, List.setIfInBounds_toArray, List.set_cons_zero, List.set_cons_succ]
  refine wpAnyH_ready (rs := [7]) (by kernel_rfl) (by simp) ?_
  refine AllReadyH.cons (o := { dst := some 20, op := Op.call { callee := Callee.value (Operand.func 84), args := #[Operand.tmp 17, Operand.tmp 19], argTypes := #[108, 3] }, type := 9, pos := "journal.go:105", after := #[{ on := 4, ground := Ground.data }, { on := 6, ground := Ground.data }], guard := none }) rfl (fun K hK => ?_) AllReadyH.nil
  go_simp
  refine (HCF.out _ (HX.out.bel (Bel.refl w1).drew).j (HX.out.bel (Bel.refl w1).drew).std0).mono ?_
  rintro e w2 ⟨rfl, hb2⟩
  have HB2 := Lib.hid ((HB1.out.drew).trans hb2)
  have c2 := cell_later hb2 (show _ = _ from c1)
  clear hb2
  dsimp only
  refine hK.out _ _ c2 (fun hHeld => ?_)
  clear hK K
  try simp only [Act.put, List.setIfInBounds_toArray, List.set_cons_zero, List.set_cons_succ]
  refine wpAnyH_ready (rs := [8]) (by kernel_rfl) (by simp) ?_
  refine AllReadyH.cons (o := { dst := some 21, op := Op.call { callee := Callee.value (Operand.func 35), args := #[Operand.tmp 16, Operand.tmp 20, Operand.const (Value.string { data := #[] })], argTypes := #[55, 9, 9] }, type := 31, pos := "journal.go:105", after := #[{ on := 3, ground := Ground.data }, { on := 7, ground := Ground.data }, { on := 7, ground := Ground.chain }], guard := none }) rfl (fun K hK => ?_) AllReadyH.nil
  go_simp
  refine (padd_any n₀ w2 b M F (⟨(fileN p.data.toList (n + 1)).toArray⟩ : ByteArray) ⟨#[]⟩ (H.out.prog.bel HB2.out) (by omega) (by decide) H.out.ok.srt (good_len H.out.ok) (good_bytes H.out.ok) H.out.ok.room).mono ?_
  rintro e w3 ⟨rfl, hT⟩
  rw [str_list] at hT ⊢
  have HT := Lib.hid (hT.before HB2.out)
  have c3 : w3.cell? ⟨jb, 0, none⟩ = some (.pointer (some ⟨b, 0, none⟩)) := by
    obtain ⟨F3, _, q2, _⟩ := hT
    exact q2.cell c2 H.out.out
  clear hT
  have HJ := Lib.hid (show jturn p.data.toList M = addS (fileN p.data.toList (n + 1)) (⟨#[]⟩ : ByteArray).data.toList M by unfold jturn; rw [← HN.out])
  dsimp only
  refine hK.out _ _ c3 (fun hHeld => ?_)
  clear hK K
  try simp only [Act.put, List.setIfInBounds_toArray, List.set_cons_zero, List.set_cons_succ]
  refine tk (oi := { dst := some 2, op := Op.assign (Operand.tmp 21), type := 31, pos := "journal.go:105", after := #[{ on := 8, ground := Ground.data }, { on := 8, ground := Ground.chain }, { on := 0, ground := Ground.phase }, { on := 1, ground := Ground.phase }, { on := 2, ground := Ground.phase }, { on := 3, ground := Ground.phase }, { on := 4, ground := Ground.phase }, { on := 5, ground := Ground.phase }, { on := 6, ground := Ground.phase }, { on := 7, ground := Ground.phase }, { on := 8, ground := Ground.phase }], guard := none }) (v := ?_) 9 rfl ?_ ?_
  rotate_left
  · (intro w hSw; (try dsimp only at hSw); first | (go_simp; done) | (go_simp; with_reducible rfl))
  try simp only [Act.put, List.setIfInBounds_toArray, List.set_cons_zero, List.set_cons_succ]
  refine wpAnyH_done (by kernel_rfl) ?_ _
  go_wp2_with (fail)
  go_ret
  exact ⟨by rw [HJ.out]; rfl, by rw [HJ.out]; exact HT.out⟩
end Go.Proofs.YtfbiinnenlgkfaaGreatDoor
/- moultref7's Turn. -/
namespace Go.Proofs.YtfbiinnenlgkfaaGreatDoor
open Go.RowKit Go.Deep Go.Maps

structure RJS (n₀ : Nat) (w : World) (b : Nat) (M : RS) (F : List Nat) (jb : Nat) (p : ByteArray) (most : Int) : Prop where
  ref : RefP n₀ w b M F
  ok : M.ok
  j : JAt w jb b p most
  out : jb ∉ F
section
variable {n₀ : Nat} {w x y : World} {b jb : Nat} {M M1 M2 : RS} {F F1 : List Nat} {p : ByteArray} {most : Int}
theorem RJS.bel (h : RJS n₀ w b M F jb p most) (hb : Bel w x) : RJS n₀ x b M F jb p most :=
  ⟨h.ref.bel hb, h.ok, h.j.bel hb, h.out⟩
theorem RJS.step (h : RJS n₀ w b M F jb p most) (hT : RefTo n₀ w x b M1 F) (hM : M1.ok) : ∃ F1, RJS n₀ x b M1 F1 jb p most ∧ Keep F w x ∧ (∀ k ∈ F1, k ∈ F ∨ w.heap.size ≤ k) := by
  obtain ⟨F1, h1, h2, h3⟩ := hT
  refine ⟨F1, ⟨h1, hM, h.j.keep (h2.block jb h.j.lt h.out), fun hm => ?_⟩, h2, h3⟩
  rcases h3 jb hm with h4 | h4
  · exact h.out h4
  · have := h.j.lt; omega
end

end Go.Proofs.YtfbiinnenlgkfaaGreatDoor
/- journal's withRoom, Write. -/
namespace Go.Proofs.YtfbiinnenlgkfaaGreatDoor
open Go.RowKit Go.Deep Go.Maps

def roomS (p : List UInt8) (most : Int) (M : RS) : Int × RS := if M.gone = true then (7, M) else jroom p most M
theorem roomS_ok {M : RS} (h : M.ok) (p : List UInt8) (most : Int) : (roomS p most M).2.ok := by
  unfold roomS; split; exact h; exact jroom_ok h p most
theorem js_fileC {n₀ : Nat} {z : World} {b : Nat} {M : RS} {F : List Nat} {jb : Nat} {p : ByteArray} {most : Int} (h : JS n₀ z b M F jb p most) (hp : p.size ≤ 100) (n : Nat) (hn : n ≤ 10000000) :
    Calls Tryz.prog 84 #[.pointer (some ⟨jb, 0, none⟩), .int .i64 n] z fun e w' => e = .returned (.string ⟨(fileN p.data.toList n).toArray⟩) ∧ Bel z w' := file_any z jb b p most n h.j hp hn h.std0
theorem str_empty {l : List UInt8} (h : l ≠ []) : (⟨l.toArray⟩ : ByteArray).toList.isEmpty = false := by
  rw [ByteArray.toList_eq]
  cases l with
  | nil => exact absurd rfl h
  | cons a l => rfl
set_option maxHeartbeats 4000000 in
set_option maxRecDepth 20000 in
theorem withroom_any (n₀ : Nat) (w : World) (b : Nat) (M : RS) (F : List Nat) (jb : Nat) (p : ByteArray) (most : Int) (h : JS n₀ w b M F jb p most) (hp : p.size ≤ 100) (h0 : lastN p.data.toList M.L ≠ 0) (h9 : lastN p.data.toList M.L < 9999999) (hmost : in64 most) :
    Calls Tryz.prog 87 #[.pointer (some ⟨jb, 0, none⟩)] w fun e y => ∃ m : Nat, e = .returned (.tuple #[.int .i64 m, .int .i64 (roomS p.data.toList most M).1]) ∧ ProgTo n₀ w y b (roomS p.data.toList most M).2 F ∧ ((roomS p.data.toList most M).1 = 0 → m = lastN p.data.toList (roomS p.data.toList most M).2.L) := by
  have H := Lib.hid h
  have HMS := Lib.hid hmost
  obtain ⟨n, hn⟩ : ∃ n, n = lastN p.data.toList M.L := ⟨_, rfl⟩
  have HN := Lib.hid hn
  rw [← hn] at h9 h0
  have hmem : n ∈ segsL p.data.toList M.L := by rw [hn]; exact last_mem (fun e => h0 (by rw [hn]; exact last_zero.2 e))
  obtain ⟨-, -, hget⟩ := (mem_segs_get h.ok.srt).1 hmem
  obtain ⟨y, hy⟩ := Option.isSome_iff_exists.1 hget
  have hyb := (each_ok h.ok y (getF_mem hy)).1
  have HBY := Lib.hid (show bytesOf (fileN p.data.toList n) M = y.bytes from bytesOf_get hy)
  have HY := Lib.hid hy
  have hbz := str_len y.bytes
  have hfl := file_len p.data.toList (n := n) (by omega)
  have hfz := str_len (fileN p.data.toList n)
  have hpl : p.data.toList.length = p.size := rfl
  have hne0 : ((n : Int) == 0) = false := by rw [beq_eq_false_iff_ne]; omega
  clear h hn hmem hget hy hmost
  cases hg : M.gone with
  | true =>
    have HR := Lib.hid (show roomS p.data.toList most M = (7, M) by unfold roomS; rw [if_pos hg])
    have HGS := Lib.hid (show getS (fileN p.data.toList n) M = ([], 7) by unfold getS; rw [hg]; rfl)
    go_enter Tryz.func87, Tryz.ntmps87
    go_wp2_with (fail)
    refine (num_any n₀ w jb b p most M F H.out.prog H.out.ok H.out.j hp H.out.std0).mono ?_
    rintro e w1 ⟨rfl, hb1⟩
    rw [← HN.out]
    have HB1 := Lib.hid hb1
    have HX := Lib.hid (H.out.bel hb1)
    clear hb1
    go_wp2_with (fail)
    refine wp_region_held_drew (S := fun z => z.cell? ⟨jb, 0, none⟩ = some (.pointer (some ⟨b, 0, none⟩))) (by kernel_rfl) HX.out.j.files (fun hHeld => ?_)
    refine tk (oi := { dst := some 14, op := Op.move (Operand.tmp 0), type := 108, pos := "journal.go:84", after := #[], guard := none }) (v := ?_) 0 rfl ?_ ?_
    rotate_left
    · (intro w hSw; (try dsimp only at hSw); first | (go_simp; done) | (go_simp; with_reducible rfl))
    try simp only [Act.put, List.setIfInBounds_toArray, List.set_cons_zero, List.set_cons_succ]
    refine tk (oi := { dst := some 15, op := Op.nilCheck (Operand.tmp 14), type := 0, pos := "journal.go:84", after := #[{ on := 0, ground := Ground.data }], guard := none }) (v := ?_) 1 rfl ?_ ?_
    rotate_left
    · (intro w hSw; (try dsimp only at hSw); first | (go_simp; done) | (go_simp; with_reducible rfl))
    try simp only [Act.put, List.setIfInBounds_toArray, List.set_cons_zero, List.set_cons_succ]
    refine tk (oi := { dst := some 16, op := Op.fieldAddr 153 (Operand.tmp 15) 0, type := 0, pos := "journal.go:84", after := #[{ on := 1, ground := Ground.data }], guard := none }) (v := ?_) 2 rfl ?_ ?_
    rotate_left
    · (intro w hSw; (try dsimp only at hSw); first | (go_simp; done) | (go_simp; with_reducible rfl))
    try simp only [Act.put, List.setIfInBounds_toArray, List.set_cons_zero, List.set_cons_succ]
    refine tk (oi := { dst := some 17, op := Op.load 55 (Operand.tmp 16), type := 55, pos := "journal.go:84", after := #[{ on := 2, ground := Ground.data }], guard := none }) (v := ?_) 3 rfl ?_ ?_
    rotate_left
    · (intro w hSw; (try dsimp only at hSw); first | (go_simp; done) | (go_simp; with_reducible rfl))
    try simp only [Act.put, List.setIfInBounds_toArray, List.set_cons_zero, List.set_cons_succ]
    refine tk (oi := { dst := some 18, op := Op.move (Operand.tmp 0), type := 108, pos := "journal.go:84", after := #[], guard := none }) (v := ?_) 4 rfl ?_ ?_
    rotate_left
    · (intro w hSw; (try dsimp only at hSw); first | (go_simp; done) | (go_simp; with_reducible rfl))
    try simp only [Act.put, List.setIfInBounds_toArray, List.set_cons_zero, List.set_cons_succ]
    refine tk (oi := { dst := some 19, op := Op.move (Operand.tmp 4), type := 3, pos := "journal.go:84", after := #[], guard := none }) (v := ?_) 5 rfl ?_ ?_
    rotate_left
    · (intro w hSw; (try dsimp only at hSw); first | (go_simp; done) | (go_simp; with_reducible rfl))
    try simp only [Act.put, List.setIfInBounds_toArray, List.set_cons_zero, List.set_cons_succ]
    refine wpAnyH_ready (rs := [6]) (by kernel_rfl) (by simp) ?_
    refine AllReadyH.cons (o := { dst := some 20, op := Op.call { callee := Callee.value (Operand.func 84), args := #[Operand.tmp 18, Operand.tmp 19], argTypes := #[108, 3] }, type := 9, pos := "journal.go:84", after := #[{ on := 4, ground := Ground.data }, { on := 5, ground := Ground.data }], guard := none }) rfl (fun K hK => ?_) AllReadyH.nil
    go_simp
    refine (js_fileC (HX.out.bel (Bel.refl w1).drew) hp n (by omega)).mono ?_
    rintro e zf ⟨rfl, hbf⟩
    have HBf := Lib.hid ((Bel.refl w1).drew.trans hbf)
    have HXf := Lib.hid (HX.out.bel HBf.out)
    clear hbf
    dsimp only
    refine hK.out _ _ HXf.out.j.files (fun hHeld => ?_)
    clear hK K
    try simp only [Act.put, List.setIfInBounds_toArray, List.set_cons_zero, List.set_cons_succ]
    refine wpAnyH_ready (rs := [7]) (by kernel_rfl) (by simp) ?_
    refine AllReadyH.cons (o := { dst := some 21, op := Op.call { callee := Callee.value (Operand.func 118), args := #[Operand.tmp 17, Operand.tmp 20], argTypes := #[55, 9] }, type := 32, pos := "journal.go:84", after := #[{ on := 3, ground := Ground.data }, { on := 6, ground := Ground.data }, { on := 6, ground := Ground.chain }], guard := none }) rfl (fun K hK => ?_) AllReadyH.nil
    go_simp
    refine (pget_any n₀ zf b M F (⟨(fileN p.data.toList n).toArray⟩ : ByteArray) HXf.out.prog (by unfold maxLen; omega)).mono ?_
    rintro e w3 ⟨rfl, hb3⟩
    rw [str_list, HGS.out]
    have HB3 := Lib.hid (HB1.out.trans (HBf.out.trans hb3))
    have HX3 := Lib.hid (HXf.out.bel hb3)
    have cN := HX3.out.j.files
    clear hb3
    dsimp only
    refine hK.out _ _ cN (fun hHeld => ?_)
    clear hK K
    try simp only [Act.put, List.setIfInBounds_toArray, List.set_cons_zero, List.set_cons_succ]
    refine tk (oi := { dst := some 13, op := Op.move (Operand.tmp 21), type := 32, pos := "journal.go:84", after := #[{ on := 7, ground := Ground.data }], guard := none }) (v := ?_) 8 rfl ?_ ?_
    rotate_left
    · (intro w hSw; (try dsimp only at hSw); first | (go_simp; done) | (go_simp; with_reducible rfl))
    try simp only [Act.put, List.setIfInBounds_toArray, List.set_cons_zero, List.set_cons_succ]
    refine tk (oi := { dst := some 22, op := Op.extract (Operand.tmp 13) 0, type := 9, pos := "journal.go:84", after := #[{ on := 8, ground := Ground.data }], guard := none }) (v := ?_) 9 rfl ?_ ?_
    rotate_left
    · (intro w hSw; (try dsimp only at hSw); first | (go_simp; done) | (go_simp; with_reducible rfl))
    try simp only [Act.put, List.setIfInBounds_toArray, List.set_cons_zero, List.set_cons_succ]
    refine tk (oi := { dst := some 23, op := Op.extract (Operand.tmp 13) 1, type := 31, pos := "journal.go:84", after := #[{ on := 8, ground := Ground.data }, { on := 11, ground := Ground.gcOnly Departure.lateStores }], guard := none }) (v := ?_) 10 rfl ?_ ?_
    rotate_left
    · (intro w hSw; (try dsimp only at hSw); first | (go_simp; done) | (go_simp; with_reducible rfl))
    try simp only [Act.put, List.setIfInBounds_toArray, List.set_cons_zero, List.set_cons_succ]
    refine tk (oi := { dst := some 5, op := Op.assign (Operand.tmp 22), type := 9, pos := "journal.go:84", after := #[{ on := 9, ground := Ground.data }, { on := 7, ground := Ground.chain }, { on := 0, ground := Ground.phase }, { on := 1, ground := Ground.phase }, { on := 2, ground := Ground.phase }, { on := 3, ground := Ground.phase }, { on := 4, ground := Ground.phase }, { on := 5, ground := Ground.phase }, { on := 6, ground := Ground.phase }, { on := 7, ground := Ground.phase }, { on := 8, ground := Ground.phase }, { on := 9, ground := Ground.phase }, { on := 10, ground := Ground.textOnly Departure.lateStores }], guard := none }) (v := ?_) 11 rfl ?_ ?_
    rotate_left
    · (intro w hSw; (try dsimp only at hSw); first | (go_simp; done) | (go_simp; with_reducible rfl))
    try simp only [Act.put, List.setIfInBounds_toArray, List.set_cons_zero, List.set_cons_succ]
    refine tk (oi := { dst := some 6, op := Op.assign (Operand.tmp 23), type := 31, pos := "journal.go:84", after := #[{ on := 10, ground := Ground.data }, { on := 11, ground := Ground.chain }, { on := 0, ground := Ground.phase }, { on := 1, ground := Ground.phase }, { on := 2, ground := Ground.phase }, { on := 3, ground := Ground.phase }, { on := 4, ground := Ground.phase }, { on := 5, ground := Ground.phase }, { on := 6, ground := Ground.phase }, { on := 7, ground := Ground.phase }, { on := 8, ground := Ground.phase }, { on := 9, ground := Ground.phase }, { on := 10, ground := Ground.phase }, { on := 11, ground := Ground.phase }], guard := none }) (v := ?_) 12 rfl ?_ ?_
    rotate_left
    · (intro w hSw; (try dsimp only at hSw); first | (go_simp; done) | (go_simp; with_reducible rfl))
    try simp only [Act.put, List.setIfInBounds_toArray, List.set_cons_zero, List.set_cons_succ]
    refine wpAnyH_done (by kernel_rfl) ?_ _
    go_wp2_with (fail)
    go_ret2
    exact ⟨0, by rw [HR.out]; rfl, by rw [HR.out]; exact ProgAt.to H.out.prog HB3.out, fun hc => by rw [HR.out] at hc; cases hc⟩
  | false =>
    have HRS := Lib.hid (show roomS p.data.toList most M = jroom p.data.toList most M by unfold roomS; rw [hg]; rfl)
    have HGS := Lib.hid (show getS (fileN p.data.toList n) M = (y.bytes, 0) by unfold getS; rw [hg, HY.out]; rfl)
    by_cases hfull : y.bytes ≠ [] ∧ most ≤ (y.bytes.length : Int)
    · obtain ⟨hnb, hml⟩ := hfull
      have HR := Lib.hid (show roomS p.data.toList most M = jturn p.data.toList M by rw [HRS.out]; unfold jroom; rw [← HN.out, HBY.out, if_pos ⟨hnb, hml⟩])
      have hemp := str_empty hnb
      have hemp2 : y.bytes.isEmpty = false := by cases hb : y.bytes with | nil => exact absurd hb hnb | cons _ _ => rfl
      have hlt : ¬ ((y.bytes.length : Int) < most) := by omega
      go_enter Tryz.func87, Tryz.ntmps87
      go_wp2_with (fail)
      refine (num_any n₀ w jb b p most M F H.out.prog H.out.ok H.out.j hp H.out.std0).mono ?_
      rintro e w1 ⟨rfl, hb1⟩
      rw [← HN.out]
      have HB1 := Lib.hid hb1
      have HX := Lib.hid (H.out.bel hb1)
      clear hb1
      go_wp2_with (fail)
      refine wp_region_held_drew (S := fun z => z.cell? ⟨jb, 0, none⟩ = some (.pointer (some ⟨b, 0, none⟩))) (by kernel_rfl) HX.out.j.files (fun hHeld => ?_)
      refine tk (oi := { dst := some 14, op := Op.move (Operand.tmp 0), type := 108, pos := "journal.go:84", after := #[], guard := none }) (v := ?_) 0 rfl ?_ ?_
      rotate_left
      · (intro w hSw; (try dsimp only at hSw); first | (go_simp; done) | (go_simp; with_reducible rfl))
      try simp only [Act.put, List.setIfInBounds_toArray, List.set_cons_zero, List.set_cons_succ]
      refine tk (oi := { dst := some 15, op := Op.nilCheck (Operand.tmp 14), type := 0, pos := "journal.go:84", after := #[{ on := 0, ground := Ground.data }], guard := none }) (v := ?_) 1 rfl ?_ ?_
      rotate_left
      · (intro w hSw; (try dsimp only at hSw); first | (go_simp; done) | (go_simp; with_reducible rfl))
      try simp only [Act.put, List.setIfInBounds_toArray, List.set_cons_zero, List.set_cons_succ]
      refine tk (oi := { dst := some 16, op := Op.fieldAddr 153 (Operand.tmp 15) 0, type := 0, pos := "journal.go:84", after := #[{ on := 1, ground := Ground.data }], guard := none }) (v := ?_) 2 rfl ?_ ?_
      rotate_left
      · (intro w hSw; (try dsimp only at hSw); first | (go_simp; done) | (go_simp; with_reducible rfl))
      try simp only [Act.put, List.setIfInBounds_toArray, List.set_cons_zero, List.set_cons_succ]
      refine tk (oi := { dst := some 17, op := Op.load 55 (Operand.tmp 16), type := 55, pos := "journal.go:84", after := #[{ on := 2, ground := Ground.data }], guard := none }) (v := ?_) 3 rfl ?_ ?_
      rotate_left
      · (intro w hSw; (try dsimp only at hSw); first | (go_simp; done) | (go_simp; with_reducible rfl))
      try simp only [Act.put, List.setIfInBounds_toArray, List.set_cons_zero, List.set_cons_succ]
      refine tk (oi := { dst := some 18, op := Op.move (Operand.tmp 0), type := 108, pos := "journal.go:84", after := #[], guard := none }) (v := ?_) 4 rfl ?_ ?_
      rotate_left
      · (intro w hSw; (try dsimp only at hSw); first | (go_simp; done) | (go_simp; with_reducible rfl))
      try simp only [Act.put, List.setIfInBounds_toArray, List.set_cons_zero, List.set_cons_succ]
      refine tk (oi := { dst := some 19, op := Op.move (Operand.tmp 4), type := 3, pos := "journal.go:84", after := #[], guard := none }) (v := ?_) 5 rfl ?_ ?_
      rotate_left
      · (intro w hSw; (try dsimp only at hSw); first | (go_simp; done) | (go_simp; with_reducible rfl))
      try simp only [Act.put, List.setIfInBounds_toArray, List.set_cons_zero, List.set_cons_succ]
      refine wpAnyH_ready (rs := [6]) (by kernel_rfl) (by simp) ?_
      refine AllReadyH.cons (o := { dst := some 20, op := Op.call { callee := Callee.value (Operand.func 84), args := #[Operand.tmp 18, Operand.tmp 19], argTypes := #[108, 3] }, type := 9, pos := "journal.go:84", after := #[{ on := 4, ground := Ground.data }, { on := 5, ground := Ground.data }], guard := none }) rfl (fun K hK => ?_) AllReadyH.nil
      go_simp
      refine (js_fileC (HX.out.bel (Bel.refl w1).drew) hp n (by omega)).mono ?_
      rintro e zf ⟨rfl, hbf⟩
      have HBf := Lib.hid ((Bel.refl w1).drew.trans hbf)
      have HXf := Lib.hid (HX.out.bel HBf.out)
      clear hbf
      dsimp only
      refine hK.out _ _ HXf.out.j.files (fun hHeld => ?_)
      clear hK K
      try simp only [Act.put, List.setIfInBounds_toArray, List.set_cons_zero, List.set_cons_succ]
      refine wpAnyH_ready (rs := [7]) (by kernel_rfl) (by simp) ?_
      refine AllReadyH.cons (o := { dst := some 21, op := Op.call { callee := Callee.value (Operand.func 118), args := #[Operand.tmp 17, Operand.tmp 20], argTypes := #[55, 9] }, type := 32, pos := "journal.go:84", after := #[{ on := 3, ground := Ground.data }, { on := 6, ground := Ground.data }, { on := 6, ground := Ground.chain }], guard := none }) rfl (fun K hK => ?_) AllReadyH.nil
      go_simp
      refine (pget_any n₀ zf b M F (⟨(fileN p.data.toList n).toArray⟩ : ByteArray) HXf.out.prog (by unfold maxLen; omega)).mono ?_
      rintro e w3 ⟨rfl, hb3⟩
      rw [str_list, HGS.out]
      have HB3 := Lib.hid (HB1.out.trans (HBf.out.trans hb3))
      have HX3 := Lib.hid (HXf.out.bel hb3)
      have cN := HX3.out.j.files
      clear hb3
      dsimp only
      refine hK.out _ _ cN (fun hHeld => ?_)
      clear hK K
      try simp only [Act.put, List.setIfInBounds_toArray, List.set_cons_zero, List.set_cons_succ]
      refine tk (oi := { dst := some 13, op := Op.move (Operand.tmp 21), type := 32, pos := "journal.go:84", after := #[{ on := 7, ground := Ground.data }], guard := none }) (v := ?_) 8 rfl ?_ ?_
      rotate_left
      · (intro w hSw; (try dsimp only at hSw); first | (go_simp; done) | (go_simp; with_reducible rfl))
      try simp only [Act.put, List.setIfInBounds_toArray, List.set_cons_zero, List.set_cons_succ]
      refine tk (oi := { dst := some 22, op := Op.extract (Operand.tmp 13) 0, type := 9, pos := "journal.go:84", after := #[{ on := 8, ground := Ground.data }], guard := none }) (v := ?_) 9 rfl ?_ ?_
      rotate_left
      · (intro w hSw; (try dsimp only at hSw); first | (go_simp; done) | (go_simp; with_reducible rfl))
      try simp only [Act.put, List.setIfInBounds_toArray, List.set_cons_zero, List.set_cons_succ]
      refine tk (oi := { dst := some 23, op := Op.extract (Operand.tmp 13) 1, type := 31, pos := "journal.go:84", after := #[{ on := 8, ground := Ground.data }, { on := 11, ground := Ground.gcOnly Departure.lateStores }], guard := none }) (v := ?_) 10 rfl ?_ ?_
      rotate_left
      · (intro w hSw; (try dsimp only at hSw); first | (go_simp; done) | (go_simp; with_reducible rfl))
      try simp only [Act.put, List.setIfInBounds_toArray, List.set_cons_zero, List.set_cons_succ]
      refine tk (oi := { dst := some 5, op := Op.assign (Operand.tmp 22), type := 9, pos := "journal.go:84", after := #[{ on := 9, ground := Ground.data }, { on := 7, ground := Ground.chain }, { on := 0, ground := Ground.phase }, { on := 1, ground := Ground.phase }, { on := 2, ground := Ground.phase }, { on := 3, ground := Ground.phase }, { on := 4, ground := Ground.phase }, { on := 5, ground := Ground.phase }, { on := 6, ground := Ground.phase }, { on := 7, ground := Ground.phase }, { on := 8, ground := Ground.phase }, { on := 9, ground := Ground.phase }, { on := 10, ground := Ground.textOnly Departure.lateStores }], guard := none }) (v := ?_) 11 rfl ?_ ?_
      rotate_left
      · (intro w hSw; (try dsimp only at hSw); first | (go_simp; done) | (go_simp; with_reducible rfl))
      try simp only [Act.put, List.setIfInBounds_toArray, List.set_cons_zero, List.set_cons_succ]
      refine tk (oi := { dst := some 6, op := Op.assign (Operand.tmp 23), type := 31, pos := "journal.go:84", after := #[{ on := 10, ground := Ground.data }, { on := 11, ground := Ground.chain }, { on := 0, ground := Ground.phase }, { on := 1, ground := Ground.phase }, { on := 2, ground := Ground.phase }, { on := 3, ground := Ground.phase }, { on := 4, ground := Ground.phase }, { on := 5, ground := Ground.phase }, { on := 6, ground := Ground.phase }, { on := 7, ground := Ground.phase }, { on := 8, ground := Ground.phase }, { on := 9, ground := Ground.phase }, { on := 10, ground := Ground.phase }, { on := 11, ground := Ground.phase }], guard := none }) (v := ?_) 12 rfl ?_ ?_
      rotate_left
      · (intro w hSw; (try dsimp only at hSw); first | (go_simp; done) | (go_simp; with_reducible rfl))
      try simp only [Act.put, List.setIfInBounds_toArray, List.set_cons_zero, List.set_cons_succ]
      refine wpAnyH_done (by kernel_rfl) ?_ _
      have c2 := HX3.out.j.most
      clear cN
      go_wp2_with (fail)
      refine (jturn_any n₀ w3 b M F jb p most HX3.out hp (by rw [← HN.out]; exact h9)).mono ?_
      rintro e w4 ⟨rfl, hT⟩
      have HT := Lib.hid (hT.before HB3.out)
      clear hT
      have hwr : IntKind.i64.wrap ((n : Int) + 1) = (n : Int) + 1 := IntWalk.i64_in _ (by omega)
      go_wp2_with (fail)
      go_ret2
      exact ⟨n + 1, by rw [HR.out]; rfl, by rw [HR.out]; exact HT.out, fun hc => by
        rw [HR.out] at hc ⊢
        rw [jturn_last H.out.ok (by rw [← HN.out]; exact h9) hc, ← HN.out]⟩
    · have HR := Lib.hid (show roomS p.data.toList most M = (0, M) by rw [HRS.out]; unfold jroom; rw [← HN.out, HBY.out, if_neg hfull])
      by_cases hnb : y.bytes = []
      · have hemp : (⟨y.bytes.toArray⟩ : ByteArray) = ⟨#[]⟩ := by rw [hnb]
        have HE := Lib.hid hemp
        clear hfull
        go_enter Tryz.func87, Tryz.ntmps87
        go_wp2_with (fail)
        refine (num_any n₀ w jb b p most M F H.out.prog H.out.ok H.out.j hp H.out.std0).mono ?_
        rintro e w1 ⟨rfl, hb1⟩
        rw [← HN.out]
        have HB1 := Lib.hid hb1
        have HX := Lib.hid (H.out.bel hb1)
        clear hb1
        go_wp2_with (fail)
        refine wp_region_held_drew (S := fun z => z.cell? ⟨jb, 0, none⟩ = some (.pointer (some ⟨b, 0, none⟩))) (by kernel_rfl) HX.out.j.files (fun hHeld => ?_)
        refine tk (oi := { dst := some 14, op := Op.move (Operand.tmp 0), type := 108, pos := "journal.go:84", after := #[], guard := none }) (v := ?_) 0 rfl ?_ ?_
        rotate_left
        · (intro w hSw; (try dsimp only at hSw); first | (go_simp; done) | (go_simp; with_reducible rfl))
        try simp only [Act.put, List.setIfInBounds_toArray, List.set_cons_zero, List.set_cons_succ]
        refine tk (oi := { dst := some 15, op := Op.nilCheck (Operand.tmp 14), type := 0, pos := "journal.go:84", after := #[{ on := 0, ground := Ground.data }], guard := none }) (v := ?_) 1 rfl ?_ ?_
        rotate_left
        · (intro w hSw; (try dsimp only at hSw); first | (go_simp; done) | (go_simp; with_reducible rfl))
        try simp only [Act.put, List.setIfInBounds_toArray, List.set_cons_zero, List.set_cons_succ]
        refine tk (oi := { dst := some 16, op := Op.fieldAddr 153 (Operand.tmp 15) 0, type := 0, pos := "journal.go:84", after := #[{ on := 1, ground := Ground.data }], guard := none }) (v := ?_) 2 rfl ?_ ?_
        rotate_left
        · (intro w hSw; (try dsimp only at hSw); first | (go_simp; done) | (go_simp; with_reducible rfl))
        try simp only [Act.put, List.setIfInBounds_toArray, List.set_cons_zero, List.set_cons_succ]
        refine tk (oi := { dst := some 17, op := Op.load 55 (Operand.tmp 16), type := 55, pos := "journal.go:84", after := #[{ on := 2, ground := Ground.data }], guard := none }) (v := ?_) 3 rfl ?_ ?_
        rotate_left
        · (intro w hSw; (try dsimp only at hSw); first | (go_simp; done) | (go_simp; with_reducible rfl))
        try simp only [Act.put, List.setIfInBounds_toArray, List.set_cons_zero, List.set_cons_succ]
        refine tk (oi := { dst := some 18, op := Op.move (Operand.tmp 0), type := 108, pos := "journal.go:84", after := #[], guard := none }) (v := ?_) 4 rfl ?_ ?_
        rotate_left
        · (intro w hSw; (try dsimp only at hSw); first | (go_simp; done) | (go_simp; with_reducible rfl))
        try simp only [Act.put, List.setIfInBounds_toArray, List.set_cons_zero, List.set_cons_succ]
        refine tk (oi := { dst := some 19, op := Op.move (Operand.tmp 4), type := 3, pos := "journal.go:84", after := #[], guard := none }) (v := ?_) 5 rfl ?_ ?_
        rotate_left
        · (intro w hSw; (try dsimp only at hSw); first | (go_simp; done) | (go_simp; with_reducible rfl))
        try simp only [Act.put, List.setIfInBounds_toArray, List.set_cons_zero, List.set_cons_succ]
        refine wpAnyH_ready (rs := [6]) (by kernel_rfl) (by simp) ?_
        refine AllReadyH.cons (o := { dst := some 20, op := Op.call { callee := Callee.value (Operand.func 84), args := #[Operand.tmp 18, Operand.tmp 19], argTypes := #[108, 3] }, type := 9, pos := "journal.go:84", after := #[{ on := 4, ground := Ground.data }, { on := 5, ground := Ground.data }], guard := none }) rfl (fun K hK => ?_) AllReadyH.nil
        go_simp
        refine (js_fileC (HX.out.bel (Bel.refl w1).drew) hp n (by omega)).mono ?_
        rintro e zf ⟨rfl, hbf⟩
        have HBf := Lib.hid ((Bel.refl w1).drew.trans hbf)
        have HXf := Lib.hid (HX.out.bel HBf.out)
        clear hbf
        dsimp only
        refine hK.out _ _ HXf.out.j.files (fun hHeld => ?_)
        clear hK K
        try simp only [Act.put, List.setIfInBounds_toArray, List.set_cons_zero, List.set_cons_succ]
        refine wpAnyH_ready (rs := [7]) (by kernel_rfl) (by simp) ?_
        refine AllReadyH.cons (o := { dst := some 21, op := Op.call { callee := Callee.value (Operand.func 118), args := #[Operand.tmp 17, Operand.tmp 20], argTypes := #[55, 9] }, type := 32, pos := "journal.go:84", after := #[{ on := 3, ground := Ground.data }, { on := 6, ground := Ground.data }, { on := 6, ground := Ground.chain }], guard := none }) rfl (fun K hK => ?_) AllReadyH.nil
        go_simp
        refine (pget_any n₀ zf b M F (⟨(fileN p.data.toList n).toArray⟩ : ByteArray) HXf.out.prog (by unfold maxLen; omega)).mono ?_
        rintro e w3 ⟨rfl, hb3⟩
        rw [str_list, HGS.out, HE.out]
        have HB3 := Lib.hid (HB1.out.trans (HBf.out.trans hb3))
        have HX3 := Lib.hid (HXf.out.bel hb3)
        have cN := HX3.out.j.files
        clear hb3
        dsimp only
        refine hK.out _ _ cN (fun hHeld => ?_)
        clear hK K
        try simp only [Act.put, List.setIfInBounds_toArray, List.set_cons_zero, List.set_cons_succ]
        refine tk (oi := { dst := some 13, op := Op.move (Operand.tmp 21), type := 32, pos := "journal.go:84", after := #[{ on := 7, ground := Ground.data }], guard := none }) (v := ?_) 8 rfl ?_ ?_
        rotate_left
        · (intro w hSw; (try dsimp only at hSw); first | (go_simp; done) | (go_simp; with_reducible rfl))
        try simp only [Act.put, List.setIfInBounds_toArray, List.set_cons_zero, List.set_cons_succ]
        refine tk (oi := { dst := some 22, op := Op.extract (Operand.tmp 13) 0, type := 9, pos := "journal.go:84", after := #[{ on := 8, ground := Ground.data }], guard := none }) (v := ?_) 9 rfl ?_ ?_
        rotate_left
        · (intro w hSw; (try dsimp only at hSw); first | (go_simp; done) | (go_simp; with_reducible rfl))
        try simp only [Act.put, List.setIfInBounds_toArray, List.set_cons_zero, List.set_cons_succ]
        refine tk (oi := { dst := some 23, op := Op.extract (Operand.tmp 13) 1, type := 31, pos := "journal.go:84", after := #[{ on := 8, ground := Ground.data }, { on := 11, ground := Ground.gcOnly Departure.lateStores }], guard := none }) (v := ?_) 10 rfl ?_ ?_
        rotate_left
        · (intro w hSw; (try dsimp only at hSw); first | (go_simp; done) | (go_simp; with_reducible rfl))
        try simp only [Act.put, List.setIfInBounds_toArray, List.set_cons_zero, List.set_cons_succ]
        refine tk (oi := { dst := some 5, op := Op.assign (Operand.tmp 22), type := 9, pos := "journal.go:84", after := #[{ on := 9, ground := Ground.data }, { on := 7, ground := Ground.chain }, { on := 0, ground := Ground.phase }, { on := 1, ground := Ground.phase }, { on := 2, ground := Ground.phase }, { on := 3, ground := Ground.phase }, { on := 4, ground := Ground.phase }, { on := 5, ground := Ground.phase }, { on := 6, ground := Ground.phase }, { on := 7, ground := Ground.phase }, { on := 8, ground := Ground.phase }, { on := 9, ground := Ground.phase }, { on := 10, ground := Ground.textOnly Departure.lateStores }], guard := none }) (v := ?_) 11 rfl ?_ ?_
        rotate_left
        · (intro w hSw; (try dsimp only at hSw); first | (go_simp; done) | (go_simp; with_reducible rfl))
        try simp only [Act.put, List.setIfInBounds_toArray, List.set_cons_zero, List.set_cons_succ]
        refine tk (oi := { dst := some 6, op := Op.assign (Operand.tmp 23), type := 31, pos := "journal.go:84", after := #[{ on := 10, ground := Ground.data }, { on := 11, ground := Ground.chain }, { on := 0, ground := Ground.phase }, { on := 1, ground := Ground.phase }, { on := 2, ground := Ground.phase }, { on := 3, ground := Ground.phase }, { on := 4, ground := Ground.phase }, { on := 5, ground := Ground.phase }, { on := 6, ground := Ground.phase }, { on := 7, ground := Ground.phase }, { on := 8, ground := Ground.phase }, { on := 9, ground := Ground.phase }, { on := 10, ground := Ground.phase }, { on := 11, ground := Ground.phase }], guard := none }) (v := ?_) 12 rfl ?_ ?_
        rotate_left
        · (intro w hSw; (try dsimp only at hSw); first | (go_simp; done) | (go_simp; with_reducible rfl))
        try simp only [Act.put, List.setIfInBounds_toArray, List.set_cons_zero, List.set_cons_succ]
        refine wpAnyH_done (by kernel_rfl) ?_ _
        clear hemp
        go_wp2_with (fail)
        go_ret2
        exact ⟨n, by rw [HR.out]; rfl, by rw [HR.out]; exact ProgAt.to H.out.prog HB3.out, fun hc => by rw [HR.out]; exact HN.out⟩
      · have hlt : ((y.bytes.length : Int) < most) := by
          rcases Int.lt_or_le (y.bytes.length : Int) most with h | h
          · exact h
          · exact absurd ⟨hnb, h⟩ hfull
        have hemp := str_empty hnb
        have hemp2 : y.bytes.isEmpty = false := by cases hb : y.bytes with | nil => exact absurd hb hnb | cons _ _ => rfl
        clear hfull
        go_enter Tryz.func87, Tryz.ntmps87
        go_wp2_with (fail)
        refine (num_any n₀ w jb b p most M F H.out.prog H.out.ok H.out.j hp H.out.std0).mono ?_
        rintro e w1 ⟨rfl, hb1⟩
        rw [← HN.out]
        have HB1 := Lib.hid hb1
        have HX := Lib.hid (H.out.bel hb1)
        clear hb1
        go_wp2_with (fail)
        refine wp_region_held_drew (S := fun z => z.cell? ⟨jb, 0, none⟩ = some (.pointer (some ⟨b, 0, none⟩))) (by kernel_rfl) HX.out.j.files (fun hHeld => ?_)
        refine tk (oi := { dst := some 14, op := Op.move (Operand.tmp 0), type := 108, pos := "journal.go:84", after := #[], guard := none }) (v := ?_) 0 rfl ?_ ?_
        rotate_left
        · (intro w hSw; (try dsimp only at hSw); first | (go_simp; done) | (go_simp; with_reducible rfl))
        try simp only [Act.put, List.setIfInBounds_toArray, List.set_cons_zero, List.set_cons_succ]
        refine tk (oi := { dst := some 15, op := Op.nilCheck (Operand.tmp 14), type := 0, pos := "journal.go:84", after := #[{ on := 0, ground := Ground.data }], guard := none }) (v := ?_) 1 rfl ?_ ?_
        rotate_left
        · (intro w hSw; (try dsimp only at hSw); first | (go_simp; done) | (go_simp; with_reducible rfl))
        try simp only [Act.put, List.setIfInBounds_toArray, List.set_cons_zero, List.set_cons_succ]
        refine tk (oi := { dst := some 16, op := Op.fieldAddr 153 (Operand.tmp 15) 0, type := 0, pos := "journal.go:84", after := #[{ on := 1, ground := Ground.data }], guard := none }) (v := ?_) 2 rfl ?_ ?_
        rotate_left
        · (intro w hSw; (try dsimp only at hSw); first | (go_simp; done) | (go_simp; with_reducible rfl))
        try simp only [Act.put, List.setIfInBounds_toArray, List.set_cons_zero, List.set_cons_succ]
        refine tk (oi := { dst := some 17, op := Op.load 55 (Operand.tmp 16), type := 55, pos := "journal.go:84", after := #[{ on := 2, ground := Ground.data }], guard := none }) (v := ?_) 3 rfl ?_ ?_
        rotate_left
        · (intro w hSw; (try dsimp only at hSw); first | (go_simp; done) | (go_simp; with_reducible rfl))
        try simp only [Act.put, List.setIfInBounds_toArray, List.set_cons_zero, List.set_cons_succ]
        refine tk (oi := { dst := some 18, op := Op.move (Operand.tmp 0), type := 108, pos := "journal.go:84", after := #[], guard := none }) (v := ?_) 4 rfl ?_ ?_
        rotate_left
        · (intro w hSw; (try dsimp only at hSw); first | (go_simp; done) | (go_simp; with_reducible rfl))
        try simp only [Act.put, List.setIfInBounds_toArray, List.set_cons_zero, List.set_cons_succ]
        refine tk (oi := { dst := some 19, op := Op.move (Operand.tmp 4), type := 3, pos := "journal.go:84", after := #[], guard := none }) (v := ?_) 5 rfl ?_ ?_
        rotate_left
        · (intro w hSw; (try dsimp only at hSw); first | (go_simp; done) | (go_simp; with_reducible rfl))
        try simp only [Act.put, List.setIfInBounds_toArray, List.set_cons_zero, List.set_cons_succ]
        refine wpAnyH_ready (rs := [6]) (by kernel_rfl) (by simp) ?_
        refine AllReadyH.cons (o := { dst := some 20, op := Op.call { callee := Callee.value (Operand.func 84), args := #[Operand.tmp 18, Operand.tmp 19], argTypes := #[108, 3] }, type := 9, pos := "journal.go:84", after := #[{ on := 4, ground := Ground.data }, { on := 5, ground := Ground.data }], guard := none }) rfl (fun K hK => ?_) AllReadyH.nil
        go_simp
        refine (js_fileC (HX.out.bel (Bel.refl w1).drew) hp n (by omega)).mono ?_
        rintro e zf ⟨rfl, hbf⟩
        have HBf := Lib.hid ((Bel.refl w1).drew.trans hbf)
        have HXf := Lib.hid (HX.out.bel HBf.out)
        clear hbf
        dsimp only
        refine hK.out _ _ HXf.out.j.files (fun hHeld => ?_)
        clear hK K
        try simp only [Act.put, List.setIfInBounds_toArray, List.set_cons_zero, List.set_cons_succ]
        refine wpAnyH_ready (rs := [7]) (by kernel_rfl) (by simp) ?_
        refine AllReadyH.cons (o := { dst := some 21, op := Op.call { callee := Callee.value (Operand.func 118), args := #[Operand.tmp 17, Operand.tmp 20], argTypes := #[55, 9] }, type := 32, pos := "journal.go:84", after := #[{ on := 3, ground := Ground.data }, { on := 6, ground := Ground.data }, { on := 6, ground := Ground.chain }], guard := none }) rfl (fun K hK => ?_) AllReadyH.nil
        go_simp
        refine (pget_any n₀ zf b M F (⟨(fileN p.data.toList n).toArray⟩ : ByteArray) HXf.out.prog (by unfold maxLen; omega)).mono ?_
        rintro e w3 ⟨rfl, hb3⟩
        rw [str_list, HGS.out]
        have HB3 := Lib.hid (HB1.out.trans (HBf.out.trans hb3))
        have HX3 := Lib.hid (HXf.out.bel hb3)
        have cN := HX3.out.j.files
        clear hb3
        dsimp only
        refine hK.out _ _ cN (fun hHeld => ?_)
        clear hK K
        try simp only [Act.put, List.setIfInBounds_toArray, List.set_cons_zero, List.set_cons_succ]
        refine tk (oi := { dst := some 13, op := Op.move (Operand.tmp 21), type := 32, pos := "journal.go:84", after := #[{ on := 7, ground := Ground.data }], guard := none }) (v := ?_) 8 rfl ?_ ?_
        rotate_left
        · (intro w hSw; (try dsimp only at hSw); first | (go_simp; done) | (go_simp; with_reducible rfl))
        try simp only [Act.put, List.setIfInBounds_toArray, List.set_cons_zero, List.set_cons_succ]
        refine tk (oi := { dst := some 22, op := Op.extract (Operand.tmp 13) 0, type := 9, pos := "journal.go:84", after := #[{ on := 8, ground := Ground.data }], guard := none }) (v := ?_) 9 rfl ?_ ?_
        rotate_left
        · (intro w hSw; (try dsimp only at hSw); first | (go_simp; done) | (go_simp; with_reducible rfl))
        try simp only [Act.put, List.setIfInBounds_toArray, List.set_cons_zero, List.set_cons_succ]
        refine tk (oi := { dst := some 23, op := Op.extract (Operand.tmp 13) 1, type := 31, pos := "journal.go:84", after := #[{ on := 8, ground := Ground.data }, { on := 11, ground := Ground.gcOnly Departure.lateStores }], guard := none }) (v := ?_) 10 rfl ?_ ?_
        rotate_left
        · (intro w hSw; (try dsimp only at hSw); first | (go_simp; done) | (go_simp; with_reducible rfl))
        try simp only [Act.put, List.setIfInBounds_toArray, List.set_cons_zero, List.set_cons_succ]
        refine tk (oi := { dst := some 5, op := Op.assign (Operand.tmp 22), type := 9, pos := "journal.go:84", after := #[{ on := 9, ground := Ground.data }, { on := 7, ground := Ground.chain }, { on := 0, ground := Ground.phase }, { on := 1, ground := Ground.phase }, { on := 2, ground := Ground.phase }, { on := 3, ground := Ground.phase }, { on := 4, ground := Ground.phase }, { on := 5, ground := Ground.phase }, { on := 6, ground := Ground.phase }, { on := 7, ground := Ground.phase }, { on := 8, ground := Ground.phase }, { on := 9, ground := Ground.phase }, { on := 10, ground := Ground.textOnly Departure.lateStores }], guard := none }) (v := ?_) 11 rfl ?_ ?_
        rotate_left
        · (intro w hSw; (try dsimp only at hSw); first | (go_simp; done) | (go_simp; with_reducible rfl))
        try simp only [Act.put, List.setIfInBounds_toArray, List.set_cons_zero, List.set_cons_succ]
        refine tk (oi := { dst := some 6, op := Op.assign (Operand.tmp 23), type := 31, pos := "journal.go:84", after := #[{ on := 10, ground := Ground.data }, { on := 11, ground := Ground.chain }, { on := 0, ground := Ground.phase }, { on := 1, ground := Ground.phase }, { on := 2, ground := Ground.phase }, { on := 3, ground := Ground.phase }, { on := 4, ground := Ground.phase }, { on := 5, ground := Ground.phase }, { on := 6, ground := Ground.phase }, { on := 7, ground := Ground.phase }, { on := 8, ground := Ground.phase }, { on := 9, ground := Ground.phase }, { on := 10, ground := Ground.phase }, { on := 11, ground := Ground.phase }], guard := none }) (v := ?_) 12 rfl ?_ ?_
        rotate_left
        · (intro w hSw; (try dsimp only at hSw); first | (go_simp; done) | (go_simp; with_reducible rfl))
        try simp only [Act.put, List.setIfInBounds_toArray, List.set_cons_zero, List.set_cons_succ]
        refine wpAnyH_done (by kernel_rfl) ?_ _
        have c2 := HX3.out.j.most
        clear cN
        go_wp2_with (fail)
        go_ret2
        exact ⟨n, by rw [HR.out]; rfl, by rw [HR.out]; exact ProgAt.to H.out.prog HB3.out, fun hc => by rw [HR.out]; exact HN.out⟩

set_option maxHeartbeats 4000000 in
set_option maxRecDepth 20000 in
theorem write_any (n₀ : Nat) (w : World) (b : Nat) (M : RS) (F : List Nat) (jb : Nat) (p : ByteArray) (most : Int) (lp : Option Addr) (lc : Nat) (L : List (List UInt8)) (h : JS n₀ w b M F jb p most) (hp : p.size ≤ 100) (h0 : lastN p.data.toList M.L ≠ 0) (h9 : lastN p.data.toList M.L < 9999999) (hmost : in64 most)
    (hl : StrsAt w lp L) (hL : L.length ≤ maxLen) (ht : ∀ t ∈ L, t.length ≤ 1000000) :
    Calls Tryz.prog 52 #[.pointer (some ⟨jb, 0, none⟩), .slice lp L.length lc] w fun e y => e = .returned (.int .i64 (jwrite p.data.toList most L M).1) ∧ ProgTo n₀ w y b (jwrite p.data.toList most L M).2 F := by
  have H := Lib.hid h
  have HMS := Lib.hid hmost
  have HC := Lib.hid (batch_any w lp lc L hl hL ht)
  have HLL := Lib.hid hL
  have hbl := batch_len L
  have hpl : p.data.toList.length = p.size := rfl
  have HRO := Lib.hid (roomS_ok h.ok p.data.toList most)
  obtain ⟨s, e0, hB⟩ : ∃ s e0, batchS L = (s, e0) := ⟨_, _, rfl⟩
  have HBV := Lib.hid (show batchV L = .tuple #[.string ⟨s.toArray⟩, .int .i64 e0] by unfold batchV; rw [hB])
  rw [hB] at hbl
  simp only at hbl
  have hsz := str_len s
  obtain ⟨r, M1, hR⟩ : ∃ r M1, roomS p.data.toList most M = (r, M1) := ⟨_, _, rfl⟩
  have HR := Lib.hid hR
  rw [hR] at HRO
  have HRO1 := Lib.hid (show M1.ok from HRO.out)
  have HW := Lib.hid (show jwrite p.data.toList most L M = if e0 ≠ 0 then (e0, M) else if r ≠ 0 then (r, M1) else jput (fileN p.data.toList (lastN p.data.toList M1.L)) (frameL s) M1 by
    unfold jwrite
    rw [hB]
    unfold roomS at hR
    by_cases hg : M.gone = true
    · rw [if_pos hg] at hR ⊢
      simp only [Prod.mk.injEq] at hR
      obtain ⟨rfl, rfl⟩ := hR
      simp
    · rw [if_neg hg] at hR ⊢
      rw [hR])
  have H0 := Lib.hid h0
  have H9 := Lib.hid h9
  clear h hB hR hmost hl hL ht HRO h0 h9
  go_enter Tryz.func52, Tryz.ntmps52
  go_wp2_with (fail)
  refine HC.out.mono ?_
  rintro e w1 ⟨rfl, hb1⟩
  rw [HBV.out]
  have HB1 := Lib.hid hb1
  clear hb1
  by_cases he0 : e0 = 0
  · subst he0
    rw [if_neg (by simp)] at HW
    go_wp2_with (fail)
    refine (frame_ok ⟨s.toArray⟩ _ (by omega)).mono ?_
    rintro e w2 ⟨rfl, hb2⟩
    rw [frameV, str_list]
    have HB2 := Lib.hid (HB1.out.trans hb2)
    have HX2 := Lib.hid (H.out.bel HB2.out)
    clear hb2
    go_wp2_with (fail)
    refine (withroom_any n₀ w2 b M F jb p most HX2.out hp H0.out H9.out HMS.out).mono ?_
    rintro e w3 ⟨m, rfl, hT, hm⟩
    rw [HR.out] at hT hm ⊢
    by_cases hr : r = 0
    · subst hr
      rw [if_neg (by simp)] at HW
      have hmm : m = lastN p.data.toList M1.L := hm rfl
      have hm9 : m ≤ 9999999 := by rw [hmm]; exact last_le _ _
      have HMM := Lib.hid hmm
      obtain ⟨F3, hX3, hK3, hF3⟩ := HX2.out.step hT HRO1.out
      have HX := Lib.hid hX3
      have HK3 := Lib.hid ((Keep.of_bel HB2.out F).trans hK3 (fun x hx => Or.inl hx))
      have HF3 := Lib.hid (show ∀ k ∈ F3, k ∈ F ∨ w.heap.size ≤ k from fun k hk => (hF3 k hk).imp id (fun h => Nat.le_trans HB2.out.size h))
      clear hT hm hmm hX3 hK3 hF3
      have hfl := file_len p.data.toList (n := m) (by omega)
      have hfz := str_len (fileN p.data.toList m)
      have hfrz := str_len (frameL s)
      have hfrl := frame_len s
      have hszN := szN_le s.length
      obtain ⟨ra, M2, hA⟩ : ∃ ra M2, addS (fileN p.data.toList m) (frameL s) M1 = (ra, M2) := ⟨_, _, rfl⟩
      have HA := Lib.hid hA
      have HM2 := Lib.hid (show M2.ok by have := add_ok HRO1.out (fileN p.data.toList m) (frameL s); rwa [hA] at this)
      have HJP := Lib.hid (show jput (fileN p.data.toList (lastN p.data.toList M1.L)) (frameL s) M1 = if ra ≠ 0 then (ra, M2) else flushS (fileN p.data.toList m) M2 by
        unfold jput; rw [← HMM.out, HA.out])
      rw [HJP.out] at HW
      clear hA
      go_wp2_with (fail)
      refine wp_region_held_drew (S := fun z => z.cell? ⟨jb, 0, none⟩ = some (.pointer (some ⟨b, 0, none⟩))) (by kernel_rfl) HX.out.j.files (fun hHeld => ?_)
      refine tk (oi := { dst := some 34, op := Op.move (Operand.tmp 0), type := 108, pos := "journal.go:72", after := #[], guard := none }) (v := ?_) 0 rfl ?_ ?_
      rotate_left
      · (intro w hSw; (try dsimp only at hSw); first | (go_simp; done) | (go_simp; with_reducible rfl))
      try simp only [Act.put, List.setIfInBounds_toArray, List.set_cons_zero, List.set_cons_succ]
      refine tk (oi := { dst := some 35, op := Op.nilCheck (Operand.tmp 34), type := 0, pos := "journal.go:72", after := #[{ on := 0, ground := Ground.data }], guard := none }) (v := ?_) 1 rfl ?_ ?_
      rotate_left
      · (intro w hSw; (try dsimp only at hSw); first | (go_simp; done) | (go_simp; with_reducible rfl))
      try simp only [Act.put, List.setIfInBounds_toArray, List.set_cons_zero, List.set_cons_succ]
      refine tk (oi := { dst := some 36, op := Op.fieldAddr 153 (Operand.tmp 35) 0, type := 0, pos := "journal.go:72", after := #[{ on := 1, ground := Ground.data }], guard := none }) (v := ?_) 2 rfl ?_ ?_
      rotate_left
      · (intro w hSw; (try dsimp only at hSw); first | (go_simp; done) | (go_simp; with_reducible rfl))
      try simp only [Act.put, List.setIfInBounds_toArray, List.set_cons_zero, List.set_cons_succ]
      refine tk (oi := { dst := some 37, op := Op.load 55 (Operand.tmp 36), type := 55, pos := "journal.go:72", after := #[{ on := 2, ground := Ground.data }], guard := none }) (v := ?_) 3 rfl ?_ ?_
      rotate_left
      · (intro w hSw; (try dsimp only at hSw); first | (go_simp; done) | (go_simp; with_reducible rfl))
      try simp only [Act.put, List.setIfInBounds_toArray, List.set_cons_zero, List.set_cons_succ]
      refine tk (oi := { dst := some 38, op := Op.move (Operand.tmp 0), type := 108, pos := "journal.go:72", after := #[], guard := none }) (v := ?_) 4 rfl ?_ ?_
      rotate_left
      · (intro w hSw; (try dsimp only at hSw); first | (go_simp; done) | (go_simp; with_reducible rfl))
      try simp only [Act.put, List.setIfInBounds_toArray, List.set_cons_zero, List.set_cons_succ]
      refine tk (oi := { dst := some 39, op := Op.move (Operand.tmp 8), type := 3, pos := "journal.go:72", after := #[], guard := none }) (v := ?_) 5 rfl ?_ ?_
      rotate_left
      · (intro w hSw; (try dsimp only at hSw); first | (go_simp; done) | (go_simp; with_reducible rfl))
      try simp only [Act.put, List.setIfInBounds_toArray, List.set_cons_zero, List.set_cons_succ]
      refine tk (oi := { dst := some 41, op := Op.move (Operand.tmp 7), type := 9, pos := "journal.go:72", after := #[], guard := none }) (v := ?_) 7 rfl ?_ ?_
      rotate_left
      · (intro w hSw; (try dsimp only at hSw); first | (go_simp; done) | (go_simp; with_reducible rfl))
      try simp only [Act.put, List.setIfInBounds_toArray, List.set_cons_zero, List.set_cons_succ]
      refine wpAnyH_ready (rs := [6]) (by kernel_rfl) (by simp) ?_
      refine AllReadyH.cons (o := { dst := some 40, op := Op.call { callee := Callee.value (Operand.func 84), args := #[Operand.tmp 38, Operand.tmp 39], argTypes := #[108, 3] }, type := 9, pos := "journal.go:72", after := #[{ on := 4, ground := Ground.data }, { on := 5, ground := Ground.data }], guard := none }) rfl (fun K hK => ?_) AllReadyH.nil
      go_simp
      refine (js_fileC (HX.out.bel (Bel.refl w3).drew) hp m (by omega)).mono ?_
      rintro e zf ⟨rfl, hbf⟩
      have HBf := Lib.hid ((Bel.refl w3).drew.trans hbf)
      have HXf := Lib.hid (HX.out.bel HBf.out)
      clear hbf
      dsimp only
      refine hK.out _ _ HXf.out.j.files (fun hHeld => ?_)
      clear hK K
      try simp only [Act.put, List.setIfInBounds_toArray, List.set_cons_zero, List.set_cons_succ]
      refine wpAnyH_ready (rs := [8]) (by kernel_rfl) (by simp) ?_
      refine AllReadyH.cons (o := { dst := some 42, op := Op.call { callee := Callee.value (Operand.func 35), args := #[Operand.tmp 37, Operand.tmp 40, Operand.tmp 41], argTypes := #[55, 9, 9] }, type := 31, pos := "journal.go:72", after := #[{ on := 3, ground := Ground.data }, { on := 6, ground := Ground.data }, { on := 7, ground := Ground.data }, { on := 6, ground := Ground.chain }], guard := none }) rfl (fun K hK => ?_) AllReadyH.nil
      go_simp
      refine (padd_any n₀ zf b M1 F3 (⟨(fileN p.data.toList m).toArray⟩ : ByteArray) (⟨(frameL s).toArray⟩ : ByteArray) HXf.out.prog (by omega) (by omega) HRO1.out.srt (good_len HRO1.out) (good_bytes HRO1.out) HRO1.out.room).mono ?_
      rintro e w4 ⟨rfl, hT⟩
      rw [str_list, str_list, HA.out] at hT ⊢
      obtain ⟨F4, hX4, hK4, hF4⟩ := HXf.out.step hT HM2.out
      have HX4 := Lib.hid hX4
      have HK4 := Lib.hid ((HK3.out.then HBf.out).trans hK4 (fun x hx => HF3.out x hx))
      have HF4 := Lib.hid (show ∀ k ∈ F4, k ∈ F ∨ w.heap.size ≤ k from fun k hk => by
        rcases hF4 k hk with h | h
        · exact HF3.out k h
        · exact Or.inr (Nat.le_trans (HK3.out.then HBf.out).size h))
      have cN := HX4.out.j.files
      clear hT hX4 hK4 hF4
      dsimp only
      refine hK.out _ _ cN (fun hHeld => ?_)
      clear hK K
      try simp only [Act.put, List.setIfInBounds_toArray, List.set_cons_zero, List.set_cons_succ]
      refine tk (oi := { dst := some 9, op := Op.assign (Operand.tmp 42), type := 31, pos := "journal.go:72", after := #[{ on := 8, ground := Ground.data }, { on := 8, ground := Ground.chain }, { on := 0, ground := Ground.phase }, { on := 1, ground := Ground.phase }, { on := 2, ground := Ground.phase }, { on := 3, ground := Ground.phase }, { on := 4, ground := Ground.phase }, { on := 5, ground := Ground.phase }, { on := 6, ground := Ground.phase }, { on := 7, ground := Ground.phase }, { on := 8, ground := Ground.phase }], guard := none }) (v := ?_) 9 rfl ?_ ?_
      rotate_left
      · (intro w hSw; (try dsimp only at hSw); first | (go_simp; done) | (go_simp; with_reducible rfl))
      try simp only [Act.put, List.setIfInBounds_toArray, List.set_cons_zero, List.set_cons_succ]
      refine wpAnyH_done (by kernel_rfl) ?_ _
      by_cases hra : ra = 0
      · subst hra
        rw [if_neg (by simp)] at HW
        clear cN HX HXf HBf
        have HX := HX4
        go_wp2_with (fail)
        refine wp_region_held_drew (S := fun z => z.cell? ⟨jb, 0, none⟩ = some (.pointer (some ⟨b, 0, none⟩))) (by kernel_rfl) HX.out.j.files (fun hHeld => ?_)
        refine tk (oi := { dst := some 46, op := Op.move (Operand.tmp 0), type := 108, pos := "journal.go:75", after := #[], guard := none }) (v := ?_) 0 rfl ?_ ?_
        rotate_left
        · (intro w hSw; (try dsimp only at hSw); first | (go_simp; done) | (go_simp; with_reducible rfl))
        try simp only [Act.put, List.setIfInBounds_toArray, List.set_cons_zero, List.set_cons_succ]
        refine tk (oi := { dst := some 47, op := Op.nilCheck (Operand.tmp 46), type := 0, pos := "journal.go:75", after := #[{ on := 0, ground := Ground.data }], guard := none }) (v := ?_) 1 rfl ?_ ?_
        rotate_left
        · (intro w hSw; (try dsimp only at hSw); first | (go_simp; done) | (go_simp; with_reducible rfl))
        try simp only [Act.put, List.setIfInBounds_toArray, List.set_cons_zero, List.set_cons_succ]
        refine tk (oi := { dst := some 48, op := Op.fieldAddr 153 (Operand.tmp 47) 0, type := 0, pos := "journal.go:75", after := #[{ on := 1, ground := Ground.data }], guard := none }) (v := ?_) 2 rfl ?_ ?_
        rotate_left
        · (intro w hSw; (try dsimp only at hSw); first | (go_simp; done) | (go_simp; with_reducible rfl))
        try simp only [Act.put, List.setIfInBounds_toArray, List.set_cons_zero, List.set_cons_succ]
        refine tk (oi := { dst := some 49, op := Op.load 55 (Operand.tmp 48), type := 55, pos := "journal.go:75", after := #[{ on := 2, ground := Ground.data }], guard := none }) (v := ?_) 3 rfl ?_ ?_
        rotate_left
        · (intro w hSw; (try dsimp only at hSw); first | (go_simp; done) | (go_simp; with_reducible rfl))
        try simp only [Act.put, List.setIfInBounds_toArray, List.set_cons_zero, List.set_cons_succ]
        refine tk (oi := { dst := some 50, op := Op.move (Operand.tmp 0), type := 108, pos := "journal.go:75", after := #[], guard := none }) (v := ?_) 4 rfl ?_ ?_
        rotate_left
        · (intro w hSw; (try dsimp only at hSw); first | (go_simp; done) | (go_simp; with_reducible rfl))
        try simp only [Act.put, List.setIfInBounds_toArray, List.set_cons_zero, List.set_cons_succ]
        refine tk (oi := { dst := some 51, op := Op.move (Operand.tmp 8), type := 3, pos := "journal.go:75", after := #[], guard := none }) (v := ?_) 5 rfl ?_ ?_
        rotate_left
        · (intro w hSw; (try dsimp only at hSw); first | (go_simp; done) | (go_simp; with_reducible rfl))
        try simp only [Act.put, List.setIfInBounds_toArray, List.set_cons_zero, List.set_cons_succ]
        refine wpAnyH_ready (rs := [6]) (by kernel_rfl) (by simp) ?_
        refine AllReadyH.cons (o := { dst := some 52, op := Op.call { callee := Callee.value (Operand.func 84), args := #[Operand.tmp 50, Operand.tmp 51], argTypes := #[108, 3] }, type := 9, pos := "journal.go:75", after := #[{ on := 4, ground := Ground.data }, { on := 5, ground := Ground.data }], guard := none }) rfl (fun K hK => ?_) AllReadyH.nil
        go_simp
        refine (js_fileC (HX.out.bel (Bel.refl w4).drew) hp m (by omega)).mono ?_
        rintro e zf ⟨rfl, hbf⟩
        have HBf := Lib.hid ((Bel.refl w4).drew.trans hbf)
        have HXf := Lib.hid (HX.out.bel HBf.out)
        clear hbf
        dsimp only
        refine hK.out _ _ HXf.out.j.files (fun hHeld => ?_)
        clear hK K
        try simp only [Act.put, List.setIfInBounds_toArray, List.set_cons_zero, List.set_cons_succ]
        refine wpAnyH_ready (rs := [7]) (by kernel_rfl) (by simp) ?_
        refine AllReadyH.cons (o := { dst := some 53, op := Op.call { callee := Callee.value (Operand.func 88), args := #[Operand.tmp 49, Operand.tmp 52], argTypes := #[55, 9] }, type := 31, pos := "journal.go:75", after := #[{ on := 3, ground := Ground.data }, { on := 6, ground := Ground.data }, { on := 6, ground := Ground.chain }], guard := none }) rfl (fun K hK => ?_) AllReadyH.nil
        go_simp
        refine (pflush_any n₀ zf b M2 F4 (⟨(fileN p.data.toList m).toArray⟩ : ByteArray) HXf.out.prog (by unfold maxLen; omega) HM2.out.srt (good_len HM2.out)).mono ?_
        rintro e w5 ⟨rfl, hT⟩
        rw [str_list] at hT ⊢
        have HT5 := Lib.hid (to_then (HK4.out.then HBf.out) HF4.out hT)
        have cN : w5.cell? ⟨jb, 0, none⟩ = some (.pointer (some ⟨b, 0, none⟩)) := by
          obtain ⟨F5, _, q2, _⟩ := hT
          exact q2.cell HXf.out.j.files HXf.out.out
        clear hT
        dsimp only
        refine hK.out _ _ cN (fun hHeld => ?_)
        clear hK K
        try simp only [Act.put, List.setIfInBounds_toArray, List.set_cons_zero, List.set_cons_succ]
        refine tk (oi := { dst := some 4, op := Op.assign (Operand.tmp 53), type := 31, pos := "journal.go:75", after := #[{ on := 7, ground := Ground.data }, { on := 7, ground := Ground.chain }, { on := 0, ground := Ground.phase }, { on := 1, ground := Ground.phase }, { on := 2, ground := Ground.phase }, { on := 3, ground := Ground.phase }, { on := 4, ground := Ground.phase }, { on := 5, ground := Ground.phase }, { on := 6, ground := Ground.phase }, { on := 7, ground := Ground.phase }], guard := none }) (v := ?_) 8 rfl ?_ ?_
        rotate_left
        · (intro w hSw; (try dsimp only at hSw); first | (go_simp; done) | (go_simp; with_reducible rfl))
        try simp only [Act.put, List.setIfInBounds_toArray, List.set_cons_zero, List.set_cons_succ]
        refine wpAnyH_done (by kernel_rfl) ?_ _
        go_wp2_with (fail)
        go_ret
        exact ⟨by rw [HW.out]; rfl, by rw [HW.out]; exact HT5.out⟩
      · rw [if_pos hra] at HW
        have hx3 : (ra != 0) = true := by rw [bne_iff_ne]; exact hra
        have hx2 : (ra == 0) = false := by rw [beq_eq_false_iff_ne]; exact hra
        clear cN
        go_wp2_with (fail)
        go_ret
        exact ⟨by rw [HW.out]; rfl, by rw [HW.out]; exact ⟨F4, HX4.out.prog, HK4.out, HF4.out⟩⟩
    · rw [if_pos hr] at HW
      have HT := Lib.hid (hT.before HB2.out)
      have hx3 : (r != 0) = true := by rw [bne_iff_ne]; exact hr
      have hx2 : (r == 0) = false := by rw [beq_eq_false_iff_ne]; exact hr
      clear hT hm
      go_wp2_with (fail)
      go_ret
      exact ⟨by rw [HW.out]; rfl, by rw [HW.out]; exact HT.out⟩
  · rw [if_pos he0] at HW
    have hx3 : (e0 != 0) = true := by rw [bne_iff_ne]; exact he0
    have hx2 : (e0 == 0) = false := by rw [beq_eq_false_iff_ne]; exact he0
    go_wp2_with (fail)
    go_ret
    exact ⟨by rw [HW.out]; rfl, by rw [HW.out]; exact ProgAt.to H.out.prog HB1.out⟩
end Go.Proofs.YtfbiinnenlgkfaaGreatDoor
/- journal's Trim. -/
namespace Go.Proofs.YtfbiinnenlgkfaaGreatDoor
open Go.RowKit Go.Deep Go.Maps

theorem trim_stop (p : List UInt8) (before : Int) {n : Nat} {r : List Nat} {M : RS} (h : ¬ (n : Int) < before) : trimL p before (n :: r) M = (0, M) := by
  cases r with
  | nil => rfl
  | cons m r => simp only [trimL]; rw [if_neg h]
theorem trim_one (p : List UInt8) (before : Int) {n : Nat} {M : RS} : trimL p before [n] M = (0, M) := rfl
theorem trim_step (p : List UInt8) (before : Int) {n : Nat} {r : List Nat} {M : RS} (hr : r ≠ []) (h : (n : Int) < before) : trimL p before (n :: r) M = if (dropS (fileN p n) M).1 = 0 then trimL p before r (dropS (fileN p n) M).2 else dropS (fileN p n) M := by
  cases r with
  | nil => exact absurd rfl hr
  | cons m r => simp only [trimL]; rw [if_pos h]
def TrRel (n₀ : Nat) (w1 : World) (b : Nat) (F : List Nat) (jb : Nat) (p : ByteArray) (most before : Int) (l : List Nat) (sv : Value) (M : RS) (iv : Value) (x : World) : Prop :=
  ∃ (i : Nat) (Mi : RS) (Fi : List Nat), iv = .int .i64 i ∧ i ≤ l.length ∧ JS n₀ x b Mi Fi jb p most ∧ Keep F w1 x ∧ (∀ k ∈ Fi, k ∈ F ∨ w1.heap.size ≤ k) ∧ OwnG intEl 0 x sv (l.map fun n : Nat => (n : Int)) ∧ trimL p.data.toList before l M = trimL p.data.toList before (l.drop i) Mi
set_option maxHeartbeats 4000000 in
set_option maxRecDepth 20000 in
theorem trim_any (n₀ : Nat) (w : World) (b : Nat) (M : RS) (F : List Nat) (jb : Nat) (p : ByteArray) (most before : Int) (h : JS n₀ w b M F jb p most) (hp : p.size ≤ 100) (hbefore : in64 before) :
    Calls Tryz.prog 53 #[.pointer (some ⟨jb, 0, none⟩), .int .i64 before] w fun e y => e = .returned (.int .i64 (jtrim p.data.toList before M).1) ∧ ProgTo n₀ w y b (jtrim p.data.toList before M).2 F := by
  have H := Lib.hid h
  have HBF := Lib.hid hbefore
  have HFL := Lib.hid (prog_lt h.prog)
  have HC := Lib.hid (segs_any n₀ w jb b p most M F h.prog h.ok h.j hp h.std0)
  have hsl := segs_len p.data.toList M.L
  have h60 := h.ok.len
  have hpl : p.data.toList.length = p.size := rfl
  unfold jtrim
  obtain ⟨l, hl⟩ : ∃ l, l = segsL p.data.toList M.L := ⟨_, rfl⟩
  have HL9 := Lib.hid (show ∀ n ∈ l, n ≤ 9999999 from fun n hn => by rw [hl] at hn; exact (mem_segs_file.1 hn).2.1)
  rw [← hl] at HC hsl ⊢
  clear h hl hbefore
  go_enter Tryz.func53, Tryz.ntmps53
  go_wp2_with (fail)
  refine HC.out.mono ?_
  rintro e w1 ⟨v, rfl, hown, hb1⟩
  have HV := Lib.hid hown
  have HB1 := Lib.hid hb1
  obtain ⟨sp, sc, hv⟩ := ownG_len hown
  rw [List.length_map] at hv
  subst hv
  have HVB := Lib.hid hown.lt
  clear hown hb1
  go_wp2_with (fail)
  go_loopw [13] (fun iv x => TrRel n₀ w1 b F jb p most before l (.slice sp l.length sc) M iv x) (fun iv _ => l.length - (intOf iv).toNat)
  case atStart => exact ⟨0, M, F, rfl, Nat.zero_le _, H.out.bel HB1.out, Keep.refl _ _, fun k hk => Or.inl hk, HV.out.low (Nat.zero_le _), by rw [List.drop_zero]⟩
  case round =>
    obtain ⟨i, Mi, Fi, rfl, hi, hx, hk, hfi, ho, htr⟩ := hrel
    have HX := Lib.hid hx
    have HKi := Lib.hid hk
    have HFi := Lib.hid hfi
    have HO := Lib.hid ho
    have HTR := Lib.hid htr
    clear hx hk hfi ho htr
    by_cases hlt : i < l.length
    · obtain ⟨g, cap, hv, hcap, _, e0⟩ := int_at HO.out i hlt
      simp only [Value.slice.injEq, true_and] at hv
      obtain ⟨rfl, rfl⟩ := hv
      have hn9 := HL9.out l[i] (List.getElem_mem hlt)
      have HDR := Lib.hid (show l.drop i = l[i] :: l.drop (i + 1) from List.drop_eq_getElem_cons hlt)
      obtain ⟨n, hn⟩ : ∃ n, n = l[i] := ⟨_, rfl⟩
      rw [← hn] at e0 hn9 HDR
      clear hn
      by_cases hnb : (n : Int) < before
      · by_cases hil : i + 1 = l.length
        · have hq : ((i : Int) == (l.length : Int) - 1) = true := by rw [beq_iff_eq]; omega
          have HE := Lib.hid (show trimL p.data.toList before l M = (0, Mi) by
            rw [HTR.out, HDR.out, show l.drop (i + 1) = [] from List.drop_eq_nil_of_le (by omega)]; exact trim_one _ _)
          clear hil
          go_wp2_with (fail)
          go_ret
          exact ⟨by rw [HE.out]; rfl, by rw [HE.out]; exact ⟨Fi, HX.out.prog, (Keep.of_bel HB1.out F).trans HKi.out (fun x hx => Or.inl hx), fun k hk => (HFi.out k hk).imp id (fun h => Nat.le_trans HB1.out.size h)⟩⟩
        · have hq : ((i : Int) == (l.length : Int) - 1) = false := by rw [beq_eq_false_iff_ne]; omega
          have HE := Lib.hid (show trimL p.data.toList before l M = if (dropS (fileN p.data.toList n) Mi).1 = 0 then trimL p.data.toList before (l.drop (i + 1)) (dropS (fileN p.data.toList n) Mi).2 else dropS (fileN p.data.toList n) Mi by
            rw [HTR.out, HDR.out]
            exact trim_step _ _ (by intro e; have := congrArg List.length e; rw [List.length_drop, List.length_nil] at this; omega) hnb)
          obtain ⟨rd, Md, hD⟩ : ∃ rd Md, dropS (fileN p.data.toList n) Mi = (rd, Md) := ⟨_, _, rfl⟩
          have HD := Lib.hid hD
          have HMd := Lib.hid (show Md.ok by have := drop_ok HX.out.ok (fileN p.data.toList n); rwa [hD] at this)
          rw [hD] at HE
          have hfl := file_len p.data.toList (n := n) (by omega)
          have hfz := str_len (fileN p.data.toList n)
          have hgw : g < w1.heap.size ∧ w.heap.size ≤ g := ⟨(HVB.out g rfl).2, (HVB.out g rfl).1⟩
          have hgF : g ∉ Fi := fun hm => by
            rcases HFi.out g hm with h | h
            · have := HFL.out g h; omega
            · omega
          clear hD hil
          obtain ⟨x0, hx0⟩ : ∃ x0, x0 = Mi := ⟨_, rfl⟩
          clear hx0 x0
          go_wp2_with (fail)
          refine wp_region_held_drew (S := fun z => z.cell? ⟨jb, 0, none⟩ = some (.pointer (some ⟨b, 0, none⟩))) (by kernel_rfl) HX.out.j.files (fun hHeld => ?_)
          refine tk (oi := { dst := some 28, op := Op.move (Operand.tmp 0), type := 108, pos := "journal.go:163", after := #[], guard := none }) (v := ?_) 0 rfl ?_ ?_
          rotate_left
          · (intro w hSw; (try dsimp only at hSw); first | (go_simp; done) | (go_simp; with_reducible rfl))
          try simp only [Act.put, List.setIfInBounds_toArray, List.set_cons_zero, List.set_cons_succ]
          refine tk (oi := { dst := some 29, op := Op.nilCheck (Operand.tmp 28), type := 0, pos := "journal.go:163", after := #[{ on := 0, ground := Ground.data }], guard := none }) (v := ?_) 1 rfl ?_ ?_
          rotate_left
          · (intro w hSw; (try dsimp only at hSw); first | (go_simp; done) | (go_simp; with_reducible rfl))
          try simp only [Act.put, List.setIfInBounds_toArray, List.set_cons_zero, List.set_cons_succ]
          refine tk (oi := { dst := some 30, op := Op.fieldAddr 153 (Operand.tmp 29) 0, type := 0, pos := "journal.go:163", after := #[{ on := 1, ground := Ground.data }], guard := none }) (v := ?_) 2 rfl ?_ ?_
          rotate_left
          · (intro w hSw; (try dsimp only at hSw); first | (go_simp; done) | (go_simp; with_reducible rfl))
          try simp only [Act.put, List.setIfInBounds_toArray, List.set_cons_zero, List.set_cons_succ]
          refine tk (oi := { dst := some 31, op := Op.load 55 (Operand.tmp 30), type := 55, pos := "journal.go:163", after := #[{ on := 2, ground := Ground.data }], guard := none }) (v := ?_) 3 rfl ?_ ?_
          rotate_left
          · (intro w hSw; (try dsimp only at hSw); first | (go_simp; done) | (go_simp; with_reducible rfl))
          try simp only [Act.put, List.setIfInBounds_toArray, List.set_cons_zero, List.set_cons_succ]
          refine tk (oi := { dst := some 32, op := Op.move (Operand.tmp 0), type := 108, pos := "journal.go:163", after := #[], guard := none }) (v := ?_) 4 rfl ?_ ?_
          rotate_left
          · (intro w hSw; (try dsimp only at hSw); first | (go_simp; done) | (go_simp; with_reducible rfl))
          try simp only [Act.put, List.setIfInBounds_toArray, List.set_cons_zero, List.set_cons_succ]
          refine tk (oi := { dst := some 33, op := Op.move (Operand.tmp 7), type := 3, pos := "journal.go:163", after := #[], guard := none }) (v := ?_) 5 rfl ?_ ?_
          rotate_left
          · (intro w hSw; (try dsimp only at hSw); first | (go_simp; done) | (go_simp; with_reducible rfl))
          try simp only [Act.put, List.setIfInBounds_toArray, List.set_cons_zero, List.set_cons_succ]
          refine wpAnyH_ready (rs := [6]) (by kernel_rfl) (by simp) ?_
          refine AllReadyH.cons (o := { dst := some 34, op := Op.call { callee := Callee.value (Operand.func 84), args := #[Operand.tmp 32, Operand.tmp 33], argTypes := #[108, 3] }, type := 9, pos := "journal.go:163", after := #[{ on := 4, ground := Ground.data }, { on := 5, ground := Ground.data }], guard := none }) rfl (fun K hK => ?_) AllReadyH.nil
          go_simp
          refine (js_fileC (HX.out.bel (Bel.refl _).drew) hp n (by omega)).mono ?_
          rintro e zf ⟨rfl, hbf⟩
          have HBf := Lib.hid ((Bel.refl _).drew.trans hbf)
          have HXf := Lib.hid (HX.out.bel HBf.out)
          clear hbf
          dsimp only
          refine hK.out _ _ HXf.out.j.files (fun hHeld => ?_)
          clear hK K
          try simp only [Act.put, List.setIfInBounds_toArray, List.set_cons_zero, List.set_cons_succ]
          refine wpAnyH_ready (rs := [7]) (by kernel_rfl) (by simp) ?_
          refine AllReadyH.cons (o := { dst := some 35, op := Op.call { callee := Callee.value (Operand.func 90), args := #[Operand.tmp 31, Operand.tmp 34], argTypes := #[55, 9] }, type := 31, pos := "journal.go:163", after := #[{ on := 3, ground := Ground.data }, { on := 6, ground := Ground.data }, { on := 6, ground := Ground.chain }], guard := none }) rfl (fun K hK => ?_) AllReadyH.nil
          go_simp
          refine (pdrop_any n₀ zf b Mi Fi (⟨(fileN p.data.toList n).toArray⟩ : ByteArray) HXf.out.prog (by unfold maxLen; omega) HX.out.ok.srt (good_len HX.out.ok)).mono ?_
          rintro e w4 ⟨rfl, hT⟩
          rw [str_list, HD.out] at hT ⊢
          obtain ⟨F4, hX4, hK4, hF4⟩ := HXf.out.step hT HMd.out
          have HX4 := Lib.hid hX4
          have HK4 := Lib.hid ((HKi.out.then HBf.out).trans hK4 (fun x hx => HFi.out x hx))
          have HF4 := Lib.hid (show ∀ k ∈ F4, k ∈ F ∨ w1.heap.size ≤ k from fun k hk => by
            rcases hF4 k hk with h | h
            · exact HFi.out k h
            · exact Or.inr (Nat.le_trans (HKi.out.then HBf.out).size h))
          have HO4 := Lib.hid ((HO.out.bel HBf.out).keep hK4 (fun j hj => by simp only [Value.ownBlock, Option.some.injEq] at hj; subst hj; exact hgF))
          have cN := HX4.out.j.files
          clear hT hX4 hK4 hF4
          dsimp only
          refine hK.out _ _ cN (fun hHeld => ?_)
          clear hK K
          try simp only [Act.put, List.setIfInBounds_toArray, List.set_cons_zero, List.set_cons_succ]
          refine tk (oi := { dst := some 8, op := Op.assign (Operand.tmp 35), type := 31, pos := "journal.go:163", after := #[{ on := 7, ground := Ground.data }, { on := 7, ground := Ground.chain }, { on := 0, ground := Ground.phase }, { on := 1, ground := Ground.phase }, { on := 2, ground := Ground.phase }, { on := 3, ground := Ground.phase }, { on := 4, ground := Ground.phase }, { on := 5, ground := Ground.phase }, { on := 6, ground := Ground.phase }, { on := 7, ground := Ground.phase }], guard := none }) (v := ?_) 8 rfl ?_ ?_
          rotate_left
          · (intro w hSw; (try dsimp only at hSw); first | (go_simp; done) | (go_simp; with_reducible rfl))
          try simp only [Act.put, List.setIfInBounds_toArray, List.set_cons_zero, List.set_cons_succ]
          refine wpAnyH_done (by kernel_rfl) ?_ _
          by_cases hrd : rd = 0
          · subst hrd
            rw [if_pos rfl] at HE
            clear cN
            go_wp2_with (fail)
            go_roundw
            case rel => exact ⟨i + 1, Md, F4, by go_num, by omega, HX4.out, HK4.out, HF4.out, HO4.out, HE.out⟩
            case measure => simp [intOf]; omega
          · rw [if_neg hrd] at HE
            have hx3 : (rd != 0) = true := by rw [bne_iff_ne]; exact hrd
            have hx2 : (rd == 0) = false := by rw [beq_eq_false_iff_ne]; exact hrd
            clear cN
            go_wp2_with (fail)
            go_ret
            exact ⟨by rw [HE.out]; rfl, by rw [HE.out]; exact ⟨F4, HX4.out.prog, (Keep.of_bel HB1.out F).trans HK4.out (fun x hx => Or.inl hx), fun k hk => (HF4.out k hk).imp id (fun h => Nat.le_trans HB1.out.size h)⟩⟩
      · have HE := Lib.hid (show trimL p.data.toList before l M = (0, Mi) by rw [HTR.out, HDR.out]; exact trim_stop _ _ hnb)
        have hge : before ≤ (n : Int) := by omega
        go_wp2_with (fail)
        go_ret
        exact ⟨by rw [HE.out]; rfl, by rw [HE.out]; exact ⟨Fi, HX.out.prog, (Keep.of_bel HB1.out F).trans HKi.out (fun x hx => Or.inl hx), fun k hk => (HFi.out k hk).imp id (fun h => Nat.le_trans HB1.out.size h)⟩⟩
    · obtain rfl : i = l.length := by omega
      have HE := Lib.hid (show trimL p.data.toList before l M = (0, Mi) by rw [HTR.out, List.drop_length]; rfl)
      go_wp2_with (fail)
      go_ret
      exact ⟨by rw [HE.out]; rfl, by rw [HE.out]; exact ⟨Fi, HX.out.prog, (Keep.of_bel HB1.out F).trans HKi.out (fun x hx => Or.inl hx), fun k hk => (HFi.out k hk).imp id (fun h => Nat.le_trans HB1.out.size h)⟩⟩
end Go.Proofs.YtfbiinnenlgkfaaGreatDoor
/- moultref7's Trim. -/
namespace Go.Proofs.YtfbiinnenlgkfaaGreatDoor
open Go.RowKit Go.Deep Go.Maps

end Go.Proofs.YtfbiinnenlgkfaaGreatDoor
/- journal's Open. -/
namespace Go.Proofs.YtfbiinnenlgkfaaGreatDoor
open Go.RowKit Go.Deep Go.Maps

theorem chg_room (M : RS) (L' : List FI) : (chgS M L').2.room = M.room := by
  unfold chgS
  split
  · exact turn_room M
  · exact turn_room M
theorem add_room (M : RS) (nm t : List UInt8) : (addS nm t M).2.room = M.room := by
  unfold addS; split; exact chg_room M _; rfl
theorem room_sizes {M : RS} (h : M.ok) (hr : M.room ≤ 1000000) : ∀ y ∈ M.L, y.bytes.length ≤ 1000000 := fun y hy => by
  have h1 := bytes_mem hy
  have h2 := h.fits
  omega
def OpPost (n₀ : Nat) (w : World) (b : Nat) (F : List Nat) (nm : ByteArray) (most : Int) (M' : RS) (L : List (List (List UInt8))) (err : Int) (e : Ending) (y : World) : Prop :=
  ∃ jv v F', e = .returned (.tuple #[jv, v, .int .i64 err]) ∧ ProgAt n₀ y b M' F' ∧ Keep F w y ∧ (∀ k ∈ F', k ∈ F ∨ w.heap.size ≤ k) ∧ OwnQ w y F' v L ∧
    (err = 0 → ∃ jb, jv = .pointer (some ⟨jb, 0, none⟩) ∧ JAt y jb b nm most ∧ Qb w y F' jb) ∧ (err ≠ 0 → jv = .pointer none)
theorem open_new {p : List UInt8} {M : RS} (hM : M.ok) (h0 : segsL p M.L = []) (ht : (jturn p M).1 = 0) : segsL p (jturn p M).2.L = [1] ∧ (jturn p M).2.gone = false ∧ readSegs p [1] (jturn p M).2 = (0, [], (jturn p M).2) := by
  have hl : lastN p M.L = 0 := last_zero.2 h0
  obtain ⟨h1, -, h3, h4, -⟩ := (jturn_segs hM (by omega)).1 ht
  rw [hl, h0] at h1
  rw [hl] at h4
  refine ⟨h1, h3, ?_⟩
  have hb : bytesOf (fileN p 1) (jturn p M).2 = [] := bytesOf_get h4
  simp only [readSegs, hb, read_nil]
  simp
set_option maxHeartbeats 4000000 in
theorem open_rest (n₀ : Nat) (w x : World) (b : Nat) (M : RS) (F F0 : List Nat) (jb : Nat) (nm : ByteArray) (most : Int) (h : JS n₀ x b M F jb nm most) (hg : M.gone = false) (hnm : nm.size ≤ 100) (hr : M.room ≤ 1000000) :
    Calls Tryz.prog 96 #[.pointer (some ⟨jb, 0, none⟩)] x fun e y => ∃ p cap, e = .returned (.slice p (segsL nm.data.toList M.L).length cap) ∧ StrsAt y p ((segsL nm.data.toList M.L).map (fileN nm.data.toList)) ∧ Bel x y := by
  refine (jnames_any n₀ x jb b nm most M F h.prog h.ok h.j hnm h.std0).mono ?_
  rintro e y ⟨v, rfl, ho, hb⟩
  obtain ⟨p, cap, rfl, hat⟩ := ownG_strs ho
  exact ⟨p, cap, by rw [List.length_map], hat, hb⟩
set_option maxHeartbeats 4000000 in
theorem open_any (n₀ : Nat) (w : World) (b : Nat) (M : RS) (F : List Nat) (nm : ByteArray) (most : Int) (h : ProgAt n₀ w b M F) (hM : M.ok) (hstd : ∀ z, Keep F w z → Std z) (hnm : nm.size ≤ 100) (hr : M.room ≤ 1000000) :
    Calls Tryz.prog 58 #[.pointer (some ⟨b, 0, none⟩), .string nm, .int .i64 most] w (OpPost n₀ w b F nm most (jopen nm.data.toList M).2.2 (jopen nm.data.toList M).2.1 (jopen nm.data.toList M).1) := by
  have HP := Lib.hid h
  have HM := Lib.hid hM
  have HS := Lib.hid hstd
  have HFL := Lib.hid (prog_lt h)
  have HR := Lib.hid hr
  clear h hM hstd hr
  cases hN : nameJ nm.data.toList with
  | false =>
    have HO := Lib.hid (show jopen nm.data.toList M = (3, [], M) by unfold jopen; rw [if_pos hN])
    have HNJ := Lib.hid hN; clear hN
    go_enter Tryz.func58, Tryz.ntmps58
    go_wp2_with (fail)
    refine (jisname_any nm w (by unfold maxLen; omega)).mono ?_
    rintro e w1 ⟨rfl, hd1⟩
    rw [HNJ.out]
    have HB1 := Lib.hid hd1.bel; clear hd1
    go_wp2_with (fail)
    go_ret3
    rw [HO.out]
    exact ⟨_, _, F, rfl, HP.out.bel HB1.out, Keep.of_bel HB1.out F, fun k hk => Or.inl hk, OwnQ.nil _ _ _, (fun hc => absurd hc (by simp)), (fun _ => rfl)⟩
  | true =>
    have HNJ := Lib.hid hN
    cases hg : M.gone with
    | true =>
      have HO := Lib.hid (show jopen nm.data.toList M = (7, [], M) by unfold jopen; rw [if_neg (by rw [hN]; simp), if_pos hg])
      clear hN
      go_enter Tryz.func58, Tryz.ntmps58
      go_wp2_with (fail)
      refine (jisname_any nm w (by unfold maxLen; omega)).mono ?_
      rintro e w1 ⟨rfl, hd1⟩
      rw [HNJ.out]
      have HB1 := Lib.hid hd1.bel; clear hd1
      go_wp2_with (fail)
      refine (dead_any n₀ _ b M F (HP.out.bel HB1.out)).mono ?_
      rintro e w2 ⟨rfl, hd2⟩
      rw [hg]
      have HB2 := Lib.hid (HB1.out.trans hd2.bel); clear hd2
      go_wp2_with (fail)
      go_ret3
      rw [HO.out]
      exact ⟨_, _, F, rfl, HP.out.bel HB2.out, Keep.of_bel HB2.out F, fun k hk => Or.inl hk, OwnQ.nil _ _ _, (fun hc => absurd hc (by simp)), (fun _ => rfl)⟩
    | false =>
      have HO := Lib.hid (show jopen nm.data.toList M = if segsL nm.data.toList M.L = [] then ((jturn nm.data.toList M).1, [], (jturn nm.data.toList M).2) else readSegs nm.data.toList (segsL nm.data.toList M.L) M by
        unfold jopen; rw [if_neg (by rw [hN]; simp), if_neg (by rw [hg]; simp)])
      clear hN
      have HG := Lib.hid hg; clear hg
      go_enter Tryz.func58, Tryz.ntmps58
      go_wp2_with (fail)
      refine (jisname_any nm w (by unfold maxLen; omega)).mono ?_
      rintro e w1 ⟨rfl, hd1⟩
      rw [HNJ.out]
      have HB1 := Lib.hid hd1.bel; clear hd1
      go_wp2_with (fail)
      refine (dead_any n₀ _ b M F (HP.out.bel HB1.out)).mono ?_
      rintro e w2 ⟨rfl, hd2⟩
      rw [HG.out]
      have HB2 := Lib.hid (HB1.out.trans hd2.bel); clear hd2
      go_wp2_with (fail)
      obtain ⟨jb, hjb⟩ : ∃ jb, jb = w2.heap.size := ⟨_, rfl⟩
      have HJB := Lib.hid hjb
      obtain ⟨x0, hx0⟩ : ∃ x0, x0 = w2.alloc (.cells #[.pointer (some ⟨b, 0, none⟩), .string nm, .int .i64 most] 153) := ⟨_, rfl⟩
      have HBX := Lib.hid (show Bel w x0 by rw [hx0]; exact HB2.out.alloc _)
      have HX := Lib.hid (show JS n₀ x0 b M F jb nm most from
        ⟨HP.out.bel HBX.out, HM.out, by rw [hjb, hx0]; exact ⟨by go_simp, by go_simp, by go_simp⟩, fun hm => by have h1 := HFL.out jb hm; have h2 := HB2.out.size; omega, fun z hz => HS.out z ((Keep.of_bel HBX.out F).trans hz (fun k hk => Or.inl hk))⟩)
      have HJW := Lib.hid (show w.heap.size ≤ jb by rw [hjb]; exact HB2.out.size)
      rw [← hjb, ← hx0]
      clear hx0 hjb HJB
      refine (num_any n₀ x0 jb b nm most M F HX.out.prog HX.out.ok HX.out.j hnm HX.out.std0).mono ?_
      rintro e x4 ⟨rfl, hb4⟩
      have HX4 := Lib.hid (HX.out.bel hb4)
      have HB4 := Lib.hid (HBX.out.trans hb4)
      clear hb4
      by_cases hs0 : segsL nm.data.toList M.L = []
      · have hl0 : lastN nm.data.toList M.L = 0 := last_zero.2 hs0
        rw [if_pos hs0] at HO
        rw [hl0]
        go_wp2_with (fail)
        refine (jturn_any n₀ x4 b M F jb nm most HX4.out hnm (by rw [hl0]; omega)).mono ?_
        rintro e x5 ⟨rfl, hT⟩
        obtain ⟨rt, M1, ht⟩ : ∃ rt M1, jturn nm.data.toList M = (rt, M1) := ⟨_, _, rfl⟩
        have HON := Lib.hid (open_new HM.out hs0)
        have HM1 := Lib.hid (show M1.ok by have := jturn_ok HM.out nm.data.toList; rwa [ht] at this)
        have HR1 := Lib.hid (show M1.room ≤ 1000000 by have := add_room M (fileN nm.data.toList (lastN nm.data.toList M.L + 1)) []; rw [show addS (fileN nm.data.toList (lastN nm.data.toList M.L + 1)) [] M = (rt, M1) from ht] at this; simp only at this; rw [this]; exact HR.out)
        rw [ht] at hT HON HO ⊢
        clear ht
        obtain ⟨F5, hX5, hK5, hF5⟩ := HX4.out.step hT HM1.out
        have HX5 := Lib.hid hX5
        have HK5 := Lib.hid (show Keep F w x5 from (Keep.of_bel HB4.out F).trans hK5 (fun k hk => Or.inl hk))
        have HF5 := Lib.hid (show ∀ k ∈ F5, k ∈ F ∨ w.heap.size ≤ k from fun k hk => (hF5 k hk).imp id (fun h => Nat.le_trans HB4.out.size h))
        clear hT hX5 hK5 hF5
        by_cases hrt : rt = 0
        · subst hrt
          obtain ⟨hs1, hg1, hrd1⟩ := HON.out rfl
          have HG1 := Lib.hid hg1
          have HRD1 := Lib.hid (show readSegs nm.data.toList (segsL nm.data.toList M1.L) M1 = (0, [], M1) by rw [hs1]; exact hrd1)
          clear hs1 hg1 hrd1
          go_wp2_with (fail)
          refine (open_rest n₀ w _ b M1 F5 F5 jb nm most HX5.out HG1.out hnm HR1.out).mono ?_
          rintro e x1 ⟨sp, sc, rfl, hat, hbn⟩
          have HSA := Lib.hid hat
          have HY1 := Lib.hid (HX5.out.bel hbn)
          have HBN := Lib.hid hbn
          clear hat hbn
          have hsl := segs_len nm.data.toList M1.L
          have h60 := HX5.out.ok.len
          have hml : ((segsL nm.data.toList M1.L).map (fileN nm.data.toList)).length = (segsL nm.data.toList M1.L).length := List.length_map _
          have HSO := Lib.hid (segof_any x1 sp sc ((segsL nm.data.toList M1.L).map (fileN nm.data.toList)) HSA.out (by omega))
          rw [hml] at HSO
          have HRS := Lib.hid (fun (z : World) (sv : Value) (hp : ProgAt n₀ z b M1 F5) (hs : OwnG segEl 0 z sv (segF ((segsL nm.data.toList M1.L).map (fileN nm.data.toList)))) (hq : ∀ k, sv.ownBlock = some k → k < z.heap.size ∧ k ∉ F5) =>
            readall_any n₀ z b M1 F5 nm.data.toList (segsL nm.data.toList M1.L) sv hp HX5.out.ok HG1.out hnm (fun n hn => ⟨(mem_segs_file.1 hn).2.1, Option.isSome_iff_exists.1 ((mem_segs_get HX5.out.ok.srt).1 hn).2.2⟩) (by omega) (room_sizes HX5.out.ok HR1.out) hs hq)
          obtain ⟨er, LL, MF, hread⟩ : ∃ er LL MF, readSegs nm.data.toList (segsL nm.data.toList M1.L) M1 = (er, LL, MF) := ⟨_, _, _, rfl⟩
          rw [hread] at HRS
          have HRD := Lib.hid hread
          clear hread hml
          go_wp2_with (fail)
          refine HSO.out.mono ?_
          rintro e x2 ⟨sv, rfl, hso, hbs⟩
          have HY2 := Lib.hid (HY1.out.bel hbs)
          have HSV := Lib.hid (hso.low (Nat.zero_le _))
          have HSQ := Lib.hid (show ∀ k, sv.ownBlock = some k → k < x2.heap.size ∧ k ∉ F5 from fun k hk => ⟨(hso.lt k hk).2, fun hm => by
            have h1 := (hso.lt k hk).1
            have h2 := prog_lt HY1.out.prog k hm
            omega⟩)
          have HB12 := Lib.hid (HBN.out.trans hbs)
          clear hso hbs
          go_wp2_with (fail)
          refine (HRS.out x2 sv HY2.out.prog HSV.out HSQ.out).mono ?_
          rintro e x3 ⟨v, F3, rfl, hp3, hk3, hf3, hq3⟩
          have HP3 := Lib.hid hp3
          have HK3 := Lib.hid (show Keep F w x3 from (HK5.out.then HB12.out).trans hk3 (fun k hk => HF5.out k hk))
          have HF3 := Lib.hid (show ∀ k ∈ F3, k ∈ F ∨ w.heap.size ≤ k from fun k hk => by
            rcases hf3 k hk with h | h
            · exact HF5.out k h
            · exact Or.inr (Nat.le_trans (HK5.out.then HB12.out).size h))
          have HQ3 := Lib.hid (hq3.lower (w' := w) (HK5.out.then HB12.out).size)
          have HJ3 := Lib.hid (HY2.out.j.keep (hk3.block jb HY2.out.j.lt HY2.out.out))
          have HJQ := Lib.hid (show Qb w x3 F3 jb from ⟨HJW.out, Nat.lt_of_lt_of_le HY2.out.j.lt hk3.size, fun hm => by
            rcases hf3 jb hm with h | h
            · exact HY2.out.out h
            · have := HY2.out.j.lt; omega⟩)
          clear hp3 hk3 hf3 hq3
          by_cases her : er = 0
          · subst her
            have HE := Lib.hid (show jopen nm.data.toList M = (0, LL, MF) by rw [HO.out]; exact HRD1.out.symm.trans HRD.out)
            go_wp2_with (fail)
            go_ret3
            rw [HE.out]
            exact ⟨_, _, F3, rfl, HP3.out, HK3.out, HF3.out, HQ3.out, (fun _ => ⟨jb, rfl, HJ3.out, HJQ.out⟩), (fun hc => absurd rfl hc)⟩
          · have HE := Lib.hid (show jopen nm.data.toList M = (er, [], MF) by
              have hl : LL = [] := by
                have := read_err nm.data.toList (segsL nm.data.toList M1.L) M1 (by rw [HRD.out]; exact her)
                rwa [HRD.out] at this
              rw [HO.out, ← hl]; exact absurd (congrArg Prod.fst (HRD.out.symm.trans HRD1.out)) her)
            have hx3 : (er != 0) = true := by rw [bne_iff_ne]; exact her
            have hx2 : (er == 0) = false := by rw [beq_eq_false_iff_ne]; exact her
            go_wp2_with (fail)
            go_ret3
            rw [HE.out]
            exact ⟨_, _, F3, rfl, HP3.out, HK3.out, HF3.out, OwnQ.nil _ _ _, (fun hc => absurd hc her), (fun _ => rfl)⟩
        · have hx3 : (rt != 0) = true := by rw [bne_iff_ne]; exact hrt
          have hx2 : (rt == 0) = false := by rw [beq_eq_false_iff_ne]; exact hrt
          go_wp2_with (fail)
          go_ret3
          rw [HO.out]
          exact ⟨_, _, F5, rfl, HX5.out.prog, HK5.out, HF5.out, OwnQ.nil _ _ _, (fun hc => absurd hc hrt), (fun _ => rfl)⟩
      · rw [if_neg hs0] at HO
        have hne0 : ((lastN nm.data.toList M.L : Nat) : Int) ≠ 0 := fun e => hs0 (last_zero.1 (by omega))
        have HK4 := Lib.hid (Keep.of_bel HB4.out F)
        have HF4 := Lib.hid (show ∀ k ∈ F, k ∈ F ∨ w.heap.size ≤ k from fun k hk => Or.inl hk)
        generalize lastN nm.data.toList M.L = ln at *
        have hne1 : ((ln : Int) == 0) = false := by rw [beq_eq_false_iff_ne]; exact hne0
        clear hne0
        go_wp2_with (fail)
        refine (open_rest n₀ w _ b M F F jb nm most HX4.out HG.out hnm HR.out).mono ?_
        rintro e x1 ⟨sp, sc, rfl, hat, hbn⟩
        have HSA := Lib.hid hat
        have HY1 := Lib.hid (HX4.out.bel hbn)
        have HBN := Lib.hid hbn
        clear hat hbn
        have hsl := segs_len nm.data.toList M.L
        have h60 := HX4.out.ok.len
        have hml : ((segsL nm.data.toList M.L).map (fileN nm.data.toList)).length = (segsL nm.data.toList M.L).length := List.length_map _
        have HSO := Lib.hid (segof_any x1 sp sc ((segsL nm.data.toList M.L).map (fileN nm.data.toList)) HSA.out (by omega))
        rw [hml] at HSO
        have HRS := Lib.hid (fun (z : World) (sv : Value) (hp : ProgAt n₀ z b M F) (hs : OwnG segEl 0 z sv (segF ((segsL nm.data.toList M.L).map (fileN nm.data.toList)))) (hq : ∀ k, sv.ownBlock = some k → k < z.heap.size ∧ k ∉ F) =>
          readall_any n₀ z b M F nm.data.toList (segsL nm.data.toList M.L) sv hp HX4.out.ok HG.out hnm (fun n hn => ⟨(mem_segs_file.1 hn).2.1, Option.isSome_iff_exists.1 ((mem_segs_get HX4.out.ok.srt).1 hn).2.2⟩) (by omega) (room_sizes HX4.out.ok HR.out) hs hq)
        obtain ⟨er, LL, MF, hread⟩ : ∃ er LL MF, readSegs nm.data.toList (segsL nm.data.toList M.L) M = (er, LL, MF) := ⟨_, _, _, rfl⟩
        rw [hread] at HRS
        have HRD := Lib.hid hread
        clear hread hml
        go_wp2_with (fail)
        refine HSO.out.mono ?_
        rintro e x2 ⟨sv, rfl, hso, hbs⟩
        have HY2 := Lib.hid (HY1.out.bel hbs)
        have HSV := Lib.hid (hso.low (Nat.zero_le _))
        have HSQ := Lib.hid (show ∀ k, sv.ownBlock = some k → k < x2.heap.size ∧ k ∉ F from fun k hk => ⟨(hso.lt k hk).2, fun hm => by
          have h1 := (hso.lt k hk).1
          have h2 := prog_lt HY1.out.prog k hm
          omega⟩)
        have HB12 := Lib.hid (HBN.out.trans hbs)
        clear hso hbs
        go_wp2_with (fail)
        refine (HRS.out x2 sv HY2.out.prog HSV.out HSQ.out).mono ?_
        rintro e x3 ⟨v, F3, rfl, hp3, hk3, hf3, hq3⟩
        have HP3 := Lib.hid hp3
        have HK3 := Lib.hid (show Keep F w x3 from (HK4.out.then HB12.out).trans hk3 (fun k hk => HF4.out k hk))
        have HF3 := Lib.hid (show ∀ k ∈ F3, k ∈ F ∨ w.heap.size ≤ k from fun k hk => by
          rcases hf3 k hk with h | h
          · exact HF4.out k h
          · exact Or.inr (Nat.le_trans (HK4.out.then HB12.out).size h))
        have HQ3 := Lib.hid (hq3.lower (w' := w) (HK4.out.then HB12.out).size)
        have HJ3 := Lib.hid (HY2.out.j.keep (hk3.block jb HY2.out.j.lt HY2.out.out))
        have HJQ := Lib.hid (show Qb w x3 F3 jb from ⟨HJW.out, Nat.lt_of_lt_of_le HY2.out.j.lt hk3.size, fun hm => by
          rcases hf3 jb hm with h | h
          · exact HY2.out.out h
          · have := HY2.out.j.lt; omega⟩)
        clear hp3 hk3 hf3 hq3
        by_cases her : er = 0
        · subst her
          have HE := Lib.hid (show jopen nm.data.toList M = (0, LL, MF) by rw [HO.out]; exact HRD.out)
          go_wp2_with (fail)
          go_ret3
          rw [HE.out]
          exact ⟨_, _, F3, rfl, HP3.out, HK3.out, HF3.out, HQ3.out, (fun _ => ⟨jb, rfl, HJ3.out, HJQ.out⟩), (fun hc => absurd rfl hc)⟩
        · have HE := Lib.hid (show jopen nm.data.toList M = (er, [], MF) by
            have hl : LL = [] := by
              have := read_err nm.data.toList (segsL nm.data.toList M.L) M (by rw [HRD.out]; exact her)
              rwa [HRD.out] at this
            rw [HO.out, ← hl]; exact HRD.out)
          have hx3 : (er != 0) = true := by rw [bne_iff_ne]; exact her
          have hx2 : (er == 0) = false := by rw [beq_eq_false_iff_ne]; exact her
          go_wp2_with (fail)
          go_ret3
          rw [HE.out]
          exact ⟨_, _, F3, rfl, HP3.out, HK3.out, HF3.out, OwnQ.nil _ _ _, (fun hc => absurd hc her), (fun _ => rfl)⟩
end Go.Proofs.YtfbiinnenlgkfaaGreatDoor
/- moultref7's Open. -/
namespace Go.Proofs.YtfbiinnenlgkfaaGreatDoor
open Go.RowKit Go.Deep Go.Maps

end Go.Proofs.YtfbiinnenlgkfaaGreatDoor
/- moultref7's Write. -/
namespace Go.Proofs.YtfbiinnenlgkfaaGreatDoor
open Go.RowKit Go.Deep Go.Maps

end Go.Proofs.YtfbiinnenlgkfaaGreatDoor
/- Mathematics of a journal whose segments hold batches (HoldX), through calls, crashes and openings; no program. -/
namespace Go.Proofs.YtfbiinnenlgkfaaGreatDoor
open Go.RowKit Go.Deep Go.Maps

def frsL (bs : List (List (List UInt8))) : List UInt8 := bs.flatMap (fun l => frameL (encL l))
def goodB (l : List (List UInt8)) : Prop := l.length ≤ 50 ∧ (encL l).length ≤ 40000
structure HoldX (p : List UInt8) (L : List FI) (f : Nat → List (List (List UInt8))) (r : List UInt8) : Prop where
  ne : segsL p L ≠ []
  seg : ∀ n ∈ segsL p L, n ≠ lastN p L → ∃ y, getF (fileN p n) L = some y ∧ y.bytes = frsL (f n)
  last : ∃ y, getF (fileN p (lastN p L)) L = some y ∧ y.bytes = frsL (f (lastN p L)) ++ r
  good : ∀ n, ∀ l ∈ f n, goodB l
end Go.Proofs.YtfbiinnenlgkfaaGreatDoor
/- moultlaw7's pick, same, sameAll, sameInts. -/
namespace Go.Proofs.YtfbiinnenlgkfaaGreatDoor
open Go.RowKit Go.Deep Go.Maps

end Go.Proofs.YtfbiinnenlgkfaaGreatDoor
/- moultlaw7's shown. -/
namespace Go.Proofs.YtfbiinnenlgkfaaGreatDoor
open Go.RowKit Go.Deep Go.Maps

def JSB (w x : World) (b : Nat) (M : RS) (jb : Nat) (p : ByteArray) (most : Int) : Prop := ∃ F, JS w.heap.size x b M F jb p most ∧ Bel w x
section
variable {w x y : World} {b jb : Nat} {M M1 : RS} {F : List Nat} {p : ByteArray} {most : Int}
theorem js_of (hs : Std w) (hb : Bel w x) (hp : ProgAt w.heap.size x b M F) (hM : M.ok) (hj : JAt x jb b p most) (ho : jb ∉ F) : JS w.heap.size x b M F jb p most :=
  ⟨hp, hM, hj, ho, fun z hz => hs.bel (((Keep.of_bel hb F).trans hz (fun k hk => Or.inl hk)).bel (fun k hk => (hp.within k hk).1))⟩
theorem JSB.bel (h : JSB w x b M jb p most) (hb : Bel x y) : JSB w y b M jb p most := by
  obtain ⟨F, h1, h2⟩ := h
  exact ⟨F, h1.bel hb, h2.trans hb⟩
theorem JSB.low (h : JSB w x b M jb p most) : Bel w x := by obtain ⟨F, _, h2⟩ := h; exact h2
theorem JSB.good (h : JSB w x b M jb p most) : M.ok := by obtain ⟨F, h1, _⟩ := h; exact h1.ok
end
theorem open_st {w x : World} {b : Nat} {M : RS} {F : List Nat} (hs : Std w) (hb : Bel w x) (hp : ProgAt w.heap.size x b M F) (hM : M.ok) (nm : ByteArray) (most : Int) (hnm : nm.size ≤ 100) (hr : M.room ≤ 1000000) {err : Int} {L : List (List (List UInt8))} {M' : RS} (hj : jopen nm.data.toList M = (err, L, M')) :
    Calls Tryz.prog 58 #[.pointer (some ⟨b, 0, none⟩), .string nm, .int .i64 most] x fun e y => ∃ jv v F', e = .returned (.tuple #[jv, v, .int .i64 err]) ∧ ProgAt w.heap.size y b M' F' ∧ Keep F x y ∧ (∀ k ∈ F', k ∈ F ∨ x.heap.size ≤ k) ∧ OwnQ x y F' v L ∧ Bel w y ∧ M'.ok ∧
      (err = 0 → ∃ jb, jv = .pointer (some ⟨jb, 0, none⟩) ∧ JS w.heap.size y b M' F' jb nm most ∧ Qb x y F' jb) ∧ (err ≠ 0 → jv = .pointer none) := by
  have hstd : ∀ z, Keep F x z → Std z := fun z hz => hs.bel (((Keep.of_bel hb F).trans hz (fun k hk => Or.inl hk)).bel (fun k hk => (hp.within k hk).1))
  refine (open_any _ x b M F nm most hp hM hstd hnm hr).mono ?_
  rintro e y ⟨jv, v, F', rfl, h1, h2, h3, h4, h5, h6⟩
  have hok := jopen_ok nm.data.toList hM
  rw [hj] at h1 h4 h5 h6 hok ⊢
  have hbl : Bel w y := ((Keep.of_bel hb F).trans h2 (fun k hk => Or.inl hk)).bel (fun k hk => (hp.within k hk).1)
  refine ⟨jv, v, F', rfl, h1, h2, h3, h4, hbl, hok, fun he => ?_, h6⟩
  obtain ⟨jb, q1, q2, q3⟩ := h5 he
  exact ⟨jb, q1, js_of hs hbl h1 hok q2 q3.2.2, q3⟩

end Go.Proofs.YtfbiinnenlgkfaaGreatDoor
/- moultlaw7's acts, as they lie; small. -/
namespace Go.Proofs.YtfbiinnenlgkfaaGreatDoor
open Go.RowKit Go.Deep Go.Maps

structure JV where
  op : Int
  n : Int
  bp : Option Addr
  bc : Nat
  bl : List (List UInt8)
  left : SI
  spoil : SI
structure JV.ok (w : World) (x : JV) : Prop where
  op : in64 x.op
  n : in64 x.n
  at_ : StrsAt w x.bp x.bl
  len : x.bl.length ≤ maxLen
  each : ∀ t ∈ x.bl, t.length ≤ maxLen
  left : SI.ok w x.left
  spoil : SI.ok w x.spoil
def JV.cells (x : JV) : List Value := [.int .i64 x.op, .int .i64 x.n, .slice x.bp x.bl.length x.bc, x.left.val, x.spoil.val]
def JActs (w : World) (p : Option Addr) (L : List JV) : Prop := ∀ i (h : i < L.length), ∃ B O sp, p.map (fun a => a.add (i * 5)) = some ⟨B, O, sp⟩ ∧
  (∀ j u, L[i].cells[j]? = some u → w.cell? ((⟨B, O, sp⟩ : Addr).add j) = some u) ∧ JV.ok w L[i]
theorem JV.ok.bel {w x : World} {v : JV} (h : JV.ok w v) (hb : Bel w x) : JV.ok x v := ⟨h.op, h.n, h.at_.bel hb, h.len, h.each, h.left.bel hb, h.spoil.bel hb⟩
theorem JActs.bel {w x : World} {p : Option Addr} {L : List JV} (h : JActs w p L) (hb : Bel w x) : JActs x p L := by
  intro i hi
  obtain ⟨B, O, sp, hp, hc, ho⟩ := h i hi
  exact ⟨B, O, sp, hp, fun j u hj => (Below.cell hb (block_lt_of_cell (hc j u hj))).trans (hc j u hj), ho.bel hb⟩
def strsB (l : List (List UInt8)) : Bool := l.all fun t => decide (t.length ≤ 900)
def JV.small (x : JV) : Bool := (decide (x.bl.length ≤ 60) && (decide (x.left.L.length ≤ 60) && decide (x.spoil.L.length ≤ 60))) && strsB x.bl
end Go.Proofs.YtfbiinnenlgkfaaGreatDoor
/- The program's journal and the reference's in one world, and the laws' calls on them. -/
namespace Go.Proofs.YtfbiinnenlgkfaaGreatDoor
open Go.RowKit Go.Deep Go.Maps

section
variable {w x y z : World} {b r : Nat} {M M' M1 : RS} {R : List Nat} {F G F' G' : List Nat}
theorem Tw.other (h : Tw w x b r M M' R) {K : List Nat} (hk : Keep K x y) (hK : ∀ k ∈ K, w.heap.size ≤ k ∧ k ∈ R) : Tw w y b r M M' R ∧ (∀ k ∈ R, k ∉ K → y.heap[k]? = x.heap[k]?) := by
  obtain ⟨⟨F, G, h1, h2, h3, h4⟩, h5, h6, h7⟩ := h
  refine ⟨⟨⟨F, G, h1.keep hk (fun k hkF hm => (h4 k (hK k hm).2).2.1 hkF), h2.keep hk (fun k hkG hm => (h4 k (hK k hm).2).2.2 hkG), h3, fun k hk' => ⟨Nat.lt_of_lt_of_le (h4 k hk').1 hk.size, (h4 k hk').2⟩⟩,
    ((Keep.of_bel h5 K).trans hk (fun x hx => Or.inl hx)).bel (fun k hk' => (hK k hk').1), h6, h7⟩, fun k hk' hn => hk.block k (h4 k hk').1 hn⟩
theorem Tw.lt (h : Tw w x b r M M' R) : ∀ k ∈ R, k < x.heap.size := by
  obtain ⟨⟨F, G, h1, h2, h3, h4⟩, h5, h6, h7⟩ := h
  exact fun k hk => (h4 k hk).1
end
section
variable {w x y z : World} {ws ms b r jb rb : Nat} {M M' M1 : RS} {nm : ByteArray} {most : Int} {R R' : List Nat}
end
end Go.Proofs.YtfbiinnenlgkfaaGreatDoor
/- moultlaw7's begin. -/
namespace Go.Proofs.YtfbiinnenlgkfaaGreatDoor
open Go.RowKit Go.Deep Go.Maps

end Go.Proofs.YtfbiinnenlgkfaaGreatDoor
/- moultlaw7's World.does. -/
namespace Go.Proofs.YtfbiinnenlgkfaaGreatDoor
open Go.RowKit Go.Deep Go.Maps

theorem JV.ok.more {w x : World} {v : JV} (h : JV.ok w v) (hb : Bel w x) : JV.ok x v := h.bel hb
end Go.Proofs.YtfbiinnenlgkfaaGreatDoor
/- Mathematics: what the acts of layer 7's laws leave as it was; no program. -/
namespace Go.Proofs.YtfbiinnenlgkfaaGreatDoor
open Go.RowKit Go.Deep Go.Maps

theorem jopen_lens (p : List UInt8) {M : RS} (h : M.ok) (hr : M.room ≤ 1000000) : (jopen p M).2.1.length ≤ 60000000 := by
  unfold jopen
  split
  · simp
  · split
    · simp
    · split
      · simp
      · have h1 := readSegs_lens p (segsL p M.L) M (room_sizes h hr)
        have h2 := segs_len p M.L
        have h3 := h.len
        omega
end Go.Proofs.YtfbiinnenlgkfaaGreatDoor
/- A manifest's calls as functions of its state, its calls, and the files; no program. -/
namespace Go.Proofs.YtfbiinnenlgkfaaGreatDoor
open Go.RowKit Go.Deep Go.Maps

def manB : ByteArray := ⟨#[109, 97, 110]⟩
def manP : List UInt8 := [109, 97, 110]
theorem manB_size : manB.size ≤ 100 := by decide
def oneM (st : MS) (b : List (List UInt8)) : MS := match b with
  | [t] => (unpackM t).getD st
  | _ => st
def lastM (st : MS) (bs : List (List (List UInt8))) : MS := bs.foldl oneM st
theorem lastM_append (st : MS) (bs cs : List (List (List UInt8))) : lastM st (bs ++ cs) = lastM (lastM st bs) cs := List.foldl_append
theorem oneM_enc {s : MS} (h : rightM s = true) (st : MS) : oneM st [encM s] = s := by
  show (unpackM (encM s)).getD st = s
  rw [unpack_enc h]; rfl
def mturn (n : Nat) (M : RS) : Int × RS := if n % 8 = 0 then jturn manP M else (0, M)
def mwrite (s : MS) (M : RS) : Int × RS := jwrite manP 100000 [encM s] M
def mtrim (n : Nat) (M : RS) : Int × RS := if n % 8 = 0 then jtrim manP ((lastN manP M.L : Nat) : Int) M else (0, M)
structure MR where
  e : Int
  s : MS
  n : Nat
  M : RS
def mset (s0 : MS) (n : Nat) (s : MS) (M : RS) : MR :=
  if rightM s = false then ⟨1, s0, n, M⟩ else if mayB s0 s = false then ⟨1, s0, n, M⟩ else
  if (mturn n M).1 ≠ 0 then ⟨(mturn n M).1, s0, n + 1, (mturn n M).2⟩ else
  if (mwrite s (mturn n M).2).1 ≠ 0 then ⟨(mwrite s (mturn n M).2).1, s0, n + 1, (mwrite s (mturn n M).2).2⟩ else
  ⟨(mtrim n (mwrite s (mturn n M).2).2).1, s, n + 1, (mtrim n (mwrite s (mturn n M).2).2).2⟩
section
variable {s0 s : MS} {n : Nat} {M : RS}
theorem mset_wrong (h : rightM s = false) : mset s0 n s M = ⟨1, s0, n, M⟩ := by unfold mset; rw [if_pos h]
theorem mset_less (h : rightM s = true) (h2 : mayB s0 s = false) : mset s0 n s M = ⟨1, s0, n, M⟩ := by unfold mset; rw [if_neg (by rw [h]; simp), if_pos h2]
theorem mset_turn (h : rightM s = true) (h2 : mayB s0 s = true) (h3 : (mturn n M).1 ≠ 0) : mset s0 n s M = ⟨(mturn n M).1, s0, n + 1, (mturn n M).2⟩ := by
  unfold mset; rw [if_neg (by rw [h]; simp), if_neg (by rw [h2]; simp), if_pos h3]
theorem mset_write (h : rightM s = true) (h2 : mayB s0 s = true) (h3 : (mturn n M).1 = 0) (h4 : (mwrite s (mturn n M).2).1 ≠ 0) : mset s0 n s M = ⟨(mwrite s (mturn n M).2).1, s0, n + 1, (mwrite s (mturn n M).2).2⟩ := by
  unfold mset; rw [if_neg (by rw [h]; simp), if_neg (by rw [h2]; simp), if_neg (by rw [h3]; simp), if_pos h4]
theorem mset_all (h : rightM s = true) (h2 : mayB s0 s = true) (h3 : (mturn n M).1 = 0) (h4 : (mwrite s (mturn n M).2).1 = 0) : mset s0 n s M = ⟨(mtrim n (mwrite s (mturn n M).2).2).1, s, n + 1, (mtrim n (mwrite s (mturn n M).2).2).2⟩ := by
  unfold mset; rw [if_neg (by rw [h]; simp), if_neg (by rw [h2]; simp), if_neg (by rw [h3]; simp), if_neg (by rw [h4]; simp)]
theorem mturn_ok (h : M.ok) : (mturn n M).2.ok := by unfold mturn; split; exact jturn_ok h _; exact h
theorem mwrite_ok (h : M.ok) : (mwrite s M).2.ok := jwrite_ok h _ _ _
theorem mtrim_ok (h : M.ok) : (mtrim n M).2.ok := by unfold mtrim; split; exact trim_ok _ _ _ h; exact h
theorem mturn_last (h : M.ok) (h9 : lastN manP M.L < 9999999) : lastN manP (mturn n M).2.L = lastN manP M.L ∨ lastN manP (mturn n M).2.L = lastN manP M.L + 1 := by
  unfold mturn
  split
  · by_cases h0 : (jturn manP M).1 = 0
    · exact Or.inr (jturn_last h h9 h0)
    · exact Or.inl (by unfold lastN; rw [(jturn_segs h h9).2 h0])
  · exact Or.inl rfl
end
end Go.Proofs.YtfbiinnenlgkfaaGreatDoor
/- Mathematics of chapter 13's examples; no program. -/
namespace Go.Proofs.YtfbiinnenlgkfaaGreatDoor
open Go.RowKit Go.Deep Go.Maps

def mf1 : List UInt8 := [109, 97, 110, 46, 49]
def mf2 : List UInt8 := [109, 97, 110, 46, 50]
theorem mfile1 : fileN manP 1 = mf1 := by unfold fileN; rw [itoa_nat, digits_one 1 (by omega)]; rfl
theorem mfile2 : fileN manP 2 = mf2 := by unfold fileN; rw [itoa_nat, digits_one 2 (by omega)]; rfl
theorem mseg1 : segN manP mf1 = 1 := by rw [← mfile1]; exact seg_file _ 1 (by omega) (by omega)
theorem mseg2 : segN manP mf2 = 2 := by rw [← mfile2]; exact seg_file _ 2 (by omega) (by omega)
theorem msegs1 (b : List UInt8) (s : Nat) : segsL manP [⟨mf1, b, s⟩] = [1] := by
  show (if segN manP mf1 = 0 then [] else insN (segN manP mf1) []) = _
  rw [mseg1]; rfl
theorem mlast1 (b : List UInt8) (s : Nat) : lastN manP [⟨mf1, b, s⟩] = 1 := by unfold lastN; rw [msegs1]; rfl
theorem msegs2 (b : List UInt8) (s : Nat) : segsL manP [⟨mf2, b, s⟩] = [2] := by
  show (if segN manP mf2 = 0 then [] else insN (segN manP mf2) []) = _
  rw [mseg2]; rfl
theorem mlast2 (b : List UInt8) (s : Nat) : lastN manP [⟨mf2, b, s⟩] = 2 := by unfold lastN; rw [msegs2]; rfl
theorem msegs12 (b c : List UInt8) (s t : Nat) : segsL manP [⟨mf1, b, s⟩, ⟨mf2, c, t⟩] = [1, 2] := by
  show (if segN manP mf2 = 0 then _ else insN (segN manP mf2) (if segN manP mf1 = 0 then [] else insN (segN manP mf1) [])) = _
  rw [mseg1, mseg2]; rfl
theorem mlast12 (b c : List UInt8) (s t : Nat) : lastN manP [⟨mf1, b, s⟩, ⟨mf2, c, t⟩] = 2 := by unfold lastN; rw [msegs12]; rfl
def mbM (room : Int) : RS := ⟨[⟨mf1, [], 0⟩], room, -1, false⟩
theorem mb_turn (room : Int) (h : 0 ≤ room) : addS mf1 [] (newS room) = (0, mbM room) := by
  have ha : admS mf1 ([] : List UInt8).length (newS room) = 0 := by
    unfold admS
    rw [if_neg (by simp [newS]), if_neg (by decide), if_neg (by simp [newS]), if_neg]
    show ¬ room < ((bytesN [] : Nat) : Int) + ((0 : Nat) : Int)
    simp [bytesN]; omega
  unfold addS
  rw [if_pos ha]
  rfl
theorem mb_open (room : Int) (h : 0 ≤ room) : jopen manP (newS room) = (0, [], mbM room) := by
  unfold jopen
  rw [if_neg (by decide), if_neg (by simp [newS]), if_pos (by rfl)]
  have : jturn manP (newS room) = (0, mbM room) := by
    unfold jturn
    rw [show lastN manP (newS room).L + 1 = 1 from rfl, mfile1]
    exact mb_turn room h
  rw [this]
theorem mb_last (room : Int) : lastN manP (mbM room).L = 1 := mlast1 _ _
def s3 : MS := ⟨[⟨1, 0⟩, ⟨2, 1⟩], 3, 5, 1, ⟨#[]⟩⟩
def s2 : MS := ⟨[], 2, 5, 1, ⟨#[]⟩⟩
def sW : MS := ⟨[⟨2, 0⟩, ⟨1, 0⟩], 3, 0, 1, ⟨#[]⟩⟩
def e3 : List UInt8 := [3, 5, 1, 2, 1, 0, 2, 1]
theorem enc3 : encM s3 = e3 := by kernel_rfl
theorem enc0 : encM initM = [1, 0, 1, 0] := by kernel_rfl
theorem right3 : rightM s3 = true := by decide
theorem right2 : rightM s2 = true := by decide
theorem right0 : rightM initM = true := by decide
theorem rightW : rightM sW = false := by decide
def mfr : List UInt8 := frameL (encL [e3])
def mA2 : RS := ⟨[⟨mf1, [], 0⟩, ⟨mf2, [], 0⟩], 10000, -1, false⟩
def mA3 : RS := ⟨[⟨mf1, [], 0⟩, ⟨mf2, mfr, mfr.length⟩], 10000, -1, false⟩
def mA4 : RS := ⟨[⟨mf2, mfr, mfr.length⟩], 10000, -1, false⟩
theorem shm_turn : mturn 0 (mbM 10000) = (0, mA2) := by
  unfold mturn
  rw [if_pos rfl]
  unfold jturn
  rw [mb_last, mfile2]
  kernel_rfl
theorem shm_write : mwrite s3 mA2 = (0, mA3) := by
  unfold mwrite
  rw [enc3]
  have hr : jroom manP 100000 mA2 = (0, mA2) := by
    unfold jroom
    rw [show lastN manP mA2.L = 2 from mlast12 _ _ _ _, mfile2]
    kernel_rfl
  unfold jwrite
  have hb : batchS [e3] = (encL [e3], 0) := by kernel_rfl
  have hp : jput mf2 mfr mA2 = (0, mA3) := by kernel_rfl
  rw [hr, show lastN manP (0, mA2).2.L = 2 from mlast12 _ _ _ _, mfile2, hb]
  exact hp
theorem shm_trim : mtrim 0 mA3 = (0, mA4) := by
  unfold mtrim
  rw [if_pos rfl, show lastN manP mA3.L = 2 from mlast12 _ _ _ _]
  unfold jtrim
  rw [show segsL manP mA3.L = [1, 2] from msegs12 _ _ _ _]
  have hd : dropS mf1 mA3 = (0, mA4) := by kernel_rfl
  simp only [trimL, mfile1, hd]
  rfl
theorem shm_set : mset initM 0 s3 (mbM 10000) = ⟨0, s3, 1, mA4⟩ := by
  rw [mset_all right3 (by decide) (by rw [shm_turn]) (by rw [shm_turn, shm_write]), shm_turn]
  simp only
  rw [shm_write]
  simp only
  rw [shm_trim]
theorem shm_set2 : mset s3 1 s2 mA4 = ⟨1, s3, 1, mA4⟩ := mset_less right2 (by decide)
theorem shm_open : jopen manP mA4 = (0, [[e3]], mA4) := by
  have hr : readL mfr = ([[e3]], mfr.length, 0) := by
    have := read_frames [[e3]] [] (fun l hl => by
      simp only [List.mem_cons, List.not_mem_nil, or_false] at hl
      rw [hl]; decide)
    simpa [mfr, read_nil] using this
  unfold jopen
  rw [if_neg (by decide), if_neg (by decide), show segsL manP mA4.L = [2] from msegs2 _ _, if_neg (by simp)]
  have hb : bytesOf (fileN manP 2) mA4 = mfr := by rw [mfile2]; exact bytesOf_get (y := ⟨mf2, mfr, mfr.length⟩) (by rfl)
  simp only [readSegs, hb, hr]
  simp
theorem shm_last : lastM initM [[e3]] = s3 := by
  rw [← enc3]; exact oneM_enc right3 initM
end Go.Proofs.YtfbiinnenlgkfaaGreatDoor
/- manifest.last. -/
set_option maxRecDepth 100000
namespace Go.Proofs.YtfbiinnenlgkfaaGreatDoor
open Go.RowKit Go.Deep

theorem lastM_take {L : List (List (List UInt8))} {i : Nat} (hi : i < L.length) (st : MS) : lastM st (L.take (i + 1)) = oneM (lastM st (L.take i)) L[i] := by
  rw [List.take_add_one, List.getElem?_eq_getElem hi, lastM_append]; rfl
theorem oneM_skip {b : List (List UInt8)} (h : b.length ≠ 1) (st : MS) : oneM st b = st := by
  match b, h with
  | [], _ => rfl
  | [t], h => exact absurd rfl h
  | _ :: _ :: _, _ => rfl
theorem oneM_yes {t : List UInt8} (h : unpEr t = 0) (st : MS) : oneM st [t] = unpSt t := by
  rcases unp_cases t with ⟨_, h2, _⟩ | ⟨h1, _⟩
  · show (unpackM t).getD st = _
    rw [h2]; rfl
  · rw [h1] at h; cases h
theorem oneM_no {t : List UInt8} (h : unpEr t ≠ 0) (st : MS) : oneM st [t] = st := by
  rcases unp_cases t with ⟨h1, _⟩ | ⟨_, h2, _⟩
  · exact absurd h1 h
  · show (unpackM t).getD st = _
    rw [h2]; rfl
theorem row_get13 {P : Nat → Prop} {x : World} {p : Option Addr} {L : List (List (List UInt8))} (h : RowL P x p L) {i : Nat} (hi : i < L.length) :
    ∃ a q c, p = some a ∧ x.cell? (a.add i) = some (.slice q L[i].length c) ∧ StrsAt x q L[i] := by
  obtain ⟨H, h1, h2, h3⟩ := h.ex
  have hs : H[i]? = some (H[i]'(by omega)) := List.getElem?_eq_getElem _
  obtain ⟨a, ha, -, hc⟩ := h2 i _ hs
  have hq := h3 i _ L[i] hs (List.getElem?_eq_getElem hi)
  exact ⟨a, _, _, ha, by rw [hc]; show some (Value.slice _ _ _) = _; rw [hq.len], hq.at_⟩
def LastPost (w : World) (s : MS) (e : Ending) (y : World) : Prop := ∃ q d, e = .returned (.agg #[.slice q s.files.length d, .int .i64 s.next, .int .i64 s.seq, .int .i64 s.log, .string s.mt]) ∧
  PlsAt y q s.files ∧ (∀ a, q = some a → w.heap.size ≤ a.block) ∧ Bel w y
set_option maxHeartbeats 8000000 in
theorem last13_any (P : Nat → Prop) (w : World) (p : Option Addr) (c : Nat) (L : List (List (List UInt8))) (h : RowL P w p L) (hL : L.length ≤ 1000000000) (ht : ∀ b ∈ L, ∀ t ∈ b, t.length ≤ 1000000) :
    Calls Tryz.prog 59 #[.slice p L.length c] w (LastPost w (lastM initM L)) := by
  have H := Lib.hid h
  have HTT := Lib.hid ht
  clear h ht
  go_enter Tryz.func59, Tryz.ntmps59
  go_wp2_with (fail)
  obtain ⟨S, hS⟩ : ∃ S, S = w.heap.size + 1 := ⟨_, rfl⟩
  obtain ⟨w2, hw2⟩ : ∃ w2, w2 = ((w.alloc (.cells #[.slice none 0 0, .int .i64 0, .int .i64 0, .int .i64 0, .string ⟨#[]⟩] 24)).alloc (.cells #[.slice none 0 0, .int .i64 1, .int .i64 0, .int .i64 1, .string ⟨#[]⟩] 24)) := ⟨_, rfl⟩
  have kR : w2.heap[w.heap.size]? = some (.cells #[.slice none 0 0, .int .i64 0, .int .i64 0, .int .i64 0, .string ⟨#[]⟩] 24 (0, 0)) := by
    rw [hw2]; exact (Below.block ((Bel.refl (w.alloc _)).alloc _) w.heap.size (by simp)).trans (heap_alloc_new w _)
  have kS : w2.heap[S]? = some (.cells #[.slice none 0 0, .int .i64 1, .int .i64 0, .int .i64 1, .string ⟨#[]⟩] 24 (0, 0)) := by
    have e : (w.alloc (.cells #[.slice none 0 0, .int .i64 0, .int .i64 0, .int .i64 0, .string ⟨#[]⟩] 24)).heap.size = S := by rw [hS]; simp
    rw [hw2, ← e]; exact heap_alloc_new _ _
  have HB2 := Lib.hid (show Bel w w2 by rw [hw2]; exact ((Bel.refl w).alloc _).alloc _)
  have HZ2 := Lib.hid (show w2.heap.size = S + 1 by rw [hw2, hS]; simp)
  rw [← hw2, ← hS]
  have HS := Lib.hid hS
  have HKR := Lib.hid kR
  have HKS := Lib.hid kS
  clear hw2 hS kR kS
  go_loopw [11] (fun iv x => ∃ (i : Nat) (st : MS) (q : Option Addr) (d : Nat), iv = .int .i64 i ∧ i ≤ L.length ∧ st = lastM initM (L.take i) ∧ x.heap[S]? = some (.cells #[.slice q st.files.length d, .int .i64 st.next, .int .i64 st.seq, .int .i64 st.log, .string st.mt] 24 (0, 0)) ∧
    PlsAt x q st.files ∧ (∀ a, q = some a → S < a.block) ∧ Keep [S] w2 x) (fun iv _ => L.length - (intOf iv).toNat)
  case atStart => exact ⟨0, initM, none, 0, rfl, Nat.zero_le _, rfl, HKS.out, PlsAt.nil _ _, (fun a ha => by cases ha), Keep.refl _ _⟩
  case round =>
    obtain ⟨i, st, q, d, rfl, hi, hst, hbx, hpl, hql, hkp⟩ := hrel
    have HST := Lib.hid hst
    have HBX := Lib.hid hbx
    have HPL := Lib.hid hpl
    have HQL := Lib.hid hql
    have HKP := Lib.hid hkp
    have HBW := Lib.hid (bel_keep HB2.out hkp (fun k hk => by rw [List.mem_singleton] at hk; have := HS.out; omega))
    have HZW := Lib.hid (show S + 1 ≤ wr.heap.size by rw [← HZ2.out]; exact hkp.size)
    clear hst hbx hpl hql hkp
    by_cases hil : i < L.length
    · have hii : (i : Int) < (L.length : Int) := by omega
      obtain ⟨a, bq, bc, rfl, hc, hstrs⟩ := row_get13 (H.out.bel HBW.out) hil
      have HTK := Lib.hid (lastM_take hil initM)
      have HTB := Lib.hid (HTT.out L[i] (List.getElem_mem hil))
      obtain ⟨B, hB⟩ : ∃ B, B = L[i] := ⟨_, rfl⟩
      rw [← hB] at hc hstrs HTK HTB
      rw [← HST.out] at HTK
      have HSTR := Lib.hid hstrs
      clear hB hstrs
      by_cases hb1 : B.length = 1
      · obtain ⟨t, rfl⟩ : ∃ t, B = [t] := by
          match B, hb1 with
          | [t], _ => exact ⟨t, rfl⟩
        obtain ⟨a1, rfl, hc1⟩ := HSTR.out 0 (by simp)
        have hc1' : wr.cell? a1 = some (.string ⟨t.toArray⟩) := by
          have : a1.add 0 = a1 := by simp [Addr.add]
          rw [this] at hc1; exact hc1
        have htl : (⟨t.toArray⟩ : ByteArray).size ≤ 1000000 := by rw [show (⟨t.toArray⟩ : ByteArray).size = t.length by show t.toArray.size = _; simp]; exact HTB.out t (by simp)
        have HUN := Lib.hid (show ∀ z, Calls Tryz.prog 13 #[.string ⟨t.toArray⟩] z fun e y => ∃ p c, e = .returned (.tuple #[.agg #[.slice p (unpSt t).files.length c, .int .i64 (unpSt t).next, .int .i64 (unpSt t).seq, .int .i64 (unpSt t).log, .string (unpSt t).mt], .int .i64 (unpEr t)]) ∧ OwnG plElP z.heap.size y (.slice p (unpSt t).files.length c) (unpSt t).files ∧ Bel z y from fun z => by
          have := unpack13_any ⟨t.toArray⟩ z htl
          rw [show (⟨t.toArray⟩ : ByteArray).data.toList = t by simp] at this
          exact this)
        simp only [List.length_singleton] at hc
        clear hc1
        go_wp2_with (fail)
        refine (HUN.out _).mono ?_
        rintro e x1 ⟨q1, d1, rfl, ho1, hb1'⟩
        have HO1 := Lib.hid ho1
        have HB1 := Lib.hid hb1'
        have HU := Lib.hid (unp_cases t)
        obtain ⟨u, hu⟩ : ∃ u, u = unpSt t := ⟨_, rfl⟩
        have HUE := Lib.hid hu
        rw [← hu] at HO1 ⊢
        clear ho1 hb1' hu
        by_cases he : unpEr t = 0
        · have HNX := Lib.hid (show u = lastM initM (L.take (i + 1)) by rw [HTK.out, oneM_yes he, HUE.out])
          rw [he]
          have HA := Lib.hid (show Bel x1 (x1.alloc (.cells #[.slice q1 u.files.length d1, .int .i64 u.next, .int .i64 u.seq, .int .i64 u.log, .string u.mt] 24)) from (Bel.refl x1).alloc _)
          obtain ⟨⟨s0, s1, s2, s3, s4⟩, f0, f1, f2, f3, f4⟩ := box5 (box_bel (box_bel HBX.out HB1.out) ((Bel.refl x1).alloc (.cells #[.slice q1 u.files.length d1, .int .i64 u.next, .int .i64 u.seq, .int .i64 u.log, .string u.mt] 24)))
          clear he
          go_wp2_with (fail)
          go_roundw
          case rel =>
            refine ⟨i + 1, u, q1, d1, by go_num, hil, HNX.out, set5 (box_bel (box_bel HBX.out HB1.out) HA.out), ?_, fun a ha => ?_, ((HKP.out.then HB1.out).then HA.out).trans keep5 (fun k hk => Or.inl hk)⟩
            · refine (pls_ownP (HO1.out.bel HA.out)).keep keep5 (fun hne a ha hm => ?_)
              rw [List.mem_singleton] at hm
              subst ha
              have := (HO1.out.lt _ rfl).1
              have := HZW.out; omega
            · subst ha
              have := (HO1.out.lt _ rfl).1
              have := HZW.out; omega
          case measure => simp [intOf]; omega
        · have HNX := Lib.hid (show st = lastM initM (L.take (i + 1)) by rw [HTK.out, oneM_no he])
          have he1 : (unpEr t == 0) = false := by rw [beq_eq_false_iff_ne]; exact he
          have HB1' := Lib.hid (show Bel wr (x1.alloc (.cells #[.slice q1 u.files.length d1, .int .i64 u.next, .int .i64 u.seq, .int .i64 u.log, .string u.mt] 24)) from HB1.out.alloc _)
          generalize unpEr t = er at *
          clear he
          go_wp2_with (fail)
          go_roundw
          case rel => exact ⟨i + 1, st, q, d, by go_num, hil, HNX.out, box_bel HBX.out HB1'.out, HPL.out.bel HB1'.out, HQL.out, HKP.out.then HB1'.out⟩
          case measure => simp [intOf]; omega
      · have HNX := Lib.hid (show st = lastM initM (L.take (i + 1)) by rw [HTK.out, oneM_skip hb1])
        have hb1i : ¬ (B.length : Int) = 1 := by omega
        go_wp2_with (fail)
        go_roundw
        case rel => exact ⟨i + 1, st, q, d, by go_num, hil, HNX.out, HBX.out, HPL.out, HQL.out, HKP.out⟩
        case measure => simp [intOf]; omega
    · have hii : ¬ (i : Int) < (L.length : Int) := by omega
      have HNX := Lib.hid (show lastM initM L = st by rw [HST.out, List.take_of_length_le (by omega)])
      obtain ⟨⟨s0, s1, s2, s3, s4⟩, -⟩ := box5 HBX.out
      obtain ⟨⟨r0, r1, r2, r3, r4⟩, f0, f1, f2, f3, f4⟩ := box5 (HKP.out.at HKR.out (by rw [List.mem_singleton]; have := HS.out; omega))
      go_wp2_with (fail)
      refine bodyPost_ret (v := .agg #[.slice q st.files.length d, .int .i64 st.next, .int .i64 st.seq, .int .i64 st.log, .string st.mt]) (by simp [results, Tryz.results59, go_sem, r0, r1, r2, r3, r4, f0, f1, f2, f3, f4]) rfl ⟨q, d, by rw [HNX.out], ?_, fun a ha => ?_, ?_⟩
      · rw [HNX.out]
        refine HPL.out.keep (keep5 (k := w.heap.size)) (fun hne a ha hm => ?_)
        rw [List.mem_singleton] at hm
        have := HQL.out a ha
        have := HS.out; omega
      · have := HQL.out a ha
        have := HS.out; omega
      · repeat' first | exact HBW.out | refine Bel.setCell ?_ (by simp) _ | refine Bel.drewN ?_ _
end Go.Proofs.YtfbiinnenlgkfaaGreatDoor
/- The program's manifest in memory, over its journal and its files: F, the blocks that the files' calls write; D, those that are only read. -/
namespace Go.Proofs.YtfbiinnenlgkfaaGreatDoor
open Go.RowKit Go.Deep Go.Maps

def blkL (p : Option Addr) : List Nat := match p with | some a => [a.block] | none => []
theorem mem_blkL {p : Option Addr} {a : Addr} (h : p = some a) : a.block ∈ blkL p := by subst h; simp [blkL]
structure PM (w x : World) (b : Nat) (M : RS) (mb jb : Nat) (s : MS) (n : Nat) (F D : List Nat) : Prop where
  prog : ProgAt w.heap.size x b M F
  ok : M.ok
  j : JAt x jb b manB 100000
  low : Bel w x
  std : Std w
  box : ∃ fp fc, x.heap[mb]? = some (.cells #[.pointer (some ⟨jb, 0, none⟩), .slice fp s.files.length fc, .int .i64 s.next, .int .i64 s.seq, .int .i64 s.log, .string s.mt, .int .i64 (n : Int)] 110 (0, 0)) ∧ PlsAt x fp s.files ∧ (s.files ≠ [] → ∀ a, fp = some a → a.block ∈ D)
  mout : mb ∉ F ∧ w.heap.size ≤ mb
  jd : jb ∈ D
  dw : ∀ k ∈ D, k ≠ mb ∧ k ∉ F ∧ k < x.heap.size
section
variable {w x y z x0 : World} {b mb jb : Nat} {M M1 : RS} {s s1 : MS} {n n1 : Nat} {F F0 F1 D D0 D1 A K : List Nat}
theorem PM.mlt (h : PM w x b M mb jb s n F D) : mb < x.heap.size := by obtain ⟨fp, fc, h1, -⟩ := h.box; exact box_lt h1
theorem PM.flt (h : PM w x b M mb jb s n F D) : ∀ k ∈ F, w.heap.size ≤ k ∧ k < x.heap.size := h.prog.within
theorem PM.keep (h : PM w x b M mb jb s n F D) (hk : Keep K x y) (hl : Bel w y) (hm : mb ∉ K) (hF : ∀ k ∈ F, k ∉ K) (hD : ∀ k ∈ D, k ∉ K) : PM w y b M mb jb s n F D := by
  obtain ⟨fp, fc, h1, h2, h3⟩ := h.box
  exact ⟨h.prog.keep hk hF, h.ok, h.j.keep (hk.block jb h.j.lt (hD jb h.jd)), hl, h.std, ⟨fp, fc, hk.at h1 hm, h2.keep hk (fun hne a ha => hD _ (h3 hne a ha)), h3⟩, h.mout, h.jd, fun k hk' => ⟨(h.dw k hk').1, (h.dw k hk').2.1, Nat.lt_of_lt_of_le (h.dw k hk').2.2 hk.size⟩⟩
theorem PM.bel (h : PM w x b M mb jb s n F D) (hb : Bel x y) : PM w y b M mb jb s n F D := h.keep (Keep.of_bel hb []) (h.low.trans hb) (by simp) (by simp) (by simp)
theorem PM.js (h : PM w x b M mb jb s n F D) : JS w.heap.size x b M F jb manB 100000 := js_of h.std h.low h.prog h.ok h.j (h.dw jb h.jd).2.1
theorem PM.step (h : PM w x b M mb jb s n F D) (hT : ProgTo w.heap.size x y b M1 F) (hM : M1.ok) : ∃ F1, PM w y b M1 mb jb s n F1 D ∧ Keep F x y ∧ ∀ k ∈ F1, k ∈ F ∨ x.heap.size ≤ k := by
  obtain ⟨F1, h1, h2, h3⟩ := hT
  obtain ⟨fp, fc, q1, q2, q3⟩ := h.box
  have hmn : mb ∉ F1 := fun hm => by
    rcases h3 mb hm with h4 | h4
    · exact h.mout.1 h4
    · have := h.mlt; omega
  refine ⟨F1, ⟨h1, hM, h.j.keep (h2.block jb h.j.lt (h.dw jb h.jd).2.1), ((Keep.of_bel h.low F).trans h2 (fun k hk => Or.inl hk)).bel (fun k hk => (h.prog.within k hk).1), h.std, ⟨fp, fc, h2.at q1 h.mout.1, q2.keep h2 (fun hne a ha => (h.dw _ (q3 hne a ha)).2.1), q3⟩, ⟨hmn, h.mout.2⟩, h.jd, fun k hk => ⟨(h.dw k hk).1, fun hm => ?_, Nat.lt_of_lt_of_le (h.dw k hk).2.2 h2.size⟩⟩, h2, h3⟩
  rcases h3 k hm with h4 | h4
  · exact (h.dw k hk).2.1 h4
  · have := (h.dw k hk).2.2; omega
theorem PM.setn (h : PM w x b M mb jb s n F D) (v : Int) (hv : v = (n1 : Int)) : PM w (x.setCell ⟨mb, 6, none⟩ (.int .i64 v)) b M mb jb s n1 F D := by
  subst hv
  obtain ⟨fp, fc, q1, q2, q3⟩ := h.box
  have hk := keep_set x mb 6 (.int .i64 (n1 : Int))
  have hm : ∀ k, k ≠ mb → k ∉ [mb] := fun k hk => by simpa using hk
  exact ⟨h.prog.keep hk (fun k hk' => hm k (fun e => h.mout.1 (e ▸ hk'))), h.ok, h.j.keep (hk.block jb h.j.lt (hm jb (h.dw jb h.jd).1)), keep_bel1 hk h.low h.mout.2, h.std,
    ⟨fp, fc, blk_set q1 6 _, q2.keep hk (fun hne a ha => hm _ (h.dw _ (q3 hne a ha)).1), q3⟩, h.mout, h.jd, fun k hk' => ⟨(h.dw k hk').1, (h.dw k hk').2.1, Nat.lt_of_lt_of_le (h.dw k hk').2.2 hk.size⟩⟩
theorem PM.sets (h : PM w x b M mb jb s n F D) (fp : Option Addr) (fc : Nat) (hp : PlsAt x fp s1.files) (hd : s1.files ≠ [] → ∀ a, fp = some a → a.block ≠ mb ∧ a.block ∉ F) :
    PM w (((((x.setCell ⟨mb, 1, none⟩ (.slice fp s1.files.length fc)).setCell ⟨mb, 2, none⟩ (.int .i64 s1.next)).setCell ⟨mb, 3, none⟩ (.int .i64 s1.seq)).setCell ⟨mb, 4, none⟩ (.int .i64 s1.log)).setCell ⟨mb, 5, none⟩ (.string s1.mt)) b M mb jb s1 n F (jb :: (if s1.files = [] then [] else blkL fp)) := by
  obtain ⟨fp0, fc0, q1, q2, q3⟩ := h.box
  have hk : Keep [mb] x (((((x.setCell ⟨mb, 1, none⟩ (.slice fp s1.files.length fc)).setCell ⟨mb, 2, none⟩ (.int .i64 s1.next)).setCell ⟨mb, 3, none⟩ (.int .i64 s1.seq)).setCell ⟨mb, 4, none⟩ (.int .i64 s1.log)).setCell ⟨mb, 5, none⟩ (.string s1.mt)) := keep57
  have hm : ∀ k, k ≠ mb → k ∉ [mb] := fun k hk => by simpa using hk
  refine ⟨h.prog.keep hk (fun k hk' => hm k (fun e => h.mout.1 (e ▸ hk'))), h.ok, h.j.keep (hk.block jb h.j.lt (hm jb (h.dw jb h.jd).1)), keep_bel1 hk h.low h.mout.2, h.std,
    ⟨fp, fc, set57 q1, hp.keep hk (fun hne a ha => hm _ (hd hne a ha).1), fun hne a ha => ?_⟩, h.mout, by simp, fun k hk' => ?_⟩
  · rw [if_neg hne]; exact List.mem_cons_of_mem _ (mem_blkL ha)
  · rcases List.mem_cons.1 hk' with rfl | hk'
    · exact ⟨(h.dw _ h.jd).1, (h.dw _ h.jd).2.1, Nat.lt_of_lt_of_le (h.dw _ h.jd).2.2 hk.size⟩
    · split at hk'
      · cases hk'
      · rename_i hne
        cases fp with
        | none => cases hk'
        | some a =>
          simp only [blkL, List.mem_singleton] at hk'
          subst hk'
          exact ⟨(hd hne a rfl).1, (hd hne a rfl).2, Nat.lt_of_lt_of_le (hp.lt hne a rfl) hk.size⟩
def PX (w x0 : World) (F0 D0 A : List Nat) (y : World) (b : Nat) (M : RS) (mb jb : Nat) (s : MS) (n : Nat) : Prop :=
  ∃ F D, PM w y b M mb jb s n F D ∧ Keep (mb :: F0) x0 y ∧ (∀ k ∈ F, k ∈ F0 ∨ x0.heap.size ≤ k) ∧ ∀ k ∈ D, k ∈ D0 ∨ x0.heap.size ≤ k ∨ k ∈ A
theorem PM.px (h : PM w x b M mb jb s n F D) (A : List Nat) : PX w x F D A x b M mb jb s n := ⟨F, D, h, Keep.refl _ _, fun k hk => Or.inl hk, fun k hk => Or.inl hk⟩
theorem PX.bel (h : PX w x0 F0 D0 A y b M mb jb s n) (hb : Bel y z) : PX w x0 F0 D0 A z b M mb jb s n := by
  obtain ⟨F, D, h1, h2, h3, h4⟩ := h
  exact ⟨F, D, h1.bel hb, h2.then hb, h3, h4⟩
theorem PX.low (h : PX w x0 F0 D0 A y b M mb jb s n) : Bel w y := by obtain ⟨F, D, h1, h2, h3, h4⟩ := h; exact h1.low
theorem PX.good (h : PX w x0 F0 D0 A y b M mb jb s n) : M.ok := by obtain ⟨F, D, h1, h2, h3, h4⟩ := h; exact h1.ok
theorem PX.kp (h : PX w x0 F0 D0 A y b M mb jb s n) : Keep (mb :: F0) x0 y := by obtain ⟨F, D, h1, h2, h3, h4⟩ := h; exact h2
theorem PX.size (h : PX w x0 F0 D0 A y b M mb jb s n) : x0.heap.size ≤ y.heap.size := h.kp.size
theorem PX.boxes (h : PX w x0 F0 D0 A y b M mb jb s n) : ∃ fp fc, y.heap[mb]? = some (.cells #[.pointer (some ⟨jb, 0, none⟩), .slice fp s.files.length fc, .int .i64 s.next, .int .i64 s.seq, .int .i64 s.log, .string s.mt, .int .i64 (n : Int)] 110 (0, 0)) ∧ PlsAt y fp s.files := by
  obtain ⟨F, D, h1, -⟩ := h
  obtain ⟨fp, fc, q1, q2, -⟩ := h1.box
  exact ⟨fp, fc, q1, q2⟩
theorem PX.rebase {x1 : World} (h : PX w x1 F0 D0 A y b M mb jb s n) (hb : Bel x0 x1) : PX w x0 F0 D0 A y b M mb jb s n := by
  obtain ⟨F, D, h1, h2, h3, h4⟩ := h
  exact ⟨F, D, h1, (Keep.of_bel hb _).trans h2 (fun k hk => Or.inl hk), fun k hk => (h3 k hk).imp id (fun h => Nat.le_trans hb.size h), fun k hk => (h4 k hk).imp id (fun h => h.imp (fun h => Nat.le_trans hb.size h) id)⟩
theorem PX.call (h : PX w x0 F0 D0 A y b M mb jb s n) {fn : FuncId} {args : Array Value} {E : Ending → Prop} (hM1 : M1.ok)
    (hc : ∀ F, JS w.heap.size y b M F jb manB 100000 → Calls Tryz.prog fn args y fun e z => E e ∧ ProgTo w.heap.size y z b M1 F) :
    Calls Tryz.prog fn args y fun e z => E e ∧ PX w x0 F0 D0 A z b M1 mb jb s n := by
  obtain ⟨F, D, h1, h2, h3, h4⟩ := h
  refine (hc F h1.js).mono ?_
  rintro e z ⟨he, hT⟩
  obtain ⟨F1, k1, k2, k3⟩ := h1.step hT hM1
  refine ⟨he, F1, D, k1, h2.trans k2 (fun k hk => (h3 k hk).imp (fun h => by simp [h]) id), fun k hk => ?_, h4⟩
  rcases k3 k hk with h | h
  · exact h3 k h
  · exact Or.inr (Nat.le_trans h2.size h)
theorem PX.look (h : PX w x0 F0 D0 A y b M mb jb s n) {fn : FuncId} {args : Array Value} {E : Ending → Prop}
    (hc : ∀ F, JS w.heap.size y b M F jb manB 100000 → Calls Tryz.prog fn args y fun e z => E e ∧ Bel y z) :
    Calls Tryz.prog fn args y fun e z => E e ∧ PX w x0 F0 D0 A z b M mb jb s n ∧ Bel y z := by
  have h0 := h
  obtain ⟨F, D, h1, h2, h3, h4⟩ := h
  refine (hc F h1.js).mono ?_
  rintro e z ⟨he, hb⟩
  exact ⟨he, h0.bel hb, hb⟩
theorem PX.setn (h : PX w x0 F0 D0 A y b M mb jb s n) (v : Int) (hv : v = (n1 : Int)) : PX w x0 F0 D0 A (y.setCell ⟨mb, 6, none⟩ (.int .i64 v)) b M mb jb s n1 := by
  obtain ⟨F, D, h1, h2, h3, h4⟩ := h
  exact ⟨F, D, h1.setn v hv, h2.setCell (p := ⟨mb, 6, none⟩) (Or.inl (by simp)) _, h3, h4⟩
theorem PX.sets (h : PX w x0 F0 D0 A z b M mb jb s n) (hb : Bel z y) (fp : Option Addr) (fc : Nat) (hp : PlsAt y fp s1.files)
    (hd : s1.files ≠ [] → ∀ a, fp = some a → z.heap.size ≤ a.block ∨ (a.block ∈ A ∧ a.block ∉ mb :: F0 ∧ a.block < x0.heap.size)) :
    PX w x0 F0 D0 A (((((y.setCell ⟨mb, 1, none⟩ (.slice fp s1.files.length fc)).setCell ⟨mb, 2, none⟩ (.int .i64 s1.next)).setCell ⟨mb, 3, none⟩ (.int .i64 s1.seq)).setCell ⟨mb, 4, none⟩ (.int .i64 s1.log)).setCell ⟨mb, 5, none⟩ (.string s1.mt)) b M mb jb s1 n := by
  have hsz := h.size
  obtain ⟨F, D, h1, h2, h3, h4⟩ := h
  refine ⟨F, _, (h1.bel hb).sets fp fc hp (fun hne a ha => ?_), (h2.then hb).trans (keep57.mono (fun k hk => hk)) (fun k hk => Or.inl (by rw [List.mem_singleton] at hk; simp [hk])), h3, fun k hk => ?_⟩
  · rcases hd hne a ha with h | ⟨-, h5, h6⟩
    · exact ⟨fun e => by have := h1.mlt; omega, fun hm => by have := (h1.flt _ hm).2; omega⟩
    · refine ⟨fun e => h5 (by simp [e]), fun hm => ?_⟩
      rcases h3 _ hm with h | h
      · exact h5 (by simp [h])
      · omega
  · rcases List.mem_cons.1 hk with rfl | hk
    · exact h4 _ h1.jd
    · split at hk
      · cases hk
      · rename_i hne
        cases fp with
        | none => cases hk
        | some a =>
          simp only [blkL, List.mem_singleton] at hk
          subst hk
          rcases hd hne a rfl with h | ⟨h, -⟩
          · exact Or.inr (Or.inl (by omega))
          · exact Or.inr (Or.inr h)
end
end Go.Proofs.YtfbiinnenlgkfaaGreatDoor
/- (*manifest.Manifest).State, Set. -/
set_option maxRecDepth 100000
namespace Go.Proofs.YtfbiinnenlgkfaaGreatDoor
open Go.RowKit Go.Deep Go.Maps

theorem strs_one {W : World} {B : Nat} {t : List UInt8} {T : TypeId} (h : W.heap[B]? = some (.cells #[.string ⟨t.toArray⟩] T (0, 0))) : StrsAt W (some ⟨B, 0, none⟩) [t] := fun i hi => by
  match i, hi with
  | 0, _ => exact ⟨_, rfl, box_cell h 0⟩
theorem enc_ok {s : MS} (h : rightM s = true) : ∀ t ∈ [encM s], t.length ≤ 1000000 := fun t ht => by
  rw [List.mem_singleton] at ht; subst ht
  have := encM_len h; omega
set_option maxHeartbeats 8000000 in
theorem set13_any (w x0 : World) (b : Nat) (M : RS) (mb jb : Nat) (s0 : MS) (n : Nat) (F0 D0 : List Nat) (h : PM w x0 b M mb jb s0 n F0 D0) (p : Option Addr) (c : Nat) (s : MS) (hs : PlsAt x0 p s.files) (hsp : s.files ≠ [] → ∀ a, p = some a → a.block ∉ mb :: F0)
    (hl : s.files.length ≤ 100000) (hz : s.mt.size ≤ 100000000) (h0 : lastN manP M.L ≠ 0) (h9 : lastN manP M.L < 9999997) (hn : n ≤ 1000000) :
    Calls Tryz.prog 30 #[.pointer (some ⟨mb, 0, none⟩), .agg #[.slice p s.files.length c, .int .i64 s.next, .int .i64 s.seq, .int .i64 s.log, .string s.mt]] x0 fun e y => e = .returned (.int .i64 (mset s0 n s M).e) ∧ PX w x0 F0 D0 [] y b (mset s0 n s M).M mb jb (mset s0 n s M).s (mset s0 n s M).n := by
  obtain ⟨X, hX⟩ : ∃ X, X = x0.heap.size := ⟨_, rfl⟩
  obtain ⟨x1, hx1⟩ : ∃ z, z = x0.alloc (.cells #[.slice p s.files.length c, .int .i64 s.next, .int .i64 s.seq, .int .i64 s.log, .string s.mt] 24) := ⟨_, rfl⟩
  have hB1 : Bel x0 x1 := by rw [hx1]; exact (Bel.refl x0).alloc _
  have HKA := Lib.hid (show x1.heap[X]? = some (.cells #[.slice p s.files.length c, .int .i64 s.next, .int .i64 s.seq, .int .i64 s.log, .string s.mt] 24 (0, 0)) by rw [hx1, hX]; exact tnew13 x0 _ _)
  have HX := Lib.hid hX
  have H1 := Lib.hid ((h.bel hB1).px [])
  have HB01 := Lib.hid hB1
  have HXF := Lib.hid (show X ∉ mb :: F0 from fun hm => by
    rcases List.mem_cons.1 hm with e | hm
    · have := h.mlt; omega
    · have := (h.flt X hm).2; omega)
  have HSP := Lib.hid (fun (y : World) (hk : Keep (mb :: F0) x0 y) => hs.keep hk hsp)
  have HPK := Lib.hid (pack13_any p c s x1 (hs.bel hB1) hl hz)
  have HFL := Lib.hid (show ∀ k ∈ F0, k < x0.heap.size from fun k hk => (h.flt k hk).2)
  have HML := Lib.hid h.mlt
  obtain ⟨⟨a0, a1, a2, a3, a4⟩, -⟩ := box5 HKA.out
  have HNN := Lib.hid hn
  have H0 := Lib.hid h0
  have H9 := Lib.hid h9
  clear h hs hsp h0 h9
  go_enter Tryz.func30, Tryz.ntmps30
  go_wp2_with (fail)
  rw [show (x0.alloc (.cells #[.slice p s.files.length c, .int .i64 s.next, .int .i64 s.seq, .int .i64 s.log, .string s.mt] 24)) = x1 from hx1.symm, ← hX]
  clear hx1 hX hB1
  refine HPK.out.mono ?_
  rintro r x2 ⟨rfl, hb2⟩
  have H2 := Lib.hid (H1.out.bel hb2)
  have HKA2 := Lib.hid (box_bel HKA.out hb2)
  clear hb2 HPK a0 a1 a2 a3 a4
  cases hr : rightM s with
  | false =>
    have HV := Lib.hid (pack_no hr)
    have HM := Lib.hid (mset_wrong (s0 := s0) (n := n) (M := M) hr)
    clear hr
    rw [HV.out]
    go_wp2_with (fail)
    go_ret
    rw [HM.out]
    exact ⟨rfl, H2.out.rebase HB01.out⟩
  | true =>
  have HV := Lib.hid (pack_yes hr)
  have HR := Lib.hid hr
  clear hr
  rw [HV.out]
  obtain ⟨fp, fc, hbx, -⟩ := H2.out.boxes
  obtain ⟨⟨c0, c1, c2, c3, c4, c5, c6⟩, e0, e1, e2, e3, e4, e5, e6⟩ := box7 hbx
  obtain ⟨⟨a0, a1, a2, a3, a4⟩, -⟩ := box5 HKA2.out
  have HBX := Lib.hid hbx
  clear hbx
  go_wp2_with (fail)
  refine wp_region_held_drew (S := fun z => (z.cell? ⟨mb, 1, none⟩ = some (.slice fp s0.files.length fc) ∧ z.cell? ⟨mb, 2, none⟩ = some (.int .i64 s0.next) ∧ z.cell? ⟨mb, 3, none⟩ = some (.int .i64 s0.seq) ∧ z.cell? ⟨mb, 4, none⟩ = some (.int .i64 s0.log) ∧ z.cell? ⟨mb, 5, none⟩ = some (.string s0.mt)) ∧
    z.cell? ⟨X, 0, none⟩ = some (.slice p s.files.length c) ∧ z.cell? ⟨X, 1, none⟩ = some (.int .i64 s.next) ∧ z.cell? ⟨X, 2, none⟩ = some (.int .i64 s.seq) ∧ z.cell? ⟨X, 3, none⟩ = some (.int .i64 s.log) ∧ z.cell? ⟨X, 4, none⟩ = some (.string s.mt)) (by kernel_rfl) ⟨⟨c1, c2, c3, c4, c5⟩, a0, a1, a2, a3, a4⟩ (fun hHeld => ?_)
  refine tk (oi := { dst := some 18, op := Op.move (Operand.tmp 0), type := 56, pos := "manifest.go:51", after := #[], guard := none }) (v := ?_) 0 rfl ?_ ?_
  rotate_left
  · (intro w hSw; (try dsimp only at hSw); first | (go_simp; done) | (go_simp; with_reducible rfl))
  try simp only [Act.put, List.setIfInBounds_toArray, List.set_cons_zero, List.set_cons_succ]
  refine tk (oi := { dst := some 19, op := Op.nilCheck (Operand.tmp 18), type := 0, pos := "manifest.go:51", after := #[{ on := 0, ground := Ground.data }], guard := none }) (v := ?_) 1 rfl ?_ ?_
  rotate_left
  · (intro w hSw; (try dsimp only at hSw); first | (go_simp; done) | (go_simp; with_reducible rfl))
  try simp only [Act.put, List.setIfInBounds_toArray, List.set_cons_zero, List.set_cons_succ]
  refine tk (oi := { dst := some 20, op := Op.fieldAddr 110 (Operand.tmp 19) 1, type := 0, pos := "manifest.go:51", after := #[{ on := 1, ground := Ground.data }], guard := none }) (v := ?_) 2 rfl ?_ ?_
  rotate_left
  · (intro w hSw; (try dsimp only at hSw); first | (go_simp; done) | (go_simp; with_reducible rfl))
  try simp only [Act.put, List.setIfInBounds_toArray, List.set_cons_zero, List.set_cons_succ]
  refine tk (oi := { dst := some 21, op := Op.load 24 (Operand.tmp 20), type := 24, pos := "manifest.go:51", after := #[{ on := 2, ground := Ground.data }], guard := none }) (v := ?_) 3 rfl ?_ ?_
  rotate_left
  · (intro w hSw; (try dsimp only at hSw); first | (go_simp; done) | (go_simp; with_reducible rfl))
  try simp only [Act.put, List.setIfInBounds_toArray, List.set_cons_zero, List.set_cons_succ]
  refine tk (oi := { dst := some 22, op := Op.load 24 (Operand.tmp 3), type := 24, pos := "manifest.go:51", after := #[], guard := none }) (v := ?_) 4 rfl ?_ ?_
  rotate_left
  · (intro w hSw; (try dsimp only at hSw); first | (go_simp; done) | (go_simp; with_reducible rfl))
  try simp only [Act.put, List.setIfInBounds_toArray, List.set_cons_zero, List.set_cons_succ]
  refine wpAnyH_ready (rs := [5]) (by kernel_rfl) (by simp) ?_
  refine AllReadyH.cons (o := { dst := some 23, op := Op.call { callee := Callee.value (Operand.func 50), args := #[Operand.tmp 21, Operand.tmp 22], argTypes := #[24, 24] }, type := 4, pos := "manifest.go:51", after := #[{ on := 3, ground := Ground.data }, { on := 4, ground := Ground.data }], guard := none }) rfl (fun K hK => ?_) AllReadyH.nil
  go_simp
  refine (may_any (.slice fp s0.files.length fc) (.slice p s.files.length c) s0 s x2.drew).mono ?_
  rintro e x3 ⟨rfl, hb3⟩
  have hb3' : Bel x2 x3 := (Bel.refl x2).drew.trans hb3
  have H3 := Lib.hid (H2.out.bel hb3')
  have HKA3 := Lib.hid (box_bel HKA2.out hb3')
  have HBX3 := Lib.hid (box_bel HBX.out hb3')
  obtain ⟨⟨d0, d1, d2, d3, d4, d5, d6⟩, q0, q1, q2, q3, q4, q5, q6⟩ := box7 HBX3.out
  obtain ⟨⟨b0, b1, b2, b3, b4⟩, -⟩ := box5 HKA3.out
  dsimp only
  refine hK.out _ _ ⟨⟨d1, d2, d3, d4, d5⟩, b0, b1, b2, b3, b4⟩ (fun hHeld => ?_)
  clear hK K
  try simp only [Act.put, List.setIfInBounds_toArray, List.set_cons_zero, List.set_cons_succ]
  refine tk (oi := { dst := some 24, op := Op.unOp UnOp.not 4 (Operand.tmp 23), type := 4, pos := "manifest.go:51", after := #[{ on := 5, ground := Ground.data }], guard := none }) (v := ?_) 6 rfl ?_ ?_
  rotate_left
  · (intro w hSw; (try dsimp only at hSw); first | (go_simp; done) | (go_simp; with_reducible rfl))
  try simp only [Act.put, List.setIfInBounds_toArray, List.set_cons_zero, List.set_cons_succ]
  refine wpAnyH_done (by kernel_rfl) ?_ _
  clear hHeld hb3 hb3' c0 c1 c2 c3 c4 c5 c6 e0 e1 e2 e3 e4 e5 e6 a0 a1 a2 a3 a4 b0 b1 b2 b3 b4 HBX H2 HKA2
  cases hmb : mayB s0 s with
  | false =>
    have HM := Lib.hid (mset_less (s0 := s0) (n := n) (M := M) HR.out hmb)
    clear hmb
    go_wp2_with (fail)
    go_ret
    rw [HM.out]
    exact ⟨rfl, H3.out.rebase HB01.out⟩
  | true =>
  have HMB := Lib.hid hmb
  clear hmb
  -- WAYS
  have HMT := Lib.hid (show ∀ k, k = n → k = n from fun _ h => h)
  clear HMT
  obtain ⟨x4, hx4⟩ : ∃ x4, x4 = x3.setCell ⟨mb, 6, none⟩ (.int .i64 ((n : Int) + 1)) := ⟨_, rfl⟩
  have H4 := Lib.hid (show PX w x1 F0 D0 [] x4 b M mb jb s0 (n + 1) by rw [hx4]; exact H3.out.setn (n1 := n + 1) _ (by omega))
  by_cases hn8 : n % 8 = 0
  · have HN8 := Lib.hid hn8
    have hni : ((n : Int) % 8 == 0) = true := by rw [beq_iff_eq]; omega
    have HMT := Lib.hid (show mturn n M = jturn manP M by unfold mturn; rw [if_pos hn8])
    go_wp2_with (fail)
    rw [← hx4]
    obtain ⟨fp4, fc4, hbx4, -⟩ := H4.out.boxes
    obtain ⟨⟨d0, d1, d2, d3, d4, d5, d6⟩, q0, q1, q2, q3, q4, q5, q6⟩ := box7 hbx4
    clear hbx4 hx4
    refine (H4.out.call (mturn_ok (n := n) H4.out.good) (E := fun e => e = .returned (.int .i64 (mturn n M).1)) (fun F hF => ?_)).mono ?_
    · rw [HMT.out]
      exact jturn_any _ _ b M F jb manB 100000 hF manB_size (by have := H9.out; show lastN manP M.L < _; omega)
    rintro e x5 ⟨rfl, h5⟩
    have H5 := Lib.hid h5
    clear h5 d0 d1 d2 d3 d4 d5 d6 q0 q1 q2 q3 q4 q5 q6
    obtain ⟨te, M5, hmt⟩ : ∃ te M5, mturn n M = (te, M5) := ⟨_, _, rfl⟩
    have HM5 := Lib.hid hmt
    have HL5 := Lib.hid (mturn_last (n := n) H4.out.good (by have := H9.out; omega))
    rw [hmt] at H5 HL5
    rw [hmt]
    by_cases hte : te = 0
    rotate_left
    · have HM := Lib.hid (mset_turn (s0 := s0) (n := n) (M := M) HR.out HMB.out (by rw [hmt]; exact hte))
      rw [hmt] at HM
      have hte1 : (te != 0) = true := by rw [bne_iff_ne]; exact hte
      clear hmt
      go_wp2_with (fail)
      go_ret
      rw [HM.out]
      exact ⟨rfl, H5.out.rebase HB01.out⟩
    subst hte
    clear hmt
    obtain ⟨fp5, fc5, hbx5, -⟩ := H5.out.boxes
    obtain ⟨⟨d0, d1, d2, d3, d4, d5, d6⟩, q0, q1, q2, q3, q4, q5, q6⟩ := box7 hbx5
    clear hbx5
    obtain ⟨Y, hY⟩ : ∃ Y, Y = x5.heap.size := ⟨_, rfl⟩
    obtain ⟨x6, hx6⟩ : ∃ x6, x6 = x5.alloc (.cells #[.string ⟨(encM s).toArray⟩] 9) := ⟨_, rfl⟩
    have H6 := Lib.hid (show PX w x1 F0 D0 [] x6 b M5 mb jb s0 (n + 1) by rw [hx6]; exact H5.out.bel ((Bel.refl x5).alloc _))
    have HST := Lib.hid (show StrsAt x6 (some ⟨Y, 0, none⟩) [encM s] by rw [hx6, hY]; exact strs_one (heap_alloc_new x5 _))
    go_wp2_with (fail)
    rw [← hx6, ← hY]
    clear hx6 hY d0 d1 d2 d3 d4 d5 d6 q0 q1 q2 q3 q4 q5 q6
    refine (H6.out.call (mwrite_ok (s := s) H6.out.good) (E := fun e => e = .returned (.int .i64 (mwrite s M5).1)) (fun F hF => write_any _ _ b M5 F jb manB 100000 (some ⟨Y, 0, none⟩) 1 [encM s] hF manB_size (by have := H0.out; have := HL5.out; show lastN manP M5.L ≠ 0; omega) (by have := H9.out; have := HL5.out; show lastN manP M5.L < _; omega) (show in64 100000 from ⟨by omega, by omega⟩) HST.out (by unfold maxLen; simp) (enc_ok HR.out))).mono ?_
    rintro e x7 ⟨rfl, h7⟩
    have H7 := Lib.hid h7
    clear h7
    obtain ⟨we, M7, hmw⟩ : ∃ we M7, mwrite s M5 = (we, M7) := ⟨_, _, rfl⟩
    have HM7 := Lib.hid hmw
    rw [hmw] at H7
    rw [hmw]
    by_cases hwe : we = 0
    rotate_left
    · have HM := Lib.hid (mset_write (s0 := s0) (n := n) (M := M) HR.out HMB.out (by rw [HM5.out]) (by rw [HM5.out, hmw]; exact hwe))
      rw [HM5.out] at HM
      simp only at HM
      rw [hmw] at HM
      have hwe1 : (we != 0) = true := by rw [bne_iff_ne]; exact hwe
      clear hmw
      go_wp2_with (fail)
      go_ret
      rw [HM.out]
      exact ⟨rfl, H7.out.rebase HB01.out⟩
    subst hwe
    have HM := Lib.hid (mset_all (s0 := s0) (n := n) (M := M) HR.out HMB.out (by rw [HM5.out]) (by rw [HM5.out, hmw]))
    rw [HM5.out] at HM
    simp only at HM
    rw [hmw] at HM
    clear hmw
    have HK7 := Lib.hid (H7.out.rebase HB01.out).kp
    have HKA7 := Lib.hid (H7.out.kp.at HKA.out HXF.out)
    obtain ⟨⟨a0, a1, a2, a3, a4⟩, -⟩ := box5 HKA7.out
    go_wp2_with (fail)
    refine (copied_any p c s x7 (HSP.out x7 HK7.out) hl).mono ?_
    rintro e x8 ⟨p8, c8, rfl, ho8, hb8⟩
    have HO8 := Lib.hid ho8
    have H8 := Lib.hid (H7.out.bel hb8)
    obtain ⟨fp8, fc8, hbx8, -⟩ := H8.out.boxes
    obtain ⟨⟨d0, d1, d2, d3, d4, d5, d6⟩, q0, q1, q2, q3, q4, q5, q6⟩ := box7 hbx8
    obtain ⟨x9, hx9⟩ : ∃ x9, x9 = (((((x8.setCell ⟨mb, 1, none⟩ (.slice p8 s.files.length c8)).setCell ⟨mb, 2, none⟩ (.int .i64 s.next)).setCell ⟨mb, 3, none⟩ (.int .i64 s.seq)).setCell ⟨mb, 4, none⟩ (.int .i64 s.log)).setCell ⟨mb, 5, none⟩ (.string s.mt)) := ⟨_, rfl⟩
    have H9x := Lib.hid (show PX w x1 F0 D0 [] x9 b M7 mb jb s (n + 1) by
      rw [hx9]
      refine H7.out.sets hb8 p8 c8 (pls_ownP ho8) (fun hne a ha => Or.inl ?_)
      subst ha
      exact (ho8.lt _ rfl).1)
    clear hbx8 ho8 hb8 a0 a1 a2 a3 a4
    go_wp2_with (fail)
    rw [← hx9]
    obtain ⟨fp9, fc9, hbx9, -⟩ := H9x.out.boxes
    have g0 := box_cell hbx9 0
    simp only [List.getElem?_toArray, List.getElem?_cons_zero] at g0
    clear hx9 hbx9 d0 d1 d2 d3 d4 d5 d6 q0 q1 q2 q3 q4 q5 q6
    refine wp_region_held_drew (S := fun z => z.cell? ⟨mb, 0, none⟩ = some (.pointer (some ⟨jb, 0, none⟩))) (by kernel_rfl) g0 (fun hHeld => ?_)
    refine tk (oi := { dst := some 68, op := Op.move (Operand.tmp 0), type := 56, pos := "manifest.go:71", after := #[], guard := none }) (v := ?_) 0 rfl ?_ ?_
    rotate_left
    · (intro w hSw; (try dsimp only at hSw); first | (go_simp; done) | (go_simp; with_reducible rfl))
    try simp only [Act.put, List.setIfInBounds_toArray, List.set_cons_zero, List.set_cons_succ]
    refine tk (oi := { dst := some 69, op := Op.nilCheck (Operand.tmp 68), type := 0, pos := "manifest.go:71", after := #[{ on := 0, ground := Ground.data }], guard := none }) (v := ?_) 1 rfl ?_ ?_
    rotate_left
    · (intro w hSw; (try dsimp only at hSw); first | (go_simp; done) | (go_simp; with_reducible rfl))
    try simp only [Act.put, List.setIfInBounds_toArray, List.set_cons_zero, List.set_cons_succ]
    refine tk (oi := { dst := some 70, op := Op.fieldAddr 110 (Operand.tmp 69) 0, type := 0, pos := "manifest.go:71", after := #[{ on := 1, ground := Ground.data }], guard := none }) (v := ?_) 2 rfl ?_ ?_
    rotate_left
    · (intro w hSw; (try dsimp only at hSw); first | (go_simp; done) | (go_simp; with_reducible rfl))
    try simp only [Act.put, List.setIfInBounds_toArray, List.set_cons_zero, List.set_cons_succ]
    refine tk (oi := { dst := some 71, op := Op.load 108 (Operand.tmp 70), type := 108, pos := "manifest.go:71", after := #[{ on := 2, ground := Ground.data }], guard := none }) (v := ?_) 3 rfl ?_ ?_
    rotate_left
    · (intro w hSw; (try dsimp only at hSw); first | (go_simp; done) | (go_simp; with_reducible rfl))
    try simp only [Act.put, List.setIfInBounds_toArray, List.set_cons_zero, List.set_cons_succ]
    refine tk (oi := { dst := some 72, op := Op.move (Operand.tmp 0), type := 56, pos := "manifest.go:71", after := #[], guard := none }) (v := ?_) 4 rfl ?_ ?_
    rotate_left
    · (intro w hSw; (try dsimp only at hSw); first | (go_simp; done) | (go_simp; with_reducible rfl))
    try simp only [Act.put, List.setIfInBounds_toArray, List.set_cons_zero, List.set_cons_succ]
    refine tk (oi := { dst := some 73, op := Op.nilCheck (Operand.tmp 72), type := 0, pos := "manifest.go:71", after := #[{ on := 4, ground := Ground.data }], guard := none }) (v := ?_) 5 rfl ?_ ?_
    rotate_left
    · (intro w hSw; (try dsimp only at hSw); first | (go_simp; done) | (go_simp; with_reducible rfl))
    try simp only [Act.put, List.setIfInBounds_toArray, List.set_cons_zero, List.set_cons_succ]
    refine tk (oi := { dst := some 74, op := Op.fieldAddr 110 (Operand.tmp 73) 0, type := 0, pos := "manifest.go:71", after := #[{ on := 5, ground := Ground.data }], guard := none }) (v := ?_) 6 rfl ?_ ?_
    rotate_left
    · (intro w hSw; (try dsimp only at hSw); first | (go_simp; done) | (go_simp; with_reducible rfl))
    try simp only [Act.put, List.setIfInBounds_toArray, List.set_cons_zero, List.set_cons_succ]
    refine tk (oi := { dst := some 75, op := Op.load 108 (Operand.tmp 74), type := 108, pos := "manifest.go:71", after := #[{ on := 6, ground := Ground.data }], guard := none }) (v := ?_) 7 rfl ?_ ?_
    rotate_left
    · (intro w hSw; (try dsimp only at hSw); first | (go_simp; done) | (go_simp; with_reducible rfl))
    try simp only [Act.put, List.setIfInBounds_toArray, List.set_cons_zero, List.set_cons_succ]
    refine wpAnyH_ready (rs := [8]) (by kernel_rfl) (by simp) ?_
    refine AllReadyH.cons (o := { dst := some 76, op := Op.call { callee := Callee.value (Operand.func 54), args := #[Operand.tmp 75], argTypes := #[108] }, type := 3, pos := "manifest.go:71", after := #[{ on := 7, ground := Ground.data }], guard := none }) rfl (fun K hK => ?_) AllReadyH.nil
    go_simp
    refine ((H9x.out.bel (Bel.refl x9).drew).look (E := fun e => e = .returned (.int .i64 ((lastN manP M7.L : Nat) : Int))) (fun F hF => num_any _ _ jb b manB 100000 M7 F hF.prog hF.ok hF.j manB_size hF.std0)).mono ?_
    rintro e x10 ⟨rfl, h10, hb10⟩
    have H10 := Lib.hid h10
    have hb10' : Bel x9 x10 := (Bel.refl x9).drew.trans hb10
    dsimp only
    refine hK.out _ _ (cl13 hb10' g0) (fun hHeld => ?_)
    clear hK K h10 hb10 hb10' g0
    try simp only [Act.put, List.setIfInBounds_toArray, List.set_cons_zero, List.set_cons_succ]
    refine wpAnyH_ready (rs := [9]) (by kernel_rfl) (by simp) ?_
    refine AllReadyH.cons (o := { dst := some 77, op := Op.call { callee := Callee.value (Operand.func 53), args := #[Operand.tmp 71, Operand.tmp 76], argTypes := #[108, 3] }, type := 31, pos := "manifest.go:71", after := #[{ on := 3, ground := Ground.data }, { on := 8, ground := Ground.data }, { on := 8, ground := Ground.chain }], guard := none }) rfl (fun K hK => ?_) AllReadyH.nil
    go_simp
    have HLL := Lib.hid (last_le manP M7.L)
    refine (H10.out.call (mtrim_ok (n := n) H10.out.good) (E := fun e => e = .returned (.int .i64 (mtrim n M7).1)) (fun F hF => ?_)).mono ?_
    · rw [show mtrim n M7 = jtrim manP ((lastN manP M7.L : Nat) : Int) M7 by unfold mtrim; rw [if_pos HN8.out]]
      exact trim_any _ _ b M7 F jb manB 100000 _ hF manB_size (by have := HLL.out; constructor <;> omega)
    rintro e x11 ⟨rfl, h11⟩
    have H11 := Lib.hid h11
    obtain ⟨fp11, fc11, hbx11, -⟩ := h11.boxes
    have g0 := box_cell hbx11 0
    simp only [List.getElem?_toArray, List.getElem?_cons_zero] at g0
    dsimp only
    refine hK.out _ _ g0 (fun hHeld => ?_)
    clear hK K h11 hbx11 g0
    try simp only [Act.put, List.setIfInBounds_toArray, List.set_cons_zero, List.set_cons_succ]
    refine tk (oi := { dst := some 4, op := Op.assign (Operand.tmp 77), type := 31, pos := "manifest.go:71", after := #[{ on := 9, ground := Ground.data }, { on := 9, ground := Ground.chain }, { on := 0, ground := Ground.phase }, { on := 1, ground := Ground.phase }, { on := 2, ground := Ground.phase }, { on := 3, ground := Ground.phase }, { on := 4, ground := Ground.phase }, { on := 5, ground := Ground.phase }, { on := 6, ground := Ground.phase }, { on := 7, ground := Ground.phase }, { on := 8, ground := Ground.phase }, { on := 9, ground := Ground.phase }], guard := none }) (v := ?_) 10 rfl ?_ ?_
    rotate_left
    · (intro w hSw; (try dsimp only at hSw); first | (go_simp; done) | (go_simp; with_reducible rfl))
    try simp only [Act.put, List.setIfInBounds_toArray, List.set_cons_zero, List.set_cons_succ]
    refine wpAnyH_done (by kernel_rfl) ?_ _
    go_wp2_with (fail)
    go_ret
    rw [HM.out]
    exact ⟨rfl, H11.out.rebase HB01.out⟩
  · have HN8 := Lib.hid hn8
    have hni : ((n : Int) % 8 == 0) = false := by rw [beq_eq_false_iff_ne]; omega
    have HMT := Lib.hid (show mturn n M = (0, M) by unfold mturn; rw [if_neg hn8])
    obtain ⟨M5, hM5⟩ : ∃ M5, M5 = M := ⟨_, rfl⟩
    obtain ⟨x5, hx5⟩ : ∃ x5, x5 = x4 := ⟨_, rfl⟩
    have HS5 := Lib.hid (show x3.heap.size = x5.heap.size by rw [hx5, hx4]; simp [World.setCell])
    have H5 := Lib.hid (show PX w x1 F0 D0 [] x5 b M5 mb jb s0 (n + 1) by rw [hx5, hM5]; exact H4.out)
    have HM5 := Lib.hid (show mturn n M = (0, M5) by rw [hM5]; exact HMT.out)
    have HL5 := Lib.hid (show lastN manP M5.L = lastN manP M.L ∨ lastN manP M5.L = lastN manP M.L + 1 by rw [hM5]; exact Or.inl rfl)
    clear hM5
    obtain ⟨Y, hY⟩ : ∃ Y, Y = x5.heap.size := ⟨_, rfl⟩
    obtain ⟨x6, hx6⟩ : ∃ x6, x6 = x5.alloc (.cells #[.string ⟨(encM s).toArray⟩] 9) := ⟨_, rfl⟩
    have H6 := Lib.hid (show PX w x1 F0 D0 [] x6 b M5 mb jb s0 (n + 1) by rw [hx6]; exact H5.out.bel ((Bel.refl x5).alloc _))
    have HST := Lib.hid (show StrsAt x6 (some ⟨Y, 0, none⟩) [encM s] by rw [hx6, hY]; exact strs_one (heap_alloc_new x5 _))
    go_wp2_with (fail)
    rw [← hx4, ← hx5, HS5.out, ← hx6, ← hY]
    clear hx6 hY d0 d1 d2 d3 d4 d5 d6 q0 q1 q2 q3 q4 q5 q6
    refine (H6.out.call (mwrite_ok (s := s) H6.out.good) (E := fun e => e = .returned (.int .i64 (mwrite s M5).1)) (fun F hF => write_any _ _ b M5 F jb manB 100000 (some ⟨Y, 0, none⟩) 1 [encM s] hF manB_size (by have := H0.out; have := HL5.out; show lastN manP M5.L ≠ 0; omega) (by have := H9.out; have := HL5.out; show lastN manP M5.L < _; omega) (show in64 100000 from ⟨by omega, by omega⟩) HST.out (by unfold maxLen; simp) (enc_ok HR.out))).mono ?_
    rintro e x7 ⟨rfl, h7⟩
    have H7 := Lib.hid h7
    clear h7
    obtain ⟨we, M7, hmw⟩ : ∃ we M7, mwrite s M5 = (we, M7) := ⟨_, _, rfl⟩
    have HM7 := Lib.hid hmw
    rw [hmw] at H7
    rw [hmw]
    by_cases hwe : we = 0
    rotate_left
    · have HM := Lib.hid (mset_write (s0 := s0) (n := n) (M := M) HR.out HMB.out (by rw [HM5.out]) (by rw [HM5.out, hmw]; exact hwe))
      rw [HM5.out] at HM
      simp only at HM
      rw [hmw] at HM
      have hwe1 : (we != 0) = true := by rw [bne_iff_ne]; exact hwe
      clear hmw
      go_wp2_with (fail)
      go_ret
      rw [HM.out]
      exact ⟨rfl, H7.out.rebase HB01.out⟩
    subst hwe
    have HM := Lib.hid (mset_all (s0 := s0) (n := n) (M := M) HR.out HMB.out (by rw [HM5.out]) (by rw [HM5.out, hmw]))
    rw [HM5.out] at HM
    simp only at HM
    rw [hmw] at HM
    clear hmw
    have HK7 := Lib.hid (H7.out.rebase HB01.out).kp
    have HKA7 := Lib.hid (H7.out.kp.at HKA.out HXF.out)
    obtain ⟨⟨a0, a1, a2, a3, a4⟩, -⟩ := box5 HKA7.out
    go_wp2_with (fail)
    refine (copied_any p c s x7 (HSP.out x7 HK7.out) hl).mono ?_
    rintro e x8 ⟨p8, c8, rfl, ho8, hb8⟩
    have HO8 := Lib.hid ho8
    have H8 := Lib.hid (H7.out.bel hb8)
    obtain ⟨fp8, fc8, hbx8, -⟩ := H8.out.boxes
    obtain ⟨⟨d0, d1, d2, d3, d4, d5, d6⟩, q0, q1, q2, q3, q4, q5, q6⟩ := box7 hbx8
    obtain ⟨x9, hx9⟩ : ∃ x9, x9 = (((((x8.setCell ⟨mb, 1, none⟩ (.slice p8 s.files.length c8)).setCell ⟨mb, 2, none⟩ (.int .i64 s.next)).setCell ⟨mb, 3, none⟩ (.int .i64 s.seq)).setCell ⟨mb, 4, none⟩ (.int .i64 s.log)).setCell ⟨mb, 5, none⟩ (.string s.mt)) := ⟨_, rfl⟩
    have H9x := Lib.hid (show PX w x1 F0 D0 [] x9 b M7 mb jb s (n + 1) by
      rw [hx9]
      refine H7.out.sets hb8 p8 c8 (pls_ownP ho8) (fun hne a ha => Or.inl ?_)
      subst ha
      exact (ho8.lt _ rfl).1)
    clear hbx8 ho8 hb8 a0 a1 a2 a3 a4
    rw [show mtrim n M7 = (0, M7) by unfold mtrim; rw [if_neg HN8.out]] at HM
    go_wp2_with (fail)
    go_ret
    rw [← hx9, HM.out]
    exact ⟨rfl, H9x.out.rebase HB01.out⟩
end Go.Proofs.YtfbiinnenlgkfaaGreatDoor
/- manifest.Open, State. -/
set_option maxRecDepth 100000
namespace Go.Proofs.YtfbiinnenlgkfaaGreatDoor
open Go.RowKit Go.Deep Go.Maps

theorem unb_text {s : List UInt8} {l : List (List UInt8)} (h : unbL s = some l) : ∀ t ∈ l, t.length ≤ s.length := fun t ht => by
  have hb := (unb_back h).1
  have : t.length ≤ (encL l).length := by
    unfold encL
    obtain ⟨a, b, rfl⟩ := List.append_of_mem ht
    simp [oneL]; omega
  rw [hb] at this; exact this
theorem read_text : ∀ (n : Nat) (s : List UInt8), s.length ≤ n → ∀ l ∈ (readL s).1, ∀ t ∈ l, t.length ≤ 40000
  | n, s, hn => by
    by_cases hs : s = []
    · subst hs; rw [read_nil]; intro l hl; cases hl
    obtain ⟨l, r, e, hF⟩ : ∃ l r e, firstL s = (l, r, e) := ⟨_, _, _, rfl⟩
    by_cases he : e = 0
    · subst he
      obtain ⟨t, hu, hb, hlt⟩ := first_rest hF
      rw [read_next hF]
      cases n with
      | zero => omega
      | succ n =>
        intro m hm
        rcases List.mem_cons.1 hm with rfl | hm
        · intro t' ht'
          exact Nat.le_trans (unb_text hb t' ht') (frame_back hu).2
        · exact read_text n r (by omega) m hm
    · rw [read_end hs hF he]; intro l hl; cases hl
theorem readsegs_text (p : List UInt8) : ∀ (l : List Nat) (M : RS), ∀ b ∈ (readSegs p l M).2.1, ∀ t ∈ b, t.length ≤ 40000
  | [], M => fun b hb => by cases hb
  | n :: r, M => by
    have ih := readsegs_text p r M
    have h1 := read_text _ (bytesOf (fileN p n) M) (Nat.le_refl _)
    simp only [readSegs]
    split
    · split
      · intro b hb
        rcases List.mem_append.1 hb with hb | hb
        · exact h1 b hb
        · exact ih b hb
      · intro b hb; cases hb
    · split
      · intro b hb; cases hb
      · split
        · exact h1
        · intro b hb; cases hb
theorem jopen_text (p : List UInt8) (M : RS) : ∀ b ∈ (jopen p M).2.1, ∀ t ∈ b, t.length ≤ 40000 := by
  unfold jopen
  split
  · intro b hb; cases hb
  · split
    · intro b hb; cases hb
    · split
      · intro b hb; cases hb
      · exact readsegs_text p _ M
def MoPost (w x : World) (b : Nat) (F : List Nat) (err : Int) (s : MS) (M' : RS) (e : Ending) (y : World) : Prop :=
  ∃ F', (∀ k ∈ F', k ∈ F ∨ x.heap.size ≤ k) ∧ Keep F x y ∧ ProgAt w.heap.size y b M' F' ∧ Bel w y ∧ M'.ok ∧
    ((err ≠ 0 ∧ e = .returned (.tuple #[.pointer none, .int .i64 err])) ∨ (err = 0 ∧ ∃ mb jb D, e = .returned (.tuple #[.pointer (some ⟨mb, 0, none⟩), .int .i64 0]) ∧ PM w y b M' mb jb s 0 F' D ∧ x.heap.size ≤ mb ∧ ∀ k ∈ D, x.heap.size ≤ k))
set_option maxHeartbeats 8000000 in
theorem mopen_any (w x : World) (b : Nat) (M : RS) (F : List Nat) (hs : Std w) (hb : Bel w x) (hp : ProgAt w.heap.size x b M F) (hM : M.ok) (hr : M.room ≤ 1000000) :
    Calls Tryz.prog 32 #[.pointer (some ⟨b, 0, none⟩)] x (MoPost w x b F (jopen manP M).1 (lastM initM (jopen manP M).2.1) (jopen manP M).2.2) := by
  obtain ⟨err, L, M1, hj⟩ : ∃ err L M1, jopen manP M = (err, L, M1) := ⟨_, _, _, rfl⟩
  have hlens := jopen_lens manP hM hr
  have htext := jopen_text manP M
  rw [hj] at hlens htext ⊢
  have HLE := Lib.hid (show L.length ≤ 60000000 from hlens)
  have HTX := Lib.hid (show ∀ b ∈ L, ∀ t ∈ b, t.length ≤ 1000000 from fun b hb t ht => Nat.le_trans (htext b hb t ht) (by omega))
  have HOP := Lib.hid (open_st (x := x) hs hb hp hM manB 100000 manB_size hr hj)
  have HS := Lib.hid hs
  have HLT := Lib.hid (show ∀ k ∈ F, k < x.heap.size from fun k hk => (hp.within k hk).2)
  clear hs hb hp hM hr hj hlens htext
  go_enter Tryz.func32, Tryz.ntmps32
  go_wp2_with (fail)
  refine HOP.out.mono ?_
  rintro e y ⟨jv, v, F', rfl, hp1, hk1, hf1, hq1, hb1, hm1, hj1, hn1⟩
  have HP1 := Lib.hid hp1
  have HK1 := Lib.hid hk1
  have HF1 := Lib.hid hf1
  have HB1 := Lib.hid hb1
  have HM1 := Lib.hid hm1
  have HOWN := Lib.hid hq1.own
  by_cases he : err = 0
  rotate_left
  · obtain rfl := hn1 he
    obtain ⟨vp, vc, rfl⟩ := hq1.own.len
    have he1 : (err != 0) = true := by rw [bne_iff_ne]; exact he
    have HE := Lib.hid he
    clear hp1 hk1 hf1 hq1 hb1 hm1 hj1 hn1 he
    go_wp2_with (fail)
    go_ret2
    exact ⟨F', HF1.out, HK1.out, HP1.out, HB1.out, HM1.out, Or.inl ⟨HE.out, rfl⟩⟩
  · subst he
    obtain ⟨jb, rfl, hjs, hjq⟩ := hj1 rfl
    obtain ⟨vp, vc, rfl, hrow⟩ := hq1.own.row
    have HJS := Lib.hid hjs
    have HJQ := Lib.hid hjq
    have HLA := Lib.hid (last13_any _ y vp vc L hrow (by have := HLE.out; omega) HTX.out)
    clear hp1 hk1 hf1 hq1 hb1 hm1 hj1 hn1 hjs hjq hrow
    go_wp2_with (fail)
    refine HLA.out.mono ?_
    rintro e y2 ⟨q, d, rfl, hpl, hql, hb2⟩
    have HPL := Lib.hid hpl
    have HQL := Lib.hid hql
    have HB2 := Lib.hid hb2
    clear hpl hql hb2
    go_wp2_with (fail)
    go_ret2
    generalize lastM initM L = st at *
    have hz : y.heap.size ≤ y2.heap.size := HB2.out.size
    have hbA : Bel y2 (y2.alloc (.cells #[.pointer (some ⟨jb, 0, none⟩), .slice q st.files.length d, .int .i64 st.next, .int .i64 st.seq, .int .i64 st.log, .string st.mt, .int .i64 0] 110)) := (Bel.refl y2).alloc _
    have hbY := HB2.out.trans hbA
    refine ⟨F', HF1.out, HK1.out.then hbY, HP1.out.bel hbY, HB1.out.trans hbY, HM1.out, Or.inr ⟨rfl, y2.heap.size, jb, jb :: (if st.files = [] then [] else blkL q), rfl, ⟨HP1.out.bel hbY, HM1.out, HJS.out.j.bel hbY, HB1.out.trans hbY, HS.out, ⟨q, d, heap_alloc_new y2 _, HPL.out.bel hbA, fun hne a ha => ?_⟩, ⟨fun hm => ?_, ?_⟩, by simp, fun k hk => ?_⟩, ?_, fun k hk => ?_⟩⟩
    · rw [if_neg hne]; exact List.mem_cons_of_mem _ (mem_blkL ha)
    · have := (HP1.out.within _ hm).2; omega
    · have := HB1.out.size; omega
    · rcases List.mem_cons.1 hk with rfl | hk
      · have h1 := HJQ.out.2.1
        exact ⟨by omega, HJQ.out.2.2, Nat.lt_of_lt_of_le h1 (Nat.le_trans hz hbA.size)⟩
      · split at hk
        · cases hk
        · rename_i hne
          cases q with
          | none => cases hk
          | some a =>
            simp only [blkL, List.mem_singleton] at hk
            subst hk
            have h1 := HQL.out a rfl
            have h2 := HPL.out.lt hne a rfl
            exact ⟨by omega, fun hm => by have := (HP1.out.within _ hm).2; omega, Nat.lt_of_lt_of_le h2 hbA.size⟩
    · have h1 := HK1.out.size; omega
    · rcases List.mem_cons.1 hk with rfl | hk
      · exact HJQ.out.1
      · split at hk
        · cases hk
        · rename_i hne
          cases q with
          | none => cases hk
          | some a =>
            simp only [blkL, List.mem_singleton] at hk
            subst hk
            have h1 := HQL.out a rfl
            have h2 := HK1.out.size
            omega
end Go.Proofs.YtfbiinnenlgkfaaGreatDoor
/- (*manifest.Manifest).State. -/
set_option maxRecDepth 100000
namespace Go.Proofs.YtfbiinnenlgkfaaGreatDoor
open Go.RowKit Go.Deep

def StaPost (x : World) (s : MS) (e : Ending) (y : World) : Prop := ∃ p c, e = .returned (.agg #[.slice p s.files.length c, .int .i64 s.next, .int .i64 s.seq, .int .i64 s.log, .string s.mt]) ∧ OwnG plElP x.heap.size y (.slice p s.files.length c) s.files ∧ Bel x y
set_option maxHeartbeats 4000000 in
theorem state_any (x : World) (mb jb : Nat) (s : MS) (n : Nat) (fp : Option Addr) (fc : Nat) (h : x.heap[mb]? = some (.cells #[.pointer (some ⟨jb, 0, none⟩), .slice fp s.files.length fc, .int .i64 s.next, .int .i64 s.seq, .int .i64 s.log, .string s.mt, .int .i64 (n : Int)] 110 (0, 0))) (hp : PlsAt x fp s.files) (hl : s.files.length ≤ 100000) :
    Calls Tryz.prog 23 #[.pointer (some ⟨mb, 0, none⟩)] x (StaPost x s) := by
  obtain ⟨X, hX⟩ : ∃ X, X = x.heap.size := ⟨_, rfl⟩
  obtain ⟨x1, hx1⟩ : ∃ x1, x1 = x.alloc (.cells #[.slice none 0 0, .int .i64 0, .int .i64 0, .int .i64 0, .string ⟨#[]⟩] 24) := ⟨_, rfl⟩
  have hb : Bel x x1 := by rw [hx1]; exact (Bel.refl x).alloc _
  have HB := Lib.hid hb
  have HKX := Lib.hid (show x1.heap[X]? = some (.cells #[.slice none 0 0, .int .i64 0, .int .i64 0, .int .i64 0, .string ⟨#[]⟩] 24 (0, 0)) by rw [hx1, hX]; exact heap_alloc_new x _)
  have HZ := Lib.hid (show x1.heap.size = X + 1 by rw [hx1, hX]; simp)
  have HX := Lib.hid hX
  obtain ⟨⟨c0, c1, c2, c3, c4, c5, c6⟩, -⟩ := box7 (box_bel h hb)
  have HCP := Lib.hid (copied_any fp fc s x1 (hp.bel hb) hl)
  clear h hp hb
  rw [hx1] at c0 c1 c2 c3 c4 c5 c6
  go_enter Tryz.func23, Tryz.ntmps23
  go_wp2_with (fail)
  rw [← hx1, ← hX]
  clear hx1 hX
  refine HCP.out.mono ?_
  rintro e x2 ⟨p2, d2, rfl, ho2, hb2⟩
  have HO2 := Lib.hid ho2
  have HB2 := Lib.hid (HB.out.trans hb2)
  obtain ⟨⟨r0, r1, r2, r3, r4⟩, f0, f1, f2, f3, f4⟩ := box5 (box_bel HKX.out hb2)
  clear ho2 hb2 c0 c1 c2 c3 c4 c5 c6
  go_wp2_with (fail)
  refine bodyPost_ret (v := .agg #[.slice p2 s.files.length d2, .int .i64 s.next, .int .i64 s.seq, .int .i64 s.log, .string s.mt]) (by simp [results, Tryz.results23, go_sem, r0, r1, r2, r3, r4, f0, f1, f2, f3, f4]) rfl ⟨p2, d2, rfl, ?_, ?_⟩
  · have h1 : X < x1.heap.size := by have := HZ.out; omega
    rw [← HX.out]
    exact OwnG.low (B := x1.heap.size) (((((HO2.out.setCell (p := ⟨X, 0, none⟩) h1 _).setCell (p := ⟨X, 1, none⟩) h1 _).setCell (p := ⟨X, 2, none⟩) h1 _).setCell (p := ⟨X, 3, none⟩) h1 _).setCell (p := ⟨X, 4, none⟩) h1 _) (by omega)
  · have h3 := HX.out
    repeat' first | exact HB2.out | refine Bel.setCell ?_ (by simp; omega) _ | refine Bel.drewN ?_ _
end Go.Proofs.YtfbiinnenlgkfaaGreatDoor
/- moultlaw13's shown. -/
set_option maxRecDepth 100000
namespace Go.Proofs.YtfbiinnenlgkfaaGreatDoor
open Go.RowKit Go.Deep Go.Maps

theorem cell5 {w : World} {k : Nat} {T : TypeId} {a b c d e : Value} (h : w.heap[k]? = some (.cells #[a, b, c, d, e] T (0, 0))) : w.cell? ⟨k, 0, none⟩ = some a ∧ w.cell? ⟨k, 1, none⟩ = some b ∧ w.cell? ⟨k, 2, none⟩ = some c ∧ w.cell? ⟨k, 3, none⟩ = some d ∧ w.cell? ⟨k, 4, none⟩ = some e := (box5 h).1
theorem pls_lit2 {W : World} {B : Nat} {a b c d : Int} {T : TypeId} (h : W.heap[B]? = some (.cells #[.int .i64 a, .int .i64 b, .int .i64 c, .int .i64 d] T (0, 0))) : PlsAt W (some ⟨B, 0, none⟩) [⟨a, b⟩, ⟨c, d⟩] := fun i hi => by
  match i, hi with
  | 0, _ => exact ⟨_, B, 0, none, rfl, rfl, box_cell h 0, box_cell h 1⟩
  | 1, _ => exact ⟨_, B, 2, none, rfl, rfl, box_cell h 2, box_cell h 3⟩
set_option maxHeartbeats 8000000 in
theorem shown13_any (w : World) (hstd : Std w) : Calls Tryz.prog 9 #[] w fun e w' => e = .returned (.bool true) ∧ Bel w w' := by
  have HS := Lib.hid hstd; clear hstd
  go_enter Tryz.func9, Tryz.ntmps9
  go_wp2_with (fail)
  refine (pnew_any 10000 w (by omega)).mono ?_
  rintro e w1 ⟨rfl, hp1, hb1⟩
  obtain ⟨b, hb⟩ : ∃ b, b = w.heap.size := ⟨_, rfl⟩
  have HP1 := Lib.hid (show ProgAt w.heap.size w1 b (newS 10000) [w.heap.size] by rw [hb]; exact hp1)
  have HB1 := Lib.hid hb1
  rw [← hb]
  clear hp1 hb1 hb
  have HO := Lib.hid (mopen_any w w1 b (newS 10000) [w.heap.size] HS.out HB1.out HP1.out (new_ok 10000 (by omega)) (by decide))
  rw [mb_open 10000 (by omega)] at HO
  go_wp2_with (fail)
  refine HO.out.mono ?_
  rintro e w2 ⟨F2, hF2, hk2, hp2, hb2, hm2, (⟨h, -⟩ | ⟨-, mb, jb, D2, rfl, hpm, hmb, hD2⟩)⟩
  · exact absurd rfl h
  have HM2 := Lib.hid (show PM w w2 b (mbM 10000) mb jb initM 0 F2 D2 from hpm)
  clear hF2 hk2 hp2 hb2 hm2 hpm hmb hD2 HO
  obtain ⟨fp2, fc2, hbx2, hpl2, -⟩ := HM2.out.box
  have HST := Lib.hid (state_any w2 mb jb initM 0 fp2 fc2 hbx2 hpl2 (by decide))
  clear hbx2 hpl2
  go_wp2_with (fail)
  refine HST.out.mono ?_
  rintro e w3 ⟨p3, c3, rfl, ho3, hb3⟩
  have HO3 := Lib.hid ho3
  have HM3 := Lib.hid (HM2.out.bel hb3)
  clear ho3 hb3
  go_wp2_with (fail)
  obtain ⟨B5, hB5⟩ : ∃ B5, B5 = w3.heap.size := ⟨_, rfl⟩
  obtain ⟨w4, hw4⟩ : ∃ w4, w4 = (((w3.alloc (.cells #[.slice p3 initM.files.length c3, .int .i64 initM.next, .int .i64 initM.seq, .int .i64 initM.log, .string initM.mt] 24)).alloc (.cells #[.int .i64 1, .int .i64 0, .int .i64 2, .int .i64 1] 95)).alloc (.cells #[.slice (some ⟨w3.heap.size + 1, 0, none⟩) 2 2, .int .i64 3, .int .i64 5, .int .i64 1, .string ⟨#[]⟩] 24)) := ⟨_, rfl⟩
  obtain ⟨hz4, k0, k1, k2⟩ := alloc_three w3 (.cells #[.slice p3 initM.files.length c3, .int .i64 initM.next, .int .i64 initM.seq, .int .i64 initM.log, .string initM.mt] 24) (.cells #[.int .i64 1, .int .i64 0, .int .i64 2, .int .i64 1] 95) (.cells #[.slice (some ⟨w3.heap.size + 1, 0, none⟩) 2 2, .int .i64 3, .int .i64 5, .int .i64 1, .string ⟨#[]⟩] 24)
  rw [← hw4] at hz4 k0 k1 k2
  have hb4 : Bel w3 w4 := by rw [hw4]; exact (((Bel.refl w3).alloc _).alloc _).alloc _
  rw [← hw4, ← hB5]
  rw [← hB5] at k0 k1 k2 hz4
  have HK0 := Lib.hid k0
  have HK1 := Lib.hid k1
  have HK2 := Lib.hid k2
  have HO4 := Lib.hid (HO3.out.bel hb4)
  have HM4 := Lib.hid (HM3.out.bel hb4)
  have HLT := Lib.hid (show ∀ k ∈ mb :: F2, k < B5 from fun k hk => by
    rcases List.mem_cons.1 hk with rfl | hk
    · rw [hB5]; exact HM3.out.mlt
    · rw [hB5]; exact (HM3.out.flt k hk).2)
  have HB5 := Lib.hid hB5
  clear hw4 hz4 k0 k1 k2 hb4 hB5
  have HPL := Lib.hid (pls_lit2 HK1.out)
  have HSET := Lib.hid (set13_any w w4 b (mbM 10000) mb jb initM 0 F2 D2 HM4.out (some ⟨B5 + 1, 0, none⟩) 2 s3 HPL.out (fun _ a ha hm => by
    simp only [Option.some.injEq] at ha
    subst ha
    have := HLT.out _ hm
    simp only at this; omega) (by decide) (by decide) (by rw [mb_last]; omega) (by rw [mb_last]; omega) (by omega))
  rw [shm_set] at HSET
  refine HSET.out.mono ?_
  rintro e w5 ⟨rfl, F5, D5, hpm5, hk5, hF5, hD5⟩
  have HM5 := Lib.hid (show PM w w5 b mA4 mb jb s3 1 F5 D5 from hpm5)
  have HK5 := Lib.hid hk5
  have HF5 := Lib.hid hF5
  clear HSET hpm5 hk5 hF5 hD5
  have HSET2 := Lib.hid (set13_any w w5 b mA4 mb jb s3 1 F5 D5 HM5.out none 0 s2 (PlsAt.nil _ _) (fun h => absurd rfl h) (by decide) (by decide) (by rw [show lastN manP mA4.L = 2 from mlast2 _ _]; omega) (by rw [show lastN manP mA4.L = 2 from mlast2 _ _]; omega) (by omega))
  rw [shm_set2] at HSET2
  go_wp2_with (fail)
  refine HSET2.out.mono ?_
  rintro e w6 ⟨rfl, F6, D6, hpm6, hk6, hF6, hD6⟩
  have HM6 := Lib.hid (show PM w w6 b mA4 mb jb s3 1 F6 D6 from hpm6)
  have HK6 := Lib.hid (show ∀ k o, w4.heap[k]? = some o → B5 ≤ k → w6.heap[k]? = some o from fun k o ho hk => by
    have h5 := HK5.out.at ho (fun hm => by have := HLT.out k hm; omega)
    refine hk6.at h5 (fun hm => ?_)
    rcases List.mem_cons.1 hm with rfl | hm
    · have := HLT.out k (by simp); omega
    · rcases HF5.out k hm with h | h
      · have := HLT.out k (by simp [h]); omega
      · have := box_lt ho; omega)
  have HF6 := Lib.hid (show ∀ k o, w4.heap[k]? = some o → B5 ≤ k → k ∉ F6 from fun k o ho hk hm => by
    have hl := box_lt ho
    have h45 := HK5.out.size
    rcases hF6 k hm with h | h
    · rcases HF5.out k h with h | h
      · have := HLT.out k (by simp [h]); omega
      · omega
    · omega)
  clear HSET2 hpm6 hk6 hF6 hD6
  have HOP := Lib.hid (mopen_any w w6 b mA4 F6 HS.out HM6.out.low HM6.out.prog HM6.out.ok (by decide))
  rw [shm_open] at HOP
  simp only at HOP
  rw [shm_last] at HOP
  go_wp2_with (fail)
  refine HOP.out.mono ?_
  rintro e w7 ⟨F7, hF7, hk7, hp7, hb7, hm7, (⟨h, -⟩ | ⟨-, mb2, jb2, D7, rfl, hpm, hmb, hD7⟩)⟩
  · exact absurd rfl h
  have HM7 := Lib.hid (show PM w w7 b mA4 mb2 jb2 s3 0 F7 D7 from hpm)
  have HK7 := Lib.hid (show ∀ k o, w4.heap[k]? = some o → B5 ≤ k → w7.heap[k]? = some o from fun k o ho hk => hk7.at (HK6.out k o ho hk) (HF6.out k o ho hk))
  clear hF7 hk7 hp7 hb7 hm7 hpm hmb hD7 HOP
  have HA7 := Lib.hid (HK7.out _ _ HK0.out (Nat.le_refl _))
  obtain ⟨a0, a1, a2, a3, a4⟩ := cell5 HA7.out
  have HPK := Lib.hid (pack13_any p3 c3 initM w7 (PlsAt.nil _ _) (by decide) (by decide))
  rw [show packV initM = .tuple #[.string ⟨#[1, 0, 1, 0]⟩, .int .i64 0] by rw [pack_yes right0, enc0]] at HPK
  go_wp2_with (fail)
  refine HPK.out.mono ?_
  rintro e w8 ⟨rfl, hb8⟩
  have HB8 := Lib.hid hb8
  clear hb8 a0 a1 a2 a3 a4 HPK
  obtain ⟨w9, hw9⟩ : ∃ w9, w9 = w8.alloc (.cells #[.int .i64 2, .int .i64 0, .int .i64 1, .int .i64 0] 95) := ⟨_, rfl⟩
  have HB9 := Lib.hid (show Bel w7 w9 by rw [hw9]; exact HB8.out.alloc _)
  have HPW := Lib.hid (pack13_any (some ⟨w8.heap.size, 0, none⟩) 2 sW w9 (by rw [hw9]; exact pls_lit2 (heap_alloc_new w8 _)) (by decide) (by decide))
  rw [show packV sW = .tuple #[.string ⟨#[]⟩, .int .i64 1] from pack_no rightW] at HPW
  go_wp2_with (fail)
  rw [← hw9]
  clear hw9
  refine HPW.out.mono ?_
  rintro e x ⟨rfl, hbx⟩
  have HBX := Lib.hid (HB9.out.trans hbx)
  clear hbx HPW
  have HAX := Lib.hid (box_bel HA7.out HBX.out)
  have HSX := Lib.hid (box_bel (HK7.out _ _ HK2.out (by omega)) HBX.out)
  have HLX := Lib.hid (box_bel (HK7.out _ _ HK1.out (by omega)) HBX.out)
  obtain ⟨a0, a1, a2, a3, a4⟩ := cell5 HAX.out
  obtain ⟨b0, b1, b2, b3, b4⟩ := cell5 HSX.out
  have HMX := Lib.hid (HM7.out.bel HBX.out)
  go_wp2_with (fail)
  refine wp_region_held_drew (S := fun z => (z.cell? ⟨B5, 0, none⟩ = some (.slice p3 initM.files.length c3) ∧ z.cell? ⟨B5, 1, none⟩ = some (.int .i64 initM.next) ∧ z.cell? ⟨B5, 2, none⟩ = some (.int .i64 initM.seq) ∧ z.cell? ⟨B5, 3, none⟩ = some (.int .i64 initM.log) ∧ z.cell? ⟨B5, 4, none⟩ = some (.string initM.mt)) ∧
    z.cell? ⟨B5 + 1 + 1, 0, none⟩ = some (.slice (some ⟨B5 + 1, 0, none⟩) 2 2) ∧ z.cell? ⟨B5 + 1 + 1, 1, none⟩ = some (.int .i64 3) ∧ z.cell? ⟨B5 + 1 + 1, 2, none⟩ = some (.int .i64 5) ∧ z.cell? ⟨B5 + 1 + 1, 3, none⟩ = some (.int .i64 1) ∧ z.cell? ⟨B5 + 1 + 1, 4, none⟩ = some (.string ⟨#[]⟩)) (by kernel_rfl) ⟨⟨a0, a1, a2, a3, a4⟩, b0, b1, b2, b3, b4⟩ (fun hHeld => ?_)
  clear a0 a1 a2 a3 a4 b0 b1 b2 b3 b4
  refine tk (oi := { dst := some 62, op := Op.load 24 (Operand.tmp 5), type := 24, pos := "law.go:67", after := #[], guard := none }) (v := ?_) 0 rfl ?_ ?_
  rotate_left
  · (intro w hSw; (try dsimp only at hSw); first | (go_simp; done) | (go_simp; with_reducible rfl))
  try simp only [Act.put, List.setIfInBounds_toArray, List.set_cons_zero, List.set_cons_succ]
  refine tk (oi := { dst := some 63, op := Op.build 24 #[(1, Operand.const (Value.int IntKind.i64 1)), (3, Operand.const (Value.int IntKind.i64 1))], type := 24, pos := "law.go:67", after := #[], guard := none }) (v := ?_) 1 rfl ?_ ?_
  rotate_left
  · (intro w hSw; (try dsimp only at hSw); first | (go_simp; done) | (go_simp; with_reducible rfl))
  try simp only [Act.put, List.setIfInBounds_toArray, List.set_cons_zero, List.set_cons_succ]
  refine wpAnyH_ready (rs := [2]) (by kernel_rfl) (by simp) ?_
  refine AllReadyH.cons (o := { dst := some 64, op := Op.call { callee := Callee.value (Operand.func 18), args := #[Operand.tmp 62, Operand.tmp 63], argTypes := #[24, 24] }, type := 4, pos := "law.go:67", after := #[{ on := 0, ground := Ground.data }, { on := 1, ground := Ground.data }], guard := none }) rfl (fun K hK => ?_) AllReadyH.nil
  go_simp
  refine (same13_any p3 none c3 0 initM initM x.drew (PlsAt.nil _ _) (PlsAt.nil _ _) (by decide) (by decide) (by decide)).mono ?_
  rintro e x1 ⟨rfl, hb1⟩
  rw [show (asB initM && eqM initM initM) = true by rw [eqM_yes rfl]; decide]
  have HX1 := Lib.hid (show Bel x x1 from (Bel.refl x).drew.trans hb1)
  clear hb1
  dsimp only
  refine hK.out _ _ ⟨cell5 (box_bel HAX.out HX1.out), cell5 (box_bel HSX.out HX1.out)⟩ (fun hHeld => ?_)
  clear hK K
  try simp only [Act.put, List.setIfInBounds_toArray, List.set_cons_zero, List.set_cons_succ]
  refine tk (oi := { dst := some 65, op := Op.move (Operand.tmp 64), type := 4, pos := "law.go:67", after := #[{ on := 2, ground := Ground.data }, { on := 2, ground := Ground.chain }], guard := none }) (v := ?_) 3 rfl ?_ ?_
  rotate_left
  · (intro w hSw; (try dsimp only at hSw); first | (go_simp; done) | (go_simp; with_reducible rfl))
  try simp only [Act.put, List.setIfInBounds_toArray, List.set_cons_zero, List.set_cons_succ]
  refine tk (oi := { dst := some 66, op := Op.move (Operand.tmp 7), type := 31, pos := "law.go:67", after := #[{ on := 3, ground := Ground.guard }], guard := some (3, true) }) (v := ?_) 4 rfl ?_ ?_
  rotate_left
  · (intro w hSw; (try dsimp only at hSw); first | (go_simp; done) | (go_simp; with_reducible rfl))
  try simp only [Act.put, List.setIfInBounds_toArray, List.set_cons_zero, List.set_cons_succ]
  refine tk (oi := { dst := some 67, op := Op.binOp BinOp.eql 31 (Operand.tmp 66) (Operand.const (Value.int IntKind.i64 0)) 31, type := 4, pos := "law.go:67", after := #[{ on := 4, ground := Ground.data }, { on := 3, ground := Ground.guard }], guard := some (3, true) }) (v := ?_) 5 rfl ?_ ?_
  rotate_left
  · (intro w hSw; (try dsimp only at hSw); first | (go_simp; done) | (go_simp; with_reducible rfl))
  try simp only [Act.put, List.setIfInBounds_toArray, List.set_cons_zero, List.set_cons_succ]
  refine tk (oi := { dst := some 68, op := Op.pick (Operand.tmp 65) (Operand.tmp 67) (Operand.const (Value.bool false)), type := 4, pos := "law.go:67", after := #[{ on := 3, ground := Ground.data }, { on := 5, ground := Ground.data }], guard := none }) (v := ?_) 6 rfl ?_ ?_
  rotate_left
  · (intro w hSw; (try dsimp only at hSw); first | (go_simp; done) | (go_simp; with_reducible rfl))
  try simp only [Act.put, List.setIfInBounds_toArray, List.set_cons_zero, List.set_cons_succ]
  refine tk (oi := { dst := some 69, op := Op.move (Operand.tmp 68), type := 4, pos := "law.go:67", after := #[{ on := 6, ground := Ground.data }, { on := 3, ground := Ground.chain }], guard := none }) (v := ?_) 7 rfl ?_ ?_
  rotate_left
  · (intro w hSw; (try dsimp only at hSw); first | (go_simp; done) | (go_simp; with_reducible rfl))
  try simp only [Act.put, List.setIfInBounds_toArray, List.set_cons_zero, List.set_cons_succ]
  refine tk (oi := { dst := some 70, op := Op.move (Operand.tmp 8), type := 31, pos := "law.go:67", after := #[{ on := 7, ground := Ground.guard }], guard := some (7, true) }) (v := ?_) 8 rfl ?_ ?_
  rotate_left
  · (intro w hSw; (try dsimp only at hSw); first | (go_simp; done) | (go_simp; with_reducible rfl))
  try simp only [Act.put, List.setIfInBounds_toArray, List.set_cons_zero, List.set_cons_succ]
  refine tk (oi := { dst := some 71, op := Op.binOp BinOp.eql 31 (Operand.tmp 70) (Operand.const (Value.int IntKind.i64 1)) 31, type := 4, pos := "law.go:67", after := #[{ on := 8, ground := Ground.data }, { on := 7, ground := Ground.guard }], guard := some (7, true) }) (v := ?_) 9 rfl ?_ ?_
  rotate_left
  · (intro w hSw; (try dsimp only at hSw); first | (go_simp; done) | (go_simp; with_reducible rfl))
  try simp only [Act.put, List.setIfInBounds_toArray, List.set_cons_zero, List.set_cons_succ]
  refine tk (oi := { dst := some 72, op := Op.pick (Operand.tmp 69) (Operand.tmp 71) (Operand.const (Value.bool false)), type := 4, pos := "law.go:67", after := #[{ on := 7, ground := Ground.data }, { on := 9, ground := Ground.data }], guard := none }) (v := ?_) 10 rfl ?_ ?_
  rotate_left
  · (intro w hSw; (try dsimp only at hSw); first | (go_simp; done) | (go_simp; with_reducible rfl))
  try simp only [Act.put, List.setIfInBounds_toArray, List.set_cons_zero, List.set_cons_succ]
  refine tk (oi := { dst := some 73, op := Op.move (Operand.tmp 72), type := 4, pos := "law.go:67", after := #[{ on := 10, ground := Ground.data }, { on := 7, ground := Ground.chain }], guard := none }) (v := ?_) 11 rfl ?_ ?_
  rotate_left
  · (intro w hSw; (try dsimp only at hSw); first | (go_simp; done) | (go_simp; with_reducible rfl))
  try simp only [Act.put, List.setIfInBounds_toArray, List.set_cons_zero, List.set_cons_succ]
  refine tk (oi := { dst := some 74, op := Op.move (Operand.tmp 9), type := 56, pos := "law.go:67", after := #[{ on := 11, ground := Ground.guard }], guard := some (11, true) }) (v := ?_) 12 rfl ?_ ?_
  rotate_left
  · (intro w hSw; (try dsimp only at hSw); first | (go_simp; done) | (go_simp; with_reducible rfl))
  try simp only [Act.put, List.setIfInBounds_toArray, List.set_cons_zero, List.set_cons_succ]
  refine tk (oi := { dst := some 75, op := Op.binOp BinOp.neq 56 (Operand.tmp 74) (Operand.const (Value.pointer none)) 56, type := 4, pos := "law.go:67", after := #[{ on := 12, ground := Ground.data }, { on := 11, ground := Ground.guard }], guard := some (11, true) }) (v := ?_) 13 rfl ?_ ?_
  rotate_left
  · (intro w hSw; (try dsimp only at hSw); first | (go_simp; done) | (go_simp; with_reducible rfl))
  try simp only [Act.put, List.setIfInBounds_toArray, List.set_cons_zero, List.set_cons_succ]
  refine tk (oi := { dst := some 76, op := Op.pick (Operand.tmp 73) (Operand.tmp 75) (Operand.const (Value.bool false)), type := 4, pos := "law.go:67", after := #[{ on := 11, ground := Ground.data }, { on := 13, ground := Ground.data }], guard := none }) (v := ?_) 14 rfl ?_ ?_
  rotate_left
  · (intro w hSw; (try dsimp only at hSw); first | (go_simp; done) | (go_simp; with_reducible rfl))
  try simp only [Act.put, List.setIfInBounds_toArray, List.set_cons_zero, List.set_cons_succ]
  refine tk (oi := { dst := some 77, op := Op.move (Operand.tmp 76), type := 4, pos := "law.go:67", after := #[{ on := 14, ground := Ground.data }, { on := 11, ground := Ground.chain }], guard := none }) (v := ?_) 15 rfl ?_ ?_
  rotate_left
  · (intro w hSw; (try dsimp only at hSw); first | (go_simp; done) | (go_simp; with_reducible rfl))
  try simp only [Act.put, List.setIfInBounds_toArray, List.set_cons_zero, List.set_cons_succ]
  refine tk (oi := { dst := some 78, op := Op.move (Operand.tmp 10), type := 31, pos := "law.go:67", after := #[{ on := 15, ground := Ground.guard }], guard := some (15, true) }) (v := ?_) 16 rfl ?_ ?_
  rotate_left
  · (intro w hSw; (try dsimp only at hSw); first | (go_simp; done) | (go_simp; with_reducible rfl))
  try simp only [Act.put, List.setIfInBounds_toArray, List.set_cons_zero, List.set_cons_succ]
  refine tk (oi := { dst := some 79, op := Op.binOp BinOp.eql 31 (Operand.tmp 78) (Operand.const (Value.int IntKind.i64 0)) 31, type := 4, pos := "law.go:67", after := #[{ on := 16, ground := Ground.data }, { on := 15, ground := Ground.guard }], guard := some (15, true) }) (v := ?_) 17 rfl ?_ ?_
  rotate_left
  · (intro w hSw; (try dsimp only at hSw); first | (go_simp; done) | (go_simp; with_reducible rfl))
  try simp only [Act.put, List.setIfInBounds_toArray, List.set_cons_zero, List.set_cons_succ]
  refine tk (oi := { dst := some 80, op := Op.pick (Operand.tmp 77) (Operand.tmp 79) (Operand.const (Value.bool false)), type := 4, pos := "law.go:67", after := #[{ on := 15, ground := Ground.data }, { on := 17, ground := Ground.data }], guard := none }) (v := ?_) 18 rfl ?_ ?_
  rotate_left
  · (intro w hSw; (try dsimp only at hSw); first | (go_simp; done) | (go_simp; with_reducible rfl))
  try simp only [Act.put, List.setIfInBounds_toArray, List.set_cons_zero, List.set_cons_succ]
  refine tk (oi := { dst := some 81, op := Op.move (Operand.tmp 80), type := 4, pos := "law.go:67", after := #[{ on := 18, ground := Ground.data }, { on := 15, ground := Ground.chain }], guard := none }) (v := ?_) 19 rfl ?_ ?_
  rotate_left
  · (intro w hSw; (try dsimp only at hSw); first | (go_simp; done) | (go_simp; with_reducible rfl))
  try simp only [Act.put, List.setIfInBounds_toArray, List.set_cons_zero, List.set_cons_succ]
  refine tk (oi := { dst := some 82, op := Op.move (Operand.tmp 9), type := 56, pos := "law.go:67", after := #[{ on := 19, ground := Ground.guard }], guard := some (19, true) }) (v := ?_) 20 rfl ?_ ?_
  rotate_left
  · (intro w hSw; (try dsimp only at hSw); first | (go_simp; done) | (go_simp; with_reducible rfl))
  try simp only [Act.put, List.setIfInBounds_toArray, List.set_cons_zero, List.set_cons_succ]
  refine tk (oi := { dst := some 84, op := Op.load 24 (Operand.tmp 6), type := 24, pos := "law.go:67", after := #[{ on := 19, ground := Ground.guard }], guard := some (19, true) }) (v := ?_) 22 rfl ?_ ?_
  rotate_left
  · (intro w hSw; (try dsimp only at hSw); first | (go_simp; done) | (go_simp; with_reducible rfl))
  try simp only [Act.put, List.setIfInBounds_toArray, List.set_cons_zero, List.set_cons_succ]
  obtain ⟨fp, fc, hbx, hpl, -⟩ := (HMX.out.bel HX1.out).box
  refine wpAnyH_ready (rs := [21]) (by kernel_rfl) (by simp) ?_
  refine AllReadyH.cons (o := { dst := some 83, op := Op.call { callee := Callee.value (Operand.func 23), args := #[Operand.tmp 82], argTypes := #[56] }, type := 24, pos := "law.go:67", after := #[{ on := 20, ground := Ground.data }, { on := 19, ground := Ground.chain }, { on := 19, ground := Ground.guard }], guard := some (19, true) }) rfl (fun K hK => ?_) AllReadyH.nil
  go_simp
  refine (state_any x1 mb2 jb2 s3 0 fp fc hbx hpl (by decide)).mono ?_
  rintro e x2 ⟨p2, c2, rfl, ho2, hb2⟩
  have HO2 := Lib.hid ho2
  have HX2 := Lib.hid (HX1.out.trans hb2)
  clear ho2 hb2 hbx hpl
  dsimp only
  refine hK.out _ _ ⟨cell5 (box_bel HAX.out HX2.out), cell5 (box_bel HSX.out HX2.out)⟩ (fun hHeld => ?_)
  clear hK K
  try simp only [Act.put, List.setIfInBounds_toArray, List.set_cons_zero, List.set_cons_succ]
  refine wpAnyH_ready (rs := [23]) (by kernel_rfl) (by simp) ?_
  refine AllReadyH.cons (o := { dst := some 85, op := Op.call { callee := Callee.value (Operand.func 18), args := #[Operand.tmp 83, Operand.tmp 84], argTypes := #[24, 24] }, type := 4, pos := "law.go:67", after := #[{ on := 21, ground := Ground.data }, { on := 22, ground := Ground.data }, { on := 21, ground := Ground.chain }, { on := 19, ground := Ground.guard }], guard := some (19, true) }) rfl (fun K hK => ?_) AllReadyH.nil
  go_simp
  refine (same13_any p2 (some ⟨B5 + 1, 0, none⟩) c2 2 s3 s3 x2 (pls_ownP HO2.out) (pls_lit2 (box_bel HLX.out HX2.out)) (by decide) (by decide) (by decide)).mono ?_
  rintro e x3 ⟨rfl, hb3⟩
  rw [show (asB s3 && eqM s3 s3) = true by rw [eqM_yes rfl]; decide]
  have HX3 := Lib.hid (HX2.out.trans hb3)
  clear hb3
  dsimp only
  refine hK.out _ _ ⟨cell5 (box_bel HAX.out HX3.out), cell5 (box_bel HSX.out HX3.out)⟩ (fun hHeld => ?_)
  clear hK K
  try simp only [Act.put, List.setIfInBounds_toArray, List.set_cons_zero, List.set_cons_succ]
  refine tk (oi := { dst := some 86, op := Op.pick (Operand.tmp 81) (Operand.tmp 85) (Operand.const (Value.bool false)), type := 4, pos := "law.go:67", after := #[{ on := 19, ground := Ground.data }, { on := 23, ground := Ground.data }], guard := none }) (v := ?_) 24 rfl ?_ ?_
  rotate_left
  · (intro w hSw; (try dsimp only at hSw); first | (go_simp; done) | (go_simp; with_reducible rfl))
  try simp only [Act.put, List.setIfInBounds_toArray, List.set_cons_zero, List.set_cons_succ]
  refine tk (oi := { dst := some 87, op := Op.move (Operand.tmp 86), type := 4, pos := "law.go:67", after := #[{ on := 24, ground := Ground.data }, { on := 23, ground := Ground.chain }], guard := none }) (v := ?_) 25 rfl ?_ ?_
  rotate_left
  · (intro w hSw; (try dsimp only at hSw); first | (go_simp; done) | (go_simp; with_reducible rfl))
  try simp only [Act.put, List.setIfInBounds_toArray, List.set_cons_zero, List.set_cons_succ]
  refine tk (oi := { dst := some 88, op := Op.move (Operand.tmp 11), type := 9, pos := "law.go:67", after := #[{ on := 25, ground := Ground.guard }], guard := some (25, true) }) (v := ?_) 26 rfl ?_ ?_
  rotate_left
  · (intro w hSw; (try dsimp only at hSw); first | (go_simp; done) | (go_simp; with_reducible rfl))
  try simp only [Act.put, List.setIfInBounds_toArray, List.set_cons_zero, List.set_cons_succ]
  refine tk (oi := { dst := some 89, op := Op.binOp BinOp.eql 9 (Operand.tmp 88) (Operand.const (Value.string { data := #[1, 0, 1, 0] })) 9, type := 4, pos := "law.go:67", after := #[{ on := 26, ground := Ground.data }, { on := 25, ground := Ground.guard }], guard := some (25, true) }) (v := ?_) 27 rfl ?_ ?_
  rotate_left
  · (intro w hSw; (try dsimp only at hSw); first | (go_simp; done) | (go_simp; with_reducible rfl))
  try simp only [Act.put, List.setIfInBounds_toArray, List.set_cons_zero, List.set_cons_succ]
  refine tk (oi := { dst := some 90, op := Op.pick (Operand.tmp 87) (Operand.tmp 89) (Operand.const (Value.bool false)), type := 4, pos := "law.go:67", after := #[{ on := 25, ground := Ground.data }, { on := 27, ground := Ground.data }], guard := none }) (v := ?_) 28 rfl ?_ ?_
  rotate_left
  · (intro w hSw; (try dsimp only at hSw); first | (go_simp; done) | (go_simp; with_reducible rfl))
  try simp only [Act.put, List.setIfInBounds_toArray, List.set_cons_zero, List.set_cons_succ]
  refine tk (oi := { dst := some 91, op := Op.move (Operand.tmp 90), type := 4, pos := "law.go:67", after := #[{ on := 28, ground := Ground.data }, { on := 25, ground := Ground.chain }], guard := none }) (v := ?_) 29 rfl ?_ ?_
  rotate_left
  · (intro w hSw; (try dsimp only at hSw); first | (go_simp; done) | (go_simp; with_reducible rfl))
  try simp only [Act.put, List.setIfInBounds_toArray, List.set_cons_zero, List.set_cons_succ]
  refine tk (oi := { dst := some 92, op := Op.move (Operand.tmp 12), type := 31, pos := "law.go:67", after := #[{ on := 29, ground := Ground.guard }], guard := some (29, true) }) (v := ?_) 30 rfl ?_ ?_
  rotate_left
  · (intro w hSw; (try dsimp only at hSw); first | (go_simp; done) | (go_simp; with_reducible rfl))
  try simp only [Act.put, List.setIfInBounds_toArray, List.set_cons_zero, List.set_cons_succ]
  refine tk (oi := { dst := some 93, op := Op.binOp BinOp.eql 31 (Operand.tmp 92) (Operand.const (Value.int IntKind.i64 0)) 31, type := 4, pos := "law.go:67", after := #[{ on := 30, ground := Ground.data }, { on := 29, ground := Ground.guard }], guard := some (29, true) }) (v := ?_) 31 rfl ?_ ?_
  rotate_left
  · (intro w hSw; (try dsimp only at hSw); first | (go_simp; done) | (go_simp; with_reducible rfl))
  try simp only [Act.put, List.setIfInBounds_toArray, List.set_cons_zero, List.set_cons_succ]
  refine tk (oi := { dst := some 94, op := Op.pick (Operand.tmp 91) (Operand.tmp 93) (Operand.const (Value.bool false)), type := 4, pos := "law.go:67", after := #[{ on := 29, ground := Ground.data }, { on := 31, ground := Ground.data }], guard := none }) (v := ?_) 32 rfl ?_ ?_
  rotate_left
  · (intro w hSw; (try dsimp only at hSw); first | (go_simp; done) | (go_simp; with_reducible rfl))
  try simp only [Act.put, List.setIfInBounds_toArray, List.set_cons_zero, List.set_cons_succ]
  refine tk (oi := { dst := some 95, op := Op.move (Operand.tmp 94), type := 4, pos := "law.go:67", after := #[{ on := 32, ground := Ground.data }, { on := 29, ground := Ground.chain }], guard := none }) (v := ?_) 33 rfl ?_ ?_
  rotate_left
  · (intro w hSw; (try dsimp only at hSw); first | (go_simp; done) | (go_simp; with_reducible rfl))
  try simp only [Act.put, List.setIfInBounds_toArray, List.set_cons_zero, List.set_cons_succ]
  refine tk (oi := { dst := some 96, op := Op.move (Operand.tmp 14), type := 31, pos := "law.go:67", after := #[{ on := 33, ground := Ground.guard }], guard := some (33, true) }) (v := ?_) 34 rfl ?_ ?_
  rotate_left
  · (intro w hSw; (try dsimp only at hSw); first | (go_simp; done) | (go_simp; with_reducible rfl))
  try simp only [Act.put, List.setIfInBounds_toArray, List.set_cons_zero, List.set_cons_succ]
  refine tk (oi := { dst := some 97, op := Op.binOp BinOp.eql 31 (Operand.tmp 96) (Operand.const (Value.int IntKind.i64 1)) 31, type := 4, pos := "law.go:67", after := #[{ on := 34, ground := Ground.data }, { on := 33, ground := Ground.guard }], guard := some (33, true) }) (v := ?_) 35 rfl ?_ ?_
  rotate_left
  · (intro w hSw; (try dsimp only at hSw); first | (go_simp; done) | (go_simp; with_reducible rfl))
  try simp only [Act.put, List.setIfInBounds_toArray, List.set_cons_zero, List.set_cons_succ]
  refine tk (oi := { dst := some 98, op := Op.pick (Operand.tmp 95) (Operand.tmp 97) (Operand.const (Value.bool false)), type := 4, pos := "law.go:67", after := #[{ on := 33, ground := Ground.data }, { on := 35, ground := Ground.data }], guard := none }) (v := ?_) 36 rfl ?_ ?_
  rotate_left
  · (intro w hSw; (try dsimp only at hSw); first | (go_simp; done) | (go_simp; with_reducible rfl))
  try simp only [Act.put, List.setIfInBounds_toArray, List.set_cons_zero, List.set_cons_succ]
  refine tk (oi := { dst := some 0, op := Op.assign (Operand.tmp 98), type := 4, pos := "law.go:67", after := #[{ on := 36, ground := Ground.data }, { on := 33, ground := Ground.chain }, { on := 0, ground := Ground.phase }, { on := 1, ground := Ground.phase }, { on := 2, ground := Ground.phase }, { on := 3, ground := Ground.phase }, { on := 4, ground := Ground.phase }, { on := 5, ground := Ground.phase }, { on := 6, ground := Ground.phase }, { on := 7, ground := Ground.phase }, { on := 8, ground := Ground.phase }, { on := 9, ground := Ground.phase }, { on := 10, ground := Ground.phase }, { on := 11, ground := Ground.phase }, { on := 12, ground := Ground.phase }, { on := 13, ground := Ground.phase }, { on := 14, ground := Ground.phase }, { on := 15, ground := Ground.phase }, { on := 16, ground := Ground.phase }, { on := 17, ground := Ground.phase }, { on := 18, ground := Ground.phase }, { on := 19, ground := Ground.phase }, { on := 20, ground := Ground.phase }, { on := 21, ground := Ground.phase }, { on := 22, ground := Ground.phase }, { on := 23, ground := Ground.phase }, { on := 24, ground := Ground.phase }, { on := 25, ground := Ground.phase }, { on := 26, ground := Ground.phase }, { on := 27, ground := Ground.phase }, { on := 28, ground := Ground.phase }, { on := 29, ground := Ground.phase }, { on := 30, ground := Ground.phase }, { on := 31, ground := Ground.phase }, { on := 32, ground := Ground.phase }, { on := 33, ground := Ground.phase }, { on := 34, ground := Ground.phase }, { on := 35, ground := Ground.phase }, { on := 36, ground := Ground.phase }], guard := none }) (v := ?_) 37 rfl ?_ ?_
  rotate_left
  · (intro w hSw; (try dsimp only at hSw); first | (go_simp; done) | (go_simp; with_reducible rfl))
  try simp only [Act.put, List.setIfInBounds_toArray, List.set_cons_zero, List.set_cons_succ]
  refine wpAnyH_done (by kernel_rfl) ?_ _
  clear hHeld
  go_wp2_with (fail)
  go_ret
  exact ⟨rfl, HM7.out.low.trans (HBX.out.trans HX3.out)⟩
end Go.Proofs.YtfbiinnenlgkfaaGreatDoor
/- moultlaw13's acts, as they lie; small. -/
set_option maxRecDepth 100000
namespace Go.Proofs.YtfbiinnenlgkfaaGreatDoor
open Go.RowKit Go.Deep Go.Maps

structure NV where
  op : Int
  n : Int
  p : Option Addr
  c : Nat
  st : MS
  left : SI
  spoil : SI
structure NV.ok (w : World) (x : NV) : Prop where
  op : in64 x.op
  n : in64 x.n
  next : in64 x.st.next
  seq : in64 x.st.seq
  log : in64 x.st.log
  at_ : PlsAt w x.p x.st.files
  each : ∀ f ∈ x.st.files, in64 f.n ∧ in64 f.l
  len : x.st.files.length ≤ maxLen
  mt : x.st.mt.size ≤ maxLen
  left : SI.ok w x.left
  spoil : SI.ok w x.spoil
def NV.cells (x : NV) : List Value := [.int .i64 x.op, .int .i64 x.n, .slice x.p x.st.files.length x.c, .int .i64 x.st.next, .int .i64 x.st.seq, .int .i64 x.st.log, .string x.st.mt, .slice x.left.p x.left.L.length x.left.cap, .slice x.spoil.p x.spoil.L.length x.spoil.cap]
def NActs (w : World) (p : Option Addr) (L : List NV) : Prop := ∀ i (h : i < L.length), ∃ a B O sp, p = some a ∧ a.add (i * 9) = ⟨B, O, sp⟩ ∧
  (w.cell? ⟨B, O, sp⟩ = some (.int .i64 L[i].op) ∧ w.cell? ⟨B, O + 1, none⟩ = some (.int .i64 L[i].n) ∧ w.cell? ⟨B, O + 2, none⟩ = some (.slice L[i].p L[i].st.files.length L[i].c) ∧ w.cell? ⟨B, O + 3, none⟩ = some (.int .i64 L[i].st.next) ∧ w.cell? ⟨B, O + 4, none⟩ = some (.int .i64 L[i].st.seq) ∧
   w.cell? ⟨B, O + 5, none⟩ = some (.int .i64 L[i].st.log) ∧ w.cell? ⟨B, O + 6, none⟩ = some (.string L[i].st.mt) ∧ w.cell? ⟨B, O + 7, none⟩ = some (.slice L[i].left.p L[i].left.L.length L[i].left.cap) ∧ w.cell? ⟨B, O + 8, none⟩ = some (.slice L[i].spoil.p L[i].spoil.L.length L[i].spoil.cap)) ∧ NV.ok w L[i]
theorem NV.ok.bel {w x : World} {v : NV} (h : NV.ok w v) (hb : Bel w x) : NV.ok x v := ⟨h.op, h.n, h.next, h.seq, h.log, h.at_.bel hb, h.each, h.len, h.mt, h.left.bel hb, h.spoil.bel hb⟩
theorem NActs.bel {w x : World} {p : Option Addr} {L : List NV} (h : NActs w p L) (hb : Bel w x) : NActs x p L := fun i hi => by
  obtain ⟨a, B, O, sp, h1, h2, ⟨c0, c1, c2, c3, c4, c5, c6, c7, c8⟩, h4⟩ := h i hi
  exact ⟨a, B, O, sp, h1, h2, ⟨cl13 hb c0, cl13 hb c1, cl13 hb c2, cl13 hb c3, cl13 hb c4, cl13 hb c5, cl13 hb c6, cl13 hb c7, cl13 hb c8⟩, h4.bel hb⟩
def NV.small (x : NV) : Bool := asB x.st && (decide (x.st.mt.size ≤ 1000) && (decide (x.left.L.length ≤ 60) && decide (x.spoil.L.length ≤ 60)))
end Go.Proofs.YtfbiinnenlgkfaaGreatDoor
