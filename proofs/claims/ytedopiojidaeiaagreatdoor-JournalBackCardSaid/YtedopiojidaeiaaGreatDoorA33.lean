/- JSegs, JTurn, laid together. -/
import Derived.Test.YtedopiojidaeiaaGreatDoorA32
import Derived.Test.YtedopiojidaeiaaGreatDoorA14
import Derived.Test.YtedopiojidaeiaaGreatDoorA20
import Derived.Sort.OwnSortedInts
/- journal's Segments, Number, names. -/
set_option linter.unusedSimpArgs false
set_option linter.unusedVariables false
namespace Go.Proofs.YtedopiojidaeiaaGreatDoor
open Go.RowKit Go.Deep Go.Maps

def intEl : El Int := ⟨3, 25, 1, fun i => [.int .i64 i]⟩
theorem intOk : ElOk intEl 8 := ⟨fun _ => rfl, fun a u hu => by simp [intEl] at hu; subst hu; rfl, by kernel_rfl, ⟨.int .i64 0, by kernel_rfl, rfl⟩, by decide⟩
theorem intAll (l : List Int) : intEl.all l = l.map (Value.int .i64) := by
  induction l with
  | nil => rfl
  | cons x l ih => simp only [El.all, List.flatMap_cons, List.map_cons] at *; rw [ih]; rfl
theorem sort_own {B : Nat} {w : World} {v : Value} {l : List Int} (h : OwnG intEl B w v l) (hB : B ≤ w.heap.size) (hl : l.length ≤ 1000) :
    Calls Tryz.prog 79 #[v] w fun e w' => e = .returned (.tuple #[]) ∧ OwnG intEl B w' v (l.mergeSort fun x y => decide (x ≤ y)) ∧ Below B w w' := by
  obtain ⟨h1, h2⟩ := h
  rcases h2 with ⟨rfl, h0⟩ | ⟨g, cap, cur, rfl, hg, hh, hc, hx, hsz, htk⟩
  · obtain rfl : l = [] := List.length_eq_zero_iff.1 h0
    refine (AnyM.slices_Sort_int_none Tryz.laysSlM5_f79 none 0 w).mono ?_
    rintro e w' ⟨rfl, rfl⟩
    exact ⟨rfl, by rw [List.mergeSort_nil]; exact OwnG.nil _ _ _, Below.refl _ _⟩
  · have hgs : g < w.heap.size := (Array.getElem?_eq_some_iff.1 hh).1
    have ht : cur.toList.take l.length = l.map (Value.int .i64) := by
      rw [show intEl.n = 1 from rfl, Nat.mul_one] at htk; rw [← intAll]; exact htk
    have hlen : (l.mergeSort fun x y => decide (x ≤ y)).length = l.length := List.length_mergeSort _
    refine (AnyM.slices_Sort_int Tryz.laysSlM5_f79 g 0 cap l w (holds_of_blockI hh ht) hgs (by omega)).mono ?_
    rintro e w' ⟨rfl, n, os, rfl⟩
    refine ⟨rfl, ?_, ?_⟩
    · have := ownsRow_sortedI (n := n) (os := os) (ts := l.mergeSort fun x y => decide (x ≤ y)) hlen hg hh hc hx (by rw [hsz]; rfl)
      unfold OwnG
      rw [intAll, hlen]
      exact this
    · exact (Below.refl B w).grown (grownBy_sortedI _) hB (fun k hk => by simp at hk; omega)

def SgRel (p : List UInt8) (L : List FI) (w1 : World) (lv iv : Value) (x : World) : Prop :=
  ∃ k : Nat, iv = .int .i64 k ∧ k ≤ L.length ∧ OwnG intEl w1.heap.size x lv ((colL p (L.take k)).map fun n : Nat => (n : Int)) ∧ Bel w1 x
theorem col_snoc (p : List UInt8) (L : List FI) (k : Nat) (h : k < L.length) : colL p (L.take (k + 1)) = if segN p L[k].name = 0 then colL p (L.take k) else colL p (L.take k) ++ [segN p L[k].name] := by
  rw [List.take_add_one, List.getElem?_eq_getElem h]
  exact col_step p _ _
theorem col_len (p : List UInt8) (L : List FI) : (colL p L).length ≤ L.length := by
  unfold colL
  exact Nat.le_trans (List.length_filter_le _ _) (by simp)
set_option maxHeartbeats 4000000 in
theorem segs_any (n₀ : Nat) (w : World) (jb b : Nat) (p : ByteArray) (most : Int) (M : RS) (F : List Nat) (h : ProgAt n₀ w b M F) (hM : M.ok) (hj : JAt w jb b p most) (hp : p.size ≤ 100) (hstd : Std w) :
    Calls Tryz.prog 36 #[.pointer (some ⟨jb, 0, none⟩)] w fun e w' => ∃ v, e = .returned v ∧ OwnG intEl w.heap.size w' v ((segsL p.data.toList M.L).map fun n : Nat => (n : Int)) ∧ Bel w w' := by
  have HS := Lib.hid hstd; clear hstd
  have HJ := Lib.hid hj
  have c0 := hj.files
  have HP := Lib.hid h
  have HM := Lib.hid hM
  have h60 := hM.len
  clear hj h hM
  go_enter Tryz.func36, Tryz.ntmps36
  go_wp2_with (fail)
  refine (pnames_any n₀ w b M F HP.out HM.out.srt (good_len HM.out)).mono ?_
  rintro e w1 ⟨v, rfl, hnm, hb1⟩
  have HNM := Lib.hid hnm
  have HB1 := Lib.hid hb1
  obtain ⟨np, ncap, hnv⟩ := ownG_len hnm
  rw [List.length_map] at hnv
  subst hnv
  clear hnm hb1
  go_wp2_with (fail)
  go_loopw [3, 19] (fun lv iv x => SgRel p.data.toList M.L w1 lv iv x) (fun _ iv _ => M.L.length - (intOf iv).toNat)
  case atStart => exact ⟨0, rfl, Nat.zero_le _, OwnG.nil _ _ _, Bel.refl _⟩
  case round =>
    obtain ⟨k, rfl, hk, hown, hb⟩ := hrel
    have HB := Lib.hid hb
    have HV := Lib.hid hown
    obtain ⟨lp, lc, hlv⟩ := ownG_len hown
    rw [List.length_map] at hlv
    subst hlv
    clear hown hb
    by_cases hlt : k < M.L.length
    · have hne : M.L.map (·.name) ≠ [] := by intro e; rw [List.map_eq_nil_iff] at e; rw [e] at hlt; simp at hlt
      obtain ⟨g, ncap', hv, _, hgl, _, hcs⟩ := ownG_cells strOk (HNM.out.bel HB.out) hne
      rw [List.length_map] at hv
      simp only [Value.slice.injEq, true_and] at hv
      obtain ⟨rfl, rfl⟩ := hv
      have e0 := hcs k M.L[k].name (by rw [List.getElem?_map, List.getElem?_eq_getElem hlt]; rfl) 0 _ rfl
      have hcn := col_snoc p.data.toList M.L k hlt
      have hyn := name_len (HM.out.each M.L[k] (List.getElem_mem hlt)).1
      obtain ⟨y, hy⟩ : ∃ y, y = M.L[k] := ⟨_, rfl⟩
      rw [← hy] at e0 hcn hyn
      simp only [strEl, Nat.mul_one, Nat.add_zero] at e0
      have hsz := str_len y.name
      have HSL := Lib.hid (str_list y.name)
      have HCN := Lib.hid hcn
      clear hy hcs hne hcn
      have hcl := col_len p.data.toList (M.L.take k)
      have hcl2 : (M.L.take k).length ≤ k := by rw [List.length_take]; omega
      by_cases h0 : segN p.data.toList y.name = 0
      · have HN := Lib.hid (numV_none (p := p.data.toList) (nm := (⟨y.name.toArray⟩ : ByteArray).data.toList) (by rw [HSL.out]; exact h0))
        have HCE := Lib.hid (show colL p.data.toList (M.L.take (k + 1)) = colL p.data.toList (M.L.take k) by rw [HCN.out, if_pos h0])
        clear hcl hcl2 h0
        go_wp2_with (fail)
        refine (jnumber_any _ jb b p most ⟨y.name.toArray⟩ (HJ.out.bel (HB1.out.trans HB.out)) hp (by omega) (HS.out.bel (HB1.out.trans HB.out))).mono ?_
        rintro e w2 ⟨rfl, hb2⟩
        rw [HN.out]
        have HB2 := Lib.hid (HB.out.trans hb2)
        have HV2 := Lib.hid (HV.out.bel hb2)
        clear hb2
        go_wp2_with (fail)
        go_roundw
        case rel => exact ⟨k + 1, by go_num, by omega, by rw [HCE.out]; exact HV2.out, HB2.out⟩
        case measure => simp [intOf]; omega
      · obtain ⟨n, hn⟩ : ∃ n, n = segN p.data.toList y.name := ⟨_, rfl⟩
        have HN := Lib.hid (numV_some (p := p.data.toList) (nm := (⟨y.name.toArray⟩ : ByteArray).data.toList) (n := n) (by rw [HSL.out]; exact hn.symm) (by omega))
        have HCE := Lib.hid (show (colL p.data.toList (M.L.take (k + 1))).map (fun n : Nat => (n : Int)) = (colL p.data.toList (M.L.take k)).map (fun n : Nat => (n : Int)) ++ [(n : Int)] by rw [HCN.out, if_neg h0, ← hn]; simp)
        have hml : ((colL p.data.toList (M.L.take k)).map fun n : Nat => (n : Int)).length ≤ 60 := by rw [List.length_map]; omega
        clear hcl hcl2 h0 hn
        go_wp2_with (fail)
        refine (jnumber_any _ jb b p most ⟨y.name.toArray⟩ (HJ.out.bel (HB1.out.trans HB.out)) hp (by omega) (HS.out.bel (HB1.out.trans HB.out))).mono ?_
        rintro e w2 ⟨rfl, hb2⟩
        rw [HN.out]
        have HB2 := Lib.hid (HB.out.trans hb2)
        have HV2 := Lib.hid (HV.out.bel hb2)
        clear hb2
        go_wp2_with (at_builtin; refine stop_here ?_)
        refine go_on ?_
        refine append_glit (L := (colL p.data.toList (M.L.take k)).map fun n : Nat => (n : Int)) intOk rfl _ _ rfl rfl HV2.out _ _ _ [(n : Int)] rfl rfl rfl (by unfold maxLen; simp only [List.length_singleton]; omega) (by simp only [List.length_singleton]; omega) HB2.out.size (Or.inl rfl) ?_
        intro v3 w3 hown3 hb3 hZ3
        obtain ⟨p3, c3, hv3⟩ := ownG_len hown3
        rw [List.length_append, List.length_map, List.length_singleton] at hv3
        subst hv3
        have HV3 := Lib.hid hown3
        have HB3 := Lib.hid (HB2.out.trans_below hb3)
        clear hown3 hb3
        go_wp2_with (fail)
        go_roundw
        case rel => exact ⟨k + 1, by go_num, by omega, by rw [HCE.out]; exact HV3.out, HB3.out⟩
        case measure => simp [intOf]; omega
    · obtain rfl : k = M.L.length := by omega
      have hv1 := HV.out
      rw [List.take_length] at hv1
      have HSO := Lib.hid (sort_own hv1 HB.out.size (by rw [List.length_map]; have := col_len p.data.toList M.L; omega))
      rw [List.take_length] at *
      clear hv1
      go_wp2_with (fail)
      refine HSO.out.mono ?_
      rintro e w2 ⟨rfl, hown2, hb2⟩
      rw [segs_merge] at hown2
      have HB2 := Lib.hid (HB.out.trans_below hb2)
      have HV2 := Lib.hid hown2
      clear hown2 hb2
      go_wp2_with (fail)
      go_ret
      exact ⟨_, rfl, HV2.out.low HB1.out.size, HB1.out.trans HB2.out⟩
def NbRel (l : List Nat) (w1 : World) (nv iv : Value) (x : World) : Prop :=
  ∃ k : Nat, iv = .int .i64 k ∧ k ≤ l.length ∧ nv = .int .i64 ((l.take k).getLast?.getD 0 : Nat) ∧ Bel w1 x
theorem last_take (l : List Nat) (k : Nat) (h : k < l.length) : (l.take (k + 1)).getLast?.getD 0 = l[k] := by
  rw [List.take_add_one, List.getElem?_eq_getElem h, Option.toList_some, List.getLast?_concat]; rfl
theorem int_at {B : Nat} {x : World} {v : Value} {l : List Nat} (h : OwnG intEl B x v (l.map fun n : Nat => (n : Int))) (k : Nat) (hk : k < l.length) : ∃ g cap, v = .slice (some ⟨g, 0, none⟩) l.length cap ∧ l.length ≤ cap ∧ B ≤ g ∧ x.cell? ⟨g, k, none⟩ = some (.int .i64 (l[k] : Nat)) := by
  have hne : l.map (fun n : Nat => (n : Int)) ≠ [] := by intro e; rw [List.map_eq_nil_iff] at e; rw [e] at hk; simp at hk
  obtain ⟨g, cap, rfl, hg, _, hgl, hcs⟩ := ownG_cells intOk h hne
  rw [List.length_map] at hgl
  refine ⟨g, cap, by rw [List.length_map], hgl, hg, ?_⟩
  have := hcs k (l[k] : Int) (by rw [List.getElem?_map, List.getElem?_eq_getElem hk]; rfl) 0 _ rfl
  simpa [intEl] using this
set_option maxHeartbeats 4000000 in
theorem num_any (n₀ : Nat) (w : World) (jb b : Nat) (p : ByteArray) (most : Int) (M : RS) (F : List Nat) (h : ProgAt n₀ w b M F) (hM : M.ok) (hj : JAt w jb b p most) (hp : p.size ≤ 100) (hstd : Std w) :
    Calls Tryz.prog 33 #[.pointer (some ⟨jb, 0, none⟩)] w fun e w' => e = .returned (.int .i64 (lastN p.data.toList M.L : Nat)) ∧ Bel w w' := by
  have HC := Lib.hid (segs_any n₀ w jb b p most M F h hM hj hp hstd)
  have hsl := segs_len p.data.toList M.L
  have h60 := hM.len
  obtain ⟨l, hl⟩ : ∃ l, l = segsL p.data.toList M.L := ⟨_, rfl⟩
  have HLN := Lib.hid (show lastN p.data.toList M.L = l.getLast?.getD 0 by rw [hl]; rfl)
  rw [← hl] at HC hsl
  clear hl hj h hM hstd
  go_enter Tryz.func33, Tryz.ntmps33
  go_wp2_with (fail)
  refine HC.out.mono ?_
  rintro e w1 ⟨v, rfl, hown, hb1⟩
  have HV := Lib.hid hown
  have HB1 := Lib.hid hb1
  obtain ⟨sp, sc, hv⟩ := ownG_len hown
  rw [List.length_map] at hv
  subst hv
  clear hown hb1
  go_wp2_with (fail)
  go_loopw [3, 9] (fun nv iv x => NbRel l w1 nv iv x) (fun _ iv _ => l.length - (intOf iv).toNat)
  case atStart => exact ⟨0, rfl, Nat.zero_le _, rfl, Bel.refl _⟩
  case round =>
    obtain ⟨k, rfl, hk, rfl, hb⟩ := hrel
    have HB := Lib.hid hb; clear hb
    by_cases hlt : k < l.length
    · obtain ⟨g, cap, hv, hcap, _, e0⟩ := int_at (HV.out.bel HB.out) k hlt
      simp only [Value.slice.injEq, true_and] at hv
      obtain ⟨rfl, rfl⟩ := hv
      have HLT := Lib.hid (last_take l k hlt)
      obtain ⟨m, hm⟩ : ∃ m, m = l[k] := ⟨_, rfl⟩
      rw [← hm] at e0 HLT
      clear hm
      go_wp2_with (fail)
      go_roundw
      case rel => exact ⟨k + 1, by go_num, by omega, by rw [HLT.out], HB.out⟩
      case measure => simp [intOf]; omega
    · obtain rfl : k = l.length := by omega
      go_wp2_with (fail)
      go_ret
      exact ⟨by rw [HLN.out, List.take_length]; rfl, HB1.out.trans HB.out⟩
def NsRel (p : List UInt8) (l : List Nat) (w1 : World) (lv iv : Value) (x : World) : Prop :=
  ∃ k : Nat, iv = .int .i64 k ∧ k ≤ l.length ∧ OwnG strEl w1.heap.size x lv ((l.take k).map (fileN p)) ∧ Bel w1 x
set_option maxHeartbeats 4000000 in
theorem jnames_any (n₀ : Nat) (w : World) (jb b : Nat) (p : ByteArray) (most : Int) (M : RS) (F : List Nat) (h : ProgAt n₀ w b M F) (hM : M.ok) (hj : JAt w jb b p most) (hp : p.size ≤ 100) (hstd : Std w) :
    Calls Tryz.prog 63 #[.pointer (some ⟨jb, 0, none⟩)] w fun e w' => ∃ v, e = .returned v ∧ OwnG strEl w.heap.size w' v ((segsL p.data.toList M.L).map (fileN p.data.toList)) ∧ Bel w w' := by
  have HC := Lib.hid (segs_any n₀ w jb b p most M F h hM hj hp hstd)
  have hsl := segs_len p.data.toList M.L
  have h60 := hM.len
  obtain ⟨l, hl⟩ : ∃ l, l = segsL p.data.toList M.L := ⟨_, rfl⟩
  have HLE := Lib.hid (show ∀ n ∈ l, n ≤ 9999999 from fun n hn => by rw [hl] at hn; exact (mem_segs_file.1 hn).2.1)
  rw [← hl] at HC hsl ⊢
  have HS := Lib.hid hstd
  have HJ := Lib.hid hj
  clear hl hj h hM hstd
  go_enter Tryz.func63, Tryz.ntmps63
  go_wp2_with (fail)
  refine HC.out.mono ?_
  rintro e w1 ⟨v, rfl, hown, hb1⟩
  have HV := Lib.hid hown
  have HB1 := Lib.hid hb1
  obtain ⟨sp, sc, hv⟩ := ownG_len hown
  rw [List.length_map] at hv
  subst hv
  clear hown hb1
  go_wp2_with (fail)
  go_loopw [3, 9] (fun lv iv x => NsRel p.data.toList l w1 lv iv x) (fun _ iv _ => l.length - (intOf iv).toNat)
  case atStart => exact ⟨0, rfl, Nat.zero_le _, OwnG.nil _ _ _, Bel.refl _⟩
  case round =>
    obtain ⟨k, rfl, hk, hown, hb⟩ := hrel
    have HB := Lib.hid hb
    have HL := Lib.hid hown
    obtain ⟨lp, lc, hlv⟩ := ownG_len hown
    rw [List.length_map, List.length_take, Nat.min_eq_left hk] at hlv
    subst hlv
    clear hown hb
    by_cases hlt : k < l.length
    · obtain ⟨g, cap, hv, hcap, _, e0⟩ := int_at (HV.out.bel HB.out) k hlt
      simp only [Value.slice.injEq, true_and] at hv
      obtain ⟨rfl, rfl⟩ := hv
      have HLT := Lib.hid (show (l.take (k + 1)).map (fileN p.data.toList) = (l.take k).map (fileN p.data.toList) ++ [fileN p.data.toList l[k]] by
        rw [List.take_add_one, List.getElem?_eq_getElem hlt, List.map_append]; rfl)
      have hm9 := HLE.out l[k] (List.getElem_mem hlt)
      obtain ⟨m, hm⟩ : ∃ m, m = l[k] := ⟨_, rfl⟩
      rw [← hm] at e0 HLT hm9
      clear hm
      have hml : ((l.take k).map (fileN p.data.toList)).length ≤ 60 := by rw [List.length_map, List.length_take]; omega
      have hml2 : ((l.take k).map (fileN p.data.toList)).length = k := by rw [List.length_map, List.length_take]; omega
      go_wp2_with (fail)
      refine (file_any _ jb b p most m (HJ.out.bel (HB1.out.trans HB.out)) hp (by omega) (HS.out.bel (HB1.out.trans HB.out))).mono ?_
      rintro e w2 ⟨rfl, hb2⟩
      have HB2 := Lib.hid (HB.out.trans hb2)
      have HL2 := Lib.hid (HL.out.bel hb2)
      clear hb2
      go_wp2_with (at_builtin; refine stop_here ?_)
      refine go_on ?_
      refine append_glit (L := (l.take k).map (fileN p.data.toList)) strOk rfl _ _ rfl rfl HL2.out _ _ _ [fileN p.data.toList m] rfl rfl rfl (by unfold maxLen; simp only [List.length_singleton]; omega) (by simp only [List.length_singleton]; omega) HB2.out.size (Or.inl rfl) ?_
      intro v3 w3 hown3 hb3 hZ3
      obtain ⟨p3, c3, hv3⟩ := ownG_len hown3
      rw [List.length_append, hml2] at hv3
      subst hv3
      have HV3 := Lib.hid hown3
      have HB3 := Lib.hid (HB2.out.trans_below hb3)
      clear hown3 hb3
      go_wp2_with (fail)
      go_roundw
      case rel => exact ⟨k + 1, by go_num, by omega, by rw [HLT.out]; exact HV3.out, HB3.out⟩
      case measure => simp [intOf]; omega
    · obtain rfl : k = l.length := by omega
      go_wp2_with (fail)
      go_ret
      have := HL.out
      rw [List.take_length] at this
      exact ⟨_, rfl, this.low HB1.out.size, HB1.out.trans HB.out⟩
end Go.Proofs.YtedopiojidaeiaaGreatDoor
/- journal's Turn, withRoom, Write. -/
set_option linter.unusedSimpArgs false
set_option linter.unusedVariables false
namespace Go.Proofs.YtedopiojidaeiaaGreatDoor
open Go.RowKit Go.Deep Go.Maps

/-- A journal and its files. -/
structure JS (n₀ : Nat) (w : World) (b : Nat) (M : RS) (F : List Nat) (jb : Nat) (p : ByteArray) (most : Int) : Prop where
  prog : ProgAt n₀ w b M F
  ok : M.ok
  j : JAt w jb b p most
  out : jb ∉ F
  std : ∀ z, Keep F w z → Std z
section
variable {n₀ : Nat} {w x y : World} {b jb : Nat} {M M1 M2 : RS} {F F1 : List Nat} {p : ByteArray} {most : Int}
theorem JS.std0 (h : JS n₀ w b M F jb p most) : Std w := h.std w (Keep.refl _ _)
theorem JS.bel (h : JS n₀ w b M F jb p most) (hb : Bel w x) : JS n₀ x b M F jb p most :=
  ⟨h.prog.bel hb, h.ok, h.j.bel hb, h.out, fun z hz => h.std z ((Keep.of_bel hb F).trans hz (fun k hk => Or.inl hk))⟩
theorem JS.step (h : JS n₀ w b M F jb p most) (hT : ProgTo n₀ w x b M1 F) (hM : M1.ok) : ∃ F1, JS n₀ x b M1 F1 jb p most ∧ Keep F w x ∧ (∀ k ∈ F1, k ∈ F ∨ w.heap.size ≤ k) := by
  obtain ⟨F1, h1, h2, h3⟩ := hT
  refine ⟨F1, ⟨h1, hM, h.j.keep (h2.block jb h.j.lt h.out), fun hm => ?_, fun z hz => h.std z (h2.trans hz h3)⟩, h2, h3⟩
  rcases h3 jb hm with h4 | h4
  · exact h.out h4
  · have := h.j.lt; omega
theorem to_then (hk : Keep F w x) (hF : ∀ k ∈ F1, k ∈ F ∨ w.heap.size ≤ k) (h2 : ProgTo n₀ x y b M2 F1) : ProgTo n₀ w y b M2 F := by
  obtain ⟨F2, q1, q2, q3⟩ := h2
  refine ⟨F2, q1, hk.trans q2 hF, fun k hm => ?_⟩
  rcases q3 k hm with h | h
  · exact hF k h
  · exact Or.inr (Nat.le_trans hk.size h)
end

set_option maxHeartbeats 4000000 in
set_option maxRecDepth 20000 in
theorem jturn_any (n₀ : Nat) (w : World) (b : Nat) (M : RS) (F : List Nat) (jb : Nat) (p : ByteArray) (most : Int) (h : JS n₀ w b M F jb p most) (hp : p.size ≤ 100) (h9 : lastN p.data.toList M.L < 9999999) :
    Calls Tryz.prog 32 #[.pointer (some ⟨jb, 0, none⟩)] w fun e y => e = .returned (.int .i64 (jturn p.data.toList M).1) ∧ ProgTo n₀ w y b (jturn p.data.toList M).2 F := by
  have H := Lib.hid h
  have c0 := h.j.files
  clear h
  obtain ⟨n, hn⟩ : ∃ n, n = lastN p.data.toList M.L := ⟨_, rfl⟩
  have HN := Lib.hid hn
  rw [← hn] at h9
  have hne : ((n : Int) == 9999999) = false := by rw [beq_eq_false_iff_ne]; omega
  have hfl := file_len p.data.toList (n := n + 1) (by omega)
  have hfz := str_len (fileN p.data.toList (n + 1))
  have hpl : p.data.toList.length = p.size := rfl
  have HCF := Lib.hid (fun (z : World) (hj : JAt z jb b p most) (hs : Std z) => file_any z jb b p most (n + 1) hj hp (by omega) hs)
  have hcast : ((n + 1 : Nat) : Int) = (n : Int) + 1 := by omega
  rw [hcast] at HCF
  have hwr : IntKind.i64.wrap ((n : Int) + 1) = (n : Int) + 1 := IntWalk.i64_in _ (by omega)
  clear hn hcast
  go_enter Tryz.func32, Tryz.ntmps32
  go_wp2_with (fail)
  refine (num_any n₀ w jb b p most M F H.out.prog H.out.ok H.out.j hp H.out.std0).mono ?_
  rintro e w1 ⟨rfl, hb1⟩
  rw [← HN.out]
  have HB1 := Lib.hid hb1
  have c1 := cell_later hb1 c0
  clear hb1
  have HX := Lib.hid (H.out.bel HB1.out)
  go_wp2_with (fail)
  refine wp_region_held_drew (S := fun z => z.cell? ⟨jb, 0, none⟩ = some (.pointer (some ⟨b, 0, none⟩))) (by kernel_rfl) c1 (fun hHeld => ?_)
  refine wpAnyH_take (i := 0) (oi := { dst := some 13, op := Op.move (Operand.tmp 0), type := 57, pos := "journal.go:105", after := #[], guard := none }) (v := ?_) rfl (by kernel_rfl) (by kernel_rfl) (by kernel_rfl) (fun _ _ _ h => h) (Or.inl ⟨by rfl, ?_⟩) (by assumption) ?_
  rotate_left
  · (intro w hSw; (try dsimp only at hSw); first | (go_simp; done) | (go_simp; with_reducible rfl))
  try simp only [Act.put, List.setIfInBounds_toArray, List.set_cons_zero, List.set_cons_succ]
  refine wpAnyH_take (i := 1) (oi := { dst := some 14, op := Op.nilCheck (Operand.tmp 13), type := 0, pos := "journal.go:105", after := #[{ on := 0, ground := Ground.data }], guard := none }) (v := ?_) rfl (by kernel_rfl) (by kernel_rfl) (by kernel_rfl) (fun _ _ _ h => h) (Or.inl ⟨by rfl, ?_⟩) (by assumption) ?_
  rotate_left
  · (intro w hSw; (try dsimp only at hSw); first | (go_simp; done) | (go_simp; with_reducible rfl))
  try simp only [Act.put, List.setIfInBounds_toArray, List.set_cons_zero, List.set_cons_succ]
  refine wpAnyH_take (i := 2) (oi := { dst := some 15, op := Op.fieldAddr 104 (Operand.tmp 14) 0, type := 0, pos := "journal.go:105", after := #[{ on := 1, ground := Ground.data }], guard := none }) (v := ?_) rfl (by kernel_rfl) (by kernel_rfl) (by kernel_rfl) (fun _ _ _ h => h) (Or.inl ⟨by rfl, ?_⟩) (by assumption) ?_
  rotate_left
  · (intro w hSw; (try dsimp only at hSw); first | (go_simp; done) | (go_simp; with_reducible rfl))
  try simp only [Act.put, List.setIfInBounds_toArray, List.set_cons_zero, List.set_cons_succ]
  refine wpAnyH_take (i := 3) (oi := { dst := some 16, op := Op.load 48 (Operand.tmp 15), type := 48, pos := "journal.go:105", after := #[{ on := 2, ground := Ground.data }], guard := none }) (v := ?_) rfl (by kernel_rfl) (by kernel_rfl) (by kernel_rfl) (fun _ _ _ h => h) (Or.inl ⟨by rfl, ?_⟩) (by assumption) ?_
  rotate_left
  · (intro w hSw; (try dsimp only at hSw); first | (go_simp; done) | (go_simp; with_reducible rfl))
  try simp only [Act.put, List.setIfInBounds_toArray, List.set_cons_zero, List.set_cons_succ]
  refine wpAnyH_take (i := 4) (oi := { dst := some 17, op := Op.move (Operand.tmp 0), type := 57, pos := "journal.go:105", after := #[], guard := none }) (v := ?_) rfl (by kernel_rfl) (by kernel_rfl) (by kernel_rfl) (fun _ _ _ h => h) (Or.inl ⟨by rfl, ?_⟩) (by assumption) ?_
  rotate_left
  · (intro w hSw; (try dsimp only at hSw); first | (go_simp; done) | (go_simp; with_reducible rfl))
  try simp only [Act.put, List.setIfInBounds_toArray, List.set_cons_zero, List.set_cons_succ]
  refine wpAnyH_take (i := 5) (oi := { dst := some 18, op := Op.move (Operand.tmp 3), type := 3, pos := "journal.go:105", after := #[], guard := none }) (v := ?_) rfl (by kernel_rfl) (by kernel_rfl) (by kernel_rfl) (fun _ _ _ h => h) (Or.inl ⟨by rfl, ?_⟩) (by assumption) ?_
  rotate_left
  · (intro w hSw; (try dsimp only at hSw); first | (go_simp; done) | (go_simp; with_reducible rfl))
  try simp only [Act.put, List.setIfInBounds_toArray, List.set_cons_zero, List.set_cons_succ]
  refine wpAnyH_take (i := 6) (oi := { dst := some 19, op := Op.binOp BinOp.add 3 (Operand.tmp 18) (Operand.const (Value.int IntKind.i64 1)) 3, type := 3, pos := "journal.go:105", after := #[{ on := 5, ground := Ground.data }], guard := none }) (v := ?_) rfl (by kernel_rfl) (by kernel_rfl) (by kernel_rfl) (fun _ _ _ h => h) (Or.inl ⟨by rfl, ?_⟩) (by assumption) ?_
  rotate_left
  · (intro w hSw; (try dsimp only at hSw); first | (go_simp; done) | (go_simp; with_reducible rfl))
  try simp only [Act.put, List.setIfInBounds_toArray, List.set_cons_zero, List.set_cons_succ]
  refine wpAnyH_ready (rs := [7]) (by kernel_rfl) (by simp) ?_
  refine AllReadyH.cons (o := { dst := some 20, op := Op.call { callee := Callee.value (Operand.func 72), args := #[Operand.tmp 17, Operand.tmp 19], argTypes := #[57, 3] }, type := 9, pos := "journal.go:105", after := #[{ on := 4, ground := Ground.data }, { on := 6, ground := Ground.data }], guard := none }) rfl (fun K hK => ?_) AllReadyH.nil
  go_simp
  refine (HCF.out _ (HX.out.bel (Bel.refl w1).drew).j (HX.out.bel (Bel.refl w1).drew).std0).mono ?_
  rintro e w2 ⟨rfl, hb2⟩
  have HB2 := Lib.hid ((HB1.out.drew).trans hb2)
  have c2 := cell_later hb2 (show _ = _ from c1)
  clear hb2
  dsimp only
  refine hK.out _ _ c2 (fun hHeld => ?_)
  clear hK K
  try simp only [Act.put, List.setIfInBounds_toArray, List.set_cons_zero, List.set_cons_succ]
  refine wpAnyH_ready (rs := [8]) (by kernel_rfl) (by simp) ?_
  refine AllReadyH.cons (o := { dst := some 21, op := Op.call { callee := Callee.value (Operand.func 24), args := #[Operand.tmp 16, Operand.tmp 20, Operand.const (Value.string { data := #[] })], argTypes := #[48, 9, 9] }, type := 29, pos := "journal.go:105", after := #[{ on := 3, ground := Ground.data }, { on := 7, ground := Ground.data }, { on := 7, ground := Ground.chain }], guard := none }) rfl (fun K hK => ?_) AllReadyH.nil
  go_simp
  refine (padd_any n₀ w2 b M F (⟨(fileN p.data.toList (n + 1)).toArray⟩ : ByteArray) ⟨#[]⟩ (H.out.prog.bel HB2.out) (by omega) (by decide) H.out.ok.srt (good_len H.out.ok) (good_bytes H.out.ok) H.out.ok.room).mono ?_
  rintro e w3 ⟨rfl, hT⟩
  rw [str_list] at hT ⊢
  have HT := Lib.hid (hT.before HB2.out)
  have c3 : w3.cell? ⟨jb, 0, none⟩ = some (.pointer (some ⟨b, 0, none⟩)) := by
    obtain ⟨F3, _, q2, _⟩ := hT
    exact q2.cell c2 H.out.out
  clear hT
  have HJ := Lib.hid (show jturn p.data.toList M = addS (fileN p.data.toList (n + 1)) (⟨#[]⟩ : ByteArray).data.toList M by unfold jturn; rw [← HN.out])
  dsimp only
  refine hK.out _ _ c3 (fun hHeld => ?_)
  clear hK K
  try simp only [Act.put, List.setIfInBounds_toArray, List.set_cons_zero, List.set_cons_succ]
  refine wpAnyH_take (i := 9) (oi := { dst := some 2, op := Op.assign (Operand.tmp 21), type := 29, pos := "journal.go:105", after := #[{ on := 8, ground := Ground.data }, { on := 8, ground := Ground.chain }, { on := 0, ground := Ground.phase }, { on := 1, ground := Ground.phase }, { on := 2, ground := Ground.phase }, { on := 3, ground := Ground.phase }, { on := 4, ground := Ground.phase }, { on := 5, ground := Ground.phase }, { on := 6, ground := Ground.phase }, { on := 7, ground := Ground.phase }, { on := 8, ground := Ground.phase }], guard := none }) (v := ?_) rfl (by kernel_rfl) (by kernel_rfl) (by kernel_rfl) (fun _ _ _ h => h) (Or.inl ⟨by rfl, ?_⟩) (by assumption) ?_
  rotate_left
  · (intro w hSw; (try dsimp only at hSw); first | (go_simp; done) | (go_simp; with_reducible rfl))
  try simp only [Act.put, List.setIfInBounds_toArray, List.set_cons_zero, List.set_cons_succ]
  refine wpAnyH_done (by kernel_rfl) ?_ _
  go_wp2_with (fail)
  go_ret
  exact ⟨by rw [HJ.out]; rfl, by rw [HJ.out]; exact HT.out⟩
end Go.Proofs.YtedopiojidaeiaaGreatDoor
