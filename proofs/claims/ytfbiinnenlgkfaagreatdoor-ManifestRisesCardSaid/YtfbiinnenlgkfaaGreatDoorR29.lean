/- JWrite, JTrim, JRTrim, JOpen, JROpen, JRWrite, laid together. -/
import Derived.Test.YtfbiinnenlgkfaaGreatDoorR28
import Derived.Test.YtfbiinnenlgkfaaGreatDoorR2
import Derived.Test.YtfbiinnenlgkfaaGreatDoorR18
import Derived.Test.YtfbiinnenlgkfaaGreatDoorR25
import Derived.Test.YtfbiinnenlgkfaaGreatDoorR9
set_option linter.unusedSimpArgs false
set_option linter.unusedVariables false
namespace Go.Proofs.YtfbiinnenlgkfaaGreatDoor
open Go.RowKit Go.Deep Go.Maps

def roomS (p : List UInt8) (most : Int) (M : RS) : Int × RS := if M.gone = true then (7, M) else jroom p most M
theorem roomS_ok {M : RS} (h : M.ok) (p : List UInt8) (most : Int) : (roomS p most M).2.ok := by
 unfold roomS; split; exact h; exact jroom_ok h p most
theorem js_fileC {n₀ : Nat} {z : World} {b : Nat} {M : RS} {F : List Nat} {jb : Nat} {p : ByteArray} {most : Int} (h : JS n₀ z b M F jb p most) (hp : p.size ≤ 100) (n : Nat) (hn : n ≤ 10000000) :
  Calls Tryz.prog 84 #[.pointer (some ⟨jb, 0, none⟩), .int .i64 n] z fun e w' => e = .returned (.string ⟨(fileN p.data.toList n).toArray⟩) ∧ Bel z w' := file_any z jb b p most n h.j hp hn h.std0
theorem str_empty {l : List UInt8} (h : l ≠ []) : (⟨l.toArray⟩ : ByteArray).toList.isEmpty = false := by
 rw [ByteArray.toList_eq]
 cases l with
 | nil => exact absurd rfl h
 | cons a l => rfl
set_option maxHeartbeats 4000000 in
set_option maxRecDepth 20000 in
theorem withroom_any (n₀ : Nat) (w : World) (b : Nat) (M : RS) (F : List Nat) (jb : Nat) (p : ByteArray) (most : Int) (h : JS n₀ w b M F jb p most) (hp : p.size ≤ 100) (h0 : lastN p.data.toList M.L ≠ 0) (h9 : lastN p.data.toList M.L < 9999999) (hmost : in64 most) :
  Calls Tryz.prog 87 #[.pointer (some ⟨jb, 0, none⟩)] w fun e y => ∃ m : Nat, e = .returned (.tuple #[.int .i64 m, .int .i64 (roomS p.data.toList most M).1]) ∧ ProgTo n₀ w y b (roomS p.data.toList most M).2 F ∧ ((roomS p.data.toList most M).1 = 0 → m = lastN p.data.toList (roomS p.data.toList most M).2.L) := by
 have H := Lib.hid h
 have HMS := Lib.hid hmost
 obtain ⟨n, hn⟩ : ∃ n, n = lastN p.data.toList M.L := ⟨_, rfl⟩
 have HN := Lib.hid hn
 rw [← hn] at h9 h0
 have hmem : n ∈ segsL p.data.toList M.L := by rw [hn]; exact last_mem (fun e => h0 (by rw [hn]; exact last_zero.2 e))
 obtain ⟨-, -, hget⟩ := (mem_segs_get h.ok.srt).1 hmem
 obtain ⟨y, hy⟩ := Option.isSome_iff_exists.1 hget
 have hyb := (each_ok h.ok y (getF_mem hy)).1
 have HBY := Lib.hid (show bytesOf (fileN p.data.toList n) M = y.bytes from bytesOf_get hy)
 have HY := Lib.hid hy
 have hbz := str_len y.bytes
 have hfl := file_len p.data.toList (n := n) (by omega)
 have hfz := str_len (fileN p.data.toList n)
 have hpl : p.data.toList.length = p.size := rfl
 have hne0 : ((n : Int) == 0) = false := by rw [beq_eq_false_iff_ne]; omega
 clear h hn hmem hget hy hmost
 cases hg : M.gone with
 | true =>
  have HR := Lib.hid (show roomS p.data.toList most M = (7, M) by unfold roomS; rw [if_pos hg])
  have HGS := Lib.hid (show getS (fileN p.data.toList n) M = ([], 7) by unfold getS; rw [hg]; rfl)
  go_enter Tryz.func87, Tryz.ntmps87
  go_wp2_with (fail)
  refine (num_any n₀ w jb b p most M F H.out.prog H.out.ok H.out.j hp H.out.std0).mono ?_
  rintro e w1 ⟨rfl, hb1⟩
  rw [← HN.out]
  have HB1 := Lib.hid hb1
  have HX := Lib.hid (H.out.bel hb1)
  clear hb1
  go_wp2_with (fail)
  refine wp_region_held_drew (S := fun z => z.cell? ⟨jb, 0, none⟩ = some (.pointer (some ⟨b, 0, none⟩))) (by kernel_rfl) HX.out.j.files (fun hHeld => ?_)
  refine tq ⟨some 14, .move (.tmp 0), 108, "journal.go:84", #[], none⟩ ?_ 0 rfl ?_ ?_;rotate_left;·(intros;go_simp<;>with_reducible rfl)
  try simp only[Act.put,sqA,sqB,sqC]
  refine tq ⟨some 15, .nilCheck (.tmp 14), 0, "journal.go:84", #[⟨0, .data⟩], none⟩ ?_ 1 rfl ?_ ?_;rotate_left;·(intros;go_simp<;>with_reducible rfl)
  try simp only[Act.put,sqA,sqB,sqC]
  refine tq ⟨some 16, .fieldAddr 153 (.tmp 15) 0, 0, "journal.go:84", #[⟨1, .data⟩], none⟩ ?_ 2 rfl ?_ ?_;rotate_left;·(intros;go_simp<;>with_reducible rfl)
  try simp only[Act.put,sqA,sqB,sqC]
  refine tq ⟨some 17, .load 55 (.tmp 16), 55, "journal.go:84", #[⟨2, .data⟩], none⟩ ?_ 3 rfl ?_ ?_;rotate_left;·(intros;go_simp<;>with_reducible rfl)
  try simp only[Act.put,sqA,sqB,sqC]
  refine tq ⟨some 18, .move (.tmp 0), 108, "journal.go:84", #[], none⟩ ?_ 4 rfl ?_ ?_;rotate_left;·(intros;go_simp<;>with_reducible rfl)
  try simp only[Act.put,sqA,sqB,sqC]
  refine tq ⟨some 19, .move (.tmp 4), 3, "journal.go:84", #[], none⟩ ?_ 5 rfl ?_ ?_;rotate_left;·(intros;go_simp<;>with_reducible rfl)
  try simp only[Act.put,sqA,sqB,sqC]
  refine wpAnyH_ready (rs := [6]) (by kernel_rfl) (by simp) ?_
  refine ar1 ⟨some 20, .call ⟨.value (.func 84), #[.tmp 18, .tmp 19], #[108, 3]⟩, 9, "journal.go:84", #[⟨4, .data⟩, ⟨5, .data⟩], none⟩ rfl (fun K hK => ?_)
  go_simp
  refine (js_fileC (HX.out.bel (Bel.refl w1).drew) hp n (by omega)).mono ?_
  rintro e zf ⟨rfl, hbf⟩
  have HBf := Lib.hid ((Bel.refl w1).drew.trans hbf)
  have HXf := Lib.hid (HX.out.bel HBf.out)
  clear hbf
  dsimp only
  refine hK.out _ _ HXf.out.j.files (fun hHeld => ?_);clear hK K;try simp only[Act.put,sqA,sqB,sqC]
  refine wpAnyH_ready (rs := [7]) (by kernel_rfl) (by simp) ?_
  refine ar1 ⟨some 21, .call ⟨.value (.func 118), #[.tmp 17, .tmp 20], #[55, 9]⟩, 32, "journal.go:84", #[⟨3, .data⟩, ⟨6, .data⟩, ⟨6, .chain⟩], none⟩ rfl (fun K hK => ?_)
  go_simp
  refine (pget_any n₀ zf b M F (⟨(fileN p.data.toList n).toArray⟩ : ByteArray) HXf.out.prog (by unfold maxLen; omega)).mono ?_
  rintro e w3 ⟨rfl, hb3⟩
  rw [str_list, HGS.out]
  have HB3 := Lib.hid (HB1.out.trans (HBf.out.trans hb3))
  have HX3 := Lib.hid (HXf.out.bel hb3)
  have cN := HX3.out.j.files
  clear hb3
  dsimp only
  refine hK.out _ _ cN (fun hHeld => ?_);clear hK K;try simp only[Act.put,sqA,sqB,sqC]
  refine tq ⟨some 13, .move (.tmp 21), 32, "journal.go:84", #[⟨7, .data⟩], none⟩ ?_ 8 rfl ?_ ?_;rotate_left;·(intros;go_simp<;>with_reducible rfl)
  try simp only[Act.put,sqA,sqB,sqC]
  refine tq ⟨some 22, .extract (.tmp 13) 0, 9, "journal.go:84", #[⟨8, .data⟩], none⟩ ?_ 9 rfl ?_ ?_;rotate_left;·(intros;go_simp<;>with_reducible rfl)
  try simp only[Act.put,sqA,sqB,sqC]
  refine tq ⟨some 23, .extract (.tmp 13) 1, 31, "journal.go:84", #[⟨8, .data⟩, { on := 11, ground := Ground.gcOnly Departure.lateStores }], none⟩ ?_ 10 rfl ?_ ?_;rotate_left;·(intros;go_simp<;>with_reducible rfl)
  try simp only[Act.put,sqA,sqB,sqC]
  refine tq ⟨some 5, .assign (.tmp 22), 9, "journal.go:84", #[⟨9, .data⟩, ⟨7, .chain⟩, ⟨0, .phase⟩, ⟨1, .phase⟩, ⟨2, .phase⟩, ⟨3, .phase⟩, ⟨4, .phase⟩, ⟨5, .phase⟩, ⟨6, .phase⟩, ⟨7, .phase⟩, ⟨8, .phase⟩, ⟨9, .phase⟩, { on := 10, ground := Ground.textOnly Departure.lateStores }], none⟩ ?_ 11 rfl ?_ ?_;rotate_left;·(intros;go_simp<;>with_reducible rfl)
  try simp only[Act.put,sqA,sqB,sqC]
  refine tq ⟨some 6, .assign (.tmp 23), 31, "journal.go:84", #[⟨10, .data⟩, ⟨11, .chain⟩, ⟨0, .phase⟩, ⟨1, .phase⟩, ⟨2, .phase⟩, ⟨3, .phase⟩, ⟨4, .phase⟩, ⟨5, .phase⟩, ⟨6, .phase⟩, ⟨7, .phase⟩, ⟨8, .phase⟩, ⟨9, .phase⟩, ⟨10, .phase⟩, ⟨11, .phase⟩], none⟩ ?_ 12 rfl ?_ ?_;rotate_left;·(intros;go_simp<;>with_reducible rfl)
  try simp only[Act.put,sqA,sqB,sqC]
  refine wpAnyH_done (by kernel_rfl) ?_ _
  go_wp2_with (fail)
  go_ret2
  exact ⟨0, by rw [HR.out]; rfl, by rw [HR.out]; exact ProgAt.to H.out.prog HB3.out, fun hc => by rw [HR.out] at hc; cases hc⟩
 | false =>
  have HRS := Lib.hid (show roomS p.data.toList most M = jroom p.data.toList most M by unfold roomS; rw [hg]; rfl)
  have HGS := Lib.hid (show getS (fileN p.data.toList n) M = (y.bytes, 0) by unfold getS; rw [hg, HY.out]; rfl)
  by_cases hfull : y.bytes ≠ [] ∧ most ≤ (y.bytes.length : Int)
  ·obtain ⟨hnb, hml⟩ := hfull
   have HR := Lib.hid (show roomS p.data.toList most M = jturn p.data.toList M by rw [HRS.out]; unfold jroom; rw [← HN.out, HBY.out, if_pos ⟨hnb, hml⟩])
   have hemp := str_empty hnb
   have hemp2 : y.bytes.isEmpty = false := by cases hb : y.bytes with | nil => exact absurd hb hnb | cons _ _ => rfl
   have hlt : ¬ ((y.bytes.length : Int) < most) := by omega
   go_enter Tryz.func87, Tryz.ntmps87
   go_wp2_with (fail)
   refine (num_any n₀ w jb b p most M F H.out.prog H.out.ok H.out.j hp H.out.std0).mono ?_
   rintro e w1 ⟨rfl, hb1⟩
   rw [← HN.out]
   have HB1 := Lib.hid hb1
   have HX := Lib.hid (H.out.bel hb1)
   clear hb1
   go_wp2_with (fail)
   refine wp_region_held_drew (S := fun z => z.cell? ⟨jb, 0, none⟩ = some (.pointer (some ⟨b, 0, none⟩))) (by kernel_rfl) HX.out.j.files (fun hHeld => ?_)
   refine tq ⟨some 14, .move (.tmp 0), 108, "journal.go:84", #[], none⟩ ?_ 0 rfl ?_ ?_;rotate_left;·(intros;go_simp<;>with_reducible rfl)
   try simp only[Act.put,sqA,sqB,sqC]
   refine tq ⟨some 15, .nilCheck (.tmp 14), 0, "journal.go:84", #[⟨0, .data⟩], none⟩ ?_ 1 rfl ?_ ?_;rotate_left;·(intros;go_simp<;>with_reducible rfl)
   try simp only[Act.put,sqA,sqB,sqC]
   refine tq ⟨some 16, .fieldAddr 153 (.tmp 15) 0, 0, "journal.go:84", #[⟨1, .data⟩], none⟩ ?_ 2 rfl ?_ ?_;rotate_left;·(intros;go_simp<;>with_reducible rfl)
   try simp only[Act.put,sqA,sqB,sqC]
   refine tq ⟨some 17, .load 55 (.tmp 16), 55, "journal.go:84", #[⟨2, .data⟩], none⟩ ?_ 3 rfl ?_ ?_;rotate_left;·(intros;go_simp<;>with_reducible rfl)
   try simp only[Act.put,sqA,sqB,sqC]
   refine tq ⟨some 18, .move (.tmp 0), 108, "journal.go:84", #[], none⟩ ?_ 4 rfl ?_ ?_;rotate_left;·(intros;go_simp<;>with_reducible rfl)
   try simp only[Act.put,sqA,sqB,sqC]
   refine tq ⟨some 19, .move (.tmp 4), 3, "journal.go:84", #[], none⟩ ?_ 5 rfl ?_ ?_;rotate_left;·(intros;go_simp<;>with_reducible rfl)
   try simp only[Act.put,sqA,sqB,sqC]
   refine wpAnyH_ready (rs := [6]) (by kernel_rfl) (by simp) ?_
   refine ar1 ⟨some 20, .call ⟨.value (.func 84), #[.tmp 18, .tmp 19], #[108, 3]⟩, 9, "journal.go:84", #[⟨4, .data⟩, ⟨5, .data⟩], none⟩ rfl (fun K hK => ?_)
   go_simp
   refine (js_fileC (HX.out.bel (Bel.refl w1).drew) hp n (by omega)).mono ?_
   rintro e zf ⟨rfl, hbf⟩
   have HBf := Lib.hid ((Bel.refl w1).drew.trans hbf)
   have HXf := Lib.hid (HX.out.bel HBf.out)
   clear hbf
   dsimp only
   refine hK.out _ _ HXf.out.j.files (fun hHeld => ?_);clear hK K;try simp only[Act.put,sqA,sqB,sqC]
   refine wpAnyH_ready (rs := [7]) (by kernel_rfl) (by simp) ?_
   refine ar1 ⟨some 21, .call ⟨.value (.func 118), #[.tmp 17, .tmp 20], #[55, 9]⟩, 32, "journal.go:84", #[⟨3, .data⟩, ⟨6, .data⟩, ⟨6, .chain⟩], none⟩ rfl (fun K hK => ?_)
   go_simp
   refine (pget_any n₀ zf b M F (⟨(fileN p.data.toList n).toArray⟩ : ByteArray) HXf.out.prog (by unfold maxLen; omega)).mono ?_
   rintro e w3 ⟨rfl, hb3⟩
   rw [str_list, HGS.out]
   have HB3 := Lib.hid (HB1.out.trans (HBf.out.trans hb3))
   have HX3 := Lib.hid (HXf.out.bel hb3)
   have cN := HX3.out.j.files
   clear hb3
   dsimp only
   refine hK.out _ _ cN (fun hHeld => ?_);clear hK K;try simp only[Act.put,sqA,sqB,sqC]
   refine tq ⟨some 13, .move (.tmp 21), 32, "journal.go:84", #[⟨7, .data⟩], none⟩ ?_ 8 rfl ?_ ?_;rotate_left;·(intros;go_simp<;>with_reducible rfl)
   try simp only[Act.put,sqA,sqB,sqC]
   refine tq ⟨some 22, .extract (.tmp 13) 0, 9, "journal.go:84", #[⟨8, .data⟩], none⟩ ?_ 9 rfl ?_ ?_;rotate_left;·(intros;go_simp<;>with_reducible rfl)
   try simp only[Act.put,sqA,sqB,sqC]
   refine tq ⟨some 23, .extract (.tmp 13) 1, 31, "journal.go:84", #[⟨8, .data⟩, { on := 11, ground := Ground.gcOnly Departure.lateStores }], none⟩ ?_ 10 rfl ?_ ?_;rotate_left;·(intros;go_simp<;>with_reducible rfl)
   try simp only[Act.put,sqA,sqB,sqC]
   refine tq ⟨some 5, .assign (.tmp 22), 9, "journal.go:84", #[⟨9, .data⟩, ⟨7, .chain⟩, ⟨0, .phase⟩, ⟨1, .phase⟩, ⟨2, .phase⟩, ⟨3, .phase⟩, ⟨4, .phase⟩, ⟨5, .phase⟩, ⟨6, .phase⟩, ⟨7, .phase⟩, ⟨8, .phase⟩, ⟨9, .phase⟩, { on := 10, ground := Ground.textOnly Departure.lateStores }], none⟩ ?_ 11 rfl ?_ ?_;rotate_left;·(intros;go_simp<;>with_reducible rfl)
   try simp only[Act.put,sqA,sqB,sqC]
   refine tq ⟨some 6, .assign (.tmp 23), 31, "journal.go:84", #[⟨10, .data⟩, ⟨11, .chain⟩, ⟨0, .phase⟩, ⟨1, .phase⟩, ⟨2, .phase⟩, ⟨3, .phase⟩, ⟨4, .phase⟩, ⟨5, .phase⟩, ⟨6, .phase⟩, ⟨7, .phase⟩, ⟨8, .phase⟩, ⟨9, .phase⟩, ⟨10, .phase⟩, ⟨11, .phase⟩], none⟩ ?_ 12 rfl ?_ ?_;rotate_left;·(intros;go_simp<;>with_reducible rfl)
   try simp only[Act.put,sqA,sqB,sqC]
   refine wpAnyH_done (by kernel_rfl) ?_ _
   have c2 := HX3.out.j.most
   clear cN
   go_wp2_with (fail)
   refine (jturn_any n₀ w3 b M F jb p most HX3.out hp (by rw [← HN.out]; exact h9)).mono ?_
   rintro e w4 ⟨rfl, hT⟩
   have HT := Lib.hid (hT.before HB3.out)
   clear hT
   have hwr : IntKind.i64.wrap ((n : Int) + 1) = (n : Int) + 1 := IntWalk.i64_in _ (by omega)
   go_wp2_with (fail)
   go_ret2
   exact ⟨n + 1, by rw [HR.out]; rfl, by rw [HR.out]; exact HT.out, fun hc => by
    rw [HR.out] at hc ⊢
    rw [jturn_last H.out.ok (by rw [← HN.out]; exact h9) hc, ← HN.out]⟩
  ·have HR := Lib.hid (show roomS p.data.toList most M = (0, M) by rw [HRS.out]; unfold jroom; rw [← HN.out, HBY.out, if_neg hfull])
   by_cases hnb : y.bytes = []
   ·have hemp : (⟨y.bytes.toArray⟩ : ByteArray) = ⟨#[]⟩ := by rw [hnb]
    have HE := Lib.hid hemp
    clear hfull
    go_enter Tryz.func87, Tryz.ntmps87
    go_wp2_with (fail)
    refine (num_any n₀ w jb b p most M F H.out.prog H.out.ok H.out.j hp H.out.std0).mono ?_
    rintro e w1 ⟨rfl, hb1⟩
    rw [← HN.out]
    have HB1 := Lib.hid hb1
    have HX := Lib.hid (H.out.bel hb1)
    clear hb1
    go_wp2_with (fail)
    refine wp_region_held_drew (S := fun z => z.cell? ⟨jb, 0, none⟩ = some (.pointer (some ⟨b, 0, none⟩))) (by kernel_rfl) HX.out.j.files (fun hHeld => ?_)
    refine tq ⟨some 14, .move (.tmp 0), 108, "journal.go:84", #[], none⟩ ?_ 0 rfl ?_ ?_;rotate_left;·(intros;go_simp<;>with_reducible rfl)
    try simp only[Act.put,sqA,sqB,sqC]
    refine tq ⟨some 15, .nilCheck (.tmp 14), 0, "journal.go:84", #[⟨0, .data⟩], none⟩ ?_ 1 rfl ?_ ?_;rotate_left;·(intros;go_simp<;>with_reducible rfl)
    try simp only[Act.put,sqA,sqB,sqC]
    refine tq ⟨some 16, .fieldAddr 153 (.tmp 15) 0, 0, "journal.go:84", #[⟨1, .data⟩], none⟩ ?_ 2 rfl ?_ ?_;rotate_left;·(intros;go_simp<;>with_reducible rfl)
    try simp only[Act.put,sqA,sqB,sqC]
    refine tq ⟨some 17, .load 55 (.tmp 16), 55, "journal.go:84", #[⟨2, .data⟩], none⟩ ?_ 3 rfl ?_ ?_;rotate_left;·(intros;go_simp<;>with_reducible rfl)
    try simp only[Act.put,sqA,sqB,sqC]
    refine tq ⟨some 18, .move (.tmp 0), 108, "journal.go:84", #[], none⟩ ?_ 4 rfl ?_ ?_;rotate_left;·(intros;go_simp<;>with_reducible rfl)
    try simp only[Act.put,sqA,sqB,sqC]
    refine tq ⟨some 19, .move (.tmp 4), 3, "journal.go:84", #[], none⟩ ?_ 5 rfl ?_ ?_;rotate_left;·(intros;go_simp<;>with_reducible rfl)
    try simp only[Act.put,sqA,sqB,sqC]
    refine wpAnyH_ready (rs := [6]) (by kernel_rfl) (by simp) ?_
    refine ar1 ⟨some 20, .call ⟨.value (.func 84), #[.tmp 18, .tmp 19], #[108, 3]⟩, 9, "journal.go:84", #[⟨4, .data⟩, ⟨5, .data⟩], none⟩ rfl (fun K hK => ?_)
    go_simp
    refine (js_fileC (HX.out.bel (Bel.refl w1).drew) hp n (by omega)).mono ?_
    rintro e zf ⟨rfl, hbf⟩
    have HBf := Lib.hid ((Bel.refl w1).drew.trans hbf)
    have HXf := Lib.hid (HX.out.bel HBf.out)
    clear hbf
    dsimp only
    refine hK.out _ _ HXf.out.j.files (fun hHeld => ?_);clear hK K;try simp only[Act.put,sqA,sqB,sqC]
    refine wpAnyH_ready (rs := [7]) (by kernel_rfl) (by simp) ?_
    refine ar1 ⟨some 21, .call ⟨.value (.func 118), #[.tmp 17, .tmp 20], #[55, 9]⟩, 32, "journal.go:84", #[⟨3, .data⟩, ⟨6, .data⟩, ⟨6, .chain⟩], none⟩ rfl (fun K hK => ?_)
    go_simp
    refine (pget_any n₀ zf b M F (⟨(fileN p.data.toList n).toArray⟩ : ByteArray) HXf.out.prog (by unfold maxLen; omega)).mono ?_
    rintro e w3 ⟨rfl, hb3⟩
    rw [str_list, HGS.out, HE.out]
    have HB3 := Lib.hid (HB1.out.trans (HBf.out.trans hb3))
    have HX3 := Lib.hid (HXf.out.bel hb3)
    have cN := HX3.out.j.files
    clear hb3
    dsimp only
    refine hK.out _ _ cN (fun hHeld => ?_);clear hK K;try simp only[Act.put,sqA,sqB,sqC]
    refine tq ⟨some 13, .move (.tmp 21), 32, "journal.go:84", #[⟨7, .data⟩], none⟩ ?_ 8 rfl ?_ ?_;rotate_left;·(intros;go_simp<;>with_reducible rfl)
    try simp only[Act.put,sqA,sqB,sqC]
    refine tq ⟨some 22, .extract (.tmp 13) 0, 9, "journal.go:84", #[⟨8, .data⟩], none⟩ ?_ 9 rfl ?_ ?_;rotate_left;·(intros;go_simp<;>with_reducible rfl)
    try simp only[Act.put,sqA,sqB,sqC]
    refine tq ⟨some 23, .extract (.tmp 13) 1, 31, "journal.go:84", #[⟨8, .data⟩, { on := 11, ground := Ground.gcOnly Departure.lateStores }], none⟩ ?_ 10 rfl ?_ ?_;rotate_left;·(intros;go_simp<;>with_reducible rfl)
    try simp only[Act.put,sqA,sqB,sqC]
    refine tq ⟨some 5, .assign (.tmp 22), 9, "journal.go:84", #[⟨9, .data⟩, ⟨7, .chain⟩, ⟨0, .phase⟩, ⟨1, .phase⟩, ⟨2, .phase⟩, ⟨3, .phase⟩, ⟨4, .phase⟩, ⟨5, .phase⟩, ⟨6, .phase⟩, ⟨7, .phase⟩, ⟨8, .phase⟩, ⟨9, .phase⟩, { on := 10, ground := Ground.textOnly Departure.lateStores }], none⟩ ?_ 11 rfl ?_ ?_;rotate_left;·(intros;go_simp<;>with_reducible rfl)
    try simp only[Act.put,sqA,sqB,sqC]
    refine tq ⟨some 6, .assign (.tmp 23), 31, "journal.go:84", #[⟨10, .data⟩, ⟨11, .chain⟩, ⟨0, .phase⟩, ⟨1, .phase⟩, ⟨2, .phase⟩, ⟨3, .phase⟩, ⟨4, .phase⟩, ⟨5, .phase⟩, ⟨6, .phase⟩, ⟨7, .phase⟩, ⟨8, .phase⟩, ⟨9, .phase⟩, ⟨10, .phase⟩, ⟨11, .phase⟩], none⟩ ?_ 12 rfl ?_ ?_;rotate_left;·(intros;go_simp<;>with_reducible rfl)
    try simp only[Act.put,sqA,sqB,sqC]
    refine wpAnyH_done (by kernel_rfl) ?_ _
    clear hemp
    go_wp2_with (fail)
    go_ret2
    exact ⟨n, by rw [HR.out]; rfl, by rw [HR.out]; exact ProgAt.to H.out.prog HB3.out, fun hc => by rw [HR.out]; exact HN.out⟩
   ·have hlt : ((y.bytes.length : Int) < most) := by
     rcases Int.lt_or_le (y.bytes.length : Int) most with h | h
     ·exact h
     ·exact absurd ⟨hnb, h⟩ hfull
    have hemp := str_empty hnb
    have hemp2 : y.bytes.isEmpty = false := by cases hb : y.bytes with | nil => exact absurd hb hnb | cons _ _ => rfl
    clear hfull
    go_enter Tryz.func87, Tryz.ntmps87
    go_wp2_with (fail)
    refine (num_any n₀ w jb b p most M F H.out.prog H.out.ok H.out.j hp H.out.std0).mono ?_
    rintro e w1 ⟨rfl, hb1⟩
    rw [← HN.out]
    have HB1 := Lib.hid hb1
    have HX := Lib.hid (H.out.bel hb1)
    clear hb1
    go_wp2_with (fail)
    refine wp_region_held_drew (S := fun z => z.cell? ⟨jb, 0, none⟩ = some (.pointer (some ⟨b, 0, none⟩))) (by kernel_rfl) HX.out.j.files (fun hHeld => ?_)
    refine tq ⟨some 14, .move (.tmp 0), 108, "journal.go:84", #[], none⟩ ?_ 0 rfl ?_ ?_;rotate_left;·(intros;go_simp<;>with_reducible rfl)
    try simp only[Act.put,sqA,sqB,sqC]
    refine tq ⟨some 15, .nilCheck (.tmp 14), 0, "journal.go:84", #[⟨0, .data⟩], none⟩ ?_ 1 rfl ?_ ?_;rotate_left;·(intros;go_simp<;>with_reducible rfl)
    try simp only[Act.put,sqA,sqB,sqC]
    refine tq ⟨some 16, .fieldAddr 153 (.tmp 15) 0, 0, "journal.go:84", #[⟨1, .data⟩], none⟩ ?_ 2 rfl ?_ ?_;rotate_left;·(intros;go_simp<;>with_reducible rfl)
    try simp only[Act.put,sqA,sqB,sqC]
    refine tq ⟨some 17, .load 55 (.tmp 16), 55, "journal.go:84", #[⟨2, .data⟩], none⟩ ?_ 3 rfl ?_ ?_;rotate_left;·(intros;go_simp<;>with_reducible rfl)
    try simp only[Act.put,sqA,sqB,sqC]
    refine tq ⟨some 18, .move (.tmp 0), 108, "journal.go:84", #[], none⟩ ?_ 4 rfl ?_ ?_;rotate_left;·(intros;go_simp<;>with_reducible rfl)
    try simp only[Act.put,sqA,sqB,sqC]
    refine tq ⟨some 19, .move (.tmp 4), 3, "journal.go:84", #[], none⟩ ?_ 5 rfl ?_ ?_;rotate_left;·(intros;go_simp<;>with_reducible rfl)
    try simp only[Act.put,sqA,sqB,sqC]
    refine wpAnyH_ready (rs := [6]) (by kernel_rfl) (by simp) ?_
    refine ar1 ⟨some 20, .call ⟨.value (.func 84), #[.tmp 18, .tmp 19], #[108, 3]⟩, 9, "journal.go:84", #[⟨4, .data⟩, ⟨5, .data⟩], none⟩ rfl (fun K hK => ?_)
    go_simp
    refine (js_fileC (HX.out.bel (Bel.refl w1).drew) hp n (by omega)).mono ?_
    rintro e zf ⟨rfl, hbf⟩
    have HBf := Lib.hid ((Bel.refl w1).drew.trans hbf)
    have HXf := Lib.hid (HX.out.bel HBf.out)
    clear hbf
    dsimp only
    refine hK.out _ _ HXf.out.j.files (fun hHeld => ?_);clear hK K;try simp only[Act.put,sqA,sqB,sqC]
    refine wpAnyH_ready (rs := [7]) (by kernel_rfl) (by simp) ?_
    refine ar1 ⟨some 21, .call ⟨.value (.func 118), #[.tmp 17, .tmp 20], #[55, 9]⟩, 32, "journal.go:84", #[⟨3, .data⟩, ⟨6, .data⟩, ⟨6, .chain⟩], none⟩ rfl (fun K hK => ?_)
    go_simp
    refine (pget_any n₀ zf b M F (⟨(fileN p.data.toList n).toArray⟩ : ByteArray) HXf.out.prog (by unfold maxLen; omega)).mono ?_
    rintro e w3 ⟨rfl, hb3⟩
    rw [str_list, HGS.out]
    have HB3 := Lib.hid (HB1.out.trans (HBf.out.trans hb3))
    have HX3 := Lib.hid (HXf.out.bel hb3)
    have cN := HX3.out.j.files
    clear hb3
    dsimp only
    refine hK.out _ _ cN (fun hHeld => ?_);clear hK K;try simp only[Act.put,sqA,sqB,sqC]
    refine tq ⟨some 13, .move (.tmp 21), 32, "journal.go:84", #[⟨7, .data⟩], none⟩ ?_ 8 rfl ?_ ?_;rotate_left;·(intros;go_simp<;>with_reducible rfl)
    try simp only[Act.put,sqA,sqB,sqC]
    refine tq ⟨some 22, .extract (.tmp 13) 0, 9, "journal.go:84", #[⟨8, .data⟩], none⟩ ?_ 9 rfl ?_ ?_;rotate_left;·(intros;go_simp<;>with_reducible rfl)
    try simp only[Act.put,sqA,sqB,sqC]
    refine tq ⟨some 23, .extract (.tmp 13) 1, 31, "journal.go:84", #[⟨8, .data⟩, { on := 11, ground := Ground.gcOnly Departure.lateStores }], none⟩ ?_ 10 rfl ?_ ?_;rotate_left;·(intros;go_simp<;>with_reducible rfl)
    try simp only[Act.put,sqA,sqB,sqC]
    refine tq ⟨some 5, .assign (.tmp 22), 9, "journal.go:84", #[⟨9, .data⟩, ⟨7, .chain⟩, ⟨0, .phase⟩, ⟨1, .phase⟩, ⟨2, .phase⟩, ⟨3, .phase⟩, ⟨4, .phase⟩, ⟨5, .phase⟩, ⟨6, .phase⟩, ⟨7, .phase⟩, ⟨8, .phase⟩, ⟨9, .phase⟩, { on := 10, ground := Ground.textOnly Departure.lateStores }], none⟩ ?_ 11 rfl ?_ ?_;rotate_left;·(intros;go_simp<;>with_reducible rfl)
    try simp only[Act.put,sqA,sqB,sqC]
    refine tq ⟨some 6, .assign (.tmp 23), 31, "journal.go:84", #[⟨10, .data⟩, ⟨11, .chain⟩, ⟨0, .phase⟩, ⟨1, .phase⟩, ⟨2, .phase⟩, ⟨3, .phase⟩, ⟨4, .phase⟩, ⟨5, .phase⟩, ⟨6, .phase⟩, ⟨7, .phase⟩, ⟨8, .phase⟩, ⟨9, .phase⟩, ⟨10, .phase⟩, ⟨11, .phase⟩], none⟩ ?_ 12 rfl ?_ ?_;rotate_left;·(intros;go_simp<;>with_reducible rfl)
    try simp only[Act.put,sqA,sqB,sqC]
    refine wpAnyH_done (by kernel_rfl) ?_ _
    have c2 := HX3.out.j.most
    clear cN
    go_wp2_with (fail)
    go_ret2
    exact ⟨n, by rw [HR.out]; rfl, by rw [HR.out]; exact ProgAt.to H.out.prog HB3.out, fun hc => by rw [HR.out]; exact HN.out⟩

set_option maxHeartbeats 4000000 in
set_option maxRecDepth 20000 in
theorem write_any (n₀ : Nat) (w : World) (b : Nat) (M : RS) (F : List Nat) (jb : Nat) (p : ByteArray) (most : Int) (lp : Option Addr) (lc : Nat) (L : List (List UInt8)) (h : JS n₀ w b M F jb p most) (hp : p.size ≤ 100) (h0 : lastN p.data.toList M.L ≠ 0) (h9 : lastN p.data.toList M.L < 9999999) (hmost : in64 most)
  (hl : StrsAt w lp L) (hL : L.length ≤ maxLen) (ht : ∀ t ∈ L, t.length ≤ 1000000) :
  Calls Tryz.prog 52 #[.pointer (some ⟨jb, 0, none⟩), .slice lp L.length lc] w fun e y => e = .returned (.int .i64 (jwrite p.data.toList most L M).1) ∧ ProgTo n₀ w y b (jwrite p.data.toList most L M).2 F := by
 have H := Lib.hid h
 have HMS := Lib.hid hmost
 have HC := Lib.hid (batch_any w lp lc L hl hL ht)
 have HLL := Lib.hid hL
 have hbl := batch_len L
 have hpl : p.data.toList.length = p.size := rfl
 have HRO := Lib.hid (roomS_ok h.ok p.data.toList most)
 obtain ⟨s, e0, hB⟩ : ∃ s e0, batchS L = (s, e0) := ⟨_, _, rfl⟩
 have HBV := Lib.hid (show batchV L = .tuple #[.string ⟨s.toArray⟩, .int .i64 e0] by unfold batchV; rw [hB])
 rw [hB] at hbl
 simp only at hbl
 have hsz := str_len s
 obtain ⟨r, M1, hR⟩ : ∃ r M1, roomS p.data.toList most M = (r, M1) := ⟨_, _, rfl⟩
 have HR := Lib.hid hR
 rw [hR] at HRO
 have HRO1 := Lib.hid (show M1.ok from HRO.out)
 have HW := Lib.hid (show jwrite p.data.toList most L M = if e0 ≠ 0 then (e0, M) else if r ≠ 0 then (r, M1) else jput (fileN p.data.toList (lastN p.data.toList M1.L)) (frameL s) M1 by
  unfold jwrite
  rw [hB]
  unfold roomS at hR
  by_cases hg : M.gone = true
  ·rw [if_pos hg] at hR ⊢
   simp only [Prod.mk.injEq] at hR
   obtain ⟨rfl, rfl⟩ := hR
   simp
  ·rw [if_neg hg] at hR ⊢
   rw [hR])
 have H0 := Lib.hid h0
 have H9 := Lib.hid h9
 clear h hB hR hmost hl hL ht HRO h0 h9
 go_enter Tryz.func52, Tryz.ntmps52
 go_wp2_with (fail)
 refine HC.out.mono ?_
 rintro e w1 ⟨rfl, hb1⟩
 rw [HBV.out]
 have HB1 := Lib.hid hb1
 clear hb1
 by_cases he0 : e0 = 0
 ·subst he0
  rw [if_neg (by simp)] at HW
  go_wp2_with (fail)
  refine (frame_ok ⟨s.toArray⟩ _ (by omega)).mono ?_
  rintro e w2 ⟨rfl, hb2⟩
  rw [frameV, str_list]
  have HB2 := Lib.hid (HB1.out.trans hb2)
  have HX2 := Lib.hid (H.out.bel HB2.out)
  clear hb2
  go_wp2_with (fail)
  refine (withroom_any n₀ w2 b M F jb p most HX2.out hp H0.out H9.out HMS.out).mono ?_
  rintro e w3 ⟨m, rfl, hT, hm⟩
  rw [HR.out] at hT hm ⊢
  by_cases hr : r = 0
  ·subst hr
   rw [if_neg (by simp)] at HW
   have hmm : m = lastN p.data.toList M1.L := hm rfl
   have hm9 : m ≤ 9999999 := by rw [hmm]; exact last_le _ _
   have HMM := Lib.hid hmm
   obtain ⟨F3, hX3, hK3, hF3⟩ := HX2.out.step hT HRO1.out
   have HX := Lib.hid hX3
   have HK3 := Lib.hid ((Keep.of_bel HB2.out F).trans hK3 (fun x hx => Or.inl hx))
   have HF3 := Lib.hid (show ∀ k ∈ F3, k ∈ F ∨ w.heap.size ≤ k from fun k hk => (hF3 k hk).imp id (fun h => Nat.le_trans HB2.out.size h))
   clear hT hm hmm hX3 hK3 hF3
   have hfl := file_len p.data.toList (n := m) (by omega)
   have hfz := str_len (fileN p.data.toList m)
   have hfrz := str_len (frameL s)
   have hfrl := frame_len s
   have hszN := szN_le s.length
   obtain ⟨ra, M2, hA⟩ : ∃ ra M2, addS (fileN p.data.toList m) (frameL s) M1 = (ra, M2) := ⟨_, _, rfl⟩
   have HA := Lib.hid hA
   have HM2 := Lib.hid (show M2.ok by have := add_ok HRO1.out (fileN p.data.toList m) (frameL s); rwa [hA] at this)
   have HJP := Lib.hid (show jput (fileN p.data.toList (lastN p.data.toList M1.L)) (frameL s) M1 = if ra ≠ 0 then (ra, M2) else flushS (fileN p.data.toList m) M2 by
    unfold jput; rw [← HMM.out, HA.out])
   rw [HJP.out] at HW
   clear hA
   go_wp2_with (fail)
   refine wp_region_held_drew (S := fun z => z.cell? ⟨jb, 0, none⟩ = some (.pointer (some ⟨b, 0, none⟩))) (by kernel_rfl) HX.out.j.files (fun hHeld => ?_)
   refine tq ⟨some 34, .move (.tmp 0), 108, "journal.go:72", #[], none⟩ ?_ 0 rfl ?_ ?_;rotate_left;·(intros;go_simp<;>with_reducible rfl)
   try simp only[Act.put,sqA,sqB,sqC]
   refine tq ⟨some 35, .nilCheck (.tmp 34), 0, "journal.go:72", #[⟨0, .data⟩], none⟩ ?_ 1 rfl ?_ ?_;rotate_left;·(intros;go_simp<;>with_reducible rfl)
   try simp only[Act.put,sqA,sqB,sqC]
   refine tq ⟨some 36, .fieldAddr 153 (.tmp 35) 0, 0, "journal.go:72", #[⟨1, .data⟩], none⟩ ?_ 2 rfl ?_ ?_;rotate_left;·(intros;go_simp<;>with_reducible rfl)
   try simp only[Act.put,sqA,sqB,sqC]
   refine tq ⟨some 37, .load 55 (.tmp 36), 55, "journal.go:72", #[⟨2, .data⟩], none⟩ ?_ 3 rfl ?_ ?_;rotate_left;·(intros;go_simp<;>with_reducible rfl)
   try simp only[Act.put,sqA,sqB,sqC]
   refine tq ⟨some 38, .move (.tmp 0), 108, "journal.go:72", #[], none⟩ ?_ 4 rfl ?_ ?_;rotate_left;·(intros;go_simp<;>with_reducible rfl)
   try simp only[Act.put,sqA,sqB,sqC]
   refine tq ⟨some 39, .move (.tmp 8), 3, "journal.go:72", #[], none⟩ ?_ 5 rfl ?_ ?_;rotate_left;·(intros;go_simp<;>with_reducible rfl)
   try simp only[Act.put,sqA,sqB,sqC]
   refine tq ⟨some 41, .move (.tmp 7), 9, "journal.go:72", #[], none⟩ ?_ 7 rfl ?_ ?_;rotate_left;·(intros;go_simp<;>with_reducible rfl)
   try simp only[Act.put,sqA,sqB,sqC]
   refine wpAnyH_ready (rs := [6]) (by kernel_rfl) (by simp) ?_
   refine ar1 ⟨some 40, .call ⟨.value (.func 84), #[.tmp 38, .tmp 39], #[108, 3]⟩, 9, "journal.go:72", #[⟨4, .data⟩, ⟨5, .data⟩], none⟩ rfl (fun K hK => ?_)
   go_simp
   refine (js_fileC (HX.out.bel (Bel.refl w3).drew) hp m (by omega)).mono ?_
   rintro e zf ⟨rfl, hbf⟩
   have HBf := Lib.hid ((Bel.refl w3).drew.trans hbf)
   have HXf := Lib.hid (HX.out.bel HBf.out)
   clear hbf
   dsimp only
   refine hK.out _ _ HXf.out.j.files (fun hHeld => ?_);clear hK K;try simp only[Act.put,sqA,sqB,sqC]
   refine wpAnyH_ready (rs := [8]) (by kernel_rfl) (by simp) ?_
   refine ar1 ⟨some 42, .call ⟨.value (.func 35), #[.tmp 37, .tmp 40, .tmp 41], #[55, 9, 9]⟩, 31, "journal.go:72", #[⟨3, .data⟩, ⟨6, .data⟩, ⟨7, .data⟩, ⟨6, .chain⟩], none⟩ rfl (fun K hK => ?_)
   go_simp
   refine (padd_any n₀ zf b M1 F3 (⟨(fileN p.data.toList m).toArray⟩ : ByteArray) (⟨(frameL s).toArray⟩ : ByteArray) HXf.out.prog (by omega) (by omega) HRO1.out.srt (good_len HRO1.out) (good_bytes HRO1.out) HRO1.out.room).mono ?_
   rintro e w4 ⟨rfl, hT⟩
   rw [str_list, str_list, HA.out] at hT ⊢
   obtain ⟨F4, hX4, hK4, hF4⟩ := HXf.out.step hT HM2.out
   have HX4 := Lib.hid hX4
   have HK4 := Lib.hid ((HK3.out.then HBf.out).trans hK4 (fun x hx => HF3.out x hx))
   have HF4 := Lib.hid (show ∀ k ∈ F4, k ∈ F ∨ w.heap.size ≤ k from fun k hk => by
    rcases hF4 k hk with h | h
    ·exact HF3.out k h
    ·exact Or.inr (Nat.le_trans (HK3.out.then HBf.out).size h))
   have cN := HX4.out.j.files
   clear hT hX4 hK4 hF4
   dsimp only
   refine hK.out _ _ cN (fun hHeld => ?_);clear hK K;try simp only[Act.put,sqA,sqB,sqC]
   refine tq ⟨some 9, .assign (.tmp 42), 31, "journal.go:72", #[⟨8, .data⟩, ⟨8, .chain⟩, ⟨0, .phase⟩, ⟨1, .phase⟩, ⟨2, .phase⟩, ⟨3, .phase⟩, ⟨4, .phase⟩, ⟨5, .phase⟩, ⟨6, .phase⟩, ⟨7, .phase⟩, ⟨8, .phase⟩], none⟩ ?_ 9 rfl ?_ ?_;rotate_left;·(intros;go_simp<;>with_reducible rfl)
   try simp only[Act.put,sqA,sqB,sqC]
   refine wpAnyH_done (by kernel_rfl) ?_ _
   by_cases hra : ra = 0
   ·subst hra
    rw [if_neg (by simp)] at HW
    clear cN HX HXf HBf
    have HX := HX4
    go_wp2_with (fail)
    refine wp_region_held_drew (S := fun z => z.cell? ⟨jb, 0, none⟩ = some (.pointer (some ⟨b, 0, none⟩))) (by kernel_rfl) HX.out.j.files (fun hHeld => ?_)
    refine tq ⟨some 46, .move (.tmp 0), 108, "journal.go:75", #[], none⟩ ?_ 0 rfl ?_ ?_;rotate_left;·(intros;go_simp<;>with_reducible rfl)
    try simp only[Act.put,sqA,sqB,sqC]
    refine tq ⟨some 47, .nilCheck (.tmp 46), 0, "journal.go:75", #[⟨0, .data⟩], none⟩ ?_ 1 rfl ?_ ?_;rotate_left;·(intros;go_simp<;>with_reducible rfl)
    try simp only[Act.put,sqA,sqB,sqC]
    refine tq ⟨some 48, .fieldAddr 153 (.tmp 47) 0, 0, "journal.go:75", #[⟨1, .data⟩], none⟩ ?_ 2 rfl ?_ ?_;rotate_left;·(intros;go_simp<;>with_reducible rfl)
    try simp only[Act.put,sqA,sqB,sqC]
    refine tq ⟨some 49, .load 55 (.tmp 48), 55, "journal.go:75", #[⟨2, .data⟩], none⟩ ?_ 3 rfl ?_ ?_;rotate_left;·(intros;go_simp<;>with_reducible rfl)
    try simp only[Act.put,sqA,sqB,sqC]
    refine tq ⟨some 50, .move (.tmp 0), 108, "journal.go:75", #[], none⟩ ?_ 4 rfl ?_ ?_;rotate_left;·(intros;go_simp<;>with_reducible rfl)
    try simp only[Act.put,sqA,sqB,sqC]
    refine tq ⟨some 51, .move (.tmp 8), 3, "journal.go:75", #[], none⟩ ?_ 5 rfl ?_ ?_;rotate_left;·(intros;go_simp<;>with_reducible rfl)
    try simp only[Act.put,sqA,sqB,sqC]
    refine wpAnyH_ready (rs := [6]) (by kernel_rfl) (by simp) ?_
    refine ar1 ⟨some 52, .call ⟨.value (.func 84), #[.tmp 50, .tmp 51], #[108, 3]⟩, 9, "journal.go:75", #[⟨4, .data⟩, ⟨5, .data⟩], none⟩ rfl (fun K hK => ?_)
    go_simp
    refine (js_fileC (HX.out.bel (Bel.refl w4).drew) hp m (by omega)).mono ?_
    rintro e zf ⟨rfl, hbf⟩
    have HBf := Lib.hid ((Bel.refl w4).drew.trans hbf)
    have HXf := Lib.hid (HX.out.bel HBf.out)
    clear hbf
    dsimp only
    refine hK.out _ _ HXf.out.j.files (fun hHeld => ?_);clear hK K;try simp only[Act.put,sqA,sqB,sqC]
    refine wpAnyH_ready (rs := [7]) (by kernel_rfl) (by simp) ?_
    refine ar1 ⟨some 53, .call ⟨.value (.func 88), #[.tmp 49, .tmp 52], #[55, 9]⟩, 31, "journal.go:75", #[⟨3, .data⟩, ⟨6, .data⟩, ⟨6, .chain⟩], none⟩ rfl (fun K hK => ?_)
    go_simp
    refine (pflush_any n₀ zf b M2 F4 (⟨(fileN p.data.toList m).toArray⟩ : ByteArray) HXf.out.prog (by unfold maxLen; omega) HM2.out.srt (good_len HM2.out)).mono ?_
    rintro e w5 ⟨rfl, hT⟩
    rw [str_list] at hT ⊢
    have HT5 := Lib.hid (to_then (HK4.out.then HBf.out) HF4.out hT)
    have cN : w5.cell? ⟨jb, 0, none⟩ = some (.pointer (some ⟨b, 0, none⟩)) := by
     obtain ⟨F5, _, q2, _⟩ := hT
     exact q2.cell HXf.out.j.files HXf.out.out
    clear hT
    dsimp only
    refine hK.out _ _ cN (fun hHeld => ?_);clear hK K;try simp only[Act.put,sqA,sqB,sqC]
    refine tq ⟨some 4, .assign (.tmp 53), 31, "journal.go:75", #[⟨7, .data⟩, ⟨7, .chain⟩, ⟨0, .phase⟩, ⟨1, .phase⟩, ⟨2, .phase⟩, ⟨3, .phase⟩, ⟨4, .phase⟩, ⟨5, .phase⟩, ⟨6, .phase⟩, ⟨7, .phase⟩], none⟩ ?_ 8 rfl ?_ ?_;rotate_left;·(intros;go_simp<;>with_reducible rfl)
    try simp only[Act.put,sqA,sqB,sqC]
    refine wpAnyH_done (by kernel_rfl) ?_ _
    go_wp2_with (fail)
    go_ret
    exact ⟨by rw [HW.out]; rfl, by rw [HW.out]; exact HT5.out⟩
   ·rw [if_pos hra] at HW
    have hx3 : (ra != 0) = true := by rw [bne_iff_ne]; exact hra
    have hx2 : (ra == 0) = false := by rw [beq_eq_false_iff_ne]; exact hra
    clear cN
    go_wp2_with (fail)
    go_ret
    exact ⟨by rw [HW.out]; rfl, by rw [HW.out]; exact ⟨F4, HX4.out.prog, HK4.out, HF4.out⟩⟩
  ·rw [if_pos hr] at HW
   have HT := Lib.hid (hT.before HB2.out)
   have hx3 : (r != 0) = true := by rw [bne_iff_ne]; exact hr
   have hx2 : (r == 0) = false := by rw [beq_eq_false_iff_ne]; exact hr
   clear hT hm
   go_wp2_with (fail)
   go_ret
   exact ⟨by rw [HW.out]; rfl, by rw [HW.out]; exact HT.out⟩
 ·rw [if_pos he0] at HW
  have hx3 : (e0 != 0) = true := by rw [bne_iff_ne]; exact he0
  have hx2 : (e0 == 0) = false := by rw [beq_eq_false_iff_ne]; exact he0
  go_wp2_with (fail)
  go_ret
  exact ⟨by rw [HW.out]; rfl, by rw [HW.out]; exact ProgAt.to H.out.prog HB1.out⟩

theorem trim_stop (p : List UInt8) (before : Int) {n : Nat} {r : List Nat} {M : RS} (h : ¬ (n : Int) < before) : trimL p before (n :: r) M = (0, M) := by
 cases r with
 | nil => rfl
 | cons m r => simp only [trimL]; rw [if_neg h]
theorem trim_one (p : List UInt8) (before : Int) {n : Nat} {M : RS} : trimL p before [n] M = (0, M) := rfl
theorem trim_step (p : List UInt8) (before : Int) {n : Nat} {r : List Nat} {M : RS} (hr : r ≠ []) (h : (n : Int) < before) : trimL p before (n :: r) M = if (dropS (fileN p n) M).1 = 0 then trimL p before r (dropS (fileN p n) M).2 else dropS (fileN p n) M := by
 cases r with
 | nil => exact absurd rfl hr
 | cons m r => simp only [trimL]; rw [if_pos h]
def TrRel (n₀ : Nat) (w1 : World) (b : Nat) (F : List Nat) (jb : Nat) (p : ByteArray) (most before : Int) (l : List Nat) (sv : Value) (M : RS) (iv : Value) (x : World) : Prop :=
 ∃ (i : Nat) (Mi : RS) (Fi : List Nat), iv = .int .i64 i ∧ i ≤ l.length ∧ JS n₀ x b Mi Fi jb p most ∧ Keep F w1 x ∧ (∀ k ∈ Fi, k ∈ F ∨ w1.heap.size ≤ k) ∧ OwnG intEl 0 x sv (l.map fun n : Nat => (n : Int)) ∧ trimL p.data.toList before l M = trimL p.data.toList before (l.drop i) Mi
set_option maxHeartbeats 4000000 in
set_option maxRecDepth 20000 in
theorem trim_any (n₀ : Nat) (w : World) (b : Nat) (M : RS) (F : List Nat) (jb : Nat) (p : ByteArray) (most before : Int) (h : JS n₀ w b M F jb p most) (hp : p.size ≤ 100) (hbefore : in64 before) :
  Calls Tryz.prog 53 #[.pointer (some ⟨jb, 0, none⟩), .int .i64 before] w fun e y => e = .returned (.int .i64 (jtrim p.data.toList before M).1) ∧ ProgTo n₀ w y b (jtrim p.data.toList before M).2 F := by
 have H := Lib.hid h
 have HBF := Lib.hid hbefore
 have HFL := Lib.hid (prog_lt h.prog)
 have HC := Lib.hid (segs_any n₀ w jb b p most M F h.prog h.ok h.j hp h.std0)
 have hsl := segs_len p.data.toList M.L
 have h60 := h.ok.len
 have hpl : p.data.toList.length = p.size := rfl
 unfold jtrim
 obtain ⟨l, hl⟩ : ∃ l, l = segsL p.data.toList M.L := ⟨_, rfl⟩
 have HL9 := Lib.hid (show ∀ n ∈ l, n ≤ 9999999 from fun n hn => by rw [hl] at hn; exact (mem_segs_file.1 hn).2.1)
 rw [← hl] at HC hsl ⊢
 clear h hl hbefore
 go_enter Tryz.func53, Tryz.ntmps53
 go_wp2_with (fail)
 refine HC.out.mono ?_
 rintro e w1 ⟨v, rfl, hown, hb1⟩
 have HV := Lib.hid hown
 have HB1 := Lib.hid hb1
 obtain ⟨sp, sc, hv⟩ := ownG_len hown
 rw [List.length_map] at hv
 subst hv
 have HVB := Lib.hid hown.lt
 clear hown hb1
 go_wp2_with (fail)
 go_loopw [13] (fun iv x => TrRel n₀ w1 b F jb p most before l (.slice sp l.length sc) M iv x) (fun iv _ => l.length - (intOf iv).toNat)
 case atStart => exact ⟨0, M, F, rfl, Nat.zero_le _, H.out.bel HB1.out, Keep.refl _ _, fun k hk => Or.inl hk, HV.out.low (Nat.zero_le _), by rw [List.drop_zero]⟩
 case round =>
  obtain ⟨i, Mi, Fi, rfl, hi, hx, hk, hfi, ho, htr⟩ := hrel
  have HX := Lib.hid hx
  have HKi := Lib.hid hk
  have HFi := Lib.hid hfi
  have HO := Lib.hid ho
  have HTR := Lib.hid htr
  clear hx hk hfi ho htr
  by_cases hlt : i < l.length
  ·obtain ⟨g, cap, hv, hcap, _, e0⟩ := int_at HO.out i hlt
   simp only [Value.slice.injEq, true_and] at hv
   obtain ⟨rfl, rfl⟩ := hv
   have hn9 := HL9.out l[i] (List.getElem_mem hlt)
   have HDR := Lib.hid (show l.drop i = l[i] :: l.drop (i + 1) from List.drop_eq_getElem_cons hlt)
   obtain ⟨n, hn⟩ : ∃ n, n = l[i] := ⟨_, rfl⟩
   rw [← hn] at e0 hn9 HDR
   clear hn
   by_cases hnb : (n : Int) < before
   ·by_cases hil : i + 1 = l.length
    ·have hq : ((i : Int) == (l.length : Int) - 1) = true := by rw [beq_iff_eq]; omega
     have HE := Lib.hid (show trimL p.data.toList before l M = (0, Mi) by
      rw [HTR.out, HDR.out, show l.drop (i + 1) = [] from List.drop_eq_nil_of_le (by omega)]; exact trim_one _ _)
     clear hil
     go_wp2_with (fail)
     go_ret
     exact ⟨by rw [HE.out]; rfl, by rw [HE.out]; exact ⟨Fi, HX.out.prog, (Keep.of_bel HB1.out F).trans HKi.out (fun x hx => Or.inl hx), fun k hk => (HFi.out k hk).imp id (fun h => Nat.le_trans HB1.out.size h)⟩⟩
    ·have hq : ((i : Int) == (l.length : Int) - 1) = false := by rw [beq_eq_false_iff_ne]; omega
     have HE := Lib.hid (show trimL p.data.toList before l M = if (dropS (fileN p.data.toList n) Mi).1 = 0 then trimL p.data.toList before (l.drop (i + 1)) (dropS (fileN p.data.toList n) Mi).2 else dropS (fileN p.data.toList n) Mi by
      rw [HTR.out, HDR.out]
      exact trim_step _ _ (by intro e; have := congrArg List.length e; rw [List.length_drop, List.length_nil] at this; omega) hnb)
     obtain ⟨rd, Md, hD⟩ : ∃ rd Md, dropS (fileN p.data.toList n) Mi = (rd, Md) := ⟨_, _, rfl⟩
     have HD := Lib.hid hD
     have HMd := Lib.hid (show Md.ok by have := drop_ok HX.out.ok (fileN p.data.toList n); rwa [hD] at this)
     rw [hD] at HE
     have hfl := file_len p.data.toList (n := n) (by omega)
     have hfz := str_len (fileN p.data.toList n)
     have hgw : g < w1.heap.size ∧ w.heap.size ≤ g := ⟨(HVB.out g rfl).2, (HVB.out g rfl).1⟩
     have hgF : g ∉ Fi := fun hm => by
      rcases HFi.out g hm with h | h
      ·have := HFL.out g h; omega
      ·omega
     clear hD hil
     obtain ⟨x0, hx0⟩ : ∃ x0, x0 = Mi := ⟨_, rfl⟩
     clear hx0 x0
     go_wp2_with (fail)
     refine wp_region_held_drew (S := fun z => z.cell? ⟨jb, 0, none⟩ = some (.pointer (some ⟨b, 0, none⟩))) (by kernel_rfl) HX.out.j.files (fun hHeld => ?_)
     refine tq ⟨some 28, .move (.tmp 0), 108, "journal.go:163", #[], none⟩ ?_ 0 rfl ?_ ?_;rotate_left;·(intros;go_simp<;>with_reducible rfl)
     try simp only[Act.put,sqA,sqB,sqC]
     refine tq ⟨some 29, .nilCheck (.tmp 28), 0, "journal.go:163", #[⟨0, .data⟩], none⟩ ?_ 1 rfl ?_ ?_;rotate_left;·(intros;go_simp<;>with_reducible rfl)
     try simp only[Act.put,sqA,sqB,sqC]
     refine tq ⟨some 30, .fieldAddr 153 (.tmp 29) 0, 0, "journal.go:163", #[⟨1, .data⟩], none⟩ ?_ 2 rfl ?_ ?_;rotate_left;·(intros;go_simp<;>with_reducible rfl)
     try simp only[Act.put,sqA,sqB,sqC]
     refine tq ⟨some 31, .load 55 (.tmp 30), 55, "journal.go:163", #[⟨2, .data⟩], none⟩ ?_ 3 rfl ?_ ?_;rotate_left;·(intros;go_simp<;>with_reducible rfl)
     try simp only[Act.put,sqA,sqB,sqC]
     refine tq ⟨some 32, .move (.tmp 0), 108, "journal.go:163", #[], none⟩ ?_ 4 rfl ?_ ?_;rotate_left;·(intros;go_simp<;>with_reducible rfl)
     try simp only[Act.put,sqA,sqB,sqC]
     refine tq ⟨some 33, .move (.tmp 7), 3, "journal.go:163", #[], none⟩ ?_ 5 rfl ?_ ?_;rotate_left;·(intros;go_simp<;>with_reducible rfl)
     try simp only[Act.put,sqA,sqB,sqC]
     refine wpAnyH_ready (rs := [6]) (by kernel_rfl) (by simp) ?_
     refine ar1 ⟨some 34, .call ⟨.value (.func 84), #[.tmp 32, .tmp 33], #[108, 3]⟩, 9, "journal.go:163", #[⟨4, .data⟩, ⟨5, .data⟩], none⟩ rfl (fun K hK => ?_)
     go_simp
     refine (js_fileC (HX.out.bel (Bel.refl _).drew) hp n (by omega)).mono ?_
     rintro e zf ⟨rfl, hbf⟩
     have HBf := Lib.hid ((Bel.refl _).drew.trans hbf)
     have HXf := Lib.hid (HX.out.bel HBf.out)
     clear hbf
     dsimp only
     refine hK.out _ _ HXf.out.j.files (fun hHeld => ?_);clear hK K;try simp only[Act.put,sqA,sqB,sqC]
     refine wpAnyH_ready (rs := [7]) (by kernel_rfl) (by simp) ?_
     refine ar1 ⟨some 35, .call ⟨.value (.func 90), #[.tmp 31, .tmp 34], #[55, 9]⟩, 31, "journal.go:163", #[⟨3, .data⟩, ⟨6, .data⟩, ⟨6, .chain⟩], none⟩ rfl (fun K hK => ?_)
     go_simp
     refine (pdrop_any n₀ zf b Mi Fi (⟨(fileN p.data.toList n).toArray⟩ : ByteArray) HXf.out.prog (by unfold maxLen; omega) HX.out.ok.srt (good_len HX.out.ok)).mono ?_
     rintro e w4 ⟨rfl, hT⟩
     rw [str_list, HD.out] at hT ⊢
     obtain ⟨F4, hX4, hK4, hF4⟩ := HXf.out.step hT HMd.out
     have HX4 := Lib.hid hX4
     have HK4 := Lib.hid ((HKi.out.then HBf.out).trans hK4 (fun x hx => HFi.out x hx))
     have HF4 := Lib.hid (show ∀ k ∈ F4, k ∈ F ∨ w1.heap.size ≤ k from fun k hk => by
      rcases hF4 k hk with h | h
      ·exact HFi.out k h
      ·exact Or.inr (Nat.le_trans (HKi.out.then HBf.out).size h))
     have HO4 := Lib.hid ((HO.out.bel HBf.out).keep hK4 (fun j hj => by simp only [Value.ownBlock, Option.some.injEq] at hj; subst hj; exact hgF))
     have cN := HX4.out.j.files
     clear hT hX4 hK4 hF4
     dsimp only
     refine hK.out _ _ cN (fun hHeld => ?_);clear hK K;try simp only[Act.put,sqA,sqB,sqC]
     refine tq ⟨some 8, .assign (.tmp 35), 31, "journal.go:163", #[⟨7, .data⟩, ⟨7, .chain⟩, ⟨0, .phase⟩, ⟨1, .phase⟩, ⟨2, .phase⟩, ⟨3, .phase⟩, ⟨4, .phase⟩, ⟨5, .phase⟩, ⟨6, .phase⟩, ⟨7, .phase⟩], none⟩ ?_ 8 rfl ?_ ?_;rotate_left;·(intros;go_simp<;>with_reducible rfl)
     try simp only[Act.put,sqA,sqB,sqC]
     refine wpAnyH_done (by kernel_rfl) ?_ _
     by_cases hrd : rd = 0
     ·subst hrd
      rw [if_pos rfl] at HE
      clear cN
      go_wp2_with (fail)
      go_roundw
      case rel => exact ⟨i + 1, Md, F4, by go_num, by omega, HX4.out, HK4.out, HF4.out, HO4.out, HE.out⟩
      case measure => simp [intOf]; omega
     ·rw [if_neg hrd] at HE
      have hx3 : (rd != 0) = true := by rw [bne_iff_ne]; exact hrd
      have hx2 : (rd == 0) = false := by rw [beq_eq_false_iff_ne]; exact hrd
      clear cN
      go_wp2_with (fail)
      go_ret
      exact ⟨by rw [HE.out]; rfl, by rw [HE.out]; exact ⟨F4, HX4.out.prog, (Keep.of_bel HB1.out F).trans HK4.out (fun x hx => Or.inl hx), fun k hk => (HF4.out k hk).imp id (fun h => Nat.le_trans HB1.out.size h)⟩⟩
   ·have HE := Lib.hid (show trimL p.data.toList before l M = (0, Mi) by rw [HTR.out, HDR.out]; exact trim_stop _ _ hnb)
    have hge : before ≤ (n : Int) := by omega
    go_wp2_with (fail)
    go_ret
    exact ⟨by rw [HE.out]; rfl, by rw [HE.out]; exact ⟨Fi, HX.out.prog, (Keep.of_bel HB1.out F).trans HKi.out (fun x hx => Or.inl hx), fun k hk => (HFi.out k hk).imp id (fun h => Nat.le_trans HB1.out.size h)⟩⟩
  ·obtain rfl : i = l.length := by omega
   have HE := Lib.hid (show trimL p.data.toList before l M = (0, Mi) by rw [HTR.out, List.drop_length]; rfl)
   go_wp2_with (fail)
   go_ret
   exact ⟨by rw [HE.out]; rfl, by rw [HE.out]; exact ⟨Fi, HX.out.prog, (Keep.of_bel HB1.out F).trans HKi.out (fun x hx => Or.inl hx), fun k hk => (HFi.out k hk).imp id (fun h => Nat.le_trans HB1.out.size h)⟩⟩

theorem rj_fileC {n₀ : Nat} {z : World} {b jb : Nat} {M : RS} {F : List Nat} {p : ByteArray} {most : Int} (h : RJS n₀ z b M F jb p most) (hp : p.size ≤ 100) (n : Nat) (hn : n ≤ 10000000) :
  Calls Tryz.prog 100 #[.pointer (some ⟨jb, 0, none⟩), .int .i64 n] z fun e y => e = .returned (.string ⟨(fileN p.data.toList n).toArray⟩) ∧ Bel z y := rfile_any z jb b p most n h.j hp hn
theorem ref_lt {n₀ : Nat} {w : World} {b : Nat} {M : RS} {F : List Nat} (h : RefP n₀ w b M F) : ∀ k ∈ F, k < w.heap.size := by
 obtain ⟨v, _, _, _, h⟩ := h
 exact fun k hk => (h k hk).2

theorem chg_room (M : RS) (L' : List FI) : (chgS M L').2.room = M.room := by
 unfold chgS
 split
 ·exact turn_room M
 ·exact turn_room M
theorem add_room (M : RS) (nm t : List UInt8) : (addS nm t M).2.room = M.room := by
 unfold addS; split; exact chg_room M _; rfl
theorem room_sizes {M : RS} (h : M.ok) (hr : M.room ≤ 1000000) : ∀ y ∈ M.L, y.bytes.length ≤ 1000000 := fun y hy => by
 have h1 := bytes_mem hy
 have h2 := h.fits
 omega
def OpPost (n₀ : Nat) (w : World) (b : Nat) (F : List Nat) (nm : ByteArray) (most : Int) (M' : RS) (L : List (List (List UInt8))) (err : Int) (e : Ending) (y : World) : Prop :=
 ∃ jv v F', e = .returned (.tuple #[jv, v, .int .i64 err]) ∧ ProgAt n₀ y b M' F' ∧ Keep F w y ∧ (∀ k ∈ F', k ∈ F ∨ w.heap.size ≤ k) ∧ OwnQ w y F' v L ∧
  (err = 0 → ∃ jb, jv = .pointer (some ⟨jb, 0, none⟩) ∧ JAt y jb b nm most ∧ Qb w y F' jb) ∧ (err ≠ 0 → jv = .pointer none)
theorem open_new {p : List UInt8} {M : RS} (hM : M.ok) (h0 : segsL p M.L = []) (ht : (jturn p M).1 = 0) : segsL p (jturn p M).2.L = [1] ∧ (jturn p M).2.gone = false ∧ readSegs p [1] (jturn p M).2 = (0, [], (jturn p M).2) := by
 have hl : lastN p M.L = 0 := last_zero.2 h0
 obtain ⟨h1, -, h3, h4, -⟩ := (jturn_segs hM (by omega)).1 ht
 rw [hl, h0] at h1
 rw [hl] at h4
 refine ⟨h1, h3, ?_⟩
 have hb : bytesOf (fileN p 1) (jturn p M).2 = [] := bytesOf_get h4
 simp only [readSegs, hb, read_nil]
 simp
set_option maxHeartbeats 4000000 in
theorem open_rest (n₀ : Nat) (w x : World) (b : Nat) (M : RS) (F F0 : List Nat) (jb : Nat) (nm : ByteArray) (most : Int) (h : JS n₀ x b M F jb nm most) (hg : M.gone = false) (hnm : nm.size ≤ 100) (hr : M.room ≤ 1000000) :
  Calls Tryz.prog 96 #[.pointer (some ⟨jb, 0, none⟩)] x fun e y => ∃ p cap, e = .returned (.slice p (segsL nm.data.toList M.L).length cap) ∧ StrsAt y p ((segsL nm.data.toList M.L).map (fileN nm.data.toList)) ∧ Bel x y := by
 refine (jnames_any n₀ x jb b nm most M F h.prog h.ok h.j hnm h.std0).mono ?_
 rintro e y ⟨v, rfl, ho, hb⟩
 obtain ⟨p, cap, rfl, hat⟩ := ownG_strs ho
 exact ⟨p, cap, by rw [List.length_map], hat, hb⟩
set_option maxHeartbeats 4000000 in
theorem open_any (n₀ : Nat) (w : World) (b : Nat) (M : RS) (F : List Nat) (nm : ByteArray) (most : Int) (h : ProgAt n₀ w b M F) (hM : M.ok) (hstd : ∀ z, Keep F w z → Std z) (hnm : nm.size ≤ 100) (hr : M.room ≤ 1000000) :
  Calls Tryz.prog 58 #[.pointer (some ⟨b, 0, none⟩), .string nm, .int .i64 most] w (OpPost n₀ w b F nm most (jopen nm.data.toList M).2.2 (jopen nm.data.toList M).2.1 (jopen nm.data.toList M).1) := by
 have HP := Lib.hid h
 have HM := Lib.hid hM
 have HS := Lib.hid hstd
 have HFL := Lib.hid (prog_lt h)
 have HR := Lib.hid hr
 clear h hM hstd hr
 cases hN : nameJ nm.data.toList with
 | false =>
  have HO := Lib.hid (show jopen nm.data.toList M = (3, [], M) by unfold jopen; rw [if_pos hN])
  have HNJ := Lib.hid hN; clear hN
  go_enter Tryz.func58, Tryz.ntmps58
  go_wp2_with (fail)
  refine (jisname_any nm w (by unfold maxLen; omega)).mono ?_
  rintro e w1 ⟨rfl, hd1⟩
  rw [HNJ.out]
  have HB1 := Lib.hid hd1.bel; clear hd1
  go_wp2_with (fail)
  go_ret3
  rw [HO.out]
  exact ⟨_, _, F, rfl, HP.out.bel HB1.out, Keep.of_bel HB1.out F, fun k hk => Or.inl hk, OwnQ.nil _ _ _, (fun hc => absurd hc (by simp)), (fun _ => rfl)⟩
 | true =>
  have HNJ := Lib.hid hN
  cases hg : M.gone with
  | true =>
   have HO := Lib.hid (show jopen nm.data.toList M = (7, [], M) by unfold jopen; rw [if_neg (by rw [hN]; simp), if_pos hg])
   clear hN
   go_enter Tryz.func58, Tryz.ntmps58
   go_wp2_with (fail)
   refine (jisname_any nm w (by unfold maxLen; omega)).mono ?_
   rintro e w1 ⟨rfl, hd1⟩
   rw [HNJ.out]
   have HB1 := Lib.hid hd1.bel; clear hd1
   go_wp2_with (fail)
   refine (dead_any n₀ _ b M F (HP.out.bel HB1.out)).mono ?_
   rintro e w2 ⟨rfl, hd2⟩
   rw [hg]
   have HB2 := Lib.hid (HB1.out.trans hd2.bel); clear hd2
   go_wp2_with (fail)
   go_ret3
   rw [HO.out]
   exact ⟨_, _, F, rfl, HP.out.bel HB2.out, Keep.of_bel HB2.out F, fun k hk => Or.inl hk, OwnQ.nil _ _ _, (fun hc => absurd hc (by simp)), (fun _ => rfl)⟩
  | false =>
   have HO := Lib.hid (show jopen nm.data.toList M = if segsL nm.data.toList M.L = [] then ((jturn nm.data.toList M).1, [], (jturn nm.data.toList M).2) else readSegs nm.data.toList (segsL nm.data.toList M.L) M by
    unfold jopen; rw [if_neg (by rw [hN]; simp), if_neg (by rw [hg]; simp)])
   clear hN
   have HG := Lib.hid hg; clear hg
   go_enter Tryz.func58, Tryz.ntmps58
   go_wp2_with (fail)
   refine (jisname_any nm w (by unfold maxLen; omega)).mono ?_
   rintro e w1 ⟨rfl, hd1⟩
   rw [HNJ.out]
   have HB1 := Lib.hid hd1.bel; clear hd1
   go_wp2_with (fail)
   refine (dead_any n₀ _ b M F (HP.out.bel HB1.out)).mono ?_
   rintro e w2 ⟨rfl, hd2⟩
   rw [HG.out]
   have HB2 := Lib.hid (HB1.out.trans hd2.bel); clear hd2
   go_wp2_with (fail)
   obtain ⟨jb, hjb⟩ : ∃ jb, jb = w2.heap.size := ⟨_, rfl⟩
   have HJB := Lib.hid hjb
   obtain ⟨x0, hx0⟩ : ∃ x0, x0 = w2.alloc (.cells #[.pointer (some ⟨b, 0, none⟩), .string nm, .int .i64 most] 153) := ⟨_, rfl⟩
   have HBX := Lib.hid (show Bel w x0 by rw [hx0]; exact HB2.out.alloc _)
   have HX := Lib.hid (show JS n₀ x0 b M F jb nm most from
    ⟨HP.out.bel HBX.out, HM.out, by rw [hjb, hx0]; exact ⟨by go_simp, by go_simp, by go_simp⟩, fun hm => by have h1 := HFL.out jb hm; have h2 := HB2.out.size; omega, fun z hz => HS.out z ((Keep.of_bel HBX.out F).trans hz (fun k hk => Or.inl hk))⟩)
   have HJW := Lib.hid (show w.heap.size ≤ jb by rw [hjb]; exact HB2.out.size)
   rw [← hjb, ← hx0]
   clear hx0 hjb HJB
   refine (num_any n₀ x0 jb b nm most M F HX.out.prog HX.out.ok HX.out.j hnm HX.out.std0).mono ?_
   rintro e x4 ⟨rfl, hb4⟩
   have HX4 := Lib.hid (HX.out.bel hb4)
   have HB4 := Lib.hid (HBX.out.trans hb4)
   clear hb4
   by_cases hs0 : segsL nm.data.toList M.L = []
   ·have hl0 : lastN nm.data.toList M.L = 0 := last_zero.2 hs0
    rw [if_pos hs0] at HO
    rw [hl0]
    go_wp2_with (fail)
    refine (jturn_any n₀ x4 b M F jb nm most HX4.out hnm (by rw [hl0]; omega)).mono ?_
    rintro e x5 ⟨rfl, hT⟩
    obtain ⟨rt, M1, ht⟩ : ∃ rt M1, jturn nm.data.toList M = (rt, M1) := ⟨_, _, rfl⟩
    have HON := Lib.hid (open_new HM.out hs0)
    have HM1 := Lib.hid (show M1.ok by have := jturn_ok HM.out nm.data.toList; rwa [ht] at this)
    have HR1 := Lib.hid (show M1.room ≤ 1000000 by have := add_room M (fileN nm.data.toList (lastN nm.data.toList M.L + 1)) []; rw [show addS (fileN nm.data.toList (lastN nm.data.toList M.L + 1)) [] M = (rt, M1) from ht] at this; simp only at this; rw [this]; exact HR.out)
    rw [ht] at hT HON HO ⊢
    clear ht
    obtain ⟨F5, hX5, hK5, hF5⟩ := HX4.out.step hT HM1.out
    have HX5 := Lib.hid hX5
    have HK5 := Lib.hid (show Keep F w x5 from (Keep.of_bel HB4.out F).trans hK5 (fun k hk => Or.inl hk))
    have HF5 := Lib.hid (show ∀ k ∈ F5, k ∈ F ∨ w.heap.size ≤ k from fun k hk => (hF5 k hk).imp id (fun h => Nat.le_trans HB4.out.size h))
    clear hT hX5 hK5 hF5
    by_cases hrt : rt = 0
    ·subst hrt
     obtain ⟨hs1, hg1, hrd1⟩ := HON.out rfl
     have HG1 := Lib.hid hg1
     have HRD1 := Lib.hid (show readSegs nm.data.toList (segsL nm.data.toList M1.L) M1 = (0, [], M1) by rw [hs1]; exact hrd1)
     clear hs1 hg1 hrd1
     go_wp2_with (fail)
     refine (open_rest n₀ w _ b M1 F5 F5 jb nm most HX5.out HG1.out hnm HR1.out).mono ?_
     rintro e x1 ⟨sp, sc, rfl, hat, hbn⟩
     have HSA := Lib.hid hat
     have HY1 := Lib.hid (HX5.out.bel hbn)
     have HBN := Lib.hid hbn
     clear hat hbn
     have hsl := segs_len nm.data.toList M1.L
     have h60 := HX5.out.ok.len
     have hml : ((segsL nm.data.toList M1.L).map (fileN nm.data.toList)).length = (segsL nm.data.toList M1.L).length := List.length_map _
     have HSO := Lib.hid (segof_any x1 sp sc ((segsL nm.data.toList M1.L).map (fileN nm.data.toList)) HSA.out (by omega))
     rw [hml] at HSO
     have HRS := Lib.hid (fun (z : World) (sv : Value) (hp : ProgAt n₀ z b M1 F5) (hs : OwnG segEl 0 z sv (segF ((segsL nm.data.toList M1.L).map (fileN nm.data.toList)))) (hq : ∀ k, sv.ownBlock = some k → k < z.heap.size ∧ k ∉ F5) =>
      readall_any n₀ z b M1 F5 nm.data.toList (segsL nm.data.toList M1.L) sv hp HX5.out.ok HG1.out hnm (fun n hn => ⟨(mem_segs_file.1 hn).2.1, Option.isSome_iff_exists.1 ((mem_segs_get HX5.out.ok.srt).1 hn).2.2⟩) (by omega) (room_sizes HX5.out.ok HR1.out) hs hq)
     obtain ⟨er, LL, MF, hread⟩ : ∃ er LL MF, readSegs nm.data.toList (segsL nm.data.toList M1.L) M1 = (er, LL, MF) := ⟨_, _, _, rfl⟩
     rw [hread] at HRS
     have HRD := Lib.hid hread
     clear hread hml
     go_wp2_with (fail)
     refine HSO.out.mono ?_
     rintro e x2 ⟨sv, rfl, hso, hbs⟩
     have HY2 := Lib.hid (HY1.out.bel hbs)
     have HSV := Lib.hid (hso.low (Nat.zero_le _))
     have HSQ := Lib.hid (show ∀ k, sv.ownBlock = some k → k < x2.heap.size ∧ k ∉ F5 from fun k hk => ⟨(hso.lt k hk).2, fun hm => by
      have h1 := (hso.lt k hk).1
      have h2 := prog_lt HY1.out.prog k hm
      omega⟩)
     have HB12 := Lib.hid (HBN.out.trans hbs)
     clear hso hbs
     go_wp2_with (fail)
     refine (HRS.out x2 sv HY2.out.prog HSV.out HSQ.out).mono ?_
     rintro e x3 ⟨v, F3, rfl, hp3, hk3, hf3, hq3⟩
     have HP3 := Lib.hid hp3
     have HK3 := Lib.hid (show Keep F w x3 from (HK5.out.then HB12.out).trans hk3 (fun k hk => HF5.out k hk))
     have HF3 := Lib.hid (show ∀ k ∈ F3, k ∈ F ∨ w.heap.size ≤ k from fun k hk => by
      rcases hf3 k hk with h | h
      ·exact HF5.out k h
      ·exact Or.inr (Nat.le_trans (HK5.out.then HB12.out).size h))
     have HQ3 := Lib.hid (hq3.lower (w' := w) (HK5.out.then HB12.out).size)
     have HJ3 := Lib.hid (HY2.out.j.keep (hk3.block jb HY2.out.j.lt HY2.out.out))
     have HJQ := Lib.hid (show Qb w x3 F3 jb from ⟨HJW.out, Nat.lt_of_lt_of_le HY2.out.j.lt hk3.size, fun hm => by
      rcases hf3 jb hm with h | h
      ·exact HY2.out.out h
      ·have := HY2.out.j.lt; omega⟩)
     clear hp3 hk3 hf3 hq3
     by_cases her : er = 0
     ·subst her
      have HE := Lib.hid (show jopen nm.data.toList M = (0, LL, MF) by rw [HO.out]; exact HRD1.out.symm.trans HRD.out)
      go_wp2_with (fail)
      go_ret3
      rw [HE.out]
      exact ⟨_, _, F3, rfl, HP3.out, HK3.out, HF3.out, HQ3.out, (fun _ => ⟨jb, rfl, HJ3.out, HJQ.out⟩), (fun hc => absurd rfl hc)⟩
     ·have HE := Lib.hid (show jopen nm.data.toList M = (er, [], MF) by
       have hl : LL = [] := by
        have := read_err nm.data.toList (segsL nm.data.toList M1.L) M1 (by rw [HRD.out]; exact her)
        rwa [HRD.out] at this
       rw [HO.out, ← hl]; exact absurd (congrArg Prod.fst (HRD.out.symm.trans HRD1.out)) her)
      have hx3 : (er != 0) = true := by rw [bne_iff_ne]; exact her
      have hx2 : (er == 0) = false := by rw [beq_eq_false_iff_ne]; exact her
      go_wp2_with (fail)
      go_ret3
      rw [HE.out]
      exact ⟨_, _, F3, rfl, HP3.out, HK3.out, HF3.out, OwnQ.nil _ _ _, (fun hc => absurd hc her), (fun _ => rfl)⟩
    ·have hx3 : (rt != 0) = true := by rw [bne_iff_ne]; exact hrt
     have hx2 : (rt == 0) = false := by rw [beq_eq_false_iff_ne]; exact hrt
     go_wp2_with (fail)
     go_ret3
     rw [HO.out]
     exact ⟨_, _, F5, rfl, HX5.out.prog, HK5.out, HF5.out, OwnQ.nil _ _ _, (fun hc => absurd hc hrt), (fun _ => rfl)⟩
   ·rw [if_neg hs0] at HO
    have hne0 : ((lastN nm.data.toList M.L : Nat) : Int) ≠ 0 := fun e => hs0 (last_zero.1 (by omega))
    have HK4 := Lib.hid (Keep.of_bel HB4.out F)
    have HF4 := Lib.hid (show ∀ k ∈ F, k ∈ F ∨ w.heap.size ≤ k from fun k hk => Or.inl hk)
    generalize lastN nm.data.toList M.L = ln at *
    have hne1 : ((ln : Int) == 0) = false := by rw [beq_eq_false_iff_ne]; exact hne0
    clear hne0
    go_wp2_with (fail)
    refine (open_rest n₀ w _ b M F F jb nm most HX4.out HG.out hnm HR.out).mono ?_
    rintro e x1 ⟨sp, sc, rfl, hat, hbn⟩
    have HSA := Lib.hid hat
    have HY1 := Lib.hid (HX4.out.bel hbn)
    have HBN := Lib.hid hbn
    clear hat hbn
    have hsl := segs_len nm.data.toList M.L
    have h60 := HX4.out.ok.len
    have hml : ((segsL nm.data.toList M.L).map (fileN nm.data.toList)).length = (segsL nm.data.toList M.L).length := List.length_map _
    have HSO := Lib.hid (segof_any x1 sp sc ((segsL nm.data.toList M.L).map (fileN nm.data.toList)) HSA.out (by omega))
    rw [hml] at HSO
    have HRS := Lib.hid (fun (z : World) (sv : Value) (hp : ProgAt n₀ z b M F) (hs : OwnG segEl 0 z sv (segF ((segsL nm.data.toList M.L).map (fileN nm.data.toList)))) (hq : ∀ k, sv.ownBlock = some k → k < z.heap.size ∧ k ∉ F) =>
     readall_any n₀ z b M F nm.data.toList (segsL nm.data.toList M.L) sv hp HX4.out.ok HG.out hnm (fun n hn => ⟨(mem_segs_file.1 hn).2.1, Option.isSome_iff_exists.1 ((mem_segs_get HX4.out.ok.srt).1 hn).2.2⟩) (by omega) (room_sizes HX4.out.ok HR.out) hs hq)
    obtain ⟨er, LL, MF, hread⟩ : ∃ er LL MF, readSegs nm.data.toList (segsL nm.data.toList M.L) M = (er, LL, MF) := ⟨_, _, _, rfl⟩
    rw [hread] at HRS
    have HRD := Lib.hid hread
    clear hread hml
    go_wp2_with (fail)
    refine HSO.out.mono ?_
    rintro e x2 ⟨sv, rfl, hso, hbs⟩
    have HY2 := Lib.hid (HY1.out.bel hbs)
    have HSV := Lib.hid (hso.low (Nat.zero_le _))
    have HSQ := Lib.hid (show ∀ k, sv.ownBlock = some k → k < x2.heap.size ∧ k ∉ F from fun k hk => ⟨(hso.lt k hk).2, fun hm => by
     have h1 := (hso.lt k hk).1
     have h2 := prog_lt HY1.out.prog k hm
     omega⟩)
    have HB12 := Lib.hid (HBN.out.trans hbs)
    clear hso hbs
    go_wp2_with (fail)
    refine (HRS.out x2 sv HY2.out.prog HSV.out HSQ.out).mono ?_
    rintro e x3 ⟨v, F3, rfl, hp3, hk3, hf3, hq3⟩
    have HP3 := Lib.hid hp3
    have HK3 := Lib.hid (show Keep F w x3 from (HK4.out.then HB12.out).trans hk3 (fun k hk => HF4.out k hk))
    have HF3 := Lib.hid (show ∀ k ∈ F3, k ∈ F ∨ w.heap.size ≤ k from fun k hk => by
     rcases hf3 k hk with h | h
     ·exact HF4.out k h
     ·exact Or.inr (Nat.le_trans (HK4.out.then HB12.out).size h))
    have HQ3 := Lib.hid (hq3.lower (w' := w) (HK4.out.then HB12.out).size)
    have HJ3 := Lib.hid (HY2.out.j.keep (hk3.block jb HY2.out.j.lt HY2.out.out))
    have HJQ := Lib.hid (show Qb w x3 F3 jb from ⟨HJW.out, Nat.lt_of_lt_of_le HY2.out.j.lt hk3.size, fun hm => by
     rcases hf3 jb hm with h | h
     ·exact HY2.out.out h
     ·have := HY2.out.j.lt; omega⟩)
    clear hp3 hk3 hf3 hq3
    by_cases her : er = 0
    ·subst her
     have HE := Lib.hid (show jopen nm.data.toList M = (0, LL, MF) by rw [HO.out]; exact HRD.out)
     go_wp2_with (fail)
     go_ret3
     rw [HE.out]
     exact ⟨_, _, F3, rfl, HP3.out, HK3.out, HF3.out, HQ3.out, (fun _ => ⟨jb, rfl, HJ3.out, HJQ.out⟩), (fun hc => absurd rfl hc)⟩
    ·have HE := Lib.hid (show jopen nm.data.toList M = (er, [], MF) by
      have hl : LL = [] := by
       have := read_err nm.data.toList (segsL nm.data.toList M.L) M (by rw [HRD.out]; exact her)
       rwa [HRD.out] at this
      rw [HO.out, ← hl]; exact HRD.out)
     have hx3 : (er != 0) = true := by rw [bne_iff_ne]; exact her
     have hx2 : (er == 0) = false := by rw [beq_eq_false_iff_ne]; exact her
     go_wp2_with (fail)
     go_ret3
     rw [HE.out]
     exact ⟨_, _, F3, rfl, HP3.out, HK3.out, HF3.out, OwnQ.nil _ _ _, (fun hc => absurd hc her), (fun _ => rfl)⟩

def RopPost (n₀ : Nat) (w : World) (b : Nat) (F : List Nat) (nm : ByteArray) (most : Int) (M' : RS) (L : List (List (List UInt8))) (err : Int) (e : Ending) (y : World) : Prop :=
 ∃ jv v F', e = .returned (.tuple #[jv, v, .int .i64 err]) ∧ RefP n₀ y b M' F' ∧ Keep F w y ∧ (∀ k ∈ F', k ∈ F ∨ w.heap.size ≤ k) ∧ OwnQ w y F' v L ∧
  (err = 0 → ∃ jb, jv = .pointer (some ⟨jb, 0, none⟩) ∧ JAt y jb b nm most ∧ Qb w y F' jb) ∧ (err ≠ 0 → jv = .pointer none)
def ROpRel (n₀ : Nat) (w3 : World) (b : Nat) (F : List Nat) (jb : Nat) (nm : ByteArray) (most : Int) (l : List Nat) (lv : Value) (M : RS) (ov iv : Value) (x : World) : Prop :=
 ∃ (k : Nat) (acc : List (List (List UInt8))) (Mk : RS) (Fk : List Nat), iv = .int .i64 k ∧ k ≤ l.length ∧ RJS n₀ x b Mk Fk jb nm most ∧ Keep F w3 x ∧ (∀ j ∈ Fk, j ∈ F ∨ w3.heap.size ≤ j) ∧ OwnQ w3 x Fk ov acc ∧ LeftS nm.data.toList l M k acc Mk ∧ acc.length ≤ 1000000 * k ∧
  OwnG intEl 0 x lv (l.map fun n : Nat => (n : Int))
theorem mended_of {nm s : List UInt8} {M : RS} {L : List (List (List UInt8))} {k : Nat} {e rc : Int} {Mc : RS} (hR : readL s = (L, k, e)) (he : e ≠ 0) (hc : cutS nm (k : Nat) M = (rc, Mc)) :
  mendedS nm s M = if rc ≠ 0 then ([], rc, Mc) else if (flushS nm Mc).1 = 0 then (L, 0, (flushS nm Mc).2) else ([], (flushS nm Mc).1, (flushS nm Mc).2) := by
 unfold mendedS mendS
 rw [hR]
 simp only
 rw [if_neg he, hc]
 by_cases hrc : rc = 0
 ·subst hrc; simp
 ·simp [hrc]
set_option maxHeartbeats 8000000 in
set_option maxRecDepth 20000 in
theorem ropen_any (n₀ : Nat) (w : World) (b : Nat) (M : RS) (F : List Nat) (nm : ByteArray) (most : Int) (h : RefP n₀ w b M F) (hM : M.ok) (hnm : nm.size ≤ 100) (hr : M.room ≤ 1000000) :
  Calls Tryz.prog 68 #[.pointer (some ⟨b, 0, none⟩), .string nm, .int .i64 most] w (RopPost n₀ w b F nm most (jopen nm.data.toList M).2.2 (jopen nm.data.toList M).2.1 (jopen nm.data.toList M).1) := by
 have HP := Lib.hid h
 have HM := Lib.hid hM
 have HFL := Lib.hid (ref_lt h)
 have HR := Lib.hid hr
 have HRA := Lib.hid h
 have hpl : nm.data.toList.length = nm.size := rfl
 clear h hM hr
 cases hN : nameJ nm.data.toList with
 | false =>
  have HO := Lib.hid (show jopen nm.data.toList M = (3, [], M) by unfold jopen; rw [if_pos hN])
  have HNJ := Lib.hid hN; clear hN
  go_enter Tryz.func68, Tryz.ntmps68
  go_wp2_with (fail)
  refine (jnamed_any nm w (by unfold maxLen; omega)).mono ?_
  rintro e w1 ⟨rfl, hd1⟩
  rw [HNJ.out]
  have HB1 := Lib.hid hd1.bel; clear hd1
  go_wp2_with (fail)
  go_ret3
  rw [HO.out]
  exact ⟨_, _, F, rfl, HP.out.bel HB1.out, Keep.of_bel HB1.out F, fun k hk => Or.inl hk, OwnQ.nil _ _ _, (fun hc => absurd hc (by simp)), (fun _ => rfl)⟩
 | true =>
  have HNJ := Lib.hid hN
  have HC3 := Lib.hid (show ∀ x, Bel w x → x.cell? ⟨b, 3, none⟩ = some (.bool M.gone) from fun x hx => by
   obtain ⟨v, hra, -, -, -⟩ := HP.out.bel hx
   exact hra.cells.2.2.2)
  cases hg : M.gone with
  | true =>
   rw [hg] at HC3
   have HO := Lib.hid (show jopen nm.data.toList M = (7, [], M) by unfold jopen; rw [if_neg (by rw [hN]; simp), if_pos hg])
   clear hN
   go_enter Tryz.func68, Tryz.ntmps68
   go_wp2_with (fail)
   refine (jnamed_any nm w (by unfold maxLen; omega)).mono ?_
   rintro e w1 ⟨rfl, hd1⟩
   rw [HNJ.out]
   have HB1 := Lib.hid hd1.bel; clear hd1
   have c3 := HC3.out _ HB1.out
   go_wp2_with (fail)
   go_ret3
   rw [HO.out]
   exact ⟨_, _, F, rfl, HP.out.bel HB1.out, Keep.of_bel HB1.out F, fun k hk => Or.inl hk, OwnQ.nil _ _ _, (fun hc => absurd hc (by simp)), (fun _ => rfl)⟩
  | false =>
   rw [hg] at HC3
   have HO := Lib.hid (show jopen nm.data.toList M = if segsL nm.data.toList M.L = [] then ((jturn nm.data.toList M).1, [], (jturn nm.data.toList M).2) else readSegs nm.data.toList (segsL nm.data.toList M.L) M by
    unfold jopen; rw [if_neg (by rw [hN]; simp), if_neg (by rw [hg]; simp)])
   clear hN
   have HG := Lib.hid hg; clear hg
   have hsl := segs_len nm.data.toList M.L
   have h60 := HM.out.len
   go_enter Tryz.func68, Tryz.ntmps68
   go_wp2_with (fail)
   refine (jnamed_any nm w (by unfold maxLen; omega)).mono ?_
   rintro e w1 ⟨rfl, hd1⟩
   rw [HNJ.out]
   have HB1 := Lib.hid hd1.bel; clear hd1
   have c3 := HC3.out _ HB1.out
   go_wp2_with (fail)
   obtain ⟨jb, hjb⟩ : ∃ jb, jb = w1.heap.size := ⟨_, rfl⟩
   obtain ⟨x0, hx0⟩ : ∃ x0, x0 = w1.alloc (.cells #[.pointer (some ⟨b, 0, none⟩), .string nm, .int .i64 most] 169) := ⟨_, rfl⟩
   have HBX := Lib.hid (show Bel w x0 by rw [hx0]; exact HB1.out.alloc _)
   have HX := Lib.hid (show RJS n₀ x0 b M F jb nm most from
    ⟨HP.out.bel HBX.out, HM.out, by rw [hjb, hx0]; exact ⟨by go_simp, by go_simp, by go_simp⟩, fun hm => by have h1 := HFL.out jb hm; have h2 := HB1.out.size; omega⟩)
   have HJW := Lib.hid (show w.heap.size ≤ jb by rw [hjb]; exact HB1.out.size)
   rw [← hjb, ← hx0]
   clear hx0 hjb c3
   refine (rsegs_any n₀ x0 jb b nm most M F HX.out.ref HX.out.ok HX.out.j hnm).mono ?_
   rintro e w3 ⟨lv, rfl, hown, hb3⟩
   have HX3 := Lib.hid (HX.out.bel hb3)
   have HB3 := Lib.hid (HBX.out.trans hb3)
   have HJL := Lib.hid (show jb < w3.heap.size from HX3.out.j.lt)
   obtain ⟨l, hl⟩ : ∃ l, l = segsL nm.data.toList M.L := ⟨_, rfl⟩
   have HSG := Lib.hid hl
   rw [← hl] at hown hsl HO
   have HLV := Lib.hid (hown.low (Nat.zero_le _))
   have HVB := Lib.hid hown.lt
   have HXS := Lib.hid hb3.size
   have HXF := Lib.hid (ref_lt HX.out.ref)
   obtain ⟨sp, sc, hv⟩ := ownG_len hown
   rw [toZ_len] at hv
   subst hv
   clear hown hb3
   by_cases hs0 : l = []
   ·have hll : l.length = 0 := by rw [hs0]; rfl
    have HJT := Lib.hid (show jturn nm.data.toList M = addS (fileN nm.data.toList 1) [] M by unfold jturn; rw [last_zero.2 (by rw [← hl]; exact hs0)])
    rw [if_pos hs0, HJT.out] at HO
    have hfl := file_len nm.data.toList (n := 1) (by omega)
    have hfz := str_len (fileN nm.data.toList 1)
    obtain ⟨rt, M1, ht⟩ : ∃ rt M1, addS (fileN nm.data.toList 1) [] M = (rt, M1) := ⟨_, _, rfl⟩
    have HT := Lib.hid ht
    have HM1 := Lib.hid (show M1.ok by have := add_ok HM.out (fileN nm.data.toList 1) []; rwa [ht] at this)
    rw [ht] at HO
    clear ht hl hs0
    go_wp2_with (fail)
    refine (rj_fileC HX3.out hnm 1 (by omega)).mono ?_
    rintro e w4 ⟨rfl, hb4⟩
    have HX4 := Lib.hid (HX3.out.bel hb4)
    have HB4 := Lib.hid (HB3.out.trans hb4)
    clear hb4
    go_wp2_with (fail)
    refine (radd_any n₀ w4 b M F (⟨(fileN nm.data.toList 1).toArray⟩ : ByteArray) ⟨#[]⟩ (by omega) (by decide) HX4.out.ref HX4.out.ok).mono ?_
    rintro e w5 ⟨rfl, hT⟩
    rw [str_list, show (⟨#[]⟩ : ByteArray).data.toList = [] from rfl, HT.out] at hT ⊢
    obtain ⟨F5, hX5, hK5, hF5⟩ := HX4.out.step hT HM1.out
    have HX5 := Lib.hid hX5
    have HK5 := Lib.hid (show Keep F w w5 from (Keep.of_bel HB4.out F).trans hK5 (fun k hk => Or.inl hk))
    have HF5 := Lib.hid (show ∀ k ∈ F5, k ∈ F ∨ w.heap.size ≤ k from fun k hk => (hF5 k hk).imp id (fun h => Nat.le_trans HB4.out.size h))
    clear hT hX5 hK5 hF5
    by_cases hrt : rt = 0
    ·subst hrt
     go_wp2_with (fail)
     go_ret3
     rw [HO.out]
     exact ⟨_, _, F5, rfl, HX5.out.ref, HK5.out, HF5.out, OwnQ.nil _ _ _, (fun _ => ⟨jb, rfl, HX5.out.j, ⟨HJW.out, HX5.out.j.lt, HX5.out.out⟩⟩), (fun hc => absurd rfl hc)⟩
    ·have hx3 : (rt != 0) = true := by rw [bne_iff_ne]; exact hrt
     have hx2 : (rt == 0) = false := by rw [beq_eq_false_iff_ne]; exact hrt
     go_wp2_with (fail)
     go_ret3
     rw [HO.out]
     exact ⟨_, _, F5, rfl, HX5.out.ref, HK5.out, HF5.out, OwnQ.nil _ _ _, (fun hc => absurd hc hrt), (fun _ => rfl)⟩
   ·have hlp : l.length ≠ 0 := fun e => hs0 (List.length_eq_zero_iff.1 e)
    have hz : ((l.length : Int) == 0) = false := by rw [beq_eq_false_iff_ne]; omega
    rw [if_neg hs0] at HO
    have HL := Lib.hid (show ∀ n ∈ l, n ≤ 9999999 ∧ ∃ y, getF (fileN nm.data.toList n) M.L = some y from fun n hn => by
     rw [hl] at hn
     exact ⟨(mem_segs_file.1 hn).2.1, Option.isSome_iff_exists.1 ((mem_segs_get HM.out.srt).1 hn).2.2⟩)
    have HSZ := Lib.hid (room_sizes HM.out HR.out)
    clear hl hs0 HSG
    go_wp2_with (fail)
    go_loopw [13, 14] (fun ov iv x => ROpRel n₀ w3 b F jb nm most l (.slice sp l.length sc) M ov iv x) (fun _ iv _ => l.length - (intOf iv).toNat)
    case atStart => exact ⟨0, [], M, F, rfl, Nat.zero_le _, HX3.out, Keep.refl _ _, fun j hj => Or.inl hj, OwnQ.nil _ _ _, left_start _ _ _, by simp, HLV.out⟩
    case round =>
     obtain ⟨k, acc, Mk, Fk, rfl, hk, hxk, hkeep, hfk, hoq, hleft, hal, hlv⟩ := hrel
     have HXK := Lib.hid hxk
     have HK := Lib.hid hkeep
     have HFK := Lib.hid hfk
     have HOQ := Lib.hid hoq
     have HLF := Lib.hid hleft
     have HLK := Lib.hid hlv
     obtain ⟨op, oc, hov⟩ := hoq.own.len
     subst hov
     clear hxk hkeep hfk hoq hleft hlv
     by_cases hlt : k < l.length
     ·obtain rfl : Mk = M := HLF.out.1 hlt
      have HGS := Lib.hid (show ∃ g, sp = some ⟨g, 0, none⟩ ∧ g < w3.heap.size ∧ g ∉ F from by
       obtain ⟨g, cap, hv, hcap, _, e0⟩ := int_at HLK.out k hlt
       simp only [Value.slice.injEq] at hv
       obtain ⟨rfl, -, -⟩ := hv
       have h1 := HVB.out g rfl
       exact ⟨g, rfl, h1.2, fun hm => by have h2 := HXF.out g hm; have := h1.1; omega⟩)
      obtain ⟨g, hsp, hgw, hgF⟩ := HGS.out
      subst hsp
      have hgk : g ∉ Fk := fun hm => by
       rcases HFK.out g hm with h | h
       ·exact hgF h
       ·omega
      obtain ⟨g', cap', hv, hcap, _, e0⟩ := int_at HLK.out k hlt
      simp only [Value.slice.injEq, true_and, Option.some.injEq, Addr.mk.injEq, and_true] at hv
      obtain ⟨rfl, rfl⟩ := hv
      obtain ⟨hn9, y, hy⟩ := HL.out l[k] (List.getElem_mem hlt)
      have hyb := HSZ.out y (getF_mem hy)
      have HBY := Lib.hid (bytesOf_get hy)
      have HGT := Lib.hid (show getS (fileN nm.data.toList l[k]) Mk = (y.bytes, 0) by unfold getS; rw [HG.out, hy]; rfl)
      have HWN := Lib.hid (fun L2 (hw : wholeS (bytesOf (fileN nm.data.toList l[k]) Mk) = (L2, 0)) => left_next HLF.out hlt hw)
      have HWF := Lib.hid (fun (hne : k + 1 ≠ l.length) (L2 : List (List (List UInt8))) (e : Int) (he : e ≠ 0) (hw : wholeS (bytesOf (fileN nm.data.toList l[k]) Mk) = (L2, e)) => left_fail HLF.out hlt hne he hw)
      have HWL := Lib.hid (fun (hl : k + 1 = l.length) (L2 : List (List (List UInt8))) (e : Int) (M2 : RS) (hw : mendedS (fileN nm.data.toList l[k]) (bytesOf (fileN nm.data.toList l[k]) Mk) Mk = (L2, e, M2)) => left_last HLF.out hlt hl hw)
      rw [HBY.out] at HWN HWF HWL
      have hfl := file_len nm.data.toList (n := l[k]) (by omega)
      have hfz := str_len (fileN nm.data.toList l[k])
      obtain ⟨n, hn⟩ : ∃ n, n = l[k] := ⟨_, rfl⟩
      rw [← hn] at e0 hn9 HGT HWL hfl hfz
      have HLN0 := Lib.hid hn
      clear hn hy HBY
      have hyz := str_len y.bytes
      obtain ⟨L2, N2, e2, hR⟩ : ∃ L2 N2 e2, readL y.bytes = (L2, N2, e2) := ⟨_, _, _, rfl⟩
      have HRD := Lib.hid hR
      have hrs := read_size y.bytes.length y.bytes (Nat.le_refl _)
      rw [hR] at hrs
      simp only at hrs
      obtain ⟨hrs1, hrs2, -, -⟩ := hrs
      clear hR
      go_wp2_with (fail)
      refine (rj_fileC HXK.out hnm n (by omega)).mono ?_
      rintro e z1 ⟨rfl, hb1⟩
      have HC1 := Lib.hid hb1
      have HY1 := Lib.hid (HXK.out.bel hb1)
      have e1 := cell_later hb1 e0
      clear hb1 e0
      go_wp2_with (fail)
      refine (rget_ref HY1.out.ref HM.out (⟨(fileN nm.data.toList n).toArray⟩ : ByteArray)).mono ?_
      rintro e z2 ⟨rfl, hb2⟩
      rw [str_list, HGT.out]
      have HC2 := Lib.hid (HC1.out.trans hb2)
      clear hb2 e1
      go_wp2_with (fail)
      refine (rread_any (⟨y.bytes.toArray⟩ : ByteArray) z2 (by omega)).mono ?_
      rintro e z3 ⟨bv, rfl, hbo, hb3⟩
      rw [str_list, HRD.out] at hbo ⊢
      have HC3 := Lib.hid (HC2.out.trans hb3)
      have HKZ := Lib.hid (show w3.heap.size ≤ z2.heap.size from Nat.le_trans HK.out.size HC2.out.size)
      have HBQ := Lib.hid ((OwnQ.of hbo (F := Fk) (fun j hj => Nat.lt_of_lt_of_le (ref_lt HXK.out.ref j hj) HC2.out.size)).lower HKZ.out)
      have HOQ3 := Lib.hid (HOQ.out.bel HC3.out)
      have HXZ := Lib.hid (HXK.out.bel HC3.out)
      have HKW := Lib.hid (show Keep F w3 z3 from HK.out.then HC3.out)
      have HLZ := Lib.hid (HLK.out.bel HC3.out)
      clear hbo hb3
      go_wp2_with (at_builtin; refine stop_here ?_)
      refine go_on ?_
      refine ownq_append rfl _ _ rfl rfl rfl HOQ3.out HBQ.out (by omega) (ref_lt HXZ.out.ref) HKW.out.size ?_
      intro v3 z4 hq3 hk3
      obtain ⟨p3, c3, hv3⟩ := hq3.own.len
      rw [List.length_append] at hv3
      subst hv3
      have HQ4 := Lib.hid hq3
      have HX4 := Lib.hid (show RJS n₀ z4 b Mk Fk jb nm most from ⟨HXZ.out.ref.keep hk3 (fun j hj hm => by
       rw [Option.mem_toList] at hm
       exact (HOQ3.out.blk j hm).2.2 hj), HM.out, HXZ.out.j.keep (hk3.block jb HXZ.out.j.lt (fun hm => by
       rw [Option.mem_toList] at hm
       have := (HOQ3.out.blk _ hm).1
       have := HJL.out; omega)), HXZ.out.out⟩)
      have HK4 := Lib.hid (HKW.out.trans hk3 (fun j hj => by
       rw [Option.mem_toList] at hj
       exact Or.inr (HOQ3.out.blk j hj).1))
      have HL4 := Lib.hid (HLZ.out.keep hk3 (fun j hj hm => by
       simp only [Value.ownBlock, Option.some.injEq] at hj; subst hj
       rw [Option.mem_toList] at hm
       have := (HOQ3.out.blk _ hm).1
       omega))
      clear hq3 hk3
      by_cases he : e2 = 0
      ·subst he
       have HLN := Lib.hid (HWN.out L2 (by unfold wholeS; rw [HRD.out]; rfl))
       clear hpl hfz hyz hfl hcap
       go_wp2_with (fail)
       go_roundw
       case rel => exact ⟨k + 1, acc ++ L2, Mk, Fk, by go_num, by omega, HX4.out, HK4.out, HFK.out, HQ4.out, HLN.out, by rw [List.length_append]; omega, HL4.out⟩
       case measure => simp [intOf]; omega
      ·have hx3 : (e2 != 0) = true := by rw [bne_iff_ne]; exact he
       have hx2 : (e2 == 0) = false := by rw [beq_eq_false_iff_ne]; exact he
       by_cases hlast : k + 1 = l.length
       ·have hq : (l.length : Int) - 1 ≤ (k : Int) := by omega
        obtain ⟨rc, Mc, hc⟩ : ∃ rc Mc, cutS (fileN nm.data.toList n) (N2 : Nat) Mk = (rc, Mc) := ⟨_, _, rfl⟩
        have HMO := Lib.hid (mended_of HRD.out he hc)
        have HCT := Lib.hid hc
        have HMC := Lib.hid (show Mc.ok by have := cut_ok HM.out (fileN nm.data.toList n) (N2 : Nat); rwa [hc] at this)
        clear hc
        obtain ⟨g', cap', hv, hcap, _, e4⟩ := int_at HL4.out k hlt
        simp only [Value.slice.injEq, true_and, Option.some.injEq, Addr.mk.injEq, and_true] at hv
        obtain ⟨rfl, rfl⟩ := hv
        rw [← HLN0.out] at e4
        go_wp2_with (fail)
        refine (rj_fileC HX4.out hnm n (by omega)).mono ?_
        rintro e z5 ⟨rfl, hb5⟩
        have HX5 := Lib.hid (HX4.out.bel hb5)
        have HK5 := Lib.hid (HK4.out.then hb5)
        have HL5 := Lib.hid (HL4.out.bel hb5)
        have HQ5 := Lib.hid (HQ4.out.bel hb5)
        clear hb5 e4
        go_wp2_with (fail)
        refine (rcut_any n₀ z5 b Mk Fk (⟨(fileN nm.data.toList n).toArray⟩ : ByteArray) (N2 : Int) (show in64 (N2 : Int) from ⟨by omega, by omega⟩) HX5.out.ref HM.out).mono ?_
        rintro e z6 ⟨rfl, hT⟩
        rw [str_list, HCT.out] at hT ⊢
        obtain ⟨F6, hX6, hK6, hF6⟩ := HX5.out.step hT HMC.out
        have HX6 := Lib.hid hX6
        have HQ6 := Lib.hid (HQ5.out.step hK6 hF6)
        have HL6 := Lib.hid (HL5.out.keep hK6 (fun j hj => by simp only [Value.ownBlock, Option.some.injEq] at hj; subst hj; exact hgk))
        have HK6 := Lib.hid (HK5.out.trans hK6 (fun j hj => HFK.out j hj))
        have HF6 := Lib.hid (show ∀ j ∈ F6, j ∈ F ∨ w3.heap.size ≤ j from fun j hj => by
         rcases hF6 j hj with h | h
         ·exact HFK.out j h
         ·exact Or.inr (Nat.le_trans HK5.out.size h))
        have hgk6 : g ∉ F6 := fun hm => by
         rcases HF6.out g hm with h | h
         ·exact hgF h
         ·omega
        clear hT hX6 hK6 hF6
        by_cases hrc : rc = 0
        ·subst hrc
         rw [if_neg (by simp)] at HMO
         obtain ⟨rf, Mf, hf⟩ : ∃ rf Mf, flushS (fileN nm.data.toList n) Mc = (rf, Mf) := ⟨_, _, rfl⟩
         have HFT := Lib.hid hf
         have HMF := Lib.hid (show Mf.ok by have := flush_ok HMC.out (fileN nm.data.toList n); rwa [hf] at this)
         rw [hf] at HMO
         clear hf
         obtain ⟨g', cap', hv, hcap, _, e6⟩ := int_at HL6.out k hlt
         simp only [Value.slice.injEq, true_and, Option.some.injEq, Addr.mk.injEq, and_true] at hv
         obtain ⟨rfl, rfl⟩ := hv
         rw [← HLN0.out] at e6
         go_wp2_with (fail)
         refine (rj_fileC HX6.out hnm n (by omega)).mono ?_
         rintro e z7 ⟨rfl, hb7⟩
         have HX7 := Lib.hid (HX6.out.bel hb7)
         have HK7 := Lib.hid (HK6.out.then hb7)
         have HL7 := Lib.hid (HL6.out.bel hb7)
         have HQ7 := Lib.hid (HQ6.out.bel hb7)
         clear hb7 e6
         go_wp2_with (fail)
         refine (rflush_any n₀ z7 b Mc F6 (⟨(fileN nm.data.toList n).toArray⟩ : ByteArray) HX7.out.ref HMC.out).mono ?_
         rintro e z8 ⟨rfl, hT⟩
         rw [str_list, HFT.out] at hT ⊢
         obtain ⟨F8, hX8, hK8, hF8⟩ := HX7.out.step hT HMF.out
         have HX8 := Lib.hid hX8
         have HQ8 := Lib.hid (HQ7.out.step hK8 hF8)
         have HL8 := Lib.hid (HL7.out.keep hK8 (fun j hj => by simp only [Value.ownBlock, Option.some.injEq] at hj; subst hj; exact hgk6))
         have HK8 := Lib.hid (HK7.out.trans hK8 (fun j hj => HF6.out j hj))
         have HF8 := Lib.hid (show ∀ j ∈ F8, j ∈ F ∨ w3.heap.size ≤ j from fun j hj => by
          rcases hF8 j hj with h | h
          ·exact HF6.out j h
          ·exact Or.inr (Nat.le_trans HK7.out.size h))
         clear hT hX8 hK8 hF8
         by_cases hrf : rf = 0
         ·subst hrf
          simp only [if_true] at HMO
          have HLL := Lib.hid ((HWL.out hlast L2 0 Mf HMO.out).1 rfl)
          have HLS := Lib.hid hlast
          clear hpl hfz hyz hfl hcap hlast
          go_wp2_with (fail)
          go_roundw
          case rel => exact ⟨k + 1, acc ++ L2, Mf, F8, by go_num, by omega, HX8.out, HK8.out, HF8.out, HQ8.out, HLL.out, by rw [List.length_append]; omega, HL8.out⟩
          case measure => simp [intOf]; omega
         ·rw [if_neg hrf] at HMO
          have HE := Lib.hid ((HWL.out hlast [] rf Mf HMO.out).2 hrf)
          have hx5 : (rf != 0) = true := by rw [bne_iff_ne]; exact hrf
          have hx6 : (rf == 0) = false := by rw [beq_eq_false_iff_ne]; exact hrf
          go_wp2_with (fail)
          go_ret3
          rw [HO.out, HE.out]
          exact ⟨_, _, F8, rfl, HX8.out.ref, (Keep.of_bel HB3.out F).trans HK8.out (fun x hx => Or.inl hx), fun j hj => (HF8.out j hj).imp id (fun h => Nat.le_trans HB3.out.size h), OwnQ.nil _ _ _, (fun hc => absurd hc hrf), (fun _ => rfl)⟩
        ·rw [if_pos hrc] at HMO
         have HE := Lib.hid ((HWL.out hlast [] rc Mc HMO.out).2 hrc)
         have hx5 : (rc != 0) = true := by rw [bne_iff_ne]; exact hrc
         have hx6 : (rc == 0) = false := by rw [beq_eq_false_iff_ne]; exact hrc
         go_wp2_with (fail)
         go_ret3
         rw [HO.out, HE.out]
         exact ⟨_, _, F6, rfl, HX6.out.ref, (Keep.of_bel HB3.out F).trans HK6.out (fun x hx => Or.inl hx), fun j hj => (HF6.out j hj).imp id (fun h => Nat.le_trans HB3.out.size h), OwnQ.nil _ _ _, (fun hc => absurd hc hrc), (fun _ => rfl)⟩
       ·have HE := Lib.hid (HWF.out hlast [] e2 he (by unfold wholeS; rw [HRD.out]; simp only; rw [if_neg he]))
        have hq : (k : Int) < (l.length : Int) - 1 := by omega
        go_wp2_with (fail)
        go_ret3
        rw [HO.out, HE.out]
        exact ⟨_, _, Fk, rfl, HX4.out.ref, (Keep.of_bel HB3.out F).trans HK4.out (fun x hx => Or.inl hx), fun j hj => (HFK.out j hj).imp id (fun h => Nat.le_trans HB3.out.size h), OwnQ.nil _ _ _, (fun hc => absurd hc he), (fun _ => rfl)⟩
     ·obtain rfl : k = l.length := by omega
      have HE := Lib.hid (left_end HLF.out)
      go_wp2_with (fail)
      go_ret3
      rw [HO.out, HE.out]
      exact ⟨_, _, Fk, rfl, HXK.out.ref, (Keep.of_bel HB3.out F).trans HK.out (fun x hx => Or.inl hx), fun j hj => (HFK.out j hj).imp id (fun h => Nat.le_trans HB3.out.size h), HOQ.out.lower HB3.out.size,
       (fun _ => ⟨jb, rfl, HXK.out.j, ⟨HJW.out, HXK.out.j.lt, HXK.out.out⟩⟩), (fun hc => absurd rfl hc)⟩

theorem last_there {p : List UInt8} {M : RS} (h : M.ok) {n : Nat} (hn : lastN p M.L = n) (h0 : n ≠ 0) : (getF (fileN p n) M.L).isSome = true := by
 have hmem : n ∈ segsL p M.L := by rw [← hn]; exact last_mem (fun e => h0 (by rw [← hn]; exact last_zero.2 e))
 exact ((mem_segs_get h.srt).1 hmem).2.2
end Go.Proofs.YtfbiinnenlgkfaaGreatDoor
