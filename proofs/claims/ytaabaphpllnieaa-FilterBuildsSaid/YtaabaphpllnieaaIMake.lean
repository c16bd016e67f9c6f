/- filter.May, filter.Build. -/
import Derived.Test.YtaabaphpllnieaaISet
set_option linter.unusedSimpArgs false
set_option linter.unusedVariables false
namespace Go.Proofs.Ytaabaphpllnieaa
open Go.RowKit Go.Deep

theorem run_enter9 {f : FuncId} {fn : Func} {c : Code} (hf : Try.prog.funcs[f]? = some fn) (hname : (fn.name == "runtime.NumGoroutine") = false) (hb : fn.body = some c) (args : Array Value) (w : World) : (callFunc f args).run Try.prog w = .ok (.enter f args) w := by
  have h1 : fn.name ≠ "runtime.NumGoroutine" := by simpa using hname
  simp [callFunc, hf, h1, hb]
theorem lacks_take (f : List UInt8) (L : List Nat) (k : Nat) (h : k < L.length) : (L.take (k + 1)).any (fun i => !bitN f i) = ((L.take k).any (fun i => !bitN f i) || !bitN f L[k]) := by
  rw [List.take_add_one, List.getElem?_eq_getElem h, Option.toList_some, List.any_append]
  simp
theorem lacks_all (f : List UInt8) (L : List Nat) : (!L.any (fun i => !bitN f i)) = L.all (bitN f) := by
  induction L with
  | nil => rfl
  | cons a l ih => rw [List.any_cons, List.all_cons, Bool.not_or, ih, Bool.not_not]

set_option maxHeartbeats 2000000 in
theorem may_any (f key : ByteArray) (w : World) (hf : f.size ≤ 1000000) (hk : key.size ≤ maxLen) :
    Calls Try.prog 20 #[.string f, .string key] w fun e w' => e = .returned (.bool (mayF f.data.toList key.data.toList)) ∧ Bel w w' := by
  have HK := Lib.hid hk; clear hk
  obtain ⟨P, hP⟩ : ∃ P, P = w.heap.size := ⟨_, rfl⟩
  have hfl : f.data.toList.length = f.size := rfl
  have hnew := heap_alloc_new w (.cells #[.string f, .bool false] 48)
  have HA := Lib.hid (show ProbeAt (w.alloc (.cells #[.string f, .bool false] 48)) P f false by
    rw [hP]
    refine ⟨?_, ?_, ?_⟩
    · simp only [World.cell?, hnew]; rfl
    · simp only [World.cell?, hnew]; rfl
    · simp only [World.frozen?, hnew]; rfl)
  have HB := Lib.hid ((Bel.refl w).alloc (.cells #[.string f, .bool false] 48))
  have hPl : P < (w.alloc (.cells #[.string f, .bool false] 48)).heap.size := by rw [hP]; simp
  have HPL := Lib.hid hPl
  have HP := Lib.hid hP
  clear hnew hPl hP
  go_enter Try.func20, Try.ntmps20
  go_wp2_with (fail)
  rw [← HP.out]
  refine (each_any key f.size 25 (.pointer (some ⟨P, 0, none⟩)) (fun k x => ProbeAt x P f (((placesL (hashN key.data.toList) (8 * f.size)).take k).any (fun i => !bitN f.data.toList i))) [P] _ HK.out (by unfold maxLen; omega) (fun k hk => by rw [List.mem_singleton] at hk; subst hk; exact HPL.out) (fun k x y h hb => h.bel hb) HA.out
    (fun v x => run_enter9 Try.func25 (by kernel_rfl) rfl _ x) (fun k hk x _ hI => ?_)).mono ?_
  · refine (test_any P f _ _ x hI (places_lt (List.getElem_mem hk)) hf).mono ?_
    rintro e x' ⟨rfl, h1, h2⟩
    exact ⟨rfl, by rw [lacks_take _ _ _ hk]; exact h1, h2⟩
  · rintro e w1 ⟨rfl, hp, hk⟩
    rw [List.take_length] at hp
    have HB1 := Lib.hid (show Bel w w1 from HB.out.trans_below (hk.below (by simp) (fun k h => by rw [List.mem_singleton] at h; subst h; rw [HP.out]; exact Nat.le_refl _)))
    obtain ⟨h0, h1, -⟩ := hp
    have HM := Lib.hid (show mayF f.data.toList key.data.toList = (!f.data.toList.isEmpty && !(placesL (hashN key.data.toList) (8 * f.size)).any (fun i => !bitN f.data.toList i)) by rw [lacks_all]; rfl)
    generalize (placesL (hashN key.data.toList) (8 * f.size)).any (fun i => !bitN f.data.toList i) = b at *
    have HFL := Lib.hid hfl
    clear hk hfl
    by_cases hz : f.size = 0
    · obtain rfl : f = ⟨#[]⟩ := by apply ByteArray.ext; exact Array.eq_empty_of_size_eq_zero hz
      go_wp2_with (fail)
      go_ret
      exact ⟨by rw [HM.out]; rfl, HB1.out⟩
    · have hne : f.toList.isEmpty = false := by rw [ByteArray.toList_eq]; have := HFL.out; cases h : f.data.toList with | nil => rw [h] at this; simp at this; omega | cons _ _ => rfl
      have hne2 : f.data.toList.isEmpty = false := by rw [← ByteArray.toList_eq]; exact hne
      rw [hne2] at HM
      clear hne2
      go_wp2_with (fail)
      go_ret
      exact ⟨by rw [HM.out]; rfl, HB1.out⟩

theorem bits_take (L : List (List UInt8)) (n k : Nat) (h : k < L.length) : bitsF (L.take (k + 1)) n = bitsF (L.take k) n ++ placesL (hashN L[k]) (8 * n) := by
  unfold bitsF
  rw [List.take_add_one, List.getElem?_eq_getElem h, Option.toList_some, List.flatMap_append, List.flatMap_singleton]
theorem setAll_app (L : List UInt8) (a b : List Nat) : setAll L (a ++ b) = setAll (setAll L a) b := by unfold setAll; rw [List.foldl_append]
theorem setAll_take (L : List UInt8) (a : List Nat) (k : Nat) (h : k < a.length) : setAll L (a.take (k + 1)) = setN (setAll L (a.take k)) a[k] := by
  rw [List.take_add_one, List.getElem?_eq_getElem h, Option.toList_some, setAll_app]
  rfl
def strSmall (m : Nat) (L : List (List UInt8)) : Prop := ∀ i (h : i < L.length), L[i].length ≤ m
theorem infoByte9 : (Try.prog.info? 5).map (fun i => (i.zero, i.size, i.bytes)) = some (some (.int .u8 0), 1, 1) := by kernel_rfl
/-- The filter that is made: in which block its bytes lie, and where the draft says so. -/
def DraftAt (w : World) (D B n : Nat) (l : List UInt8) : Prop :=
  w.cell? ⟨D, 0, none⟩ = some (.slice (some ⟨B, 0, none⟩) n n) ∧ ByteRow w B l ∧ D ≠ B
theorem DraftAt.bel {w x : World} {D B n : Nat} {l : List UInt8} (h : DraftAt w D B n l) (hb : Bel w x) : DraftAt x D B n l := by
  obtain ⟨h1, h2, h3⟩ := h
  exact ⟨(hb.cell D 0 (block_lt_of_cell h1)).trans h1, h2.bel hb, h3⟩
set_option maxHeartbeats 2000000 in
theorem build_any (p : Option Addr) (cap : Nat) (L : List (List UInt8)) (w : World) (h : StrsAt w p L) (hL : L.length ≤ 100000) (hs : strSmall maxLen L) :
    Calls Try.prog 16 #[.slice p L.length cap] w fun e w' => e = .returned (.string ⟨(buildF L).toArray⟩) ∧ Bel w w' := by
  by_cases h0 : L = []
  · subst h0
    go_enter Try.func16, Try.ntmps16
    go_wp2_with (fail)
    go_ret
    exact ⟨rfl, Bel.refl w⟩
  have hl0 : L.length ≠ 0 := fun e => h0 (List.length_eq_zero_iff.1 e)
  have hl0' : ((L.length : Int) == 0) = false := by rw [beq_eq_false_iff_ne]; omega
  have HF := Lib.hid (show buildF L = setAll (zeroL (sizeF L.length)) (bitsF L (sizeF L.length)) from if_neg h0)
  have HSZ := Lib.hid (show sizeF L.length ≤ 150008 by unfold sizeF; omega)
  have hmx : (if (8 : Int) < (L.length : Int) + ((L.length : Int) + 1) / 2 then (L.length : Int) + ((L.length : Int) + 1) / 2 else 8) = (sizeF L.length : Nat) := by unfold sizeF; split <;> omega
  have HN := Lib.hid h0
  have HH := Lib.hid h; clear h
  have HSM := Lib.hid hs; clear hs h0
  generalize sizeF L.length = n at *
  have hmk := run_make_row' (P := Try.prog) 37 5 (.int .u8 0) 1 Try.underlying37 infoByte9 rfl .i64 .i64 n (by have := HSZ.out; omega) (by have := HSZ.out; omega)
  have HA := Lib.hid (show DraftAt ((w.alloc (.cells (madeCells #[.int .u8 0] n) 5)).alloc (.cells #[.slice (some ⟨w.heap.size, 0, none⟩) n n] 43)) (w.heap.size + 1) w.heap.size n (zeroL n) by
    refine ⟨?_, (ByteRow.made w n).bel ((Bel.refl _).alloc _), by omega⟩
    have hnew := heap_alloc_new (w.alloc (.cells (madeCells #[.int .u8 0] n) 5)) (.cells #[.slice (some ⟨w.heap.size, 0, none⟩) n n] 43)
    rw [show (w.alloc (.cells (madeCells #[.int .u8 0] n) 5)).heap.size = w.heap.size + 1 by simp] at hnew
    simp only [World.cell?, hnew]; rfl)
  have HB := Lib.hid (((Bel.refl w).alloc (.cells (madeCells #[.int .u8 0] n) 5)).alloc (.cells #[.slice (some ⟨w.heap.size, 0, none⟩) n n] 43))
  have hbsz : w.heap.size < ((w.alloc (.cells (madeCells #[.int .u8 0] n) 5)).alloc (.cells #[.slice (some ⟨w.heap.size, 0, none⟩) n n] 43)).heap.size := by simp; omega
  have HBS := Lib.hid hbsz
  clear hbsz
  go_enter Try.func16, Try.ntmps16
  go_wp2_with (fail)
  go_loopw [21] (fun iv x => ∃ k : Nat, k ≤ L.length ∧ iv = .int .i64 k ∧ DraftAt x (w.heap.size + 1) w.heap.size n (setAll (zeroL n) (bitsF (L.take k) n)) ∧ Bel w x) (fun iv _ => L.length - (intOf iv).toNat)
  case atStart => exact ⟨0, Nat.zero_le _, rfl, HA.out, HB.out⟩
  case round =>
    obtain ⟨k, hk, rfl, hd, hb⟩ := hrel
    have HD := Lib.hid hd
    have HBk := Lib.hid hb
    by_cases hlt : k < L.length
    · obtain ⟨a, rfl, hc⟩ := (HH.out.bel hb) k hlt
      obtain ⟨hdc, -, -⟩ := hd
      have HKL := Lib.hid (show (⟨L[k].toArray⟩ : ByteArray).size ≤ maxLen by show L[k].toArray.size ≤ _; rw [List.size_toArray]; exact HSM.out k hlt)
      have HKE := Lib.hid (show (⟨L[k].toArray⟩ : ByteArray).data.toList = L[k] by simp)
      obtain ⟨key, hkey⟩ : ∃ key : ByteArray, key = ⟨L[k].toArray⟩ := ⟨_, rfl⟩
      rw [← hkey] at hc HKL HKE
      clear hkey hb
      have hsw : w.heap.size < wr.heap.size := by have := HBk.out.size; have := block_lt_of_cell hdc; simp at this; omega
      have HSW := Lib.hid hsw; clear hsw
      go_wp2_with (fail)
      refine (each_any key n 23 (.pointer (some ⟨w.heap.size + 1, 0, none⟩)) (fun j x => DraftAt x (w.heap.size + 1) w.heap.size n (setAll (setAll (zeroL n) (bitsF (L.take k) n)) ((placesL (hashN key.data.toList) (8 * n)).take j))) [w.heap.size] wr HKL.out (by have := HSZ.out; unfold maxLen; omega) (fun b hb => by rw [List.mem_singleton] at hb; subst hb; exact HSW.out) (fun j x y h hb => h.bel hb) HD.out
        (fun v x => run_enter9 Try.func23 (by kernel_rfl) rfl _ x) (fun j hj x _ hI => ?_)).mono ?_
      · obtain ⟨h1, h2, h3⟩ := hI
        have hln : (setAll (setAll (zeroL n) (bitsF (L.take k) n)) ((placesL (hashN key.data.toList) (8 * n)).take j)).length = n := by rw [setAll_len, setAll_len, zero_len]
        refine (set_any (w.heap.size + 1) w.heap.size n _ _ x (by rw [hln]; exact h1) h2 (by rw [hln]; exact places_lt (List.getElem_mem hj)) (by rw [hln]; have := HSZ.out; omega)).mono ?_
        rintro e x' ⟨rfl, h4, h5⟩
        refine ⟨rfl, ⟨h5.cell h1 (by rw [List.mem_singleton]; exact h3), ?_, h3⟩, h5⟩
        rw [setAll_take _ _ _ hj]; exact h4
      · rintro e w2 ⟨rfl, hd2, hk2⟩
        rw [List.take_length, ← setAll_app, HKE.out, ← bits_take L n k hlt] at hd2
        have HD2 := Lib.hid hd2
        have HB2 := Lib.hid (show Bel w w2 from HBk.out.trans_below (hk2.below HBk.out.size (fun b hb => by rw [List.mem_singleton] at hb; subst hb; exact Nat.le_refl _)))
        clear hd2 hk2
        go_wp2_with (fail)
        go_roundw
        case rel => exact ⟨k + 1, hlt, by go_num, HD2.out, HB2.out⟩
        case measure => simp [intOf]; omega
    · obtain rfl : k = L.length := by omega
      rw [List.take_length, ← HF.out] at hd
      obtain ⟨hdc, hrow, -⟩ := hd
      have hln : (buildF L).length = n := by rw [HF.out, setAll_len, zero_len]
      have hcv := hrow.conv n
      rw [hln] at hcv
      clear hrow hb hln
      go_wp2_with (fail)
      go_ret
      exact ⟨rfl, HBk.out⟩
end Go.Proofs.Ytaabaphpllnieaa
