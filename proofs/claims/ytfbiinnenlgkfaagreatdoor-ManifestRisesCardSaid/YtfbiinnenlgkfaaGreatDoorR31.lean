/- NPOpen, NROpen, NPSta, NRSet, NShM, NWM, NShown, NAct, NBeg, laid together. -/
import Derived.Test.YtfbiinnenlgkfaaGreatDoorR30
import Derived.Test.YtfbiinnenlgkfaaGreatDoorR29
import Derived.Test.YtfbiinnenlgkfaaGreatDoorR26
import Derived.BigQuiet
import Derived.Deep.RegionHeld
import Derived.Test.YtfbiinnenlgkfaaGreatDoorR27
import Derived.Test.YtfbiinnenlgkfaaGreatDoorR2
import Derived.Test.YtfbiinnenlgkfaaGreatDoorR33
set_option linter.unusedSimpArgs false
set_option linter.unusedVariables false
set_option maxRecDepth 100000
namespace Go.Proofs.YtfbiinnenlgkfaaGreatDoor
open Go.RowKit Go.Deep Go.Maps

theorem unb_text {s : List UInt8} {l : List (List UInt8)} (h : unbL s = some l) : ∀ t ∈ l, t.length ≤ s.length := fun t ht => by
 have hb := (unb_back h).1
 have : t.length ≤ (encL l).length := by
  unfold encL
  obtain ⟨a, b, rfl⟩ := List.append_of_mem ht
  simp [oneL]; omega
 rw [hb] at this; exact this
theorem read_text : ∀ (n : Nat) (s : List UInt8), s.length ≤ n → ∀ l ∈ (readL s).1, ∀ t ∈ l, t.length ≤ 40000
 | n, s, hn => by
  by_cases hs : s = []
  ·subst hs; rw [read_nil]; intro l hl; cases hl
  obtain ⟨l, r, e, hF⟩ : ∃ l r e, firstL s = (l, r, e) := ⟨_, _, _, rfl⟩
  by_cases he : e = 0
  ·subst he
   obtain ⟨t, hu, hb, hlt⟩ := first_rest hF
   rw [read_next hF]
   cases n with
   | zero => omega
   | succ n =>
    intro m hm
    rcases List.mem_cons.1 hm with rfl | hm
    ·intro t' ht'
     exact Nat.le_trans (unb_text hb t' ht') (frame_back hu).2
    ·exact read_text n r (by omega) m hm
  ·rw [read_end hs hF he]; intro l hl; cases hl
theorem readsegs_text (p : List UInt8) : ∀ (l : List Nat) (M : RS), ∀ b ∈ (readSegs p l M).2.1, ∀ t ∈ b, t.length ≤ 40000
 | [], M => fun b hb => by cases hb
 | n :: r, M => by
  have ih := readsegs_text p r M
  have h1 := read_text _ (bytesOf (fileN p n) M) (Nat.le_refl _)
  simp only [readSegs]
  split
  ·split
   ·intro b hb
    rcases List.mem_append.1 hb with hb | hb
    ·exact h1 b hb
    ·exact ih b hb
   ·intro b hb; cases hb
  ·split
   ·intro b hb; cases hb
   ·split
    ·exact h1
    ·intro b hb; cases hb
theorem jopen_text (p : List UInt8) (M : RS) : ∀ b ∈ (jopen p M).2.1, ∀ t ∈ b, t.length ≤ 40000 := by
 unfold jopen
 split
 ·intro b hb; cases hb
 ·split
  ·intro b hb; cases hb
  ·split
   ·intro b hb; cases hb
   ·exact readsegs_text p _ M
def MoPost (w x : World) (b : Nat) (F : List Nat) (err : Int) (s : MS) (M' : RS) (e : Ending) (y : World) : Prop :=
 ∃ F', (∀ k ∈ F', k ∈ F ∨ x.heap.size ≤ k) ∧ Keep F x y ∧ ProgAt w.heap.size y b M' F' ∧ Bel w y ∧ M'.ok ∧
  ((err ≠ 0 ∧ e = .returned (.tuple #[.pointer none, .int .i64 err])) ∨ (err = 0 ∧ ∃ mb jb D, e = .returned (.tuple #[.pointer (some ⟨mb, 0, none⟩), .int .i64 0]) ∧ PM w y b M' mb jb s 0 F' D ∧ x.heap.size ≤ mb ∧ ∀ k ∈ D, x.heap.size ≤ k))
set_option maxHeartbeats 8000000 in
theorem mopen_any (w x : World) (b : Nat) (M : RS) (F : List Nat) (hs : Std w) (hb : Bel w x) (hp : ProgAt w.heap.size x b M F) (hM : M.ok) (hr : M.room ≤ 1000000) :
  Calls Tryz.prog 32 #[.pointer (some ⟨b, 0, none⟩)] x (MoPost w x b F (jopen manP M).1 (lastM initM (jopen manP M).2.1) (jopen manP M).2.2) := by
 obtain ⟨err, L, M1, hj⟩ : ∃ err L M1, jopen manP M = (err, L, M1) := ⟨_, _, _, rfl⟩
 have hlens := jopen_lens manP hM hr
 have htext := jopen_text manP M
 rw [hj] at hlens htext ⊢
 have HLE := Lib.hid (show L.length ≤ 60000000 from hlens)
 have HTX := Lib.hid (show ∀ b ∈ L, ∀ t ∈ b, t.length ≤ 1000000 from fun b hb t ht => Nat.le_trans (htext b hb t ht) (by omega))
 have HOP := Lib.hid (open_st (x := x) hs hb hp hM manB 100000 manB_size hr hj)
 have HS := Lib.hid hs
 have HLT := Lib.hid (show ∀ k ∈ F, k < x.heap.size from fun k hk => (hp.within k hk).2)
 clear hs hb hp hM hr hj hlens htext
 go_enter Tryz.func32, Tryz.ntmps32
 go_wp2_with (fail)
 refine HOP.out.mono ?_
 rintro e y ⟨jv, v, F', rfl, hp1, hk1, hf1, hq1, hb1, hm1, hj1, hn1⟩
 have HP1 := Lib.hid hp1
 have HK1 := Lib.hid hk1
 have HF1 := Lib.hid hf1
 have HB1 := Lib.hid hb1
 have HM1 := Lib.hid hm1
 have HOWN := Lib.hid hq1.own
 by_cases he : err = 0
 rotate_left
 ·obtain rfl := hn1 he
  obtain ⟨vp, vc, rfl⟩ := hq1.own.len
  have he1 : (err != 0) = true := by rw [bne_iff_ne]; exact he
  have HE := Lib.hid he
  clear hp1 hk1 hf1 hq1 hb1 hm1 hj1 hn1 he
  go_wp2_with (fail)
  go_ret2
  exact ⟨F', HF1.out, HK1.out, HP1.out, HB1.out, HM1.out, Or.inl ⟨HE.out, rfl⟩⟩
 ·subst he
  obtain ⟨jb, rfl, hjs, hjq⟩ := hj1 rfl
  obtain ⟨vp, vc, rfl, hrow⟩ := hq1.own.row
  have HJS := Lib.hid hjs
  have HJQ := Lib.hid hjq
  have HLA := Lib.hid (last13_any _ y vp vc L hrow (by have := HLE.out; omega) HTX.out)
  clear hp1 hk1 hf1 hq1 hb1 hm1 hj1 hn1 hjs hjq hrow
  go_wp2_with (fail)
  refine HLA.out.mono ?_
  rintro e y2 ⟨q, d, rfl, hpl, hql, hb2⟩
  have HPL := Lib.hid hpl
  have HQL := Lib.hid hql
  have HB2 := Lib.hid hb2
  clear hpl hql hb2
  go_wp2_with (fail)
  go_ret2
  generalize lastM initM L = st at *
  have hz : y.heap.size ≤ y2.heap.size := HB2.out.size
  have hbA : Bel y2 (y2.alloc (.cells #[.pointer (some ⟨jb, 0, none⟩), .slice q st.files.length d, .int .i64 st.next, .int .i64 st.seq, .int .i64 st.log, .string st.mt, .int .i64 0] 110)) := (Bel.refl y2).alloc _
  have hbY := HB2.out.trans hbA
  refine ⟨F', HF1.out, HK1.out.then hbY, HP1.out.bel hbY, HB1.out.trans hbY, HM1.out, Or.inr ⟨rfl, y2.heap.size, jb, jb :: (if st.files = [] then [] else blkL q), rfl, ⟨HP1.out.bel hbY, HM1.out, HJS.out.j.bel hbY, HB1.out.trans hbY, HS.out, ⟨q, d, heap_alloc_new y2 _, HPL.out.bel hbA, fun hne a ha => ?_⟩, ⟨fun hm => ?_, ?_⟩, by simp, fun k hk => ?_⟩, ?_, fun k hk => ?_⟩⟩
  ·rw [if_neg hne]; exact List.mem_cons_of_mem _ (mem_blkL ha)
  ·have := (HP1.out.within _ hm).2; omega
  ·have := HB1.out.size; omega
  ·rcases List.mem_cons.1 hk with rfl | hk
   ·have h1 := HJQ.out.2.1
    exact ⟨by omega, HJQ.out.2.2, Nat.lt_of_lt_of_le h1 (Nat.le_trans hz hbA.size)⟩
   ·split at hk
    ·cases hk
    ·rename_i hne
     cases q with
     | none => cases hk
     | some a =>
      simp only [blkL, List.mem_singleton] at hk
      subst hk
      have h1 := HQL.out a rfl
      have h2 := HPL.out.lt hne a rfl
      exact ⟨by omega, fun hm => by have := (HP1.out.within _ hm).2; omega, Nat.lt_of_lt_of_le h2 hbA.size⟩
  ·have h1 := HK1.out.size; omega
  ·rcases List.mem_cons.1 hk with rfl | hk
   ·exact HJQ.out.1
   ·split at hk
    ·cases hk
    ·rename_i hne
     cases q with
     | none => cases hk
     | some a =>
      simp only [blkL, List.mem_singleton] at hk
      subst hk
      have h1 := HQL.out a rfl
      have h2 := HK1.out.size
      omega
set_option maxRecDepth 100000

def RmoPost (w x : World) (b : Nat) (F : List Nat) (err : Int) (s : MS) (M' : RS) (e : Ending) (y : World) : Prop :=
 ∃ F', (∀ k ∈ F', k ∈ F ∨ x.heap.size ≤ k) ∧ Keep F x y ∧ RefP w.heap.size y b M' F' ∧ Bel w y ∧ M'.ok ∧
  ((err ≠ 0 ∧ e = .returned (.tuple #[.pointer none, .int .i64 err])) ∨ (err = 0 ∧ ∃ mb jb D, e = .returned (.tuple #[.pointer (some ⟨mb, 0, none⟩), .int .i64 0]) ∧ RM w y b M' mb jb s 0 F' D ∧ x.heap.size ≤ mb ∧ ∀ k ∈ D, x.heap.size ≤ k))
set_option maxHeartbeats 8000000 in
theorem rmopen_any (w x : World) (b : Nat) (M : RS) (F : List Nat) (hs : Std w) (hb : Bel w x) (hp : RefP w.heap.size x b M F) (hM : M.ok) (hr : M.room ≤ 1000000) :
  Calls Tryz.prog 37 #[.pointer (some ⟨b, 0, none⟩)] x (RmoPost w x b F (jopen manP M).1 (lastM initM (jopen manP M).2.1) (jopen manP M).2.2) := by
 have HOP := Lib.hid (ropen_any _ x b M F manB 100000 hp hM manB_size hr)
 rw [manB_list] at HOP
 have hM1 := jopen_ok manP hM
 have hlens := jopen_lens manP hM hr
 have htext := jopen_text manP M
 obtain ⟨err, L, M1, hj⟩ : ∃ err L M1, jopen manP M = (err, L, M1) := ⟨_, _, _, rfl⟩
 rw [hj] at hlens htext hM1 HOP ⊢
 have HLE := Lib.hid (show L.length ≤ 60000000 from hlens)
 have HTX := Lib.hid (show ∀ b ∈ L, ∀ t ∈ b, t.length ≤ 1000000 from fun b hb t ht => Nat.le_trans (htext b hb t ht) (by omega))
 have HS := Lib.hid hs
 have HM1 := Lib.hid hM1
 have HBX := Lib.hid hb
 have HLT := Lib.hid (show ∀ k ∈ F, w.heap.size ≤ k ∧ k < x.heap.size from ref_in hp)
 clear hs hb hp hM hr hj hlens htext hM1
 go_enter Tryz.func37, Tryz.ntmps37
 go_wp2_with (fail)
 refine HOP.out.mono ?_
 rintro e y ⟨jv, v, F', rfl, hp1, hk1, hf1, hq1, hj1, hn1⟩
 have HP1 := Lib.hid hp1
 have HK1 := Lib.hid hk1
 have HF1 := Lib.hid hf1
 have HB1 := Lib.hid (show Bel w y from ((Keep.of_bel HBX.out F).trans hk1 (fun k hk => Or.inl hk)).bel (fun k hk => (HLT.out k hk).1))
 by_cases he : err = 0
 rotate_left
 ·obtain rfl := hn1 he
  obtain ⟨vp, vc, rfl⟩ := hq1.own.len
  have he1 : (err != 0) = true := by rw [bne_iff_ne]; exact he
  have HE := Lib.hid he
  clear hp1 hk1 hf1 hq1 hj1 hn1 he
  go_wp2_with (fail)
  go_ret2
  exact ⟨F', HF1.out, HK1.out, HP1.out, HB1.out, HM1.out, Or.inl ⟨HE.out, rfl⟩⟩
 ·subst he
  obtain ⟨jb, rfl, hjs, hjq⟩ := hj1 rfl
  obtain ⟨vp, vc, rfl, hrow⟩ := hq1.own.row
  have HJS := Lib.hid hjs
  have HJQ := Lib.hid hjq
  have HRW := Lib.hid hrow
  clear hp1 hk1 hf1 hq1 hj1 hn1 hjs hjq hrow
  go_wp2_with (fail)
  obtain ⟨mb, hmb⟩ : ∃ mb, mb = y.heap.size := ⟨_, rfl⟩
  obtain ⟨y1, hy1⟩ : ∃ y1, y1 = y.alloc (.cells #[.pointer (some ⟨jb, 0, none⟩), .slice none 0 0, .int .i64 1, .int .i64 0, .int .i64 1, .string ⟨#[]⟩, .int .i64 0] 62) := ⟨_, rfl⟩
  have HKM := Lib.hid (show y1.heap[mb]? = some (.cells #[.pointer (some ⟨jb, 0, none⟩), .slice none 0 0, .int .i64 1, .int .i64 0, .int .i64 1, .string ⟨#[]⟩, .int .i64 0] 62 (0, 0)) by rw [hy1, hmb]; exact heap_alloc_new y _)
  have HBY := Lib.hid (show Bel y y1 by rw [hy1]; exact (Bel.refl y).alloc _)
  have HZ1 := Lib.hid (show y1.heap.size = mb + 1 by rw [hy1, hmb]; simp)
  rw [← hy1, ← hmb]
  have HMB := Lib.hid hmb
  clear hy1 hmb
  go_loopw [8] (fun iv z => ∃ (i : Nat) (st : MS) (q : Option Addr) (d : Nat), iv = .int .i64 i ∧ i ≤ L.length ∧ st = lastM initM (L.take i) ∧ z.heap[mb]? = some (.cells #[.pointer (some ⟨jb, 0, none⟩), .slice q st.files.length d, .int .i64 st.next, .int .i64 st.seq, .int .i64 st.log, .string st.mt, .int .i64 0] 62 (0, 0)) ∧
   PlsAt z q st.files ∧ (∀ a, q = some a → mb < a.block) ∧ Keep [mb] y1 z) (fun iv _ => L.length - (intOf iv).toNat)
  case atStart => exact ⟨0, initM, none, 0, rfl, Nat.zero_le _, rfl, HKM.out, PlsAt.nil _ _, (fun a ha => by cases ha), Keep.refl _ _⟩
  case round =>
   obtain ⟨i, st, q, d, rfl, hi, hst, hbx, hpl, hql, hkp⟩ := hrel
   have HST := Lib.hid hst
   have HBX2 := Lib.hid hbx
   have HPL := Lib.hid hpl
   have HQL := Lib.hid hql
   have HKP := Lib.hid hkp
   have HBW := Lib.hid (bel_keep HBY.out hkp (fun k hk => by rw [List.mem_singleton] at hk; have := HMB.out; omega))
   have HZW := Lib.hid (show mb + 1 ≤ wr.heap.size by rw [← HZ1.out]; exact hkp.size)
   clear hst hbx hpl hql hkp
   have hLL : L.length ≤ 60000000 := HLE.out
   by_cases hil : i < L.length
   ·have hii : (i : Int) < (L.length : Int) := by have := HLE.out; omega
    obtain ⟨a, bq, bc, rfl, hc, hstrs⟩ := row_get13 (HRW.out.bel HBW.out) hil
    have HTK := Lib.hid (lastM_take hil initM)
    have HTB := Lib.hid (HTX.out L[i] (List.getElem_mem hil))
    obtain ⟨B, hB⟩ : ∃ B, B = L[i] := ⟨_, rfl⟩
    rw [← hB] at hc hstrs HTK HTB
    rw [← HST.out] at HTK
    have HSTR := Lib.hid hstrs
    clear hB hstrs
    by_cases hb1 : B.length = 1
    ·obtain ⟨t, rfl⟩ : ∃ t, B = [t] := by
      match B, hb1 with
      | [t], _ => exact ⟨t, rfl⟩
     obtain ⟨a1, rfl, hc1⟩ := HSTR.out 0 (by simp)
     have hc1' : wr.cell? a1 = some (.string ⟨t.toArray⟩) := by
      have : a1.add 0 = a1 := by simp [Addr.add]
      rw [this] at hc1; exact hc1
     have htl : (⟨t.toArray⟩ : ByteArray).size ≤ 1000000 := by rw [show (⟨t.toArray⟩ : ByteArray).size = t.length by show t.toArray.size = _; simp]; exact HTB.out t (by simp)
     have HUN := Lib.hid (show ∀ z, Calls Tryz.prog 14 #[.string ⟨t.toArray⟩] z fun e y => ∃ p c, e = .returned (.tuple #[.agg #[.slice p (unpSt t).files.length c, .int .i64 (unpSt t).next, .int .i64 (unpSt t).seq, .int .i64 (unpSt t).log, .string (unpSt t).mt], .int .i64 (unpEr t)]) ∧ OwnG plElR z.heap.size y (.slice p (unpSt t).files.length c) (unpSt t).files ∧ Bel z y from fun z => by
      have := runpack13_any ⟨t.toArray⟩ z htl
      rw [show (⟨t.toArray⟩ : ByteArray).data.toList = t by simp] at this
      exact this)
     simp only [List.length_singleton] at hc
     clear hc1
     go_wp2_with (fail)
     refine (HUN.out _).mono ?_
     rintro e x1 ⟨q1, d1, rfl, ho1, hb1'⟩
     have HO1 := Lib.hid ho1
     have HBU := Lib.hid hb1'
     obtain ⟨u, hu⟩ : ∃ u, u = unpSt t := ⟨_, rfl⟩
     have HUE := Lib.hid hu
     rw [← hu] at HO1 ⊢
     clear ho1 hb1' hu
     by_cases he : unpEr t = 0
     ·have HNX := Lib.hid (show u = lastM initM (L.take (i + 1)) by rw [HTK.out, oneM_yes he, HUE.out])
      rw [he]
      have HA := Lib.hid (show Bel x1 (x1.alloc (.cells #[.slice q1 u.files.length d1, .int .i64 u.next, .int .i64 u.seq, .int .i64 u.log, .string u.mt] 28)) from (Bel.refl x1).alloc _)
      obtain ⟨⟨s0, s1, s2, s3, s4, s5, s6⟩, f0, f1, f2, f3, f4, f5, f6⟩ := box7 (box_bel (box_bel HBX2.out HBU.out) ((Bel.refl x1).alloc (.cells #[.slice q1 u.files.length d1, .int .i64 u.next, .int .i64 u.seq, .int .i64 u.log, .string u.mt] 28)))
      clear he
      go_wp2_with (fail)
      go_roundw
      case rel =>
       refine ⟨i + 1, u, q1, d1, by go_num, hil, HNX.out, set57 (box_bel (box_bel HBX2.out HBU.out) HA.out), ?_, fun a ha => ?_, ((HKP.out.then HBU.out).then HA.out).trans keep57 (fun k hk => Or.inl hk)⟩
       ·refine (pls_ownR (HO1.out.bel HA.out)).keep keep57 (fun hne a ha hm => ?_)
        rw [List.mem_singleton] at hm
        subst ha
        have := (HO1.out.lt _ rfl).1
        have := HZW.out; omega
       ·subst ha
        have := (HO1.out.lt _ rfl).1
        have := HZW.out; omega
      case measure => simp [intOf]; omega
     ·have HNX := Lib.hid (show st = lastM initM (L.take (i + 1)) by rw [HTK.out, oneM_no he])
      have he1 : (unpEr t == 0) = false := by rw [beq_eq_false_iff_ne]; exact he
      have HB1' := Lib.hid (show Bel wr (x1.alloc (.cells #[.slice q1 u.files.length d1, .int .i64 u.next, .int .i64 u.seq, .int .i64 u.log, .string u.mt] 28)) from HBU.out.alloc _)
      generalize unpEr t = er at *
      clear he
      go_wp2_with (fail)
      go_roundw
      case rel => exact ⟨i + 1, st, q, d, by go_num, hil, HNX.out, box_bel HBX2.out HB1'.out, HPL.out.bel HB1'.out, HQL.out, HKP.out.then HB1'.out⟩
      case measure => simp [intOf]; omega
    ·have HNX := Lib.hid (show st = lastM initM (L.take (i + 1)) by rw [HTK.out, oneM_skip hb1])
     have hb1i : ¬ (B.length : Int) = 1 := by omega
     go_wp2_with (fail)
     go_roundw
     case rel => exact ⟨i + 1, st, q, d, by go_num, hil, HNX.out, HBX2.out, HPL.out, HQL.out, HKP.out⟩
     case measure => simp [intOf]; omega
   ·have hii : ¬ (i : Int) < (L.length : Int) := by omega
    have HNX := Lib.hid (show lastM initM L = st by rw [HST.out, List.take_of_length_le (by omega)])
    go_wp2_with (fail)
    go_ret2
    rw [HNX.out]
    have hz : y.heap.size ≤ wr.heap.size := by have := HMB.out; have := HZW.out; omega
    have h3 := HMB.out
    refine ⟨F', HF1.out, HK1.out.then HBW.out, HP1.out.bel HBW.out, HB1.out.trans HBW.out, HM1.out, Or.inr ⟨rfl, mb, jb, jb :: (if st.files = [] then [] else blkL q), rfl, ⟨HP1.out.bel HBW.out, HM1.out, HJS.out.bel HBW.out, HB1.out.trans HBW.out, HS.out, ⟨q, d, HBX2.out, HPL.out, fun hne a ha => ?_⟩, ⟨fun hm => ?_, ?_⟩, by simp, fun k hk => ?_⟩, ?_, fun k hk => ?_⟩⟩
    ·rw [if_neg hne]; exact List.mem_cons_of_mem _ (mem_blkL ha)
    ·have := (ref_in HP1.out _ hm).2; omega
    ·have := HB1.out.size; omega
    ·rcases List.mem_cons.1 hk with rfl | hk
     ·have h1 := HJQ.out.2.1
      exact ⟨by omega, HJQ.out.2.2, Nat.lt_of_lt_of_le h1 hz⟩
     ·split at hk
      ·cases hk
      ·rename_i hne
       cases q with
       | none => cases hk
       | some a =>
        simp only [blkL, List.mem_singleton] at hk
        subst hk
        have h1 := HQL.out a rfl
        have h2 := HPL.out.lt hne a rfl
        exact ⟨by omega, fun hm => by have := (ref_in HP1.out _ hm).2; omega, h2⟩
    ·have h1 := HK1.out.size; omega
    ·rcases List.mem_cons.1 hk with rfl | hk
     ·exact HJQ.out.1
     ·split at hk
      ·cases hk
      ·rename_i hne
       cases q with
       | none => cases hk
       | some a =>
        simp only [blkL, List.mem_singleton] at hk
        subst hk
        have h1 := HQL.out a rfl
        have h2 := HK1.out.size
        omega
end Go.Proofs.YtfbiinnenlgkfaaGreatDoor
set_option maxRecDepth 100000
namespace Go.Proofs.YtfbiinnenlgkfaaGreatDoor
open Go.RowKit Go.Deep

def StaPost (x : World) (s : MS) (e : Ending) (y : World) : Prop := ∃ p c, e = .returned (.agg #[.slice p s.files.length c, .int .i64 s.next, .int .i64 s.seq, .int .i64 s.log, .string s.mt]) ∧ OwnG plElP x.heap.size y (.slice p s.files.length c) s.files ∧ Bel x y
set_option maxHeartbeats 4000000 in
theorem state_any (x : World) (mb jb : Nat) (s : MS) (n : Nat) (fp : Option Addr) (fc : Nat) (h : x.heap[mb]? = some (.cells #[.pointer (some ⟨jb, 0, none⟩), .slice fp s.files.length fc, .int .i64 s.next, .int .i64 s.seq, .int .i64 s.log, .string s.mt, .int .i64 (n : Int)] 110 (0, 0))) (hp : PlsAt x fp s.files) (hl : s.files.length ≤ 100000) :
  Calls Tryz.prog 23 #[.pointer (some ⟨mb, 0, none⟩)] x (StaPost x s) := by
 obtain ⟨X, hX⟩ : ∃ X, X = x.heap.size := ⟨_, rfl⟩
 obtain ⟨x1, hx1⟩ : ∃ x1, x1 = x.alloc (.cells #[.slice none 0 0, .int .i64 0, .int .i64 0, .int .i64 0, .string ⟨#[]⟩] 24) := ⟨_, rfl⟩
 have hb : Bel x x1 := by rw [hx1]; exact (Bel.refl x).alloc _
 have HB := Lib.hid hb
 have HKX := Lib.hid (show x1.heap[X]? = some (.cells #[.slice none 0 0, .int .i64 0, .int .i64 0, .int .i64 0, .string ⟨#[]⟩] 24 (0, 0)) by rw [hx1, hX]; exact heap_alloc_new x _)
 have HZ := Lib.hid (show x1.heap.size = X + 1 by rw [hx1, hX]; simp)
 have HX := Lib.hid hX
 obtain ⟨⟨c0, c1, c2, c3, c4, c5, c6⟩, -⟩ := box7 (box_bel h hb)
 have HCP := Lib.hid (copied_any fp fc s x1 (hp.bel hb) hl)
 clear h hp hb
 rw [hx1] at c0 c1 c2 c3 c4 c5 c6
 go_enter Tryz.func23, Tryz.ntmps23
 go_wp2_with (fail)
 rw [← hx1, ← hX]
 clear hx1 hX
 refine HCP.out.mono ?_
 rintro e x2 ⟨p2, d2, rfl, ho2, hb2⟩
 have HO2 := Lib.hid ho2
 have HB2 := Lib.hid (HB.out.trans hb2)
 obtain ⟨⟨r0, r1, r2, r3, r4⟩, f0, f1, f2, f3, f4⟩ := box5 (box_bel HKX.out hb2)
 clear ho2 hb2 c0 c1 c2 c3 c4 c5 c6
 go_wp2_with (fail)
 refine bodyPost_ret (v := .agg #[.slice p2 s.files.length d2, .int .i64 s.next, .int .i64 s.seq, .int .i64 s.log, .string s.mt]) (by simp [results, Tryz.results23, go_sem, r0, r1, r2, r3, r4, f0, f1, f2, f3, f4]) rfl ⟨p2, d2, rfl, ?_, ?_⟩
 ·have h1 : X < x1.heap.size := by have := HZ.out; omega
  rw [← HX.out]
  exact OwnG.low (B := x1.heap.size) (((((HO2.out.setCell (p := ⟨X, 0, none⟩) h1 _).setCell (p := ⟨X, 1, none⟩) h1 _).setCell (p := ⟨X, 2, none⟩) h1 _).setCell (p := ⟨X, 3, none⟩) h1 _).setCell (p := ⟨X, 4, none⟩) h1 _) (by omega)
 ·have h3 := HX.out
  repeat' first | exact HB2.out | refine Bel.setCell ?_ (by simp; omega) _ | refine Bel.drewN ?_ _
end Go.Proofs.YtfbiinnenlgkfaaGreatDoor
set_option maxRecDepth 100000
namespace Go.Proofs.YtfbiinnenlgkfaaGreatDoor
open Go.RowKit Go.Deep Go.Maps


def mf1 : List UInt8 := [109, 97, 110, 46, 49]
def mf2 : List UInt8 := [109, 97, 110, 46, 50]
theorem mfile1 : fileN manP 1 = mf1 := by unfold fileN; rw [itoa_nat, digits_one 1 (by omega)]; rfl
theorem mfile2 : fileN manP 2 = mf2 := by unfold fileN; rw [itoa_nat, digits_one 2 (by omega)]; rfl
theorem mseg1 : segN manP mf1 = 1 := by rw [← mfile1]; exact seg_file _ 1 (by omega) (by omega)
theorem mseg2 : segN manP mf2 = 2 := by rw [← mfile2]; exact seg_file _ 2 (by omega) (by omega)
theorem msegs1 (b : List UInt8) (s : Nat) : segsL manP [⟨mf1, b, s⟩] = [1] := by
 show (if segN manP mf1 = 0 then [] else insN (segN manP mf1) []) = _
 rw [mseg1]; rfl
theorem mlast1 (b : List UInt8) (s : Nat) : lastN manP [⟨mf1, b, s⟩] = 1 := by unfold lastN; rw [msegs1]; rfl
theorem msegs2 (b : List UInt8) (s : Nat) : segsL manP [⟨mf2, b, s⟩] = [2] := by
 show (if segN manP mf2 = 0 then [] else insN (segN manP mf2) []) = _
 rw [mseg2]; rfl
theorem mlast2 (b : List UInt8) (s : Nat) : lastN manP [⟨mf2, b, s⟩] = 2 := by unfold lastN; rw [msegs2]; rfl
theorem msegs12 (b c : List UInt8) (s t : Nat) : segsL manP [⟨mf1, b, s⟩, ⟨mf2, c, t⟩] = [1, 2] := by
 show (if segN manP mf2 = 0 then _ else insN (segN manP mf2) (if segN manP mf1 = 0 then [] else insN (segN manP mf1) [])) = _
 rw [mseg1, mseg2]; rfl
theorem mlast12 (b c : List UInt8) (s t : Nat) : lastN manP [⟨mf1, b, s⟩, ⟨mf2, c, t⟩] = 2 := by unfold lastN; rw [msegs12]; rfl
def mbM (room : Int) : RS := ⟨[⟨mf1, [], 0⟩], room, -1, false⟩
theorem mb_turn (room : Int) (h : 0 ≤ room) : addS mf1 [] (newS room) = (0, mbM room) := by
 have ha : admS mf1 ([] : List UInt8).length (newS room) = 0 := by
  unfold admS
  rw [if_neg (by simp [newS]), if_neg (by decide), if_neg (by simp [newS]), if_neg]
  show ¬ room < ((bytesN [] : Nat) : Int) + ((0 : Nat) : Int)
  simp [bytesN]; omega
 unfold addS
 rw [if_pos ha]
 rfl
theorem mb_open (room : Int) (h : 0 ≤ room) : jopen manP (newS room) = (0, [], mbM room) := by
 unfold jopen
 rw [if_neg (by decide), if_neg (by simp [newS]), if_pos (by rfl)]
 have : jturn manP (newS room) = (0, mbM room) := by
  unfold jturn
  rw [show lastN manP (newS room).L + 1 = 1 from rfl, mfile1]
  exact mb_turn room h
 rw [this]
theorem mb_last (room : Int) : lastN manP (mbM room).L = 1 := mlast1 _ _
def s3 : MS := ⟨[⟨1, 0⟩, ⟨2, 1⟩], 3, 5, 1, ⟨#[]⟩⟩
def s2 : MS := ⟨[], 2, 5, 1, ⟨#[]⟩⟩
def sW : MS := ⟨[⟨2, 0⟩, ⟨1, 0⟩], 3, 0, 1, ⟨#[]⟩⟩
def e3 : List UInt8 := [3, 5, 1, 2, 1, 0, 2, 1]
theorem enc3 : encM s3 = e3 := by kernel_rfl
theorem enc0 : encM initM = [1, 0, 1, 0] := by kernel_rfl
theorem right3 : rightM s3 = true := by decide
theorem right2 : rightM s2 = true := by decide
theorem right0 : rightM initM = true := by decide
theorem rightW : rightM sW = false := by decide
def mfr : List UInt8 := frameL (encL [e3])
def mA2 : RS := ⟨[⟨mf1, [], 0⟩, ⟨mf2, [], 0⟩], 10000, -1, false⟩
def mA3 : RS := ⟨[⟨mf1, [], 0⟩, ⟨mf2, mfr, mfr.length⟩], 10000, -1, false⟩
def mA4 : RS := ⟨[⟨mf2, mfr, mfr.length⟩], 10000, -1, false⟩
theorem shm_turn : mturn 0 (mbM 10000) = (0, mA2) := by
 unfold mturn
 rw [if_pos rfl]
 unfold jturn
 rw [mb_last, mfile2]
 kernel_rfl
theorem shm_write : mwrite s3 mA2 = (0, mA3) := by
 unfold mwrite
 rw [enc3]
 have hr : jroom manP 100000 mA2 = (0, mA2) := by
  unfold jroom
  rw [show lastN manP mA2.L = 2 from mlast12 _ _ _ _, mfile2]
  kernel_rfl
 unfold jwrite
 have hb : batchS [e3] = (encL [e3], 0) := by kernel_rfl
 have hp : jput mf2 mfr mA2 = (0, mA3) := by kernel_rfl
 rw [hr, show lastN manP (0, mA2).2.L = 2 from mlast12 _ _ _ _, mfile2, hb]
 exact hp
theorem shm_trim : mtrim 0 mA3 = (0, mA4) := by
 unfold mtrim
 rw [if_pos rfl, show lastN manP mA3.L = 2 from mlast12 _ _ _ _]
 unfold jtrim
 rw [show segsL manP mA3.L = [1, 2] from msegs12 _ _ _ _]
 have hd : dropS mf1 mA3 = (0, mA4) := by kernel_rfl
 simp only [trimL, mfile1, hd]
 rfl
theorem shm_set : mset initM 0 s3 (mbM 10000) = ⟨0, s3, 1, mA4⟩ := by
 rw [mset_all right3 (by decide) (by rw [shm_turn]) (by rw [shm_turn, shm_write]), shm_turn]
 simp only
 rw [shm_write]
 simp only
 rw [shm_trim]
theorem shm_set2 : mset s3 1 s2 mA4 = ⟨1, s3, 1, mA4⟩ := mset_less right2 (by decide)
theorem shm_open : jopen manP mA4 = (0, [[e3]], mA4) := by
 have hr : readL mfr = ([[e3]], mfr.length, 0) := by
  have := read_frames [[e3]] [] (fun l hl => by
   simp only [List.mem_cons, List.not_mem_nil, or_false] at hl
   rw [hl]; decide)
  simpa [mfr, read_nil] using this
 unfold jopen
 rw [if_neg (by decide), if_neg (by decide), show segsL manP mA4.L = [2] from msegs2 _ _, if_neg (by simp)]
 have hb : bytesOf (fileN manP 2) mA4 = mfr := by rw [mfile2]; exact bytesOf_get (y := ⟨mf2, mfr, mfr.length⟩) (by rfl)
 simp only [readSegs, hb, hr]
 simp
theorem shm_last : lastM initM [[e3]] = s3 := by
 rw [← enc3]; exact oneM_enc right3 initM

theorem mem2 {k a : Nat} {F D : List Nat} (h : k ∈ a :: F) : k ∈ a :: (F ++ D) := by
 rcases List.mem_cons.1 h with e | h
 ·rw [e]; simp
 ·simp [h]
structure SD where
 M : RS
 s : MS
 n : Nat
def TM (w x : World) (b r mb jb rb qb : Nat) (p q : SD) (R : List Nat) : Prop :=
 ∃ F D G E, PM w x b p.M mb jb p.s p.n F D ∧ RM w x r q.M rb qb q.s q.n G E ∧ (∀ k ∈ mb :: F, k ∉ rb :: (G ++ E)) ∧ (∀ k ∈ rb :: G, k ∉ D) ∧ ∀ k ∈ R, k < x.heap.size ∧ k ∉ mb :: (F ++ D) ∧ k ∉ rb :: (G ++ E)
section
variable {w x y z : World} {b r mb jb rb qb : Nat} {p q p1 q1 : SD} {R R' A : List Nat}
theorem TM.low (h : TM w x b r mb jb rb qb p q R) : Bel w x := by obtain ⟨F, D, G, E, h1, h2, h3, h4, h5⟩ := h; exact h1.low
theorem TM.std (h : TM w x b r mb jb rb qb p q R) : Std w := by obtain ⟨F, D, G, E, h1, h2, h3, h4, h5⟩ := h; exact h1.std
theorem TM.good (h : TM w x b r mb jb rb qb p q R) : p.M.ok := by obtain ⟨F, D, G, E, h1, h2, h3, h4, h5⟩ := h; exact h1.ok
theorem TM.good' (h : TM w x b r mb jb rb qb p q R) : q.M.ok := by obtain ⟨F, D, G, E, h1, h2, h3, h4, h5⟩ := h; exact h2.ok
theorem TM.lt (h : TM w x b r mb jb rb qb p q R) : ∀ k ∈ R, k < x.heap.size := by obtain ⟨F, D, G, E, h1, h2, h3, h4, h5⟩ := h; exact fun k hk => (h5 k hk).1
theorem TM.keepR (h : TM w x b r mb jb rb qb p q R) (hz : Bel x z) : KeepR R x z := fun k hk => Below.block hz k (h.lt k hk)
theorem TM.box (h : TM w x b r mb jb rb qb p q R) : ∃ fp fc, x.heap[mb]? = some (.cells #[.pointer (some ⟨jb, 0, none⟩), .slice fp p.s.files.length fc, .int .i64 p.s.next, .int .i64 p.s.seq, .int .i64 p.s.log, .string p.s.mt, .int .i64 (p.n : Int)] 110 (0, 0)) ∧ PlsAt x fp p.s.files := by
 obtain ⟨F, D, G, E, h1, h2, h3, h4, h5⟩ := h
 obtain ⟨fp, fc, q1, q2, -⟩ := h1.box
 exact ⟨fp, fc, q1, q2⟩
theorem TM.rbox (h : TM w x b r mb jb rb qb p q R) : ∃ fp fc, x.heap[rb]? = some (.cells #[.pointer (some ⟨qb, 0, none⟩), .slice fp q.s.files.length fc, .int .i64 q.s.next, .int .i64 q.s.seq, .int .i64 q.s.log, .string q.s.mt, .int .i64 (q.n : Int)] 62 (0, 0)) ∧ PlsAt x fp q.s.files := by
 obtain ⟨F, D, G, E, h1, h2, h3, h4, h5⟩ := h
 obtain ⟨fp, fc, q1, q2, -⟩ := h2.box
 exact ⟨fp, fc, q1, q2⟩
theorem TM.bel (h : TM w x b r mb jb rb qb p q R) (hb : Bel x y) : TM w y b r mb jb rb qb p q R := by
 obtain ⟨F, D, G, E, h1, h2, h3, h4, h5⟩ := h
 exact ⟨F, D, G, E, h1.bel hb, h2.bel hb, h3, h4, fun k hk => ⟨Nat.lt_of_lt_of_le (h5 k hk).1 hb.size, (h5 k hk).2⟩⟩
theorem TM.less (h : TM w x b r mb jb rb qb p q R) (hR : ∀ k ∈ R', k ∈ R) : TM w x b r mb jb rb qb p q R' := by
 obtain ⟨F, D, G, E, h1, h2, h3, h4, h5⟩ := h
 exact ⟨F, D, G, E, h1, h2, h3, h4, fun k hk => h5 k (hR k hk)⟩
theorem TM.grow (h : TM w x b r mb jb rb qb p q R) (hb : Bel x y) {S : List Nat} (hS : ∀ k ∈ S, x.heap.size ≤ k ∧ k < y.heap.size) : TM w y b r mb jb rb qb p q (S ++ R) := by
 obtain ⟨F, D, G, E, h1, h2, h3, h4, h5⟩ := h
 refine ⟨F, D, G, E, h1.bel hb, h2.bel hb, h3, h4, fun k hk => ?_⟩
 rcases List.mem_append.1 hk with hk | hk
 ·have hs := hS k hk
  refine ⟨hs.2, fun hm => ?_, fun hm => ?_⟩
  ·rcases List.mem_cons.1 hm with e | hm
   ·have := h1.mlt; omega
   ·rcases List.mem_append.1 hm with hm | hm
    ·have := (h1.flt k hm).2; omega
    ·have := (h1.dw k hm).2.2; omega
  ·rcases List.mem_cons.1 hm with e | hm
   ·have := h2.mlt; omega
   ·rcases List.mem_append.1 hm with hm | hm
    ·have := (h2.flt k hm).2; omega
    ·have := (h2.dw k hm).2.2; omega
 ·exact ⟨Nat.lt_of_lt_of_le (h5 k hk).1 hb.size, (h5 k hk).2⟩
theorem TM.alloc (h : TM w x b r mb jb rb qb p q R) (o : Obj) : TM w (x.alloc o) b r mb jb rb qb p q (x.heap.size :: R) :=
 h.grow (S := [x.heap.size]) ((Bel.refl x).alloc o) (fun k hk => by rw [List.mem_singleton] at hk; subst hk; simp)
theorem TM.other (h : TM w x b r mb jb rb qb p q R) {K : List Nat} (hk : Keep K x y) (hK : ∀ k ∈ K, w.heap.size ≤ k ∧ k ∈ R) : TM w y b r mb jb rb qb p q R := by
 obtain ⟨F, D, G, E, h1, h2, h3, h4, h5⟩ := h
 have hl : Bel w y := ((Keep.of_bel h1.low K).trans hk (fun x hx => Or.inl hx)).bel (fun k hk' => (hK k hk').1)
 have hn : ∀ k ∈ mb :: (F ++ D), k ∉ K := fun k hk' hm => (h5 k (hK k hm).2).2.1 hk'
 have hn' : ∀ k ∈ rb :: (G ++ E), k ∉ K := fun k hk' hm => (h5 k (hK k hm).2).2.2 hk'
 exact ⟨F, D, G, E, h1.keep hk hl (hn mb (by simp)) (fun k hk' => hn k (by simp [hk'])) (fun k hk' => hn k (by simp [hk'])), h2.keep hk hl (hn' rb (by simp)) (fun k hk' => hn' k (by simp [hk'])) (fun k hk' => hn' k (by simp [hk'])), h3, h4, fun k hk' => ⟨Nat.lt_of_lt_of_le (h5 k hk').1 hk.size, (h5 k hk').2⟩⟩
theorem tm_prog (h : TM w x b r mb jb rb qb p q R) {mb1 jb1 : Nat} {F D F1 D1 G E : List Nat} (h1 : PM w x b p.M mb jb p.s p.n F D) (h2 : RM w x r q.M rb qb q.s q.n G E) (h3 : ∀ k ∈ mb :: F, k ∉ rb :: (G ++ E)) (h4 : ∀ k ∈ rb :: G, k ∉ D)
  (h5 : ∀ k ∈ R, k < x.heap.size ∧ k ∉ mb :: (F ++ D) ∧ k ∉ rb :: (G ++ E)) (k1 : PM w y b p1.M mb1 jb1 p1.s p1.n F1 D1) (k2 : Keep (mb :: F) x y) (k3 : ∀ k ∈ mb1 :: F1, k ∈ mb :: F ∨ x.heap.size ≤ k) (k4 : ∀ k ∈ D1, k ∈ D ∨ x.heap.size ≤ k) :
  TM w y b r mb1 jb1 rb qb p1 q R ∧ KeepR R x y := by
 have hlt : ∀ k ∈ rb :: (G ++ E), k < x.heap.size := fun k hk => by
  rcases List.mem_cons.1 hk with rfl | hk
  ·exact h2.mlt
  ·rcases List.mem_append.1 hk with hk | hk
   ·exact (h2.flt k hk).2
   ·exact (h2.dw k hk).2.2
 have hn : ∀ k ∈ rb :: (G ++ E), k ∉ mb :: F := fun k hk hm => h3 k hm hk
 refine ⟨⟨F1, D1, G, E, k1, h2.keep k2 k1.low (hn rb (by simp)) (fun k hk => hn k (by simp [hk])) (fun k hk => hn k (by simp [hk])), fun k hk hm => ?_, fun k hk hm => ?_, fun k hk => ⟨Nat.lt_of_lt_of_le (h5 k hk).1 k2.size, fun hm => ?_, (h5 k hk).2.2⟩⟩, fun k hk => k2.block k (h5 k hk).1 (fun hm => (h5 k hk).2.1 (mem2 hm))⟩
 ·rcases k3 k hk with h | h
  ·exact h3 k h hm
  ·have := hlt k hm; omega
 ·rcases k4 k hm with h | h
  ·exact h4 k hk h
  ·have := hlt k (mem2 hk); omega
 ·have hx := (h5 k hk).1
  have hnm := (h5 k hk).2.1
  rcases List.mem_cons.1 hm with e | hm
  ·rcases k3 k (by simp [e]) with h | h
   ·exact hnm (mem2 h)
   ·omega
  ·rcases List.mem_append.1 hm with hm | hm
   ·rcases k3 k (by simp [hm]) with h | h
    ·exact hnm (mem2 h)
    ·omega
   ·rcases k4 k hm with h | h
    ·exact hnm (by simp [h])
    ·omega
theorem TM.prog (h : TM w x b r mb jb rb qb p q R) (hz : Bel x z) {fn : FuncId} {args : Array Value} {P : Ending → Prop}
  (hc : ∀ F D, PM w z b p.M mb jb p.s p.n F D → (∀ k, k ∈ R ∨ k < w.heap.size → k ∉ mb :: F) → Calls Tryz.prog fn args z fun e y => P e ∧ PX w z F D [] y b p1.M mb jb p1.s p1.n) :
  Calls Tryz.prog fn args z fun e y => P e ∧ TM w y b r mb jb rb qb p1 q R ∧ KeepR R x y := by
 have hkr := h.keepR hz
 have hh := h.bel hz
 obtain ⟨F, D, G, E, h1, h2, h3, h4, h5⟩ := hh
 refine (hc F D h1 (fun k hk hm => ?_)).mono ?_
 ·rcases hk with hk | hk
  ·exact (h5 k hk).2.1 (mem2 hm)
  ·rcases List.mem_cons.1 hm with e | hm
   ·have := h1.mout.2; omega
   ·have := (h1.flt k hm).1; omega
 rintro e y ⟨hP, F1, D1, k1, k2, k3, k4⟩
 have ht := tm_prog (h.bel hz) h1 h2 h3 h4 h5 k1 k2 (fun k hk => by
  rcases List.mem_cons.1 hk with e | hk
  ·exact Or.inl (by simp [e])
  ·exact (k3 k hk).imp (fun h => by simp [h]) id) (fun k hk => by
  rcases k4 k hk with h | h | h
  ·exact Or.inl h
  ·exact Or.inr h
  ·cases h)
 exact ⟨hP, ht.1, hkr.trans ht.2⟩
theorem tm_ref {rb1 qb1 : Nat} {F D G1 E1 G E : List Nat} (h1 : PM w x b p.M mb jb p.s p.n F D) (h2 : RM w x r q.M rb qb q.s q.n G E) (h3 : ∀ k ∈ mb :: F, k ∉ rb :: (G ++ E)) (h4 : ∀ k ∈ rb :: G, k ∉ D)
  (h5 : ∀ k ∈ R, k < x.heap.size ∧ k ∉ mb :: (F ++ D) ∧ k ∉ rb :: (G ++ E)) (k1 : RM w y r q1.M rb1 qb1 q1.s q1.n G1 E1) (k2 : Keep (rb :: G) x y) (k3 : ∀ k ∈ rb1 :: G1, k ∈ rb :: G ∨ x.heap.size ≤ k) (k4 : ∀ k ∈ E1, k ∈ E ∨ x.heap.size ≤ k ∨ k ∈ A)
  (hA : ∀ k ∈ A, k ∉ mb :: F) (hR : ∀ k ∈ R', k ∈ R ∧ k ∉ A) :
  TM w y b r mb jb rb1 qb1 p q1 R' ∧ KeepR R x y := by
 have hlt : ∀ k ∈ mb :: (F ++ D), k < x.heap.size := fun k hk => by
  rcases List.mem_cons.1 hk with rfl | hk
  ·exact h1.mlt
  ·rcases List.mem_append.1 hk with hk | hk
   ·exact (h1.flt k hk).2
   ·exact (h1.dw k hk).2.2
 have hn : ∀ k ∈ mb :: (F ++ D), k ∉ rb :: G := fun k hk hm => by
  rcases List.mem_cons.1 hk with e | hk
  ·exact h3 k (by simp [e]) (mem2 hm)
  ·rcases List.mem_append.1 hk with hk | hk
   ·exact h3 k (by simp [hk]) (mem2 hm)
   ·exact h4 k hm hk
 refine ⟨⟨F, D, G1, E1, h1.keep k2 k1.low (hn mb (by simp)) (fun k hk => hn k (by simp [hk])) (fun k hk => hn k (by simp [hk])), k1, fun k hk hm => ?_, fun k hk hm => ?_, fun k hk => ⟨Nat.lt_of_lt_of_le (h5 k (hR k hk).1).1 k2.size, (h5 k (hR k hk).1).2.1, fun hm => ?_⟩⟩, fun k hk => k2.block k (h5 k hk).1 (fun hm => (h5 k hk).2.2 (mem2 hm))⟩
 ·have hx := hlt k (mem2 hk)
  have hn0 := h3 k hk
  rcases List.mem_cons.1 hm with e | hm
  ·rcases k3 k (by simp [e]) with h | h
   ·exact hn0 (mem2 h)
   ·omega
  ·rcases List.mem_append.1 hm with hm | hm
   ·rcases k3 k (by simp [hm]) with h | h
    ·exact hn0 (mem2 h)
    ·omega
   ·rcases k4 k hm with h | h | h
    ·exact hn0 (by simp [h])
    ·omega
    ·exact hA k h hk
 ·rcases k3 k hk with h | h
  ·exact h4 k h hm
  ·have := hlt k (by simp [hm]); omega
 ·have hx := (h5 k (hR k hk).1).1
  have hnm := (h5 k (hR k hk).1).2.2
  rcases List.mem_cons.1 hm with e | hm
  ·rcases k3 k (by simp [e]) with h | h
   ·exact hnm (mem2 h)
   ·omega
  ·rcases List.mem_append.1 hm with hm | hm
   ·rcases k3 k (by simp [hm]) with h | h
    ·exact hnm (mem2 h)
    ·omega
   ·rcases k4 k hm with h | h | h
    ·exact hnm (by simp [h])
    ·omega
    ·exact (hR k hk).2 h
theorem TM.ref (h : TM w x b r mb jb rb qb p q R) (hz : Bel x z) {fn : FuncId} {args : Array Value} {P : Ending → Prop} (hA : ∀ k ∈ A, k ∈ R ∨ k < w.heap.size) (hR : ∀ k ∈ R', k ∈ R ∧ k ∉ A)
  (hc : ∀ G E, RM w z r q.M rb qb q.s q.n G E → (∀ k, k ∈ R ∨ k < w.heap.size → k ∉ rb :: G) → Calls Tryz.prog fn args z fun e y => P e ∧ RX w z G E A y r q1.M rb qb q1.s q1.n) :
  Calls Tryz.prog fn args z fun e y => P e ∧ TM w y b r mb jb rb qb p q1 R' ∧ KeepR R x y := by
 have hkr := h.keepR hz
 have hh := h.bel hz
 obtain ⟨F, D, G, E, h1, h2, h3, h4, h5⟩ := hh
 refine (hc G E h2 (fun k hk hm => ?_)).mono ?_
 ·rcases hk with hk | hk
  ·exact (h5 k hk).2.2 (mem2 hm)
  ·rcases List.mem_cons.1 hm with e | hm
   ·have := h2.mout.2; omega
   ·have := (h2.flt k hm).1; omega
 rintro e y ⟨hP, G1, E1, k1, k2, k3, k4⟩
 have ht := tm_ref h1 h2 h3 h4 h5 k1 k2 (fun k hk => by
  rcases List.mem_cons.1 hk with e | hk
  ·exact Or.inl (by simp [e])
  ·exact (k3 k hk).imp (fun h => by simp [h]) id) k4 (fun k hk hm => by
  rcases hA k hk with h | h
  ·exact (h5 k h).2.1 (mem2 hm)
  ·rcases List.mem_cons.1 hm with e | hm
   ·have := h1.mout.2; omega
   ·have := (h1.flt k hm).1; omega) hR
 exact ⟨hP, ht.1, hkr.trans ht.2⟩
theorem TM.look (h : TM w x b r mb jb rb qb p q R) (hz : Bel x z) {fn : FuncId} {args : Array Value} {P : Ending → World → Prop}
  (hc : ∀ F D, PM w z b p.M mb jb p.s p.n F D → Calls Tryz.prog fn args z fun e y => P e y ∧ Bel z y) :
  Calls Tryz.prog fn args z fun e y => P e y ∧ Bel z y := by
 obtain ⟨F, D, G, E, h1, h2, h3, h4, h5⟩ := h.bel hz
 exact hc F D h1
theorem TM.rlook (h : TM w x b r mb jb rb qb p q R) (hz : Bel x z) {fn : FuncId} {args : Array Value} {P : Ending → World → Prop}
  (hc : ∀ G E, RM w z r q.M rb qb q.s q.n G E → Calls Tryz.prog fn args z fun e y => P e y ∧ Bel z y) :
  Calls Tryz.prog fn args z fun e y => P e y ∧ Bel z y := by
 obtain ⟨F, D, G, E, h1, h2, h3, h4, h5⟩ := h.bel hz
 exact hc G E h2
theorem PM.fs {F D : List Nat} {M M1 : RS} {s : MS} {n : Nat} (h : PM w z b M mb jb s n F D) (hM : M1.ok) {fn : FuncId} {args : Array Value} {P : Ending → Prop}
  (hc : Calls Tryz.prog fn args z fun e y => P e ∧ ProgTo w.heap.size z y b M1 F) : Calls Tryz.prog fn args z fun e y => P e ∧ PX w z F D [] y b M1 mb jb s n :=
 hc.mono fun e y ⟨hP, hT⟩ => by
  obtain ⟨F1, k1, k2, k3⟩ := h.step hT hM
  exact ⟨hP, F1, D, k1, k2.mono (fun k hk => by simp [hk]), k3, fun k hk => Or.inl hk⟩
theorem RM.fs {F D : List Nat} {M M1 : RS} {s : MS} {n : Nat} (h : RM w z b M mb jb s n F D) (hM : M1.ok) {fn : FuncId} {args : Array Value} {P : Ending → Prop}
  (hc : Calls Tryz.prog fn args z fun e y => P e ∧ RefTo w.heap.size z y b M1 F) : Calls Tryz.prog fn args z fun e y => P e ∧ RX w z F D [] y b M1 mb jb s n :=
 hc.mono fun e y ⟨hP, hT⟩ => by
  obtain ⟨F1, k1, k2, k3⟩ := h.step hT hM
  exact ⟨hP, F1, D, k1, k2.mono (fun k hk => by simp [hk]), k3, fun k hk => Or.inl hk⟩
theorem tm_limit (h : TM w x b r mb jb rb qb p q R) (hz : Bel x z) (t : Int) (ht : in64 t) :
  Calls Tryz.prog 28 #[.pointer (some ⟨b, 0, none⟩), .int .i64 t] z fun e y => (∃ u, e = .returned u) ∧ TM w y b r mb jb rb qb ⟨limS t p.M, p.s, p.n⟩ q R ∧ KeepR R x y :=
 h.prog hz (p1 := ⟨limS t p.M, p.s, p.n⟩) fun F D h1 _ => h1.fs (lim_ok h.good t ht) (plimit_any _ z b p.M F t h1.prog ht)
theorem tm_crash (h : TM w x b r mb jb rb qb p q R) (hz : Bel x z) (lf sp : SI) (hl : SI.ok w lf) (hs : SI.ok w sp) :
  Calls Tryz.prog 31 #[.pointer (some ⟨b, 0, none⟩), lf.val, sp.val] z fun e y => (∃ u, e = .returned u) ∧ TM w y b r mb jb rb qb ⟨crashS lf.L sp.L p.M, p.s, p.n⟩ q R ∧ KeepR R x y :=
 h.prog hz (p1 := ⟨crashS lf.L sp.L p.M, p.s, p.n⟩) fun F D h1 _ => h1.fs (crash_ok h.good _ _) (pcrash_any _ z b p.M F lf sp h1.prog h.good.srt (good_len h.good) (each_ok h.good) (hl.bel h1.low) (hs.bel h1.low)
  (fun a ha hne hm => by have := ints_low hl a ha hne; have := (h1.flt _ hm).1; omega) (fun a ha hne hm => by have := ints_low hs a ha hne; have := (h1.flt _ hm).1; omega))
theorem tm_set (h : TM w x b r mb jb rb qb p q R) (hz : Bel x z) (a : Option Addr) (c : Nat) (s : MS) (hs : PlsAt z a s.files) (hsp : s.files ≠ [] → ∀ k, a = some k → k.block ∈ R ∨ k.block < w.heap.size)
  (hl : s.files.length ≤ 100000) (hm : s.mt.size ≤ 100000000) (h0 : lastN manP p.M.L ≠ 0) (h9 : lastN manP p.M.L < 9999997) (hn : p.n ≤ 1000000) :
  Calls Tryz.prog 30 #[.pointer (some ⟨mb, 0, none⟩), .agg #[.slice a s.files.length c, .int .i64 s.next, .int .i64 s.seq, .int .i64 s.log, .string s.mt]] z fun e y => e = .returned (.int .i64 (mset p.s p.n s p.M).e) ∧
   TM w y b r mb jb rb qb ⟨(mset p.s p.n s p.M).M, (mset p.s p.n s p.M).s, (mset p.s p.n s p.M).n⟩ q R ∧ KeepR R x y :=
 h.prog hz (P := fun e => e = .returned (.int .i64 (mset p.s p.n s p.M).e)) (p1 := ⟨(mset p.s p.n s p.M).M, (mset p.s p.n s p.M).s, (mset p.s p.n s p.M).n⟩) fun F D h1 hn' => set13_any w z b p.M mb jb p.s p.n F D h1 a c s hs (fun hne k hk => hn' _ (hsp hne k hk)) hl hm h0 h9 hn
theorem tm_used (h : TM w x b r mb jb rb qb p q R) (hz : Bel x z) :
  Calls Tryz.prog 24 #[.pointer (some ⟨b, 0, none⟩)] z fun e y => e = .returned (.int .i64 (bytesN p.M.L : Nat)) ∧ Bel z y :=
 h.look hz (P := fun e y => e = .returned (.int .i64 (bytesN p.M.L : Nat))) fun F D h1 => pused_any _ z b p.M F h1.prog h1.ok.srt (good_bytes h1.ok)
theorem tm_rused (h : TM w x b r mb jb rb qb p q R) (hz : Bel x z) :
  Calls Tryz.prog 25 #[.pointer (some ⟨r, 0, none⟩)] z fun e y => e = .returned (.int .i64 (bytesN q.M.L : Nat)) ∧ Bel z y :=
 h.rlook hz (P := fun e y => e = .returned (.int .i64 (bytesN q.M.L : Nat))) fun G E h1 => (rused_ref h1.prog h1.ok).mono fun e y ⟨h1, h2⟩ => ⟨h1, h2.bel⟩
theorem tm_dead (h : TM w x b r mb jb rb qb p q R) (hz : Bel x z) :
  Calls Tryz.prog 26 #[.pointer (some ⟨b, 0, none⟩)] z fun e y => e = .returned (.bool p.M.gone) ∧ Bel z y :=
 h.look hz (P := fun e y => e = .returned (.bool p.M.gone)) fun F D h1 => (dead_any _ z b p.M F h1.prog).mono fun e y ⟨h1, h2⟩ => ⟨h1, h2.bel⟩
theorem tm_names (h : TM w x b r mb jb rb qb p q R) (hz : Bel x z) :
  Calls Tryz.prog 27 #[.pointer (some ⟨b, 0, none⟩)] z fun e y => (∃ v, e = .returned v ∧ OwnG strEl z.heap.size y v (p.M.L.map (·.name))) ∧ Bel z y :=
 h.look hz (P := fun e y => ∃ v, e = .returned v ∧ OwnG strEl z.heap.size y v (p.M.L.map (·.name))) fun F D h1 => (pnames_any _ z b p.M F h1.prog h1.ok.srt (good_len h1.ok)).mono fun e y ⟨v, h1, h2, h3⟩ => ⟨⟨v, h1, h2⟩, h3⟩
theorem tm_state (h : TM w x b r mb jb rb qb p q R) (hz : Bel x z) (hl : p.s.files.length ≤ 100000) :
  Calls Tryz.prog 23 #[.pointer (some ⟨mb, 0, none⟩)] z (StaPost z p.s) := by
 obtain ⟨fp, fc, h1, h2⟩ := (h.bel hz).box
 exact state_any z mb jb p.s p.n fp fc h1 h2 hl
theorem tm_open (h : TM w x b r mb jb rb qb p q R) (hz : Bel x z) (hr : p.M.room ≤ 1000000) :
    Calls Tryz.prog 32 #[.pointer (some ⟨b, 0, none⟩)] z fun e y => KeepR R x y ∧
      (((jopen manP p.M).1 ≠ 0 ∧ e = .returned (.tuple #[.pointer none, .int .i64 (jopen manP p.M).1]) ∧ TM w y b r mb jb rb qb ⟨(jopen manP p.M).2.2, p.s, p.n⟩ q R) ∨
       ((jopen manP p.M).1 = 0 ∧ ∃ mb1 jb1, e = .returned (.tuple #[.pointer (some ⟨mb1, 0, none⟩), .int .i64 0]) ∧ TM w y b r mb1 jb1 rb qb ⟨(jopen manP p.M).2.2, lastM initM (jopen manP p.M).2.1, 0⟩ q R)) := by
  have hkr := h.keepR hz
  have hh := h.bel hz
  have hh' := hh
  obtain ⟨F, D, G, E, h1, h2, h3, h4, h5⟩ := hh'
  refine (mopen_any w z b p.M F h1.std h1.low h1.prog h1.ok hr).mono ?_
  rintro e y ⟨F1, k3, k2, k1, kl, kok, ⟨hne, he⟩ | ⟨h0, mb1, jb1, D1, he, km, kn, kd⟩⟩
  · obtain ⟨F2, q1, q2, q3⟩ := h1.step ⟨F1, k1, k2, k3⟩ kok
    have ht := tm_prog (p1 := ⟨(jopen manP p.M).2.2, p.s, p.n⟩) hh h1 h2 h3 h4 h5 q1 (q2.mono (fun k hk => by simp [hk])) (fun k hk => by
      rcases List.mem_cons.1 hk with e | hk
      · exact Or.inl (by simp [e])
      · exact (q3 k hk).imp (fun h => by simp [h]) id) (fun k hk => Or.inl hk)
    exact ⟨hkr.trans ht.2, Or.inl ⟨hne, he, ht.1⟩⟩
  · have ht := tm_prog (p1 := ⟨(jopen manP p.M).2.2, lastM initM (jopen manP p.M).2.1, 0⟩) hh h1 h2 h3 h4 h5 km (k2.mono (fun k hk => by simp [hk])) (fun k hk => by
      rcases List.mem_cons.1 hk with e | hk
      · exact Or.inr (by rw [e]; exact kn)
      · exact (k3 k hk).imp (fun h => by simp [h]) id) (fun k hk => Or.inr (kd k hk))
    exact ⟨hkr.trans ht.2, Or.inr ⟨h0, mb1, jb1, he, ht.1⟩⟩
end
set_option maxRecDepth 100000

theorem cell5 {w : World} {k : Nat} {T : TypeId} {a b c d e : Value} (h : w.heap[k]? = some (.cells #[a, b, c, d, e] T (0, 0))) : w.cell? ⟨k, 0, none⟩ = some a ∧ w.cell? ⟨k, 1, none⟩ = some b ∧ w.cell? ⟨k, 2, none⟩ = some c ∧ w.cell? ⟨k, 3, none⟩ = some d ∧ w.cell? ⟨k, 4, none⟩ = some e := (box5 h).1
theorem pls_lit2 {W : World} {B : Nat} {a b c d : Int} {T : TypeId} (h : W.heap[B]? = some (.cells #[.int .i64 a, .int .i64 b, .int .i64 c, .int .i64 d] T (0, 0))) : PlsAt W (some ⟨B, 0, none⟩) [⟨a, b⟩, ⟨c, d⟩] := fun i hi => by
 match i, hi with
 | 0, _ => exact ⟨_, B, 0, none, rfl, rfl, box_cell h 0, box_cell h 1⟩
 | 1, _ => exact ⟨_, B, 2, none, rfl, rfl, box_cell h 2, box_cell h 3⟩
set_option maxHeartbeats 8000000 in
theorem shown13_any (w : World) (hstd : Std w) : Calls Tryz.prog 9 #[] w fun e w' => e = .returned (.bool true) ∧ Bel w w' := by
 have HS := Lib.hid hstd; clear hstd
 go_enter Tryz.func9, Tryz.ntmps9
 go_wp2_with (fail)
 refine (pnew_any 10000 w (by omega)).mono ?_
 rintro e w1 ⟨rfl, hp1, hb1⟩
 obtain ⟨b, hb⟩ : ∃ b, b = w.heap.size := ⟨_, rfl⟩
 have HP1 := Lib.hid (show ProgAt w.heap.size w1 b (newS 10000) [w.heap.size] by rw [hb]; exact hp1)
 have HB1 := Lib.hid hb1
 rw [← hb]
 clear hp1 hb1 hb
 have HO := Lib.hid (mopen_any w w1 b (newS 10000) [w.heap.size] HS.out HB1.out HP1.out (new_ok 10000 (by omega)) (by decide))
 rw [mb_open 10000 (by omega)] at HO
 go_wp2_with (fail)
 refine HO.out.mono ?_
 rintro e w2 ⟨F2, hF2, hk2, hp2, hb2, hm2, (⟨h, -⟩ | ⟨-, mb, jb, D2, rfl, hpm, hmb, hD2⟩)⟩
 ·exact absurd rfl h
 have HM2 := Lib.hid (show PM w w2 b (mbM 10000) mb jb initM 0 F2 D2 from hpm)
 clear hF2 hk2 hp2 hb2 hm2 hpm hmb hD2 HO
 obtain ⟨fp2, fc2, hbx2, hpl2, -⟩ := HM2.out.box
 have HST := Lib.hid (state_any w2 mb jb initM 0 fp2 fc2 hbx2 hpl2 (by decide))
 clear hbx2 hpl2
 go_wp2_with (fail)
 refine HST.out.mono ?_
 rintro e w3 ⟨p3, c3, rfl, ho3, hb3⟩
 have HO3 := Lib.hid ho3
 have HM3 := Lib.hid (HM2.out.bel hb3)
 clear ho3 hb3
 go_wp2_with (fail)
 obtain ⟨B5, hB5⟩ : ∃ B5, B5 = w3.heap.size := ⟨_, rfl⟩
 obtain ⟨w4, hw4⟩ : ∃ w4, w4 = (((w3.alloc (.cells #[.slice p3 initM.files.length c3, .int .i64 initM.next, .int .i64 initM.seq, .int .i64 initM.log, .string initM.mt] 24)).alloc (.cells #[.int .i64 1, .int .i64 0, .int .i64 2, .int .i64 1] 95)).alloc (.cells #[.slice (some ⟨w3.heap.size + 1, 0, none⟩) 2 2, .int .i64 3, .int .i64 5, .int .i64 1, .string ⟨#[]⟩] 24)) := ⟨_, rfl⟩
 obtain ⟨hz4, k0, k1, k2⟩ := alloc_three w3 (.cells #[.slice p3 initM.files.length c3, .int .i64 initM.next, .int .i64 initM.seq, .int .i64 initM.log, .string initM.mt] 24) (.cells #[.int .i64 1, .int .i64 0, .int .i64 2, .int .i64 1] 95) (.cells #[.slice (some ⟨w3.heap.size + 1, 0, none⟩) 2 2, .int .i64 3, .int .i64 5, .int .i64 1, .string ⟨#[]⟩] 24)
 rw [← hw4] at hz4 k0 k1 k2
 have hb4 : Bel w3 w4 := by rw [hw4]; exact (((Bel.refl w3).alloc _).alloc _).alloc _
 rw [← hw4, ← hB5]
 rw [← hB5] at k0 k1 k2 hz4
 have HK0 := Lib.hid k0
 have HK1 := Lib.hid k1
 have HK2 := Lib.hid k2
 have HO4 := Lib.hid (HO3.out.bel hb4)
 have HM4 := Lib.hid (HM3.out.bel hb4)
 have HLT := Lib.hid (show ∀ k ∈ mb :: F2, k < B5 from fun k hk => by
  rcases List.mem_cons.1 hk with rfl | hk
  ·rw [hB5]; exact HM3.out.mlt
  ·rw [hB5]; exact (HM3.out.flt k hk).2)
 have HB5 := Lib.hid hB5
 clear hw4 hz4 k0 k1 k2 hb4 hB5
 have HPL := Lib.hid (pls_lit2 HK1.out)
 have HSET := Lib.hid (set13_any w w4 b (mbM 10000) mb jb initM 0 F2 D2 HM4.out (some ⟨B5 + 1, 0, none⟩) 2 s3 HPL.out (fun _ a ha hm => by
  simp only [Option.some.injEq] at ha
  subst ha
  have := HLT.out _ hm
  simp only at this; omega) (by decide) (by decide) (by rw [mb_last]; omega) (by rw [mb_last]; omega) (by omega))
 rw [shm_set] at HSET
 refine HSET.out.mono ?_
 rintro e w5 ⟨rfl, F5, D5, hpm5, hk5, hF5, hD5⟩
 have HM5 := Lib.hid (show PM w w5 b mA4 mb jb s3 1 F5 D5 from hpm5)
 have HK5 := Lib.hid hk5
 have HF5 := Lib.hid hF5
 clear HSET hpm5 hk5 hF5 hD5
 have HSET2 := Lib.hid (set13_any w w5 b mA4 mb jb s3 1 F5 D5 HM5.out none 0 s2 (PlsAt.nil _ _) (fun h => absurd rfl h) (by decide) (by decide) (by rw [show lastN manP mA4.L = 2 from mlast2 _ _]; omega) (by rw [show lastN manP mA4.L = 2 from mlast2 _ _]; omega) (by omega))
 rw [shm_set2] at HSET2
 go_wp2_with (fail)
 refine HSET2.out.mono ?_
 rintro e w6 ⟨rfl, F6, D6, hpm6, hk6, hF6, hD6⟩
 have HM6 := Lib.hid (show PM w w6 b mA4 mb jb s3 1 F6 D6 from hpm6)
 have HK6 := Lib.hid (show ∀ k o, w4.heap[k]? = some o → B5 ≤ k → w6.heap[k]? = some o from fun k o ho hk => by
  have h5 := HK5.out.at ho (fun hm => by have := HLT.out k hm; omega)
  refine hk6.at h5 (fun hm => ?_)
  rcases List.mem_cons.1 hm with rfl | hm
  ·have := HLT.out k (by simp); omega
  ·rcases HF5.out k hm with h | h
   ·have := HLT.out k (by simp [h]); omega
   ·have := box_lt ho; omega)
 have HF6 := Lib.hid (show ∀ k o, w4.heap[k]? = some o → B5 ≤ k → k ∉ F6 from fun k o ho hk hm => by
  have hl := box_lt ho
  have h45 := HK5.out.size
  rcases hF6 k hm with h | h
  ·rcases HF5.out k h with h | h
   ·have := HLT.out k (by simp [h]); omega
   ·omega
  ·omega)
 clear HSET2 hpm6 hk6 hF6 hD6
 have HOP := Lib.hid (mopen_any w w6 b mA4 F6 HS.out HM6.out.low HM6.out.prog HM6.out.ok (by decide))
 rw [shm_open] at HOP
 simp only at HOP
 rw [shm_last] at HOP
 go_wp2_with (fail)
 refine HOP.out.mono ?_
 rintro e w7 ⟨F7, hF7, hk7, hp7, hb7, hm7, (⟨h, -⟩ | ⟨-, mb2, jb2, D7, rfl, hpm, hmb, hD7⟩)⟩
 ·exact absurd rfl h
 have HM7 := Lib.hid (show PM w w7 b mA4 mb2 jb2 s3 0 F7 D7 from hpm)
 have HK7 := Lib.hid (show ∀ k o, w4.heap[k]? = some o → B5 ≤ k → w7.heap[k]? = some o from fun k o ho hk => hk7.at (HK6.out k o ho hk) (HF6.out k o ho hk))
 clear hF7 hk7 hp7 hb7 hm7 hpm hmb hD7 HOP
 have HA7 := Lib.hid (HK7.out _ _ HK0.out (Nat.le_refl _))
 obtain ⟨a0, a1, a2, a3, a4⟩ := cell5 HA7.out
 have HPK := Lib.hid (pack13_any p3 c3 initM w7 (PlsAt.nil _ _) (by decide) (by decide))
 rw [show packV initM = .tuple #[.string ⟨#[1, 0, 1, 0]⟩, .int .i64 0] by rw [pack_yes right0, enc0]] at HPK
 go_wp2_with (fail)
 refine HPK.out.mono ?_
 rintro e w8 ⟨rfl, hb8⟩
 have HB8 := Lib.hid hb8
 clear hb8 a0 a1 a2 a3 a4 HPK
 obtain ⟨w9, hw9⟩ : ∃ w9, w9 = w8.alloc (.cells #[.int .i64 2, .int .i64 0, .int .i64 1, .int .i64 0] 95) := ⟨_, rfl⟩
 have HB9 := Lib.hid (show Bel w7 w9 by rw [hw9]; exact HB8.out.alloc _)
 have HPW := Lib.hid (pack13_any (some ⟨w8.heap.size, 0, none⟩) 2 sW w9 (by rw [hw9]; exact pls_lit2 (heap_alloc_new w8 _)) (by decide) (by decide))
 rw [show packV sW = .tuple #[.string ⟨#[]⟩, .int .i64 1] from pack_no rightW] at HPW
 go_wp2_with (fail)
 rw [← hw9]
 clear hw9
 refine HPW.out.mono ?_
 rintro e x ⟨rfl, hbx⟩
 have HBX := Lib.hid (HB9.out.trans hbx)
 clear hbx HPW
 have HAX := Lib.hid (box_bel HA7.out HBX.out)
 have HSX := Lib.hid (box_bel (HK7.out _ _ HK2.out (by omega)) HBX.out)
 have HLX := Lib.hid (box_bel (HK7.out _ _ HK1.out (by omega)) HBX.out)
 obtain ⟨a0, a1, a2, a3, a4⟩ := cell5 HAX.out
 obtain ⟨b0, b1, b2, b3, b4⟩ := cell5 HSX.out
 have HMX := Lib.hid (HM7.out.bel HBX.out)
 go_wp2_with (fail)
 refine wp_region_held_drew (S := fun z => (z.cell? ⟨B5, 0, none⟩ = some (.slice p3 initM.files.length c3) ∧ z.cell? ⟨B5, 1, none⟩ = some (.int .i64 initM.next) ∧ z.cell? ⟨B5, 2, none⟩ = some (.int .i64 initM.seq) ∧ z.cell? ⟨B5, 3, none⟩ = some (.int .i64 initM.log) ∧ z.cell? ⟨B5, 4, none⟩ = some (.string initM.mt)) ∧
  z.cell? ⟨B5 + 1 + 1, 0, none⟩ = some (.slice (some ⟨B5 + 1, 0, none⟩) 2 2) ∧ z.cell? ⟨B5 + 1 + 1, 1, none⟩ = some (.int .i64 3) ∧ z.cell? ⟨B5 + 1 + 1, 2, none⟩ = some (.int .i64 5) ∧ z.cell? ⟨B5 + 1 + 1, 3, none⟩ = some (.int .i64 1) ∧ z.cell? ⟨B5 + 1 + 1, 4, none⟩ = some (.string ⟨#[]⟩)) (by kernel_rfl) ⟨⟨a0, a1, a2, a3, a4⟩, b0, b1, b2, b3, b4⟩ (fun hHeld => ?_)
 clear a0 a1 a2 a3 a4 b0 b1 b2 b3 b4
 refine tq ⟨some 62, .load 24 (.tmp 5), 24, "law.go:67", #[], none⟩ ?_ 0 rfl ?_ ?_;rotate_left;·(intros;go_simp<;>with_reducible rfl)
 try simp only[Act.put,sqA,sqB,sqC]
 refine tq ⟨some 63, .build 24 #[(1, .const (.int .i64 1)), (3, .const (.int .i64 1))], 24, "law.go:67", #[], none⟩ ?_ 1 rfl ?_ ?_;rotate_left;·(intros;go_simp<;>with_reducible rfl)
 try simp only[Act.put,sqA,sqB,sqC]
 refine wpAnyH_ready (rs := [2]) (by kernel_rfl) (by simp) ?_
 refine ar1 ⟨some 64, .call ⟨.value (.func 18), #[.tmp 62, .tmp 63], #[24, 24]⟩, 4, "law.go:67", #[⟨0, .data⟩, ⟨1, .data⟩], none⟩ rfl (fun K hK => ?_)
 go_simp
 refine (same13_any p3 none c3 0 initM initM x.drew (PlsAt.nil _ _) (PlsAt.nil _ _) (by decide) (by decide) (by decide)).mono ?_
 rintro e x1 ⟨rfl, hb1⟩
 rw [show (asB initM && eqM initM initM) = true by rw [eqM_yes rfl]; decide]
 have HX1 := Lib.hid (show Bel x x1 from (Bel.refl x).drew.trans hb1)
 clear hb1
 dsimp only
 refine hK.out _ _ ⟨cell5 (box_bel HAX.out HX1.out), cell5 (box_bel HSX.out HX1.out)⟩ (fun hHeld => ?_);clear hK K;try simp only[Act.put,sqA,sqB,sqC]
 refine tq ⟨some 65, .move (.tmp 64), 4, "law.go:67", #[⟨2, .data⟩, ⟨2, .chain⟩], none⟩ ?_ 3 rfl ?_ ?_;rotate_left;·(intros;go_simp<;>with_reducible rfl)
 try simp only[Act.put,sqA,sqB,sqC]
 refine tq ⟨some 66, .move (.tmp 7), 31, "law.go:67", #[⟨3, .guard⟩], some (3, true)⟩ ?_ 4 rfl ?_ ?_;rotate_left;·(intros;go_simp<;>with_reducible rfl)
 try simp only[Act.put,sqA,sqB,sqC]
 refine tq ⟨some 67, .binOp .eql 31 (.tmp 66) (.const (.int .i64 0)) 31, 4, "law.go:67", #[⟨4, .data⟩, ⟨3, .guard⟩], some (3, true)⟩ ?_ 5 rfl ?_ ?_;rotate_left;·(intros;go_simp<;>with_reducible rfl)
 try simp only[Act.put,sqA,sqB,sqC]
 refine tq ⟨some 68, .pick (.tmp 65) (.tmp 67) (.const (.bool false)), 4, "law.go:67", #[⟨3, .data⟩, ⟨5, .data⟩], none⟩ ?_ 6 rfl ?_ ?_;rotate_left;·(intros;go_simp<;>with_reducible rfl)
 try simp only[Act.put,sqA,sqB,sqC]
 refine tq ⟨some 69, .move (.tmp 68), 4, "law.go:67", #[⟨6, .data⟩, ⟨3, .chain⟩], none⟩ ?_ 7 rfl ?_ ?_;rotate_left;·(intros;go_simp<;>with_reducible rfl)
 try simp only[Act.put,sqA,sqB,sqC]
 refine tq ⟨some 70, .move (.tmp 8), 31, "law.go:67", #[⟨7, .guard⟩], some (7, true)⟩ ?_ 8 rfl ?_ ?_;rotate_left;·(intros;go_simp<;>with_reducible rfl)
 try simp only[Act.put,sqA,sqB,sqC]
 refine tq ⟨some 71, .binOp .eql 31 (.tmp 70) (.const (.int .i64 1)) 31, 4, "law.go:67", #[⟨8, .data⟩, ⟨7, .guard⟩], some (7, true)⟩ ?_ 9 rfl ?_ ?_;rotate_left;·(intros;go_simp<;>with_reducible rfl)
 try simp only[Act.put,sqA,sqB,sqC]
 refine tq ⟨some 72, .pick (.tmp 69) (.tmp 71) (.const (.bool false)), 4, "law.go:67", #[⟨7, .data⟩, ⟨9, .data⟩], none⟩ ?_ 10 rfl ?_ ?_;rotate_left;·(intros;go_simp<;>with_reducible rfl)
 try simp only[Act.put,sqA,sqB,sqC]
 refine tq ⟨some 73, .move (.tmp 72), 4, "law.go:67", #[⟨10, .data⟩, ⟨7, .chain⟩], none⟩ ?_ 11 rfl ?_ ?_;rotate_left;·(intros;go_simp<;>with_reducible rfl)
 try simp only[Act.put,sqA,sqB,sqC]
 refine tq ⟨some 74, .move (.tmp 9), 56, "law.go:67", #[⟨11, .guard⟩], some (11, true)⟩ ?_ 12 rfl ?_ ?_;rotate_left;·(intros;go_simp<;>with_reducible rfl)
 try simp only[Act.put,sqA,sqB,sqC]
 refine tq ⟨some 75, .binOp .neq 56 (.tmp 74) (.const (.pointer none)) 56, 4, "law.go:67", #[⟨12, .data⟩, ⟨11, .guard⟩], some (11, true)⟩ ?_ 13 rfl ?_ ?_;rotate_left;·(intros;go_simp<;>with_reducible rfl)
 try simp only[Act.put,sqA,sqB,sqC]
 refine tq ⟨some 76, .pick (.tmp 73) (.tmp 75) (.const (.bool false)), 4, "law.go:67", #[⟨11, .data⟩, ⟨13, .data⟩], none⟩ ?_ 14 rfl ?_ ?_;rotate_left;·(intros;go_simp<;>with_reducible rfl)
 try simp only[Act.put,sqA,sqB,sqC]
 refine tq ⟨some 77, .move (.tmp 76), 4, "law.go:67", #[⟨14, .data⟩, ⟨11, .chain⟩], none⟩ ?_ 15 rfl ?_ ?_;rotate_left;·(intros;go_simp<;>with_reducible rfl)
 try simp only[Act.put,sqA,sqB,sqC]
 refine tq ⟨some 78, .move (.tmp 10), 31, "law.go:67", #[⟨15, .guard⟩], some (15, true)⟩ ?_ 16 rfl ?_ ?_;rotate_left;·(intros;go_simp<;>with_reducible rfl)
 try simp only[Act.put,sqA,sqB,sqC]
 refine tq ⟨some 79, .binOp .eql 31 (.tmp 78) (.const (.int .i64 0)) 31, 4, "law.go:67", #[⟨16, .data⟩, ⟨15, .guard⟩], some (15, true)⟩ ?_ 17 rfl ?_ ?_;rotate_left;·(intros;go_simp<;>with_reducible rfl)
 try simp only[Act.put,sqA,sqB,sqC]
 refine tq ⟨some 80, .pick (.tmp 77) (.tmp 79) (.const (.bool false)), 4, "law.go:67", #[⟨15, .data⟩, ⟨17, .data⟩], none⟩ ?_ 18 rfl ?_ ?_;rotate_left;·(intros;go_simp<;>with_reducible rfl)
 try simp only[Act.put,sqA,sqB,sqC]
 refine tq ⟨some 81, .move (.tmp 80), 4, "law.go:67", #[⟨18, .data⟩, ⟨15, .chain⟩], none⟩ ?_ 19 rfl ?_ ?_;rotate_left;·(intros;go_simp<;>with_reducible rfl)
 try simp only[Act.put,sqA,sqB,sqC]
 refine tq ⟨some 82, .move (.tmp 9), 56, "law.go:67", #[⟨19, .guard⟩], some (19, true)⟩ ?_ 20 rfl ?_ ?_;rotate_left;·(intros;go_simp<;>with_reducible rfl)
 try simp only[Act.put,sqA,sqB,sqC]
 refine tq ⟨some 84, .load 24 (.tmp 6), 24, "law.go:67", #[⟨19, .guard⟩], some (19, true)⟩ ?_ 22 rfl ?_ ?_;rotate_left;·(intros;go_simp<;>with_reducible rfl)
 try simp only[Act.put,sqA,sqB,sqC]
 obtain ⟨fp, fc, hbx, hpl, -⟩ := (HMX.out.bel HX1.out).box
 refine wpAnyH_ready (rs := [21]) (by kernel_rfl) (by simp) ?_
 refine ar1 ⟨some 83, .call ⟨.value (.func 23), #[.tmp 82], #[56]⟩, 24, "law.go:67", #[⟨20, .data⟩, ⟨19, .chain⟩, ⟨19, .guard⟩], some (19, true)⟩ rfl (fun K hK => ?_)
 go_simp
 refine (state_any x1 mb2 jb2 s3 0 fp fc hbx hpl (by decide)).mono ?_
 rintro e x2 ⟨p2, c2, rfl, ho2, hb2⟩
 have HO2 := Lib.hid ho2
 have HX2 := Lib.hid (HX1.out.trans hb2)
 clear ho2 hb2 hbx hpl
 dsimp only
 refine hK.out _ _ ⟨cell5 (box_bel HAX.out HX2.out), cell5 (box_bel HSX.out HX2.out)⟩ (fun hHeld => ?_);clear hK K;try simp only[Act.put,sqA,sqB,sqC]
 refine wpAnyH_ready (rs := [23]) (by kernel_rfl) (by simp) ?_
 refine ar1 ⟨some 85, .call ⟨.value (.func 18), #[.tmp 83, .tmp 84], #[24, 24]⟩, 4, "law.go:67", #[⟨21, .data⟩, ⟨22, .data⟩, ⟨21, .chain⟩, ⟨19, .guard⟩], some (19, true)⟩ rfl (fun K hK => ?_)
 go_simp
 refine (same13_any p2 (some ⟨B5 + 1, 0, none⟩) c2 2 s3 s3 x2 (pls_ownP HO2.out) (pls_lit2 (box_bel HLX.out HX2.out)) (by decide) (by decide) (by decide)).mono ?_
 rintro e x3 ⟨rfl, hb3⟩
 rw [show (asB s3 && eqM s3 s3) = true by rw [eqM_yes rfl]; decide]
 have HX3 := Lib.hid (HX2.out.trans hb3)
 clear hb3
 dsimp only
 refine hK.out _ _ ⟨cell5 (box_bel HAX.out HX3.out), cell5 (box_bel HSX.out HX3.out)⟩ (fun hHeld => ?_);clear hK K;try simp only[Act.put,sqA,sqB,sqC]
 refine tq ⟨some 86, .pick (.tmp 81) (.tmp 85) (.const (.bool false)), 4, "law.go:67", #[⟨19, .data⟩, ⟨23, .data⟩], none⟩ ?_ 24 rfl ?_ ?_;rotate_left;·(intros;go_simp<;>with_reducible rfl)
 try simp only[Act.put,sqA,sqB,sqC]
 refine tq ⟨some 87, .move (.tmp 86), 4, "law.go:67", #[⟨24, .data⟩, ⟨23, .chain⟩], none⟩ ?_ 25 rfl ?_ ?_;rotate_left;·(intros;go_simp<;>with_reducible rfl)
 try simp only[Act.put,sqA,sqB,sqC]
 refine tq ⟨some 88, .move (.tmp 11), 9, "law.go:67", #[⟨25, .guard⟩], some (25, true)⟩ ?_ 26 rfl ?_ ?_;rotate_left;·(intros;go_simp<;>with_reducible rfl)
 try simp only[Act.put,sqA,sqB,sqC]
 refine tq ⟨some 89, .binOp .eql 9 (.tmp 88) (.const (.string { data := #[1, 0, 1, 0] })) 9, 4, "law.go:67", #[⟨26, .data⟩, ⟨25, .guard⟩], some (25, true)⟩ ?_ 27 rfl ?_ ?_;rotate_left;·(intros;go_simp<;>with_reducible rfl)
 try simp only[Act.put,sqA,sqB,sqC]
 refine tq ⟨some 90, .pick (.tmp 87) (.tmp 89) (.const (.bool false)), 4, "law.go:67", #[⟨25, .data⟩, ⟨27, .data⟩], none⟩ ?_ 28 rfl ?_ ?_;rotate_left;·(intros;go_simp<;>with_reducible rfl)
 try simp only[Act.put,sqA,sqB,sqC]
 refine tq ⟨some 91, .move (.tmp 90), 4, "law.go:67", #[⟨28, .data⟩, ⟨25, .chain⟩], none⟩ ?_ 29 rfl ?_ ?_;rotate_left;·(intros;go_simp<;>with_reducible rfl)
 try simp only[Act.put,sqA,sqB,sqC]
 refine tq ⟨some 92, .move (.tmp 12), 31, "law.go:67", #[⟨29, .guard⟩], some (29, true)⟩ ?_ 30 rfl ?_ ?_;rotate_left;·(intros;go_simp<;>with_reducible rfl)
 try simp only[Act.put,sqA,sqB,sqC]
 refine tq ⟨some 93, .binOp .eql 31 (.tmp 92) (.const (.int .i64 0)) 31, 4, "law.go:67", #[⟨30, .data⟩, ⟨29, .guard⟩], some (29, true)⟩ ?_ 31 rfl ?_ ?_;rotate_left;·(intros;go_simp<;>with_reducible rfl)
 try simp only[Act.put,sqA,sqB,sqC]
 refine tq ⟨some 94, .pick (.tmp 91) (.tmp 93) (.const (.bool false)), 4, "law.go:67", #[⟨29, .data⟩, ⟨31, .data⟩], none⟩ ?_ 32 rfl ?_ ?_;rotate_left;·(intros;go_simp<;>with_reducible rfl)
 try simp only[Act.put,sqA,sqB,sqC]
 refine tq ⟨some 95, .move (.tmp 94), 4, "law.go:67", #[⟨32, .data⟩, ⟨29, .chain⟩], none⟩ ?_ 33 rfl ?_ ?_;rotate_left;·(intros;go_simp<;>with_reducible rfl)
 try simp only[Act.put,sqA,sqB,sqC]
 refine tq ⟨some 96, .move (.tmp 14), 31, "law.go:67", #[⟨33, .guard⟩], some (33, true)⟩ ?_ 34 rfl ?_ ?_;rotate_left;·(intros;go_simp<;>with_reducible rfl)
 try simp only[Act.put,sqA,sqB,sqC]
 refine tq ⟨some 97, .binOp .eql 31 (.tmp 96) (.const (.int .i64 1)) 31, 4, "law.go:67", #[⟨34, .data⟩, ⟨33, .guard⟩], some (33, true)⟩ ?_ 35 rfl ?_ ?_;rotate_left;·(intros;go_simp<;>with_reducible rfl)
 try simp only[Act.put,sqA,sqB,sqC]
 refine tq ⟨some 98, .pick (.tmp 95) (.tmp 97) (.const (.bool false)), 4, "law.go:67", #[⟨33, .data⟩, ⟨35, .data⟩], none⟩ ?_ 36 rfl ?_ ?_;rotate_left;·(intros;go_simp<;>with_reducible rfl)
 try simp only[Act.put,sqA,sqB,sqC]
 refine tq ⟨some 0, .assign (.tmp 98), 4, "law.go:67", #[⟨36, .data⟩, ⟨33, .chain⟩, ⟨0, .phase⟩, ⟨1, .phase⟩, ⟨2, .phase⟩, ⟨3, .phase⟩, ⟨4, .phase⟩, ⟨5, .phase⟩, ⟨6, .phase⟩, ⟨7, .phase⟩, ⟨8, .phase⟩, ⟨9, .phase⟩, ⟨10, .phase⟩, ⟨11, .phase⟩, ⟨12, .phase⟩, ⟨13, .phase⟩, ⟨14, .phase⟩, ⟨15, .phase⟩, ⟨16, .phase⟩, ⟨17, .phase⟩, ⟨18, .phase⟩, ⟨19, .phase⟩, ⟨20, .phase⟩, ⟨21, .phase⟩, ⟨22, .phase⟩, ⟨23, .phase⟩, ⟨24, .phase⟩, ⟨25, .phase⟩, ⟨26, .phase⟩, ⟨27, .phase⟩, ⟨28, .phase⟩, ⟨29, .phase⟩, ⟨30, .phase⟩, ⟨31, .phase⟩, ⟨32, .phase⟩, ⟨33, .phase⟩, ⟨34, .phase⟩, ⟨35, .phase⟩, ⟨36, .phase⟩], none⟩ ?_ 37 rfl ?_ ?_;rotate_left;·(intros;go_simp<;>with_reducible rfl)
 try simp only[Act.put,sqA,sqB,sqC]
 refine wpAnyH_done (by kernel_rfl) ?_ _
 clear hHeld
 go_wp2_with (fail)
 go_ret
 exact ⟨rfl, HM7.out.low.trans (HBX.out.trans HX3.out)⟩
set_option maxRecDepth 100000

structure NV where
 op : Int
 n : Int
 p : Option Addr
 c : Nat
 st : MS
 left : SI
 spoil : SI
structure NV.ok (w : World) (x : NV) : Prop where
 op : in64 x.op
 n : in64 x.n
 next : in64 x.st.next
 seq : in64 x.st.seq
 log : in64 x.st.log
 at_ : PlsAt w x.p x.st.files
 each : ∀ f ∈ x.st.files, in64 f.n ∧ in64 f.l
 len : x.st.files.length ≤ maxLen
 mt : x.st.mt.size ≤ maxLen
 left : SI.ok w x.left
 spoil : SI.ok w x.spoil
def NV.cells (x : NV) : List Value := [.int .i64 x.op, .int .i64 x.n, .slice x.p x.st.files.length x.c, .int .i64 x.st.next, .int .i64 x.st.seq, .int .i64 x.st.log, .string x.st.mt, .slice x.left.p x.left.L.length x.left.cap, .slice x.spoil.p x.spoil.L.length x.spoil.cap]
def NActs (w : World) (p : Option Addr) (L : List NV) : Prop := ∀ i (h : i < L.length), ∃ a B O sp, p = some a ∧ a.add (i * 9) = ⟨B, O, sp⟩ ∧
  (w.cell? ⟨B, O, sp⟩ = some (.int .i64 L[i].op) ∧ w.cell? ⟨B, O + 1, none⟩ = some (.int .i64 L[i].n) ∧ w.cell? ⟨B, O + 2, none⟩ = some (.slice L[i].p L[i].st.files.length L[i].c) ∧ w.cell? ⟨B, O + 3, none⟩ = some (.int .i64 L[i].st.next) ∧ w.cell? ⟨B, O + 4, none⟩ = some (.int .i64 L[i].st.seq) ∧
   w.cell? ⟨B, O + 5, none⟩ = some (.int .i64 L[i].st.log) ∧ w.cell? ⟨B, O + 6, none⟩ = some (.string L[i].st.mt) ∧ w.cell? ⟨B, O + 7, none⟩ = some (.slice L[i].left.p L[i].left.L.length L[i].left.cap) ∧ w.cell? ⟨B, O + 8, none⟩ = some (.slice L[i].spoil.p L[i].spoil.L.length L[i].spoil.cap)) ∧ NV.ok w L[i]
theorem NV.ok.bel {w x : World} {v : NV} (h : NV.ok w v) (hb : Bel w x) : NV.ok x v := ⟨h.op, h.n, h.next, h.seq, h.log, h.at_.bel hb, h.each, h.len, h.mt, h.left.bel hb, h.spoil.bel hb⟩
theorem NActs.bel {w x : World} {p : Option Addr} {L : List NV} (h : NActs w p L) (hb : Bel w x) : NActs x p L := fun i hi => by
 obtain ⟨a, B, O, sp, h1, h2, ⟨c0, c1, c2, c3, c4, c5, c6, c7, c8⟩, h4⟩ := h i hi
 exact ⟨a, B, O, sp, h1, h2, ⟨cl13 hb c0, cl13 hb c1, cl13 hb c2, cl13 hb c3, cl13 hb c4, cl13 hb c5, cl13 hb c6, cl13 hb c7, cl13 hb c8⟩, h4.bel hb⟩
def NV.small (x : NV) : Bool := asB x.st && (decide (x.st.mt.size ≤ 1000) && (decide (x.left.L.length ≤ 60) && decide (x.spoil.L.length ≤ 60)))
def nsmallB (L : List NV) : Bool := decide (L.length ≤ 60) && L.all NV.small
theorem nsmall_take {L : List NV} {k : Nat} (h : k < L.length) (ht : (L.take k).all NV.small = true) : (L.take (k + 1)).all NV.small = NV.small L[k] := by
 rw [List.take_add_one, List.getElem?_eq_getElem h, List.all_append, ht]
 simp
theorem nsmall_bad {L : List NV} {k : Nat} (h : k < L.length) (hb : NV.small L[k] = false) : nsmallB L = false := by
 unfold nsmallB
 have : L.all NV.small = false := by
  rw [List.all_eq_false]
  exact ⟨L[k], List.getElem_mem h, by rw [hb]; simp⟩
 rw [this, Bool.and_false]
theorem nsmall_get {L : List NV} (h : nsmallB L = true) : L.length ≤ 60 ∧ ∀ x ∈ L, NV.small x = true := by
 unfold nsmallB at h
 simp only [Bool.and_eq_true, decide_eq_true_eq] at h
 exact ⟨h.1, fun x hx => List.all_eq_true.1 h.2 x hx⟩
set_option maxHeartbeats 8000000 in
theorem nsmall_any (w : World) (p : Option Addr) (cap : Nat) (L : List NV) (h : NActs w p L) (hL : L.length ≤ maxLen) :
  Calls Tryz.prog 19 #[.slice p L.length cap] w fun e w' => e = .returned (.bool (nsmallB L)) ∧ Bel w w' := by
 unfold maxLen at hL
 have H := Lib.hid h; clear h
 by_cases h60 : 60 < L.length
 ·have h60i : (60 : Int) < (L.length : Int) := by omega
  have HB := Lib.hid (show nsmallB L = false by unfold nsmallB; rw [decide_eq_false (by omega)]; rfl)
  go_enter Tryz.func19, Tryz.ntmps19
  go_wp2_with (fail)
  go_ret
  exact ⟨ret_bool HB.out.symm, Bel.refl w⟩
 have h60i : ¬ (60 : Int) < (L.length : Int) := by omega
 go_enter Tryz.func19, Tryz.ntmps19
 go_wp2_with (fail)
 go_loopw [3] (fun iv x => ∃ k : Nat, iv = .int .i64 k ∧ k ≤ L.length ∧ (L.take k).all NV.small = true ∧ Bel w x) (fun iv _ => 100 - (intOf iv).toNat)
 case atStart => exact ⟨0, rfl, Nat.zero_le _, rfl, Bel.refl w⟩
 case round =>
  obtain ⟨k, rfl, hk, hall, hw⟩ := hrel
  have HALL := Lib.hid hall
  have HW := Lib.hid hw
  clear hall
  by_cases hlt : k < L.length
  ·have hii : (k : Int) < (L.length : Int) := by omega
   obtain ⟨a, B, O, sp, rfl, ha, ⟨c0, c1, c2, c3, c4, c5, c6, c7, c8⟩, hok⟩ := (H.out.bel hw) k hlt
   have HNX := Lib.hid (nsmall_take hlt HALL.out)
   have HBAD := Lib.hid (fun (hb : NV.small L[k] = false) => nsmall_bad hlt hb)
   obtain ⟨v, hv⟩ : ∃ v, v = L[k] := ⟨_, rfl⟩
   rw [← hv] at c0 c1 c2 c3 c4 c5 c6 c7 c8 hok HNX HBAD
   have HOK := Lib.hid hok
   have hlen := hok.len
   have hmt := hok.mt
   have hlf := hok.left.2.1
   have hsp := hok.spoil.2.1
   unfold maxLen at hlen hmt hlf hsp
   clear hv hok hw
   go_wp2_with (fail)
   refine (as13_any v.p v.c v.st wr HOK.out.at_ (by omega) (by omega)).mono ?_
   rintro e w1 ⟨p1, c1', rfl, ho1, hb1⟩
   have hba : Bel wr (w1.alloc (.cells #[.slice p1 (asM v.st).files.length c1', .int .i64 v.st.next, .int .i64 v.st.seq, .int .i64 v.st.log, .string v.st.mt] 28)) := hb1.alloc _
   have d0 := cl13 hba c0
   have d6 := cl13 hba c6
   have d7 := cl13 hba c7
   have d8 := cl13 hba c8
   have HBA := Lib.hid (HW.out.trans hba)
   clear ho1 hb1 hba c0 c1 c2 c3 c4 c5 c6 c7 c8
   cases has : asB v.st with
   | false =>
    have HR := Lib.hid (HBAD.out (by unfold NV.small; rw [has]; rfl))
    go_wp2_with (fail)
    go_ret
    exact ⟨ret_bool HR.out.symm, HBA.out⟩
   | true =>
   by_cases h1 : 1000 < v.st.mt.size
   ·have h1i : (1000 : Int) < (v.st.mt.size : Int) := by omega
    have HR := Lib.hid (HBAD.out (by unfold NV.small; rw [decide_eq_false (show ¬ v.st.mt.size ≤ 1000 by omega), Bool.false_and, Bool.and_false]))
    go_wp2_with (fail)
    go_ret
    exact ⟨ret_bool HR.out.symm, HBA.out⟩
   have h1i : ¬ (1000 : Int) < (v.st.mt.size : Int) := by omega
   by_cases h2 : 60 < v.left.L.length
   ·have h2i : (60 : Int) < (v.left.L.length : Int) := by omega
    have HR := Lib.hid (HBAD.out (by unfold NV.small; rw [decide_eq_false (show ¬ v.left.L.length ≤ 60 by omega), Bool.false_and, Bool.and_false, Bool.and_false]))
    go_wp2_with (fail)
    go_ret
    exact ⟨ret_bool HR.out.symm, HBA.out⟩
   have h2i : ¬ (60 : Int) < (v.left.L.length : Int) := by omega
   by_cases h3 : 60 < v.spoil.L.length
   ·have h3i : (60 : Int) < (v.spoil.L.length : Int) := by omega
    have HR := Lib.hid (HBAD.out (by unfold NV.small; rw [decide_eq_false (show ¬ v.spoil.L.length ≤ 60 by omega), Bool.and_false, Bool.and_false, Bool.and_false]))
    go_wp2_with (fail)
    go_ret
    exact ⟨ret_bool HR.out.symm, HBA.out⟩
   have h3d : decide ((60 : Int) < (v.spoil.L.length : Int)) = false := decide_eq_false (by omega)
   have HS := Lib.hid (show (L.take (k + 1)).all NV.small = true by
    rw [HNX.out]; unfold NV.small; rw [has, decide_eq_true (show v.st.mt.size ≤ 1000 by omega), decide_eq_true (show v.left.L.length ≤ 60 by omega), decide_eq_true (show v.spoil.L.length ≤ 60 by omega)]; rfl)
   go_wp2_with (fail)
   go_roundw
   case rel => exact ⟨k + 1, by go_num, hlt, HS.out, HBA.out⟩
   case measure => simp [intOf]; omega
  ·have hii : ¬ (k : Int) < (L.length : Int) := by omega
   have HR := Lib.hid (show nsmallB L = true by
    have h1 := HALL.out
    rw [List.take_of_length_le (by omega)] at h1
    unfold nsmallB
    rw [h1, decide_eq_true (by omega)]; rfl)
   clear hw
   go_wp2_with (fail)
   go_ret
   exact ⟨ret_bool HR.out.symm, HW.out⟩
set_option maxRecDepth 100000

structure LM (w x : World) (ws ms b r mb jb rb qb : Nat) (p q : SD) (R : List Nat) : Prop where
 tm : TM w x b r mb jb rb qb p q (ws :: ms :: R)
 sw : x.heap[ws]? = some (.cells #[.pointer (some ⟨b, 0, none⟩), .pointer (some ⟨mb, 0, none⟩)] 58 (0, 0))
 sm : x.heap[ms]? = some (.cells #[.pointer (some ⟨r, 0, none⟩), .pointer (some ⟨rb, 0, none⟩)] 66 (0, 0))
 new : w.heap.size ≤ ws ∧ w.heap.size ≤ ms
 apart : ws ≠ ms
section
variable {w x y z : World} {ws ms b r mb jb rb qb : Nat} {p q p1 q1 : SD} {R R' : List Nat}
theorem LM.to (h : LM w x ws ms b r mb jb rb qb p q R) (ht : TM w y b r mb jb rb qb p1 q1 (ws :: ms :: R')) (hk : KeepR (ws :: ms :: R) x y) : LM w y ws ms b r mb jb rb qb p1 q1 R' :=
 ⟨ht, (hk ws (by simp)).trans h.sw, (hk ms (by simp)).trans h.sm, h.new, h.apart⟩
theorem LM.bel (h : LM w x ws ms b r mb jb rb qb p q R) (hb : Bel x y) : LM w y ws ms b r mb jb rb qb p q R := h.to (h.tm.bel hb) (h.tm.keepR hb)
theorem LM.low (h : LM w x ws ms b r mb jb rb qb p q R) : Bel w x := h.tm.low
theorem LM.less (h : LM w x ws ms b r mb jb rb qb p q R) (hR : ∀ k ∈ R', k ∈ R) : LM w x ws ms b r mb jb rb qb p q R' :=
 h.to (h.tm.less (fun k hk => by
  simp only [List.mem_cons] at hk ⊢
  rcases hk with h | h | h
  ·exact Or.inl h
  ·exact Or.inr (Or.inl h)
  ·exact Or.inr (Or.inr (hR k h)))) (KeepR.refl _ _)
theorem LM.grow (h : LM w x ws ms b r mb jb rb qb p q R) (hb : Bel x y) {S : List Nat} (hS : ∀ k ∈ S, x.heap.size ≤ k ∧ k < y.heap.size) : LM w y ws ms b r mb jb rb qb p q (S ++ R) :=
 h.to ((h.tm.grow hb hS).less (fun k hk => by
  simp only [List.mem_cons, List.mem_append] at hk ⊢
  rcases hk with h | h | h | h <;> simp [h])) (h.tm.keepR hb)
theorem LM.other (h : LM w x ws ms b r mb jb rb qb p q R) {K : List Nat} (hk : Keep K x y) (hK : ∀ k ∈ K, w.heap.size ≤ k ∧ k ∈ R ∧ k ≠ ws ∧ k ≠ ms) : LM w y ws ms b r mb jb rb qb p q R :=
 ⟨h.tm.other hk (fun k hk' => ⟨(hK k hk').1, by simp [(hK k hk').2.1]⟩), hk.at h.sw (fun hm => (hK ws hm).2.2.1 rfl), hk.at h.sm (fun hm => (hK ms hm).2.2.2 rfl), h.new, h.apart⟩
theorem LM.cells (h : LM w x ws ms b r mb jb rb qb p q R) : x.cell? ⟨ws, 0, none⟩ = some (.pointer (some ⟨b, 0, none⟩)) ∧ x.cell? ⟨ws, 1, none⟩ = some (.pointer (some ⟨mb, 0, none⟩)) ∧
  x.cell? ⟨ms, 0, none⟩ = some (.pointer (some ⟨r, 0, none⟩)) ∧ x.cell? ⟨ms, 1, none⟩ = some (.pointer (some ⟨rb, 0, none⟩)) :=
 ⟨box_cell h.sw 0, box_cell h.sw 1, box_cell h.sm 0, box_cell h.sm 1⟩
end
section
variable {w x y : World} {b r : Nat} {M M1 : RS}
def BegRel (w y : World) (b r mb jb : Nat) (M M1 : RS) : Prop := ∃ F D G, PM w y b M1 mb jb initM 0 F D ∧ RefP w.heap.size y r M G ∧ ∀ k ∈ mb :: (F ++ D), k ∉ G
theorem beg_open (h : Tw w x b r M M []) (hs : Std w) (hr : M.room ≤ 1000000) (hj : jopen manP M = (0, [], M1)) :
  Calls Tryz.prog 32 #[.pointer (some ⟨b, 0, none⟩)] x fun e y => ∃ mb jb, e = .returned (.tuple #[.pointer (some ⟨mb, 0, none⟩), .int .i64 0]) ∧ BegRel w y b r mb jb M M1 := by
 obtain ⟨⟨F, G, h1, h2, h3, -⟩, h5, h6, h7⟩ := h
 refine (mopen_any w x b M F hs h5 h1 h6 hr).mono ?_
 rw [hj]
 rintro e y ⟨F1, k3, k2, k1, kl, kok, ⟨hne, he⟩ | ⟨h0, mb, jb, D1, he, km, kn, kd⟩⟩
 ·exact absurd rfl hne
 ·refine ⟨mb, jb, he, F1, D1, G, km, h2.keep k2 (fun k hk hm => h3 k hm hk), fun k hk hm => ?_⟩
  have hg := (ref_in h2 k hm).2
  rcases List.mem_cons.1 hk with e | hk
  ·omega
  ·rcases List.mem_append.1 hk with hk | hk
   ·rcases k3 k hk with h | h
    ·exact h3 k h hm
    ·omega
   ·have := kd k hk; omega
theorem beg_ropen {mb jb : Nat} (h : BegRel w x b r mb jb M M1) (hs : Std w) (hM : M.ok) (hr : M.room ≤ 1000000) (hj : jopen manP M = (0, [], M1)) :
  Calls Tryz.prog 37 #[.pointer (some ⟨r, 0, none⟩)] x fun e y => ∃ rb qb, e = .returned (.tuple #[.pointer (some ⟨rb, 0, none⟩), .int .i64 0]) ∧ TM w y b r mb jb rb qb ⟨M1, initM, 0⟩ ⟨M1, initM, 0⟩ [] := by
 obtain ⟨F, D, G, h1, h2, h3⟩ := h
 refine (rmopen_any w x r M G hs h1.low h2 hM hr).mono ?_
 rw [hj]
 rintro e y ⟨G1, k3, k2, k1, kl, kok, ⟨hne, he⟩ | ⟨h0, rb, qb, E1, he, km, kn, kd⟩⟩
 ·exact absurd rfl hne
 ·have hlt : ∀ k ∈ mb :: (F ++ D), k < x.heap.size := fun k hk => by
   rcases List.mem_cons.1 hk with rfl | hk
   ·exact h1.mlt
   ·rcases List.mem_append.1 hk with hk | hk
    ·exact (h1.flt k hk).2
    ·exact (h1.dw k hk).2.2
  have hn : ∀ k ∈ mb :: (F ++ D), k ∉ rb :: (G1 ++ E1) := fun k hk hm => by
   have := hlt k hk
   rcases List.mem_cons.1 hm with e | hm
   ·omega
   ·rcases List.mem_append.1 hm with hm | hm
    ·rcases k3 k hm with h | h
     ·exact h3 k hk h
     ·omega
    ·have := kd k hm; omega
  refine ⟨rb, qb, he, F, D, G1, E1, h1.keep k2 kl (h3 mb (by simp)) (fun k hk => h3 k (by simp [hk])) (fun k hk => h3 k (by simp [hk])), km, fun k hk => hn k (mem2 hk), fun k hk hm => hn k (by simp [hm]) (mem2 hk), by simp⟩
end
theorem heap_two (x : World) (o o' : Obj) : ((x.alloc o).alloc o').heap[x.heap.size]? = some o :=
 (Below.block ((Bel.refl (x.alloc o)).alloc o') x.heap.size (by simp)).trans (heap_alloc_new x o)
set_option maxHeartbeats 4000000 in
theorem begin13_any (w w0 : World) (hs : Std w) (hB : Bel w w0) (room : Int) (hr : 0 ≤ room ∧ room ≤ 1000000) :
  Calls Tryz.prog 20 #[.int .i64 room] w0 fun e y => ∃ ws ms b r mb jb rb qb, e = .returned (.tuple #[.pointer (some ⟨ws, 0, none⟩), .pointer (some ⟨ms, 0, none⟩), .bool true]) ∧
   LM w y ws ms b r mb jb rb qb ⟨mbM room, initM, 0⟩ ⟨mbM room, initM, 0⟩ [] := by
 have HS := Lib.hid hs
 have HB := Lib.hid hB
 have HR := Lib.hid hr
 have HJ := Lib.hid (mb_open room hr.1)
 clear hs hB hr
 go_enter Tryz.func20, Tryz.ntmps20
 go_wp2_with (fail)
 refine (pnew_any room w0 ⟨HR.out.1, by have := HR.out.2; omega⟩).mono ?_
 rintro e w3 ⟨rfl, h3, hb3⟩
 obtain ⟨b, hb⟩ : ∃ b, b = w0.heap.size := ⟨_, rfl⟩
 have HBE := Lib.hid hb
 rw [← hb] at h3 ⊢
 have H3 := Lib.hid (show ProgAt w0.heap.size w3 b (newS room) [b] by rw [← hb]; exact h3)
 have HB3 := Lib.hid hb3
 clear h3 hb3 hb
 go_wp2_with (fail)
 refine (rnew_ref room w3 ⟨HR.out.1, by have := HR.out.2; omega⟩).mono ?_
 rintro e w4 ⟨rfl, h4, hb4⟩
 obtain ⟨r, hr⟩ : ∃ r, r = w3.heap.size := ⟨_, rfl⟩
 have H4 := Lib.hid (show Tw w w4 b r (newS room) (newS room) [] from tw_begin room ⟨HR.out.1, by have := HR.out.2; omega⟩ HB.out HBE.out H3.out HB3.out hr (by rw [hr]; exact h4) hb4)
 rw [← hr]
 clear hr h4 hb4
 go_wp2_with (fail)
 refine (beg_open H4.out HS.out HR.out.2 HJ.out).mono ?_
 rintro e w5 ⟨mb, jb, rfl, h5⟩
 have H5 := Lib.hid h5
 clear h5
 go_wp2_with (fail)
 refine (beg_ropen H5.out HS.out H4.out.good HR.out.2 HJ.out).mono ?_
 rintro e w6 ⟨rb, qb, rfl, h6⟩
 have H6 := Lib.hid h6
 clear h6
 go_wp2_with (fail)
 go_ret3
 have hsz : ∀ o, (w6.alloc o).heap.size = w6.heap.size + 1 := fun o => by simp
 refine ⟨w6.heap.size, w6.heap.size + 1, b, r, mb, jb, rb, qb, rfl, ⟨?_, heap_two _ _ _, ?_, ?_, ?_⟩⟩
 ·refine ((H6.out.alloc _).alloc _).less (fun k hk => ?_)
  simp only [List.mem_cons, List.not_mem_nil, or_false] at hk
  simp only [List.mem_cons, List.not_mem_nil, or_false, hsz]
  rcases hk with h | h
  ·exact Or.inr h
  ·exact Or.inl h
 ·have := heap_alloc_new (w6.alloc (.cells #[.pointer (some ⟨b, 0, none⟩), .pointer (some ⟨mb, 0, none⟩)] 58)) (.cells #[.pointer (some ⟨r, 0, none⟩), .pointer (some ⟨rb, 0, none⟩)] 66)
  rw [hsz] at this
  exact this
 ·have := H6.out.low.size
  omega
 ·omega
end Go.Proofs.YtfbiinnenlgkfaaGreatDoor
