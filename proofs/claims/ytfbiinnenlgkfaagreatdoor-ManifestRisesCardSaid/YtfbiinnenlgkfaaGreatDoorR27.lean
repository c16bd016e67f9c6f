/- NPUnp, NPPack, NPCop, NAs, NAlike, NSame, laid together. -/
import Derived.Test.YtfbiinnenlgkfaaGreatDoorR22
import Derived.Test.YtfbiinnenlgkfaaGreatDoorR26
import Derived.Test.YtfbiinnenlgkfaaGreatDoorR5
import Derived.Test.YtfbiinnenlgkfaaGreatDoorR34
import Derived.Test.YtfbiinnenlgkfaaGreatDoorR21
import Derived.Test.YtfbiinnenlgkfaaGreatDoorR25
import Derived.Lib.SliceRun
import Derived.Test.YtfbiinnenlgkfaaGreatDoorR18
import Derived.Test.YtfbiinnenlgkfaaGreatDoorR11
import Derived.BigQuiet
set_option linter.unusedSimpArgs false
set_option linter.unusedVariables false
set_option maxRecDepth 100000
namespace Go.Proofs.YtfbiinnenlgkfaaGreatDoor
open Go.RowKit Go.Deep

def plElP : El PL := ⟨95, 22, 2, fun p => [.int .i64 p.n, .int .i64 p.l]⟩
theorem plOkP : ElOk plElP 16 := ⟨fun _ => rfl, fun a u hu => by simp [plElP] at hu; rcases hu with rfl | rfl <;> rfl, by kernel_rfl, ⟨.agg #[.int .i64 0, .int .i64 0], by kernel_rfl, rfl⟩, by decide⟩
theorem pls_ownP {B : Nat} {w : World} {p : Option Addr} {n c : Nat} {l : List PL} (h : OwnG plElP B w (.slice p n c) l) : PlsAt w p l := fun i hi => by
 obtain ⟨g, cap, hv, _, _, _, hc⟩ := ownG_cells plOkP h (by intro e; rw [e] at hi; simp at hi)
 simp only [Value.slice.injEq] at hv
 refine ⟨⟨g, 0, none⟩, g, i * 2, none, hv.1, by cases i <;> simp [Addr.add], ?_, ?_⟩
 ·exact hc i l[i] (List.getElem?_eq_getElem hi) 0 _ rfl
 ·exact hc i l[i] (List.getElem?_eq_getElem hi) 1 _ rfl
theorem two_ptrs {W : World} {B : Nat} {a b : Addr} {T : TypeId} (h : W.heap[B]? = some (.cells #[.pointer (some a), .pointer (some b)] T (0, 0))) : ∀ i (h : i < [a, b].length), ∃ q, some (⟨B, 0, none⟩ : Addr) = some q ∧ W.cell? (q.add i) = some (.pointer (some [a, b][i])) := fun i hi => by
 match i, hi with
 | 0, _ => exact ⟨_, rfl, box_cell h 0⟩
 | 1, _ => exact ⟨_, rfl, box_cell h 1⟩
theorem four_ptrs {W : World} {B : Nat} {a b c d : Addr} {T : TypeId} (h : W.heap[B]? = some (.cells #[.pointer (some a), .pointer (some b), .pointer (some c), .pointer (some d)] T (0, 0))) : ∀ i (h : i < [a, b, c, d].length), ∃ q, some (⟨B, 0, none⟩ : Addr) = some q ∧ W.cell? (q.add i) = some (.pointer (some [a, b, c, d][i])) := fun i hi => by
 match i, hi with
 | 0, _ => exact ⟨_, rfl, box_cell h 0⟩
 | 1, _ => exact ⟨_, rfl, box_cell h 1⟩
 | 2, _ => exact ⟨_, rfl, box_cell h 2⟩
 | 3, _ => exact ⟨_, rfl, box_cell h 3⟩
theorem bel_keep {w x y : World} {F : List Nat} (h : Bel w x) (hk : Keep F x y) (hF : ∀ k ∈ F, w.heap.size ≤ k) : Bel w y :=
 ((Keep.of_bel h F).trans hk (fun k hk => Or.inl hk)).bel hF
theorem alloc3 (w : World) (o1 o2 o3 o4 : Obj) : ((((w.alloc o1).alloc o2).alloc o3).alloc o4).heap.size = w.heap.size + 4 ∧ ((((w.alloc o1).alloc o2).alloc o3).alloc o4).heap[w.heap.size]? = some o1 ∧
  ((((w.alloc o1).alloc o2).alloc o3).alloc o4).heap[w.heap.size + 1]? = some o2 ∧ ((((w.alloc o1).alloc o2).alloc o3).alloc o4).heap[w.heap.size + 1 + 1]? = some o3 ∧ ((((w.alloc o1).alloc o2).alloc o3).alloc o4).heap[w.heap.size + 1 + 1 + 1]? = some o4 := by
 have h1 : (w.alloc o1).heap.size = w.heap.size + 1 := by simp
 have h2 : ((w.alloc o1).alloc o2).heap.size = w.heap.size + 2 := by simp
 have h3 : (((w.alloc o1).alloc o2).alloc o3).heap.size = w.heap.size + 3 := by simp
 have b (x : World) (o : Obj) (k : Nat) (hk : k < x.heap.size) : (x.alloc o).heap[k]? = x.heap[k]? := Below.block ((Bel.refl x).alloc o) k hk
 refine ⟨by simp, ?_, ?_, ?_, ?_⟩
 ·rw [b _ _ _ (by omega), b _ _ _ (by omega), b _ _ _ (by omega)]; exact heap_alloc_new w o1
 ·rw [b _ _ _ (by omega), b _ _ _ (by omega), ← h1]; exact heap_alloc_new _ o2
 ·rw [b _ _ _ (by omega), ← h2]; exact heap_alloc_new _ o3
 ·rw [← h3]; exact heap_alloc_new _ o4
set_option maxHeartbeats 8000000 in
theorem unpack13_any (s : ByteArray) (w : World) (hs : s.size ≤ 1000000) :
  Calls Tryz.prog 13 #[.string s] w fun e y => ∃ p c, e = .returned (.tuple #[.agg #[.slice p (unpSt s.data.toList).files.length c, .int .i64 (unpSt s.data.toList).next, .int .i64 (unpSt s.data.toList).seq, .int .i64 (unpSt s.data.toList).log, .string (unpSt s.data.toList).mt], .int .i64 (unpEr s.data.toList)]) ∧
   OwnG plElP w.heap.size y (.slice p (unpSt s.data.toList).files.length c) (unpSt s.data.toList).files ∧ Bel w y := by
 obtain ⟨t, ht⟩ : ∃ t, t = s.data.toList := ⟨_, rfl⟩
 rw [← ht]
 have HT := Lib.hid ht
 have hss : t.length = s.size := by rw [ht]; rfl
 have HSS := Lib.hid hss
 clear ht hss
 have HNO := Lib.hid (show unpackM t = none → unpSt t = zeroM ∧ unpEr t = 8 from unp_none)
 go_enter Tryz.func13, Tryz.ntmps13
 go_wp2_with (fail)
 obtain ⟨w4, hw4⟩ : ∃ z, z = ((((w.alloc (.cells #[.slice none 0 0, .int .i64 0, .int .i64 0, .int .i64 0, .string ⟨#[]⟩] 24)).alloc (.cells #[.slice none 0 0, .int .i64 0, .int .i64 0, .int .i64 0, .string ⟨#[]⟩] 24)).alloc (.cells #[.int .i64 0] 3)).alloc (.cells #[.pointer (some ⟨w.heap.size + 1, 1, none⟩), .pointer (some ⟨w.heap.size + 1, 2, none⟩), .pointer (some ⟨w.heap.size + 1, 3, none⟩), .pointer (some ⟨w.heap.size + 1 + 1, 0, none⟩)] 102)) := ⟨_, rfl⟩
 obtain ⟨hz4, k0, k1, k2, k3⟩ := alloc3 w (.cells #[.slice none 0 0, .int .i64 0, .int .i64 0, .int .i64 0, .string ⟨#[]⟩] 24) (.cells #[.slice none 0 0, .int .i64 0, .int .i64 0, .int .i64 0, .string ⟨#[]⟩] 24) (.cells #[.int .i64 0] 3) (.cells #[.pointer (some ⟨w.heap.size + 1, 1, none⟩), .pointer (some ⟨w.heap.size + 1, 2, none⟩), .pointer (some ⟨w.heap.size + 1, 3, none⟩), .pointer (some ⟨w.heap.size + 1 + 1, 0, none⟩)] 102)
 rw [← hw4] at hz4 k0 k1 k2 k3
 have HB4 := Lib.hid (show Bel w w4 by rw [hw4]; exact ((((Bel.refl w).alloc _).alloc _).alloc _).alloc _)
 rw [← hw4]
 clear hw4
 obtain ⟨A, hA⟩ : ∃ A, A = w.heap.size + 1 := ⟨_, rfl⟩
 obtain ⟨Bm, hBm⟩ : ∃ B, B = A + 1 := ⟨_, rfl⟩
 obtain ⟨Q, hQ⟩ : ∃ Q, Q = Bm + 1 := ⟨_, rfl⟩
 rw [← hA] at k1 k2 k3
 rw [← hBm] at k2 k3
 rw [← hQ] at k3
 rw [← hA, ← hBm, ← hQ]
 have HA := Lib.hid hA
 have HBM := Lib.hid hBm
 have HQ := Lib.hid hQ
 have HZ4 := Lib.hid (show w4.heap.size = Q + 1 by rw [hz4, hQ, hBm, hA])
 have HR4 := Lib.hid k0
 have HA4 := Lib.hid k1
 have HM4 := Lib.hid k2
 have HPT := Lib.hid (four_ptrs k3)
 clear hz4 k0 k1 k2 k3 hA hBm hQ
 refine (taken_any s (some ⟨Q, 0, none⟩) 4 [⟨A, 1, none⟩, ⟨A, 2, none⟩, ⟨A, 3, none⟩, ⟨Bm, 0, none⟩] w4 HPT.out hs (by simp) (fun a ha => ?_) (fun a ha q hq => ?_)).mono ?_
 ·simp only [List.mem_cons, List.not_mem_nil, or_false] at ha
  rcases ha with rfl | rfl | rfl | rfl
  ·exact ⟨rfl, _, _, HA4.out, by simp⟩
  ·exact ⟨rfl, _, _, HA4.out, by simp⟩
  ·exact ⟨rfl, _, _, HA4.out, by simp⟩
  ·exact ⟨rfl, _, _, HM4.out, by simp⟩
 ·have h1 := HQ.out
  have h2 := HBM.out
  simp only [Option.some.injEq] at hq
  subst hq
  simp only [List.mem_cons, List.not_mem_nil, or_false] at ha
  rcases ha with rfl | rfl | rfl | rfl <;> (show Q ≠ _; simp only; omega)
 rw [← HT.out]
 rintro e w5 (⟨L4, m4, ht4, rfl, hm4, hb5⟩ | ⟨ht4, rfl, hk5⟩)
 rotate_left
 ·have HR := Lib.hid (HNO.out (prog_none (fun a b c d r h => by rw [show takeP 4 t = none from ht4] at h; cases h)))
  have hA := HA.out
  have hBm := HBM.out
  have HB5 := Lib.hid (bel_keep HB4.out hk5 (fun k hk => by simp at hk; omega))
  obtain ⟨⟨r0, r1, r2, r3, r4⟩, f0, f1, f2, f3, f4⟩ := box5 ((hk5.at HR4.out (by simp; omega)))
  clear hk5
  go_wp2_with (fail)
  refine bodyPost_ret (v := .tuple #[.agg #[.slice none 0 0, .int .i64 0, .int .i64 0, .int .i64 0, .string ⟨#[]⟩], .int .i64 8]) (by simp [results, Tryz.results13, go_sem, r0, r1, r2, r3, r4, f0, f1, f2, f3, f4]) rfl ⟨none, 0, by rw [HR.out.1, HR.out.2]; rfl, by rw [HR.out.1]; exact OwnG.nil _ _ _, ?_⟩
  repeat' first | exact HB5.out | refine Bel.setCell ?_ (by simp) _ | refine Bel.drewN ?_ _
 ·obtain ⟨na, nb, nc, nd, rfl⟩ : ∃ a b c d, L4 = [a, b, c, d] := by
   have h := (takeP_back _ _ _ _ ht4).1
   match L4, h with
   | [a, b, c, d], _ => exact ⟨a, b, c, d, rfl⟩
  have HT4 := Lib.hid (show takeP 4 t = some ([na, nb, nc, nd], m4) from ht4)
  have hA := HA.out
  have hBm := HBM.out
  have hQ := HQ.out
  have hb5' : Bel ((((w4.setCell ⟨A, 1, none⟩ (.int .i64 (w64 na))).setCell ⟨A, 2, none⟩ (.int .i64 (w64 nb))).setCell ⟨A, 3, none⟩ (.int .i64 (w64 nc))).setCell ⟨Bm, 0, none⟩ (.int .i64 (w64 nd))) w5 := hb5
  have hk5 : Keep [A, Bm] w4 w5 := (((((Keep.refl [A, Bm] w4).setCell (p := ⟨A, 1, none⟩) (Or.inl (by simp)) (.int .i64 (w64 na))).setCell (p := ⟨A, 2, none⟩) (Or.inl (by simp)) (.int .i64 (w64 nb))).setCell (p := ⟨A, 3, none⟩) (Or.inl (by simp)) (.int .i64 (w64 nc))).setCell (p := ⟨Bm, 0, none⟩) (Or.inl (by simp)) (.int .i64 (w64 nd))).then hb5'
  have kA : w5.heap[A]? = some (.cells #[.slice none 0 0, .int .i64 (w64 na), .int .i64 (w64 nb), .int .i64 (w64 nc), .string ⟨#[]⟩] 24 (0, 0)) :=
   box_bel (((keep_set _ Bm 0 _).at (blk_set (blk_set (blk_set HA4.out 1 _) 2 _) 3 _) (by simp; omega))) hb5'
  have kM : w5.heap[Bm]? = some (.cells #[.int .i64 (w64 nd)] 3 (0, 0)) :=
   box_bel (blk_set (((keep_set _ A 3 _).at ((keep_set _ A 2 _).at ((keep_set _ A 1 _).at HM4.out (by simp; omega)) (by simp; omega)) (by simp; omega))) 0 _) hb5'
  have kR := hk5.at HR4.out (by simp; omega)
  have HKR := Lib.hid kR
  have HKA := Lib.hid kA
  have HKM := Lib.hid kM
  have HB5 := Lib.hid (bel_keep HB4.out hk5 (fun k hk => by simp at hk; omega))
  have HZ5 := Lib.hid (show Q < w5.heap.size by have := hk5.size; rw [HZ4.out] at this; omega)
  have m0 := box_cell kM 0
  obtain ⟨⟨r0, r1, r2, r3, r4⟩, f0, f1, f2, f3, f4⟩ := box5 kR
  simp only [List.getElem?_toArray, List.getElem?_cons_zero] at m0
  have HMZ := Lib.hid (str_len m4)
  obtain ⟨D, hD⟩ : ∃ D, D = w64 nd := ⟨_, rfl⟩
  have HD := Lib.hid hD
  rw [← hD] at m0 HKM
  clear hb5 hb5' hk5 kA kM kR ht4 hA hBm hQ hD
  go_wp2_with (fail)
  refine (within_any D 0 40 _).mono ?_
  rintro e z ⟨rfl, rfl⟩
  by_cases hdd : 0 ≤ D ∧ D ≤ 40
  rotate_left
  ·have hb : betw D 0 40 = false := by
    unfold betw
    by_cases h : 0 ≤ D
    ·rw [decide_eq_false (show ¬ D ≤ 40 from fun h' => hdd ⟨h, h'⟩), Bool.and_false]
    ·rw [decide_eq_false h, Bool.false_and]
   have HR := Lib.hid (HNO.out (prog_none (fun a b c d r h hd => by
    rw [HT4.out] at h
    simp only [Option.some.injEq, Prod.mk.injEq, List.cons.injEq] at h
    obtain ⟨⟨-, -, -, rfl, -⟩, -⟩ := h
    exact absurd (HD.out ▸ hd) hdd)))
   rw [hb]
   go_wp2_with (fail)
   refine bodyPost_ret (v := .tuple #[.agg #[.slice none 0 0, .int .i64 0, .int .i64 0, .int .i64 0, .string ⟨#[]⟩], .int .i64 8]) (by simp [results, Tryz.results13, go_sem, r0, r1, r2, r3, r4, f0, f1, f2, f3, f4]) rfl ⟨none, 0, by rw [HR.out.1, HR.out.2]; rfl, by rw [HR.out.1]; exact OwnG.nil _ _ _, ?_⟩
   repeat' first | exact HB5.out | refine Bel.setCell ?_ (by simp) _ | refine Bel.drewN ?_ _
  ·have hb : betw D 0 40 = true := by unfold betw; simp [hdd]
   rw [hb]
   obtain ⟨many, hmany⟩ : ∃ m : Nat, D = (m : Int) := ⟨D.toNat, by omega⟩
   have hm40 : many ≤ 40 := by omega
   have HDM := Lib.hid (show w64 nd = (many : Int) from HD.out.symm.trans hmany)
   subst hmany
   clear r0 r1 r2 r3 r4 f0 f1 f2 f3 f4 hb
   go_wp2_with (fail)
   have HZA := Lib.hid (show w.heap.size < A ∧ A < z.heap.size by have h1 := HA.out; have h2 := HBM.out; have h3 := HQ.out; have h4 := HZ5.out; omega)
   go_loopw [6, 27] (fun sv iv x => ∃ (j : Nat) (R : ByteArray) (l : List Nat) (pv : Value), iv = .int .i64 j ∧ sv = .string R ∧ j ≤ many ∧ l.length = 2 * j ∧ R.size ≤ m4.length ∧ takeP (2 * many) m4 = (takeP (2 * (many - j)) R.data.toList).map (fun x => (l ++ x.1, x.2)) ∧ OwnG plElP z.heap.size x pv (placesL (l.map w64)) ∧
    x.heap[A]? = some (.cells #[pv, .int .i64 (w64 na), .int .i64 (w64 nb), .int .i64 (w64 nc), .string ⟨#[]⟩] 24 (0, 0)) ∧ Keep [A] z x) (fun _ iv _ => many - (intOf iv).toNat)
   case atStart => exact ⟨0, ⟨m4.toArray⟩, [], .slice none 0 0, rfl, rfl, Nat.zero_le _, rfl, by rw [HMZ.out]; exact Nat.le_refl _, by rw [str_list]; simp, OwnG.nil _ _ _, HKA.out, Keep.refl _ _⟩
   case round =>
    obtain ⟨j, R, l, pv, rfl, rfl, hj, hl, hRz, htk, hown, hka, hkp⟩ := hrel
    have HL := Lib.hid hl
    have HTK := Lib.hid htk
    have HOW := Lib.hid hown
    have HKA2 := Lib.hid hka
    have HKP := Lib.hid hkp
    have HKR2 := Lib.hid (hkp.at HKR.out (by rw [List.mem_singleton]; have := HZA.out.1; omega))
    have HBW := Lib.hid (bel_keep HB5.out hkp (fun k hk => by rw [List.mem_singleton] at hk; have := HZA.out.1; omega))
    have HZW := Lib.hid hkp.size
    have hts := HSS.out
    obtain ⟨pp, pc, rfl⟩ := ownG_len hown
    have hpl : (placesL (l.map w64)).length = j := by rw [places_len, List.length_map, hl]; omega
    have HPL := Lib.hid hpl
    clear hl htk hown hka hkp hpl
    by_cases hjm : j < many
    ·have hji : (j : Int) < (many : Int) := by omega
     go_wp2_with (fail)
     obtain ⟨C, hC⟩ : ∃ C, C = wr.heap.size := ⟨_, rfl⟩
     obtain ⟨x1, hx1⟩ : ∃ x, x = (wr.alloc (.cells #[.int .i64 0, .int .i64 0] 95)).alloc (.cells #[.pointer (some ⟨C, 0, none⟩), .pointer (some ⟨C, 1, none⟩)] 102) := ⟨_, rfl⟩
     have kC : x1.heap[C]? = some (.cells #[.int .i64 0, .int .i64 0] 95 (0, 0)) := by
      rw [hx1, hC]; exact (Below.block ((Bel.refl (wr.alloc _)).alloc _) wr.heap.size (by simp)).trans (heap_alloc_new wr _)
     have kP : x1.heap[C + 1]? = some (.cells #[.pointer (some ⟨C, 0, none⟩), .pointer (some ⟨C, 1, none⟩)] 102 (0, 0)) := by
      have e : (wr.alloc (.cells #[.int .i64 0, .int .i64 0] 95)).heap.size = C + 1 := by rw [hC]; simp
      rw [hx1, ← e]; exact heap_alloc_new _ _
     have HB1 := Lib.hid (show Bel wr x1 by rw [hx1]; exact ((Bel.refl wr).alloc _).alloc _)
     rw [← hC, ← hx1]
     have HC := Lib.hid hC
     have HKC := Lib.hid kC
     have HP2 := Lib.hid (two_ptrs kP)
     clear hC hx1 kC kP
     refine (taken_any R (some ⟨C + 1, 0, none⟩) 2 [⟨C, 0, none⟩, ⟨C, 1, none⟩] x1 HP2.out (by omega) (by simp) (fun a ha => ?_) (fun a ha q hq => ?_)).mono ?_
     ·simp only [List.mem_cons, List.not_mem_nil, or_false] at ha
      rcases ha with rfl | rfl
      ·exact ⟨rfl, _, _, HKC.out, by simp⟩
      ·exact ⟨rfl, _, _, HKC.out, by simp⟩
     ·simp only [Option.some.injEq] at hq
      subst hq
      simp only [List.mem_cons, List.not_mem_nil, or_false] at ha
      rcases ha with rfl | rfl <;> (show C + 1 ≠ C; omega)
     rintro e x2 (⟨L2, m2, ht2, rfl, hm2, hb2⟩ | ⟨ht2, rfl, hk2⟩)
     rotate_left
     ·have HR := Lib.hid (HNO.out (prog_none (fun a b c d r h hd L m h' => by
       exfalso
       rw [HT4.out] at h
       simp only [Option.some.injEq, Prod.mk.injEq, List.cons.injEq] at h
       obtain ⟨⟨-, -, -, rfl, -⟩, rfl⟩ := h
       rw [HDM.out, Int.toNat_natCast, HTK.out, show 2 * (many - j) = 2 + 2 * (many - j - 1) by omega, takeP_add, show takeP 2 R.data.toList = none from ht2] at h'
       cases h')))
      have HB2 := Lib.hid (bel_keep (HBW.out.trans HB1.out) hk2 (fun k hk => by simp at hk; have := HC.out; have := HBW.out.size; omega))
      obtain ⟨⟨r0, r1, r2, r3, r4⟩, f0, f1, f2, f3, f4⟩ := box5 (hk2.at (box_bel HKR2.out HB1.out) (by simp; have := HC.out; have := box_lt HKR2.out; omega))
      clear hk2
      go_wp2_with (fail)
      refine bodyPost_ret (v := .tuple #[.agg #[.slice none 0 0, .int .i64 0, .int .i64 0, .int .i64 0, .string ⟨#[]⟩], .int .i64 8]) (by simp [results, Tryz.results13, go_sem, r0, r1, r2, r3, r4, f0, f1, f2, f3, f4]) rfl ⟨none, 0, by rw [HR.out.1, HR.out.2]; rfl, by rw [HR.out.1]; exact OwnG.nil _ _ _, ?_⟩
      repeat' first | exact HB2.out | refine Bel.setCell ?_ (by simp) _ | refine Bel.drewN ?_ _
     ·obtain ⟨n1, n2, rfl⟩ : ∃ a b, L2 = [a, b] := by
       have h := (takeP_back _ _ _ _ ht2).1
       match L2, h with
       | [a, b], _ => exact ⟨a, b, rfl⟩
      have HSTEP := Lib.hid (show takeP (2 * many) m4 = (takeP (2 * (many - (j + 1))) m2).map (fun x => ((l ++ [n1, n2]) ++ x.1, x.2)) by
       rw [HTK.out, show 2 * (many - j) = 2 + 2 * (many - (j + 1)) by omega, takeP_add, show takeP 2 R.data.toList = some ([n1, n2], m2) from ht2]
       simp only
       cases takeP (2 * (many - (j + 1))) m2 with
       | none => rfl
       | some x => simp)
      have hb2' : Bel ((x1.setCell ⟨C, 0, none⟩ (.int .i64 (w64 n1))).setCell ⟨C, 1, none⟩ (.int .i64 (w64 n2))) x2 := hb2
      have hk2 : Keep [C] x1 x2 := (((Keep.refl [C] x1).setCell (p := ⟨C, 0, none⟩) (Or.inl (by simp)) (.int .i64 (w64 n1))).setCell (p := ⟨C, 1, none⟩) (Or.inl (by simp)) (.int .i64 (w64 n2))).then hb2'
      have HB2 := Lib.hid (show Bel wr x2 from bel_keep HB1.out hk2 (fun k hk => by rw [List.mem_singleton] at hk; have := HC.out; omega))
      have kC : x2.heap[C]? = some (.cells #[.int .i64 (w64 n1), .int .i64 (w64 n2)] 95 (0, 0)) := box_bel (blk_set (blk_set HKC.out 0 _) 1 _) hb2'
      have c0 := box_cell kC 0
      have c1 := box_cell kC 1
      have kA := box_bel HKA2.out HB2.out
      have a0 := box_cell kA 0
      simp only [List.getElem?_toArray, List.getElem?_cons_zero, List.getElem?_cons_succ] at c0 c1 a0
      have HKA3 := Lib.hid kA
      have HO2 := Lib.hid (HOW.out.bel HB2.out)
      have HMZ2 := Lib.hid (str_len m2)
      have HM2 := Lib.hid (show m2.length ≤ R.size from hm2)
      have HPLS := Lib.hid (show placesL ((l ++ [n1, n2]).map w64) = placesL (l.map w64) ++ [⟨w64 n1, w64 n2⟩] by
       have h1 := HL.out
       have e := places_take j ((l ++ [n1, n2]).map w64) (by simp; omega)
       rw [List.take_of_length_le (by simp; omega)] at e
       rw [e]
       have e1 : ((l ++ [n1, n2]).map w64).take (2 * j) = l.map w64 := by rw [List.map_append, List.take_left' (by rw [List.length_map, h1])]
       rw [e1]
       congr 2
       rw [PL.mk.injEq]
       constructor
       ·rw [List.getElem_map, List.getElem_append_right (by omega)]; simp [h1]
       ·rw [List.getElem_map, List.getElem_append_right (by omega)]; simp [h1])
      clear hb2 hb2' hk2 kC kA ht2 hm2
      go_wp2_with (at_builtin; refine stop_here ?_)
      refine go_on ?_
      obtain ⟨P0, hP0⟩ : ∃ P0, P0 = placesL (l.map w64) := ⟨_, rfl⟩
      rw [← hP0] at HO2 HPL HKA3 HPLS a0
      rw [← hP0]
      refine append_glit (L := P0) plOkP rfl _ _ rfl rfl HO2.out _ _ _ [(⟨w64 n1, w64 n2⟩ : PL)] rfl rfl rfl (by have := HPL.out; simp only [List.length_cons, List.length_nil]; unfold maxLen; omega) (by have := HPL.out; simp only [List.length_cons, List.length_nil]; omega) (Nat.le_trans HZW.out HB2.out.size) (Or.inl rfl) ?_
      intro v8 w8 ho8 hb8 hz8
      have HO8 := Lib.hid ho8
      obtain ⟨p8, c8, rfl⟩ := ownG_len ho8
      have HKA8 := Lib.hid ((hb8.block A HZA.out.2).trans HKA3.out)
      have HK8 := Lib.hid (show Keep [A] z w8 from keep_below (HKP.out.then HB2.out) hb8 (Nat.le_refl _))
      have HPL8 := Lib.hid (show (P0 ++ [(⟨w64 n1, w64 n2⟩ : PL)]).length = P0.length + 1 by simp)
      have s0 := box_cell HKA8.out 0
      have s1 := box_frozen HKA8.out 0
      simp only [List.getElem?_toArray, List.getElem?_cons_zero] at s0
      clear ho8 hb8 hz8 c0 c1 a0 hP0
      go_wp2_with (fail)
      go_roundw
      case rel =>
       refine ⟨j + 1, ⟨m2.toArray⟩, l ++ [n1, n2], .slice p8 (P0.length + 1) c8, by go_num, rfl, hjm, by rw [List.length_append, HL.out]; simp; omega, by rw [HMZ2.out]; have := HM2.out; omega, by rw [str_list]; exact HSTEP.out, ?_, blk_set HKA8.out 0 _, HK8.out.setCell (p := ⟨A, 0, none⟩) (Or.inl (by simp)) _⟩
       rw [HPLS.out]
       have h := HO8.out
       rw [HPL8.out] at h
       exact h.setCell (p := ⟨A, 0, none⟩) HZA.out.2 _
      case measure => simp [intOf]; omega
    ·obtain rfl : j = many := by omega
     have hji : ¬ (j : Int) < (j : Int) := by omega
     have HTK2 := Lib.hid (show takeP (2 * j) m4 = some (l, R.data.toList) by rw [HTK.out, Nat.sub_self]; simp [takeP])
     obtain ⟨st, hst⟩ : ∃ st : MS, st = ⟨placesL (l.map w64), w64 na, w64 nb, w64 nc, R⟩ := ⟨_, rfl⟩
     have HST := Lib.hid (show progX na nb nc l R.data.toList = st by rw [hst]; unfold progX; rw [ba_list])
     have HSTD := Lib.hid hst
     have HYES := Lib.hid (fun (h : rightM st = true) => unp_some (by rw [← HST.out] at h ⊢; exact prog_right HT4.out (by rw [HDM.out]; exact hdd) (by rw [HDM.out, Int.toNat_natCast]; exact HTK2.out) h : unpackM t = some st))
     have HNOT := Lib.hid (fun (h : rightM st = false) => HNO.out (prog_none (fun a b c d r h1 hd L m h2 => by
      rw [HT4.out] at h1
      simp only [Option.some.injEq, Prod.mk.injEq, List.cons.injEq] at h1
      obtain ⟨⟨rfl, rfl, rfl, rfl, -⟩, rfl⟩ := h1
      rw [HDM.out, Int.toNat_natCast, HTK2.out] at h2
      simp only [Option.some.injEq, Prod.mk.injEq] at h2
      obtain ⟨rfl, rfl⟩ := h2
      rw [HST.out]; exact h)))
     obtain ⟨⟨a0, a1, a2, a3, a4⟩, g0, g1, g2, g3, g4⟩ := box5 HKA2.out
     clear hst
     obtain ⟨FF, hFF⟩ : ∃ FF, FF = (placesL (l.map w64)).length := ⟨_, rfl⟩
     have HFF := Lib.hid hFF
     rw [← hFF] at HOW HKA2 a0
     have HRI := Lib.hid (show ∀ y, OwnG plElP z.heap.size y (.slice pp FF pc) (placesL (l.map w64)) → Calls Tryz.prog 15 #[.agg #[.slice pp FF pc, .int .i64 (w64 na), .int .i64 (w64 nb), .int .i64 (w64 nc), .string R]] y fun r w' => r = .returned (.bool (rightM st)) ∧ Bel y w' from fun y hy => by
      have h1 := HSTD.out
      have := right13_any pp pc st y (by rw [h1]; exact pls_ownP hy) (by rw [h1]; show (placesL (l.map w64)).length ≤ _; have := HPL.out; omega) (by rw [h1]; show R.size ≤ _; omega)
      rw [h1] at this ⊢
      rw [HFF.out]
      exact this)
     clear hFF
     go_wp2_with (fail)
     obtain ⟨x6, hx6⟩ : ∃ x, x = wr.setCell ⟨A, 4, none⟩ (.string R) := ⟨_, rfl⟩
     rw [← hx6]
     have HO6 := Lib.hid (show OwnG plElP z.heap.size x6 (.slice pp FF pc) (placesL (l.map w64)) by rw [hx6]; exact HOW.out.setCell (p := ⟨A, 4, none⟩) HZA.out.2 _)
     have HK6 := Lib.hid (show x6.heap[A]? = some (.cells #[.slice pp FF pc, .int .i64 (w64 na), .int .i64 (w64 nb), .int .i64 (w64 nc), .string R] 24 (0, 0)) by rw [hx6]; exact blk_set HKA2.out 4 _)
     have HB6 := Lib.hid (show Bel w x6 by rw [hx6]; exact HBW.out.setCell (p := ⟨A, 4, none⟩) (by show w.heap.size ≤ A; have := HZA.out; omega) _)
     have HR6 := Lib.hid (show x6.heap[w.heap.size]? = some (.cells #[.slice none 0 0, .int .i64 0, .int .i64 0, .int .i64 0, .string ⟨#[]⟩] 24 (0, 0)) by rw [hx6]; exact (keep_set wr A 4 _).at HKR2.out (by rw [List.mem_singleton]; have := HZA.out; omega))
     clear hx6 a0 a1 a2 a3 a4 g0 g1 g2 g3 g4
     refine (HRI.out x6 HO6.out).mono ?_
     rintro e x7 ⟨rfl, hb7⟩
     have HB7 := Lib.hid (HB6.out.trans hb7)
     have HO7 := Lib.hid (HO6.out.bel hb7)
     obtain ⟨⟨r0, r1, r2, r3, r4⟩, f0, f1, f2, f3, f4⟩ := box5 (box_bel HR6.out hb7)
     obtain ⟨⟨a0, a1, a2, a3, a4⟩, -⟩ := box5 (box_bel HK6.out hb7)
     clear hb7
     cases hr : rightM st with
     | false =>
      have HR := Lib.hid (HNOT.out hr)
      go_wp2_with (fail)
      refine bodyPost_ret (v := .tuple #[.agg #[.slice none 0 0, .int .i64 0, .int .i64 0, .int .i64 0, .string ⟨#[]⟩], .int .i64 8]) (by simp [results, Tryz.results13, go_sem, r0, r1, r2, r3, r4, f0, f1, f2, f3, f4]) rfl ⟨none, 0, by rw [HR.out.1, HR.out.2]; rfl, by rw [HR.out.1]; exact OwnG.nil _ _ _, ?_⟩
      repeat' first | exact HB7.out | refine Bel.setCell ?_ (by simp) _ | refine Bel.drewN ?_ _
     | true =>
      have HR := Lib.hid (HYES.out hr)
      have hlow : w.heap.size < z.heap.size := by have := HZA.out; omega
      go_wp2_with (fail)
      refine bodyPost_ret (v := .tuple #[.agg #[.slice pp FF pc, .int .i64 (w64 na), .int .i64 (w64 nb), .int .i64 (w64 nc), .string R], .int .i64 0]) (by simp [results, Tryz.results13, go_sem, r0, r1, r2, r3, r4, f0, f1, f2, f3, f4]) rfl ⟨pp, pc, by rw [HR.out.1, HR.out.2, HSTD.out, HFF.out], ?_, ?_⟩
      ·rw [HR.out.1, HSTD.out]
       show OwnG plElP w.heap.size _ (.slice pp (placesL (l.map w64)).length pc) (placesL (l.map w64))
       rw [← HFF.out]
       exact OwnG.low (B := z.heap.size) (((((HO7.out.setCell hlow _).setCell hlow _).setCell hlow _).setCell hlow _).setCell hlow _) (by omega)
      ·repeat' first | exact HB7.out | refine Bel.setCell ?_ (by simp) _ | refine Bel.drewN ?_ _
set_option maxRecDepth 100000

def Ints13 (w : World) (p : Option Addr) (L : List Int) : Prop := ∀ i (h : i < L.length), ∃ a, p = some a ∧ w.cell? (a.add i) = some (.int .i64 L[i])
theorem Ints13.bel {w x : World} {p : Option Addr} {L : List Int} (h : Ints13 w p L) (hb : Bel w x) : Ints13 x p L := by
 intro i hi
 obtain ⟨a, ha, hc⟩ := h i hi
 exact ⟨a, ha, cl13 hb hc⟩
theorem ints13_new {W : World} {B : Nat} {arr : Array Value} {T : TypeId} (L : List Int) (h : W.heap[B]? = some (.cells arr T (0, 0))) (harr : arr.toList = L.map (fun n => Value.int .i64 n)) : Ints13 W (some ⟨B, 0, none⟩) L := fun i hi => by
 refine ⟨_, rfl, ?_⟩
 have e : (⟨B, 0, none⟩ : Addr).add i = ⟨B, i, none⟩ := by cases i <;> simp [Addr.add]
 rw [e, box_cell h]
 have : arr.toList[i]? = some (.int .i64 L[i]) := by rw [harr, List.getElem?_map, List.getElem?_eq_getElem hi]; rfl
 simpa using this
def WrRel (L : List Int) (w : World) (i : Value) (x : World) : Prop := ∃ k : Nat, k ≤ L.length ∧ i = .int .i64 k ∧ BldW w.heap.size (putsL (L.take k)) x ∧ Bel w x
set_option maxHeartbeats 2000000 in
theorem written_any (p : Option Addr) (cap : Nat) (L : List Int) (w : World) (h : Ints13 w p L) (hL : L.length ≤ 300) (hin : ∀ n ∈ L, 0 ≤ n ∧ n ≤ 1099511627776) :
  Calls Tryz.prog 38 #[.slice p L.length cap] w fun e w' => e = .returned (.string ⟨(putsL L).toArray⟩) ∧ Bel w w' := by
 have H := Lib.hid h; clear h
 have HI := Lib.hid hin; clear hin
 go_enter Tryz.func38, Tryz.ntmps38
 go_wp2_with (fail)
 go_loopw [8] (fun i x => WrRel L w i x) (fun i _ => L.length - (intOf i).toNat)
 case atStart => exact ⟨0, Nat.zero_le _, rfl, BldW.new w, (Bel.refl w).alloc _⟩
 case round =>
  obtain ⟨k, hk, rfl, hbl, hb⟩ := hrel
  have HL := Lib.hid hbl; clear hbl
  have HB := Lib.hid hb; clear hb
  have hlen := putsL_len (L.take k)
  rw [List.length_take] at hlen
  have HLN := Lib.hid hlen
  clear hlen
  by_cases hlt : k < L.length
  ·obtain ⟨a, rfl, hc⟩ := (H.out.bel HB.out) k hlt
   have hr := HI.out L[k] (List.getElem_mem hlt)
   have HS := Lib.hid (show putsL (L.take (k + 1)) = putsL (L.take k) ++ putL L[k].toNat from puts_take hlt)
   have hkk : (k : Int) < (L.length : Int) := by omega
   generalize L[k] = n at *
   obtain ⟨m, rfl⟩ : ∃ m : Nat, n = (m : Int) := ⟨n.toNat, by omega⟩
   have hwr : IntKind.u64.wrap (m : Int) = (m : Int) := by rw [wrap_u64]; omega
   rw [Int.toNat_natCast] at HS
   have hz := Lib.hid (putL_len m)
   have hz9 := Lib.hid (szN_le m)
   go_wp2_with (fail)
   refine (put_any m _ (by omega)).mono ?_
   rintro e w2 ⟨rfl, hb⟩
   replace HB := Lib.hid (HB.out.trans hb)
   replace HL := Lib.hid (HL.out.bel hb); clear hb
   go_wp2_with (fail)
   refine (bwrite13_any w.heap.size _ ⟨(putL m).toArray⟩ _ HL.out ?_).mono ?_
   ·have := hz.out; have := hz9.out; have := HLN.out
    show _ + (putL m).toArray.size ≤ _
    simp only [List.size_toArray]; omega
   rintro e w3 ⟨rfl, hbl, hb⟩
   replace HB := Lib.hid (Below.trans HB.out hb)
   have HL3 := Lib.hid hbl
   clear hb hbl HL
   go_wp2_with (fail)
   go_roundw
   case rel => exact ⟨k + 1, hlt, by go_num, by rw [HS.out]; exact HL3.out, HB.out⟩
   case measure => simp [intOf]; omega
  ·have HX := Lib.hid (show L.take k = L from List.take_of_length_le (by omega))
   go_wp2_with (fail)
   refine (bstring_any w.heap.size _ _ HL.out).mono ?_
   rintro e w3 ⟨rfl, hb⟩
   replace HB := Lib.hid (Below.trans HB.out hb); clear hb
   go_wp2_with (fail)
   go_ret
   exact ⟨ret_string (by rw [HX.out]), HB.out⟩
set_option maxHeartbeats 4000000 in
theorem pack13_any (p : Option Addr) (c : Nat) (s : MS) (w : World) (h : PlsAt w p s.files) (hl : s.files.length ≤ 100000) (hz : s.mt.size ≤ 100000000) :
  Calls Tryz.prog 11 #[.agg #[.slice p s.files.length c, .int .i64 s.next, .int .i64 s.seq, .int .i64 s.log, .string s.mt]] w fun r w' => r = .returned (packV s) ∧ Bel w w' := by
 obtain ⟨w1, hw1⟩ : ∃ z, z = w.alloc (.cells #[.slice p s.files.length c, .int .i64 s.next, .int .i64 s.seq, .int .i64 s.log, .string s.mt] 24) := ⟨_, rfl⟩
 have hB1 : Bel w w1 := by rw [hw1]; exact (Bel.refl w).alloc _
 have kx : w1.heap[w.heap.size]? = some (.cells #[.slice p s.files.length c, .int .i64 s.next, .int .i64 s.seq, .int .i64 s.log, .string s.mt] 24 (0, 0)) := by rw [hw1]; exact tnew13 w _ _
 obtain ⟨⟨x0, x1, x2, x3, x4⟩, -⟩ := box5 kx
 have H := Lib.hid (h.bel hB1)
 have HB1 := Lib.hid hB1
 have HR := Lib.hid (right13_any p c s w1 (h.bel hB1) hl hz)
 clear h hB1 kx
 go_enter Tryz.func11, Tryz.ntmps11
 go_wp2_with (fail)
 rw [show (w.alloc (.cells #[.slice p s.files.length c, .int .i64 s.next, .int .i64 s.seq, .int .i64 s.log, .string s.mt] 24)) = w1 from hw1.symm]
 clear hw1
 refine HR.out.mono ?_
 rintro r w2 ⟨rfl, hb2⟩
 have HB2 := Lib.hid (HB1.out.trans hb2)
 have H2 := Lib.hid (H.out.bel hb2)
 have y0 := cl13 hb2 x0
 have y1 := cl13 hb2 x1
 have y2 := cl13 hb2 x2
 have y3 := cl13 hb2 x3
 have y4 := cl13 hb2 x4
 clear hb2 x0 x1 x2 x3 x4 H HR
 cases hr : rightM s with
 | false =>
  have HV := Lib.hid (pack_no hr)
  clear hr
  go_wp2_with (fail)
  go_ret2
  exact ⟨by rw [HV.out]; rfl, HB2.out⟩
 | true =>
  have HV := Lib.hid (pack_yes hr)
  have hni := nums_in hr
  have h40 := (right_parts hr).2.1
  have HNI := Lib.hid hni
  have HN4 := Lib.hid (show ∀ n ∈ [s.next, s.seq, s.log, (s.files.length : Int)], 0 ≤ n ∧ n ≤ 1099511627776 from fun n hn => hni n (by
   simp only [numsM, List.mem_cons, List.not_mem_nil, or_false] at hn ⊢
   rcases hn with h | h | h | h <;> simp [h]))
  clear hr hni
  go_wp2_with (fail)
  obtain ⟨w3, hw3⟩ : ∃ z, z = w2.alloc (.cells #[.int .i64 s.next, .int .i64 s.seq, .int .i64 s.log, .int .i64 (s.files.length : Int)] 3) := ⟨_, rfl⟩
  rw [← hw3]
  have hb3 : Bel w2 w3 := by rw [hw3]; exact (Bel.refl w2).alloc _
  have HI3 := Lib.hid (show Ints13 w3 (some ⟨w2.heap.size, 0, none⟩) [s.next, s.seq, s.log, (s.files.length : Int)] by rw [hw3]; exact ints13_new _ (heap_alloc_new w2 _) rfl)
  have HB3 := Lib.hid hb3
  clear hw3 hb3
  refine (written_any (some ⟨w2.heap.size, 0, none⟩) 4 [s.next, s.seq, s.log, (s.files.length : Int)] w3 HI3.out (by simp) HN4.out).mono ?_
  rintro r w4 ⟨rfl, hb4⟩
  have HB4 := Lib.hid (HB3.out.trans hb4)
  have z0 := cl13 HB4.out y0
  have z4 := cl13 HB4.out y4
  have H4 := Lib.hid (H2.out.bel HB4.out)
  clear hb4 y0 y1 y2 y3 y4 H2
  have hsz4 := putsL_len [s.next, s.seq, s.log, (s.files.length : Int)]
  go_wp2_with (fail)
  go_loopw [4, 24] (fun tv iv x => ∃ (i : Nat) (S : ByteArray), i ≤ s.files.length ∧ iv = .int .i64 i ∧ tv = .string S ∧ S.data.toList = putsL [s.next, s.seq, s.log, (s.files.length : Int)] ++ putsL (pairsL (s.files.take i)) ∧ S.size ≤ 36 + 18 * i ∧ Bel w4 x) (fun _ iv _ => s.files.length - (intOf iv).toNat)
  case atStart => exact ⟨0, _, Nat.zero_le _, rfl, rfl, by simp [pairsL, putsL], by rw [str_len]; exact hsz4, Bel.refl w4⟩
  case round =>
   obtain ⟨i, S, hi, rfl, rfl, hS, hSz, hw⟩ := hrel
   have HS := Lib.hid hS
   have HW := Lib.hid hw
   by_cases hil : i < s.files.length
   ·obtain ⟨a, B, O, sp, rfl, ha, q0, q1⟩ := (H4.out.bel hw) i hil
    have hii : (i : Int) < (s.files.length : Int) := by omega
    have HPT := Lib.hid (pairs_take hil)
    have hin2 : ∀ n ∈ [s.files[i].n, s.files[i].l], 0 ≤ n ∧ n ≤ 1099511627776 := fun n hn => HNI.out n (by
     have : n ∈ pairsL s.files := by
      unfold pairsL
      rw [List.mem_flatMap]
      exact ⟨s.files[i], List.getElem_mem hil, hn⟩
     simp [numsM, this])
    have HN2 := Lib.hid hin2
    clear hin2 hS hw
    generalize s.files[i].n = pn at *
    generalize s.files[i].l = pl at *
    go_wp2_with (fail)
    obtain ⟨x4, hx4⟩ : ∃ x, x = ((wr.alloc (.cells #[.int .i64 pn, .int .i64 pl] 95)).alloc (.cells #[.int .i64 pn, .int .i64 pl] 3)) := ⟨_, rfl⟩
    rw [← hx4]
    have HX4 := Lib.hid (show Bel wr x4 by rw [hx4]; exact ((Bel.refl wr).alloc _).alloc _)
    have HI4 := Lib.hid (show Ints13 x4 (some ⟨wr.heap.size + 1, 0, none⟩) [pn, pl] by
     have e : (wr.alloc (.cells #[.int .i64 pn, .int .i64 pl] 95)).heap.size = wr.heap.size + 1 := by simp
     rw [hx4, ← e]; exact ints13_new _ (heap_alloc_new _ _) rfl)
    clear hx4
    refine (written_any (some ⟨wr.heap.size + 1, 0, none⟩) 2 [pn, pl] x4 HI4.out (by simp) HN2.out).mono ?_
    rintro r w5 ⟨rfl, hb5⟩
    have HB5 := Lib.hid (HW.out.trans (HX4.out.trans hb5))
    clear hb5
    have hsz2 : (putsL [pn, pl]).length ≤ 18 := putsL_len [pn, pl]
    have hstl := str_len (putsL [pn, pl])
    have HPZ := Lib.hid (show (⟨(putsL [pn, pl]).toArray⟩ : ByteArray).size ≤ 18 by rw [hstl]; exact hsz2)
    clear hstl
    go_wp2_with (fail)
    go_roundw
    case rel => exact ⟨i + 1, S ++ ⟨(putsL [pn, pl]).toArray⟩, hil, by go_num, rfl, by rw [HPT.out, putsL_append]; simp [HS.out], by rw [ByteArray.size_append]; have := HPZ.out; omega, HB5.out⟩
    case measure => simp [intOf]; omega
   ·obtain rfl : i = s.files.length := by omega
    have hii : ¬ (s.files.length : Int) < (s.files.length : Int) := by omega
    have q4 := cl13 hw z4
    have HV2 := Lib.hid (show Value.tuple #[.string (S ++ s.mt), .int .i64 0] = packV s by
     rw [HV.out]
     have h1 := HS.out
     rw [List.take_length] at h1
     have : (S ++ s.mt) = ⟨(encM s).toArray⟩ := by
      apply ByteArray.ext
      apply Array.ext'
      have e : encM s = (putsL [s.next, s.seq, s.log, (s.files.length : Int)] ++ putsL (pairsL s.files)) ++ s.mt.data.toList := by
       rw [← putsL_append]; rfl
      simp [e, h1]
     rw [this])
    clear hS hw
    go_wp2_with (fail)
    go_ret2
    exact ⟨by rw [← HV2.out]; rfl, HB2.out.trans (HB4.out.trans HW.out)⟩
set_option maxRecDepth 100000

theorem own_empty13 {α : Type} {E : El α} {W : World} {n B : Nat} (h : W.heap[B]? = some (.cells #[] E.T (0, 0))) (hn : n ≤ B) : OwnG E n W (.slice (some ⟨B, 0, none⟩) 0 0) [] := by
 refine ⟨by simp [El.all], Or.inr ⟨B, 0, #[], rfl, hn, h, Nat.le_refl _, by unfold maxLen; omega, by simp, by simp [El.all]⟩⟩
theorem pls_src {w : World} {a : Addr} {l : List PL} {c : Nat} (h : PlsAt w (some a) l) : SrcAt plElP w (.slice (some a) l.length c) l := by
 refine Or.inr ⟨a, c, rfl, fun j u hj => ?_⟩
 have hlen : (plElP.all l).length = l.length * 2 := El.all_len plOkP l
 have hjl : j < l.length * 2 := by rw [← hlen]; exact (List.getElem?_eq_some_iff.1 hj).1
 have hi : j / 2 < l.length := by omega
 obtain ⟨a', B, O, sp, h0, h1, h2, h3⟩ := h (j / 2) hi
 obtain rfl : a = a' := by simpa using h0
 have hk : j % 2 < 2 := Nat.mod_lt _ (by omega)
 have hg := El.all_get plOkP l (j / 2) l[j / 2] (List.getElem?_eq_getElem hi) (j % 2) hk
 rw [show j / 2 * plElP.n + j % 2 = j from by show j / 2 * 2 + j % 2 = j; omega, hj] at hg
 rcases (by omega : j % 2 = 0 ∨ j % 2 = 1) with e | e
 ·rw [e] at hg
  have hu : u = .int .i64 l[j / 2].n := by simpa [plElP] using hg
  rw [show j = j / 2 * 2 by omega, h1, hu, h2]
 ·rw [e] at hg
  have hu : u = .int .i64 l[j / 2].l := by simpa [plElP] using hg
  have e2 : a.add j = ⟨B, O + 1, none⟩ := by
   obtain ⟨ab, ao, asp⟩ := a
   have hj1 : j = j / 2 * 2 + 1 := by omega
   generalize j / 2 * 2 = m at *
   subst hj1
   cases m with
   | zero => simp [Addr.add] at h1 ⊢; exact ⟨h1.1, h1.2.1⟩
   | succ m => simp [Addr.add] at h1 ⊢; exact ⟨h1.1, by omega⟩
  rw [e2, hu, h3]
set_option maxHeartbeats 4000000 in
theorem clone13_any (p : Option Addr) (c : Nat) (l : List PL) (w : World) (h : PlsAt w p l) (hl : l.length ≤ 100000) :
  Calls Tryz.prog 80 #[.slice p l.length c] w fun e y => ∃ p' c', e = .returned (.slice p' l.length c') ∧ OwnG plElP w.heap.size y (.slice p' l.length c') l ∧ Bel w y := by
 cases p with
 | none =>
  obtain rfl : l = [] := by
   cases l with
   | nil => rfl
   | cons x l => obtain ⟨a, B, O, sp, h0, -⟩ := h 0 (by simp); cases h0
  have hnil : (binOp .eql 22 (.slice none 0 c) (.slice none 0 0)).run Tryz.prog w = .ok (.bool true) w := Lib.run_eql_slice_nil w _ _ _ _ _ _ _ Tryz.underlying22
  go_enter Tryz.func80, Tryz.ntmps80
  go_wp2_with (fail)
  go_ret
  exact ⟨none, 0, rfl, OwnG.nil _ _ _, Bel.refl w⟩
 | some a =>
  have H := Lib.hid h
  clear h
  have hnil : (binOp .eql 22 (.slice (some a) l.length c) (.slice none 0 0)).run Tryz.prog w = .ok (.bool false) w := Lib.run_eql_slice_nil w _ _ _ _ _ _ _ Tryz.underlying22
  go_enter Tryz.func80, Tryz.ntmps80
  go_wp2_with (at_builtin; refine stop_here ?_)
  refine go_on ?_
  obtain ⟨B, hB⟩ : ∃ B, B = w.heap.size := ⟨_, rfl⟩
  obtain ⟨x, hx⟩ : ∃ x, x = w.alloc (.cells #[] 95) := ⟨_, rfl⟩
  have hk : x.heap[B]? = some (.cells #[] 95 (0, 0)) := by rw [hx, hB]; exact heap_alloc_new w _
  have hb : Bel w x := by rw [hx]; exact (Bel.refl w).alloc _
  rw [← hx, ← hB]
  have HO := Lib.hid (own_empty13 (E := plElP) (n := B) hk (Nat.le_refl _))
  have HS := Lib.hid (pls_src (c := c) (H.out.bel hb))
  have HB := Lib.hid hb
  have HBE := Lib.hid hB
  clear hx hk hb hB
  refine append_src plOkP rfl _ _ rfl rfl HO.out l rfl HS.out (by simp; unfold maxLen; omega) (by simp; omega) (by rw [HBE.out]; exact HB.out.size) ?_
  intro v8 w8 ho8 hb8 hk8 hv8
  rw [List.nil_append] at ho8
  obtain ⟨p8, c8, rfl⟩ := ownG_len ho8
  have HO8 := Lib.hid ho8
  have HB8 := Lib.hid (show Bel w w8 from Below.trans HB.out (HBE.out ▸ hb8))
  clear ho8 hb8 hk8 hv8
  go_wp2_with (fail)
  go_ret
  rw [HBE.out] at HO8
  exact ⟨p8, c8, rfl, HO8.out, HB8.out⟩
set_option maxHeartbeats 4000000 in
theorem copied_any (p : Option Addr) (c : Nat) (s : MS) (w : World) (h : PlsAt w p s.files) (hl : s.files.length ≤ 100000) :
  Calls Tryz.prog 47 #[.agg #[.slice p s.files.length c, .int .i64 s.next, .int .i64 s.seq, .int .i64 s.log, .string s.mt]] w fun e y => ∃ p' c', e = .returned (.agg #[.slice p' s.files.length c', .int .i64 s.next, .int .i64 s.seq, .int .i64 s.log, .string s.mt]) ∧
   OwnG plElP w.heap.size y (.slice p' s.files.length c') s.files ∧ Bel w y := by
 have H := Lib.hid h
 clear h
 go_enter Tryz.func47, Tryz.ntmps47
 go_wp2_with (fail)
 obtain ⟨X, hX⟩ : ∃ X, X = w.heap.size := ⟨_, rfl⟩
 obtain ⟨x, hx⟩ : ∃ x, x = ((w.alloc (.cells #[.slice p s.files.length c, .int .i64 s.next, .int .i64 s.seq, .int .i64 s.log, .string s.mt] 24)).alloc (.cells #[.slice none 0 0, .int .i64 0, .int .i64 0, .int .i64 0, .string ⟨#[]⟩] 24)) := ⟨_, rfl⟩
 have kX : x.heap[X]? = some (.cells #[.slice p s.files.length c, .int .i64 s.next, .int .i64 s.seq, .int .i64 s.log, .string s.mt] 24 (0, 0)) := by
  rw [hx, hX]; exact (Below.block ((Bel.refl (w.alloc _)).alloc _) w.heap.size (by simp)).trans (heap_alloc_new w _)
 have kR : x.heap[X + 1]? = some (.cells #[.slice none 0 0, .int .i64 0, .int .i64 0, .int .i64 0, .string ⟨#[]⟩] 24 (0, 0)) := by
  have e : (w.alloc (.cells #[.slice p s.files.length c, .int .i64 s.next, .int .i64 s.seq, .int .i64 s.log, .string s.mt] 24)).heap.size = X + 1 := by rw [hX]; simp
  rw [hx, ← e]; exact heap_alloc_new _ _
 have HB := Lib.hid (show Bel w x by rw [hx]; exact ((Bel.refl w).alloc _).alloc _)
 have HZ := Lib.hid (show x.heap.size = X + 2 by rw [hx, hX]; simp)
 rw [← hx, ← hX]
 have HX := Lib.hid hX
 have HKX := Lib.hid kX
 have HKR := Lib.hid kR
 clear hx hX kX kR
 refine (clone13_any p c s.files x (H.out.bel HB.out) hl).mono ?_
 rintro e x2 ⟨p2, c2, rfl, ho2, hb2⟩
 have HO2 := Lib.hid ho2
 have HB2 := Lib.hid (HB.out.trans hb2)
 obtain ⟨⟨a0, a1, a2, a3, a4⟩, g0, g1, g2, g3, g4⟩ := box5 (box_bel HKX.out hb2)
 obtain ⟨⟨r0, r1, r2, r3, r4⟩, f0, f1, f2, f3, f4⟩ := box5 (box_bel HKR.out hb2)
 clear ho2 hb2
 go_wp2_with (fail)
 trace_state
 refine bodyPost_ret (v := .agg #[.slice p2 s.files.length c2, .int .i64 s.next, .int .i64 s.seq, .int .i64 s.log, .string s.mt]) (by simp [results, Tryz.results47, go_sem, r0, r1, r2, r3, r4, f0, f1, f2, f3, f4]) rfl ⟨p2, c2, rfl, ?_, ?_⟩
 ·have h1 : X < x.heap.size := by have := HZ.out; omega
  have h2 : X + 1 < x.heap.size := by have := HZ.out; omega
  rw [← HX.out]
  exact OwnG.low (B := x.heap.size) ((((((HO2.out.setCell (p := ⟨X, 0, none⟩) h1 _).setCell (p := ⟨X + 1, 0, none⟩) h2 _).setCell (p := ⟨X + 1, 1, none⟩) h2 _).setCell (p := ⟨X + 1, 2, none⟩) h2 _).setCell (p := ⟨X + 1, 3, none⟩) h2 _).setCell (p := ⟨X + 1, 4, none⟩) h2 _) (by omega)
 ·have h3 := HX.out
  repeat' first | exact HB2.out | refine Bel.setCell ?_ (by simp; omega) _ | refine Bel.drewN ?_ _
set_option maxRecDepth 100000

theorem pick13_same (c : Int) (n : Nat) (w : World) (hc : in64 c) (hn : 0 < n) (hn2 : n ≤ 1000000) :
  Calls Tryz.prog 21 #[.int .i64 c, .int .i64 n] w fun e w' => e = .returned (.int .i64 (pickN c n : Nat)) ∧ w' = w := by
 obtain ⟨h1, h2⟩ := hc
 by_cases h : c < 0
 ·obtain ⟨m, rfl⟩ : ∃ m : Nat, c = -(m : Int) - 1 := ⟨(-(c + 1)).toNat, by omega⟩
  have HP := Lib.hid (show ((pickN (-(m : Int) - 1) n : Nat) : Int) = (m : Int) % (n : Int) by
   unfold pickN
   rw [if_pos h, show (-(-(m : Int) - 1 + 1)).toNat = m by omega, Int.natCast_emod])
  go_enter Tryz.func21, Tryz.ntmps21
  go_wp2
  go_ret
  exact ⟨ret_int (by rw [HP.out]), rfl⟩
 ·obtain ⟨m, rfl⟩ : ∃ m : Nat, c = m := ⟨c.toNat, by omega⟩
  have HP := Lib.hid (show ((pickN m n : Nat) : Int) = (m : Int) % (n : Int) by
   unfold pickN
   rw [if_neg h, Int.toNat_natCast, Int.natCast_emod])
  go_enter Tryz.func21, Tryz.ntmps21
  go_wp2
  go_ret
  exact ⟨ret_int (by rw [HP.out]), rfl⟩
theorem pick13_at (c x : Int) (n : Nat) (w : World) (hc : in64 c) (hn : 0 < n) (hn2 : n ≤ 1000000) (hx : x = n) :
  Calls Tryz.prog 21 #[.int .i64 c, .int .i64 x] w fun e w' => e = .returned (.int .i64 (pickN c n : Nat)) ∧ w' = w := by
 subst hx; exact pick13_same c n w hc hn hn2

def asB (s : MS) : Bool := decide (s.files.length ≤ 60) && decide (s.mt.size ≤ 31000)
def asM (s : MS) : MS := if asB s = true then s else { s with files := [] }
def AsPost (w : World) (s : MS) (e : Ending) (y : World) : Prop := ∃ p c, e = .returned (.tuple #[.agg #[.slice p (asM s).files.length c, .int .i64 s.next, .int .i64 s.seq, .int .i64 s.log, .string s.mt], .bool (asB s)]) ∧ OwnG plElR w.heap.size y (.slice p (asM s).files.length c) (asM s).files ∧ Bel w y
theorem as_no {s : MS} (h : asB s = false) : (asM s).files = [] := by unfold asM; rw [if_neg (by rw [h]; simp)]
theorem as_yes {s : MS} (h : asB s = true) : asM s = s := by unfold asM; rw [if_pos h]
theorem alloc_three (w : World) (o1 o2 o3 : Obj) : (((w.alloc o1).alloc o2).alloc o3).heap.size = w.heap.size + 1 + 1 + 1 ∧ (((w.alloc o1).alloc o2).alloc o3).heap[w.heap.size]? = some o1 ∧
  (((w.alloc o1).alloc o2).alloc o3).heap[w.heap.size + 1]? = some o2 ∧ (((w.alloc o1).alloc o2).alloc o3).heap[w.heap.size + 1 + 1]? = some o3 := by
 have h1 : (w.alloc o1).heap.size = w.heap.size + 1 := by simp
 have h2 : ((w.alloc o1).alloc o2).heap.size = w.heap.size + 1 + 1 := by simp
 have b (x : World) (o : Obj) (k : Nat) (hk : k < x.heap.size) : (x.alloc o).heap[k]? = x.heap[k]? := Below.block ((Bel.refl x).alloc o) k hk
 refine ⟨by simp, ?_, ?_, ?_⟩
 ·rw [b _ _ _ (by omega), b _ _ _ (by omega)]; exact heap_alloc_new w o1
 ·rw [b _ _ _ (by omega), ← h1]; exact heap_alloc_new _ o2
 ·rw [← h2]; exact heap_alloc_new _ o3
set_option maxHeartbeats 8000000 in
theorem as13_any (p : Option Addr) (c : Nat) (s : MS) (w : World) (h : PlsAt w p s.files) (hl : s.files.length ≤ 9223372036854775807) (hz : s.mt.size ≤ 9223372036854775807) :
  Calls Tryz.prog 10 #[.agg #[.slice p s.files.length c, .int .i64 s.next, .int .i64 s.seq, .int .i64 s.log, .string s.mt]] w (AsPost w s) := by
 obtain ⟨X, hX⟩ : ∃ X, X = w.heap.size := ⟨_, rfl⟩
 obtain ⟨R, hR⟩ : ∃ R, R = w.heap.size + 1 := ⟨_, rfl⟩
 obtain ⟨S, hS⟩ : ∃ S, S = w.heap.size + 1 + 1 := ⟨_, rfl⟩
 obtain ⟨w0, hw0⟩ : ∃ z, z = (((w.alloc (.cells #[.slice p s.files.length c, .int .i64 s.next, .int .i64 s.seq, .int .i64 s.log, .string s.mt] 24)).alloc (.cells #[.slice none 0 0, .int .i64 0, .int .i64 0, .int .i64 0, .string ⟨#[]⟩] 28)).alloc (.cells #[.slice none 0 0, .int .i64 s.next, .int .i64 s.seq, .int .i64 s.log, .string s.mt] 28)) := ⟨_, rfl⟩
 obtain ⟨hz0, k0, k1, k2⟩ := alloc_three w (.cells #[.slice p s.files.length c, .int .i64 s.next, .int .i64 s.seq, .int .i64 s.log, .string s.mt] 24) (.cells #[.slice none 0 0, .int .i64 0, .int .i64 0, .int .i64 0, .string ⟨#[]⟩] 28) (.cells #[.slice none 0 0, .int .i64 s.next, .int .i64 s.seq, .int .i64 s.log, .string s.mt] 28)
 rw [← hw0] at hz0 k0 k1 k2
 rw [← hX] at k0
 rw [← hR] at k1
 rw [← hS] at k2
 have hb0 : Bel w w0 := by rw [hw0]; exact (((Bel.refl w).alloc _).alloc _).alloc _
 have HB0 := Lib.hid hb0
 have HP := Lib.hid h
 have HXE := Lib.hid hX
 have HRE := Lib.hid hR
 have HSE := Lib.hid hS
 have HKX := Lib.hid k0
 have HKR := Lib.hid k1
 have HKS := Lib.hid k2
 have HZ0 := Lib.hid (show w0.heap.size = S + 1 by rw [hz0, hS])
 clear h hb0 k0 k1 k2 hz0
 by_cases h60 : 60 < s.files.length
 ·have h60i : (60 : Int) < (s.files.length : Int) := by omega
  have HV := Lib.hid (show asB s = false by unfold asB; rw [decide_eq_false (by omega)]; rfl)
  go_enter Tryz.func10, Tryz.ntmps10
  go_wp2_with (fail)
  refine bodyPost_ret (v := .tuple #[.agg #[.slice none 0 0, .int .i64 s.next, .int .i64 s.seq, .int .i64 s.log, .string s.mt], .bool false]) (by simp [results, Tryz.results10, go_sem]) rfl ⟨none, 0, by rw [HV.out, as_no HV.out]; rfl, by rw [as_no HV.out]; exact OwnG.nil _ _ _, (((Bel.refl w).alloc _).alloc _).alloc _⟩
 by_cases h31 : 31000 < s.mt.size
 ·have h60i : ¬ (60 : Int) < (s.files.length : Int) := by omega
  have h31i : (31000 : Int) < (s.mt.size : Int) := by omega
  have HV := Lib.hid (show asB s = false by unfold asB; rw [decide_eq_false (show ¬ s.mt.size ≤ 31000 by omega), Bool.and_false])
  go_enter Tryz.func10, Tryz.ntmps10
  go_wp2_with (fail)
  refine bodyPost_ret (v := .tuple #[.agg #[.slice none 0 0, .int .i64 s.next, .int .i64 s.seq, .int .i64 s.log, .string s.mt], .bool false]) (by simp [results, Tryz.results10, go_sem]) rfl ⟨none, 0, by rw [HV.out, as_no HV.out]; rfl, by rw [as_no HV.out]; exact OwnG.nil _ _ _, (((Bel.refl w).alloc _).alloc _).alloc _⟩
 have h60i : ¬ (60 : Int) < (s.files.length : Int) := by omega
 have h31i : ¬ (31000 : Int) < (s.mt.size : Int) := by omega
 have HV := Lib.hid (show asB s = true by unfold asB; rw [decide_eq_true (show s.files.length ≤ 60 by omega), decide_eq_true (show s.mt.size ≤ 31000 by omega)]; rfl)
 go_enter Tryz.func10, Tryz.ntmps10
 go_wp2_with (fail)
 rw [← hw0, ← hS, ← hR, ← hX]
 clear hw0 hS hR hX
 go_loopw [5] (fun iv y => ∃ (i : Nat) (pv : Value), iv = .int .i64 i ∧ i ≤ s.files.length ∧ OwnG plElR (S + 1) y pv (s.files.take i) ∧ y.heap[S]? = some (.cells #[pv, .int .i64 s.next, .int .i64 s.seq, .int .i64 s.log, .string s.mt] 28 (0, 0)) ∧ Keep [S] w0 y) (fun iv _ => 100 - (intOf iv).toNat)
 case atStart => exact ⟨0, .slice none 0 0, rfl, Nat.zero_le _, OwnG.nil _ _ _, HKS.out, Keep.refl _ _⟩
 case round =>
  obtain ⟨i, pv, rfl, hi, hown, hbx, hkp⟩ := hrel
  have HOW := Lib.hid hown
  have HBX := Lib.hid hbx
  have HKP := Lib.hid hkp
  have HZ := Lib.hid (show S + 1 ≤ wr.heap.size by rw [← HZ0.out]; exact hkp.size)
  have HAX := Lib.hid (hkp.at HKX.out (by rw [List.mem_singleton]; have := HXE.out; have := HSE.out; omega))
  obtain ⟨pp, pc, rfl⟩ := ownG_len hown
  have ax := box_cell HAX.out 0
  simp only [List.getElem?_toArray, List.getElem?_cons_zero] at ax
  clear hown hbx hkp
  by_cases hil : i < s.files.length
  ·obtain ⟨a, B, O, sp, rfl, ha, y0, y1⟩ := HP.out i hil
   have hii : (i : Int) < (s.files.length : Int) := by omega
   have hbw : B < w.heap.size := World.block_lt_of_cell? _ _ y0
   have HBS := Lib.hid (show B < S by have := HSE.out; omega)
   have hBX := Lib.hid (show X < S by have := HSE.out; have := HXE.out; omega)
   have z0 := HKP.out.cell (cl13 HB0.out y0) (by rw [List.mem_singleton]; have := HBS.out; show B ≠ S; omega)
   have z1 := HKP.out.cell (cl13 HB0.out y1) (by rw [List.mem_singleton]; have := HBS.out; show B ≠ S; omega)
   have HTK := Lib.hid (show s.files.take (i + 1) = s.files.take i ++ [⟨s.files[i].n, s.files[i].l⟩] by rw [List.take_add_one, List.getElem?_eq_getElem hil]; rfl)
   have hpl : (s.files.take i).length = i := by rw [List.length_take]; omega
   generalize s.files[i].n = n at *
   generalize s.files[i].l = l at *
   obtain ⟨P0, hP0⟩ : ∃ P0, P0 = s.files.take i := ⟨_, rfl⟩
   rw [← hP0] at HOW HBX HTK hpl
   have HPL0 := Lib.hid hpl
   have c0 := box_cell HBX.out 0
   have g0 := box_frozen HBX.out 0
   simp only [List.getElem?_toArray, List.getElem?_cons_zero] at c0
   have HS := Lib.hid (show ∀ z, Below (S + 1) wr z → ((z.cell? ⟨S, 0, none⟩ = some (.slice pp P0.length pc) ∧ z.frozen? ⟨S, 0, none⟩ = false) ∧ (z.cell? ⟨X, 0, none⟩ = some (.slice (some a) s.files.length c) ∧ z.cell? ⟨B, O, sp⟩ = some (.int .i64 n) ∧ z.cell? ⟨B, O + 1, none⟩ = some (.int .i64 l)) ∧ Below (S + 1) wr z) from fun z hz =>
    ⟨⟨(hz.cell (by show S < S + 1; omega)).trans c0, (hz.frozen (by show S < S + 1; omega)).trans g0⟩, ⟨(hz.cell (by show X < S + 1; have := hBX.out; omega)).trans ax, (hz.cell (by show B < S + 1; have := HBS.out; omega)).trans z0, (hz.cell (by show B < S + 1; have := HBS.out; omega)).trans z1⟩, hz⟩)
   have HBD := Lib.hid (show Below (S + 1) wr wr.drew from (Below.refl _ _).drew)
   clear hP0 hpl c0 g0 y0 y1 z0 z1 hbw
   go_wp2_with (fail)
   refine region_L 18 (S := fun z => (z.cell? ⟨S, 0, none⟩ = some (.slice pp P0.length pc) ∧ z.frozen? ⟨S, 0, none⟩ = false) ∧ (z.cell? ⟨X, 0, none⟩ = some (.slice (some a) s.files.length c) ∧ z.cell? ⟨B, O, sp⟩ = some (.int .i64 n) ∧ z.cell? ⟨B, O + 1, none⟩ = some (.int .i64 l)) ∧ Below (S + 1) wr z) (by kernel_rfl) (HS.out _ HBD.out) (fun hHeld => ?_)
   refine AnyL.tk (oi := ⟨some 33, .fieldAddr 28 (.tmp 4) 0, 0, "law.go:27", #[], none⟩) (v := ?_) 0 rfl ?_ ?_;rotate_left;·(intros;go_simp<;>with_reducible rfl)
   try simp only[Act.put,sqA,sqB,sqC]
   refine AnyL.tk (oi := ⟨some 34, .load 26 (.tmp 33), 26, "law.go:27", #[⟨0, .data⟩], none⟩) (v := ?_) 1 rfl ?_ ?_;rotate_left;·(intros;go_simp<;>with_reducible rfl)
   try simp only[Act.put,sqA,sqB,sqC]
   refine AnyL.tk (oi := ⟨some 35, .fieldAddr 24 (.tmp 1) 0, 0, "law.go:27", #[], none⟩) (v := ?_) 2 rfl ?_ ?_;rotate_left;·(intros;go_simp<;>with_reducible rfl)
   try simp only[Act.put,sqA,sqB,sqC]
   refine AnyL.tk (oi := ⟨some 36, .load 22 (.tmp 35), 22, "law.go:27", #[⟨2, .data⟩], none⟩) (v := ?_) 3 rfl ?_ ?_;rotate_left;·(intros;go_simp<;>with_reducible rfl)
   try simp only[Act.put,sqA,sqB,sqC]
   refine AnyL.tk (oi := ⟨some 37, .move (.tmp 5), 3, "law.go:27", #[], none⟩) (v := ?_) 4 rfl ?_ ?_;rotate_left;·(intros;go_simp<;>with_reducible rfl)
   try simp only[Act.put,sqA,sqB,sqC]
   refine AnyL.tk (oi := ⟨some 38, .indexAddr 22 (.tmp 36) (.tmp 37), 0, "law.go:27", #[⟨3, .data⟩, ⟨4, .data⟩], none⟩) (v := ?_) 5 rfl ?_ ?_;rotate_left;·(intros;go_simp<;>with_reducible rfl)
   try simp only[Act.put,sqA,sqB,sqC]
   refine AnyL.tk (oi := ⟨some 39, .fieldAddr 95 (.tmp 38) 0, 0, "law.go:27", #[⟨5, .data⟩], none⟩) (v := ?_) 6 rfl ?_ ?_;rotate_left;·(intros;go_simp<;>with_reducible rfl)
   try simp only[Act.put,sqA,sqB,sqC]
   refine AnyL.tk (oi := ⟨some 40, .load 3 (.tmp 39), 3, "law.go:27", #[⟨6, .data⟩], none⟩) (v := ?_) 7 rfl ?_ ?_;rotate_left;·(intros;go_simp<;>with_reducible rfl)
   try simp only[Act.put,sqA,sqB,sqC]
   refine AnyL.tk (oi := ⟨some 41, .fieldAddr 24 (.tmp 1) 0, 0, "law.go:27", #[], none⟩) (v := ?_) 8 rfl ?_ ?_;rotate_left;·(intros;go_simp<;>with_reducible rfl)
   try simp only[Act.put,sqA,sqB,sqC]
   refine AnyL.tk (oi := ⟨some 42, .load 22 (.tmp 41), 22, "law.go:27", #[⟨8, .data⟩], none⟩) (v := ?_) 9 rfl ?_ ?_;rotate_left;·(intros;go_simp<;>with_reducible rfl)
   try simp only[Act.put,sqA,sqB,sqC]
   refine AnyL.tk (oi := ⟨some 43, .move (.tmp 5), 3, "law.go:27", #[], none⟩) (v := ?_) 10 rfl ?_ ?_;rotate_left;·(intros;go_simp<;>with_reducible rfl)
   try simp only[Act.put,sqA,sqB,sqC]
   refine AnyL.tk (oi := ⟨some 44, .indexAddr 22 (.tmp 42) (.tmp 43), 0, "law.go:27", #[⟨9, .data⟩, ⟨10, .data⟩], none⟩) (v := ?_) 11 rfl ?_ ?_;rotate_left;·(intros;go_simp<;>with_reducible rfl)
   try simp only[Act.put,sqA,sqB,sqC]
   refine AnyL.tk (oi := ⟨some 45, .fieldAddr 95 (.tmp 44) 1, 0, "law.go:27", #[⟨11, .data⟩], none⟩) (v := ?_) 12 rfl ?_ ?_;rotate_left;·(intros;go_simp<;>with_reducible rfl)
   try simp only[Act.put,sqA,sqB,sqC]
   refine AnyL.tk (oi := ⟨some 46, .load 3 (.tmp 45), 3, "law.go:27", #[⟨12, .data⟩], none⟩) (v := ?_) 13 rfl ?_ ?_;rotate_left;·(intros;go_simp<;>with_reducible rfl)
   try simp only[Act.put,sqA,sqB,sqC]
   refine AnyL.tk (oi := ⟨some 47, .build 96 #[(0, .tmp 40), (1, .tmp 46)], 96, "law.go:27", #[⟨7, .data⟩, ⟨13, .data⟩], none⟩) (v := ?_) 14 rfl ?_ ?_;rotate_left;·(intros;go_simp<;>with_reducible rfl)
   try simp only[Act.put,sqA,sqB,sqC]
   clear hHeld
   refine AnyL.ready (rs := [15]) (by kernel_rfl) (by simp) ?_
   refine (AllL.cons (o := ⟨some 48, .buildSlice 26 1 #[(0, .tmp 47)], 26, "law.go:27", #[⟨14, .data⟩], none⟩) rfl (fun K hK => ?_) AllL.nil)
   go_simp
   obtain ⟨YL, hYL⟩ : ∃ n, n = wr.heap.size := ⟨_, rfl⟩
   obtain ⟨x4, hx4⟩ : ∃ x, x = (wr.alloc (.cells #[.int .i64 n, .int .i64 l] 96)).drew := ⟨_, rfl⟩
   have HLL := Lib.hid (show x4.heap[YL]? = some (.cells #[.int .i64 n, .int .i64 l] 96 (0, 0)) by rw [hx4, hYL]; exact heap_alloc_new wr _)
   have hb4 : Bel wr x4 := by rw [hx4]; exact ((Bel.refl wr).alloc _).drew
   have HB4 := Lib.hid (show Below (S + 1) wr x4 by rw [hx4]; exact ((Below.refl _ _).alloc HZ.out _).drew)
   have HOW4 := Lib.hid (HOW.out.bel hb4)
   have HZ4 := Lib.hid (show S + 1 ≤ x4.heap.size from Nat.le_trans HZ.out hb4.size)
   refine hK.out _ _ (fun _ => by rw [← hx4]; exact HS.out _ HB4.out) ?_
   clear hK K
   try simp only[Act.put,sqA,sqB,sqC]
   rw [← hx4, ← hYL]
   clear hx4 hYL hb4
   refine AnyL.ready (rs := [16]) (by kernel_rfl) (by simp) ?_
   refine (AllL.cons (o := ⟨some 49, .call ⟨.builtin .append, #[.tmp 34, .tmp 48], #[26, 26]⟩, 26, "law.go:27", #[⟨1, .data⟩, ⟨15, .data⟩], none⟩) rfl (fun K hK => ?_) AllL.nil)
   refine step_append_seg plOkR rfl (.tmp 34) (.tmp 48) rfl rfl HOW4.out [(⟨n, l⟩ : PL)] rfl (src_at13 [(⟨n, l⟩ : PL)] HLL.out rfl rfl) (by have := HPL0.out; simp only [List.length_cons, List.length_nil]; unfold maxLen; omega) (by have := HPL0.out; simp only [List.length_cons, List.length_nil]; omega) HZ4.out ?_
   intro v8 w8 ho8 hg8 hb8
   have HB8 := Lib.hid (show Below (S + 1) wr w8 from Below.trans HB4.out hb8)
   have HO8 := Lib.hid ho8
   obtain ⟨p8, cap8, rfl⟩ := ownG_len ho8
   clear ho8 hg8 hb8
   refine hK.out _ _ (fun _ => HS.out _ HB8.out) ?_
   clear hK K
   try simp only[Act.put,sqA,sqB,sqC]
   have hHeld := HS.out _ HB8.out
   refine AnyL.tk (oi := ⟨some 50, .fieldAddr 28 (.tmp 4) 0, 0, "law.go:27", #[⟨0, .phase⟩, ⟨1, .phase⟩, ⟨2, .phase⟩, ⟨3, .phase⟩, ⟨4, .phase⟩, ⟨5, .phase⟩, ⟨6, .phase⟩, ⟨7, .phase⟩, ⟨8, .phase⟩, ⟨9, .phase⟩, ⟨10, .phase⟩, ⟨11, .phase⟩, ⟨12, .phase⟩, ⟨13, .phase⟩, ⟨14, .phase⟩, ⟨15, .phase⟩, ⟨16, .phase⟩], none⟩) (v := ?_) 17 rfl ?_ ?_;rotate_left;·(intros;go_simp<;>with_reducible rfl)
   try simp only[Act.put,sqA,sqB,sqC]
   clear hHeld
   refine AnyL.ready (rs := [18]) (by kernel_rfl) (by simp) ?_
   refine (AllL.cons (o := ⟨none, .store 26 (.tmp 50) (.tmp 49), 0, "law.go:27", #[⟨17, .data⟩, ⟨16, .data⟩, ⟨16, .chain⟩, ⟨0, .phase⟩, ⟨1, .phase⟩, ⟨2, .phase⟩, ⟨3, .phase⟩, ⟨4, .phase⟩, ⟨5, .phase⟩, ⟨6, .phase⟩, ⟨7, .phase⟩, ⟨8, .phase⟩, ⟨9, .phase⟩, ⟨10, .phase⟩, ⟨11, .phase⟩, ⟨12, .phase⟩, ⟨13, .phase⟩, ⟨14, .phase⟩, ⟨15, .phase⟩, ⟨16, .phase⟩], none⟩) rfl (fun K hK => ?_) AllL.nil)
   obtain ⟨⟨s0, s1⟩, -⟩ := HS.out _ HB8.out
   go_simp
   refine hK.out _ _ (fun h => absurd rfl h) ?_
   clear hK K
   try simp only[Act.put,sqA,sqB,sqC]
   refine AnyL.done (by kernel_rfl) ?_ _
   clear s0 s1
   have HBX8 := Lib.hid ((HB8.out.block S (by omega)).trans HBX.out)
   have HPL8 := Lib.hid (show (P0 ++ [(⟨n, l⟩ : PL)]).length = P0.length + 1 by simp)
   go_wp2_with (fail)
   go_roundw
   case rel =>
    refine ⟨i + 1, .slice p8 (P0.length + 1) cap8, by go_num, hil, ?_, blk_set HBX8.out 0 _, (keep_below HKP.out HB8.out (by rw [HZ0.out]; exact Nat.le_refl _)).setCell (p := ⟨S, 0, none⟩) (Or.inl (by simp)) _⟩
    rw [HTK.out]
    have h := HO8.out
    rw [HPL8.out] at h
    exact h.setCell (p := ⟨S, 0, none⟩) (by show S < S + 1; omega) _
   case measure => simp [intOf]; omega
  ·obtain rfl : i = s.files.length := by omega
   have hii : ¬ (s.files.length : Int) < (s.files.length : Int) := by omega
   rw [List.take_length] at HOW HBX
   obtain ⟨⟨s0, s1, s2, s3, s4⟩, -⟩ := box5 HBX.out
   obtain ⟨⟨r0, r1, r2, r3, r4⟩, f0, f1, f2, f3, f4⟩ := box5 (HKP.out.at HKR.out (by rw [List.mem_singleton]; have := HRE.out; have := HSE.out; omega))
   have HBW := Lib.hid (bel_keep HB0.out HKP.out (fun k hk => by rw [List.mem_singleton] at hk; have := HSE.out; omega))
   have HRS := Lib.hid (show R < S + 1 ∧ w.heap.size ≤ R by have := HRE.out; have := HSE.out; omega)
   have hrs := HRS.out.1
   have hrw := HRS.out.2
   go_wp2_with (fail)
   refine bodyPost_ret (v := .tuple #[.agg #[.slice pp s.files.length pc, .int .i64 s.next, .int .i64 s.seq, .int .i64 s.log, .string s.mt], .bool true]) (by simp [results, Tryz.results10, go_sem, r0, r1, r2, r3, r4, f0, f1, f2, f3, f4]) rfl ⟨pp, pc, by rw [HV.out, as_yes HV.out], ?_, ?_⟩
   ·rw [as_yes HV.out]
    exact OwnG.low (B := S + 1) (((((HOW.out.setCell (p := ⟨R, 0, none⟩) hrs _).setCell (p := ⟨R, 1, none⟩) hrs _).setCell (p := ⟨R, 2, none⟩) hrs _).setCell (p := ⟨R, 3, none⟩) hrs _).setCell (p := ⟨R, 4, none⟩) hrs _) (by have := HSE.out; omega)
   ·repeat' first | exact HBW.out | refine Bel.setCell ?_ (by simp; omega) _ | refine Bel.drewN ?_ _
set_option maxRecDepth 100000

noncomputable def eqM (a b : MS) : Bool := @decide (a = b) (Classical.propDecidable _)
theorem eqM_yes {a b : MS} (h : a = b) : eqM a b = true := by unfold eqM; exact @decide_eq_true _ (Classical.propDecidable _) h
theorem eqM_no {a b : MS} (h : a ≠ b) : eqM a b = false := by unfold eqM; exact @decide_eq_false _ (Classical.propDecidable _) h
theorem take_same {l m : List PL} {k : Nat} (hk : k < l.length) (hk' : k < m.length) (h : l.take k = m.take k) (h1 : l[k].n = m[k].n) (h2 : l[k].l = m[k].l) : l.take (k + 1) = m.take (k + 1) := by
 have he : l[k] = m[k] := by
  cases e1 : l[k]
  cases e2 : m[k]
  rw [e1, e2] at h1 h2
  simp only at h1 h2
  rw [h1, h2]
 rw [List.take_add_one, List.take_add_one, List.getElem?_eq_getElem hk, List.getElem?_eq_getElem hk', h, he]
set_option maxHeartbeats 8000000 in
theorem alike13_any (p q : Option Addr) (c d : Nat) (a b : MS) (w : World) (h : PlsAt w p a.files) (h' : PlsAt w q b.files) (hl : a.files.length ≤ 1000000) (hl' : b.files.length ≤ 1000000) :
  Calls Tryz.prog 17 #[.agg #[.slice p a.files.length c, .int .i64 a.next, .int .i64 a.seq, .int .i64 a.log, .string a.mt], .agg #[.slice q b.files.length d, .int .i64 b.next, .int .i64 b.seq, .int .i64 b.log, .string b.mt]] w fun r w' => r = .returned (.bool (eqM a b)) ∧ Bel w w' := by
 obtain ⟨an, an2, an3, an4, an5⟩ := a
 obtain ⟨bn, bn2, bn3, bn4, bn5⟩ := b
 simp only at h h' hl hl'
 have H := Lib.hid h
 have H' := Lib.hid h'
 clear h h'
 by_cases h1 : an2 = bn2
 rotate_left
 ·have HR := Lib.hid (eqM_no (a := ⟨an, an2, an3, an4, an5⟩) (b := ⟨bn, bn2, bn3, bn4, bn5⟩) (fun e => h1 (by injection e)))
  go_enter Tryz.func17, Tryz.ntmps17
  go_wp2_with (fail)
  go_ret
  exact ⟨ret_bool HR.out.symm, ((Bel.refl w).alloc _).alloc _⟩
 by_cases h2 : an3 = bn3
 rotate_left
 ·have HR := Lib.hid (eqM_no (a := ⟨an, an2, an3, an4, an5⟩) (b := ⟨bn, bn2, bn3, bn4, bn5⟩) (fun e => h2 (by injection e)))
  go_enter Tryz.func17, Tryz.ntmps17
  go_wp2_with (fail)
  go_ret
  exact ⟨ret_bool HR.out.symm, ((Bel.refl w).alloc _).alloc _⟩
 by_cases h3 : an4 = bn4
 rotate_left
 ·have HR := Lib.hid (eqM_no (a := ⟨an, an2, an3, an4, an5⟩) (b := ⟨bn, bn2, bn3, bn4, bn5⟩) (fun e => h3 (by injection e)))
  go_enter Tryz.func17, Tryz.ntmps17
  go_wp2_with (fail)
  go_ret
  exact ⟨ret_bool HR.out.symm, ((Bel.refl w).alloc _).alloc _⟩
 by_cases h4 : an5 = bn5
 rotate_left
 ·have HR := Lib.hid (eqM_no (a := ⟨an, an2, an3, an4, an5⟩) (b := ⟨bn, bn2, bn3, bn4, bn5⟩) (fun e => h4 (by injection e)))
  have h4b : (an5.toList == bn5.toList) = false := by
   rw [ByteArray.toList_eq, ByteArray.toList_eq, beq_eq_false_iff_ne]
   exact fun e => h4 (by apply ByteArray.ext; exact Array.ext' e)
  go_enter Tryz.func17, Tryz.ntmps17
  go_wp2_with (fail)
  go_ret
  exact ⟨ret_bool HR.out.symm, ((Bel.refl w).alloc _).alloc _⟩
 subst h1 h2 h3 h4
 by_cases h5 : an.length = bn.length
 rotate_left
 ·have HR := Lib.hid (eqM_no (a := ⟨an, an2, an3, an4, an5⟩) (b := ⟨bn, an2, an3, an4, an5⟩) (fun e => h5 (by injection e with e; rw [e])))
  have h5i : ¬ (an.length : Int) = (bn.length : Int) := by omega
  go_enter Tryz.func17, Tryz.ntmps17
  go_wp2_with (fail)
  go_ret
  exact ⟨ret_bool HR.out.symm, ((Bel.refl w).alloc _).alloc _⟩
 have H5 := Lib.hid h5
 rw [← h5]
 clear h5
 obtain ⟨m, hm⟩ : ∃ m, m = an.length := ⟨_, rfl⟩
 have HM := Lib.hid hm
 rw [← hm] at hl ⊢
 clear hm
 obtain ⟨w0, hw0⟩ : ∃ w0, w0 = ((w.alloc (.cells #[.slice p m c, .int .i64 an2, .int .i64 an3, .int .i64 an4, .string an5] 24)).alloc (.cells #[.slice q m d, .int .i64 an2, .int .i64 an3, .int .i64 an4, .string an5] 28)) := ⟨_, rfl⟩
 have HB0 := Lib.hid (show Bel w w0 by rw [hw0]; exact ((Bel.refl w).alloc _).alloc _)
 obtain ⟨X, hX⟩ : ∃ X, X = w.heap.size := ⟨_, rfl⟩
 have HKA := Lib.hid (show w0.heap[X]? = some (.cells #[.slice p m c, .int .i64 an2, .int .i64 an3, .int .i64 an4, .string an5] 24 (0, 0)) by
  rw [hw0, hX]; exact (Below.block ((Bel.refl (w.alloc _)).alloc _) w.heap.size (by simp)).trans (heap_alloc_new w _))
 have HKB := Lib.hid (show w0.heap[X + 1]? = some (.cells #[.slice q m d, .int .i64 an2, .int .i64 an3, .int .i64 an4, .string an5] 28 (0, 0)) by
  have e : (w.alloc (.cells #[.slice p m c, .int .i64 an2, .int .i64 an3, .int .i64 an4, .string an5] 24)).heap.size = X + 1 := by rw [hX]; simp
  rw [hw0, ← e]; exact heap_alloc_new _ _)
 go_enter Tryz.func17, Tryz.ntmps17
 go_wp2_with (fail)
 rw [← hw0, ← hX]
 clear hw0 hX
 go_loopw [5] (fun iv x => ∃ i : Nat, i ≤ m ∧ iv = .int .i64 i ∧ an.take i = bn.take i ∧ Bel w0 x) (fun iv _ => m - (intOf iv).toNat)
 case atStart => exact ⟨0, Nat.zero_le _, rfl, rfl, Bel.refl w0⟩
 case round =>
  obtain ⟨i, hi, rfl, htk, hb⟩ := hrel
  have HTK := Lib.hid htk
  have HB := Lib.hid hb
  have ka := box_cell (box_bel HKA.out hb) 0
  have kb := box_cell (box_bel HKB.out hb) 0
  simp only [List.getElem?_toArray, List.getElem?_cons_zero] at ka kb
  clear htk
  by_cases him : i < m
  ·have hia : i < an.length := by rw [← HM.out]; exact him
   have hib : i < bn.length := by rw [← H5.out]; exact hia
   have hii : (i : Int) < (m : Int) := by omega
   obtain ⟨a, B, O, sp, rfl, ha, y0, y1⟩ := ((H.out.bel HB0.out).bel hb) i hia
   obtain ⟨a', B', O', sp', rfl, ha', z0, z1⟩ := ((H'.out.bel HB0.out).bel hb) i hib
   have HNX := Lib.hid (fun (e1 : an[i].n = bn[i].n) (e2 : an[i].l = bn[i].l) => take_same hia hib HTK.out e1 e2)
   have HNE := Lib.hid (fun (e : an = bn) => (show an[i].n = bn[i].n ∧ an[i].l = bn[i].l by subst e; exact ⟨rfl, rfl⟩))
   generalize an[i].n = n1 at *
   generalize an[i].l = l1 at *
   generalize bn[i].n = n2 at *
   generalize bn[i].l = l2 at *
   clear hb
   by_cases e1 : n1 = n2
   ·by_cases e2 : l1 = l2
    ·have HN := Lib.hid (HNX.out e1 e2)
     subst e1 e2
     go_wp2_with (fail)
     go_quiet (fail)
     go_wp2_with (fail)
     go_roundw
     case rel => exact ⟨i + 1, him, by go_num, HN.out, HB.out.trans ((Bel.refl wr).drewN _)⟩
     case measure => simp [intOf]; omega
    ·have HR := Lib.hid (eqM_no (a := ⟨an, an2, an3, an4, an5⟩) (b := ⟨bn, an2, an3, an4, an5⟩) (fun e => e2 (HNE.out (by injection e)).2))
     have hne : (l1 == l2) = false := by rw [beq_eq_false_iff_ne]; exact e2
     have hne' : decide (l1 = l2) = false := decide_eq_false e2
     subst e1
     go_wp2_with (fail)
     go_quiet (fail)
     go_wp2_with (fail)
     go_ret
     exact ⟨ret_bool HR.out.symm, HB0.out.trans (HB.out.trans ((Bel.refl wr).drewN _))⟩
   ·have HR := Lib.hid (eqM_no (a := ⟨an, an2, an3, an4, an5⟩) (b := ⟨bn, an2, an3, an4, an5⟩) (fun e => e1 (HNE.out (by injection e)).1))
    have hne : (n1 == n2) = false := by rw [beq_eq_false_iff_ne]; exact e1
    have hne' : decide (n1 = n2) = false := decide_eq_false e1
    go_wp2_with (fail)
    go_quiet (fail)
    go_wp2_with (fail)
    go_ret
    exact ⟨ret_bool HR.out.symm, HB0.out.trans (HB.out.trans ((Bel.refl wr).drewN _))⟩
  ·have hii : ¬ (i : Int) < (m : Int) := by omega
   have HR := Lib.hid (eqM_yes (a := ⟨an, an2, an3, an4, an5⟩) (b := ⟨bn, an2, an3, an4, an5⟩) (by
    have h1 := HTK.out
    rw [List.take_of_length_le (by rw [← HM.out]; omega), List.take_of_length_le (by rw [← H5.out, ← HM.out]; omega)] at h1
    rw [h1]))
   clear hb
   go_wp2_with (fail)
   go_ret
   exact ⟨ret_bool HR.out.symm, HB0.out.trans HB.out⟩
set_option maxRecDepth 100000

set_option maxHeartbeats 8000000 in
theorem same13_any (p q : Option Addr) (c d : Nat) (a b : MS) (w : World) (h : PlsAt w p a.files) (h' : PlsAt w q b.files) (hl : a.files.length ≤ 1000000) (hl' : b.files.length ≤ 9223372036854775807) (hz : b.mt.size ≤ 9223372036854775807) :
  Calls Tryz.prog 18 #[.agg #[.slice p a.files.length c, .int .i64 a.next, .int .i64 a.seq, .int .i64 a.log, .string a.mt], .agg #[.slice q b.files.length d, .int .i64 b.next, .int .i64 b.seq, .int .i64 b.log, .string b.mt]] w fun r w' => r = .returned (.bool (asB b && eqM a b)) ∧ Bel w w' := by
 obtain ⟨X, hX⟩ : ∃ X, X = w.heap.size := ⟨_, rfl⟩
 obtain ⟨w0, hw0⟩ : ∃ w0, w0 = ((w.alloc (.cells #[.slice p a.files.length c, .int .i64 a.next, .int .i64 a.seq, .int .i64 a.log, .string a.mt] 24)).alloc (.cells #[.slice q b.files.length d, .int .i64 b.next, .int .i64 b.seq, .int .i64 b.log, .string b.mt] 24)) := ⟨_, rfl⟩
 have hb0 : Bel w w0 := by rw [hw0]; exact ((Bel.refl w).alloc _).alloc _
 have HB0 := Lib.hid hb0
 have HKA := Lib.hid (show w0.heap[X]? = some (.cells #[.slice p a.files.length c, .int .i64 a.next, .int .i64 a.seq, .int .i64 a.log, .string a.mt] 24 (0, 0)) by
  rw [hw0, hX]; exact (Below.block ((Bel.refl (w.alloc _)).alloc _) w.heap.size (by simp)).trans (heap_alloc_new w _))
 have HAS := Lib.hid (as13_any q d b w0 (h'.bel hb0) hl' hz)
 have H := Lib.hid (h.bel hb0)
 clear h h' hb0
 go_enter Tryz.func18, Tryz.ntmps18
 go_wp2_with (fail)
 rw [← hw0]
 clear hw0
 refine HAS.out.mono ?_
 rintro e w1 ⟨p1, c1, rfl, ho1, hb1⟩
 have HO1 := Lib.hid ho1
 have HB1 := Lib.hid (HB0.out.trans hb1)
 have HA1 := Lib.hid (H.out.bel hb1)
 obtain ⟨⟨x0, x1, x2, x3, x4⟩, -⟩ := box5 (box_bel (box_bel HKA.out hb1) ((Bel.refl w1).alloc (.cells #[.slice p1 (asM b).files.length c1, .int .i64 b.next, .int .i64 b.seq, .int .i64 b.log, .string b.mt] 28)))
 rw [← hX]
 clear ho1 hb1 hX
 cases has : asB b with
 | false =>
  have HR := Lib.hid (show (asB b && eqM a b) = false by rw [has]; rfl)
  go_wp2_with (fail)
  go_ret
  exact ⟨ret_bool HR.out.symm, HB1.out.alloc _⟩
 | true =>
  have HBE := Lib.hid (as_yes has)
  rw [HBE.out] at HO1 x0 x1 x2 x3 x4 ⊢
  have hbl : b.files.length ≤ 1000000 := by
   unfold asB at has
   simp only [Bool.and_eq_true, decide_eq_true_eq] at has
   omega
  have HAL := Lib.hid (show ∀ z, Bel w1 z → Calls Tryz.prog 17 #[.agg #[.slice p a.files.length c, .int .i64 a.next, .int .i64 a.seq, .int .i64 a.log, .string a.mt], .agg #[.slice p1 b.files.length c1, .int .i64 b.next, .int .i64 b.seq, .int .i64 b.log, .string b.mt]] z fun r w' => r = .returned (.bool (eqM a b)) ∧ Bel z w' from fun z hz' =>
   alike13_any p p1 c c1 a b z (HA1.out.bel hz') ((pls_ownR HO1.out).bel hz') hl hbl)
  have HR := Lib.hid (show (asB b && eqM a b) = eqM a b by rw [has]; rfl)
  clear has
  go_wp2_with (fail)
  refine (HAL.out _ ((Bel.refl w1).alloc _)).mono ?_
  rintro e w2 ⟨rfl, hb2⟩
  have HB2 := Lib.hid ((HB1.out.alloc _).trans hb2)
  clear hb2
  go_wp2_with (fail)
  go_ret
  exact ⟨ret_bool HR.out.symm, HB2.out⟩
end Go.Proofs.YtfbiinnenlgkfaaGreatDoor
