/- The contracts of Narrow, and of moultref2's Widen and Narrow. -/
import Derived.Test.YtdlbihkollicfaaLat7
set_option linter.unusedSimpArgs false
set_option linter.unusedVariables false
namespace Go.Proofs.Ytdlbihkollicfaa
open Go.RowKit

set_option maxHeartbeats 1000000 in
theorem ref_widen_any (k n : Int) (s : ByteArray) (q : Int) (w : World) (hs : s.size ≤ maxLen) :
    Calls Try.prog 21 #[.agg #[.int .i64 k, .int .i64 n, .string s], .int .i64 q] w fun e w' => e = .returned (.tuple #[takeV q n s (widE k n s.data.toList q), .int .i64 (widE k n s.data.toList q)]) ∧ Bel w w' := by
  go_enter Try.func21, Try.ntmps21
  go_wp2_with (fail)
  refine (ref_right_any k n s _ hs).mono ?_
  rintro e w1 ⟨rfl, hb⟩
  obtain ⟨q0, q1, q2, _, _, _, z0⟩ := ((VAt.new w k n s 30).bel ((Bel.refl _).alloc _)).bel hb
  obtain ⟨r0, r1, r2, f0, f1, f2, z1⟩ := (VAt.new (w.alloc (.cells #[.int .i64 k, .int .i64 n, .string s] 30)) 0 0 ⟨#[]⟩ 30).bel hb
  rw [show (w.alloc (.cells #[.int .i64 k, .int .i64 n, .string s] 30)).heap.size = w.heap.size + 1 by simp] at r0 r1 r2 f0 f1 f2 z1
  have HB := Lib.hid ((((Bel.refl w).alloc _).alloc _).trans hb); clear hb
  rcases hr : rightB k n s.data.toList with _ | _
  · have HE := Lib.hid (show widE k n s.data.toList q = 1 by simp [widE, hr])
    clear hr
    go_wp2_with (fail)
    rw [HE.out, takeV_err _ _ _ (by decide)]
    exact bodyPost_ret (v := .tuple #[.agg #[.int .i64 0, .int .i64 0, .string ⟨#[]⟩], .int .i64 1]) (by simp [results, Try.results21, go_sem, r0, r1, r2]) rfl ⟨rfl, ((HB.out.setCell (by simp) _).setCell (by simp) _).setCell (by simp) _⟩
  have HR := Lib.hid hr; clear hr
  rcases hk : kindB q with _ | _
  · have HE := Lib.hid (show widE k n s.data.toList q = 1 by simp [widE, hk])
    have HK := Lib.hid hk; clear hk
    go_wp2_with (fail)
    refine (ref_kind_any q _).mono ?_
    rintro e w2 ⟨rfl, rfl⟩
    rw [HK.out]
    go_wp2_with (fail)
    rw [HE.out, takeV_err _ _ _ (by decide)]
    exact bodyPost_ret (v := .tuple #[.agg #[.int .i64 0, .int .i64 0, .string ⟨#[]⟩], .int .i64 1]) (by simp [results, Try.results21, go_sem, r0, r1, r2]) rfl ⟨rfl, ((HB.out.setCell (by simp) _).setCell (by simp) _).setCell (by simp) _⟩
  have HK := Lib.hid hk; clear hk
  go_wp2_with (fail)
  refine (ref_kind_any q _).mono ?_
  rintro e w2 ⟨rfl, rfl⟩
  rw [HK.out]
  go_wp2_with (fail)
  refine (ref_Below_any k q _).mono ?_
  rintro e w2 ⟨rfl, rfl⟩
  rcases hu : upB k q with _ | _
  · have HE := Lib.hid (show widE k n s.data.toList q = 12 by simp [widE, HR.out, HK.out, hu])
    clear hu
    go_wp2_with (fail)
    rw [HE.out, takeV_err _ _ _ (by decide)]
    exact bodyPost_ret (v := .tuple #[.agg #[.int .i64 0, .int .i64 0, .string ⟨#[]⟩], .int .i64 12]) (by simp [results, Try.results21, go_sem, r0, r1, r2]) rfl ⟨rfl, ((HB.out.setCell (by simp) _).setCell (by simp) _).setCell (by simp) _⟩
  · have HE := Lib.hid (show widE k n s.data.toList q = 0 by simp [widE, HR.out, HK.out, hu])
    clear hu
    go_wp2_with (fail)
    rw [HE.out, takeV_ok]
    exact bodyPost_ret (v := .tuple #[.agg #[.int .i64 q, .int .i64 n, .string s], .int .i64 0]) (by simp [results, Try.results21, go_sem, r0, r1, r2]) rfl ⟨rfl, ((HB.out.setCell (by simp) _).setCell (by simp) _).setCell (by simp) _⟩

set_option maxHeartbeats 2000000 in
theorem narrow_any (k n : Int) (s : ByteArray) (q : Int) (w : World) (hs : s.size ≤ maxLen) :
    Calls Try.prog 22 #[.agg #[.int .i64 k, .int .i64 n, .string s], .int .i64 q] w fun e w' => e = .returned (.tuple #[takeV q n s (narE k n s.data.toList q), .int .i64 (narE k n s.data.toList q)]) ∧ Bel w w' := by
  go_enter Try.func22, Try.ntmps22
  go_wp2_with (fail)
  refine (arguments_any k n s q _ hs).mono ?_
  rintro e w1 ⟨rfl, hb⟩
  obtain ⟨q0, q1, q2, _, _, _, z0⟩ := ((VAt.new w k n s 30).bel ((Bel.refl _).alloc _)).bel hb
  obtain ⟨r0, r1, r2, f0, f1, f2, z1⟩ := (VAt.new (w.alloc (.cells #[.int .i64 k, .int .i64 n, .string s] 30)) 0 0 ⟨#[]⟩ 30).bel hb
  rw [show (w.alloc (.cells #[.int .i64 k, .int .i64 n, .string s] 30)).heap.size = w.heap.size + 1 by simp] at r0 r1 r2 f0 f1 f2 z1
  have HB := Lib.hid ((((Bel.refl w).alloc _).alloc _).trans hb); clear hb
  by_cases hr : rightB k n s.data.toList = true ∧ kindB q = true
  · have HX := Lib.hid (show argE k n s.data.toList q = 0 from if_pos hr)
    have HR := Lib.hid hr; clear hr
    rw [HX.out]
    go_wp2_with (fail)
    refine (Below_any q k _).mono ?_
    rintro e w2 ⟨rfl, hb⟩
    replace q0 := cell_later hb q0
    replace q1 := cell_later hb q1
    replace q2 := cell_later hb q2
    replace r0 := cell_later hb r0
    replace r1 := cell_later hb r1
    replace r2 := cell_later hb r2
    replace f0 := frozen_later hb z1 f0
    replace f1 := frozen_later hb z1 f1
    replace f2 := frozen_later hb z1 f2
    replace z0 := Nat.lt_of_lt_of_le z0 hb.size
    replace z1 := Nat.lt_of_lt_of_le z1 hb.size
    have HB2 := Lib.hid (HB.out.trans hb); clear hb
    rcases hu : upB q k with _ | _
    · have HE := Lib.hid (show narE k n s.data.toList q = 12 by simp [narE, HR.out, hu])
      clear hu
      go_wp2_with (fail)
      rw [HE.out, takeV_err _ _ _ (by decide)]
      exact bodyPost_ret (v := .tuple #[.agg #[.int .i64 0, .int .i64 0, .string ⟨#[]⟩], .int .i64 12]) (by simp [results, Try.results22, go_sem, r0, r1, r2]) rfl ⟨rfl, ((HB2.out.setCell (by simp) _).setCell (by simp) _).setCell (by simp) _⟩
    · have HU := Lib.hid hu; clear hu
      go_wp2_with (fail)
      refine (right_any q n s _ hs).mono ?_
      rintro e w3 ⟨rfl, hb⟩
      obtain ⟨t0, t1, t2, _, _, _, zt⟩ := (VAt.new w2 q n s 30).bel hb
      replace hb := ((Bel.refl w2).alloc _).trans hb
      replace r0 := cell_later hb r0
      replace r1 := cell_later hb r1
      replace r2 := cell_later hb r2
      replace f0 := frozen_later hb z1 f0
      replace f1 := frozen_later hb z1 f1
      replace f2 := frozen_later hb z1 f2
      have HB3 := Lib.hid (HB2.out.trans hb); clear hb q0 q1 q2
      rcases hq : rightB q n s.data.toList with _ | _
      · have HE := Lib.hid (show narE k n s.data.toList q = 2 by simp [narE, HR.out, HU.out, hq])
        clear hq
        go_wp2_with (fail)
        rw [HE.out, takeV_err _ _ _ (by decide)]
        exact bodyPost_ret (v := .tuple #[.agg #[.int .i64 0, .int .i64 0, .string ⟨#[]⟩], .int .i64 2]) (by simp [results, Try.results22, go_sem, r0, r1, r2]) rfl ⟨rfl, ((HB3.out.setCell (by simp) _).setCell (by simp) _).setCell (by simp) _⟩
      · have HE := Lib.hid (show narE k n s.data.toList q = 0 by simp [narE, HR.out, HU.out, hq])
        clear hq
        go_wp2_with (fail)
        rw [HE.out, takeV_ok]
        exact bodyPost_ret (v := .tuple #[.agg #[.int .i64 q, .int .i64 n, .string s], .int .i64 0]) (by simp [results, Try.results22, go_sem, r0, r1, r2]) rfl ⟨rfl, ((HB3.out.setCell (by simp) _).setCell (by simp) _).setCell (by simp) _⟩
  · have HX := Lib.hid (show argE k n s.data.toList q = 1 from if_neg hr)
    have HE := Lib.hid (show narE k n s.data.toList q = 1 from if_neg hr)
    clear hr
    rw [HX.out]
    go_wp2_with (fail)
    rw [HE.out, takeV_err _ _ _ (by decide)]
    exact bodyPost_ret (v := .tuple #[.agg #[.int .i64 0, .int .i64 0, .string ⟨#[]⟩], .int .i64 1]) (by simp [results, Try.results22, go_sem, r0, r1, r2]) rfl ⟨rfl, ((HB.out.setCell (by simp) _).setCell (by simp) _).setCell (by simp) _⟩

set_option maxHeartbeats 2000000 in
theorem ref_narrow_any (k n : Int) (s : ByteArray) (q : Int) (w : World) (hs : s.size ≤ maxLen) :
    Calls Try.prog 23 #[.agg #[.int .i64 k, .int .i64 n, .string s], .int .i64 q] w fun e w' => e = .returned (.tuple #[takeV q n s (narE k n s.data.toList q), .int .i64 (narE k n s.data.toList q)]) ∧ Bel w w' := by
  go_enter Try.func23, Try.ntmps23
  go_wp2_with (fail)
  refine (ref_right_any k n s _ hs).mono ?_
  rintro e w1 ⟨rfl, hb⟩
  obtain ⟨q0, q1, q2, _, _, _, z0⟩ := ((VAt.new w k n s 30).bel ((Bel.refl _).alloc _)).bel hb
  obtain ⟨r0, r1, r2, f0, f1, f2, z1⟩ := (VAt.new (w.alloc (.cells #[.int .i64 k, .int .i64 n, .string s] 30)) 0 0 ⟨#[]⟩ 30).bel hb
  rw [show (w.alloc (.cells #[.int .i64 k, .int .i64 n, .string s] 30)).heap.size = w.heap.size + 1 by simp] at r0 r1 r2 f0 f1 f2 z1
  have HB := Lib.hid ((((Bel.refl w).alloc _).alloc _).trans hb); clear hb
  rcases hr : rightB k n s.data.toList with _ | _
  · have HE := Lib.hid (show narE k n s.data.toList q = 1 by simp [narE, hr])
    clear hr
    go_wp2_with (fail)
    rw [HE.out, takeV_err _ _ _ (by decide)]
    exact bodyPost_ret (v := .tuple #[.agg #[.int .i64 0, .int .i64 0, .string ⟨#[]⟩], .int .i64 1]) (by simp [results, Try.results23, go_sem, r0, r1, r2]) rfl ⟨rfl, ((HB.out.setCell (by simp) _).setCell (by simp) _).setCell (by simp) _⟩
  have HR := Lib.hid hr; clear hr
  rcases hk : kindB q with _ | _
  · have HE := Lib.hid (show narE k n s.data.toList q = 1 by simp [narE, hk])
    have HK := Lib.hid hk; clear hk
    go_wp2_with (fail)
    refine (ref_kind_any q _).mono ?_
    rintro e w2 ⟨rfl, rfl⟩
    rw [HK.out]
    go_wp2_with (fail)
    rw [HE.out, takeV_err _ _ _ (by decide)]
    exact bodyPost_ret (v := .tuple #[.agg #[.int .i64 0, .int .i64 0, .string ⟨#[]⟩], .int .i64 1]) (by simp [results, Try.results23, go_sem, r0, r1, r2]) rfl ⟨rfl, ((HB.out.setCell (by simp) _).setCell (by simp) _).setCell (by simp) _⟩
  have HK := Lib.hid hk; clear hk
  go_wp2_with (fail)
  refine (ref_kind_any q _).mono ?_
  rintro e w2 ⟨rfl, rfl⟩
  rw [HK.out]
  go_wp2_with (fail)
  refine (ref_Below_any q k _).mono ?_
  rintro e w2 ⟨rfl, rfl⟩
  rcases hu : upB q k with _ | _
  · have HE := Lib.hid (show narE k n s.data.toList q = 12 by simp [narE, HR.out, HK.out, hu])
    clear hu
    go_wp2_with (fail)
    rw [HE.out, takeV_err _ _ _ (by decide)]
    exact bodyPost_ret (v := .tuple #[.agg #[.int .i64 0, .int .i64 0, .string ⟨#[]⟩], .int .i64 12]) (by simp [results, Try.results23, go_sem, r0, r1, r2]) rfl ⟨rfl, ((HB.out.setCell (by simp) _).setCell (by simp) _).setCell (by simp) _⟩
  · have HU := Lib.hid hu; clear hu
    go_wp2_with (fail)
    refine (ref_right_any q n s _ hs).mono ?_
    rintro e w3 ⟨rfl, hb⟩
    obtain ⟨t0, t1, t2, _, _, _, zt⟩ := (VAt.new w1 q n s 30).bel hb
    replace hb := ((Bel.refl w1).alloc _).trans hb
    replace r0 := cell_later hb r0
    replace r1 := cell_later hb r1
    replace r2 := cell_later hb r2
    replace f0 := frozen_later hb z1 f0
    replace f1 := frozen_later hb z1 f1
    replace f2 := frozen_later hb z1 f2
    have HB3 := Lib.hid (HB.out.trans hb); clear hb q0 q1 q2
    rcases hq : rightB q n s.data.toList with _ | _
    · have HE := Lib.hid (show narE k n s.data.toList q = 2 by simp [narE, HR.out, HK.out, HU.out, hq])
      clear hq
      go_wp2_with (fail)
      rw [HE.out, takeV_err _ _ _ (by decide)]
      exact bodyPost_ret (v := .tuple #[.agg #[.int .i64 0, .int .i64 0, .string ⟨#[]⟩], .int .i64 2]) (by simp [results, Try.results23, go_sem, r0, r1, r2]) rfl ⟨rfl, ((HB3.out.setCell (by simp) _).setCell (by simp) _).setCell (by simp) _⟩
    · have HE := Lib.hid (show narE k n s.data.toList q = 0 by simp [narE, HR.out, HK.out, HU.out, hq])
      clear hq
      go_wp2_with (fail)
      rw [HE.out, takeV_ok]
      exact bodyPost_ret (v := .tuple #[.agg #[.int .i64 q, .int .i64 n, .string s], .int .i64 0]) (by simp [results, Try.results23, go_sem, r0, r1, r2]) rfl ⟨rfl, ((HB3.out.setCell (by simp) _).setCell (by simp) _).setCell (by simp) _⟩
end Go.Proofs.Ytdlbihkollicfaa
