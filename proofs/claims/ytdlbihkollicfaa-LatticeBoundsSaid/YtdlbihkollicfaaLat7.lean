/- The contracts of the two Right, of arguments, Widen and Narrow, and of moultref2's Widen and Narrow. -/
import Derived.Test.YtdlbihkollicfaaLat6
set_option linter.unusedSimpArgs false
set_option linter.unusedVariables false
namespace Go.Proofs.Ytdlbihkollicfaa
open Go.RowKit

def rightB (k n : Int) (s : List UInt8) : Bool :=
  if k = 1 then (n = 0 || n = 1) && s.isEmpty
  else if k = 2 then (-32768 ≤ n && n ≤ 32767) && s.isEmpty
  else if k = 3 then (-2147483648 ≤ n && n ≤ 2147483647) && s.isEmpty
  else if k = 4 then s.isEmpty
  else if k = 5 then n = 0 && s.length ≤ 32
  else if k = 6 then n = 0 && s.length ≤ 1000
  else false

set_option maxHeartbeats 400000 in
theorem right_any (k n : Int) (s : ByteArray) (w : World) (hs : s.size ≤ maxLen) :
    Calls Try.prog 33 #[.agg #[.int .i64 k, .int .i64 n, .string s]] w fun e w' => e = .returned (.bool (rightB k n s.data.toList)) ∧ Bel w w' := by
  unfold maxLen at hs
  go_enter Try.func33, Try.ntmps33
  go_wp2
  all_goals
    go_ret
    refine ⟨ret_bool ?_, (Bel.refl _).alloc _⟩
    go_light
    have hz : s.data.toList.length = s.size := rfl
    simp_all [rightB, ByteArray.toList_eq]
    try omega

set_option maxHeartbeats 400000 in
theorem ref_right_any (k n : Int) (s : ByteArray) (w : World) (hs : s.size ≤ maxLen) :
    Calls Try.prog 24 #[.agg #[.int .i64 k, .int .i64 n, .string s]] w fun e w' => e = .returned (.bool (rightB k n s.data.toList)) ∧ Bel w w' := by
  unfold maxLen at hs
  go_enter Try.func24, Try.ntmps24
  go_wp2
  all_goals
    go_ret
    refine ⟨ret_bool ?_, (Bel.refl _).alloc _⟩
    go_light
    have hz : s.data.toList.length = s.size := rfl
    simp_all [rightB, ByteArray.toList_eq]
    try omega

/-- The argument check, and what of widening and narrowing comes. -/
def argE (k n : Int) (s : List UInt8) (q : Int) : Int := if rightB k n s = true ∧ kindB q = true then 0 else 1
def widE (k n : Int) (s : List UInt8) (q : Int) : Int := if rightB k n s = true ∧ kindB q = true then (if upB k q = true then 0 else 12) else 1
def narE (k n : Int) (s : List UInt8) (q : Int) : Int := if rightB k n s = true ∧ kindB q = true then (if upB q k = true then (if rightB q n s = true then 0 else 2) else 12) else 1
/-- The value that comes: the one of that kind, or the zero one. -/
def takeV (q n : Int) (s : ByteArray) (E : Int) : Value := if E = 0 then .agg #[.int .i64 q, .int .i64 n, .string s] else .agg #[.int .i64 0, .int .i64 0, .string ⟨#[]⟩]
theorem takeV_ok (q n : Int) (s : ByteArray) : takeV q n s 0 = .agg #[.int .i64 q, .int .i64 n, .string s] := rfl
theorem takeV_err (q n : Int) (s : ByteArray) {E : Int} (h : E ≠ 0) : takeV q n s E = .agg #[.int .i64 0, .int .i64 0, .string ⟨#[]⟩] := if_neg h

set_option maxHeartbeats 400000 in
theorem arguments_any (k n : Int) (s : ByteArray) (q : Int) (w : World) (hs : s.size ≤ maxLen) :
    Calls Try.prog 32 #[.agg #[.int .i64 k, .int .i64 n, .string s], .int .i64 q] w fun e w' => e = .returned (.int .i64 (argE k n s.data.toList q)) ∧ Bel w w' := by
  go_enter Try.func32, Try.ntmps32
  go_wp2_with (fail)
  refine (right_any k n s _ hs).mono ?_
  rintro e w1 ⟨rfl, hb⟩
  have HB := Lib.hid (((Bel.refl w).alloc _).trans hb); clear hb
  rcases hr : rightB k n s.data.toList with _ | _
  · have HX := Lib.hid (show argE k n s.data.toList q = 1 by simp [argE, hr])
    clear hr
    go_wp2_with (fail)
    go_ret
    exact ⟨ret_int HX.out.symm, HB.out⟩
  · have HR := Lib.hid hr; clear hr
    go_wp2_with (fail)
    refine (Below_any q q _).mono ?_
    rintro e w2 ⟨rfl, hb⟩
    have HB2 := Lib.hid (HB.out.trans hb); clear hb
    rcases hr : kindB q with _ | _
    · have HX := Lib.hid (show argE k n s.data.toList q = 1 by simp [argE, hr])
      rw [up_ord.self, hr]
      clear hr
      go_wp2_with (fail)
      go_ret
      exact ⟨ret_int HX.out.symm, HB2.out⟩
    · have HX := Lib.hid (show argE k n s.data.toList q = 0 by simp [argE, hr, HR.out])
      rw [up_ord.self, hr]
      clear hr
      go_wp2_with (fail)
      go_ret
      exact ⟨ret_int HX.out.symm, HB2.out⟩

theorem frozen_later {w x : World} {b o : Nat} {u : Bool} (hb : Bel w x) (hz : b < w.heap.size) (h : w.frozen? ⟨b, o, none⟩ = u) : x.frozen? ⟨b, o, none⟩ = u := (hb.frozen b o hz).trans h
/-- A value that lies at block b. -/
structure VAt (x : World) (b : Nat) (k n : Int) (s : ByteArray) : Prop where
  c0 : x.cell? ⟨b, 0, none⟩ = some (.int .i64 k)
  c1 : x.cell? ⟨b, 1, none⟩ = some (.int .i64 n)
  c2 : x.cell? ⟨b, 2, none⟩ = some (.string s)
  f0 : x.frozen? ⟨b, 0, none⟩ = false
  f1 : x.frozen? ⟨b, 1, none⟩ = false
  f2 : x.frozen? ⟨b, 2, none⟩ = false
  lt : b < x.heap.size
theorem VAt.bel {x y : World} {b : Nat} {k n : Int} {s : ByteArray} (h : VAt x b k n s) (hb : Bel x y) : VAt y b k n s :=
  ⟨cell_later hb h.c0, cell_later hb h.c1, cell_later hb h.c2, frozen_later hb h.lt h.f0, frozen_later hb h.lt h.f1, frozen_later hb h.lt h.f2, Nat.lt_of_lt_of_le h.lt hb.size⟩
theorem VAt.new (x : World) (k n : Int) (s : ByteArray) (T : TypeId) : VAt (x.alloc (.cells #[.int .i64 k, .int .i64 n, .string s] T)) x.heap.size k n s :=
  ⟨by go_simp, by go_simp, by go_simp, by go_simp, by go_simp, by go_simp, by simp⟩

set_option maxHeartbeats 1000000 in
theorem widen_any (k n : Int) (s : ByteArray) (q : Int) (w : World) (hs : s.size ≤ maxLen) :
    Calls Try.prog 20 #[.agg #[.int .i64 k, .int .i64 n, .string s], .int .i64 q] w fun e w' => e = .returned (.tuple #[takeV q n s (widE k n s.data.toList q), .int .i64 (widE k n s.data.toList q)]) ∧ Bel w w' := by
  go_enter Try.func20, Try.ntmps20
  go_wp2_with (fail)
  refine (arguments_any k n s q _ hs).mono ?_
  rintro e w1 ⟨rfl, hb⟩
  obtain ⟨q0, q1, q2, _, _, _, z0⟩ := ((VAt.new w k n s 30).bel ((Bel.refl _).alloc _)).bel hb
  obtain ⟨r0, r1, r2, f0, f1, f2, z1⟩ := (VAt.new (w.alloc (.cells #[.int .i64 k, .int .i64 n, .string s] 30)) 0 0 ⟨#[]⟩ 30).bel hb
  rw [show (w.alloc (.cells #[.int .i64 k, .int .i64 n, .string s] 30)).heap.size = w.heap.size + 1 by simp] at r0 r1 r2 f0 f1 f2 z1
  have HB := Lib.hid ((((Bel.refl w).alloc _).alloc _).trans hb); clear hb
  by_cases hr : rightB k n s.data.toList = true ∧ kindB q = true
  · have HX := Lib.hid (show argE k n s.data.toList q = 0 from if_pos hr)
    have HR := Lib.hid hr; clear hr
    rw [HX.out]
    go_wp2_with (fail)
    refine (Below_any k q _).mono ?_
    rintro e w2 ⟨rfl, hb⟩
    replace q0 := cell_later hb q0
    replace q1 := cell_later hb q1
    replace q2 := cell_later hb q2
    replace r0 := cell_later hb r0
    replace r1 := cell_later hb r1
    replace r2 := cell_later hb r2
    replace f0 := frozen_later hb z1 f0
    replace f1 := frozen_later hb z1 f1
    replace f2 := frozen_later hb z1 f2
    have HB2 := Lib.hid (HB.out.trans hb); clear hb
    rcases hu : upB k q with _ | _
    · have HE := Lib.hid (show widE k n s.data.toList q = 12 by simp [widE, HR.out, hu])
      clear hu
      go_wp2_with (fail)
      rw [HE.out, takeV_err _ _ _ (by decide)]
      exact bodyPost_ret (v := .tuple #[.agg #[.int .i64 0, .int .i64 0, .string ⟨#[]⟩], .int .i64 12]) (by simp [results, Try.results20, go_sem, r0, r1, r2]) rfl ⟨rfl, ((HB2.out.setCell (by simp) _).setCell (by simp) _).setCell (by simp) _⟩
    · have HE := Lib.hid (show widE k n s.data.toList q = 0 by simp [widE, HR.out, hu])
      clear hu
      go_wp2_with (fail)
      rw [HE.out, takeV_ok]
      exact bodyPost_ret (v := .tuple #[.agg #[.int .i64 q, .int .i64 n, .string s], .int .i64 0]) (by simp [results, Try.results20, go_sem, r0, r1, r2]) rfl ⟨rfl, ((HB2.out.setCell (by simp) _).setCell (by simp) _).setCell (by simp) _⟩
  · have HX := Lib.hid (show argE k n s.data.toList q = 1 from if_neg hr)
    have HE := Lib.hid (show widE k n s.data.toList q = 1 from if_neg hr)
    clear hr
    rw [HX.out]
    go_wp2_with (fail)
    rw [HE.out, takeV_err _ _ _ (by decide)]
    exact bodyPost_ret (v := .tuple #[.agg #[.int .i64 0, .int .i64 0, .string ⟨#[]⟩], .int .i64 1]) (by simp [results, Try.results20, go_sem, r0, r1, r2]) rfl ⟨rfl, ((HB.out.setCell (by simp) _).setCell (by simp) _).setCell (by simp) _⟩
end Go.Proofs.Ytdlbihkollicfaa
