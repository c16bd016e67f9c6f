/- VBig, VSize, VPut, VNum, VTake, VRef, VRTake, CFour, CUnf, laid together. -/
import Derived.Test.YtfbiinnenlgkfaaGreatDoorR13
import Derived.Test.YtfbiinnenlgkfaaGreatDoorR3
import Derived.Deep.OwnRows
import Derived.WalkMore
import Derived.StillTailTactics
import Derived.Test.YtfbiinnenlgkfaaGreatDoorR20
set_option linter.unusedSimpArgs false
set_option linter.unusedVariables false
namespace Go.Proofs.YtfbiinnenlgkfaaGreatDoor
open Go.RowKit Go.Deep

def BigRel (n sz : Nat) (w : World) (i : Value) (x : World) : Prop := ∃ k : Nat, k ≤ sz ∧ i = .int .i64 k ∧
 x.rowIs w.heap.size 5 sz (fun j => if sz - k ≤ j then .int .u8 ((n / 256 ^ (sz - 1 - j) % 256 : Nat) : Int) else .int .u8 0) ∧ Bel w x

theorem bigL_get : ∀ (sz n j : Nat), j < sz → (bigL n sz)[j]? = some (UInt8.ofNat (n / 256 ^ (sz - 1 - j) % 256))
 | 0, n, j, h => by omega
 | sz + 1, n, 0, h => by rw [bigL_cons]; simp
 | sz + 1, n, j + 1, h => by
  rw [bigL_cons, List.getElem?_cons_succ, bigL_get sz n j (by omega)]
  have e : sz - 1 - j = sz + 1 - 1 - (j + 1) := by omega
  rw [e]
theorem shr_byte (n k : Nat) : (n : Int) / 2 ^ (8 * k) % 256 = ((n / 256 ^ k % 256 : Nat) : Int) := by
 have e : (2 : Int) ^ (8 * k) = ((256 ^ k : Nat) : Int) := by rw [Int.pow_mul]; simp
 rw [e]; simp

set_option maxHeartbeats 1000000 in
theorem big_any (n sz : Nat) (w : World) (hs : sz ≤ 9) :
  Calls Tryz.prog 107 #[.int .u64 n, .int .i64 sz] w fun e w' => e = .returned (.string ⟨(bigL n sz).toArray⟩) ∧ Bel w w' := by
 have hmk := run_make_row' (P := Tryz.prog) 114 5 (.int .u8 0) 1 Tryz.underlying114 infoByte rfl .i64 .i64 sz (by omega) (by omega)
 go_enter Tryz.func107, Tryz.ntmps107
 go_wp2
 go_loopw [11] (fun i x => BigRel n sz w i x) (fun i _ => sz - (intOf i).toNat)
 case atStart => exact ⟨0, Nat.zero_le _, rfl, (World.rowIs_made w (.int .u8 0) sz 5).congr fun j hj => by rw [if_neg (by omega)], (Bel.refl w).alloc _⟩
 case round =>
  obtain ⟨k, hk, rfl, hrow, hb⟩ := hrel
  have HR := Lib.hid hrow; clear hrow
  have HB := Lib.hid hb; clear hb
  by_cases hlt : k < sz
  ·obtain ⟨j, rfl⟩ : ∃ j, sz = k + 1 + j := ⟨sz - (k + 1), by omega⟩
   have hc := HR.out.cell (i := j) (by omega)
   have hf := HR.out.frozen j
   go_wp2
   go_roundw
   case rel =>
    refine ⟨k + 1, by omega, by go_num, ?_, HB.out.setCell (Nat.le_refl _) _⟩
    refine (HR.out.set j _).congr fun i hi => ?_
    by_cases he : i = j
    ·subst he
     rw [if_pos rfl, if_pos (by omega), shr_byte]
     have e : k + 1 + i - 1 - i = k := by omega
     rw [e]
    ·rw [if_neg he]
     by_cases hp : k + 1 + j - k ≤ i
     ·rw [if_pos hp, if_pos (by omega)]
     ·rw [if_neg hp, if_neg (by omega)]
   case measure => simp [intOf]; omega
  ·obtain rfl : k = sz := by omega
   have hcv : (convert 114 9 (.slice (some ⟨w.heap.size, 0, none⟩) k k)).run Tryz.prog wr = .ok (.string ⟨(bigL n k).toArray⟩) wr := by
    have h0 := run_convert_bytes_back wr 114 9 5 ⟨w.heap.size, 0, none⟩ k (bigL n k) Tryz.underlying114 Tryz.underlying5 Tryz.underlying9 (fun j hj => by
     rw [bigL_len] at hj
     have e : (⟨w.heap.size, 0, none⟩ : Addr).add j = ⟨w.heap.size, j, none⟩ := by cases j <;> simp [Addr.add]
     have hg := bigL_get k n j hj
     rw [List.getElem?_eq_getElem (by rw [bigL_len]; exact hj)] at hg
     rw [e, HR.out.cell hj, if_pos (by omega), Option.some.inj hg]
     simp)
    rw [bigL_len] at h0
    exact h0
   go_wp2
   go_ret
   exact ⟨rfl, HB.out⟩

theorem wrap_u64 (x : Int) : IntKind.u64.wrap x = x % 18446744073709551616 := by simp [IntKind.wrap, IntKind.bits, IntKind.signed]
theorem wrap_step (a : Nat) (b : UInt8) : IntKind.u64.wrap (IntKind.u64.wrap ((a : Int) % 18446744073709551616 * 256) + IntKind.u64.wrap (b.toNat : Int)) = (((a * 256 + b.toNat) % 18446744073709551616 : Nat) : Int) := by
 rw [wrap_u64, wrap_u64, wrap_u64]; omega

def SumRel (s : ByteArray) (v i : Value) : Prop := ∃ k : Nat, k ≤ s.size ∧ i = .int .i64 k ∧ v = .int .u64 ((sumL (s.data.toList.take k) % 18446744073709551616 : Nat) : Int)

theorem sumL_take (s : ByteArray) (k : Nat) (h : k < s.size) : sumL (s.data.toList.take (k + 1)) = sumL (s.data.toList.take k) * 256 + s[k].toNat := by
 rw [← sumL_snoc, List.take_add_one]
 have e : s.data.toList[k]? = some s[k] := by rw [List.getElem?_eq_getElem (by simpa using h)]; rfl
 rw [e]; rfl

set_option maxHeartbeats 1000000 in
theorem sum_any (s : ByteArray) (w : World) (hs : s.size ≤ maxLen) :
  Calls Tryz.prog 132 #[.string s] w fun e w' => e = .returned (.int .u64 ((sumL s.data.toList % 18446744073709551616 : Nat) : Int)) ∧ Drw w w' := by
 unfold maxLen at hs
 go_enter Tryz.func132, Tryz.ntmps132
 go_wp2
 go_loopw [3, 7] (fun v i x => SumRel s v i ∧ Drw w x) (fun _ i _ => s.size - (intOf i).toNat)
 case atStart => exact ⟨⟨0, Nat.zero_le _, rfl, rfl⟩, Drw.refl _⟩
 case round =>
  obtain ⟨⟨k, hk, rfl, rfl⟩, hw⟩ := hrel
  have HW := Lib.hid hw; clear hw
  by_cases hlt : k < s.size
  ·go_wp2
   go_roundw
   case rel =>
    refine ⟨⟨k + 1, hlt, by go_num, ?_⟩, HW.out⟩
    rw [sumL_take s k hlt]
    exact congrArg _ (wrap_step _ _)
   case measure => simp [intOf]; omega
  ·go_wp2
   go_ret
   obtain rfl : k = s.size := by omega
   refine ⟨ret_int ?_, HW.out⟩
   have e : s.data.toList.take s.size = s.data.toList := List.take_of_length_le (Nat.le_refl _)
   rw [e]

def SizeRel (n : Nat) (i : Value) : Prop := ∃ j : Nat, 1 ≤ j ∧ j ≤ szN n ∧ i = .int .i64 j
theorem sz_lt1 (n : Nat) (hn : n < 18446744073709551616) (h1 : 1 ≤ szN n) : (n < 241 → szN n = 1) ∧ (¬ n < 241 → 1 + 1 ≤ szN n) := by
 revert h1; unfold szN; repeat' split
 all_goals omega
theorem sz_lt2 (n : Nat) (hn : n < 18446744073709551616) (h1 : 2 ≤ szN n) : (n < 2288 → szN n = 2) ∧ (¬ n < 2288 → 2 + 1 ≤ szN n) := by
 revert h1; unfold szN; repeat' split
 all_goals omega
theorem sz_lt3 (n : Nat) (hn : n < 18446744073709551616) (h1 : 3 ≤ szN n) : (n < 67824 → szN n = 3) ∧ (¬ n < 67824 → 3 + 1 ≤ szN n) := by
 revert h1; unfold szN; repeat' split
 all_goals omega
theorem sz_lt4 (n : Nat) (hn : n < 18446744073709551616) (h1 : 4 ≤ szN n) : (n < 16777216 → szN n = 4) ∧ (¬ n < 16777216 → 4 + 1 ≤ szN n) := by
 revert h1; unfold szN; repeat' split
 all_goals omega
theorem sz_lt5 (n : Nat) (hn : n < 18446744073709551616) (h1 : 5 ≤ szN n) : (n < 4294967296 → szN n = 5) ∧ (¬ n < 4294967296 → 5 + 1 ≤ szN n) := by
 revert h1; unfold szN; repeat' split
 all_goals omega
theorem sz_lt6 (n : Nat) (hn : n < 18446744073709551616) (h1 : 6 ≤ szN n) : (n < 1099511627776 → szN n = 6) ∧ (¬ n < 1099511627776 → 6 + 1 ≤ szN n) := by
 revert h1; unfold szN; repeat' split
 all_goals omega
theorem sz_lt7 (n : Nat) (hn : n < 18446744073709551616) (h1 : 7 ≤ szN n) : (n < 281474976710656 → szN n = 7) ∧ (¬ n < 281474976710656 → 7 + 1 ≤ szN n) := by
 revert h1; unfold szN; repeat' split
 all_goals omega
theorem sz_lt8 (n : Nat) (hn : n < 18446744073709551616) (h1 : 8 ≤ szN n) : (n < 72057594037927936 → szN n = 8) ∧ (¬ n < 72057594037927936 → 8 + 1 ≤ szN n) := by
 revert h1; unfold szN; repeat' split
 all_goals omega
theorem sz_lt9 (n : Nat) (hn : n < 18446744073709551616) (h1 : 9 ≤ szN n) : (n < 18446744073709551616 → szN n = 9) ∧ (¬ n < 18446744073709551616 → 9 + 1 ≤ szN n) := by
 revert h1; unfold szN; repeat' split
 all_goals omega
set_option maxHeartbeats 2000000 in
theorem size_any (n : Nat) (w : World) (hn : n < 18446744073709551616) :
  Calls Tryz.prog 106 #[.int .u64 n] w fun e w' => e = .returned (.int .i64 (szN n)) ∧ Drw w w' := by
 go_enter Tryz.func106, Tryz.ntmps106
 go_wp2
 go_step3
 go_wp2
 go_step3
 go_wp2
 go_loopw [3] (fun i x => SizeRel n i ∧ Drw w x) (fun i _ => 9 - (intOf i).toNat)
 case atStart => exact ⟨⟨1, Nat.le_refl _, szN_pos n, rfl⟩, Drw.refl _⟩
 case round =>
  obtain ⟨⟨j, h1, h2, rfl⟩, hw⟩ := hrel
  have HW := Lib.hid hw; clear hw
  have h9 := szN_le n
  obtain rfl | rfl | rfl | rfl | rfl | rfl | rfl | rfl | rfl : j = 1 ∨ j = 2 ∨ j = 3 ∨ j = 4 ∨ j = 5 ∨ j = 6 ∨ j = 7 ∨ j = 8 ∨ j = 9 := by omega
  ·have hz := Lib.hid (sz_lt1 n hn h2)
   by_cases hlt : n < 241
   ·have i1 : (n : Int) < 241 := by omega
    clear h2 h9
    go_wp2
    try rw [Exit.noGoto_ret]
    go_ret
    exact ⟨ret_int (by rw [hz.out.1 hlt]), HW.out⟩
   ·have i1 : ¬ (n : Int) < 241 := by omega
    clear h9
    go_wp2
    go_roundw
    case rel => exact ⟨⟨2, by omega, hz.out.2 hlt, rfl⟩, HW.out⟩
    case measure => simp [intOf]
  ·have hz := Lib.hid (sz_lt2 n hn h2)
   by_cases hlt : n < 2288
   ·have i1 : (n : Int) < 2288 := by omega
    clear h2 h9
    go_wp2
    try rw [Exit.noGoto_ret]
    go_ret
    exact ⟨ret_int (by rw [hz.out.1 hlt]), HW.out⟩
   ·have i1 : ¬ (n : Int) < 2288 := by omega
    clear h9
    go_wp2
    go_roundw
    case rel => exact ⟨⟨3, by omega, hz.out.2 hlt, rfl⟩, HW.out⟩
    case measure => simp [intOf]
  ·have hz := Lib.hid (sz_lt3 n hn h2)
   by_cases hlt : n < 67824
   ·have i1 : (n : Int) < 67824 := by omega
    clear h2 h9
    go_wp2
    try rw [Exit.noGoto_ret]
    go_ret
    exact ⟨ret_int (by rw [hz.out.1 hlt]), HW.out⟩
   ·have i1 : ¬ (n : Int) < 67824 := by omega
    clear h9
    go_wp2
    go_roundw
    case rel => exact ⟨⟨4, by omega, hz.out.2 hlt, rfl⟩, HW.out⟩
    case measure => simp [intOf]
  ·have hz := Lib.hid (sz_lt4 n hn h2)
   by_cases hlt : n < 16777216
   ·have i1 : (n : Int) / 16777216 = 0 := by omega
    clear h2 h9
    go_wp2
    try rw [Exit.noGoto_ret]
    go_ret
    exact ⟨ret_int (by rw [hz.out.1 hlt]), HW.out⟩
   ·have i1 : ¬ (n : Int) / 16777216 = 0 := by omega
    clear h9
    go_wp2
    go_roundw
    case rel => exact ⟨⟨5, by omega, hz.out.2 hlt, rfl⟩, HW.out⟩
    case measure => simp [intOf]
  ·have hz := Lib.hid (sz_lt5 n hn h2)
   by_cases hlt : n < 4294967296
   ·have i1 : (n : Int) / 4294967296 = 0 := by omega
    clear h2 h9
    go_wp2
    try rw [Exit.noGoto_ret]
    go_ret
    exact ⟨ret_int (by rw [hz.out.1 hlt]), HW.out⟩
   ·have i1 : ¬ (n : Int) / 4294967296 = 0 := by omega
    clear h9
    go_wp2
    go_roundw
    case rel => exact ⟨⟨6, by omega, hz.out.2 hlt, rfl⟩, HW.out⟩
    case measure => simp [intOf]
  ·have hz := Lib.hid (sz_lt6 n hn h2)
   by_cases hlt : n < 1099511627776
   ·have i1 : (n : Int) / 1099511627776 = 0 := by omega
    clear h2 h9
    go_wp2
    try rw [Exit.noGoto_ret]
    go_ret
    exact ⟨ret_int (by rw [hz.out.1 hlt]), HW.out⟩
   ·have i1 : ¬ (n : Int) / 1099511627776 = 0 := by omega
    clear h9
    go_wp2
    go_roundw
    case rel => exact ⟨⟨7, by omega, hz.out.2 hlt, rfl⟩, HW.out⟩
    case measure => simp [intOf]
  ·have hz := Lib.hid (sz_lt7 n hn h2)
   by_cases hlt : n < 281474976710656
   ·have i1 : (n : Int) / 281474976710656 = 0 := by omega
    clear h2 h9
    go_wp2
    try rw [Exit.noGoto_ret]
    go_ret
    exact ⟨ret_int (by rw [hz.out.1 hlt]), HW.out⟩
   ·have i1 : ¬ (n : Int) / 281474976710656 = 0 := by omega
    clear h9
    go_wp2
    go_roundw
    case rel => exact ⟨⟨8, by omega, hz.out.2 hlt, rfl⟩, HW.out⟩
    case measure => simp [intOf]
  ·have hz := Lib.hid (sz_lt8 n hn h2)
   by_cases hlt : n < 72057594037927936
   ·have i1 : (n : Int) / 72057594037927936 = 0 := by omega
    clear h2 h9
    go_wp2
    try rw [Exit.noGoto_ret]
    go_ret
    exact ⟨ret_int (by rw [hz.out.1 hlt]), HW.out⟩
   ·have i1 : ¬ (n : Int) / 72057594037927936 = 0 := by omega
    clear h9
    go_wp2
    go_roundw
    case rel => exact ⟨⟨9, by omega, hz.out.2 hlt, rfl⟩, HW.out⟩
    case measure => simp [intOf]
  ·have hz := Lib.hid (sz_lt9 n hn h2)
   have hlt : n < 18446744073709551616 := by omega
   have i1 : (n : Int) / 18446744073709551616 = 0 := by omega
   clear h2 h9
   go_wp2
   try rw [Exit.noGoto_ret]
   go_ret
   exact ⟨ret_int (by rw [hz.out.1 hlt]), HW.out⟩

theorem putL_one (n : Nat) (h : n < 241) : putL n = bigL n 1 := by unfold putL; rw [if_pos h]
theorem putL_two (n : Nat) (h : ¬ n < 241) (h2 : n < 2288) : putL n = bigL (61456 + n) 2 := by unfold putL; rw [if_neg h, if_pos h2]
theorem putL_three (n : Nat) (h : ¬ n < 2288) (h2 : n < 67824) : putL n = bigL (16316176 + n) 3 := by unfold putL; rw [if_neg (by omega), if_neg h, if_pos h2]
theorem putL_more (n : Nat) (h : ¬ n < 67824) : putL n = bigL (246 + szN n) 1 ++ bigL n (szN n - 1) := by
 unfold putL; rw [if_neg (by omega), if_neg (by omega), if_neg h]
 have := szN_le n
 simp only [bigL, List.nil_append, List.singleton_append]
 rw [Nat.mod_eq_of_lt (by omega)]
theorem sz_cases (n : Nat) : (n < 241 → szN n = 1) ∧ (¬ n < 241 → n < 2288 → szN n = 2) ∧ (¬ n < 2288 → n < 67824 → szN n = 3) ∧ (¬ n < 67824 → 4 ≤ szN n) := by
 unfold szN; (repeat' split) <;> omega

theorem ba_append (a b : List UInt8) : (⟨a.toArray⟩ ++ ⟨b.toArray⟩ : ByteArray) = ⟨(a ++ b).toArray⟩ := by apply ByteArray.ext; simp
theorem big_at (x y : Int) (n sz : Nat) (w : World) (hx : x = n) (hy : y = sz) (hs : sz ≤ 9) :
  Calls Tryz.prog 107 #[.int .u64 x, .int .i64 y] w fun e w' => e = .returned (.string ⟨(bigL n sz).toArray⟩) ∧ Bel w w' := by
 subst hx hy; exact big_any n sz w hs
theorem u64_in (x : Int) (h : 0 ≤ x) (h' : x < 18446744073709551616) : IntKind.u64.wrap x = x := by rw [wrap_u64]; omega

set_option maxHeartbeats 2000000 in
theorem put_any (n : Nat) (w : World) (hn : n < 18446744073709551616) :
  Calls Tryz.prog 70 #[.int .u64 n] w fun e w' => e = .returned (.string ⟨(putL n).toArray⟩) ∧ Bel w w' := by
 have h9 := szN_le n
 obtain ⟨z1, z2, z3, z4⟩ := sz_cases n
 go_enter Tryz.func70, Tryz.ntmps70
 go_wp2_with (fail)
 refine (size_any n w hn).mono ?_
 rintro e w1 ⟨rfl, hw1⟩
 have HW := Lib.hid hw1.bel; clear hw1
 by_cases h1 : n < 241
 ·rw [z1 h1]
  clear z1 z2 z3 z4 h9
  go_wp2_with (fail)
  refine (big_any n 1 w1 (by omega)).mono ?_
  rintro e w2 ⟨rfl, hb⟩
  go_wp2_with (fail)
  go_ret
  exact ⟨ret_string (by rw [putL_one n h1]), HW.out.trans hb⟩
 by_cases h2 : n < 2288
 ·rw [z2 h1 h2]
  clear z1 z2 z3 z4 h9
  go_wp2_with (fail)
  refine (big_at _ _ (61456 + n) 2 w1 (by omega) (by rfl) (by omega)).mono ?_
  rintro e w2 ⟨rfl, hb⟩
  go_wp2_with (fail)
  go_ret
  exact ⟨ret_string (by rw [putL_two n h1 h2]), HW.out.trans hb⟩
 by_cases h3 : n < 67824
 ·rw [z3 h2 h3]
  clear z1 z2 z3 z4 h9
  go_wp2_with (fail)
  refine (big_at _ _ (16316176 + n) 3 w1 (by omega) (by rfl) (by omega)).mono ?_
  rintro e w2 ⟨rfl, hb⟩
  go_wp2_with (fail)
  go_ret
  exact ⟨ret_string (by rw [putL_three n h2 h3]), HW.out.trans hb⟩
 ·have hz := z4 h3
  clear z1 z2 z3 z4
  have i1 : ¬ (szN n : Int) = 1 := by omega
  have i2 : ¬ (szN n : Int) = 2 := by omega
  have i3 : ¬ (szN n : Int) = 3 := by omega
  have ew : IntKind.u64.wrap (247 + (szN n : Int) - 1) = 247 + (szN n : Int) - 1 := u64_in _ (by omega) (by omega)
  go_wp2_with (fail)
  refine (big_at _ _ (246 + szN n) 1 w1 (by first | omega | (rw [ew]; omega)) (by rfl) (by omega)).mono ?_
  rintro e w2 ⟨rfl, hb⟩
  have HB := Lib.hid hb; clear hb
  go_wp2_with (fail)
  refine (big_at _ _ n (szN n - 1) w2 (by first | rfl | omega) (by omega) (by omega)).mono ?_
  rintro e w3 ⟨rfl, hb2⟩
  have hl1 := bigL_len 1 (246 + szN n)
  have hl2 := bigL_len (szN n - 1) n
  go_wp2_with (fail)
  go_ret
  exact ⟨ret_string (by rw [putL_more n h3, ba_append]), (HW.out.trans HB.out).trans hb2⟩

theorem behind_nat (m k : Nat) (w : World) (hb : (m : Int) < 256) (hk : Hid (k = if m < 241 then 1 else if m < 249 then 2 else if m = 249 then 3 else m - 246)) :
  Calls Tryz.prog 108 #[.int .u8 m] w fun e w' => e = .returned (.int .i64 k) ∧ Drw w w' := by
 by_cases h1 : (m : Int) < 241
 ·go_enter Tryz.func108, Tryz.ntmps108
  go_wp2
  go_ret
  exact ⟨ret_int (by rw [hk.out, if_pos (by omega)]; rfl), Drw.refl w⟩
 by_cases h2 : (m : Int) < 249
 ·go_enter Tryz.func108, Tryz.ntmps108
  go_wp2
  go_ret
  exact ⟨ret_int (by rw [hk.out, if_neg (by omega), if_pos (by omega)]; rfl), Drw.refl w⟩
 by_cases h3 : (m : Int) = 249
 ·go_enter Tryz.func108, Tryz.ntmps108
  go_wp2
  go_ret
  exact ⟨ret_int (by rw [hk.out, if_neg (by omega), if_neg (by omega), if_pos (by omega)]; rfl), Drw.refl w⟩
 ·have h0 := Lib.hid (show 250 ≤ (m : Int) by omega)
  have v1 : IntKind.i64.wrap (m : Int) = m := IntWalk.i64_in _ (by omega)
  have v2 : IntKind.i64.wrap ((m : Int) - 247) = (m : Int) - 247 := IntWalk.i64_in _ (by omega)
  have v3 : IntKind.i64.wrap ((m : Int) - 247 + 1) = (m : Int) - 247 + 1 := IntWalk.i64_in _ (by omega)
  have h4 : ((m : Int) == 249) = false := by simpa using h3
  have h5 := Lib.hid (show ¬ m = 249 by omega)
  clear hb h3
  set_option maxRecDepth 20000 in
  go_enter Tryz.func108, Tryz.ntmps108
  go_wp2
  go_ret
  exact ⟨ret_int (by rw [hk.out, if_neg (by omega), if_neg (by omega), if_neg h5.out]; have := h0.out; omega), Drw.refl w⟩
theorem behind_any (b : UInt8) (w : World) :
  Calls Tryz.prog 108 #[.int .u8 b.toNat] w fun e w' => e = .returned (.int .i64 (kOf b)) ∧ Drw w w' := by
 exact behind_nat b.toNat (kOf b) w (by have := b.toNat_lt; omega) (Lib.hid rfl)

theorem sum_small (s : ByteArray) (w : World) (hs : s.size ≤ 8) :
  Calls Tryz.prog 132 #[.string s] w fun e w' => e = .returned (.int .u64 ((sumL s.data.toList : Nat) : Int)) ∧ Drw w w' := by
 refine (sum_any s w (by unfold maxLen; omega)).mono ?_
 rintro e w1 ⟨rfl, hw⟩
 refine ⟨ret_int ?_, hw⟩
 have h := sumL_lt s.data.toList
 have h2 : (256 : Nat) ^ s.data.toList.length ≤ 256 ^ 8 := Nat.pow_le_pow_right (by omega) hs
 have e8 : (256 : Nat) ^ 8 = 18446744073709551616 := by decide
 rw [Nat.mod_eq_of_lt (by omega)]

theorem sum_at (s : ByteArray) (m : Nat) (w : World) (hs : s.size ≤ 8) (h : m = sumL s.data.toList) :
  Calls Tryz.prog 132 #[.string s] w fun e w' => e = .returned (.int .u64 ((m : Nat) : Int)) ∧ Drw w w' := by
 rw [h]; exact sum_small s w hs
theorem head_at (s : ByteArray) (h0 : 0 < s.size) : s.data.toList = s[0] :: s.data.toList.drop 1 := by
 exact List.drop_eq_getElem_cons (i := 0) (l := s.data.toList) (by simpa using h0)
theorem ext_tail (s : ByteArray) : (s.extract 1 s.size).data.toList = s.data.toList.drop 1 := by
 rw [Lib.extract_data, List.take_of_length_le]
 simp

set_option maxHeartbeats 1000000 in
theorem number_any (s : ByteArray) (w : World) (h0 : 0 < s.size) (hk : s.size = kOf s[0]) :
  Calls Tryz.prog 109 #[.string s] w fun e w' => e = .returned (.int .u64 ((valL s.data.toList : Nat) : Int)) ∧ Drw w w' := by
 have h9 := kOf_le s[0]
 have hl : s.data.toList.length = s.size := rfl
 have hh := head_at s h0
 have hlt := sumL_lt s.data.toList
 have hlt2 := sumL_lt (s.data.toList.drop 1)
 rw [List.length_drop, hl] at hlt2
 rw [hl] at hlt
 have hT := Lib.hid (ext_tail s)
 have hz2 : (s.extract 1 s.size).size = s.size - 1 := by simp [ByteArray.size_extract]
 unfold valL
 rw [hl]
 have h8 : s.size ≤ 9 := by omega
 by_cases c1 : s.size = 1
 ·rw [if_pos c1]
  clear hT hz2 hlt hlt2 hh hk h9 hl
  go_enter Tryz.func109, Tryz.ntmps109
  go_wp2_with (fail)
  refine (sum_small s w (by omega)).mono ?_
  rintro e w1 ⟨rfl, hw⟩
  go_wp2_with (fail)
  go_ret
  exact ⟨rfl, hw⟩
 by_cases c2 : s.size = 2
 ·rw [if_neg c1, if_pos c2]
  have hb : 61696 ≤ sumL s.data.toList ∧ sumL s.data.toList < 65536 := by
   rw [c2] at hlt hk
   refine ⟨?_, hlt⟩
   rw [hh, sumL_cons, List.length_drop, hl, c2]
   have : 241 ≤ s[0].toNat := by unfold kOf at hk; revert hk; (repeat' split) <;> omega
   have := s[0].toNat_lt
   omega
  clear hT hz2 hlt hlt2 hh hk h9 hl
  obtain ⟨m, hm⟩ : ∃ m, m = sumL s.data.toList := ⟨_, rfl⟩
  rw [← hm] at hb ⊢
  have HM := Lib.hid hm; clear hm
  obtain ⟨hb1, hb2⟩ := hb
  go_enter Tryz.func109, Tryz.ntmps109
  go_wp2_with (fail)
  refine (sum_at s m w (by omega) HM.out).mono ?_
  rintro e w1 ⟨rfl, hw⟩
  have HW := Lib.hid hw; clear hw
  go_wp2_with (fail)
  go_ret
  exact ⟨ret_int (by omega), HW.out⟩
 by_cases c3 : s.size = 3
 ·rw [if_neg c1, if_neg c2, if_pos c3]
  rw [c3] at hlt2
  rw [c3] at hT hz2
  have hb : sumL (s.data.toList.drop 1) < 65536 := hlt2
  clear hlt hlt2 hh hk h9 hl
  obtain ⟨m, hm⟩ : ∃ m, m = sumL (s.data.toList.drop 1) := ⟨_, rfl⟩
  rw [← hm] at hb ⊢
  rw [← hT.out] at hm
  have HM := Lib.hid hm; clear hm hT
  go_enter Tryz.func109, Tryz.ntmps109
  go_wp2_with (fail)
  refine (sum_at (s.extract 1 3) m w (by omega) HM.out).mono ?_
  rintro e w1 ⟨rfl, hw⟩
  have HW := Lib.hid hw; clear hw
  go_wp2_with (fail)
  go_ret
  exact ⟨ret_int (by omega), HW.out⟩
 ·rw [if_neg c1, if_neg c2, if_neg c3]
  have i1 : ¬ (s.size : Int) = 1 := by omega
  have i2 : ¬ (s.size : Int) = 2 := by omega
  have i3 : ¬ (s.size : Int) = 3 := by omega
  clear hlt hlt2 hh hl hk h9
  obtain ⟨m, hm⟩ : ∃ m, m = sumL (s.data.toList.drop 1) := ⟨_, rfl⟩
  rw [← hm]
  rw [← hT.out] at hm
  have HM := Lib.hid hm; clear hm hT
  go_enter Tryz.func109, Tryz.ntmps109
  go_wp2_with (fail)
  refine (sum_at (s.extract 1 s.size) m w (by omega) HM.out).mono ?_
  rintro e w1 ⟨rfl, hw⟩
  have HW := Lib.hid hw; clear hw
  go_wp2_with (fail)
  go_ret
  exact ⟨rfl, HW.out⟩

theorem ext_data (s : ByteArray) (i j : Nat) : (s.extract i j).data.toList = (s.data.toList.take j).drop i := by
 simp [ByteArray.data_extract, List.extract_eq_take_drop, List.drop_take]
theorem ba_list (s : ByteArray) : (⟨s.data.toList.toArray⟩ : ByteArray) = s := by apply ByteArray.ext; simp
def takeV (l : List UInt8) : Value := .tuple #[.int .u64 ((takeL l).1 : Nat), .string ⟨(takeL l).2.1.toArray⟩, .bool (takeL l).2.2]
theorem takeL_short (s : ByteArray) (h0 : 0 < s.size) (k : Nat) (hk : k = kOf s[0]) (h : s.size < k) : takeL s.data.toList = (0, [], false) := by
 rw [head_at s h0, takeL_cons, ← head_at s h0, ← hk, if_pos (by exact h)]
theorem takeL_long (s : ByteArray) (h0 : 0 < s.size) (k : Nat) (hk : k = kOf s[0]) (h : ¬ s.size < k) :
  takeL s.data.toList = if putL (valL (s.extract 0 k).data.toList) = (s.extract 0 k).data.toList then (valL (s.extract 0 k).data.toList, (s.extract k s.size).data.toList, true) else (0, [], false) := by
 have e1 : (s.extract 0 k).data.toList = s.data.toList.take k := by rw [ext_data, List.drop_zero]
 have e2 : (s.extract k s.size).data.toList = s.data.toList.drop k := by rw [ext_data, List.take_of_length_le (by exact Nat.le_refl _)]
 rw [e1, e2]
 have hh := head_at s h0
 conv => lhs; rw [hh, takeL_cons, ← hh, ← hk, if_neg (by exact h)]
theorem ext_head (s : ByteArray) (h0 : 0 < s.size) (k : Nat) (h1 : 1 ≤ k) (h : k ≤ s.size) : ∃ h' : 0 < (s.extract 0 k).size, (s.extract 0 k)[0] = s[0] ∧ (s.extract 0 k).size = k := by
 have hz : (s.extract 0 k).size = k := by simp [ByteArray.size_extract]; omega
 refine ⟨by omega, ?_, hz⟩
 have e := head_at (s.extract 0 k) (by omega)
 have e1 : (s.extract 0 k).data.toList = s.data.toList.take k := by rw [ext_data, List.drop_zero]
 rw [head_at s h0] at e1
 obtain ⟨j, rfl⟩ : ∃ j, k = j + 1 := ⟨k - 1, by omega⟩
 rw [List.take_succ_cons] at e1
 exact (List.cons.inj (e.symm.trans e1)).1

set_option maxHeartbeats 2000000 in
theorem take_any (s : ByteArray) (w : World) (hs : s.size ≤ 1000000) :
  Calls Tryz.prog 74 #[.string s] w fun e w' => e = .returned (takeV s.data.toList) ∧ Bel w w' := by
 by_cases h0 : s.size = 0
 ·obtain rfl : s = ⟨#[]⟩ := by apply ByteArray.ext; exact Array.eq_empty_of_size_eq_zero h0
  go_enter Tryz.func74, Tryz.ntmps74
  go_wp2_with (fail)
  go_ret3
  exact ⟨rfl, Bel.refl w⟩
 have h0' : 0 < s.size := by omega
 obtain ⟨k, hk⟩ : ∃ k, k = kOf s[0] := ⟨_, rfl⟩
 have hk1 := kOf_pos s[0]
 have hk9 := kOf_le s[0]
 rw [← hk] at hk1 hk9
 have hK := Lib.hid hk
 have hne : s.toList.isEmpty = false := by
  rw [ByteArray.toList_eq, head_at s h0']; rfl
 by_cases hl : s.size < k
 ·have hT := Lib.hid (takeL_short s h0' k hk hl)
  clear hk
  go_enter Tryz.func74, Tryz.ntmps74
  go_wp2_with (fail)
  refine (behind_any s[0] w).mono ?_
  rintro e w1 ⟨rfl, hw1⟩
  have HW := Lib.hid hw1.bel; clear hw1
  rw [← hK.out]
  go_wp2_with (fail)
  go_ret3
  exact ⟨by rw [takeV, hT.out]; rfl, HW.out⟩
 ·have hT := Lib.hid (takeL_long s h0' k hk hl)
  obtain ⟨hp, hp0, hpz⟩ := ext_head s h0' k hk1 (by omega)
  have HP0 := Lib.hid hp0
  have hlt : valL (s.extract 0 k).data.toList < 18446744073709551616 := by
   rw [head_at _ hp]
   exact valL_lt _ _ (by rw [← head_at _ hp, hp0, ← hk]; exact hpz)
  clear hk hp0
  go_enter Tryz.func74, Tryz.ntmps74
  go_wp2_with (fail)
  refine (behind_any s[0] w).mono ?_
  rintro e w1 ⟨rfl, hw1⟩
  have HW := Lib.hid hw1.bel; clear hw1
  rw [← hK.out]
  go_wp2_with (fail)
  refine (number_any (s.extract 0 k) w1 hp (by rw [HP0.out, ← hK.out]; exact hpz)).mono ?_
  rintro e w2 ⟨rfl, hw2⟩
  have HW2 := Lib.hid (HW.out.trans hw2.bel); clear hw2
  by_cases he : putL (valL (s.extract 0 k).data.toList) = (s.extract 0 k).data.toList
  ·have hT' := Lib.hid (hT.out.trans (if_pos he))
   have hE := Lib.hid he; clear he
   generalize valL (s.extract 0 k).data.toList = m at *
   go_wp2_with (fail)
   go_region_with (go_at_call 70; refine (put_any m _ hlt).mono ?_; rintro e w3 ⟨rfl, hb⟩; have HB := Lib.hid hb; clear hb; rw [hE.out, ba_list])
   all_goals go_wp2_with (fail)
   all_goals go_quiet (fail)
   all_goals go_wp2_with (fail)
   all_goals go_ret3
   all_goals refine ⟨by rw [takeV, hT'.out, ba_list]; rfl, ?_⟩
   all_goals exact ((HW2.out.drew.trans HB.out).drewN _)
  ·have hT' := Lib.hid (hT.out.trans (if_neg he))
   have hE : (putL (valL (s.extract 0 k).data.toList) == (s.extract 0 k).toList) = false := by
    rw [ByteArray.toList_eq, beq_eq_false_iff_ne]; exact he
   clear he
   generalize valL (s.extract 0 k).data.toList = m at *
   go_wp2_with (fail)
   go_region_with (go_at_call 70; refine (put_any m _ hlt).mono ?_; rintro e w3 ⟨rfl, hb⟩; have HB := Lib.hid hb; clear hb)
   all_goals go_wp2_with (fail)
   all_goals go_ret3
   all_goals refine ⟨by rw [takeV, hT'.out]; rfl, ?_⟩
   all_goals exact HW2.out.drew.trans HB.out

theorem ba_snoc (a : List UInt8) (x : UInt8) : (⟨a.toArray⟩ ++ ⟨#[x]⟩ : ByteArray) = ⟨(a ++ [x]).toArray⟩ := by apply ByteArray.ext; simp
theorem conv_one {W : World} (g n : Nat) (h : W.cell? ⟨g, 0, none⟩ = some (.int .u8 ((n : Int) % 256))) :
  (convert 114 9 (.slice (some ⟨g, 0, none⟩) 1 1)).run Tryz.prog W = .ok (.string ⟨#[UInt8.ofNat (n % 256)]⟩) W :=
 run_convert_bytes_back W 114 9 5 ⟨g, 0, none⟩ 1 [UInt8.ofNat (n % 256)] Tryz.underlying114 Tryz.underlying5 Tryz.underlying9 (fun j hj => by
  simp at hj; subst hj
  have e : (⟨g, 0, none⟩ : Addr).add 0 = ⟨g, 0, none⟩ := by simp [Addr.add]
  rw [e, h]; simp)
theorem conv_later2 {w w1 : World} {n : Nat} (hb : Bel (w.drew.alloc (.cells #[.int .u8 ((n : Int) % 256)] 5)) w1) :
  (convert 114 9 (.slice (some ⟨w.heap.size, 0, none⟩) 1 1)).run Tryz.prog w1 = .ok (.string ⟨#[UInt8.ofNat (n % 256)]⟩) w1 :=
 conv_one _ n (by rw [hb.cell _ _ (by show _ < (w.heap.push _).size; simp)]; exact (World.cell?_alloc_new ..).trans (by simp))
theorem conv_later3 {w w1 : World} {n : Nat} (hb : Bel ((w.alloc (.cells #[.int .u8 ((n : Int) % 256)] 5)).drew) w1) :
  (convert 114 9 (.slice (some ⟨w.heap.size, 0, none⟩) 1 1)).run Tryz.prog w1 = .ok (.string ⟨#[UInt8.ofNat (n % 256)]⟩) w1 :=
 conv_one _ n (by rw [hb.cell _ _ (by show _ < (w.heap.push _).size; simp)]; exact (World.cell?_alloc_new ..).trans (by simp))

set_option maxRecDepth 20000 in
set_option maxHeartbeats 2000000 in
theorem rbytes_any : ∀ (k n : Nat) (w : World) (hk : k ≤ 9) (hn : n < 18446744073709551616),
  Calls Tryz.prog 72 #[.int .u64 n, .int .i64 k] w fun e w' => e = .returned (.string ⟨(bigL n k).toArray⟩) ∧ Bel w w' := by
 intro k
 induction k with
 | zero =>
  intro n w hk hn
  go_enter Tryz.func72, Tryz.ntmps72
  go_wp2_with (fail)
  go_ret
  exact ⟨rfl, Bel.refl w⟩
 | succ k ih =>
  intro n w hk hn
  have IH := Lib.hid ih; clear ih
  have hl := bigL_len k (n / 256)
  have X : Hid (∀ (a b : Int) (w : World), a = ((n / 256 : Nat) : Int) → b = (k : Int) → Calls Tryz.prog 72 #[.int .u64 a, .int .i64 b] w fun e w' => e = .returned (.string ⟨(bigL (n / 256) k).toArray⟩) ∧ Bel w w') :=
   Lib.hid fun a b w ha hb => by subst ha hb; exact IH.out _ _ (by omega) (by omega)
  have v1 : IntKind.u64.wrap ((n : Int) / 256) = (n : Int) / 256 := u64_in _ (by omega) (by omega)
  have v2 : IntKind.i64.wrap (k : Int) = (k : Int) := IntWalk.i64_in _ (by omega)
  have v3 : IntKind.u8.wrap ((n : Int).tmod 256) = ((UInt8.ofNat (n % 256)).toNat : Int) := by
   rw [Int.tmod_eq_emod_of_nonneg (by omega)]; simp [IntKind.wrap, IntKind.bits, IntKind.signed]
  have hcv : ∀ w1 : World, (convert 114 9 (.slice (some ⟨w1.heap.size, 0, none⟩) 1 1)).run Tryz.prog (w1.alloc (.cells #[.int .u8 ((n : Int) % 256)] 5)) = .ok (.string ⟨#[UInt8.ofNat (n % 256)]⟩) (w1.alloc (.cells #[.int .u8 ((n : Int) % 256)] 5)) :=
   fun w1 => conv_one _ n (by simp)
  have hcw : ∀ w1 : World, (convert 114 9 (.slice (some ⟨w1.heap.size, 0, none⟩) 1 1)).run Tryz.prog (w1.alloc (.cells #[.int .u8 ((n : Int) % 256)] 5)).drew = .ok (.string ⟨#[UInt8.ofNat (n % 256)]⟩) (w1.alloc (.cells #[.int .u8 ((n : Int) % 256)] 5)).drew :=
   fun w1 => conv_one _ n ((World.cell?_alloc_new ..).trans (by simp))
  go_enter Tryz.func72, Tryz.ntmps72
  go_wp2_with (fail)
  go_region_with (go_at_call 72; refine (X.out _ _ _ (by omega) (by omega)).mono ?_; rintro e w1 ⟨rfl, hb⟩; (first | (have hcb := conv_later2 hb) | (have hcb := conv_later3 hb) | skip); have HB := Lib.hid hb; clear hb)
  all_goals go_wp2
  all_goals go_ret
  ·exact ⟨ret_string (by rw [bigL, ← ba_snoc]), ((Bel.refl w).drew.trans HB.out).alloc _⟩
  ·exact ⟨ret_string (by rw [bigL, ← ba_snoc]), ((Bel.refl w).alloc _).drew.trans HB.out⟩
  ·exact ⟨ret_string (by rw [bigL, ← ba_snoc]), ((Bel.refl w).alloc _).drew.trans HB.out⟩

def CntRel (n : Nat) (x i : Value) : Prop := ∃ k : Nat, k ≤ 8 ∧ x = .int .u64 ((n / 256 ^ k : Nat) : Int) ∧ i = .int .i64 k ∧ (k = 0 ∨ 256 ^ (k - 1) ≤ n)
theorem cnt_end (n k : Nat) (h0 : ¬ n < 67824) (hk : k ≤ 8) (h1 : n / 256 ^ k = 0) (h2 : k = 0 ∨ 256 ^ (k - 1) ≤ n) : 3 ≤ k ∧ szN n = k + 1 := by
 rw [Nat.div_eq_zero_iff] at h1
 have e : k = 0 ∨ k = 1 ∨ k = 2 ∨ k = 3 ∨ k = 4 ∨ k = 5 ∨ k = 6 ∨ k = 7 ∨ k = 8 := by omega
 rcases e with rfl | rfl | rfl | rfl | rfl | rfl | rfl | rfl | rfl <;> simp at h1 h2 <;> try omega
 all_goals refine ⟨by omega, ?_⟩
 all_goals unfold szN
 all_goals (repeat' split) <;> omega
theorem cnt_more (n k : Nat) (hn : n < 18446744073709551616) (hk : k ≤ 8) (h : ¬ n / 256 ^ k = 0) : k < 8 ∧ 256 ^ k ≤ n := by
 rw [Nat.div_eq_zero_iff] at h
 refine ⟨?_, by omega⟩
 rcases Nat.lt_or_ge k 8 with h8 | h8
 ·exact h8
 ·obtain rfl : k = 8 := by omega
  simp at h; omega

set_option maxHeartbeats 1000000 in
theorem rcount_any (n : Nat) (w : World) (h0 : ¬ n < 67824) (hn : n < 18446744073709551616) :
  Calls Tryz.prog 73 #[.int .u64 n] w fun e w' => e = .returned (.int .i64 ((szN n : Int) - 1)) ∧ Drw w w' := by
 go_enter Tryz.func73, Tryz.ntmps73
 go_wp2
 go_loopw [0, 3] (fun x i y => CntRel n x i ∧ Drw w y) (fun _ i _ => 8 - (intOf i).toNat)
 case atStart => exact ⟨⟨0, Nat.zero_le _, by simp, rfl, Or.inl rfl⟩, Drw.refl _⟩
 case round =>
  obtain ⟨⟨k, hk, rfl, rfl, h2⟩, hw⟩ := hrel
  have HW := Lib.hid hw; clear hw
  have H2 := Lib.hid h2; clear h2
  by_cases hz : n / 256 ^ k = 0
  ·obtain ⟨h3, hs⟩ := cnt_end n k h0 hk hz H2.out
   have HS := Lib.hid hs; clear hs
   generalize hm : n / 256 ^ k = m at *
   subst hz
   go_wp2
   go_ret
   exact ⟨ret_int (by rw [HS.out]; omega), HW.out⟩
  ·obtain ⟨h8, h5⟩ := cnt_more n k hn hk hz
   have H5 := Lib.hid h5; clear h5
   have HM := Lib.hid (show n / 256 ^ (k + 1) = n / 256 ^ k / 256 from by rw [Nat.pow_succ, Nat.div_div_eq_div_mul])
   have hb : n / 256 ^ k ≤ n := Nat.div_le_self _ _
   generalize n / 256 ^ k = m at *
   have i1 : 0 < (m : Int) := by omega
   go_wp2
   go_roundw
   case rel => exact ⟨⟨k + 1, by omega, by rw [HM.out]; simp, by go_num, Or.inr (by simpa using H5.out)⟩, HW.out⟩
   case measure => simp [intOf]; omega

theorem rbytes_at (x y : Int) (n k : Nat) (w : World) (hx : x = n) (hy : y = k) (hk : k ≤ 9) (hn : n < 18446744073709551616) :
  Calls Tryz.prog 72 #[.int .u64 x, .int .i64 y] w fun e w' => e = .returned (.string ⟨(bigL n k).toArray⟩) ∧ Bel w w' := by
 subst hx hy; exact rbytes_any k n w hk hn

set_option maxHeartbeats 2000000 in
theorem rput_any (n : Nat) (w : World) (hn : n < 18446744073709551616) :
  Calls Tryz.prog 39 #[.int .u64 n] w fun e w' => e = .returned (.string ⟨(putL n).toArray⟩) ∧ Bel w w' := by
 have h9 := szN_le n
 obtain ⟨z1, z2, z3, z4⟩ := sz_cases n
 go_enter Tryz.func39, Tryz.ntmps39
 by_cases h1 : n < 241
 ·clear z1 z2 z3 z4 h9
  have i1 : (n : Int) ≤ 240 := by omega
  go_wp2_with (fail)
  refine (rbytes_at _ _ n 1 w (by rfl) (by rfl) (by omega) hn).mono ?_
  rintro e w2 ⟨rfl, hb⟩
  go_wp2_with (fail)
  go_ret
  exact ⟨ret_string (by rw [putL_one n h1]), hb⟩
 have i1 : ¬ (n : Int) ≤ 240 := by omega
 by_cases h2 : n < 2288
 ·clear z1 z2 z3 z4 h9
  have i2 : (n : Int) ≤ 2287 := by omega
  have v1 : IntKind.u64.wrap (((n : Int) - 240) / 256) = ((n : Int) - 240) / 256 := u64_in _ (by omega) (by omega)
  have v2 : IntKind.u64.wrap (241 + ((n : Int) - 240) / 256) = 241 + ((n : Int) - 240) / 256 := u64_in _ (by omega) (by omega)
  go_wp2_with (fail)
  refine (rbytes_at _ _ (241 + (n - 240) / 256) 1 w (by omega) (by rfl) (by omega) (by omega)).mono ?_
  rintro e w2 ⟨rfl, hb⟩
  have HB := Lib.hid hb; clear hb
  have hl1 := bigL_len 1 (241 + (n - 240) / 256)
  have hl2 := bigL_len 1 ((n - 240) % 256)
  go_wp2_with (fail)
  refine (rbytes_at _ _ ((n - 240) % 256) 1 w2 (by omega) (by rfl) (by omega) (by omega)).mono ?_
  rintro e w3 ⟨rfl, hb⟩
  go_wp2_with (fail)
  go_ret
  exact ⟨ret_string (by rw [putL_two n h1 h2, ← two_bytes n (by omega) h2, ba_append]), HB.out.trans hb⟩
 have i2 : ¬ (n : Int) ≤ 2287 := by omega
 by_cases h3 : n < 67824
 ·clear z1 z2 z3 z4 h9
  have i3 : (n : Int) ≤ 67823 := by omega
  have hl1 := bigL_len 1 249
  have hl2 := bigL_len 2 (n - 2288)
  go_wp2_with (fail)
  refine (rbytes_at _ _ 249 1 w (by rfl) (by rfl) (by omega) (by omega)).mono ?_
  rintro e w2 ⟨rfl, hb⟩
  have HB := Lib.hid hb; clear hb
  go_wp2_with (fail)
  refine (rbytes_at _ _ (n - 2288) 2 w2 (by omega) (by rfl) (by omega) (by omega)).mono ?_
  rintro e w3 ⟨rfl, hb⟩
  go_wp2_with (fail)
  go_ret
  exact ⟨ret_string (by rw [putL_three n h2 h3, ← three_bytes n (by omega) h3, ba_append]), HB.out.trans hb⟩
 ·have hz := z4 h3
  clear z1 z2 z3 z4
  have i3 : ¬ (n : Int) ≤ 67823 := by omega
  have hl1 := bigL_len 1 (246 + szN n)
  have hl2 := bigL_len (szN n - 1) n
  go_wp2_with (fail)
  refine (rcount_any n w h3 hn).mono ?_
  rintro e w1 ⟨rfl, hw1⟩
  have HW := Lib.hid hw1.bel; clear hw1
  go_wp2_with (fail)
  refine (rbytes_at _ _ (246 + szN n) 1 w1 (by omega) (by rfl) (by omega) (by omega)).mono ?_
  rintro e w2 ⟨rfl, hb⟩
  have HB := Lib.hid hb; clear hb
  go_wp2_with (fail)
  refine (rbytes_at _ _ n (szN n - 1) w2 (by rfl) (by omega) (by omega) (by omega)).mono ?_
  rintro e w3 ⟨rfl, hb⟩
  go_wp2_with (fail)
  go_ret
  exact ⟨ret_string (by rw [putL_more n h3, ba_append]), (HW.out.trans HB.out).trans hb⟩

def midN (s : ByteArray) (j : Nat) : Nat := sumL ((s.data.toList.take j).drop 1)
theorem rput_at (x : Int) (n : Nat) (w : World) (hn : n < 18446744073709551616) (hx : (n : Int) = x) :
  Calls Tryz.prog 39 #[.int .u64 x] w fun e w' => e = .returned (.string ⟨(putL n).toArray⟩) ∧ Bel w w' := by
 subst hx; exact rput_any n w hn
def RTRel (s : ByteArray) (k : Nat) (v i : Value) : Prop := ∃ j : Nat, 1 ≤ j ∧ j ≤ k ∧ i = .int .i64 j ∧ v = .int .u64 ((midN s j % 18446744073709551616 : Nat) : Int)
theorem sumL_mid (s : ByteArray) (k : Nat) (h1 : 1 ≤ k) (h : k < s.size) : midN s (k + 1) = midN s k * 256 + s[k].toNat := by
  unfold midN
  rw [← sumL_snoc, List.take_add_one]
  have e : s.data.toList[k]? = some s[k] := by rw [List.getElem?_eq_getElem (by simpa using h)]; rfl
  rw [e, List.drop_append_of_le_length (by rw [List.length_take]; have : s.data.toList.length = s.size := rfl
                                           omega)]
  rfl
theorem sumL_one (s : ByteArray) : midN s 1 = 0 := by
 unfold midN
 rw [List.drop_eq_nil_of_le (by rw [List.length_take]; omega)]; rfl
theorem val_mid (s : ByteArray) (h0 : 0 < s.size) (k : Nat) (hk : k = kOf s[0]) (h : k ≤ s.size) :
  midN s k < 18446744073709551616 ∧
  (k = 1 → valL (s.extract 0 k).data.toList = s[0].toNat) ∧
  (k = 2 → midN s k < 256 ∧ valL (s.extract 0 k).data.toList = midN s k + 240 + 256 * (s[0].toNat - 241)) ∧
  (k = 3 → midN s k < 65536 ∧ valL (s.extract 0 k).data.toList = midN s k + 2288) ∧
  (4 ≤ k → valL (s.extract 0 k).data.toList = midN s k) := by
 unfold midN
 have h9 := kOf_le s[0]
 have hp := kOf_pos s[0]
 rw [← hk] at h9 hp
 obtain ⟨h1, e0, hz⟩ := ext_head s h0 k hp h
 have e1 : (s.extract 0 k).data.toList = s.data.toList.take k := by rw [ext_data, List.drop_zero]
 have hd := head_at _ h1
 rw [e0, e1] at hd
 have hl : (s.data.toList.take k).length = k := by rw [← e1]; exact hz
 have hlt := sumL_lt ((s.data.toList.take k).drop 1)
 rw [List.length_drop, hl] at hlt
 rw [e1]
 unfold valL
 rw [hl]
 have hs : sumL (s.data.toList.take k) = s[0].toNat * 256 ^ (k - 1) + sumL ((s.data.toList.take k).drop 1) := by
  conv => lhs; rw [hd]
  rw [sumL_cons, List.length_drop, hl]
 refine ⟨?_, ?_, ?_, ?_, ?_⟩
 ·have h2 : (256 : Nat) ^ (k - 1) ≤ 256 ^ 8 := Nat.pow_le_pow_right (by omega) (by omega)
  have e8 : (256 : Nat) ^ 8 = 18446744073709551616 := by decide
  omega
 ·intro hc; rw [hc] at hlt hs ⊢; rw [if_pos rfl, hs]; simp only [Nat.sub_self, Nat.pow_zero] at hlt ⊢; omega
 ·intro hc
  have hb : 241 ≤ s[0].toNat := by rw [hk] at hc; unfold kOf at hc; revert hc; (repeat' split) <;> omega
  rw [hc] at hlt hs ⊢; rw [if_neg (by omega), if_pos rfl, hs]
  simp only [Nat.reduceSub, Nat.pow_one] at hlt ⊢
  omega
 ·intro hc; rw [hc] at hlt ⊢; rw [if_neg (by omega), if_neg (by omega), if_pos rfl]; exact ⟨hlt, rfl⟩
 ·intro hc; rw [if_neg (by omega), if_neg (by omega), if_neg (by omega)]

set_option maxHeartbeats 4000000 in
set_option maxRecDepth 20000 in
theorem rtake_one (s : ByteArray) (w : World) (hs : s.size ≤ 1000000) (h0' : 0 < s.size) (hb : (s[0].toNat : Int) < 241) :
  Calls Tryz.prog 42 #[.string s] w fun e w' => e = .returned (takeV s.data.toList) ∧ Bel w w' := by
 have h0 : ¬ s.size = 0 := by omega
 have hlt8 : (s[0].toNat : Int) < 256 := by have := s[0].toNat_lt; omega
 obtain ⟨k, hk⟩ : ∃ k, k = kOf s[0] := ⟨_, rfl⟩
 have hk1 := kOf_pos s[0]
 have hk9 := kOf_le s[0]
 rw [← hk] at hk1 hk9
 have hne : s.toList.isEmpty = false := by
  rw [ByteArray.toList_eq, head_at s h0']; rfl
 have hkk : k = 1 := by rw [hk]; unfold kOf; rw [if_pos (by omega)]
 have t1 : ¬ (250 : Int) ≤ (s[0].toNat : Int) := by omega
 have t2 : ((s[0].toNat : Int) == 249) = false := by rw [beq_eq_false_iff_ne]; omega
 have t3 : ¬ (241 : Int) ≤ (s[0].toNat : Int) := by omega
 by_cases hl : s.size < k
 ·have hT := Lib.hid (takeL_short s h0' k hk hl)
  clear hk
  subst hkk
  exact absurd hl (by omega)
 ·have hT := Lib.hid (takeL_long s h0' k hk hl)
  have hQ := Lib.hid (val_mid s h0' k hk (by omega)).1
  have hV := Lib.hid ((val_mid s h0' k hk (by omega)).2.1 hkk)
  obtain ⟨hp, hp0, hpz⟩ := ext_head s h0' k hk1 (by omega)
  have hlt : valL (s.extract 0 k).data.toList < 18446744073709551616 := by
   rw [head_at _ hp]
   exact valL_lt _ _ (by rw [← head_at _ hp, hp0, ← hk]; exact hpz)
  clear hk hp0
  subst hkk
  go_enter Tryz.func42, Tryz.ntmps42
  go_wp2_with (fail)
  go_loopw [6, 7] (fun v i x => RTRel s 1 v i ∧ Drw w x) (fun _ i _ => 9 - (intOf i).toNat)
  case atStart => exact ⟨⟨1, Nat.le_refl _, by omega, rfl, by rw [sumL_one]; rfl⟩, Drw.refl _⟩
  case round =>
   obtain ⟨⟨j, hj1, hjk, rfl, rfl⟩, hw⟩ := hrel
   have HW := Lib.hid hw; clear hw
   by_cases hjl : j < 1
   ·exact absurd hjl (by omega)
   ·obtain rfl : j = 1 := by omega
    have hv := hV.out
    have hmm : ((valL (s.extract 0 1).data.toList : Nat) : Int) = (s[0].toNat : Int) := by rw [hv]
    have HMM := Lib.hid hmm
    clear hmm hv
    rw [Nat.mod_eq_of_lt hQ.out]
    by_cases he : putL (valL (s.extract 0 1).data.toList) = (s.extract 0 1).data.toList
    ·have hT' := Lib.hid (hT.out.trans (if_pos he))
     have hE := Lib.hid he; clear he
     generalize valL (s.extract 0 1).data.toList = m at *
     skip
     go_wp2_with (fail)
     go_region_with (go_at_call 39; refine (rput_at _ m _ hlt (by have := HMM.out; omega)).mono ?_; rintro e w3 ⟨rfl, hb⟩; have HB := Lib.hid hb; clear hb; rw [hE.out, ba_list])
     all_goals go_wp2_with (fail)
     all_goals go_quiet (fail)
     all_goals go_wp2_with (fail)
     all_goals go_ret3
     all_goals refine ⟨by rw [takeV, hT'.out, ba_list]; first | rfl | (simp only []; rw [HMM.out]; rfl), ?_⟩
     all_goals exact ((HW.out.bel.drew.trans HB.out).drewN _)
    ·have hT' := Lib.hid (hT.out.trans (if_neg he))
     have hE : (putL (valL (s.extract 0 1).data.toList) == (s.extract 0 1).toList) = false := by
      rw [ByteArray.toList_eq, beq_eq_false_iff_ne]; exact he
     clear he
     generalize valL (s.extract 0 1).data.toList = m at *
     skip
     go_wp2_with (fail)
     go_region_with (go_at_call 39; refine (rput_at _ m _ hlt (by have := HMM.out; omega)).mono ?_; rintro e w3 ⟨rfl, hb⟩; have HB := Lib.hid hb; clear hb)
     all_goals go_wp2_with (fail)
     all_goals go_ret3
     all_goals refine ⟨by rw [takeV, hT'.out]; rfl, ?_⟩
     all_goals exact HW.out.bel.drew.trans HB.out
set_option maxHeartbeats 4000000 in
set_option maxRecDepth 20000 in
theorem rtake_two (s : ByteArray) (w : World) (hs : s.size ≤ 1000000) (h0' : 0 < s.size) (hb : (241 : Int) ≤ (s[0].toNat : Int)) (hb2 : (s[0].toNat : Int) < 249) :
  Calls Tryz.prog 42 #[.string s] w fun e w' => e = .returned (takeV s.data.toList) ∧ Bel w w' := by
 have h0 : ¬ s.size = 0 := by omega
 have hlt8 : (s[0].toNat : Int) < 256 := by have := s[0].toNat_lt; omega
 obtain ⟨k, hk⟩ : ∃ k, k = kOf s[0] := ⟨_, rfl⟩
 have hk1 := kOf_pos s[0]
 have hk9 := kOf_le s[0]
 rw [← hk] at hk1 hk9
 have hne : s.toList.isEmpty = false := by
  rw [ByteArray.toList_eq, head_at s h0']; rfl
 have hkk : k = 2 := by rw [hk]; unfold kOf; rw [if_neg (by omega), if_pos (by omega)]
 have t1 : ¬ (250 : Int) ≤ (s[0].toNat : Int) := by omega
 have t2 : ((s[0].toNat : Int) == 249) = false := by rw [beq_eq_false_iff_ne]; omega
 have v3 : IntKind.u8.wrap ((s[0].toNat : Int) - 241) = (s[0].toNat : Int) - 241 := by simp [IntKind.wrap, IntKind.bits, IntKind.signed]; omega
 by_cases hl : s.size < k
 ·have hT := Lib.hid (takeL_short s h0' k hk hl)
  clear hk
  subst hkk
  go_enter Tryz.func42, Tryz.ntmps42
  go_wp2_with (fail)
  go_ret3
  exact ⟨by rw [takeV, hT.out]; rfl, Bel.refl w⟩
 ·have hT := Lib.hid (takeL_long s h0' k hk hl)
  have hQ := Lib.hid (val_mid s h0' k hk (by omega)).1
  have hV := Lib.hid ((val_mid s h0' k hk (by omega)).2.2.1 hkk)
  obtain ⟨hp, hp0, hpz⟩ := ext_head s h0' k hk1 (by omega)
  have hlt : valL (s.extract 0 k).data.toList < 18446744073709551616 := by
   rw [head_at _ hp]
   exact valL_lt _ _ (by rw [← head_at _ hp, hp0, ← hk]; exact hpz)
  clear hk hp0
  subst hkk
  go_enter Tryz.func42, Tryz.ntmps42
  go_wp2_with (fail)
  go_loopw [6, 7] (fun v i x => RTRel s 2 v i ∧ Drw w x) (fun _ i _ => 9 - (intOf i).toNat)
  case atStart => exact ⟨⟨1, Nat.le_refl _, by omega, rfl, by rw [sumL_one]; rfl⟩, Drw.refl _⟩
  case round =>
   obtain ⟨⟨j, hj1, hjk, rfl, rfl⟩, hw⟩ := hrel
   have HW := Lib.hid hw; clear hw
   by_cases hjl : j < 2
   ·have hjs : j < s.size := by omega
    go_wp2
    go_roundw
    case rel =>
     refine ⟨⟨j + 1, by omega, by omega, by go_num, ?_⟩, HW.out⟩
     rw [sumL_mid s j hj1 hjs]
     exact congrArg _ (wrap_step _ _)
    case measure => simp [intOf]; omega
   ·obtain rfl : j = 2 := by omega
    obtain ⟨hq, hv⟩ := hV.out
    have hmm : ((valL (s.extract 0 2).data.toList : Nat) : Int) = (midN s 2 : Int) + (240 : Int) + (256 : Int) * ((s[0].toNat : Int) - (241 : Int)) := by rw [hv]; omega
    have HMM := Lib.hid hmm
    clear hmm hv
    rw [Nat.mod_eq_of_lt hQ.out]
    by_cases he : putL (valL (s.extract 0 2).data.toList) = (s.extract 0 2).data.toList
    ·have hT' := Lib.hid (hT.out.trans (if_pos he))
     have hE := Lib.hid he; clear he
     generalize valL (s.extract 0 2).data.toList = m at *
     skip
     go_wp2_with (fail)
     go_region_with (go_at_call 39; refine (rput_at _ m _ hlt (by have := HMM.out; omega)).mono ?_; rintro e w3 ⟨rfl, hb⟩; have HB := Lib.hid hb; clear hb; rw [hE.out, ba_list])
     all_goals go_wp2_with (fail)
     all_goals go_quiet (fail)
     all_goals go_wp2_with (fail)
     all_goals go_ret3
     all_goals refine ⟨by rw [takeV, hT'.out, ba_list]; first | rfl | (simp only []; rw [HMM.out]; rfl), ?_⟩
     all_goals exact ((HW.out.bel.drew.trans HB.out).drewN _)
    ·have hT' := Lib.hid (hT.out.trans (if_neg he))
     have hE : (putL (valL (s.extract 0 2).data.toList) == (s.extract 0 2).toList) = false := by
      rw [ByteArray.toList_eq, beq_eq_false_iff_ne]; exact he
     clear he
     generalize valL (s.extract 0 2).data.toList = m at *
     skip
     go_wp2_with (fail)
     go_region_with (go_at_call 39; refine (rput_at _ m _ hlt (by have := HMM.out; omega)).mono ?_; rintro e w3 ⟨rfl, hb⟩; have HB := Lib.hid hb; clear hb)
     all_goals go_wp2_with (fail)
     all_goals go_ret3
     all_goals refine ⟨by rw [takeV, hT'.out]; rfl, ?_⟩
     all_goals exact HW.out.bel.drew.trans HB.out
set_option maxHeartbeats 4000000 in
set_option maxRecDepth 20000 in
theorem rtake_three (s : ByteArray) (w : World) (hs : s.size ≤ 1000000) (h0' : 0 < s.size) (hb : (s[0].toNat : Int) = 249) :
  Calls Tryz.prog 42 #[.string s] w fun e w' => e = .returned (takeV s.data.toList) ∧ Bel w w' := by
 have h0 : ¬ s.size = 0 := by omega
 have hlt8 : (s[0].toNat : Int) < 256 := by have := s[0].toNat_lt; omega
 obtain ⟨k, hk⟩ : ∃ k, k = kOf s[0] := ⟨_, rfl⟩
 have hk1 := kOf_pos s[0]
 have hk9 := kOf_le s[0]
 rw [← hk] at hk1 hk9
 have hne : s.toList.isEmpty = false := by
  rw [ByteArray.toList_eq, head_at s h0']; rfl
 have hkk : k = 3 := by rw [hk]; unfold kOf; rw [if_neg (by omega), if_neg (by omega), if_pos (by omega)]
 have t1 : ¬ (250 : Int) ≤ (s[0].toNat : Int) := by omega
 have t2 : ((s[0].toNat : Int) == 249) = true := by rw [beq_iff_eq]; omega
 by_cases hl : s.size < k
 ·have hT := Lib.hid (takeL_short s h0' k hk hl)
  clear hk
  subst hkk
  go_enter Tryz.func42, Tryz.ntmps42
  go_wp2_with (fail)
  go_ret3
  exact ⟨by rw [takeV, hT.out]; rfl, Bel.refl w⟩
 ·have hT := Lib.hid (takeL_long s h0' k hk hl)
  have hQ := Lib.hid (val_mid s h0' k hk (by omega)).1
  have hV := Lib.hid ((val_mid s h0' k hk (by omega)).2.2.2.1 hkk)
  obtain ⟨hp, hp0, hpz⟩ := ext_head s h0' k hk1 (by omega)
  have hlt : valL (s.extract 0 k).data.toList < 18446744073709551616 := by
   rw [head_at _ hp]
   exact valL_lt _ _ (by rw [← head_at _ hp, hp0, ← hk]; exact hpz)
  clear hk hp0
  subst hkk
  go_enter Tryz.func42, Tryz.ntmps42
  go_wp2_with (fail)
  go_loopw [6, 7] (fun v i x => RTRel s 3 v i ∧ Drw w x) (fun _ i _ => 9 - (intOf i).toNat)
  case atStart => exact ⟨⟨1, Nat.le_refl _, by omega, rfl, by rw [sumL_one]; rfl⟩, Drw.refl _⟩
  case round =>
   obtain ⟨⟨j, hj1, hjk, rfl, rfl⟩, hw⟩ := hrel
   have HW := Lib.hid hw; clear hw
   by_cases hjl : j < 3
   ·have hjs : j < s.size := by omega
    go_wp2
    go_roundw
    case rel =>
     refine ⟨⟨j + 1, by omega, by omega, by go_num, ?_⟩, HW.out⟩
     rw [sumL_mid s j hj1 hjs]
     exact congrArg _ (wrap_step _ _)
    case measure => simp [intOf]; omega
   ·obtain rfl : j = 3 := by omega
    obtain ⟨hq, hv⟩ := hV.out
    have hmm : ((valL (s.extract 0 3).data.toList : Nat) : Int) = (midN s 3 : Int) + (2288 : Int) := by rw [hv]; omega
    have HMM := Lib.hid hmm
    clear hmm hv
    rw [Nat.mod_eq_of_lt hQ.out]
    by_cases he : putL (valL (s.extract 0 3).data.toList) = (s.extract 0 3).data.toList
    ·have hT' := Lib.hid (hT.out.trans (if_pos he))
     have hE := Lib.hid he; clear he
     generalize valL (s.extract 0 3).data.toList = m at *
     skip
     go_wp2_with (fail)
     go_region_with (go_at_call 39; refine (rput_at _ m _ hlt (by have := HMM.out; omega)).mono ?_; rintro e w3 ⟨rfl, hb⟩; have HB := Lib.hid hb; clear hb; rw [hE.out, ba_list])
     all_goals go_wp2_with (fail)
     all_goals go_quiet (fail)
     all_goals go_wp2_with (fail)
     all_goals go_ret3
     all_goals refine ⟨by rw [takeV, hT'.out, ba_list]; first | rfl | (simp only []; rw [HMM.out]; rfl), ?_⟩
     all_goals exact ((HW.out.bel.drew.trans HB.out).drewN _)
    ·have hT' := Lib.hid (hT.out.trans (if_neg he))
     have hE : (putL (valL (s.extract 0 3).data.toList) == (s.extract 0 3).toList) = false := by
      rw [ByteArray.toList_eq, beq_eq_false_iff_ne]; exact he
     clear he
     generalize valL (s.extract 0 3).data.toList = m at *
     skip
     go_wp2_with (fail)
     go_region_with (go_at_call 39; refine (rput_at _ m _ hlt (by have := HMM.out; omega)).mono ?_; rintro e w3 ⟨rfl, hb⟩; have HB := Lib.hid hb; clear hb)
     all_goals go_wp2_with (fail)
     all_goals go_ret3
     all_goals refine ⟨by rw [takeV, hT'.out]; rfl, ?_⟩
     all_goals exact HW.out.bel.drew.trans HB.out
set_option maxHeartbeats 4000000 in
set_option maxRecDepth 20000 in
theorem rtake_more (s : ByteArray) (w : World) (hs : s.size ≤ 1000000) (h0' : 0 < s.size) (hb : (250 : Int) ≤ (s[0].toNat : Int)) :
  Calls Tryz.prog 42 #[.string s] w fun e w' => e = .returned (takeV s.data.toList) ∧ Bel w w' := by
 have h0 : ¬ s.size = 0 := by omega
 have hlt8 : (s[0].toNat : Int) < 256 := by have := s[0].toNat_lt; omega
 obtain ⟨k, hk⟩ : ∃ k, k = kOf s[0] := ⟨_, rfl⟩
 have hk1 := kOf_pos s[0]
 have hk9 := kOf_le s[0]
 rw [← hk] at hk1 hk9
 have hne : s.toList.isEmpty = false := by
  rw [ByteArray.toList_eq, head_at s h0']; rfl
 have hkk : (s[0].toNat : Int) - 246 = (k : Int) ∧ 4 ≤ k := by rw [hk]; unfold kOf; rw [if_neg (by omega), if_neg (by omega), if_neg (by omega)]; omega
 have t2 : ((s[0].toNat : Int) == 249) = false := by rw [beq_eq_false_iff_ne]; omega
 have v1 : IntKind.i64.wrap (s[0].toNat : Int) = s[0].toNat := IntWalk.i64_in _ (by omega)
 have v2 : IntKind.i64.wrap ((s[0].toNat : Int) - 246) = (s[0].toNat : Int) - 246 := IntWalk.i64_in _ (by omega)
 obtain ⟨hkk, hk4⟩ := hkk
 by_cases hl : s.size < k
 ·have hT := Lib.hid (takeL_short s h0' k hk hl)
  clear hk
  skip
  go_enter Tryz.func42, Tryz.ntmps42
  go_wp2_with (fail)
  go_ret3
  exact ⟨by rw [takeV, hT.out]; rfl, Bel.refl w⟩
 ·have hT := Lib.hid (takeL_long s h0' k hk hl)
  have hQ := Lib.hid (val_mid s h0' k hk (by omega)).1
  have hV := Lib.hid ((val_mid s h0' k hk (by omega)).2.2.2.2 hk4)
  obtain ⟨hp, hp0, hpz⟩ := ext_head s h0' k hk1 (by omega)
  have hlt : valL (s.extract 0 k).data.toList < 18446744073709551616 := by
   rw [head_at _ hp]
   exact valL_lt _ _ (by rw [← head_at _ hp, hp0, ← hk]; exact hpz)
  clear hk hp0
  skip
  go_enter Tryz.func42, Tryz.ntmps42
  go_wp2_with (fail)
  go_loopw [6, 7] (fun v i x => RTRel s k v i ∧ Drw w x) (fun _ i _ => 9 - (intOf i).toNat)
  case atStart => exact ⟨⟨1, Nat.le_refl _, by omega, rfl, by rw [sumL_one]; rfl⟩, Drw.refl _⟩
  case round =>
   obtain ⟨⟨j, hj1, hjk, rfl, rfl⟩, hw⟩ := hrel
   have HW := Lib.hid hw; clear hw
   by_cases hjl : j < k
   ·have hjs : j < s.size := by omega
    go_wp2
    go_roundw
    case rel =>
     refine ⟨⟨j + 1, by omega, by omega, by go_num, ?_⟩, HW.out⟩
     rw [sumL_mid s j hj1 hjs]
     exact congrArg _ (wrap_step _ _)
    case measure => simp [intOf]; omega
   ·obtain rfl : k = j := by omega
    have hv := hV.out
    have hmm : ((valL (s.extract 0 k).data.toList : Nat) : Int) = (midN s k : Int) := by rw [hv]
    have HMM := Lib.hid hmm
    clear hmm hv
    rw [Nat.mod_eq_of_lt hQ.out]
    by_cases he : putL (valL (s.extract 0 k).data.toList) = (s.extract 0 k).data.toList
    ·have hT' := Lib.hid (hT.out.trans (if_pos he))
     have hE := Lib.hid he; clear he
     generalize valL (s.extract 0 k).data.toList = m at *
     skip
     go_wp2_with (fail)
     go_region_with (go_at_call 39; refine (rput_at _ m _ hlt (by have := HMM.out; omega)).mono ?_; rintro e w3 ⟨rfl, hb⟩; have HB := Lib.hid hb; clear hb; rw [hE.out, ba_list])
     all_goals go_wp2_with (fail)
     all_goals go_quiet (fail)
     all_goals go_wp2_with (fail)
     all_goals go_ret3
     all_goals refine ⟨by rw [takeV, hT'.out, ba_list]; first | rfl | (simp only []; rw [HMM.out]; rfl), ?_⟩
     all_goals exact ((HW.out.bel.drew.trans HB.out).drewN _)
    ·have hT' := Lib.hid (hT.out.trans (if_neg he))
     have hE : (putL (valL (s.extract 0 k).data.toList) == (s.extract 0 k).toList) = false := by
      rw [ByteArray.toList_eq, beq_eq_false_iff_ne]; exact he
     clear he
     generalize valL (s.extract 0 k).data.toList = m at *
     skip
     go_wp2_with (fail)
     go_region_with (go_at_call 39; refine (rput_at _ m _ hlt (by have := HMM.out; omega)).mono ?_; rintro e w3 ⟨rfl, hb⟩; have HB := Lib.hid hb; clear hb)
     all_goals go_wp2_with (fail)
     all_goals go_ret3
     all_goals refine ⟨by rw [takeV, hT'.out]; rfl, ?_⟩
     all_goals exact HW.out.bel.drew.trans HB.out

theorem big_four (n : Nat) (hn : n < 4294967296) : Lib.byteCells (bigL n 4) = [.int .u8 ((n : Int) / 16777216), .int .u8 ((n : Int) / 65536 % 256), .int .u8 ((n : Int) / 256 % 256), .int .u8 ((n : Int) % 256)] := by
 simp only [bigL, Lib.byteCells, List.nil_append, List.cons_append, List.map_cons, List.map_nil, UInt8.toNat_ofNat']
 simp only [List.cons.injEq, Value.int.injEq, true_and, and_true]
 refine ⟨?_, ?_, ?_, ?_⟩ <;> omega
theorem conv_four (W : World) (n : Nat) (hn : n < 4294967296) :
  (convert 114 9 (.slice (some ⟨W.heap.size, 0, none⟩) 4 4)).run Tryz.prog (W.alloc (.cells #[.int .u8 ((n : Int) / 16777216), .int .u8 ((n : Int) / 65536 % 256), .int .u8 ((n : Int) / 256 % 256), .int .u8 ((n : Int) % 256)] 5)) =
   .ok (.string ⟨(bigL n 4).toArray⟩) (W.alloc (.cells #[.int .u8 ((n : Int) / 16777216), .int .u8 ((n : Int) / 65536 % 256), .int .u8 ((n : Int) / 256 % 256), .int .u8 ((n : Int) % 256)] 5)) := by
 have h := own_new 0 W #[.int .u8 ((n : Int) / 16777216), .int .u8 ((n : Int) / 65536 % 256), .int .u8 ((n : Int) / 256 % 256), .int .u8 ((n : Int) % 256)] (bigL n 4) (by rw [big_four n hn]) (Nat.zero_le _) (by rw [bigL_len]; omega)
 rw [bigL_len] at h
 exact own_string h

set_option maxHeartbeats 2000000 in
theorem closing_any (s : ByteArray) (w : World) (hs : s.size ≤ maxLen) :
  Calls Tryz.prog 117 #[.string s] w fun e w' => e = .returned (.string ⟨(bigL (crcN s.data.toList) 4).toArray⟩) ∧ Bel w w' := by
 have hl := crc_lt s.data.toList
 go_enter Tryz.func117, Tryz.ntmps117
 go_wp2_with (fail)
 refine (sum5_any s w hs).mono ?_
 rintro e w1 ⟨rfl, hd⟩
 have HB := Lib.hid hd.bel; clear hd
 have hcv := conv_four w1 (crcN s.data.toList) hl
 go_wp2_with (fail)
 go_ret
 exact ⟨rfl, HB.out.alloc _⟩
set_option maxHeartbeats 2000000 in
theorem four_any (n : Nat) (w : World) (hn : n < 4294967296) :
  Calls Tryz.prog 133 #[.int .u32 n] w fun e w' => e = .returned (.string ⟨(bigL n 4).toArray⟩) ∧ Bel w w' := by
 have hcv := conv_four w n hn
 go_enter Tryz.func133, Tryz.ntmps133
 go_wp2_with (fail)
 go_ret
 exact ⟨rfl, (Bel.refl w).alloc _⟩

def frameV (l : List UInt8) : Value := .tuple #[.string ⟨(frameL l).toArray⟩, .int .i64 0]
theorem ba_frame (s : ByteArray) : (⟨(putL s.size).toArray⟩ ++ s ++ ⟨(bigL (crcN s.data.toList) 4).toArray⟩ : ByteArray) = ⟨(frameL s.data.toList).toArray⟩ := by
 apply ByteArray.ext
 simp [frameL]

set_option maxHeartbeats 2000000 in
theorem frame_ok (s : ByteArray) (w : World) (h : s.size ≤ 40000) :
  Calls Tryz.prog 86 #[.string s] w fun e w' => e = .returned (frameV s.data.toList) ∧ Bel w w' := by
 have hz9 := szN_le s.size
 have hp := putL_len s.size
 have h4 := bigL_len 4 (crcN s.data.toList)
 go_enter Tryz.func86, Tryz.ntmps86
 go_wp2_with (fail)
 refine (put_any s.size w (by omega)).mono ?_
 rintro e w1 ⟨rfl, hb⟩
 have HB := Lib.hid hb; clear hb
 have hz1 : (⟨(putL s.size).toArray⟩ : ByteArray).size = szN s.size := by show (putL s.size).toArray.size = _; rw [List.size_toArray, hp]
 go_wp2_with (fail)
 refine (closing_any s w1 (by unfold maxLen; omega)).mono ?_
 rintro e w2 ⟨rfl, hb⟩
 replace HB := Lib.hid (HB.out.trans hb); clear hb
 go_wp2_with (fail)
 go_ret2
 exact ⟨by rw [frameV, ← ba_frame]; rfl, HB.out⟩
set_option maxHeartbeats 2000000 in
theorem rframe_ok (s : ByteArray) (w : World) (h : s.size ≤ 40000) :
  Calls Tryz.prog 111 #[.string s] w fun e w' => e = .returned (frameV s.data.toList) ∧ Bel w w' := by
 have hz9 := szN_le s.size
 have hp := putL_len s.size
 have h4 := bigL_len 4 (crcN s.data.toList)
 go_enter Tryz.func111, Tryz.ntmps111
 go_wp2_with (fail)
 refine (rput_any s.size w (by omega)).mono ?_
 rintro e w1 ⟨rfl, hb⟩
 have HB := Lib.hid hb; clear hb
 have hz1 : (⟨(putL s.size).toArray⟩ : ByteArray).size = szN s.size := by show (putL s.size).toArray.size = _; rw [List.size_toArray, hp]
 go_wp2_with (fail)
 refine (rsum5_any s w1 (by unfold maxLen; omega)).mono ?_
 rintro e w2 ⟨rfl, hb⟩
 replace HB := Lib.hid (HB.out.trans hb.bel); clear hb
 go_wp2_with (fail)
 refine (four_any _ w2 (crc_lt _)).mono ?_
 rintro e w3 ⟨rfl, hb⟩
 replace HB := Lib.hid (HB.out.trans hb); clear hb
 go_wp2_with (fail)
 go_ret2
 exact ⟨by rw [frameV, ← ba_frame]; rfl, HB.out⟩

theorem prefix0_any (s t : ByteArray) (w : World) (hs : s.size ≤ 1000000) (ht : t.size ≤ s.size) :
  Calls Tryz.prog 183 #[.string s, .string t] w fun e w' => e = .returned (.bool ((s.extract 0 t.size).toList == t.toList)) ∧ Bel w w' := by
 go_enter Tryz.func183, Tryz.ntmps183
 go_wp2_with (fail)
 go_ret
 exact ⟨rfl, Bel.refl w⟩
theorem prefix_any (s t : ByteArray) (w : World) (hs : s.size ≤ 1000000) (ht : t.size ≤ s.size) :
  Calls Tryz.prog 203 #[.string s, .string t] w fun e w' => e = .returned (.bool ((s.extract 0 t.size).toList == t.toList)) ∧ Bel w w' := by
 go_enter Tryz.func203, Tryz.ntmps203
 go_wp2_with (fail)
 refine (prefix0_any s t w hs ht).mono ?_
 rintro e w1 ⟨rfl, hb⟩
 have HB := Lib.hid hb; clear hb
 go_wp2_with (fail)
 go_ret
 exact ⟨rfl, HB.out⟩

theorem rtake_any (s : ByteArray) (w : World) (hs : s.size ≤ 1000000) :
  Calls Tryz.prog 42 #[.string s] w fun e w' => e = .returned (takeV s.data.toList) ∧ Bel w w' := by
 by_cases h0 : s.size = 0
 ·obtain rfl : s = ⟨#[]⟩ := by apply ByteArray.ext; exact Array.eq_empty_of_size_eq_zero h0
  go_enter Tryz.func42, Tryz.ntmps42
  go_wp2_with (fail)
  go_ret3
  exact ⟨rfl, Bel.refl w⟩
 have h0' : 0 < s.size := by omega
 by_cases h1 : (s[0].toNat : Int) < 241
 ·exact rtake_one s w hs h0' h1
 by_cases h2 : (s[0].toNat : Int) < 249
 ·exact rtake_two s w hs h0' (by omega) h2
 by_cases h3 : (s[0].toNat : Int) = 249
 ·exact rtake_three s w hs h0' h3
 ·exact rtake_more s w hs h0' (by omega)

def unV (l : List UInt8) : Value := .tuple #[.string ⟨(unframeL l).1.toArray⟩, .string ⟨(unframeL l).2.1.toArray⟩, .int .i64 (unframeL l).2.2]
theorem prefix_at (s t : ByteArray) (b : Bool) (w : World) (hs : s.size ≤ 1000000) (ht : t.size ≤ s.size) (h : (s.data.toList.take t.size == t.data.toList) = b) :
  Calls Tryz.prog 203 #[.string s, .string t] w fun e w' => e = .returned (.bool b) ∧ Bel w w' := by
 have e : ((s.extract 0 t.size).toList == t.toList) = b := by
  rw [← h, ByteArray.toList_eq, ByteArray.toList_eq, ext_data, List.drop_zero]
 rw [← e]
 exact prefix_any s t w hs ht
theorem closing_at (s : ByteArray) (l : List UInt8) (w : World) (hs : s.size ≤ 1000000) (h : s.data.toList = l) :
  Calls Tryz.prog 117 #[.string s] w fun e w' => e = .returned (.string ⟨(bigL (crcN l) 4).toArray⟩) ∧ Bel w w' := by
 subst h; exact closing_any s w (by unfold maxLen; omega)
theorem take_parts (l : List UInt8) (n : Nat) (r : List UInt8) (b : Bool) (h : takeL l = (n, r, b)) : takeV l = .tuple #[.int .u64 (n : Int), .string ⟨r.toArray⟩, .bool b] := by rw [takeV, h]
theorem un_none (l : List UInt8) (n : Nat) (r : List UInt8) (h : takeL l = (n, r, false)) : unV l = .tuple #[.string ⟨#[]⟩, .string ⟨#[]⟩, .int .i64 8] := by
 rw [unV, unframeL, h, if_pos rfl]
theorem un_long (l : List UInt8) (n : Nat) (r : List UInt8) (h : takeL l = (n, r, true)) (hn : 40000 < n) : unV l = .tuple #[.string ⟨#[]⟩, .string ⟨#[]⟩, .int .i64 10] := by
 rw [unV, unframeL, h, if_neg (by simp), if_pos hn]
theorem un_few (l : List UInt8) (n : Nat) (r : List UInt8) (h : takeL l = (n, r, true)) (hn : n ≤ 40000) (hr : r.length < n + 4) : unV l = .tuple #[.string ⟨#[]⟩, .string ⟨#[]⟩, .int .i64 8] := by
 rw [unV, unframe_of h hn, if_pos hr]
theorem un_wrong (l : List UInt8) (n : Nat) (r : List UInt8) (h : takeL l = (n, r, true)) (hn : n ≤ 40000) (hr : ¬ r.length < n + 4) (hs : ¬ bigL (crcN (r.take n)) 4 = (r.drop n).take 4) :
  unV l = .tuple #[.string ⟨#[]⟩, .string ⟨#[]⟩, .int .i64 9] := by
 rw [unV, unframe_of h hn, if_neg hr, if_neg hs]
theorem un_ok (l : List UInt8) (n : Nat) (r : List UInt8) (h : takeL l = (n, r, true)) (hn : n ≤ 40000) (hr : ¬ r.length < n + 4) (hs : bigL (crcN (r.take n)) 4 = (r.drop n).take 4) :
  unV l = .tuple #[.string ⟨(r.take n).toArray⟩, .string ⟨(r.drop (n + 4)).toArray⟩, .int .i64 0] := by
 rw [unV, unframe_of h hn, if_neg hr, if_pos hs]

set_option maxHeartbeats 4000000 in
theorem unframe_any (s : ByteArray) (w : World) (hs : s.size ≤ 1000000) :
  Calls Tryz.prog 193 #[.string s] w fun e w' => e = .returned (unV s.data.toList) ∧ Bel w w' := by
 obtain ⟨n, r, b, hT⟩ : ∃ n r b, takeL s.data.toList = (n, r, b) := ⟨_, _, _, rfl⟩
 have hrest := take_rest s.data.toList
 have hV := Lib.hid (take_parts _ _ _ _ hT)
 rw [hT] at hrest
 have hsl : s.data.toList.length = s.size := rfl
 have hrs : r.length ≤ s.size := by simp only [] at hrest; omega
 clear hrest
 have hz : (⟨r.toArray⟩ : ByteArray).size = r.length := by show r.toArray.size = _; simp
 cases b with
 | false =>
  have HU := Lib.hid (un_none _ _ _ hT)
  clear hT
  go_enter Tryz.func193, Tryz.ntmps193
  go_wp2_with (fail)
  refine (take_any s w hs).mono ?_
  rintro e w1 ⟨rfl, hb⟩
  have HB := Lib.hid hb; clear hb
  rw [hV.out]
  go_wp2_with (fail)
  go_ret3
  exact ⟨by rw [HU.out]; rfl, HB.out⟩
 | true =>
  by_cases hn : 40000 < n
  ·have HU := Lib.hid (un_long _ _ _ hT hn)
   clear hT
   go_enter Tryz.func193, Tryz.ntmps193
   go_wp2_with (fail)
   refine (take_any s w hs).mono ?_
   rintro e w1 ⟨rfl, hb⟩
   have HB := Lib.hid hb; clear hb
   rw [hV.out]
   go_wp2_with (fail)
   go_ret3
   exact ⟨by rw [HU.out]; rfl, HB.out⟩
  by_cases hr : r.length < n + 4
  ·have HU := Lib.hid (un_few _ _ _ hT (by omega) hr)
   clear hT
   go_enter Tryz.func193, Tryz.ntmps193
   go_wp2_with (fail)
   refine (take_any s w hs).mono ?_
   rintro e w1 ⟨rfl, hb⟩
   have HB := Lib.hid hb; clear hb
   rw [hV.out]
   go_wp2_with (fail)
   go_ret3
   exact ⟨by rw [HU.out]; rfl, HB.out⟩
  by_cases he : bigL (crcN (r.take n)) 4 = (r.drop n).take 4
  ·have HU := Lib.hid (un_ok _ _ _ hT (by omega) hr he)
   clear hT
   have hl : (⟨r.toArray⟩ : ByteArray).data.toList = r := by simp
   generalize hra : (⟨r.toArray⟩ : ByteArray) = ra at *
   have h4 := bigL_len 4 (crcN (r.take n))
   have HP := Lib.hid (show (ra.extract 0 n).data.toList = r.take n by rw [ext_data, List.drop_zero, hl])
   have HQ := Lib.hid (show (ra.extract n r.length).data.toList = r.drop n by rw [ext_data, hl, List.take_of_length_le (by omega)])
   have HQ4 := Lib.hid (show (ra.extract n (n + 4)).data.toList = (r.drop n).take 4 by rw [ext_data, hl, List.drop_take]; congr 1; omega)
   have HR := Lib.hid (show (ra.extract (n + 4) r.length).data.toList = r.drop (n + 4) by rw [ext_data, hl, List.take_of_length_le (by omega)])
   have h4' : (⟨(bigL (crcN (r.take n)) 4).toArray⟩ : ByteArray).size = 4 := by show (bigL (crcN (r.take n)) 4).toArray.size = 4; simp [h4]
   have hzp : (ra.extract 0 n).size = n := by simp [ByteArray.size_extract]; omega
   have hzq : (ra.extract n r.length).size = r.length - n := by simp [ByteArray.size_extract]; omega
   have HX := Lib.hid (show (ra.extract n r.length).extract 4 (r.length - n) = ra.extract (n + 4) r.length by
    apply ByteArray.ext; apply Array.ext'; rw [ext_data, HQ.out, HR.out, List.take_of_length_le (by simp), List.drop_drop])
   have HE := Lib.hid he
   clear he hra hl h4
   go_enter Tryz.func193, Tryz.ntmps193
   go_wp2_with (fail)
   refine (take_any s w hs).mono ?_
   rintro e w1 ⟨rfl, hb⟩
   have HB := Lib.hid hb; clear hb
   rw [hV.out]
   go_wp2_with (fail)
   go_quiet (fail)
   go_wp2_with (fail)
   refine (closing_at (ra.extract 0 n) _ _ (by omega) HP.out).mono ?_
   rintro e w2 ⟨rfl, hb⟩
   replace HB := Lib.hid ((HB.out.drewN _).trans hb); clear hb
   go_wp2_with (fail)
   refine (prefix_at _ _ true _ (by omega) (by rw [h4', hzq]; omega) (by rw [h4', HQ.out]; rw [beq_iff_eq]; exact HE.out.symm)).mono ?_
   rintro e w3 ⟨rfl, hb⟩
   replace HB := Lib.hid (HB.out.trans hb); clear hb
   go_wp2_with (fail)
   go_quiet (fail)
   go_wp2_with (fail)
   go_ret3
   refine ⟨?_, HB.out.drewN _⟩
   rw [HU.out]
   have e1 := congrArg (fun l : List UInt8 => (⟨l.toArray⟩ : ByteArray)) HP.out
   have e2 := congrArg (fun l : List UInt8 => (⟨l.toArray⟩ : ByteArray)) HR.out
   simp only [ba_list] at e1 e2
   rw [← e1, ← e2, ← HX.out]
   rfl
  ·have HU := Lib.hid (un_wrong _ _ _ hT (by omega) hr he)
   clear hT
   have hl : (⟨r.toArray⟩ : ByteArray).data.toList = r := by simp
   generalize hra : (⟨r.toArray⟩ : ByteArray) = ra at *
   have h4 := bigL_len 4 (crcN (r.take n))
   have HP := Lib.hid (show (ra.extract 0 n).data.toList = r.take n by rw [ext_data, List.drop_zero, hl])
   have HQ := Lib.hid (show (ra.extract n r.length).data.toList = r.drop n by rw [ext_data, hl, List.take_of_length_le (by omega)])
   have HQ4 := Lib.hid (show (ra.extract n (n + 4)).data.toList = (r.drop n).take 4 by rw [ext_data, hl, List.drop_take]; congr 1; omega)
   have HR := Lib.hid (show (ra.extract (n + 4) r.length).data.toList = r.drop (n + 4) by rw [ext_data, hl, List.take_of_length_le (by omega)])
   have h4' : (⟨(bigL (crcN (r.take n)) 4).toArray⟩ : ByteArray).size = 4 := by show (bigL (crcN (r.take n)) 4).toArray.size = 4; simp [h4]
   have hzp : (ra.extract 0 n).size = n := by simp [ByteArray.size_extract]; omega
   have hzq : (ra.extract n r.length).size = r.length - n := by simp [ByteArray.size_extract]; omega
   have HX := Lib.hid (show (ra.extract n r.length).extract 4 (r.length - n) = ra.extract (n + 4) r.length by
    apply ByteArray.ext; apply Array.ext'; rw [ext_data, HQ.out, HR.out, List.take_of_length_le (by simp), List.drop_drop])
   have HE := Lib.hid he
   clear he hra hl h4
   go_enter Tryz.func193, Tryz.ntmps193
   go_wp2_with (fail)
   refine (take_any s w hs).mono ?_
   rintro e w1 ⟨rfl, hb⟩
   have HB := Lib.hid hb; clear hb
   rw [hV.out]
   go_wp2_with (fail)
   go_quiet (fail)
   go_wp2_with (fail)
   refine (closing_at (ra.extract 0 n) _ _ (by omega) HP.out).mono ?_
   rintro e w2 ⟨rfl, hb⟩
   replace HB := Lib.hid ((HB.out.drewN _).trans hb); clear hb
   go_wp2_with (fail)
   refine (prefix_at _ _ false _ (by omega) (by rw [h4', hzq]; omega) (by rw [h4', HQ.out]; rw [beq_eq_false_iff_ne]; exact fun h => HE.out h.symm)).mono ?_
   rintro e w3 ⟨rfl, hb⟩
   replace HB := Lib.hid (HB.out.trans hb); clear hb
   go_wp2_with (fail)
   go_ret3
   exact ⟨by rw [HU.out]; rfl, HB.out⟩
theorem rsum5_at (s : ByteArray) (l : List UInt8) (w : World) (hs : s.size ≤ 1000000) (h : s.data.toList = l) :
  Calls Tryz.prog 134 #[.string s] w fun e w' => e = .returned (.int .u32 ((crcN l : Nat) : Int)) ∧ Drw w w' := by
 subst h; exact rsum5_any s w (by unfold maxLen; omega)
set_option maxHeartbeats 4000000 in
theorem runframe_any (s : ByteArray) (w : World) (hs : s.size ≤ 1000000) :
  Calls Tryz.prog 155 #[.string s] w fun e w' => e = .returned (unV s.data.toList) ∧ Bel w w' := by
 obtain ⟨n, r, b, hT⟩ : ∃ n r b, takeL s.data.toList = (n, r, b) := ⟨_, _, _, rfl⟩
 have hrest := take_rest s.data.toList
 have hV := Lib.hid (take_parts _ _ _ _ hT)
 rw [hT] at hrest
 have hsl : s.data.toList.length = s.size := rfl
 have hrs : r.length ≤ s.size := by simp only [] at hrest; omega
 clear hrest
 have hz : (⟨r.toArray⟩ : ByteArray).size = r.length := by show r.toArray.size = _; simp
 cases b with
 | false =>
  have HU := Lib.hid (un_none _ _ _ hT)
  clear hT
  go_enter Tryz.func155, Tryz.ntmps155
  go_wp2_with (fail)
  refine (rtake_any s w hs).mono ?_
  rintro e w1 ⟨rfl, hb⟩
  have HB := Lib.hid hb; clear hb
  rw [hV.out]
  go_wp2_with (fail)
  go_ret3
  exact ⟨by rw [HU.out]; rfl, HB.out⟩
 | true =>
  by_cases hn : 40000 < n
  ·have HU := Lib.hid (un_long _ _ _ hT hn)
   clear hT
   go_enter Tryz.func155, Tryz.ntmps155
   go_wp2_with (fail)
   refine (rtake_any s w hs).mono ?_
   rintro e w1 ⟨rfl, hb⟩
   have HB := Lib.hid hb; clear hb
   rw [hV.out]
   go_wp2_with (fail)
   go_ret3
   exact ⟨by rw [HU.out]; rfl, HB.out⟩
  by_cases hr : r.length < n + 4
  ·have HU := Lib.hid (un_few _ _ _ hT (by omega) hr)
   clear hT
   go_enter Tryz.func155, Tryz.ntmps155
   go_wp2_with (fail)
   refine (rtake_any s w hs).mono ?_
   rintro e w1 ⟨rfl, hb⟩
   have HB := Lib.hid hb; clear hb
   rw [hV.out]
   go_wp2_with (fail)
   go_ret3
   exact ⟨by rw [HU.out]; rfl, HB.out⟩
  by_cases he : bigL (crcN (r.take n)) 4 = (r.drop n).take 4
  ·have HU := Lib.hid (un_ok _ _ _ hT (by omega) hr he)
   clear hT
   have hl : (⟨r.toArray⟩ : ByteArray).data.toList = r := by simp
   generalize hra : (⟨r.toArray⟩ : ByteArray) = ra at *
   have h4 := bigL_len 4 (crcN (r.take n))
   have HP := Lib.hid (show (ra.extract 0 n).data.toList = r.take n by rw [ext_data, List.drop_zero, hl])
   have HQ := Lib.hid (show (ra.extract n r.length).data.toList = r.drop n by rw [ext_data, hl, List.take_of_length_le (by omega)])
   have HQ4 := Lib.hid (show (ra.extract n (n + 4)).data.toList = (r.drop n).take 4 by rw [ext_data, hl, List.drop_take]; congr 1; omega)
   have HR := Lib.hid (show (ra.extract (n + 4) r.length).data.toList = r.drop (n + 4) by rw [ext_data, hl, List.take_of_length_le (by omega)])
   have h4' : (⟨(bigL (crcN (r.take n)) 4).toArray⟩ : ByteArray).size = 4 := by show (bigL (crcN (r.take n)) 4).toArray.size = 4; simp [h4]
   have hzp : (ra.extract 0 n).size = n := by simp [ByteArray.size_extract]; omega
   have hzq : (ra.extract n r.length).size = r.length - n := by simp [ByteArray.size_extract]; omega
   have HX := Lib.hid (show (ra.extract n r.length).extract 4 (r.length - n) = ra.extract (n + 4) r.length by
    apply ByteArray.ext; apply Array.ext'; rw [ext_data, HQ.out, HR.out, List.take_of_length_le (by simp), List.drop_drop])
   have HE := Lib.hid he
   clear he hra hl h4
   go_enter Tryz.func155, Tryz.ntmps155
   go_wp2_with (fail)
   refine (rtake_any s w hs).mono ?_
   rintro e w1 ⟨rfl, hb⟩
   have HB := Lib.hid hb; clear hb
   rw [hV.out]
   go_wp2_with (fail)
   have hnr : n ≤ r.length := by omega
   have hBE : (bigL (crcN (r.take n)) 4 == (ra.extract n (n + 4)).toList) = true := by
    rw [ByteArray.toList_eq, HQ4.out, beq_iff_eq]; exact HE.out
   have hw4 : IntKind.i64.wrap ((n : Int) + 4) = (n : Int) + 4 := IntWalk.i64_in _ (by omega)
   go_region_with (first
    | (go_at_call 134; refine (rsum5_at _ _ _ (by omega) HP.out).mono ?_; rintro e w3 ⟨rfl, hb⟩; have HB3 := Lib.hid hb; clear hb)
    | (go_at_call 133; refine (four_any _ _ (crc_lt _)).mono ?_; rintro e w4 ⟨rfl, hb⟩; have HB4 := Lib.hid hb; clear hb))
   all_goals go_wp2_with (fail)
   all_goals go_quiet (fail)
   all_goals go_wp2_with (fail)
   all_goals go_ret3
   all_goals refine ⟨?_, ((HB.out.drew.trans HB3.out.bel).trans HB4.out).drewN _⟩
   all_goals rw [HU.out]
   all_goals have e1 := congrArg (fun l : List UInt8 => (⟨l.toArray⟩ : ByteArray)) HP.out
   all_goals have e2 := congrArg (fun l : List UInt8 => (⟨l.toArray⟩ : ByteArray)) HR.out
   all_goals simp only [ba_list] at e1 e2
   all_goals rw [← e1, ← e2]
   all_goals rfl
  ·have HU := Lib.hid (un_wrong _ _ _ hT (by omega) hr he)
   clear hT
   have hl : (⟨r.toArray⟩ : ByteArray).data.toList = r := by simp
   generalize hra : (⟨r.toArray⟩ : ByteArray) = ra at *
   have h4 := bigL_len 4 (crcN (r.take n))
   have HP := Lib.hid (show (ra.extract 0 n).data.toList = r.take n by rw [ext_data, List.drop_zero, hl])
   have HQ := Lib.hid (show (ra.extract n r.length).data.toList = r.drop n by rw [ext_data, hl, List.take_of_length_le (by omega)])
   have HQ4 := Lib.hid (show (ra.extract n (n + 4)).data.toList = (r.drop n).take 4 by rw [ext_data, hl, List.drop_take]; congr 1; omega)
   have HR := Lib.hid (show (ra.extract (n + 4) r.length).data.toList = r.drop (n + 4) by rw [ext_data, hl, List.take_of_length_le (by omega)])
   have h4' : (⟨(bigL (crcN (r.take n)) 4).toArray⟩ : ByteArray).size = 4 := by show (bigL (crcN (r.take n)) 4).toArray.size = 4; simp [h4]
   have hzp : (ra.extract 0 n).size = n := by simp [ByteArray.size_extract]; omega
   have hzq : (ra.extract n r.length).size = r.length - n := by simp [ByteArray.size_extract]; omega
   have HX := Lib.hid (show (ra.extract n r.length).extract 4 (r.length - n) = ra.extract (n + 4) r.length by
    apply ByteArray.ext; apply Array.ext'; rw [ext_data, HQ.out, HR.out, List.take_of_length_le (by simp), List.drop_drop])
   have HE := Lib.hid he
   clear he hra hl h4
   go_enter Tryz.func155, Tryz.ntmps155
   go_wp2_with (fail)
   refine (rtake_any s w hs).mono ?_
   rintro e w1 ⟨rfl, hb⟩
   have HB := Lib.hid hb; clear hb
   rw [hV.out]
   go_wp2_with (fail)
   have hnr : n ≤ r.length := by omega
   have hBE : (bigL (crcN (r.take n)) 4 == (ra.extract n (n + 4)).toList) = false := by
    rw [ByteArray.toList_eq, HQ4.out, beq_eq_false_iff_ne]; exact HE.out
   have hw4 : IntKind.i64.wrap ((n : Int) + 4) = (n : Int) + 4 := IntWalk.i64_in _ (by omega)
   go_region_with (first
    | (go_at_call 134; refine (rsum5_at _ _ _ (by omega) HP.out).mono ?_; rintro e w3 ⟨rfl, hb⟩; have HB3 := Lib.hid hb; clear hb)
    | (go_at_call 133; refine (four_any _ _ (crc_lt _)).mono ?_; rintro e w4 ⟨rfl, hb⟩; have HB4 := Lib.hid hb; clear hb))
   all_goals go_wp2_with (fail)
   all_goals go_ret3
   all_goals exact ⟨by rw [HU.out]; rfl, (HB.out.drew.trans HB3.out.bel).trans HB4.out⟩
end Go.Proofs.YtfbiinnenlgkfaaGreatDoor
