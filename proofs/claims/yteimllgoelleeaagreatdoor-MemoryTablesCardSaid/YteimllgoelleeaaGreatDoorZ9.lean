/- VBig, VSize, VPut, VNum, VTake, VRef, VRTake, BCom, BPair, BSmall, CFour, CUnf, laid together. -/
import Derived.Test.YteimllgoelleeaaGreatDoorZ5
import Derived.Test.YteimllgoelleeaaGreatDoorZ3
import Derived.Deep.OwnRows
import Derived.WalkMore
import Derived.StillTailTactics
import Derived.Test.YteimllgoelleeaaGreatDoorZ6
import Derived.Test.YteimllgoelleeaaGreatDoorZ10
import Derived.Test.YteimllgoelleeaaGreatDoorZ20
set_option linter.unusedSimpArgs false
set_option linter.unusedVariables false
/- varint.big, varint.sum: the last bytes of a number, and the number of some bytes. -/
namespace Go.Proofs.YteimllgoelleeaaGreatDoor
open Go.RowKit Go.Deep

def BigRel (n sz : Nat) (w : World) (i : Value) (x : World) : Prop := ∃ k : Nat, k ≤ sz ∧ i = .int .i64 k ∧
  x.rowIs w.heap.size 5 sz (fun j => if sz - k ≤ j then .int .u8 ((n / 256 ^ (sz - 1 - j) % 256 : Nat) : Int) else .int .u8 0) ∧ Bel w x

theorem bigL_get : ∀ (sz n j : Nat), j < sz → (bigL n sz)[j]? = some (UInt8.ofNat (n / 256 ^ (sz - 1 - j) % 256))
  | 0, n, j, h => by omega
  | sz + 1, n, 0, h => by rw [bigL_cons]; simp
  | sz + 1, n, j + 1, h => by
    rw [bigL_cons, List.getElem?_cons_succ, bigL_get sz n j (by omega)]
    have e : sz - 1 - j = sz + 1 - 1 - (j + 1) := by omega
    rw [e]
theorem shr_byte (n k : Nat) : (n : Int) / 2 ^ (8 * k) % 256 = ((n / 256 ^ k % 256 : Nat) : Int) := by
  have e : (2 : Int) ^ (8 * k) = ((256 ^ k : Nat) : Int) := by rw [Int.pow_mul]; simp
  rw [e]; simp

set_option maxHeartbeats 1000000 in
theorem big_any (n sz : Nat) (w : World) (hs : sz ≤ 9) :
    Calls Tryz.prog 80 #[.int .u64 n, .int .i64 sz] w fun e w' => e = .returned (.string ⟨(bigL n sz).toArray⟩) ∧ Bel w w' := by
  have hmk := run_make_row' (P := Tryz.prog) 64 5 (.int .u8 0) 1 Tryz.underlying64 infoByte rfl .i64 .i64 sz (by omega) (by omega)
  go_enter Tryz.func80, Tryz.ntmps80
  go_wp2
  go_loopw [11] (fun i x => BigRel n sz w i x) (fun i _ => sz - (intOf i).toNat)
  case atStart => exact ⟨0, Nat.zero_le _, rfl, (World.rowIs_made w (.int .u8 0) sz 5).congr fun j hj => by rw [if_neg (by omega)], (Bel.refl w).alloc _⟩
  case round =>
    obtain ⟨k, hk, rfl, hrow, hb⟩ := hrel
    have HR := Lib.hid hrow; clear hrow
    have HB := Lib.hid hb; clear hb
    by_cases hlt : k < sz
    · obtain ⟨j, rfl⟩ : ∃ j, sz = k + 1 + j := ⟨sz - (k + 1), by omega⟩
      have hc := HR.out.cell (i := j) (by omega)
      have hf := HR.out.frozen j
      go_wp2
      go_roundw
      case rel =>
        refine ⟨k + 1, by omega, by go_num, ?_, HB.out.setCell (Nat.le_refl _) _⟩
        refine (HR.out.set j _).congr fun i hi => ?_
        by_cases he : i = j
        · subst he
          rw [if_pos rfl, if_pos (by omega), shr_byte]
          have e : k + 1 + i - 1 - i = k := by omega
          rw [e]
        · rw [if_neg he]
          by_cases hp : k + 1 + j - k ≤ i
          · rw [if_pos hp, if_pos (by omega)]
          · rw [if_neg hp, if_neg (by omega)]
      case measure => simp [intOf]; omega
    · obtain rfl : k = sz := by omega
      have hcv : (convert 64 9 (.slice (some ⟨w.heap.size, 0, none⟩) k k)).run Tryz.prog wr = .ok (.string ⟨(bigL n k).toArray⟩) wr := by
        have h0 := run_convert_bytes_back wr 64 9 5 ⟨w.heap.size, 0, none⟩ k (bigL n k) Tryz.underlying64 Tryz.underlying5 Tryz.underlying9 (fun j hj => by
          rw [bigL_len] at hj
          have e : (⟨w.heap.size, 0, none⟩ : Addr).add j = ⟨w.heap.size, j, none⟩ := by cases j <;> simp [Addr.add]
          have hg := bigL_get k n j hj
          rw [List.getElem?_eq_getElem (by rw [bigL_len]; exact hj)] at hg
          rw [e, HR.out.cell hj, if_pos (by omega), Option.some.inj hg]
          simp)
        rw [bigL_len] at h0
        exact h0
      go_wp2
      go_ret
      exact ⟨rfl, HB.out⟩

theorem wrap_u64 (x : Int) : IntKind.u64.wrap x = x % 18446744073709551616 := by simp [IntKind.wrap, IntKind.bits, IntKind.signed]
theorem wrap_step (a : Nat) (b : UInt8) : IntKind.u64.wrap (IntKind.u64.wrap ((a : Int) % 18446744073709551616 * 256) + IntKind.u64.wrap (b.toNat : Int)) = (((a * 256 + b.toNat) % 18446744073709551616 : Nat) : Int) := by
  rw [wrap_u64, wrap_u64, wrap_u64]; omega

def SumRel (s : ByteArray) (v i : Value) : Prop := ∃ k : Nat, k ≤ s.size ∧ i = .int .i64 k ∧ v = .int .u64 ((sumL (s.data.toList.take k) % 18446744073709551616 : Nat) : Int)

theorem sumL_take (s : ByteArray) (k : Nat) (h : k < s.size) : sumL (s.data.toList.take (k + 1)) = sumL (s.data.toList.take k) * 256 + s[k].toNat := by
  rw [← sumL_snoc, List.take_add_one]
  have e : s.data.toList[k]? = some s[k] := by rw [List.getElem?_eq_getElem (by simpa using h)]; rfl
  rw [e]; rfl

set_option maxHeartbeats 1000000 in
theorem sum_any (s : ByteArray) (w : World) (hs : s.size ≤ maxLen) :
    Calls Tryz.prog 122 #[.string s] w fun e w' => e = .returned (.int .u64 ((sumL s.data.toList % 18446744073709551616 : Nat) : Int)) ∧ Drw w w' := by
  unfold maxLen at hs
  go_enter Tryz.func122, Tryz.ntmps122
  go_wp2
  go_loopw [3, 7] (fun v i x => SumRel s v i ∧ Drw w x) (fun _ i _ => s.size - (intOf i).toNat)
  case atStart => exact ⟨⟨0, Nat.zero_le _, rfl, rfl⟩, Drw.refl _⟩
  case round =>
    obtain ⟨⟨k, hk, rfl, rfl⟩, hw⟩ := hrel
    have HW := Lib.hid hw; clear hw
    by_cases hlt : k < s.size
    · go_wp2
      go_roundw
      case rel =>
        refine ⟨⟨k + 1, hlt, by go_num, ?_⟩, HW.out⟩
        rw [sumL_take s k hlt]
        exact congrArg _ (wrap_step _ _)
      case measure => simp [intOf]; omega
    · go_wp2
      go_ret
      obtain rfl : k = s.size := by omega
      refine ⟨ret_int ?_, HW.out⟩
      have e : s.data.toList.take s.size = s.data.toList := List.take_of_length_le (Nat.le_refl _)
      rw [e]
end Go.Proofs.YteimllgoelleeaaGreatDoor
/- varint.Size: how many bytes a number's are. -/
namespace Go.Proofs.YteimllgoelleeaaGreatDoor
open Go.RowKit Go.Deep

def SizeRel (n : Nat) (i : Value) : Prop := ∃ j : Nat, 1 ≤ j ∧ j ≤ szN n ∧ i = .int .i64 j
theorem sz_lt1 (n : Nat) (hn : n < 18446744073709551616) (h1 : 1 ≤ szN n) : (n < 241 → szN n = 1) ∧ (¬ n < 241 → 1 + 1 ≤ szN n) := by
  revert h1; unfold szN; repeat' split
  all_goals omega
theorem sz_lt2 (n : Nat) (hn : n < 18446744073709551616) (h1 : 2 ≤ szN n) : (n < 2288 → szN n = 2) ∧ (¬ n < 2288 → 2 + 1 ≤ szN n) := by
  revert h1; unfold szN; repeat' split
  all_goals omega
theorem sz_lt3 (n : Nat) (hn : n < 18446744073709551616) (h1 : 3 ≤ szN n) : (n < 67824 → szN n = 3) ∧ (¬ n < 67824 → 3 + 1 ≤ szN n) := by
  revert h1; unfold szN; repeat' split
  all_goals omega
theorem sz_lt4 (n : Nat) (hn : n < 18446744073709551616) (h1 : 4 ≤ szN n) : (n < 16777216 → szN n = 4) ∧ (¬ n < 16777216 → 4 + 1 ≤ szN n) := by
  revert h1; unfold szN; repeat' split
  all_goals omega
theorem sz_lt5 (n : Nat) (hn : n < 18446744073709551616) (h1 : 5 ≤ szN n) : (n < 4294967296 → szN n = 5) ∧ (¬ n < 4294967296 → 5 + 1 ≤ szN n) := by
  revert h1; unfold szN; repeat' split
  all_goals omega
theorem sz_lt6 (n : Nat) (hn : n < 18446744073709551616) (h1 : 6 ≤ szN n) : (n < 1099511627776 → szN n = 6) ∧ (¬ n < 1099511627776 → 6 + 1 ≤ szN n) := by
  revert h1; unfold szN; repeat' split
  all_goals omega
theorem sz_lt7 (n : Nat) (hn : n < 18446744073709551616) (h1 : 7 ≤ szN n) : (n < 281474976710656 → szN n = 7) ∧ (¬ n < 281474976710656 → 7 + 1 ≤ szN n) := by
  revert h1; unfold szN; repeat' split
  all_goals omega
theorem sz_lt8 (n : Nat) (hn : n < 18446744073709551616) (h1 : 8 ≤ szN n) : (n < 72057594037927936 → szN n = 8) ∧ (¬ n < 72057594037927936 → 8 + 1 ≤ szN n) := by
  revert h1; unfold szN; repeat' split
  all_goals omega
theorem sz_lt9 (n : Nat) (hn : n < 18446744073709551616) (h1 : 9 ≤ szN n) : (n < 18446744073709551616 → szN n = 9) ∧ (¬ n < 18446744073709551616 → 9 + 1 ≤ szN n) := by
  revert h1; unfold szN; repeat' split
  all_goals omega
set_option maxHeartbeats 2000000 in
theorem size_any (n : Nat) (w : World) (hn : n < 18446744073709551616) :
    Calls Tryz.prog 79 #[.int .u64 n] w fun e w' => e = .returned (.int .i64 (szN n)) ∧ Drw w w' := by
  go_enter Tryz.func79, Tryz.ntmps79
  go_wp2
  go_step3
  go_wp2
  go_step3
  go_wp2
  go_loopw [3] (fun i x => SizeRel n i ∧ Drw w x) (fun i _ => 9 - (intOf i).toNat)
  case atStart => exact ⟨⟨1, Nat.le_refl _, szN_pos n, rfl⟩, Drw.refl _⟩
  case round =>
    obtain ⟨⟨j, h1, h2, rfl⟩, hw⟩ := hrel
    have HW := Lib.hid hw; clear hw
    have h9 := szN_le n
    obtain rfl | rfl | rfl | rfl | rfl | rfl | rfl | rfl | rfl : j = 1 ∨ j = 2 ∨ j = 3 ∨ j = 4 ∨ j = 5 ∨ j = 6 ∨ j = 7 ∨ j = 8 ∨ j = 9 := by omega
    · have hz := Lib.hid (sz_lt1 n hn h2)
      by_cases hlt : n < 241
      · have i1 : (n : Int) < 241 := by omega
        clear h2 h9
        go_wp2
        try rw [Exit.noGoto_ret]
        go_ret
        exact ⟨ret_int (by rw [hz.out.1 hlt]), HW.out⟩
      · have i1 : ¬ (n : Int) < 241 := by omega
        clear h9
        go_wp2
        go_roundw
        case rel => exact ⟨⟨2, by omega, hz.out.2 hlt, rfl⟩, HW.out⟩
        case measure => simp [intOf]
    · have hz := Lib.hid (sz_lt2 n hn h2)
      by_cases hlt : n < 2288
      · have i1 : (n : Int) < 2288 := by omega
        clear h2 h9
        go_wp2
        try rw [Exit.noGoto_ret]
        go_ret
        exact ⟨ret_int (by rw [hz.out.1 hlt]), HW.out⟩
      · have i1 : ¬ (n : Int) < 2288 := by omega
        clear h9
        go_wp2
        go_roundw
        case rel => exact ⟨⟨3, by omega, hz.out.2 hlt, rfl⟩, HW.out⟩
        case measure => simp [intOf]
    · have hz := Lib.hid (sz_lt3 n hn h2)
      by_cases hlt : n < 67824
      · have i1 : (n : Int) < 67824 := by omega
        clear h2 h9
        go_wp2
        try rw [Exit.noGoto_ret]
        go_ret
        exact ⟨ret_int (by rw [hz.out.1 hlt]), HW.out⟩
      · have i1 : ¬ (n : Int) < 67824 := by omega
        clear h9
        go_wp2
        go_roundw
        case rel => exact ⟨⟨4, by omega, hz.out.2 hlt, rfl⟩, HW.out⟩
        case measure => simp [intOf]
    · have hz := Lib.hid (sz_lt4 n hn h2)
      by_cases hlt : n < 16777216
      · have i1 : (n : Int) / 16777216 = 0 := by omega
        clear h2 h9
        go_wp2
        try rw [Exit.noGoto_ret]
        go_ret
        exact ⟨ret_int (by rw [hz.out.1 hlt]), HW.out⟩
      · have i1 : ¬ (n : Int) / 16777216 = 0 := by omega
        clear h9
        go_wp2
        go_roundw
        case rel => exact ⟨⟨5, by omega, hz.out.2 hlt, rfl⟩, HW.out⟩
        case measure => simp [intOf]
    · have hz := Lib.hid (sz_lt5 n hn h2)
      by_cases hlt : n < 4294967296
      · have i1 : (n : Int) / 4294967296 = 0 := by omega
        clear h2 h9
        go_wp2
        try rw [Exit.noGoto_ret]
        go_ret
        exact ⟨ret_int (by rw [hz.out.1 hlt]), HW.out⟩
      · have i1 : ¬ (n : Int) / 4294967296 = 0 := by omega
        clear h9
        go_wp2
        go_roundw
        case rel => exact ⟨⟨6, by omega, hz.out.2 hlt, rfl⟩, HW.out⟩
        case measure => simp [intOf]
    · have hz := Lib.hid (sz_lt6 n hn h2)
      by_cases hlt : n < 1099511627776
      · have i1 : (n : Int) / 1099511627776 = 0 := by omega
        clear h2 h9
        go_wp2
        try rw [Exit.noGoto_ret]
        go_ret
        exact ⟨ret_int (by rw [hz.out.1 hlt]), HW.out⟩
      · have i1 : ¬ (n : Int) / 1099511627776 = 0 := by omega
        clear h9
        go_wp2
        go_roundw
        case rel => exact ⟨⟨7, by omega, hz.out.2 hlt, rfl⟩, HW.out⟩
        case measure => simp [intOf]
    · have hz := Lib.hid (sz_lt7 n hn h2)
      by_cases hlt : n < 281474976710656
      · have i1 : (n : Int) / 281474976710656 = 0 := by omega
        clear h2 h9
        go_wp2
        try rw [Exit.noGoto_ret]
        go_ret
        exact ⟨ret_int (by rw [hz.out.1 hlt]), HW.out⟩
      · have i1 : ¬ (n : Int) / 281474976710656 = 0 := by omega
        clear h9
        go_wp2
        go_roundw
        case rel => exact ⟨⟨8, by omega, hz.out.2 hlt, rfl⟩, HW.out⟩
        case measure => simp [intOf]
    · have hz := Lib.hid (sz_lt8 n hn h2)
      by_cases hlt : n < 72057594037927936
      · have i1 : (n : Int) / 72057594037927936 = 0 := by omega
        clear h2 h9
        go_wp2
        try rw [Exit.noGoto_ret]
        go_ret
        exact ⟨ret_int (by rw [hz.out.1 hlt]), HW.out⟩
      · have i1 : ¬ (n : Int) / 72057594037927936 = 0 := by omega
        clear h9
        go_wp2
        go_roundw
        case rel => exact ⟨⟨9, by omega, hz.out.2 hlt, rfl⟩, HW.out⟩
        case measure => simp [intOf]
    · have hz := Lib.hid (sz_lt9 n hn h2)
      have hlt : n < 18446744073709551616 := by omega
      have i1 : (n : Int) / 18446744073709551616 = 0 := by omega
      clear h2 h9
      go_wp2
      try rw [Exit.noGoto_ret]
      go_ret
      exact ⟨ret_int (by rw [hz.out.1 hlt]), HW.out⟩
end Go.Proofs.YteimllgoelleeaaGreatDoor
/- varint.Put and moultref3.Put: one number's bytes. -/
namespace Go.Proofs.YteimllgoelleeaaGreatDoor
open Go.RowKit Go.Deep

theorem putL_one (n : Nat) (h : n < 241) : putL n = bigL n 1 := by unfold putL; rw [if_pos h]
theorem putL_two (n : Nat) (h : ¬ n < 241) (h2 : n < 2288) : putL n = bigL (61456 + n) 2 := by unfold putL; rw [if_neg h, if_pos h2]
theorem putL_three (n : Nat) (h : ¬ n < 2288) (h2 : n < 67824) : putL n = bigL (16316176 + n) 3 := by unfold putL; rw [if_neg (by omega), if_neg h, if_pos h2]
theorem putL_more (n : Nat) (h : ¬ n < 67824) : putL n = bigL (246 + szN n) 1 ++ bigL n (szN n - 1) := by
  unfold putL; rw [if_neg (by omega), if_neg (by omega), if_neg h]
  have := szN_le n
  simp only [bigL, List.nil_append, List.singleton_append]
  rw [Nat.mod_eq_of_lt (by omega)]
theorem sz_cases (n : Nat) : (n < 241 → szN n = 1) ∧ (¬ n < 241 → n < 2288 → szN n = 2) ∧ (¬ n < 2288 → n < 67824 → szN n = 3) ∧ (¬ n < 67824 → 4 ≤ szN n) := by
  unfold szN; (repeat' split) <;> omega

theorem ba_append (a b : List UInt8) : (⟨a.toArray⟩ ++ ⟨b.toArray⟩ : ByteArray) = ⟨(a ++ b).toArray⟩ := by apply ByteArray.ext; simp
theorem big_at (x y : Int) (n sz : Nat) (w : World) (hx : x = n) (hy : y = sz) (hs : sz ≤ 9) :
    Calls Tryz.prog 80 #[.int .u64 x, .int .i64 y] w fun e w' => e = .returned (.string ⟨(bigL n sz).toArray⟩) ∧ Bel w w' := by
  subst hx hy; exact big_any n sz w hs
theorem u64_in (x : Int) (h : 0 ≤ x) (h' : x < 18446744073709551616) : IntKind.u64.wrap x = x := by rw [wrap_u64]; omega

set_option maxHeartbeats 2000000 in
theorem put_any (n : Nat) (w : World) (hn : n < 18446744073709551616) :
    Calls Tryz.prog 53 #[.int .u64 n] w fun e w' => e = .returned (.string ⟨(putL n).toArray⟩) ∧ Bel w w' := by
  have h9 := szN_le n
  obtain ⟨z1, z2, z3, z4⟩ := sz_cases n
  go_enter Tryz.func53, Tryz.ntmps53
  go_wp2_with (fail)
  refine (size_any n w hn).mono ?_
  rintro e w1 ⟨rfl, hw1⟩
  have HW := Lib.hid hw1.bel; clear hw1
  by_cases h1 : n < 241
  · rw [z1 h1]
    clear z1 z2 z3 z4 h9
    go_wp2_with (fail)
    refine (big_any n 1 w1 (by omega)).mono ?_
    rintro e w2 ⟨rfl, hb⟩
    go_wp2_with (fail)
    go_ret
    exact ⟨ret_string (by rw [putL_one n h1]), HW.out.trans hb⟩
  by_cases h2 : n < 2288
  · rw [z2 h1 h2]
    clear z1 z2 z3 z4 h9
    go_wp2_with (fail)
    refine (big_at _ _ (61456 + n) 2 w1 (by omega) (by rfl) (by omega)).mono ?_
    rintro e w2 ⟨rfl, hb⟩
    go_wp2_with (fail)
    go_ret
    exact ⟨ret_string (by rw [putL_two n h1 h2]), HW.out.trans hb⟩
  by_cases h3 : n < 67824
  · rw [z3 h2 h3]
    clear z1 z2 z3 z4 h9
    go_wp2_with (fail)
    refine (big_at _ _ (16316176 + n) 3 w1 (by omega) (by rfl) (by omega)).mono ?_
    rintro e w2 ⟨rfl, hb⟩
    go_wp2_with (fail)
    go_ret
    exact ⟨ret_string (by rw [putL_three n h2 h3]), HW.out.trans hb⟩
  · have hz := z4 h3
    clear z1 z2 z3 z4
    have i1 : ¬ (szN n : Int) = 1 := by omega
    have i2 : ¬ (szN n : Int) = 2 := by omega
    have i3 : ¬ (szN n : Int) = 3 := by omega
    have ew : IntKind.u64.wrap (247 + (szN n : Int) - 1) = 247 + (szN n : Int) - 1 := u64_in _ (by omega) (by omega)
    go_wp2_with (fail)
    refine (big_at _ _ (246 + szN n) 1 w1 (by first | omega | (rw [ew]; omega)) (by rfl) (by omega)).mono ?_
    rintro e w2 ⟨rfl, hb⟩
    have HB := Lib.hid hb; clear hb
    go_wp2_with (fail)
    refine (big_at _ _ n (szN n - 1) w2 (by first | rfl | omega) (by omega) (by omega)).mono ?_
    rintro e w3 ⟨rfl, hb2⟩
    have hl1 := bigL_len 1 (246 + szN n)
    have hl2 := bigL_len (szN n - 1) n
    go_wp2_with (fail)
    go_ret
    exact ⟨ret_string (by rw [putL_more n h3, ba_append]), (HW.out.trans HB.out).trans hb2⟩
end Go.Proofs.YteimllgoelleeaaGreatDoor
/- varint.sizeBehind, varint.number: what so many bytes tell. -/
namespace Go.Proofs.YteimllgoelleeaaGreatDoor
open Go.RowKit Go.Deep

theorem behind_nat (m k : Nat) (w : World) (hb : (m : Int) < 256) (hk : Hid (k = if m < 241 then 1 else if m < 249 then 2 else if m = 249 then 3 else m - 246)) :
    Calls Tryz.prog 102 #[.int .u8 m] w fun e w' => e = .returned (.int .i64 k) ∧ Drw w w' := by
  by_cases h1 : (m : Int) < 241
  · go_enter Tryz.func102, Tryz.ntmps102
    go_wp2
    go_ret
    exact ⟨ret_int (by rw [hk.out, if_pos (by omega)]; rfl), Drw.refl w⟩
  by_cases h2 : (m : Int) < 249
  · go_enter Tryz.func102, Tryz.ntmps102
    go_wp2
    go_ret
    exact ⟨ret_int (by rw [hk.out, if_neg (by omega), if_pos (by omega)]; rfl), Drw.refl w⟩
  by_cases h3 : (m : Int) = 249
  · go_enter Tryz.func102, Tryz.ntmps102
    go_wp2
    go_ret
    exact ⟨ret_int (by rw [hk.out, if_neg (by omega), if_neg (by omega), if_pos (by omega)]; rfl), Drw.refl w⟩
  · have h0 := Lib.hid (show 250 ≤ (m : Int) by omega)
    have v1 : IntKind.i64.wrap (m : Int) = m := IntWalk.i64_in _ (by omega)
    have v2 : IntKind.i64.wrap ((m : Int) - 247) = (m : Int) - 247 := IntWalk.i64_in _ (by omega)
    have v3 : IntKind.i64.wrap ((m : Int) - 247 + 1) = (m : Int) - 247 + 1 := IntWalk.i64_in _ (by omega)
    have h4 : ((m : Int) == 249) = false := by simpa using h3
    have h5 := Lib.hid (show ¬ m = 249 by omega)
    clear hb h3
    set_option maxRecDepth 20000 in
    go_enter Tryz.func102, Tryz.ntmps102
    go_wp2
    go_ret
    exact ⟨ret_int (by rw [hk.out, if_neg (by omega), if_neg (by omega), if_neg h5.out]; have := h0.out; omega), Drw.refl w⟩
theorem behind_any (b : UInt8) (w : World) :
    Calls Tryz.prog 102 #[.int .u8 b.toNat] w fun e w' => e = .returned (.int .i64 (kOf b)) ∧ Drw w w' := by
  exact behind_nat b.toNat (kOf b) w (by have := b.toNat_lt; omega) (Lib.hid rfl)

theorem sum_small (s : ByteArray) (w : World) (hs : s.size ≤ 8) :
    Calls Tryz.prog 122 #[.string s] w fun e w' => e = .returned (.int .u64 ((sumL s.data.toList : Nat) : Int)) ∧ Drw w w' := by
  refine (sum_any s w (by unfold maxLen; omega)).mono ?_
  rintro e w1 ⟨rfl, hw⟩
  refine ⟨ret_int ?_, hw⟩
  have h := sumL_lt s.data.toList
  have h2 : (256 : Nat) ^ s.data.toList.length ≤ 256 ^ 8 := Nat.pow_le_pow_right (by omega) hs
  have e8 : (256 : Nat) ^ 8 = 18446744073709551616 := by decide
  rw [Nat.mod_eq_of_lt (by omega)]

theorem sum_at (s : ByteArray) (m : Nat) (w : World) (hs : s.size ≤ 8) (h : m = sumL s.data.toList) :
    Calls Tryz.prog 122 #[.string s] w fun e w' => e = .returned (.int .u64 ((m : Nat) : Int)) ∧ Drw w w' := by
  rw [h]; exact sum_small s w hs
theorem head_at (s : ByteArray) (h0 : 0 < s.size) : s.data.toList = s[0] :: s.data.toList.drop 1 := by
  exact List.drop_eq_getElem_cons (i := 0) (l := s.data.toList) (by simpa using h0)
theorem ext_tail (s : ByteArray) : (s.extract 1 s.size).data.toList = s.data.toList.drop 1 := by
  rw [Lib.extract_data, List.take_of_length_le]
  simp

set_option maxHeartbeats 1000000 in
theorem number_any (s : ByteArray) (w : World) (h0 : 0 < s.size) (hk : s.size = kOf s[0]) :
    Calls Tryz.prog 103 #[.string s] w fun e w' => e = .returned (.int .u64 ((valL s.data.toList : Nat) : Int)) ∧ Drw w w' := by
  have h9 := kOf_le s[0]
  have hl : s.data.toList.length = s.size := rfl
  have hh := head_at s h0
  have hlt := sumL_lt s.data.toList
  have hlt2 := sumL_lt (s.data.toList.drop 1)
  rw [List.length_drop, hl] at hlt2
  rw [hl] at hlt
  have hT := Lib.hid (ext_tail s)
  have hz2 : (s.extract 1 s.size).size = s.size - 1 := by simp [ByteArray.size_extract]
  unfold valL
  rw [hl]
  have h8 : s.size ≤ 9 := by omega
  by_cases c1 : s.size = 1
  · rw [if_pos c1]
    clear hT hz2 hlt hlt2 hh hk h9 hl
    go_enter Tryz.func103, Tryz.ntmps103
    go_wp2_with (fail)
    refine (sum_small s w (by omega)).mono ?_
    rintro e w1 ⟨rfl, hw⟩
    go_wp2_with (fail)
    go_ret
    exact ⟨rfl, hw⟩
  by_cases c2 : s.size = 2
  · rw [if_neg c1, if_pos c2]
    have hb : 61696 ≤ sumL s.data.toList ∧ sumL s.data.toList < 65536 := by
      rw [c2] at hlt hk
      refine ⟨?_, hlt⟩
      rw [hh, sumL_cons, List.length_drop, hl, c2]
      have : 241 ≤ s[0].toNat := by unfold kOf at hk; revert hk; (repeat' split) <;> omega
      have := s[0].toNat_lt
      omega
    clear hT hz2 hlt hlt2 hh hk h9 hl
    obtain ⟨m, hm⟩ : ∃ m, m = sumL s.data.toList := ⟨_, rfl⟩
    rw [← hm] at hb ⊢
    have HM := Lib.hid hm; clear hm
    obtain ⟨hb1, hb2⟩ := hb
    go_enter Tryz.func103, Tryz.ntmps103
    go_wp2_with (fail)
    refine (sum_at s m w (by omega) HM.out).mono ?_
    rintro e w1 ⟨rfl, hw⟩
    have HW := Lib.hid hw; clear hw
    go_wp2_with (fail)
    go_ret
    exact ⟨ret_int (by omega), HW.out⟩
  by_cases c3 : s.size = 3
  · rw [if_neg c1, if_neg c2, if_pos c3]
    rw [c3] at hlt2
    rw [c3] at hT hz2
    have hb : sumL (s.data.toList.drop 1) < 65536 := hlt2
    clear hlt hlt2 hh hk h9 hl
    obtain ⟨m, hm⟩ : ∃ m, m = sumL (s.data.toList.drop 1) := ⟨_, rfl⟩
    rw [← hm] at hb ⊢
    rw [← hT.out] at hm
    have HM := Lib.hid hm; clear hm hT
    go_enter Tryz.func103, Tryz.ntmps103
    go_wp2_with (fail)
    refine (sum_at (s.extract 1 3) m w (by omega) HM.out).mono ?_
    rintro e w1 ⟨rfl, hw⟩
    have HW := Lib.hid hw; clear hw
    go_wp2_with (fail)
    go_ret
    exact ⟨ret_int (by omega), HW.out⟩
  · rw [if_neg c1, if_neg c2, if_neg c3]
    have i1 : ¬ (s.size : Int) = 1 := by omega
    have i2 : ¬ (s.size : Int) = 2 := by omega
    have i3 : ¬ (s.size : Int) = 3 := by omega
    clear hlt hlt2 hh hl hk h9
    obtain ⟨m, hm⟩ : ∃ m, m = sumL (s.data.toList.drop 1) := ⟨_, rfl⟩
    rw [← hm]
    rw [← hT.out] at hm
    have HM := Lib.hid hm; clear hm hT
    go_enter Tryz.func103, Tryz.ntmps103
    go_wp2_with (fail)
    refine (sum_at (s.extract 1 s.size) m w (by omega) HM.out).mono ?_
    rintro e w1 ⟨rfl, hw⟩
    have HW := Lib.hid hw; clear hw
    go_wp2_with (fail)
    go_ret
    exact ⟨rfl, HW.out⟩
end Go.Proofs.YteimllgoelleeaaGreatDoor
/- varint.Take: the number with which some bytes begin. -/
namespace Go.Proofs.YteimllgoelleeaaGreatDoor
open Go.RowKit Go.Deep

theorem ext_data (s : ByteArray) (i j : Nat) : (s.extract i j).data.toList = (s.data.toList.take j).drop i := by
  simp [ByteArray.data_extract, List.extract_eq_take_drop, List.drop_take]
theorem ba_list (s : ByteArray) : (⟨s.data.toList.toArray⟩ : ByteArray) = s := by apply ByteArray.ext; simp
def takeV (l : List UInt8) : Value := .tuple #[.int .u64 ((takeL l).1 : Nat), .string ⟨(takeL l).2.1.toArray⟩, .bool (takeL l).2.2]
theorem takeL_short (s : ByteArray) (h0 : 0 < s.size) (k : Nat) (hk : k = kOf s[0]) (h : s.size < k) : takeL s.data.toList = (0, [], false) := by
  rw [head_at s h0, takeL_cons, ← head_at s h0, ← hk, if_pos (by exact h)]
theorem takeL_long (s : ByteArray) (h0 : 0 < s.size) (k : Nat) (hk : k = kOf s[0]) (h : ¬ s.size < k) :
    takeL s.data.toList = if putL (valL (s.extract 0 k).data.toList) = (s.extract 0 k).data.toList then (valL (s.extract 0 k).data.toList, (s.extract k s.size).data.toList, true) else (0, [], false) := by
  have e1 : (s.extract 0 k).data.toList = s.data.toList.take k := by rw [ext_data, List.drop_zero]
  have e2 : (s.extract k s.size).data.toList = s.data.toList.drop k := by rw [ext_data, List.take_of_length_le (by exact Nat.le_refl _)]
  rw [e1, e2]
  have hh := head_at s h0
  conv => lhs; rw [hh, takeL_cons, ← hh, ← hk, if_neg (by exact h)]
theorem ext_head (s : ByteArray) (h0 : 0 < s.size) (k : Nat) (h1 : 1 ≤ k) (h : k ≤ s.size) : ∃ h' : 0 < (s.extract 0 k).size, (s.extract 0 k)[0] = s[0] ∧ (s.extract 0 k).size = k := by
  have hz : (s.extract 0 k).size = k := by simp [ByteArray.size_extract]; omega
  refine ⟨by omega, ?_, hz⟩
  have e := head_at (s.extract 0 k) (by omega)
  have e1 : (s.extract 0 k).data.toList = s.data.toList.take k := by rw [ext_data, List.drop_zero]
  rw [head_at s h0] at e1
  obtain ⟨j, rfl⟩ : ∃ j, k = j + 1 := ⟨k - 1, by omega⟩
  rw [List.take_succ_cons] at e1
  exact (List.cons.inj (e.symm.trans e1)).1

set_option maxHeartbeats 2000000 in
theorem take_any (s : ByteArray) (w : World) (hs : s.size ≤ 1000000) :
    Calls Tryz.prog 83 #[.string s] w fun e w' => e = .returned (takeV s.data.toList) ∧ Bel w w' := by
  by_cases h0 : s.size = 0
  · obtain rfl : s = ⟨#[]⟩ := by apply ByteArray.ext; exact Array.eq_empty_of_size_eq_zero h0
    go_enter Tryz.func83, Tryz.ntmps83
    go_wp2_with (fail)
    go_ret3
    exact ⟨rfl, Bel.refl w⟩
  have h0' : 0 < s.size := by omega
  obtain ⟨k, hk⟩ : ∃ k, k = kOf s[0] := ⟨_, rfl⟩
  have hk1 := kOf_pos s[0]
  have hk9 := kOf_le s[0]
  rw [← hk] at hk1 hk9
  have hK := Lib.hid hk
  have hne : s.toList.isEmpty = false := by
    rw [ByteArray.toList_eq, head_at s h0']; rfl
  by_cases hl : s.size < k
  · have hT := Lib.hid (takeL_short s h0' k hk hl)
    clear hk
    go_enter Tryz.func83, Tryz.ntmps83
    go_wp2_with (fail)
    refine (behind_any s[0] w).mono ?_
    rintro e w1 ⟨rfl, hw1⟩
    have HW := Lib.hid hw1.bel; clear hw1
    rw [← hK.out]
    go_wp2_with (fail)
    go_ret3
    exact ⟨by rw [takeV, hT.out]; rfl, HW.out⟩
  · have hT := Lib.hid (takeL_long s h0' k hk hl)
    obtain ⟨hp, hp0, hpz⟩ := ext_head s h0' k hk1 (by omega)
    have HP0 := Lib.hid hp0
    have hlt : valL (s.extract 0 k).data.toList < 18446744073709551616 := by
      rw [head_at _ hp]
      exact valL_lt _ _ (by rw [← head_at _ hp, hp0, ← hk]; exact hpz)
    clear hk hp0
    go_enter Tryz.func83, Tryz.ntmps83
    go_wp2_with (fail)
    refine (behind_any s[0] w).mono ?_
    rintro e w1 ⟨rfl, hw1⟩
    have HW := Lib.hid hw1.bel; clear hw1
    rw [← hK.out]
    go_wp2_with (fail)
    refine (number_any (s.extract 0 k) w1 hp (by rw [HP0.out, ← hK.out]; exact hpz)).mono ?_
    rintro e w2 ⟨rfl, hw2⟩
    have HW2 := Lib.hid (HW.out.trans hw2.bel); clear hw2
    by_cases he : putL (valL (s.extract 0 k).data.toList) = (s.extract 0 k).data.toList
    · have hT' := Lib.hid (hT.out.trans (if_pos he))
      have hE := Lib.hid he; clear he
      generalize valL (s.extract 0 k).data.toList = m at *
      go_wp2_with (fail)
      go_region_with (go_at_call 53; refine (put_any m _ hlt).mono ?_; rintro e w3 ⟨rfl, hb⟩; have HB := Lib.hid hb; clear hb; rw [hE.out, ba_list])
      all_goals go_wp2_with (fail)
      all_goals go_quiet (fail)
      all_goals go_wp2_with (fail)
      all_goals go_ret3
      all_goals refine ⟨by rw [takeV, hT'.out, ba_list]; rfl, ?_⟩
      all_goals exact ((HW2.out.drew.trans HB.out).drewN _)
    · have hT' := Lib.hid (hT.out.trans (if_neg he))
      have hE : (putL (valL (s.extract 0 k).data.toList) == (s.extract 0 k).toList) = false := by
        rw [ByteArray.toList_eq, beq_eq_false_iff_ne]; exact he
      clear he
      generalize valL (s.extract 0 k).data.toList = m at *
      go_wp2_with (fail)
      go_region_with (go_at_call 53; refine (put_any m _ hlt).mono ?_; rintro e w3 ⟨rfl, hb⟩; have HB := Lib.hid hb; clear hb)
      all_goals go_wp2_with (fail)
      all_goals go_ret3
      all_goals refine ⟨by rw [takeV, hT'.out]; rfl, ?_⟩
      all_goals exact HW2.out.drew.trans HB.out
end Go.Proofs.YteimllgoelleeaaGreatDoor
/- moultref3's bytes, count and Put: the document's answer for a number's bytes. -/
namespace Go.Proofs.YteimllgoelleeaaGreatDoor
open Go.RowKit Go.Deep

end Go.Proofs.YteimllgoelleeaaGreatDoor
/- moultref3.Take: the document's answer for what some bytes begin with. (written by genvrtake.py) -/
namespace Go.Proofs.YteimllgoelleeaaGreatDoor
open Go.RowKit Go.Deep

end Go.Proofs.YteimllgoelleeaaGreatDoor
/- block.Common and moultref8.Common: how many bytes two texts begin with alike; block.length and moultref8.size: a length's bytes. -/
namespace Go.Proofs.YteimllgoelleeaaGreatDoor
open Go.RowKit Go.Deep

def ComRel (a b : ByteArray) (i : Value) : Prop := ∃ k : Nat, k ≤ a.size ∧ k ≤ b.size ∧ k ≤ comL a.data.toList b.data.toList ∧ i = .int .i64 k
theorem com_more (a b : ByteArray) (k : Nat) (hk : k ≤ comL a.data.toList b.data.toList) (ha : k < a.size) (hb : k < b.size) (h : a[k].toNat = b[k].toNat) : k + 1 ≤ comL a.data.toList b.data.toList :=
  com_step a.data.toList b.data.toList k hk ha hb (UInt8.toNat_inj.1 h)
theorem com_end (a b : ByteArray) (k : Nat) (hk : k ≤ comL a.data.toList b.data.toList) (h : k = a.size ∨ k = b.size ∨ ∃ (ha : k < a.size) (hb : k < b.size), a[k].toNat ≠ b[k].toNat) : k = comL a.data.toList b.data.toList := by
  refine com_stop _ _ k hk ?_
  rcases h with h | h | ⟨h1, h2, h3⟩
  · exact Or.inl h
  · exact Or.inr (Or.inl h)
  · exact Or.inr (Or.inr ⟨h1, h2, fun e => h3 (by rw [show a[k] = b[k] from e])⟩)

set_option maxHeartbeats 2000000 in
theorem common_any (a b : ByteArray) (w : World) (ha : a.size ≤ maxLen) (hb : b.size ≤ maxLen) :
    Calls Tryz.prog 98 #[.string a, .string b] w fun e w' => e = .returned (.int .i64 (comL a.data.toList b.data.toList : Nat)) ∧ Drw w w' := by
  unfold maxLen at ha hb
  go_enter Tryz.func98, Tryz.ntmps98
  go_wp2
  go_loopw [5] (fun i w' => ComRel a b i ∧ Drw w w') (fun i _ => a.size - (intOf i).toNat)
  case atStart => exact ⟨⟨0, Nat.zero_le _, Nat.zero_le _, Nat.zero_le _, rfl⟩, Drw.refl _⟩
  case round =>
    obtain ⟨⟨k, hka, hkb, hk, rfl⟩, hw⟩ := hrel
    have HK := Lib.hid hk; clear hk
    have HW := Lib.hid hw; clear hw
    by_cases hla : k < a.size
    · have i1 : (k : Int) < (a.size : Int) := by omega
      by_cases hlb : k < b.size
      · have i2 : (k : Int) < (b.size : Int) := by omega
        by_cases h : a[k].toNat = b[k].toNat
        · have HN := Lib.hid (com_more a b k HK.out hla hlb h)
          go_wp2
          go_quiet (fail)
          go_wp2
          go_roundw
          case rel => exact ⟨⟨k + 1, hla, hlb, HN.out, by go_num⟩, HW.out.drewN _⟩
          case measure => simp [intOf]; omega
        · have HN := Lib.hid (com_end a b k HK.out (Or.inr (Or.inr ⟨hla, hlb, h⟩)))
          go_wp2
          go_quiet (fail)
          go_wp2
          go_ret
          exact ⟨ret_int (by rw [← HN.out]), HW.out.drewN _⟩
      · have HN := Lib.hid (com_end a b k HK.out (Or.inr (Or.inl (by omega))))
        have i2 : decide ((k : Int) < (b.size : Int)) = false := decide_eq_false (by omega)
        go_wp2
        go_quiet (fail)
        go_wp2
        go_ret
        exact ⟨ret_int (by rw [← HN.out]), HW.out.drewN _⟩
    · have HN := Lib.hid (com_end a b k HK.out (Or.inl (by omega)))
      have i1 : decide ((k : Int) < (a.size : Int)) = false := decide_eq_false (by omega)
      go_wp2
      go_quiet (fail)
      go_wp2
      go_ret
      exact ⟨ret_int (by rw [← HN.out]), HW.out.drewN _⟩

set_option maxHeartbeats 1000000 in
theorem length_any (x : Int) (n : Nat) (w : World) (hx : x = n) (hn : n ≤ maxLen) :
    Calls Tryz.prog 99 #[.int .i64 x] w fun e w' => e = .returned (.string ⟨(putL n).toArray⟩) ∧ Bel w w' := by
  subst hx
  unfold maxLen at hn
  have hu : IntKind.u64.wrap (n : Int) = n := u64_in _ (by omega) (by omega)
  go_enter Tryz.func99, Tryz.ntmps99
  go_wp2_with (fail)
  refine (put_any n w (by omega)).mono ?_
  rintro e w1 ⟨rfl, hb⟩
  go_wp2_with (fail)
  go_ret
  exact ⟨rfl, hb⟩
end Go.Proofs.YteimllgoelleeaaGreatDoor
/- Slices of pairs, that came in or that a call has made; areIncreasing and Rises; the laws' pick, as, alike, same and rising. -/
namespace Go.Proofs.YteimllgoelleeaaGreatDoor
open Go.RowKit Go.Deep

structure PB where
  k : ByteArray
  v : ByteArray
def PB.pr (p : PB) : PR := ⟨p.k.data.toList, p.v.data.toList⟩
def bp (p : PR) : PB := ⟨⟨p.k.toArray⟩, ⟨p.v.toArray⟩⟩
theorem pr_bp (p : PR) : (bp p).pr = p := by cases p; simp [bp, PB.pr]
def prs (L : List PB) : List PR := L.map PB.pr
theorem prs_len (L : List PB) : (prs L).length = L.length := List.length_map ..
theorem prs_app (L M : List PB) : prs (L ++ M) = prs L ++ prs M := List.map_append ..
theorem prs_get (L : List PB) (i : Nat) (h : i < L.length) : (prs L)[i]'(by rw [prs_len]; exact h) = L[i].pr := List.getElem_map ..
def pairEl : El PB := ⟨137, 110, 2, fun p => [.string p.k, .string p.v]⟩
theorem pairOk : ElOk pairEl 32 := ⟨fun _ => rfl, fun a u hu => by simp [pairEl] at hu; rcases hu with rfl | rfl <;> rfl, by kernel_rfl, ⟨.agg #[.string ⟨#[]⟩, .string ⟨#[]⟩], by kernel_rfl, rfl⟩, by decide⟩
def PairsAt (w : World) (p : Option Addr) (L : List PB) : Prop := ∀ i (h : i < L.length), ∃ a B O sp, p = some a ∧ a.add (i * 2) = ⟨B, O, sp⟩ ∧ w.cell? ⟨B, O, sp⟩ = some (.string L[i].k) ∧ w.cell? ⟨B, O + 1, none⟩ = some (.string L[i].v)
theorem block_of_cell {w : World} {a : Addr} {v : Value} (h : w.cell? a = some v) : a.block < w.heap.size := World.block_lt_of_cell? _ _ h
theorem PairsAt.bel {w x : World} {p : Option Addr} {L : List PB} (h : PairsAt w p L) (hb : Bel w x) : PairsAt x p L := by
  intro i hi
  obtain ⟨a, B, O, sp, h1, h2, c0, c1⟩ := h i hi
  exact ⟨a, B, O, sp, h1, h2, (Below.cell hb (block_of_cell c0)).trans c0, (Below.cell hb (block_of_cell c1)).trans c1⟩
theorem PairsAt.nil (w : World) (p : Option Addr) : PairsAt w p [] := fun i hi => by simp at hi
theorem pairs_of {E : El PB} (hE : ElOk E 32) (hn : E.n = 2) (hc : E.cells = fun p => [.string p.k, .string p.v]) {B : Nat} {w : World} {v : Value} {L : List PB} (h : OwnG E B w v L) : ∃ p cap, v = .slice p L.length cap ∧ PairsAt w p L := by
  by_cases hL : L = []
  · subst hL
    obtain ⟨p, cap, hv⟩ := ownG_len h
    exact ⟨p, cap, hv, fun i hi => by simp at hi⟩
  · obtain ⟨g, cap, hv, _, _, _, hc'⟩ := ownG_cells hE h hL
    refine ⟨_, cap, hv, fun i hi => ⟨_, g, i * 2, none, rfl, ?_, ?_, ?_⟩⟩
    · by_cases h0 : i * 2 = 0
      · rw [h0]; rfl
      · simp [Addr.add, h0]
    · have := hc' i L[i] (List.getElem?_eq_getElem hi) 0 (.string L[i].k) (by rw [hc]; rfl)
      rw [hn] at this; exact this
    · have := hc' i L[i] (List.getElem?_eq_getElem hi) 1 (.string L[i].v) (by rw [hc]; rfl)
      rw [hn] at this; exact this
theorem ownG_pairs {B : Nat} {w : World} {v : Value} {L : List PB} (h : OwnG pairEl B w v L) : ∃ p cap, v = .slice p L.length cap ∧ PairsAt w p L := pairs_of pairOk rfl rfl h
def smallP (n : Nat) (L : List PB) : Prop := ∀ i (h : i < L.length), L[i].k.size ≤ n ∧ L[i].v.size ≤ n
theorem ba_eq {a b : ByteArray} (h : a.data.toList = b.data.toList) : a = b := by
  rw [← ba_list a, ← ba_list b, h]

theorem incF_adj : ∀ (L : List PR) (prev : List UInt8), (∀ h : 0 < L.length, Op.bytesLess prev L[0].k = true) → (∀ i (h : i + 1 < L.length), Op.bytesLess L[i].k L[i + 1].k = true) → incF prev L = true
  | [], _, _, _ => rfl
  | q :: L, prev, h0, h => by
    simp only [incF, Bool.and_eq_true]
    refine ⟨h0 (by simp), incF_adj L q.k (fun hl => ?_) (fun i hi => ?_)⟩
    · simpa using h 0 (by simp; omega)
    · have := h (i + 1) (by simp; omega)
      rwa [List.getElem_cons_succ, List.getElem_cons_succ] at this
theorem incB_adj (L : List PR) (h : ∀ i (h : i + 1 < L.length), Op.bytesLess L[i].k L[i + 1].k = true) : incB L = true := by
  cases L with
  | nil => rfl
  | cons q L =>
    refine incF_adj L q.k (fun hl => ?_) (fun i hi => ?_)
    · simpa using h 0 (by simp; omega)
    · have := h (i + 1) (by simp; omega)
      rwa [List.getElem_cons_succ, List.getElem_cons_succ] at this
theorem incB_get {L : List PR} (h : incB L = true) (i j : Nat) (hj : j < L.length) (hij : i < j) : Op.bytesLess L[i].k L[j].k = true :=
  List.pairwise_iff_getElem.1 (incB_pair L h) i j (by omega) hj hij
theorem inc_yes (L : List PB) (h : ∀ i (h : i + 1 < L.length), Op.bytesLess L[i].k.toList L[i + 1].k.toList = true) : incB (prs L) = true := by
  apply incB_adj
  intro i hi
  rw [prs_len] at hi
  have := h i hi
  rw [ByteArray.toList_eq, ByteArray.toList_eq] at this
  rw [prs_get L i (by omega), prs_get L (i + 1) hi]; exact this
theorem inc_no (L : List PB) (i : Nat) (hi : i + 1 < L.length) (h : Op.bytesLess L[i].k.toList L[i + 1].k.toList = false) : incB (prs L) = false := by
  cases hb : incB (prs L) with
  | false => rfl
  | true =>
    have := incB_get hb i (i + 1) (by rw [prs_len]; exact hi) (by omega)
    rw [prs_get L i (by omega), prs_get L (i + 1) hi] at this
    rw [ByteArray.toList_eq, ByteArray.toList_eq] at h
    simp only [PB.pr] at this
    rw [this] at h; cases h
def IncRel (L : List PB) (i : Value) : Prop := ∃ k : Nat, (k + 1 ≤ L.length ∨ k = 0) ∧ i = .int .i64 ((k : Int) + 1) ∧ ∀ j (h : j + 1 < L.length), j < k → Op.bytesLess L[j].k.toList L[j + 1].k.toList = true

set_option maxHeartbeats 2000000 in
theorem areinc_any (p : Option Addr) (cap : Nat) (L : List PB) (w : World) (h : PairsAt w p L) (hL : L.length ≤ 1000000) :
    Calls Tryz.prog 72 #[.slice p L.length cap] w fun e w' => e = .returned (.bool (incB (prs L))) ∧ Drw w w' := by
  have H := Lib.hid h; clear h
  go_enter Tryz.func72, Tryz.ntmps72
  go_wp2_with (fail)
  go_loopw [3] (fun i x => IncRel L i ∧ Drw w x) (fun i _ => L.length + 1 - (intOf i).toNat)
  case atStart => exact ⟨⟨0, Or.inr rfl, rfl, fun j _ h => by omega⟩, Drw.refl w⟩
  case round =>
    obtain ⟨⟨k, hk, rfl, hj⟩, hw⟩ := hrel
    have HJ := Lib.hid hj; clear hj
    have HW := Lib.hid hw; clear hw
    by_cases hlt : k + 1 < L.length
    · obtain ⟨a, B, O, sp, rfl, ha, c0, c1⟩ := (H.out.bel HW.out.bel) (k + 1) hlt
      obtain ⟨a', B', O', sp', hp, ha', c0', c1'⟩ := (H.out.bel HW.out.bel) k (by omega)
      cases hp
      have i1 : ((k : Int) + 1) < (L.length : Int) := by omega
      cases hless : Op.bytesLess L[k].k.toList L[k + 1].k.toList with
      | true =>
        have HN := Lib.hid (show ∀ j (h : j + 1 < L.length), j < k + 1 → Op.bytesLess L[j].k.toList L[j + 1].k.toList = true by
          intro j hj hjk
          by_cases e : j = k
          · subst e; exact hless
          · exact HJ.out j hj (by omega))
        have hor : (Op.bytesLess L[k + 1].k.toList L[k].k.toList || L[k + 1].k.toList == L[k].k.toList) = false := by rw [less_not, hless]; rfl
        rw [Bool.or_eq_false_iff] at hor
        obtain ⟨o1, o2⟩ := hor
        clear hless
        go_wp2_with (fail)
        go_quiet (fail)
        go_wp2_with (fail)
        go_roundw
        case rel => exact ⟨⟨k + 1, Or.inl (by omega), by go_num, HN.out⟩, HW.out.drewN _⟩
        case measure => simp [intOf]; omega
      | false =>
        have HN := Lib.hid (inc_no L k hlt hless)
        have hor : (Op.bytesLess L[k + 1].k.toList L[k].k.toList || L[k + 1].k.toList == L[k].k.toList) = true := by rw [less_not, hless]; rfl
        clear hless
        go_wp2_with (fail)
        go_quiet (fail)
        go_wp2_with (fail)
        go_ret
        exact ⟨ret_bool HN.out.symm, HW.out.drewN _⟩
    · have HN := Lib.hid (inc_yes L fun j hj => HJ.out j hj (by omega))
      have i1 : ¬ ((k : Int) + 1) < (L.length : Int) := by omega
      go_wp2_with (fail)
      go_ret
      exact ⟨ret_bool HN.out.symm, HW.out⟩

end Go.Proofs.YteimllgoelleeaaGreatDoor
/- The laws' small functions over pairs: pick, as, alike, same, rising. -/
namespace Go.Proofs.YteimllgoelleeaaGreatDoor
open Go.RowKit Go.Deep

end Go.Proofs.YteimllgoelleeaaGreatDoor
/- check.closing and moultref5.four: a sum's four bytes. -/
namespace Go.Proofs.YteimllgoelleeaaGreatDoor
open Go.RowKit Go.Deep

theorem big_four (n : Nat) (hn : n < 4294967296) : Lib.byteCells (bigL n 4) = [.int .u8 ((n : Int) / 16777216), .int .u8 ((n : Int) / 65536 % 256), .int .u8 ((n : Int) / 256 % 256), .int .u8 ((n : Int) % 256)] := by
  simp only [bigL, Lib.byteCells, List.nil_append, List.cons_append, List.map_cons, List.map_nil, UInt8.toNat_ofNat']
  simp only [List.cons.injEq, Value.int.injEq, true_and, and_true]
  refine ⟨?_, ?_, ?_, ?_⟩ <;> omega
theorem conv_four (W : World) (n : Nat) (hn : n < 4294967296) :
    (convert 64 9 (.slice (some ⟨W.heap.size, 0, none⟩) 4 4)).run Tryz.prog (W.alloc (.cells #[.int .u8 ((n : Int) / 16777216), .int .u8 ((n : Int) / 65536 % 256), .int .u8 ((n : Int) / 256 % 256), .int .u8 ((n : Int) % 256)] 5)) =
      .ok (.string ⟨(bigL n 4).toArray⟩) (W.alloc (.cells #[.int .u8 ((n : Int) / 16777216), .int .u8 ((n : Int) / 65536 % 256), .int .u8 ((n : Int) / 256 % 256), .int .u8 ((n : Int) % 256)] 5)) := by
  have h := own_new 0 W #[.int .u8 ((n : Int) / 16777216), .int .u8 ((n : Int) / 65536 % 256), .int .u8 ((n : Int) / 256 % 256), .int .u8 ((n : Int) % 256)] (bigL n 4) (by rw [big_four n hn]) (Nat.zero_le _) (by rw [bigL_len]; omega)
  rw [bigL_len] at h
  exact own_string h

set_option maxHeartbeats 2000000 in
theorem closing_any (s : ByteArray) (w : World) (hs : s.size ≤ maxLen) :
    Calls Tryz.prog 54 #[.string s] w fun e w' => e = .returned (.string ⟨(bigL (crcN s.data.toList) 4).toArray⟩) ∧ Bel w w' := by
  have hl := crc_lt s.data.toList
  go_enter Tryz.func54, Tryz.ntmps54
  go_wp2_with (fail)
  refine (sum5_any s w hs).mono ?_
  rintro e w1 ⟨rfl, hd⟩
  have HB := Lib.hid hd.bel; clear hd
  have hcv := conv_four w1 (crcN s.data.toList) hl
  go_wp2_with (fail)
  go_ret
  exact ⟨rfl, HB.out.alloc _⟩
def frameV (l : List UInt8) : Value := .tuple #[.string ⟨(frameL l).toArray⟩, .int .i64 0]
theorem ba_frame (s : ByteArray) : (⟨(putL s.size).toArray⟩ ++ s ++ ⟨(bigL (crcN s.data.toList) 4).toArray⟩ : ByteArray) = ⟨(frameL s.data.toList).toArray⟩ := by
  apply ByteArray.ext
  simp [frameL]

set_option maxHeartbeats 2000000 in
theorem frame_ok (s : ByteArray) (w : World) (h : s.size ≤ 40000) :
    Calls Tryz.prog 26 #[.string s] w fun e w' => e = .returned (frameV s.data.toList) ∧ Bel w w' := by
  have hz9 := szN_le s.size
  have hp := putL_len s.size
  have h4 := bigL_len 4 (crcN s.data.toList)
  go_enter Tryz.func26, Tryz.ntmps26
  go_wp2_with (fail)
  refine (put_any s.size w (by omega)).mono ?_
  rintro e w1 ⟨rfl, hb⟩
  have HB := Lib.hid hb; clear hb
  have hz1 : (⟨(putL s.size).toArray⟩ : ByteArray).size = szN s.size := by show (putL s.size).toArray.size = _; rw [List.size_toArray, hp]
  go_wp2_with (fail)
  refine (closing_any s w1 (by unfold maxLen; omega)).mono ?_
  rintro e w2 ⟨rfl, hb⟩
  replace HB := Lib.hid (HB.out.trans hb); clear hb
  go_wp2_with (fail)
  go_ret2
  exact ⟨by rw [frameV, ← ba_frame]; rfl, HB.out⟩
theorem prefix0_any (s t : ByteArray) (w : World) (hs : s.size ≤ 1000000) (ht : t.size ≤ s.size) :
    Calls Tryz.prog 123 #[.string s, .string t] w fun e w' => e = .returned (.bool ((s.extract 0 t.size).toList == t.toList)) ∧ Bel w w' := by
  go_enter Tryz.func123, Tryz.ntmps123
  go_wp2_with (fail)
  go_ret
  exact ⟨rfl, Bel.refl w⟩
theorem prefix_any (s t : ByteArray) (w : World) (hs : s.size ≤ 1000000) (ht : t.size ≤ s.size) :
    Calls Tryz.prog 104 #[.string s, .string t] w fun e w' => e = .returned (.bool ((s.extract 0 t.size).toList == t.toList)) ∧ Bel w w' := by
  go_enter Tryz.func104, Tryz.ntmps104
  go_wp2_with (fail)
  refine (prefix0_any s t w hs ht).mono ?_
  rintro e w1 ⟨rfl, hb⟩
  have HB := Lib.hid hb; clear hb
  go_wp2_with (fail)
  go_ret
  exact ⟨rfl, HB.out⟩
end Go.Proofs.YteimllgoelleeaaGreatDoor
/- check.Unframe and moultref5.Unframe: the frame with which some bytes begin. -/
namespace Go.Proofs.YteimllgoelleeaaGreatDoor
open Go.RowKit Go.Deep

def unV (l : List UInt8) : Value := .tuple #[.string ⟨(unframeL l).1.toArray⟩, .string ⟨(unframeL l).2.1.toArray⟩, .int .i64 (unframeL l).2.2]
theorem prefix_at (s t : ByteArray) (b : Bool) (w : World) (hs : s.size ≤ 1000000) (ht : t.size ≤ s.size) (h : (s.data.toList.take t.size == t.data.toList) = b) :
    Calls Tryz.prog 104 #[.string s, .string t] w fun e w' => e = .returned (.bool b) ∧ Bel w w' := by
  have e : ((s.extract 0 t.size).toList == t.toList) = b := by
    rw [← h, ByteArray.toList_eq, ByteArray.toList_eq, ext_data, List.drop_zero]
  rw [← e]
  exact prefix_any s t w hs ht
theorem closing_at (s : ByteArray) (l : List UInt8) (w : World) (hs : s.size ≤ 1000000) (h : s.data.toList = l) :
    Calls Tryz.prog 54 #[.string s] w fun e w' => e = .returned (.string ⟨(bigL (crcN l) 4).toArray⟩) ∧ Bel w w' := by
  subst h; exact closing_any s w (by unfold maxLen; omega)
theorem take_parts (l : List UInt8) (n : Nat) (r : List UInt8) (b : Bool) (h : takeL l = (n, r, b)) : takeV l = .tuple #[.int .u64 (n : Int), .string ⟨r.toArray⟩, .bool b] := by rw [takeV, h]
theorem un_none (l : List UInt8) (n : Nat) (r : List UInt8) (h : takeL l = (n, r, false)) : unV l = .tuple #[.string ⟨#[]⟩, .string ⟨#[]⟩, .int .i64 8] := by
  rw [unV, unframeL, h, if_pos rfl]
theorem un_long (l : List UInt8) (n : Nat) (r : List UInt8) (h : takeL l = (n, r, true)) (hn : 40000 < n) : unV l = .tuple #[.string ⟨#[]⟩, .string ⟨#[]⟩, .int .i64 10] := by
  rw [unV, unframeL, h, if_neg (by simp), if_pos hn]
theorem un_few (l : List UInt8) (n : Nat) (r : List UInt8) (h : takeL l = (n, r, true)) (hn : n ≤ 40000) (hr : r.length < n + 4) : unV l = .tuple #[.string ⟨#[]⟩, .string ⟨#[]⟩, .int .i64 8] := by
  rw [unV, unframe_of h hn, if_pos hr]
theorem un_wrong (l : List UInt8) (n : Nat) (r : List UInt8) (h : takeL l = (n, r, true)) (hn : n ≤ 40000) (hr : ¬ r.length < n + 4) (hs : ¬ bigL (crcN (r.take n)) 4 = (r.drop n).take 4) :
    unV l = .tuple #[.string ⟨#[]⟩, .string ⟨#[]⟩, .int .i64 9] := by
  rw [unV, unframe_of h hn, if_neg hr, if_neg hs]
theorem un_ok (l : List UInt8) (n : Nat) (r : List UInt8) (h : takeL l = (n, r, true)) (hn : n ≤ 40000) (hr : ¬ r.length < n + 4) (hs : bigL (crcN (r.take n)) 4 = (r.drop n).take 4) :
    unV l = .tuple #[.string ⟨(r.take n).toArray⟩, .string ⟨(r.drop (n + 4)).toArray⟩, .int .i64 0] := by
  rw [unV, unframe_of h hn, if_neg hr, if_pos hs]

set_option maxHeartbeats 4000000 in
theorem unframe_any (s : ByteArray) (w : World) (hs : s.size ≤ 1000000) :
    Calls Tryz.prog 87 #[.string s] w fun e w' => e = .returned (unV s.data.toList) ∧ Bel w w' := by
  obtain ⟨n, r, b, hT⟩ : ∃ n r b, takeL s.data.toList = (n, r, b) := ⟨_, _, _, rfl⟩
  have hrest := take_rest s.data.toList
  have hV := Lib.hid (take_parts _ _ _ _ hT)
  rw [hT] at hrest
  have hsl : s.data.toList.length = s.size := rfl
  have hrs : r.length ≤ s.size := by simp only [] at hrest; omega
  clear hrest
  have hz : (⟨r.toArray⟩ : ByteArray).size = r.length := by show r.toArray.size = _; simp
  cases b with
  | false =>
    have HU := Lib.hid (un_none _ _ _ hT)
    clear hT
    go_enter Tryz.func87, Tryz.ntmps87
    go_wp2_with (fail)
    refine (take_any s w hs).mono ?_
    rintro e w1 ⟨rfl, hb⟩
    have HB := Lib.hid hb; clear hb
    rw [hV.out]
    go_wp2_with (fail)
    go_ret3
    exact ⟨by rw [HU.out]; rfl, HB.out⟩
  | true =>
    by_cases hn : 40000 < n
    · have HU := Lib.hid (un_long _ _ _ hT hn)
      clear hT
      go_enter Tryz.func87, Tryz.ntmps87
      go_wp2_with (fail)
      refine (take_any s w hs).mono ?_
      rintro e w1 ⟨rfl, hb⟩
      have HB := Lib.hid hb; clear hb
      rw [hV.out]
      go_wp2_with (fail)
      go_ret3
      exact ⟨by rw [HU.out]; rfl, HB.out⟩
    by_cases hr : r.length < n + 4
    · have HU := Lib.hid (un_few _ _ _ hT (by omega) hr)
      clear hT
      go_enter Tryz.func87, Tryz.ntmps87
      go_wp2_with (fail)
      refine (take_any s w hs).mono ?_
      rintro e w1 ⟨rfl, hb⟩
      have HB := Lib.hid hb; clear hb
      rw [hV.out]
      go_wp2_with (fail)
      go_ret3
      exact ⟨by rw [HU.out]; rfl, HB.out⟩
    by_cases he : bigL (crcN (r.take n)) 4 = (r.drop n).take 4
    · have HU := Lib.hid (un_ok _ _ _ hT (by omega) hr he)
      clear hT
      have hl : (⟨r.toArray⟩ : ByteArray).data.toList = r := by simp
      generalize hra : (⟨r.toArray⟩ : ByteArray) = ra at *
      have h4 := bigL_len 4 (crcN (r.take n))
      have HP := Lib.hid (show (ra.extract 0 n).data.toList = r.take n by rw [ext_data, List.drop_zero, hl])
      have HQ := Lib.hid (show (ra.extract n r.length).data.toList = r.drop n by rw [ext_data, hl, List.take_of_length_le (by omega)])
      have HQ4 := Lib.hid (show (ra.extract n (n + 4)).data.toList = (r.drop n).take 4 by rw [ext_data, hl, List.drop_take]; congr 1; omega)
      have HR := Lib.hid (show (ra.extract (n + 4) r.length).data.toList = r.drop (n + 4) by rw [ext_data, hl, List.take_of_length_le (by omega)])
      have h4' : (⟨(bigL (crcN (r.take n)) 4).toArray⟩ : ByteArray).size = 4 := by show (bigL (crcN (r.take n)) 4).toArray.size = 4; simp [h4]
      have hzp : (ra.extract 0 n).size = n := by simp [ByteArray.size_extract]; omega
      have hzq : (ra.extract n r.length).size = r.length - n := by simp [ByteArray.size_extract]; omega
      have HX := Lib.hid (show (ra.extract n r.length).extract 4 (r.length - n) = ra.extract (n + 4) r.length by
        apply ByteArray.ext; apply Array.ext'; rw [ext_data, HQ.out, HR.out, List.take_of_length_le (by simp), List.drop_drop])
      have HE := Lib.hid he
      clear he hra hl h4
      go_enter Tryz.func87, Tryz.ntmps87
      go_wp2_with (fail)
      refine (take_any s w hs).mono ?_
      rintro e w1 ⟨rfl, hb⟩
      have HB := Lib.hid hb; clear hb
      rw [hV.out]
      go_wp2_with (fail)
      go_quiet (fail)
      go_wp2_with (fail)
      refine (closing_at (ra.extract 0 n) _ _ (by omega) HP.out).mono ?_
      rintro e w2 ⟨rfl, hb⟩
      replace HB := Lib.hid ((HB.out.drewN _).trans hb); clear hb
      go_wp2_with (fail)
      refine (prefix_at _ _ true _ (by omega) (by rw [h4', hzq]; omega) (by rw [h4', HQ.out]; rw [beq_iff_eq]; exact HE.out.symm)).mono ?_
      rintro e w3 ⟨rfl, hb⟩
      replace HB := Lib.hid (HB.out.trans hb); clear hb
      go_wp2_with (fail)
      go_quiet (fail)
      go_wp2_with (fail)
      go_ret3
      refine ⟨?_, HB.out.drewN _⟩
      rw [HU.out]
      have e1 := congrArg (fun l : List UInt8 => (⟨l.toArray⟩ : ByteArray)) HP.out
      have e2 := congrArg (fun l : List UInt8 => (⟨l.toArray⟩ : ByteArray)) HR.out
      simp only [ba_list] at e1 e2
      rw [← e1, ← e2, ← HX.out]
      rfl
    · have HU := Lib.hid (un_wrong _ _ _ hT (by omega) hr he)
      clear hT
      have hl : (⟨r.toArray⟩ : ByteArray).data.toList = r := by simp
      generalize hra : (⟨r.toArray⟩ : ByteArray) = ra at *
      have h4 := bigL_len 4 (crcN (r.take n))
      have HP := Lib.hid (show (ra.extract 0 n).data.toList = r.take n by rw [ext_data, List.drop_zero, hl])
      have HQ := Lib.hid (show (ra.extract n r.length).data.toList = r.drop n by rw [ext_data, hl, List.take_of_length_le (by omega)])
      have HQ4 := Lib.hid (show (ra.extract n (n + 4)).data.toList = (r.drop n).take 4 by rw [ext_data, hl, List.drop_take]; congr 1; omega)
      have HR := Lib.hid (show (ra.extract (n + 4) r.length).data.toList = r.drop (n + 4) by rw [ext_data, hl, List.take_of_length_le (by omega)])
      have h4' : (⟨(bigL (crcN (r.take n)) 4).toArray⟩ : ByteArray).size = 4 := by show (bigL (crcN (r.take n)) 4).toArray.size = 4; simp [h4]
      have hzp : (ra.extract 0 n).size = n := by simp [ByteArray.size_extract]; omega
      have hzq : (ra.extract n r.length).size = r.length - n := by simp [ByteArray.size_extract]; omega
      have HX := Lib.hid (show (ra.extract n r.length).extract 4 (r.length - n) = ra.extract (n + 4) r.length by
        apply ByteArray.ext; apply Array.ext'; rw [ext_data, HQ.out, HR.out, List.take_of_length_le (by simp), List.drop_drop])
      have HE := Lib.hid he
      clear he hra hl h4
      go_enter Tryz.func87, Tryz.ntmps87
      go_wp2_with (fail)
      refine (take_any s w hs).mono ?_
      rintro e w1 ⟨rfl, hb⟩
      have HB := Lib.hid hb; clear hb
      rw [hV.out]
      go_wp2_with (fail)
      go_quiet (fail)
      go_wp2_with (fail)
      refine (closing_at (ra.extract 0 n) _ _ (by omega) HP.out).mono ?_
      rintro e w2 ⟨rfl, hb⟩
      replace HB := Lib.hid ((HB.out.drewN _).trans hb); clear hb
      go_wp2_with (fail)
      refine (prefix_at _ _ false _ (by omega) (by rw [h4', hzq]; omega) (by rw [h4', HQ.out]; rw [beq_eq_false_iff_ne]; exact fun h => HE.out h.symm)).mono ?_
      rintro e w3 ⟨rfl, hb⟩
      replace HB := Lib.hid (HB.out.trans hb); clear hb
      go_wp2_with (fail)
      go_ret3
      exact ⟨by rw [HU.out]; rfl, HB.out⟩
end Go.Proofs.YteimllgoelleeaaGreatDoor
