/- KBig, KStd, QName, VBig, VSize, VPut, VNum, VTake, QPName, VRef, VRTake, QRTake, laid together. -/
import Derived.Test.YtbalkchphijehaaDoorQ4
import Derived.Test.YtbalkchphijehaaDoorQ7
import Derived.Deep.OwnRows
import Derived.Lib.Hide
import Derived.WalkMore
import Derived.StillTailTactics
set_option linter.unusedSimpArgs false
set_option linter.unusedVariables false
/- key.big, key.sum: the last bytes of a number, and the number of some bytes. -/
set_option maxRecDepth 20000
namespace Go.Proofs.YtbalkchphijehaaDoor
open Go.RowKit Go.Deep

def BigRel (n sz : Nat) (w : World) (i : Value) (x : World) : Prop := ∃ k : Nat, k ≤ sz ∧ i = .int .i64 k ∧
  x.rowIs w.heap.size 5 sz (fun j => if sz - k ≤ j then .int .u8 ((n / 256 ^ (sz - 1 - j) % 256 : Nat) : Int) else .int .u8 0) ∧ Bel w x

theorem bigL_get : ∀ (sz n j : Nat), j < sz → (bigL n sz)[j]? = some (UInt8.ofNat (n / 256 ^ (sz - 1 - j) % 256))
  | 0, n, j, h => by omega
  | sz + 1, n, 0, h => by rw [bigL_cons]; simp
  | sz + 1, n, j + 1, h => by
    rw [bigL_cons, List.getElem?_cons_succ, bigL_get sz n j (by omega)]
    have e : sz - 1 - j = sz + 1 - 1 - (j + 1) := by omega
    rw [e]
theorem shr_byte (n k : Nat) : (n : Int) / 2 ^ (8 * k) % 256 = ((n / 256 ^ k % 256 : Nat) : Int) := by
  have e : (2 : Int) ^ (8 * k) = ((256 ^ k : Nat) : Int) := by rw [Int.pow_mul]; simp
  rw [e]; simp

set_option maxHeartbeats 1000000 in
theorem big_any (n sz : Nat) (w : World) (hs : sz ≤ 9) :
    Calls Tryd.prog 67 #[.int .u64 n, .int .i64 sz] w fun e w' => e = .returned (.string ⟨(bigL n sz).toArray⟩) ∧ Bel w w' := by
  have hmk := run_make_row' (P := Tryd.prog) 49 5 (.int .u8 0) 1 Tryd.underlying49 infoByte rfl .i64 .i64 sz (by omega) (by omega)
  go_enter Tryd.func67, Tryd.ntmps67
  go_wp2
  go_loopw [11] (fun i x => BigRel n sz w i x) (fun i _ => sz - (intOf i).toNat)
  case atStart => exact ⟨0, Nat.zero_le _, rfl, (World.rowIs_made w (.int .u8 0) sz 5).congr fun j hj => by rw [if_neg (by omega)], (Bel.refl w).alloc _⟩
  case round =>
    obtain ⟨k, hk, rfl, hrow, hb⟩ := hrel
    have HR := Lib.hid hrow; clear hrow
    have HB := Lib.hid hb; clear hb
    by_cases hlt : k < sz
    · obtain ⟨j, rfl⟩ : ∃ j, sz = k + 1 + j := ⟨sz - (k + 1), by omega⟩
      have hc := HR.out.cell (i := j) (by omega)
      have hf := HR.out.frozen j
      go_wp2
      go_roundw
      case rel =>
        refine ⟨k + 1, by omega, by go_num, ?_, HB.out.setCell (Nat.le_refl _) _⟩
        refine (HR.out.set j _).congr fun i hi => ?_
        by_cases he : i = j
        · subst he
          rw [if_pos rfl, if_pos (by omega), shr_byte]
          have e : k + 1 + i - 1 - i = k := by omega
          rw [e]
        · rw [if_neg he]
          by_cases hp : k + 1 + j - k ≤ i
          · rw [if_pos hp, if_pos (by omega)]
          · rw [if_neg hp, if_neg (by omega)]
      case measure => simp [intOf]; omega
    · obtain rfl : k = sz := by omega
      have hcv : (convert 49 9 (.slice (some ⟨w.heap.size, 0, none⟩) k k)).run Tryd.prog wr = .ok (.string ⟨(bigL n k).toArray⟩) wr := by
        have h0 := run_convert_bytes_back wr 49 9 5 ⟨w.heap.size, 0, none⟩ k (bigL n k) Tryd.underlying49 Tryd.underlying5 Tryd.underlying9 (fun j hj => by
          rw [bigL_len] at hj
          have e : (⟨w.heap.size, 0, none⟩ : Addr).add j = ⟨w.heap.size, j, none⟩ := by cases j <;> simp [Addr.add]
          have hg := bigL_get k n j hj
          rw [List.getElem?_eq_getElem (by rw [bigL_len]; exact hj)] at hg
          rw [e, HR.out.cell hj, if_pos (by omega), Option.some.inj hg]
          simp)
        rw [bigL_len] at h0
        exact h0
      go_wp2
      go_ret
      exact ⟨rfl, HB.out⟩

theorem wrap_u64 (x : Int) : IntKind.u64.wrap x = x % 18446744073709551616 := by simp [IntKind.wrap, IntKind.bits, IntKind.signed]
theorem wrap_step (a : Nat) (b : UInt8) : IntKind.u64.wrap (IntKind.u64.wrap ((a : Int) % 18446744073709551616 * 256) + IntKind.u64.wrap (b.toNat : Int)) = (((a * 256 + b.toNat) % 18446744073709551616 : Nat) : Int) := by
  rw [wrap_u64, wrap_u64, wrap_u64]; omega

def SumRel (s : ByteArray) (v i : Value) : Prop := ∃ k : Nat, k ≤ s.size ∧ i = .int .i64 k ∧ v = .int .u64 ((sumL (s.data.toList.take k) % 18446744073709551616 : Nat) : Int)

theorem sumL_take (s : ByteArray) (k : Nat) (h : k < s.size) : sumL (s.data.toList.take (k + 1)) = sumL (s.data.toList.take k) * 256 + s[k].toNat := by
  rw [← sumL_snoc, List.take_add_one]
  have e : s.data.toList[k]? = some s[k] := by rw [List.getElem?_eq_getElem (by simpa using h)]; rfl
  rw [e]; rfl

set_option maxHeartbeats 1000000 in
theorem sum_any (s : ByteArray) (w : World) (hs : s.size ≤ maxLen) :
    Calls Tryd.prog 91 #[.string s] w fun e w' => e = .returned (.int .u64 ((sumL s.data.toList % 18446744073709551616 : Nat) : Int)) ∧ Drw w w' := by
  unfold maxLen at hs
  go_enter Tryd.func91, Tryd.ntmps91
  go_wp2
  go_loopw [3, 7] (fun v i x => SumRel s v i ∧ Drw w x) (fun _ i _ => s.size - (intOf i).toNat)
  case atStart => exact ⟨⟨0, Nat.zero_le _, rfl, rfl⟩, Drw.refl _⟩
  case round =>
    obtain ⟨⟨k, hk, rfl, rfl⟩, hw⟩ := hrel
    have HW := Lib.hid hw; clear hw
    by_cases hlt : k < s.size
    · go_wp2
      go_roundw
      case rel =>
        refine ⟨⟨k + 1, hlt, by go_num, ?_⟩, HW.out⟩
        rw [sumL_take s k hlt]
        exact congrArg _ (wrap_step _ _)
      case measure => simp [intOf]; omega
    · go_wp2
      go_ret
      obtain rfl : k = s.size := by omega
      refine ⟨ret_int ?_, HW.out⟩
      have e : s.data.toList.take s.size = s.data.toList := List.take_of_length_le (Nat.le_refl _)
      rw [e]
end Go.Proofs.YtbalkchphijehaaDoor
/- The table of widths, a variable of the package, as the row lays it: what its cells hold, and what a load of it is. -/
set_option maxRecDepth 20000
namespace Go.Proofs.YtbalkchphijehaaDoor
open Go.RowKit Go.Deep

/-- The twelve cells of key.widths. -/
def tabW : List Value := [.int .i64 1, .int .i64 1, .int .u64 0, .int .i64 2, .int .i64 2, .int .u64 32768, .int .i64 3, .int .i64 4, .int .u64 2147483648, .int .i64 4, .int .i64 8, .int .u64 9223372036854775808]
def Std (w : World) : Prop := 0 < w.heap.size ∧ ∀ i (h : i < 12), w.cell? ⟨0, i, none⟩ = some (tabW[i]'h)
theorem Std.bel {w x : World} (h : Std w) (hb : Bel w x) : Std x := ⟨Nat.lt_of_lt_of_le h.1 hb.size, fun i hi => (hb.cell _ _ h.1).trans (h.2 i hi)⟩
theorem Std.cells {w : World} (h : Std w) :
    w.cell? ⟨0, 0, none⟩ = some (.int .i64 1) ∧ w.cell? ⟨0, 1, none⟩ = some (.int .i64 1) ∧ w.cell? ⟨0, 2, none⟩ = some (.int .u64 0) ∧
    w.cell? ⟨0, 3, none⟩ = some (.int .i64 2) ∧ w.cell? ⟨0, 4, none⟩ = some (.int .i64 2) ∧ w.cell? ⟨0, 5, none⟩ = some (.int .u64 32768) ∧
    w.cell? ⟨0, 6, none⟩ = some (.int .i64 3) ∧ w.cell? ⟨0, 7, none⟩ = some (.int .i64 4) ∧ w.cell? ⟨0, 8, none⟩ = some (.int .u64 2147483648) ∧
    w.cell? ⟨0, 9, none⟩ = some (.int .i64 4) ∧ w.cell? ⟨0, 10, none⟩ = some (.int .i64 8) ∧ w.cell? ⟨0, 11, none⟩ = some (.int .u64 9223372036854775808) :=
  ⟨h.2 0 (by decide), h.2 1 (by decide), h.2 2 (by decide), h.2 3 (by decide), h.2 4 (by decide), h.2 5 (by decide), h.2 6 (by decide), h.2 7 (by decide), h.2 8 (by decide), h.2 9 (by decide), h.2 10 (by decide), h.2 11 (by decide)⟩

/-- What number answers: the number that the bytes tell, and what is behind them. -/
def numV (k : Int) (s : ByteArray) : Value :=
  if s.size < widK k then .tuple #[.int .i64 0, .string ⟨#[]⟩, .bool false] else .tuple #[.int .i64 ((sumL (s.data.toList.take (widK k)) : Int) - biasK k), .string ⟨(s.data.toList.drop (widK k)).toArray⟩, .bool true]
def NumRel (k : Int) (n : Nat) (i : Value) : Prop := ∃ j : Nat, i = .int .i64 j ∧ j ≤ 4 ∧ (widK k ≤ n → (j : Int) + 1 ≤ k)
theorem num_wrap64 (a b : Int) (h : -9223372036854775808 ≤ a - b) (h' : a - b ≤ 9223372036854775807) (ha : 0 ≤ a) (ha' : a < 18446744073709551616) (hb : 0 ≤ b) (hb' : b < 18446744073709551616) :
    wrap64 (IntKind.u64.wrap (a - b)) = a - b := by
  simp [IntKind.wrap, IntKind.bits, IntKind.signed]; unfold wrap64; omega
theorem ret_num {a b : Int} {x y : ByteArray} (h : a = b) (h' : x = y) : Ending.returned (.tuple #[.int .i64 a, .string x, .bool true]) = Ending.returned (.tuple #[.int .i64 b, .string y, .bool true]) := by rw [h, h']
theorem sum_at (s : ByteArray) (k m : Nat) (w : World) (hs : s.size ≤ 1000000) (hk : k ≤ 8) (hm : sumL (s.data.toList.take k) = m) :
    m < 256 ^ k ∧ Calls Tryd.prog 91 #[.string (s.extract 0 k)] w fun e w' => e = .returned (.int .u64 m) ∧ Drw w w' := by
  have e : (s.extract 0 k).data.toList = s.data.toList.take k := by rw [ext_data, List.drop_zero]
  have h1 := sumL_lt (s.data.toList.take k)
  have h2 : (s.data.toList.take k).length ≤ k := List.length_take_le _ _
  have h3 : 256 ^ (s.data.toList.take k).length ≤ 256 ^ k := Nat.pow_le_pow_right (by decide) h2
  have h4 : 256 ^ k ≤ 256 ^ 8 := Nat.pow_le_pow_right (by decide) hk
  refine ⟨by omega, (sum_any _ w (by rw [ByteArray.size_extract]; unfold maxLen; omega)).mono ?_⟩
  rintro e' w' ⟨rfl, hw⟩
  refine ⟨ret_int ?_, hw⟩
  rw [e, Nat.mod_eq_of_lt (by omega), hm]
theorem run_widths (w : World) (j : Int) (h : 0 ≤ j ∧ j < 4) (cs : Array Value) :
    (Instr.index 106 (.agg cs) (.int .i64 j)).run Tryd.prog w = .ok (.agg (cs.extract (j.toNat * 3) (j.toNat * 3 + 3))) w := by
  simp [Instr.index, run_underlying Tryd.underlying106, asIntOf, h, part, go_sem]
theorem run_width0 (w : World) : (Instr.index 106 (.agg #[.int .i64 1, .int .i64 1, .int .u64 0, .int .i64 2, .int .i64 2, .int .u64 32768, .int .i64 3, .int .i64 4, .int .u64 2147483648, .int .i64 4, .int .i64 8, .int .u64 9223372036854775808]) (.int .i64 0)).run Tryd.prog w = .ok (.agg #[.int .i64 1, .int .i64 1, .int .u64 0]) w :=
  run_widths w 0 (by omega) _
theorem run_width1 (w : World) : (Instr.index 106 (.agg #[.int .i64 1, .int .i64 1, .int .u64 0, .int .i64 2, .int .i64 2, .int .u64 32768, .int .i64 3, .int .i64 4, .int .u64 2147483648, .int .i64 4, .int .i64 8, .int .u64 9223372036854775808]) (.int .i64 1)).run Tryd.prog w = .ok (.agg #[.int .i64 2, .int .i64 2, .int .u64 32768]) w :=
  run_widths w 1 (by omega) _
theorem run_width2 (w : World) : (Instr.index 106 (.agg #[.int .i64 1, .int .i64 1, .int .u64 0, .int .i64 2, .int .i64 2, .int .u64 32768, .int .i64 3, .int .i64 4, .int .u64 2147483648, .int .i64 4, .int .i64 8, .int .u64 9223372036854775808]) (.int .i64 2)).run Tryd.prog w = .ok (.agg #[.int .i64 3, .int .i64 4, .int .u64 2147483648]) w :=
  run_widths w 2 (by omega) _
theorem run_width3 (w : World) : (Instr.index 106 (.agg #[.int .i64 1, .int .i64 1, .int .u64 0, .int .i64 2, .int .i64 2, .int .u64 32768, .int .i64 3, .int .i64 4, .int .u64 2147483648, .int .i64 4, .int .i64 8, .int .u64 9223372036854775808]) (.int .i64 3)).run Tryd.prog w = .ok (.agg #[.int .i64 4, .int .i64 8, .int .u64 9223372036854775808]) w :=
  run_widths w 3 (by omega) _

set_option maxHeartbeats 4000000 in
theorem number_any (k : Int) (s : ByteArray) (w : World) (hs : s.size ≤ 1000000) (hk : 1 ≤ k ∧ k ≤ 4) (hstd : Std w) :
    Calls Tryd.prog 85 #[.int .i64 k, .string s] w fun e w' => e = .returned (numV k s) ∧ Bel w w' := by
  obtain ⟨g0, g1, g2, g3, g4, g5, g6, g7, g8, g9, g10, g11⟩ := hstd.cells
  go_enter Tryd.func85, Tryd.ntmps85
  go_wp2_with (fail)
  clear g0 g1 g2 g3 g4 g5 g6 g7 g8 g9 g10 g11 hstd
  go_loopw [10] (fun i x => NumRel k s.size i ∧ Bel w x) (fun i _ => 4 - (intOf i).toNat)
  case atStart => exact ⟨⟨0, rfl, by omega, fun _ => by simp; omega⟩, Bel.refl w⟩
  case round =>
    obtain ⟨⟨j, rfl, hj4, hj⟩, hb⟩ := hrel
    have HB := Lib.hid hb; clear hb
    have HJ := Lib.hid hj; clear hj
    by_cases hlt : j < 4
    · obtain rfl | rfl | rfl | rfl : j = 0 ∨ j = 1 ∨ j = 2 ∨ j = 3 := by omega
      · have hix := run_width0
        by_cases hjk : (1 : Int) = k
        · subst hjk
          have HV := Lib.hid (show numV 1 s = if s.size < 1 then .tuple #[.int .i64 0, .string ⟨#[]⟩, .bool false] else .tuple #[.int .i64 ((sumL (s.data.toList.take 1) : Int) - 0), .string ⟨(s.data.toList.drop 1).toArray⟩, .bool true] from rfl)
          by_cases hl : s.size < 1
          · go_wp2_with (fail)
            go_roundw
            case rel => exact ⟨⟨1, by go_num, by omega, fun h => by exact absurd h (by show ¬ 1 ≤ s.size; omega)⟩, HB.out.alloc _⟩
            case measure => simp [intOf]
          · have i1 : (1 : Int) ≤ (s.size : Int) := by omega
            go_wp2_with (fail)
            obtain ⟨m, hm⟩ : ∃ m : Nat, sumL (s.data.toList.take 1) = m := ⟨_, rfl⟩
            have hS := fun w => sum_at s 1 m w hs (by omega) hm
            have hml := (hS w).1
            rw [hm] at HV
            clear hm
            go_quiet ((go_at_call 91; exact Calls.quiet_of (hS _).2))
            go_wp2_with (fail)
            go_ret3
            refine ⟨?_, (HB.out.alloc _).drewN _⟩
            rw [HV.out, if_neg hl]
            exact ret_num (by omega) (ba_eq (ext_end s 1))
        · go_wp2_with (fail)
          go_roundw
          case rel => exact ⟨⟨1, by go_num, by omega, fun h => by have := HJ.out h; omega⟩, HB.out.alloc _⟩
          case measure => simp [intOf]
      · have hix := run_width1
        by_cases hjk : (2 : Int) = k
        · subst hjk
          have HV := Lib.hid (show numV 2 s = if s.size < 2 then .tuple #[.int .i64 0, .string ⟨#[]⟩, .bool false] else .tuple #[.int .i64 ((sumL (s.data.toList.take 2) : Int) - 32768), .string ⟨(s.data.toList.drop 2).toArray⟩, .bool true] from rfl)
          by_cases hl : s.size < 2
          · go_wp2_with (fail)
            go_roundw
            case rel => exact ⟨⟨2, by go_num, by omega, fun h => by exact absurd h (by show ¬ 2 ≤ s.size; omega)⟩, HB.out.alloc _⟩
            case measure => simp [intOf]
          · have i1 : (2 : Int) ≤ (s.size : Int) := by omega
            go_wp2_with (fail)
            obtain ⟨m, hm⟩ : ∃ m : Nat, sumL (s.data.toList.take 2) = m := ⟨_, rfl⟩
            have hS := fun w => sum_at s 2 m w hs (by omega) hm
            have hml := (hS w).1
            rw [hm] at HV
            clear hm
            go_quiet ((go_at_call 91; exact Calls.quiet_of (hS _).2))
            go_wp2_with (fail)
            go_ret3
            refine ⟨?_, (HB.out.alloc _).drewN _⟩
            rw [HV.out, if_neg hl]
            exact ret_num (num_wrap64 (m : Int) 32768 (by omega) (by omega) (by omega) (by omega) (by omega) (by omega)) (ba_eq (ext_end s 2))
        · go_wp2_with (fail)
          go_roundw
          case rel => exact ⟨⟨2, by go_num, by omega, fun h => by have := HJ.out h; omega⟩, HB.out.alloc _⟩
          case measure => simp [intOf]
      · have hix := run_width2
        by_cases hjk : (3 : Int) = k
        · subst hjk
          have HV := Lib.hid (show numV 3 s = if s.size < 4 then .tuple #[.int .i64 0, .string ⟨#[]⟩, .bool false] else .tuple #[.int .i64 ((sumL (s.data.toList.take 4) : Int) - 2147483648), .string ⟨(s.data.toList.drop 4).toArray⟩, .bool true] from rfl)
          by_cases hl : s.size < 4
          · go_wp2_with (fail)
            go_roundw
            case rel => exact ⟨⟨3, by go_num, by omega, fun h => by exact absurd h (by show ¬ 4 ≤ s.size; omega)⟩, HB.out.alloc _⟩
            case measure => simp [intOf]
          · have i1 : (4 : Int) ≤ (s.size : Int) := by omega
            go_wp2_with (fail)
            obtain ⟨m, hm⟩ : ∃ m : Nat, sumL (s.data.toList.take 4) = m := ⟨_, rfl⟩
            have hS := fun w => sum_at s 4 m w hs (by omega) hm
            have hml := (hS w).1
            rw [hm] at HV
            clear hm
            go_quiet ((go_at_call 91; exact Calls.quiet_of (hS _).2))
            go_wp2_with (fail)
            go_ret3
            refine ⟨?_, (HB.out.alloc _).drewN _⟩
            rw [HV.out, if_neg hl]
            exact ret_num (num_wrap64 (m : Int) 2147483648 (by omega) (by omega) (by omega) (by omega) (by omega) (by omega)) (ba_eq (ext_end s 4))
        · go_wp2_with (fail)
          go_roundw
          case rel => exact ⟨⟨3, by go_num, by omega, fun h => by have := HJ.out h; omega⟩, HB.out.alloc _⟩
          case measure => simp [intOf]
      · have hix := run_width3
        by_cases hjk : (4 : Int) = k
        · subst hjk
          have HV := Lib.hid (show numV 4 s = if s.size < 8 then .tuple #[.int .i64 0, .string ⟨#[]⟩, .bool false] else .tuple #[.int .i64 ((sumL (s.data.toList.take 8) : Int) - 9223372036854775808), .string ⟨(s.data.toList.drop 8).toArray⟩, .bool true] from rfl)
          by_cases hl : s.size < 8
          · go_wp2_with (fail)
            go_roundw
            case rel => exact ⟨⟨4, by go_num, by omega, fun h => by exact absurd h (by show ¬ 8 ≤ s.size; omega)⟩, HB.out.alloc _⟩
            case measure => simp [intOf]
          · have i1 : (8 : Int) ≤ (s.size : Int) := by omega
            go_wp2_with (fail)
            obtain ⟨m, hm⟩ : ∃ m : Nat, sumL (s.data.toList.take 8) = m := ⟨_, rfl⟩
            have hS := fun w => sum_at s 8 m w hs (by omega) hm
            have hml := (hS w).1
            rw [hm] at HV
            clear hm
            go_quiet ((go_at_call 91; exact Calls.quiet_of (hS _).2))
            go_wp2_with (fail)
            go_ret3
            refine ⟨?_, (HB.out.alloc _).drewN _⟩
            rw [HV.out, if_neg hl]
            exact ret_num (num_wrap64 (m : Int) 9223372036854775808 (by omega) (by omega) (by omega) (by omega) (by omega) (by omega)) (ba_eq (ext_end s 8))
        · go_wp2_with (fail)
          go_roundw
          case rel => exact ⟨⟨4, by go_num, by omega, fun h => by have := HJ.out h; omega⟩, HB.out.alloc _⟩
          case measure => simp [intOf]
    · obtain rfl : j = 4 := by omega
      have HV := Lib.hid (show numV k s = _ from if_pos (by have h := HJ.out; omega))
      go_wp2_with (fail)
      go_ret3
      exact ⟨by rw [HV.out]; rfl, HB.out⟩
end Go.Proofs.YtbalkchphijehaaDoor
/- moultref14.Name. -/
namespace Go.Proofs.YtbalkchphijehaaDoor
open Go.RowKit Go.Deep

end Go.Proofs.YtbalkchphijehaaDoor
/- varint.big, varint.sum: the last bytes of a number, and the number of some bytes. -/
set_option maxRecDepth 20000
namespace Go.Proofs.YtbalkchphijehaaDoor
open Go.RowKit Go.Deep

def BigRel3 (n sz : Nat) (w : World) (i : Value) (x : World) : Prop := ∃ k : Nat, k ≤ sz ∧ i = .int .i64 k ∧
  x.rowIs w.heap.size 5 sz (fun j => if sz - k ≤ j then .int .u8 ((n / 256 ^ (sz - 1 - j) % 256 : Nat) : Int) else .int .u8 0) ∧ Bel w x

theorem bigL_get3 : ∀ (sz n j : Nat), j < sz → (bigL n sz)[j]? = some (UInt8.ofNat (n / 256 ^ (sz - 1 - j) % 256))
  | 0, n, j, h => by omega
  | sz + 1, n, 0, h => by rw [bigL_cons]; simp
  | sz + 1, n, j + 1, h => by
    rw [bigL_cons, List.getElem?_cons_succ, bigL_get3 sz n j (by omega)]
    have e : sz - 1 - j = sz + 1 - 1 - (j + 1) := by omega
    rw [e]
theorem shr_byte3 (n k : Nat) : (n : Int) / 2 ^ (8 * k) % 256 = ((n / 256 ^ k % 256 : Nat) : Int) := by
  have e : (2 : Int) ^ (8 * k) = ((256 ^ k : Nat) : Int) := by rw [Int.pow_mul]; simp
  rw [e]; simp

set_option maxHeartbeats 1000000 in
theorem big_any3 (n sz : Nat) (w : World) (hs : sz ≤ 9) :
    Calls Tryd.prog 74 #[.int .u64 n, .int .i64 sz] w fun e w' => e = .returned (.string ⟨(bigL n sz).toArray⟩) ∧ Bel w w' := by
  have hmk := run_make_row' (P := Tryd.prog) 49 5 (.int .u8 0) 1 Tryd.underlying49 infoByte rfl .i64 .i64 sz (by omega) (by omega)
  go_enter Tryd.func74, Tryd.ntmps74
  go_wp2
  go_loopw [11] (fun i x => BigRel3 n sz w i x) (fun i _ => sz - (intOf i).toNat)
  case atStart => exact ⟨0, Nat.zero_le _, rfl, (World.rowIs_made w (.int .u8 0) sz 5).congr fun j hj => by rw [if_neg (by omega)], (Bel.refl w).alloc _⟩
  case round =>
    obtain ⟨k, hk, rfl, hrow, hb⟩ := hrel
    have HR := Lib.hid hrow; clear hrow
    have HB := Lib.hid hb; clear hb
    by_cases hlt : k < sz
    · obtain ⟨j, rfl⟩ : ∃ j, sz = k + 1 + j := ⟨sz - (k + 1), by omega⟩
      have hc := HR.out.cell (i := j) (by omega)
      have hf := HR.out.frozen j
      go_wp2
      go_roundw
      case rel =>
        refine ⟨k + 1, by omega, by go_num, ?_, HB.out.setCell (Nat.le_refl _) _⟩
        refine (HR.out.set j _).congr fun i hi => ?_
        by_cases he : i = j
        · subst he
          rw [if_pos rfl, if_pos (by omega), shr_byte3]
          have e : k + 1 + i - 1 - i = k := by omega
          rw [e]
        · rw [if_neg he]
          by_cases hp : k + 1 + j - k ≤ i
          · rw [if_pos hp, if_pos (by omega)]
          · rw [if_neg hp, if_neg (by omega)]
      case measure => simp [intOf]; omega
    · obtain rfl : k = sz := by omega
      have hcv : (convert 49 9 (.slice (some ⟨w.heap.size, 0, none⟩) k k)).run Tryd.prog wr = .ok (.string ⟨(bigL n k).toArray⟩) wr := by
        have h0 := run_convert_bytes_back wr 49 9 5 ⟨w.heap.size, 0, none⟩ k (bigL n k) Tryd.underlying49 Tryd.underlying5 Tryd.underlying9 (fun j hj => by
          rw [bigL_len] at hj
          have e : (⟨w.heap.size, 0, none⟩ : Addr).add j = ⟨w.heap.size, j, none⟩ := by cases j <;> simp [Addr.add]
          have hg := bigL_get3 k n j hj
          rw [List.getElem?_eq_getElem (by rw [bigL_len]; exact hj)] at hg
          rw [e, HR.out.cell hj, if_pos (by omega), Option.some.inj hg]
          simp)
        rw [bigL_len] at h0
        exact h0
      go_wp2
      go_ret
      exact ⟨rfl, HB.out⟩

theorem wrap_u643 (x : Int) : IntKind.u64.wrap x = x % 18446744073709551616 := by simp [IntKind.wrap, IntKind.bits, IntKind.signed]
theorem wrap_step3 (a : Nat) (b : UInt8) : IntKind.u64.wrap (IntKind.u64.wrap ((a : Int) % 18446744073709551616 * 256) + IntKind.u64.wrap (b.toNat : Int)) = (((a * 256 + b.toNat) % 18446744073709551616 : Nat) : Int) := by
  rw [wrap_u643, wrap_u643, wrap_u643]; omega

def SumRel3 (s : ByteArray) (v i : Value) : Prop := ∃ k : Nat, k ≤ s.size ∧ i = .int .i64 k ∧ v = .int .u64 ((sumL (s.data.toList.take k) % 18446744073709551616 : Nat) : Int)

theorem sumL_take3 (s : ByteArray) (k : Nat) (h : k < s.size) : sumL (s.data.toList.take (k + 1)) = sumL (s.data.toList.take k) * 256 + s[k].toNat := by
  rw [← sumL_snoc, List.take_add_one]
  have e : s.data.toList[k]? = some s[k] := by rw [List.getElem?_eq_getElem (by simpa using h)]; rfl
  rw [e]; rfl

set_option maxHeartbeats 1000000 in
theorem sum_any3 (s : ByteArray) (w : World) (hs : s.size ≤ maxLen) :
    Calls Tryd.prog 84 #[.string s] w fun e w' => e = .returned (.int .u64 ((sumL s.data.toList % 18446744073709551616 : Nat) : Int)) ∧ Drw w w' := by
  unfold maxLen at hs
  go_enter Tryd.func84, Tryd.ntmps84
  go_wp2
  go_loopw [3, 7] (fun v i x => SumRel3 s v i ∧ Drw w x) (fun _ i _ => s.size - (intOf i).toNat)
  case atStart => exact ⟨⟨0, Nat.zero_le _, rfl, rfl⟩, Drw.refl _⟩
  case round =>
    obtain ⟨⟨k, hk, rfl, rfl⟩, hw⟩ := hrel
    have HW := Lib.hid hw; clear hw
    by_cases hlt : k < s.size
    · go_wp2
      go_roundw
      case rel =>
        refine ⟨⟨k + 1, hlt, by go_num, ?_⟩, HW.out⟩
        rw [sumL_take3 s k hlt]
        exact congrArg _ (wrap_step3 _ _)
      case measure => simp [intOf]; omega
    · go_wp2
      go_ret
      obtain rfl : k = s.size := by omega
      refine ⟨ret_int ?_, HW.out⟩
      have e : s.data.toList.take s.size = s.data.toList := List.take_of_length_le (Nat.le_refl _)
      rw [e]
end Go.Proofs.YtbalkchphijehaaDoor
/- varint.Size: how many bytes a number's are. -/
set_option maxRecDepth 20000
namespace Go.Proofs.YtbalkchphijehaaDoor
open Go.RowKit Go.Deep

def SizeRel (n : Nat) (i : Value) : Prop := ∃ j : Nat, 1 ≤ j ∧ j ≤ szN n ∧ i = .int .i64 j
theorem sz_lt1 (n : Nat) (hn : n < 18446744073709551616) (h1 : 1 ≤ szN n) : (n < 241 → szN n = 1) ∧ (¬ n < 241 → 1 + 1 ≤ szN n) := by
  revert h1; unfold szN; repeat' split
  all_goals omega
theorem sz_lt2 (n : Nat) (hn : n < 18446744073709551616) (h1 : 2 ≤ szN n) : (n < 2288 → szN n = 2) ∧ (¬ n < 2288 → 2 + 1 ≤ szN n) := by
  revert h1; unfold szN; repeat' split
  all_goals omega
theorem sz_lt3 (n : Nat) (hn : n < 18446744073709551616) (h1 : 3 ≤ szN n) : (n < 67824 → szN n = 3) ∧ (¬ n < 67824 → 3 + 1 ≤ szN n) := by
  revert h1; unfold szN; repeat' split
  all_goals omega
theorem sz_lt4 (n : Nat) (hn : n < 18446744073709551616) (h1 : 4 ≤ szN n) : (n < 16777216 → szN n = 4) ∧ (¬ n < 16777216 → 4 + 1 ≤ szN n) := by
  revert h1; unfold szN; repeat' split
  all_goals omega
theorem sz_lt5 (n : Nat) (hn : n < 18446744073709551616) (h1 : 5 ≤ szN n) : (n < 4294967296 → szN n = 5) ∧ (¬ n < 4294967296 → 5 + 1 ≤ szN n) := by
  revert h1; unfold szN; repeat' split
  all_goals omega
theorem sz_lt6 (n : Nat) (hn : n < 18446744073709551616) (h1 : 6 ≤ szN n) : (n < 1099511627776 → szN n = 6) ∧ (¬ n < 1099511627776 → 6 + 1 ≤ szN n) := by
  revert h1; unfold szN; repeat' split
  all_goals omega
theorem sz_lt7 (n : Nat) (hn : n < 18446744073709551616) (h1 : 7 ≤ szN n) : (n < 281474976710656 → szN n = 7) ∧ (¬ n < 281474976710656 → 7 + 1 ≤ szN n) := by
  revert h1; unfold szN; repeat' split
  all_goals omega
theorem sz_lt8 (n : Nat) (hn : n < 18446744073709551616) (h1 : 8 ≤ szN n) : (n < 72057594037927936 → szN n = 8) ∧ (¬ n < 72057594037927936 → 8 + 1 ≤ szN n) := by
  revert h1; unfold szN; repeat' split
  all_goals omega
theorem sz_lt9 (n : Nat) (hn : n < 18446744073709551616) (h1 : 9 ≤ szN n) : (n < 18446744073709551616 → szN n = 9) ∧ (¬ n < 18446744073709551616 → 9 + 1 ≤ szN n) := by
  revert h1; unfold szN; repeat' split
  all_goals omega
set_option maxHeartbeats 2000000 in
theorem size_any (n : Nat) (w : World) (hn : n < 18446744073709551616) :
    Calls Tryd.prog 73 #[.int .u64 n] w fun e w' => e = .returned (.int .i64 (szN n)) ∧ Drw w w' := by
  go_enter Tryd.func73, Tryd.ntmps73
  go_wp2
  go_step3
  go_wp2
  go_step3
  go_wp2
  go_loopw [3] (fun i x => SizeRel n i ∧ Drw w x) (fun i _ => 9 - (intOf i).toNat)
  case atStart => exact ⟨⟨1, Nat.le_refl _, szN_pos n, rfl⟩, Drw.refl _⟩
  case round =>
    obtain ⟨⟨j, h1, h2, rfl⟩, hw⟩ := hrel
    have HW := Lib.hid hw; clear hw
    have h9 := szN_le n
    obtain rfl | rfl | rfl | rfl | rfl | rfl | rfl | rfl | rfl : j = 1 ∨ j = 2 ∨ j = 3 ∨ j = 4 ∨ j = 5 ∨ j = 6 ∨ j = 7 ∨ j = 8 ∨ j = 9 := by omega
    · have hz := Lib.hid (sz_lt1 n hn h2)
      by_cases hlt : n < 241
      · have i1 : (n : Int) < 241 := by omega
        clear h2 h9
        go_wp2
        try rw [Exit.noGoto_ret]
        go_ret
        exact ⟨ret_int (by rw [hz.out.1 hlt]), HW.out⟩
      · have i1 : ¬ (n : Int) < 241 := by omega
        clear h9
        go_wp2
        go_roundw
        case rel => exact ⟨⟨2, by omega, hz.out.2 hlt, rfl⟩, HW.out⟩
        case measure => simp [intOf]
    · have hz := Lib.hid (sz_lt2 n hn h2)
      by_cases hlt : n < 2288
      · have i1 : (n : Int) < 2288 := by omega
        clear h2 h9
        go_wp2
        try rw [Exit.noGoto_ret]
        go_ret
        exact ⟨ret_int (by rw [hz.out.1 hlt]), HW.out⟩
      · have i1 : ¬ (n : Int) < 2288 := by omega
        clear h9
        go_wp2
        go_roundw
        case rel => exact ⟨⟨3, by omega, hz.out.2 hlt, rfl⟩, HW.out⟩
        case measure => simp [intOf]
    · have hz := Lib.hid (sz_lt3 n hn h2)
      by_cases hlt : n < 67824
      · have i1 : (n : Int) < 67824 := by omega
        clear h2 h9
        go_wp2
        try rw [Exit.noGoto_ret]
        go_ret
        exact ⟨ret_int (by rw [hz.out.1 hlt]), HW.out⟩
      · have i1 : ¬ (n : Int) < 67824 := by omega
        clear h9
        go_wp2
        go_roundw
        case rel => exact ⟨⟨4, by omega, hz.out.2 hlt, rfl⟩, HW.out⟩
        case measure => simp [intOf]
    · have hz := Lib.hid (sz_lt4 n hn h2)
      by_cases hlt : n < 16777216
      · have i1 : (n : Int) / 16777216 = 0 := by omega
        clear h2 h9
        go_wp2
        try rw [Exit.noGoto_ret]
        go_ret
        exact ⟨ret_int (by rw [hz.out.1 hlt]), HW.out⟩
      · have i1 : ¬ (n : Int) / 16777216 = 0 := by omega
        clear h9
        go_wp2
        go_roundw
        case rel => exact ⟨⟨5, by omega, hz.out.2 hlt, rfl⟩, HW.out⟩
        case measure => simp [intOf]
    · have hz := Lib.hid (sz_lt5 n hn h2)
      by_cases hlt : n < 4294967296
      · have i1 : (n : Int) / 4294967296 = 0 := by omega
        clear h2 h9
        go_wp2
        try rw [Exit.noGoto_ret]
        go_ret
        exact ⟨ret_int (by rw [hz.out.1 hlt]), HW.out⟩
      · have i1 : ¬ (n : Int) / 4294967296 = 0 := by omega
        clear h9
        go_wp2
        go_roundw
        case rel => exact ⟨⟨6, by omega, hz.out.2 hlt, rfl⟩, HW.out⟩
        case measure => simp [intOf]
    · have hz := Lib.hid (sz_lt6 n hn h2)
      by_cases hlt : n < 1099511627776
      · have i1 : (n : Int) / 1099511627776 = 0 := by omega
        clear h2 h9
        go_wp2
        try rw [Exit.noGoto_ret]
        go_ret
        exact ⟨ret_int (by rw [hz.out.1 hlt]), HW.out⟩
      · have i1 : ¬ (n : Int) / 1099511627776 = 0 := by omega
        clear h9
        go_wp2
        go_roundw
        case rel => exact ⟨⟨7, by omega, hz.out.2 hlt, rfl⟩, HW.out⟩
        case measure => simp [intOf]
    · have hz := Lib.hid (sz_lt7 n hn h2)
      by_cases hlt : n < 281474976710656
      · have i1 : (n : Int) / 281474976710656 = 0 := by omega
        clear h2 h9
        go_wp2
        try rw [Exit.noGoto_ret]
        go_ret
        exact ⟨ret_int (by rw [hz.out.1 hlt]), HW.out⟩
      · have i1 : ¬ (n : Int) / 281474976710656 = 0 := by omega
        clear h9
        go_wp2
        go_roundw
        case rel => exact ⟨⟨8, by omega, hz.out.2 hlt, rfl⟩, HW.out⟩
        case measure => simp [intOf]
    · have hz := Lib.hid (sz_lt8 n hn h2)
      by_cases hlt : n < 72057594037927936
      · have i1 : (n : Int) / 72057594037927936 = 0 := by omega
        clear h2 h9
        go_wp2
        try rw [Exit.noGoto_ret]
        go_ret
        exact ⟨ret_int (by rw [hz.out.1 hlt]), HW.out⟩
      · have i1 : ¬ (n : Int) / 72057594037927936 = 0 := by omega
        clear h9
        go_wp2
        go_roundw
        case rel => exact ⟨⟨9, by omega, hz.out.2 hlt, rfl⟩, HW.out⟩
        case measure => simp [intOf]
    · have hz := Lib.hid (sz_lt9 n hn h2)
      have hlt : n < 18446744073709551616 := by omega
      have i1 : (n : Int) / 18446744073709551616 = 0 := by omega
      clear h2 h9
      go_wp2
      try rw [Exit.noGoto_ret]
      go_ret
      exact ⟨ret_int (by rw [hz.out.1 hlt]), HW.out⟩
end Go.Proofs.YtbalkchphijehaaDoor
/- varint.Put and moultref3.Put: one number's bytes. -/
set_option maxRecDepth 20000
namespace Go.Proofs.YtbalkchphijehaaDoor
open Go.RowKit Go.Deep

theorem putL_one (n : Nat) (h : n < 241) : putL n = bigL n 1 := by unfold putL; rw [if_pos h]
theorem putL_two (n : Nat) (h : ¬ n < 241) (h2 : n < 2288) : putL n = bigL (61456 + n) 2 := by unfold putL; rw [if_neg h, if_pos h2]
theorem putL_three (n : Nat) (h : ¬ n < 2288) (h2 : n < 67824) : putL n = bigL (16316176 + n) 3 := by unfold putL; rw [if_neg (by omega), if_neg h, if_pos h2]
theorem putL_more (n : Nat) (h : ¬ n < 67824) : putL n = bigL (246 + szN n) 1 ++ bigL n (szN n - 1) := by
  unfold putL; rw [if_neg (by omega), if_neg (by omega), if_neg h]
  have := szN_le n
  simp only [bigL, List.nil_append, List.singleton_append]
  rw [Nat.mod_eq_of_lt (by omega)]
theorem sz_cases (n : Nat) : (n < 241 → szN n = 1) ∧ (¬ n < 241 → n < 2288 → szN n = 2) ∧ (¬ n < 2288 → n < 67824 → szN n = 3) ∧ (¬ n < 67824 → 4 ≤ szN n) := by
  unfold szN; (repeat' split) <;> omega

theorem ba_append3 (a b : List UInt8) : (⟨a.toArray⟩ ++ ⟨b.toArray⟩ : ByteArray) = ⟨(a ++ b).toArray⟩ := by apply ByteArray.ext; simp
theorem big_at3 (x y : Int) (n sz : Nat) (w : World) (hx : x = n) (hy : y = sz) (hs : sz ≤ 9) :
    Calls Tryd.prog 74 #[.int .u64 x, .int .i64 y] w fun e w' => e = .returned (.string ⟨(bigL n sz).toArray⟩) ∧ Bel w w' := by
  subst hx hy; exact big_any3 n sz w hs
theorem u64_in (x : Int) (h : 0 ≤ x) (h' : x < 18446744073709551616) : IntKind.u64.wrap x = x := by rw [wrap_u643]; omega

set_option maxHeartbeats 2000000 in
theorem put_any3 (n : Nat) (w : World) (hn : n < 18446744073709551616) :
    Calls Tryd.prog 57 #[.int .u64 n] w fun e w' => e = .returned (.string ⟨(putL n).toArray⟩) ∧ Bel w w' := by
  have h9 := szN_le n
  obtain ⟨z1, z2, z3, z4⟩ := sz_cases n
  go_enter Tryd.func57, Tryd.ntmps57
  go_wp2_with (fail)
  refine (size_any n w hn).mono ?_
  rintro e w1 ⟨rfl, hw1⟩
  have HW := Lib.hid hw1.bel; clear hw1
  by_cases h1 : n < 241
  · rw [z1 h1]
    clear z1 z2 z3 z4 h9
    go_wp2_with (fail)
    refine (big_any3 n 1 w1 (by omega)).mono ?_
    rintro e w2 ⟨rfl, hb⟩
    go_wp2_with (fail)
    go_ret
    exact ⟨ret_string (by rw [putL_one n h1]), HW.out.trans hb⟩
  by_cases h2 : n < 2288
  · rw [z2 h1 h2]
    clear z1 z2 z3 z4 h9
    go_wp2_with (fail)
    refine (big_at3 _ _ (61456 + n) 2 w1 (by omega) (by rfl) (by omega)).mono ?_
    rintro e w2 ⟨rfl, hb⟩
    go_wp2_with (fail)
    go_ret
    exact ⟨ret_string (by rw [putL_two n h1 h2]), HW.out.trans hb⟩
  by_cases h3 : n < 67824
  · rw [z3 h2 h3]
    clear z1 z2 z3 z4 h9
    go_wp2_with (fail)
    refine (big_at3 _ _ (16316176 + n) 3 w1 (by omega) (by rfl) (by omega)).mono ?_
    rintro e w2 ⟨rfl, hb⟩
    go_wp2_with (fail)
    go_ret
    exact ⟨ret_string (by rw [putL_three n h2 h3]), HW.out.trans hb⟩
  · have hz := z4 h3
    clear z1 z2 z3 z4
    have i1 : ¬ (szN n : Int) = 1 := by omega
    have i2 : ¬ (szN n : Int) = 2 := by omega
    have i3 : ¬ (szN n : Int) = 3 := by omega
    have ew : IntKind.u64.wrap (247 + (szN n : Int) - 1) = 247 + (szN n : Int) - 1 := u64_in _ (by omega) (by omega)
    go_wp2_with (fail)
    refine (big_at3 _ _ (246 + szN n) 1 w1 (by first | omega | (rw [ew]; omega)) (by rfl) (by omega)).mono ?_
    rintro e w2 ⟨rfl, hb⟩
    have HB := Lib.hid hb; clear hb
    go_wp2_with (fail)
    refine (big_at3 _ _ n (szN n - 1) w2 (by first | rfl | omega) (by omega) (by omega)).mono ?_
    rintro e w3 ⟨rfl, hb2⟩
    have hl1 := bigL_len 1 (246 + szN n)
    have hl2 := bigL_len (szN n - 1) n
    go_wp2_with (fail)
    go_ret
    exact ⟨ret_string (by rw [putL_more n h3, ba_append3]), (HW.out.trans HB.out).trans hb2⟩
end Go.Proofs.YtbalkchphijehaaDoor
/- varint.sizeBehind, varint.number: what so many bytes tell. -/
set_option maxRecDepth 20000
namespace Go.Proofs.YtbalkchphijehaaDoor
open Go.RowKit Go.Deep

theorem behind_nat (m k : Nat) (w : World) (hb : (m : Int) < 256) (hk : Hid (k = if m < 241 then 1 else if m < 249 then 2 else if m = 249 then 3 else m - 246)) :
    Calls Tryd.prog 77 #[.int .u8 m] w fun e w' => e = .returned (.int .i64 k) ∧ Drw w w' := by
  by_cases h1 : (m : Int) < 241
  · go_enter Tryd.func77, Tryd.ntmps77
    go_wp2
    go_ret
    exact ⟨ret_int (by rw [hk.out, if_pos (by omega)]; rfl), Drw.refl w⟩
  by_cases h2 : (m : Int) < 249
  · go_enter Tryd.func77, Tryd.ntmps77
    go_wp2
    go_ret
    exact ⟨ret_int (by rw [hk.out, if_neg (by omega), if_pos (by omega)]; rfl), Drw.refl w⟩
  by_cases h3 : (m : Int) = 249
  · go_enter Tryd.func77, Tryd.ntmps77
    go_wp2
    go_ret
    exact ⟨ret_int (by rw [hk.out, if_neg (by omega), if_neg (by omega), if_pos (by omega)]; rfl), Drw.refl w⟩
  · have h0 := Lib.hid (show 250 ≤ (m : Int) by omega)
    have v1 : IntKind.i64.wrap (m : Int) = m := IntWalk.i64_in _ (by omega)
    have v2 : IntKind.i64.wrap ((m : Int) - 247) = (m : Int) - 247 := IntWalk.i64_in _ (by omega)
    have v3 : IntKind.i64.wrap ((m : Int) - 247 + 1) = (m : Int) - 247 + 1 := IntWalk.i64_in _ (by omega)
    have h4 : ((m : Int) == 249) = false := by simpa using h3
    have h5 := Lib.hid (show ¬ m = 249 by omega)
    clear hb h3
    set_option maxRecDepth 20000 in
    go_enter Tryd.func77, Tryd.ntmps77
    go_wp2
    go_ret
    exact ⟨ret_int (by rw [hk.out, if_neg (by omega), if_neg (by omega), if_neg h5.out]; have := h0.out; omega), Drw.refl w⟩
theorem behind_any (b : UInt8) (w : World) :
    Calls Tryd.prog 77 #[.int .u8 b.toNat] w fun e w' => e = .returned (.int .i64 (kOf b)) ∧ Drw w w' := by
  exact behind_nat b.toNat (kOf b) w (by have := b.toNat_lt; omega) (Lib.hid rfl)

theorem sum_small (s : ByteArray) (w : World) (hs : s.size ≤ 8) :
    Calls Tryd.prog 84 #[.string s] w fun e w' => e = .returned (.int .u64 ((sumL s.data.toList : Nat) : Int)) ∧ Drw w w' := by
  refine (sum_any3 s w (by unfold maxLen; omega)).mono ?_
  rintro e w1 ⟨rfl, hw⟩
  refine ⟨ret_int ?_, hw⟩
  have h := sumL_lt s.data.toList
  have h2 : (256 : Nat) ^ s.data.toList.length ≤ 256 ^ 8 := Nat.pow_le_pow_right (by omega) hs
  have e8 : (256 : Nat) ^ 8 = 18446744073709551616 := by decide
  rw [Nat.mod_eq_of_lt (by omega)]

theorem sum_at3 (s : ByteArray) (m : Nat) (w : World) (hs : s.size ≤ 8) (h : m = sumL s.data.toList) :
    Calls Tryd.prog 84 #[.string s] w fun e w' => e = .returned (.int .u64 ((m : Nat) : Int)) ∧ Drw w w' := by
  rw [h]; exact sum_small s w hs
theorem head_at (s : ByteArray) (h0 : 0 < s.size) : s.data.toList = s[0] :: s.data.toList.drop 1 := by
  exact List.drop_eq_getElem_cons (i := 0) (l := s.data.toList) (by simpa using h0)
theorem ext_tail (s : ByteArray) : (s.extract 1 s.size).data.toList = s.data.toList.drop 1 := by
  rw [Lib.extract_data, List.take_of_length_le]
  simp

set_option maxHeartbeats 1000000 in
theorem number_any3 (s : ByteArray) (w : World) (h0 : 0 < s.size) (hk : s.size = kOf s[0]) :
    Calls Tryd.prog 78 #[.string s] w fun e w' => e = .returned (.int .u64 ((valL s.data.toList : Nat) : Int)) ∧ Drw w w' := by
  have h9 := kOf_le s[0]
  have hl : s.data.toList.length = s.size := rfl
  have hh := head_at s h0
  have hlt := sumL_lt s.data.toList
  have hlt2 := sumL_lt (s.data.toList.drop 1)
  rw [List.length_drop, hl] at hlt2
  rw [hl] at hlt
  have hT := Lib.hid (ext_tail s)
  have hz2 : (s.extract 1 s.size).size = s.size - 1 := by simp [ByteArray.size_extract]
  unfold valL
  rw [hl]
  have h8 : s.size ≤ 9 := by omega
  by_cases c1 : s.size = 1
  · rw [if_pos c1]
    clear hT hz2 hlt hlt2 hh hk h9 hl
    go_enter Tryd.func78, Tryd.ntmps78
    go_wp2_with (fail)
    refine (sum_small s w (by omega)).mono ?_
    rintro e w1 ⟨rfl, hw⟩
    go_wp2_with (fail)
    go_ret
    exact ⟨rfl, hw⟩
  by_cases c2 : s.size = 2
  · rw [if_neg c1, if_pos c2]
    have hb : 61696 ≤ sumL s.data.toList ∧ sumL s.data.toList < 65536 := by
      rw [c2] at hlt hk
      refine ⟨?_, hlt⟩
      rw [hh, sumL_cons, List.length_drop, hl, c2]
      have : 241 ≤ s[0].toNat := by unfold kOf at hk; revert hk; (repeat' split) <;> omega
      have := s[0].toNat_lt
      omega
    clear hT hz2 hlt hlt2 hh hk h9 hl
    obtain ⟨m, hm⟩ : ∃ m, m = sumL s.data.toList := ⟨_, rfl⟩
    rw [← hm] at hb ⊢
    have HM := Lib.hid hm; clear hm
    obtain ⟨hb1, hb2⟩ := hb
    go_enter Tryd.func78, Tryd.ntmps78
    go_wp2_with (fail)
    refine (sum_at3 s m w (by omega) HM.out).mono ?_
    rintro e w1 ⟨rfl, hw⟩
    have HW := Lib.hid hw; clear hw
    go_wp2_with (fail)
    go_ret
    exact ⟨ret_int (by omega), HW.out⟩
  by_cases c3 : s.size = 3
  · rw [if_neg c1, if_neg c2, if_pos c3]
    rw [c3] at hlt2
    rw [c3] at hT hz2
    have hb : sumL (s.data.toList.drop 1) < 65536 := hlt2
    clear hlt hlt2 hh hk h9 hl
    obtain ⟨m, hm⟩ : ∃ m, m = sumL (s.data.toList.drop 1) := ⟨_, rfl⟩
    rw [← hm] at hb ⊢
    rw [← hT.out] at hm
    have HM := Lib.hid hm; clear hm hT
    go_enter Tryd.func78, Tryd.ntmps78
    go_wp2_with (fail)
    refine (sum_at3 (s.extract 1 3) m w (by omega) HM.out).mono ?_
    rintro e w1 ⟨rfl, hw⟩
    have HW := Lib.hid hw; clear hw
    go_wp2_with (fail)
    go_ret
    exact ⟨ret_int (by omega), HW.out⟩
  · rw [if_neg c1, if_neg c2, if_neg c3]
    have i1 : ¬ (s.size : Int) = 1 := by omega
    have i2 : ¬ (s.size : Int) = 2 := by omega
    have i3 : ¬ (s.size : Int) = 3 := by omega
    clear hlt hlt2 hh hl hk h9
    obtain ⟨m, hm⟩ : ∃ m, m = sumL (s.data.toList.drop 1) := ⟨_, rfl⟩
    rw [← hm]
    rw [← hT.out] at hm
    have HM := Lib.hid hm; clear hm hT
    go_enter Tryd.func78, Tryd.ntmps78
    go_wp2_with (fail)
    refine (sum_at3 (s.extract 1 s.size) m w (by omega) HM.out).mono ?_
    rintro e w1 ⟨rfl, hw⟩
    have HW := Lib.hid hw; clear hw
    go_wp2_with (fail)
    go_ret
    exact ⟨rfl, HW.out⟩
end Go.Proofs.YtbalkchphijehaaDoor
/- varint.Take: the number with which some bytes begin. -/
set_option maxRecDepth 20000
namespace Go.Proofs.YtbalkchphijehaaDoor
open Go.RowKit Go.Deep

theorem ext_data3 (s : ByteArray) (i j : Nat) : (s.extract i j).data.toList = (s.data.toList.take j).drop i := by
  simp [ByteArray.data_extract, List.extract_eq_take_drop, List.drop_take]
theorem ba_list3 (s : ByteArray) : (⟨s.data.toList.toArray⟩ : ByteArray) = s := by apply ByteArray.ext; simp
def takeV3 (l : List UInt8) : Value := .tuple #[.int .u64 ((takeL l).1 : Nat), .string ⟨(takeL l).2.1.toArray⟩, .bool (takeL l).2.2]
theorem takeL_short (s : ByteArray) (h0 : 0 < s.size) (k : Nat) (hk : k = kOf s[0]) (h : s.size < k) : takeL s.data.toList = (0, [], false) := by
  rw [head_at s h0, takeL_cons, ← head_at s h0, ← hk, if_pos (by exact h)]
theorem takeL_long (s : ByteArray) (h0 : 0 < s.size) (k : Nat) (hk : k = kOf s[0]) (h : ¬ s.size < k) :
    takeL s.data.toList = if putL (valL (s.extract 0 k).data.toList) = (s.extract 0 k).data.toList then (valL (s.extract 0 k).data.toList, (s.extract k s.size).data.toList, true) else (0, [], false) := by
  have e1 : (s.extract 0 k).data.toList = s.data.toList.take k := by rw [ext_data3, List.drop_zero]
  have e2 : (s.extract k s.size).data.toList = s.data.toList.drop k := by rw [ext_data3, List.take_of_length_le (by exact Nat.le_refl _)]
  rw [e1, e2]
  have hh := head_at s h0
  conv => lhs; rw [hh, takeL_cons, ← hh, ← hk, if_neg (by exact h)]
theorem ext_head (s : ByteArray) (h0 : 0 < s.size) (k : Nat) (h1 : 1 ≤ k) (h : k ≤ s.size) : ∃ h' : 0 < (s.extract 0 k).size, (s.extract 0 k)[0] = s[0] ∧ (s.extract 0 k).size = k := by
  have hz : (s.extract 0 k).size = k := by simp [ByteArray.size_extract]; omega
  refine ⟨by omega, ?_, hz⟩
  have e := head_at (s.extract 0 k) (by omega)
  have e1 : (s.extract 0 k).data.toList = s.data.toList.take k := by rw [ext_data3, List.drop_zero]
  rw [head_at s h0] at e1
  obtain ⟨j, rfl⟩ : ∃ j, k = j + 1 := ⟨k - 1, by omega⟩
  rw [List.take_succ_cons] at e1
  exact (List.cons.inj (e.symm.trans e1)).1

set_option maxHeartbeats 2000000 in
theorem take_any3 (s : ByteArray) (w : World) (hs : s.size ≤ 1000000) :
    Calls Tryd.prog 62 #[.string s] w fun e w' => e = .returned (takeV3 s.data.toList) ∧ Bel w w' := by
  by_cases h0 : s.size = 0
  · obtain rfl : s = ⟨#[]⟩ := by apply ByteArray.ext; exact Array.eq_empty_of_size_eq_zero h0
    go_enter Tryd.func62, Tryd.ntmps62
    go_wp2_with (fail)
    go_ret3
    exact ⟨rfl, Bel.refl w⟩
  have h0' : 0 < s.size := by omega
  obtain ⟨k, hk⟩ : ∃ k, k = kOf s[0] := ⟨_, rfl⟩
  have hk1 := kOf_pos s[0]
  have hk9 := kOf_le s[0]
  rw [← hk] at hk1 hk9
  have hK := Lib.hid hk
  have hne : s.toList.isEmpty = false := by
    rw [ByteArray.toList_eq, head_at s h0']; rfl
  by_cases hl : s.size < k
  · have hT := Lib.hid (takeL_short s h0' k hk hl)
    clear hk
    go_enter Tryd.func62, Tryd.ntmps62
    go_wp2_with (fail)
    refine (behind_any s[0] w).mono ?_
    rintro e w1 ⟨rfl, hw1⟩
    have HW := Lib.hid hw1.bel; clear hw1
    rw [← hK.out]
    go_wp2_with (fail)
    go_ret3
    exact ⟨by rw [takeV3, hT.out]; rfl, HW.out⟩
  · have hT := Lib.hid (takeL_long s h0' k hk hl)
    obtain ⟨hp, hp0, hpz⟩ := ext_head s h0' k hk1 (by omega)
    have HP0 := Lib.hid hp0
    have hlt : valL (s.extract 0 k).data.toList < 18446744073709551616 := by
      rw [head_at _ hp]
      exact valL_lt _ _ (by rw [← head_at _ hp, hp0, ← hk]; exact hpz)
    clear hk hp0
    go_enter Tryd.func62, Tryd.ntmps62
    go_wp2_with (fail)
    refine (behind_any s[0] w).mono ?_
    rintro e w1 ⟨rfl, hw1⟩
    have HW := Lib.hid hw1.bel; clear hw1
    rw [← hK.out]
    go_wp2_with (fail)
    refine (number_any3 (s.extract 0 k) w1 hp (by rw [HP0.out, ← hK.out]; exact hpz)).mono ?_
    rintro e w2 ⟨rfl, hw2⟩
    have HW2 := Lib.hid (HW.out.trans hw2.bel); clear hw2
    by_cases he : putL (valL (s.extract 0 k).data.toList) = (s.extract 0 k).data.toList
    · have hT' := Lib.hid (hT.out.trans (if_pos he))
      have hE := Lib.hid he; clear he
      generalize valL (s.extract 0 k).data.toList = m at *
      go_wp2_with (fail)
      go_region_with (go_at_call 57; refine (put_any3 m _ hlt).mono ?_; rintro e w3 ⟨rfl, hb⟩; have HB := Lib.hid hb; clear hb; rw [hE.out, ba_list3])
      all_goals go_wp2_with (fail)
      all_goals go_quiet (fail)
      all_goals go_wp2_with (fail)
      all_goals go_ret3
      all_goals refine ⟨by rw [takeV3, hT'.out, ba_list3]; rfl, ?_⟩
      all_goals exact ((HW2.out.drew.trans HB.out).drewN _)
    · have hT' := Lib.hid (hT.out.trans (if_neg he))
      have hE : (putL (valL (s.extract 0 k).data.toList) == (s.extract 0 k).toList) = false := by
        rw [ByteArray.toList_eq, beq_eq_false_iff_ne]; exact he
      clear he
      generalize valL (s.extract 0 k).data.toList = m at *
      go_wp2_with (fail)
      go_region_with (go_at_call 57; refine (put_any3 m _ hlt).mono ?_; rintro e w3 ⟨rfl, hb⟩; have HB := Lib.hid hb; clear hb)
      all_goals go_wp2_with (fail)
      all_goals go_ret3
      all_goals refine ⟨by rw [takeV3, hT'.out]; rfl, ?_⟩
      all_goals exact HW2.out.drew.trans HB.out
end Go.Proofs.YtbalkchphijehaaDoor
/- schema.isLetter, isWithin, Name. -/
set_option maxRecDepth 20000
namespace Go.Proofs.YtbalkchphijehaaDoor
open Go.RowKit Go.Deep

set_option maxHeartbeats 1000000 in
theorem letter14_any (c : UInt8) (w : World) : Calls Tryd.prog 33 #[.int .u8 c.toNat] w fun e w' => e = .returned (.bool (letB c)) ∧ w' = w := by
  have hb := c.toNat_lt
  obtain ⟨m, hm⟩ : ∃ m, m = c.toNat := ⟨_, rfl⟩
  have HL := Lib.hid (show letB c = (decide (97 ≤ m) && decide (m ≤ 122)) by rw [hm]; rfl)
  rw [← hm] at hb ⊢
  clear hm
  by_cases h1 : 97 ≤ m
  · have f1 : (97 : Int) ≤ (m : Int) := by omega
    by_cases h2 : m ≤ 122
    · have f2 : (m : Int) ≤ 122 := by omega
      have HR := Lib.hid (show letB c = true by rw [HL.out, decide_eq_true h1, decide_eq_true h2]; rfl)
      clear h1 h2
      go_enter Tryd.func33, Tryd.ntmps33
      go_wp2
      go_ret
      exact ⟨ret_bool HR.out.symm, rfl⟩
    · have f2 : ¬ (m : Int) ≤ 122 := by omega
      have HR := Lib.hid (show letB c = false by rw [HL.out, decide_eq_false h2]; simp)
      clear h1 h2
      go_enter Tryd.func33, Tryd.ntmps33
      go_wp2
      go_ret
      exact ⟨ret_bool HR.out.symm, rfl⟩
  · have f1 : ¬ (97 : Int) ≤ (m : Int) := by omega
    have HR := Lib.hid (show letB c = false by rw [HL.out, decide_eq_false h1]; simp)
    clear h1
    go_enter Tryd.func33, Tryd.ntmps33
    go_wp2
    go_ret
    exact ⟨ret_bool HR.out.symm, rfl⟩
def witB (n a b : Int) : Bool := decide (a ≤ n) && decide (n ≤ b)
set_option maxHeartbeats 1000000 in
theorem within14_any (n a b : Int) (w : World) : Calls Tryd.prog 34 #[.int .i64 n, .int .i64 a, .int .i64 b] w fun e w' => e = .returned (.bool (witB n a b)) ∧ w' = w := by
  by_cases h1 : a ≤ n
  · by_cases h2 : n ≤ b
    · have HR := Lib.hid (show witB n a b = true by unfold witB; rw [decide_eq_true h1, decide_eq_true h2]; rfl)
      go_enter Tryd.func34, Tryd.ntmps34
      go_wp2
      go_ret
      exact ⟨ret_bool HR.out.symm, rfl⟩
    · have HR := Lib.hid (show witB n a b = false by unfold witB; rw [decide_eq_false h2]; simp)
      go_enter Tryd.func34, Tryd.ntmps34
      go_wp2
      go_ret
      exact ⟨ret_bool HR.out.symm, rfl⟩
  · have HR := Lib.hid (show witB n a b = false by unfold witB; rw [decide_eq_false h1]; simp)
    go_enter Tryd.func34, Tryd.ntmps34
    go_wp2
    go_ret
    exact ⟨ret_bool HR.out.symm, rfl⟩
def okN (c : UInt8) : Bool := letB c || othB c
theorem name_head {c : UInt8} {l : List UInt8} (h : letB c = true) (hl : (c :: l).length ≤ 24) : nameL (c :: l) = (c :: l).all okN := by
  have e : decide (l.length ≤ 23) = true := decide_eq_true (by simp only [List.length_cons] at hl; omega)
  rw [nameL, h, e, List.all_cons]
  unfold okN
  rw [h, Bool.and_true, Bool.true_or]
  rfl
theorem name_long {l : List UInt8} (h : ¬ l.length ≤ 24) : nameL l = false := by
  cases l with
  | nil => rfl
  | cons c l =>
    have e : decide (l.length ≤ 23) = false := decide_eq_false (by simp only [List.length_cons] at h; omega)
    rw [nameL, e, Bool.and_false]
theorem name_first {l : List UInt8} (h0 : 0 < l.length) (h : letB l[0] = false) : nameL l = false := by
  cases l with
  | nil => simp at h0
  | cons c l => rw [nameL, show letB c = false from h]; rfl
theorem name_ok {l : List UInt8} (h0 : 0 < l.length) (h : letB l[0] = true) (hl : l.length ≤ 24) : nameL l = l.all okN := by
  cases l with
  | nil => simp at h0
  | cons c l => exact name_head h hl
theorem ok_step {l : List UInt8} {i : Nat} (h : i < l.length) : (l.drop i).all okN = (okN l[i] && (l.drop (i + 1)).all okN) := by
  rw [List.drop_eq_getElem_cons h, List.all_cons]
def PNmRel (s : ByteArray) (w : World) (i : Value) (x : World) : Prop := ∃ k : Nat, i = .int .i64 k ∧ k ≤ s.size ∧ nameL s.data.toList = (s.data.toList.drop k).all okN ∧ Drw w x
set_option maxHeartbeats 8000000 in
theorem pname14_any (s : ByteArray) (w : World) (hs : s.size ≤ maxLen) :
    Calls Tryd.prog 15 #[.string s] w fun e w' => e = .returned (.bool (nameL s.data.toList)) ∧ Drw w w' := by
  unfold maxLen at hs
  have hsl : s.data.toList.length = s.size := rfl
  have HL := Lib.hid hsl
  clear hsl
  by_cases h0 : s.size = 0
  · obtain rfl : s = ⟨#[]⟩ := by apply ByteArray.ext; exact Array.eq_empty_of_size_eq_zero h0
    go_enter Tryd.func15, Tryd.ntmps15
    go_wp2_with (fail)
    go_ret
    exact ⟨rfl, Drw.refl w⟩
  · have hne : s.toList.isEmpty = false := by
      rw [ByteArray.toList_eq]
      cases h : s.data.toList with
      | nil => exfalso; have := HL.out; rw [h] at this; simp at this; omega
      | cons a l => rfl
    by_cases hl : s.size ≤ 24
    · have hl1 : ¬ (24 : Int) < (s.size : Int) := by omega
      have hpos : 0 < s.size := by omega
      have hpi : (0 : Int) < (s.size : Int) := by omega
      obtain ⟨c0, hc0⟩ : ∃ c : UInt8, c = s[0] := ⟨_, rfl⟩
      have hg0 : (s[0] : UInt8) = c0 := hc0.symm
      have H1 := Lib.hid (show letB c0 = false → nameL s.data.toList = false from fun h => name_first (by rw [HL.out]; exact hpos) (by rw [hc0] at h; exact h))
      have H2 := Lib.hid (show letB c0 = true → nameL s.data.toList = s.data.toList.all okN from fun h => name_ok (by rw [HL.out]; exact hpos) (by rw [hc0] at h; exact h) (by rw [HL.out]; exact hl))
      clear h0 hc0
      go_enter Tryd.func15, Tryd.ntmps15
      go_wp2_with (fail)
      refine (letter14_any c0 _).mono ?_
      rintro e x ⟨rfl, rfl⟩
      cases hc : letB c0 with
      | false =>
        have HR := Lib.hid (H1.out hc)
        clear hc
        go_wp2_with (fail)
        go_ret
        exact ⟨ret_bool HR.out.symm, Drw.refl _⟩
      | true =>
        have HN := Lib.hid (H2.out hc)
        clear hc H1 H2
        go_wp2_with (fail)
        go_loopw [20] (fun i y => PNmRel s x i y) (fun i _ => s.size - (intOf i).toNat)
        case atStart => exact ⟨0, rfl, Nat.zero_le _, HN.out, Drw.refl _⟩
        case round =>
          obtain ⟨k, rfl, hk, hnm, hw⟩ := hrel
          have HW := Lib.hid hw; clear hw
          have HNM := Lib.hid hnm; clear hnm
          by_cases hlt : k < s.size
          · have hii : (k : Int) < (s.size : Int) := by omega
            have HS := Lib.hid (ok_step (l := s.data.toList) (i := k) hlt)
            have hb := s[k].toNat_lt
            obtain ⟨c, hc⟩ : ∃ c : UInt8, c = s[k] := ⟨_, rfl⟩
            have HC := Lib.hid (show s.data.toList[k]'hlt = c from hc.symm)
            have HOK := Lib.hid (show (letB c || othB c) = true → nameL s.data.toList = (s.data.toList.drop (k + 1)).all okN from fun h => by
              rw [HNM.out, HS.out, HC.out, show okN c = true from h, Bool.true_and])
            have HNO := Lib.hid (show (letB c || othB c) = false → nameL s.data.toList = false from fun h => by
              rw [HNM.out, HS.out, HC.out, show okN c = false from h, Bool.false_and])
            rw [← hc] at hb
            have hgc : (s[k] : UInt8) = c := hc.symm
            clear hc HS HC
            go_wp2_with (fail)
            refine (letter14_any c _).mono ?_
            rintro e y ⟨rfl, rfl⟩
            cases hlc : letB c with
            | true =>
              have HR := Lib.hid (HOK.out (by rw [hlc]; rfl))
              clear hlc
              go_wp2_with (fail)
              go_roundw
              case rel => exact ⟨k + 1, by go_num, hlt, HR.out, HW.out⟩
              case measure => simp [intOf]; omega
            | false =>
              rcases (show (c.toNat < 48) ∨ (48 ≤ c.toNat ∧ c.toNat ≤ 57) ∨ (57 < c.toNat ∧ c.toNat ≠ 95) ∨ (c.toNat = 95) by omega) with hi | hi | hi | hi
              · have f1 : (c.toNat : Int) < 48 := by omega
                have f2 : ¬ (57 : Int) < (c.toNat : Int) := by omega
                have f3 : ((c.toNat : Int) == 95) = false := by rw [beq_eq_false_iff_ne]; omega
                have f4 : ((c.toNat : Int) != 95) = true := by rw [bne_iff_ne]; omega
                have HR := Lib.hid (HNO.out (by rw [hlc]; unfold othB; simp only [decide_eq_true_eq, decide_eq_false_iff_not, Bool.false_or, Bool.or_eq_true, Bool.and_eq_true, Bool.or_eq_false_iff, Bool.and_eq_false_iff]; omega))
                clear hi hlc
                go_wp2_with (fail)
                go_ret
                exact ⟨ret_bool HR.out.symm, HW.out⟩
              · have f1 : ¬ (c.toNat : Int) < 48 := by omega
                have f2 : ¬ (57 : Int) < (c.toNat : Int) := by omega
                have f3 : ((c.toNat : Int) == 95) = false := by rw [beq_eq_false_iff_ne]; omega
                have f4 : ((c.toNat : Int) != 95) = true := by rw [bne_iff_ne]; omega
                have HR := Lib.hid (HOK.out (by rw [hlc]; unfold othB; simp only [decide_eq_true_eq, decide_eq_false_iff_not, Bool.false_or, Bool.or_eq_true, Bool.and_eq_true, Bool.or_eq_false_iff, Bool.and_eq_false_iff]; omega))
                clear hi hlc
                go_wp2_with (fail)
                go_roundw
                case rel => exact ⟨k + 1, by go_num, hlt, HR.out, HW.out⟩
                case measure => simp [intOf]; omega
              · have f1 : ¬ (c.toNat : Int) < 48 := by omega
                have f2 : (57 : Int) < (c.toNat : Int) := by omega
                have f3 : ((c.toNat : Int) == 95) = false := by rw [beq_eq_false_iff_ne]; omega
                have f4 : ((c.toNat : Int) != 95) = true := by rw [bne_iff_ne]; omega
                have HR := Lib.hid (HNO.out (by rw [hlc]; unfold othB; simp only [decide_eq_true_eq, decide_eq_false_iff_not, Bool.false_or, Bool.or_eq_true, Bool.and_eq_true, Bool.or_eq_false_iff, Bool.and_eq_false_iff]; omega))
                clear hi hlc
                go_wp2_with (fail)
                go_ret
                exact ⟨ret_bool HR.out.symm, HW.out⟩
              · have f1 : ¬ (c.toNat : Int) < 48 := by omega
                have f2 : (57 : Int) < (c.toNat : Int) := by omega
                have f3 : ((c.toNat : Int) == 95) = true := by rw [beq_iff_eq]; omega
                have f4 : ((c.toNat : Int) != 95) = false := by simp; omega
                have HR := Lib.hid (HOK.out (by rw [hlc]; unfold othB; simp only [decide_eq_true_eq, decide_eq_false_iff_not, Bool.false_or, Bool.or_eq_true, Bool.and_eq_true, Bool.or_eq_false_iff, Bool.and_eq_false_iff]; omega))
                clear hi hlc
                go_wp2_with (fail)
                go_roundw
                case rel => exact ⟨k + 1, by go_num, hlt, HR.out, HW.out⟩
                case measure => simp [intOf]; omega
          · have hii : ¬ (k : Int) < (s.size : Int) := by omega
            have HR := Lib.hid (show nameL s.data.toList = true by rw [HNM.out, List.drop_eq_nil_of_le (by rw [HL.out]; omega)]; rfl)
            go_wp2_with (fail)
            go_ret
            exact ⟨ret_bool HR.out.symm, HW.out⟩
    · have hl1 : (24 : Int) < (s.size : Int) := by omega
      have HR := Lib.hid (name_long (l := s.data.toList) (by rw [HL.out]; exact hl))
      clear h0
      go_enter Tryd.func15, Tryd.ntmps15
      go_wp2_with (fail)
      go_ret
      exact ⟨ret_bool HR.out.symm, Drw.refl w⟩
end Go.Proofs.YtbalkchphijehaaDoor
/- moultref3's bytes, count and Put: the document's answer for a number's bytes. -/
set_option maxRecDepth 20000
namespace Go.Proofs.YtbalkchphijehaaDoor
open Go.RowKit Go.Deep

end Go.Proofs.YtbalkchphijehaaDoor
/- moultref3.Take: the document's answer for what some bytes begin with. (written by genvrtake.py) -/
set_option maxRecDepth 20000
namespace Go.Proofs.YtbalkchphijehaaDoor
open Go.RowKit Go.Deep

end Go.Proofs.YtbalkchphijehaaDoor
/- moultref3.Take. -/
namespace Go.Proofs.YtbalkchphijehaaDoor
open Go.RowKit Go.Deep

end Go.Proofs.YtbalkchphijehaaDoor
