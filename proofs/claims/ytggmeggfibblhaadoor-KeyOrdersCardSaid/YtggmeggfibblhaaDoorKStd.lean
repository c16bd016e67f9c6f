/- The table of widths, a variable of the package, as the row lays it: what its cells hold, and what a load of it is. -/
import Derived.Test.YtggmeggfibblhaaDoorKBig
import Derived.Test.YtggmeggfibblhaaDoorKMath
set_option linter.unusedSimpArgs false
set_option linter.unusedVariables false
namespace Go.Proofs.YtggmeggfibblhaaDoor
open Go.RowKit Go.Deep

/-- The twelve cells of key.widths. -/
def tabW : List Value := [.int .i64 1, .int .i64 1, .int .u64 0, .int .i64 2, .int .i64 2, .int .u64 32768, .int .i64 3, .int .i64 4, .int .u64 2147483648, .int .i64 4, .int .i64 8, .int .u64 9223372036854775808]
def Std (w : World) : Prop := 0 < w.heap.size ∧ ∀ i (h : i < 12), w.cell? ⟨0, i, none⟩ = some (tabW[i]'h)
theorem Std.bel {w x : World} (h : Std w) (hb : Bel w x) : Std x := ⟨Nat.lt_of_lt_of_le h.1 hb.size, fun i hi => (hb.cell _ _ h.1).trans (h.2 i hi)⟩
theorem Std.cells {w : World} (h : Std w) :
    w.cell? ⟨0, 0, none⟩ = some (.int .i64 1) ∧ w.cell? ⟨0, 1, none⟩ = some (.int .i64 1) ∧ w.cell? ⟨0, 2, none⟩ = some (.int .u64 0) ∧
    w.cell? ⟨0, 3, none⟩ = some (.int .i64 2) ∧ w.cell? ⟨0, 4, none⟩ = some (.int .i64 2) ∧ w.cell? ⟨0, 5, none⟩ = some (.int .u64 32768) ∧
    w.cell? ⟨0, 6, none⟩ = some (.int .i64 3) ∧ w.cell? ⟨0, 7, none⟩ = some (.int .i64 4) ∧ w.cell? ⟨0, 8, none⟩ = some (.int .u64 2147483648) ∧
    w.cell? ⟨0, 9, none⟩ = some (.int .i64 4) ∧ w.cell? ⟨0, 10, none⟩ = some (.int .i64 8) ∧ w.cell? ⟨0, 11, none⟩ = some (.int .u64 9223372036854775808) :=
  ⟨h.2 0 (by decide), h.2 1 (by decide), h.2 2 (by decide), h.2 3 (by decide), h.2 4 (by decide), h.2 5 (by decide), h.2 6 (by decide), h.2 7 (by decide), h.2 8 (by decide), h.2 9 (by decide), h.2 10 (by decide), h.2 11 (by decide)⟩

theorem tabW_at (j : Nat) (h : j < 4) : ∀ i (hi : i < 3), tabW[j * 3 + i]? = ([.int .i64 (j + 1), .int .i64 (widK (j + 1)), .int .u64 (biasK (j + 1))] : List Value)[i]? := by
  intro i hi
  have e : j = 0 ∨ j = 1 ∨ j = 2 ∨ j = 3 := by omega
  have e' : i = 0 ∨ i = 1 ∨ i = 2 := by omega
  rcases e with rfl | rfl | rfl | rfl <;> rcases e' with rfl | rfl | rfl <;> rfl

/-- What number answers: the number that the bytes tell, and what is behind them. -/
def numV (k : Int) (s : ByteArray) : Value :=
  if s.size < widK k then .tuple #[.int .i64 0, .string ⟨#[]⟩, .bool false] else .tuple #[.int .i64 ((sumL (s.data.toList.take (widK k)) : Int) - biasK k), .string ⟨(s.data.toList.drop (widK k)).toArray⟩, .bool true]
def NumRel (k : Int) (n : Nat) (i : Value) : Prop := ∃ j : Nat, i = .int .i64 j ∧ j ≤ 4 ∧ (widK k ≤ n → (j : Int) + 1 ≤ k)
theorem num_wrap (a b : Int) (h : -9223372036854775808 ≤ a - b) (h' : a - b ≤ 9223372036854775807) (ha : 0 ≤ a) (ha' : a < 18446744073709551616) (hb : 0 ≤ b) (hb' : b < 18446744073709551616) :
    IntKind.i64.wrap (IntKind.u64.wrap (a - b)) = a - b := by
  simp [IntKind.wrap, IntKind.bits, IntKind.signed]; omega
theorem num_wrap64 (a b : Int) (h : -9223372036854775808 ≤ a - b) (h' : a - b ≤ 9223372036854775807) (ha : 0 ≤ a) (ha' : a < 18446744073709551616) (hb : 0 ≤ b) (hb' : b < 18446744073709551616) :
    wrap64 (IntKind.u64.wrap (a - b)) = a - b := by
  simp [IntKind.wrap, IntKind.bits, IntKind.signed]; unfold wrap64; omega
theorem ret_num {a b : Int} {x y : ByteArray} (h : a = b) (h' : x = y) : Ending.returned (.tuple #[.int .i64 a, .string x, .bool true]) = Ending.returned (.tuple #[.int .i64 b, .string y, .bool true]) := by rw [h, h']
theorem wid_eq (j : Nat) (h : j < 4) : (widK ((j : Int) + 1) = 1 ∧ biasK ((j : Int) + 1) = 0 ∧ j = 0) ∨ (widK ((j : Int) + 1) = 2 ∧ biasK ((j : Int) + 1) = 32768 ∧ j = 1) ∨ (widK ((j : Int) + 1) = 4 ∧ biasK ((j : Int) + 1) = 2147483648 ∧ j = 2) ∨ (widK ((j : Int) + 1) = 8 ∧ biasK ((j : Int) + 1) = 9223372036854775808 ∧ j = 3) := by
  have e : j = 0 ∨ j = 1 ∨ j = 2 ∨ j = 3 := by omega
  rcases e with rfl | rfl | rfl | rfl
  · exact Or.inl ⟨rfl, rfl, rfl⟩
  · exact Or.inr (Or.inl ⟨rfl, rfl, rfl⟩)
  · exact Or.inr (Or.inr (Or.inl ⟨rfl, rfl, rfl⟩))
  · exact Or.inr (Or.inr (Or.inr ⟨rfl, rfl, rfl⟩))

theorem sum_at (s : ByteArray) (k m : Nat) (w : World) (hs : s.size ≤ 1000000) (hk : k ≤ 8) (hm : sumL (s.data.toList.take k) = m) :
    m < 256 ^ k ∧ Calls Tryd.prog 45 #[.string (s.extract 0 k)] w fun e w' => e = .returned (.int .u64 m) ∧ Drw w w' := by
  have e : (s.extract 0 k).data.toList = s.data.toList.take k := by rw [ext_data, List.drop_zero]
  have h1 := sumL_lt (s.data.toList.take k)
  have h2 : (s.data.toList.take k).length ≤ k := List.length_take_le _ _
  have h3 : 256 ^ (s.data.toList.take k).length ≤ 256 ^ k := Nat.pow_le_pow_right (by decide) h2
  have h4 : 256 ^ k ≤ 256 ^ 8 := Nat.pow_le_pow_right (by decide) hk
  refine ⟨by omega, (sum_any _ w (by rw [ByteArray.size_extract]; unfold maxLen; omega)).mono ?_⟩
  rintro e' w' ⟨rfl, hw⟩
  refine ⟨ret_int ?_, hw⟩
  rw [e, Nat.mod_eq_of_lt (by omega), hm]
theorem run_widths (w : World) (j : Int) (h : 0 ≤ j ∧ j < 4) (cs : Array Value) :
    (Instr.index 50 (.agg cs) (.int .i64 j)).run Tryd.prog w = .ok (.agg (cs.extract (j.toNat * 3) (j.toNat * 3 + 3))) w := by
  simp [Instr.index, run_underlying Tryd.underlying50, asIntOf, h, part, go_sem]
theorem run_width0 (w : World) : (Instr.index 50 (.agg #[.int .i64 1, .int .i64 1, .int .u64 0, .int .i64 2, .int .i64 2, .int .u64 32768, .int .i64 3, .int .i64 4, .int .u64 2147483648, .int .i64 4, .int .i64 8, .int .u64 9223372036854775808]) (.int .i64 0)).run Tryd.prog w = .ok (.agg #[.int .i64 1, .int .i64 1, .int .u64 0]) w :=
  run_widths w 0 (by omega) _
theorem run_width1 (w : World) : (Instr.index 50 (.agg #[.int .i64 1, .int .i64 1, .int .u64 0, .int .i64 2, .int .i64 2, .int .u64 32768, .int .i64 3, .int .i64 4, .int .u64 2147483648, .int .i64 4, .int .i64 8, .int .u64 9223372036854775808]) (.int .i64 1)).run Tryd.prog w = .ok (.agg #[.int .i64 2, .int .i64 2, .int .u64 32768]) w :=
  run_widths w 1 (by omega) _
theorem run_width2 (w : World) : (Instr.index 50 (.agg #[.int .i64 1, .int .i64 1, .int .u64 0, .int .i64 2, .int .i64 2, .int .u64 32768, .int .i64 3, .int .i64 4, .int .u64 2147483648, .int .i64 4, .int .i64 8, .int .u64 9223372036854775808]) (.int .i64 2)).run Tryd.prog w = .ok (.agg #[.int .i64 3, .int .i64 4, .int .u64 2147483648]) w :=
  run_widths w 2 (by omega) _
theorem run_width3 (w : World) : (Instr.index 50 (.agg #[.int .i64 1, .int .i64 1, .int .u64 0, .int .i64 2, .int .i64 2, .int .u64 32768, .int .i64 3, .int .i64 4, .int .u64 2147483648, .int .i64 4, .int .i64 8, .int .u64 9223372036854775808]) (.int .i64 3)).run Tryd.prog w = .ok (.agg #[.int .i64 4, .int .i64 8, .int .u64 9223372036854775808]) w :=
  run_widths w 3 (by omega) _

set_option maxHeartbeats 4000000 in
theorem number_any (k : Int) (s : ByteArray) (w : World) (hs : s.size ≤ 1000000) (hk : 1 ≤ k ∧ k ≤ 4) (hstd : Std w) :
    Calls Tryd.prog 38 #[.int .i64 k, .string s] w fun e w' => e = .returned (numV k s) ∧ Bel w w' := by
  obtain ⟨g0, g1, g2, g3, g4, g5, g6, g7, g8, g9, g10, g11⟩ := hstd.cells
  go_enter Tryd.func38, Tryd.ntmps38
  go_wp2_with (fail)
  clear g0 g1 g2 g3 g4 g5 g6 g7 g8 g9 g10 g11 hstd
  go_loopw [10] (fun i x => NumRel k s.size i ∧ Bel w x) (fun i _ => 4 - (intOf i).toNat)
  case atStart => exact ⟨⟨0, rfl, by omega, fun _ => by simp; omega⟩, Bel.refl w⟩
  case round =>
    obtain ⟨⟨j, rfl, hj4, hj⟩, hb⟩ := hrel
    have HB := Lib.hid hb; clear hb
    have HJ := Lib.hid hj; clear hj
    by_cases hlt : j < 4
    · obtain rfl | rfl | rfl | rfl : j = 0 ∨ j = 1 ∨ j = 2 ∨ j = 3 := by omega
      · have hix := run_width0
        by_cases hjk : (1 : Int) = k
        · subst hjk
          have HV := Lib.hid (show numV 1 s = if s.size < 1 then .tuple #[.int .i64 0, .string ⟨#[]⟩, .bool false] else .tuple #[.int .i64 ((sumL (s.data.toList.take 1) : Int) - 0), .string ⟨(s.data.toList.drop 1).toArray⟩, .bool true] from rfl)
          by_cases hl : s.size < 1
          · go_wp2_with (fail)
            go_roundw
            case rel => exact ⟨⟨1, by go_num, by omega, fun h => by exact absurd h (by show ¬ 1 ≤ s.size; omega)⟩, HB.out.alloc _⟩
            case measure => simp [intOf]
          · have i1 : (1 : Int) ≤ (s.size : Int) := by omega
            go_wp2_with (fail)
            obtain ⟨m, hm⟩ : ∃ m : Nat, sumL (s.data.toList.take 1) = m := ⟨_, rfl⟩
            have hS := fun w => sum_at s 1 m w hs (by omega) hm
            have hml := (hS w).1
            rw [hm] at HV
            clear hm
            go_quiet ((go_at_call 45; exact Calls.quiet_of (hS _).2))
            go_wp2_with (fail)
            go_ret3
            refine ⟨?_, (HB.out.alloc _).drewN _⟩
            rw [HV.out, if_neg hl]
            exact ret_num (by omega) (ba_eq (ext_end s 1))
        · go_wp2_with (fail)
          go_roundw
          case rel => exact ⟨⟨1, by go_num, by omega, fun h => by have := HJ.out h; omega⟩, HB.out.alloc _⟩
          case measure => simp [intOf]
      · have hix := run_width1
        by_cases hjk : (2 : Int) = k
        · subst hjk
          have HV := Lib.hid (show numV 2 s = if s.size < 2 then .tuple #[.int .i64 0, .string ⟨#[]⟩, .bool false] else .tuple #[.int .i64 ((sumL (s.data.toList.take 2) : Int) - 32768), .string ⟨(s.data.toList.drop 2).toArray⟩, .bool true] from rfl)
          by_cases hl : s.size < 2
          · go_wp2_with (fail)
            go_roundw
            case rel => exact ⟨⟨2, by go_num, by omega, fun h => by exact absurd h (by show ¬ 2 ≤ s.size; omega)⟩, HB.out.alloc _⟩
            case measure => simp [intOf]
          · have i1 : (2 : Int) ≤ (s.size : Int) := by omega
            go_wp2_with (fail)
            obtain ⟨m, hm⟩ : ∃ m : Nat, sumL (s.data.toList.take 2) = m := ⟨_, rfl⟩
            have hS := fun w => sum_at s 2 m w hs (by omega) hm
            have hml := (hS w).1
            rw [hm] at HV
            clear hm
            go_quiet ((go_at_call 45; exact Calls.quiet_of (hS _).2))
            go_wp2_with (fail)
            go_ret3
            refine ⟨?_, (HB.out.alloc _).drewN _⟩
            rw [HV.out, if_neg hl]
            exact ret_num (num_wrap64 (m : Int) 32768 (by omega) (by omega) (by omega) (by omega) (by omega) (by omega)) (ba_eq (ext_end s 2))
        · go_wp2_with (fail)
          go_roundw
          case rel => exact ⟨⟨2, by go_num, by omega, fun h => by have := HJ.out h; omega⟩, HB.out.alloc _⟩
          case measure => simp [intOf]
      · have hix := run_width2
        by_cases hjk : (3 : Int) = k
        · subst hjk
          have HV := Lib.hid (show numV 3 s = if s.size < 4 then .tuple #[.int .i64 0, .string ⟨#[]⟩, .bool false] else .tuple #[.int .i64 ((sumL (s.data.toList.take 4) : Int) - 2147483648), .string ⟨(s.data.toList.drop 4).toArray⟩, .bool true] from rfl)
          by_cases hl : s.size < 4
          · go_wp2_with (fail)
            go_roundw
            case rel => exact ⟨⟨3, by go_num, by omega, fun h => by exact absurd h (by show ¬ 4 ≤ s.size; omega)⟩, HB.out.alloc _⟩
            case measure => simp [intOf]
          · have i1 : (4 : Int) ≤ (s.size : Int) := by omega
            go_wp2_with (fail)
            obtain ⟨m, hm⟩ : ∃ m : Nat, sumL (s.data.toList.take 4) = m := ⟨_, rfl⟩
            have hS := fun w => sum_at s 4 m w hs (by omega) hm
            have hml := (hS w).1
            rw [hm] at HV
            clear hm
            go_quiet ((go_at_call 45; exact Calls.quiet_of (hS _).2))
            go_wp2_with (fail)
            go_ret3
            refine ⟨?_, (HB.out.alloc _).drewN _⟩
            rw [HV.out, if_neg hl]
            exact ret_num (num_wrap64 (m : Int) 2147483648 (by omega) (by omega) (by omega) (by omega) (by omega) (by omega)) (ba_eq (ext_end s 4))
        · go_wp2_with (fail)
          go_roundw
          case rel => exact ⟨⟨3, by go_num, by omega, fun h => by have := HJ.out h; omega⟩, HB.out.alloc _⟩
          case measure => simp [intOf]
      · have hix := run_width3
        by_cases hjk : (4 : Int) = k
        · subst hjk
          have HV := Lib.hid (show numV 4 s = if s.size < 8 then .tuple #[.int .i64 0, .string ⟨#[]⟩, .bool false] else .tuple #[.int .i64 ((sumL (s.data.toList.take 8) : Int) - 9223372036854775808), .string ⟨(s.data.toList.drop 8).toArray⟩, .bool true] from rfl)
          by_cases hl : s.size < 8
          · go_wp2_with (fail)
            go_roundw
            case rel => exact ⟨⟨4, by go_num, by omega, fun h => by exact absurd h (by show ¬ 8 ≤ s.size; omega)⟩, HB.out.alloc _⟩
            case measure => simp [intOf]
          · have i1 : (8 : Int) ≤ (s.size : Int) := by omega
            go_wp2_with (fail)
            obtain ⟨m, hm⟩ : ∃ m : Nat, sumL (s.data.toList.take 8) = m := ⟨_, rfl⟩
            have hS := fun w => sum_at s 8 m w hs (by omega) hm
            have hml := (hS w).1
            rw [hm] at HV
            clear hm
            go_quiet ((go_at_call 45; exact Calls.quiet_of (hS _).2))
            go_wp2_with (fail)
            go_ret3
            refine ⟨?_, (HB.out.alloc _).drewN _⟩
            rw [HV.out, if_neg hl]
            exact ret_num (num_wrap64 (m : Int) 9223372036854775808 (by omega) (by omega) (by omega) (by omega) (by omega) (by omega)) (ba_eq (ext_end s 8))
        · go_wp2_with (fail)
          go_roundw
          case rel => exact ⟨⟨4, by go_num, by omega, fun h => by have := HJ.out h; omega⟩, HB.out.alloc _⟩
          case measure => simp [intOf]
    · obtain rfl : j = 4 := by omega
      have HV := Lib.hid (show numV k s = _ from if_pos (by have h := HJ.out; omega))
      go_wp2_with (fail)
      go_ret3
      exact ⟨by rw [HV.out]; rfl, HB.out⟩
end Go.Proofs.YtggmeggfibblhaaDoor
