/- The contracts of the comparisons: cmp.Compare, cmp.Or, strings.Compare, value.Compare, and moultref1's Bytes and Compare. -/
import Derived.Test.YtndknolblfdcdaaDoorKit
import Derived.Lib.Bytealg
import Derived.StillTailTactics
set_option linter.unusedSimpArgs false
set_option linter.unusedVariables false
namespace Go.Proofs.YtndknolblfdcdaaDoor
open Go.RowKit

def cmpI (x y : Int) : Int := if x < y then -1 else if y < x then 1 else 0

set_option maxHeartbeats 400000 in
theorem cmpInt_any (x y : Int) (w : World) :
    Calls Tryd.prog 21 #[.int .i64 x, .int .i64 y] w fun e w' => e = .returned (.int .i64 (cmpI x y)) ∧ w = w' := by
  go_enter Tryd.func21, Tryd.ntmps21
  go_wp2
  all_goals
    go_ret
    refine ⟨ret_int ?_, rfl⟩
    go_light
    simp_all [cmpI]
  all_goals (try omega)

set_option maxHeartbeats 400000 in
set_option maxRecDepth 100000 in
theorem cmpString_any (a b : ByteArray) (w : World) :
    Calls Tryd.prog 32 #[.string a, .string b] w fun e w' => e = .returned (.int .i64 (Lib.compareBytes a.data.toList b.data.toList)) ∧ w = w' := by
  go_enter Tryd.func32, Tryd.ntmps32
  go_wp2
  rw [run_callFunc_extern Tryd.func38 (by kernel_rfl) (by kernel_rfl) (by kernel_rfl) (e := Extern.BytealgCompare.compare) (by kernel_rfl), Lib.run_compareString]
  simp only [Result.andThen]
  rw [Oper.upon_value]
  go_wp2
  go_ret
  exact ⟨rfl, rfl⟩

set_option maxHeartbeats 400000 in
theorem cmpStrings_any (a b : ByteArray) (w : World) :
    Calls Tryd.prog 22 #[.string a, .string b] w fun e w' => e = .returned (.int .i64 (Lib.compareBytes a.data.toList b.data.toList)) ∧ w = w' := by
  go_enter Tryd.func22, Tryd.ntmps22
  go_wp2_with (go_at_call 32; refine (cmpString_any _ _ _).mono ?_; rintro e w' ⟨rfl, rfl⟩)
  go_ret
  exact ⟨rfl, rfl⟩

/-- The first of three that is not 0. -/
def or3 (x y z : Int) : Int := if x ≠ 0 then x else if y ≠ 0 then y else z

def OrRel (x y z : Int) (i : Value) : Prop := i = .int .i64 0 ∨ (i = .int .i64 1 ∧ x = 0) ∨ (i = .int .i64 2 ∧ x = 0 ∧ y = 0) ∨ (i = .int .i64 3 ∧ x = 0 ∧ y = 0 ∧ z = 0)

set_option maxHeartbeats 400000 in
theorem or_three (x y z : Int) (b : Nat) (w : World) (h0 : w.cell? ⟨b, 0, none⟩ = some (.int .i64 x)) (h1 : w.cell? ⟨b, 1, none⟩ = some (.int .i64 y)) (h2 : w.cell? ⟨b, 2, none⟩ = some (.int .i64 z)) :
    Calls Tryd.prog 20 #[.slice (some ⟨b, 0, none⟩) 3 3] w fun e w' => e = .returned (.int .i64 (or3 x y z)) ∧ w = w' := by
  go_enter Tryd.func20, Tryd.ntmps20
  go_wp2
  go_loop [5, 8] (fun _ i => OrRel x y z i) (fun _ i => 3 - (intOf i).toNat)
  case atStart => exact Or.inl rfl
  case round =>
    rcases hrel with rfl | ⟨rfl, hx⟩ | ⟨rfl, hx, hy⟩ | ⟨rfl, hx, hy, hz⟩
    · go_wp2
      · go_ret
        refine ⟨ret_int ?_, rfl⟩
        go_light
        simp_all [or3]
      · go_round
        case rel => exact Or.inr (Or.inl ⟨rfl, by go_light; simp_all⟩)
        case measure => simp [intOf]
    · have Hx := Lib.hid hx; clear hx
      go_wp2
      · go_ret
        refine ⟨ret_int ?_, rfl⟩
        go_light
        have hx := Hx.out
        simp_all [or3]
      · go_round
        case rel => exact Or.inr (Or.inr (Or.inl ⟨rfl, Hx.out, by go_light; simp_all⟩))
        case measure => simp [intOf]
    · have Hx := Lib.hid hx; clear hx
      have Hy := Lib.hid hy; clear hy
      go_wp2
      · go_ret
        refine ⟨ret_int ?_, rfl⟩
        go_light
        have hx := Hx.out
        have hy := Hy.out
        simp_all [or3]
      · go_round
        case rel => exact Or.inr (Or.inr (Or.inr ⟨rfl, Hx.out, Hy.out, by go_light; simp_all⟩))
        case measure => simp [intOf]
    · have Hx := Lib.hid hx; clear hx
      have Hy := Lib.hid hy; clear hy
      have Hz := Lib.hid hz; clear hz
      go_wp2
      go_ret
      refine ⟨ret_int ?_, rfl⟩
      simp [or3, Hx.out, Hy.out, Hz.out]

/-- How two values stand. -/
def cmpV (k n : Int) (s : List UInt8) (k' n' : Int) (s' : List UInt8) : Int := or3 (cmpI k k') (cmpI n n') (Lib.compareBytes s s')

set_option maxHeartbeats 1000000 in
theorem compare_any (k n : Int) (s : ByteArray) (k' n' : Int) (s' : ByteArray) (w : World) :
    Calls Tryd.prog 14 #[.agg #[.int .i64 k, .int .i64 n, .string s], .agg #[.int .i64 k', .int .i64 n', .string s']] w fun e w' => e = .returned (.int .i64 (cmpV k n s.data.toList k' n' s'.data.toList)) ∧ Bel w w' := by
  go_enter Tryd.func14, Tryd.ntmps14
  go_wp2_with (fail)
  refine wp_region_still_tail 15 (by kernel_rfl) (by kernel_rfl) ?_
  change wpStill _ _ (World.drew _) _ _ _
  simp only [List.take_succ_cons, List.take_zero, List.drop_succ_cons, List.drop_zero]
  still_step
  still_step
  still_step
  still_step
  still_call ((cmpInt_any k k' _).mono fun _ _ h => ⟨h.1, h.2.symm⟩)
  still_step
  still_step
  still_step
  still_step
  still_call ((cmpInt_any n n' _).mono fun _ _ h => ⟨h.1, h.2.symm⟩)
  still_step
  still_step
  still_step
  still_step
  still_call ((cmpStrings_any s s' _).mono fun _ _ h => ⟨h.1, h.2.symm⟩)
  refine wpStill_nil ?_
  change wpList _ _ _ _ _ (World.drew _)
  go_wp2_with (fail)
  refine (or_three (cmpI k k') (cmpI n n') (Lib.compareBytes s.data.toList s'.data.toList) _ _ ?_ ?_ ?_).mono ?_
  · go_simp
  · go_simp
  · go_simp
  rintro e w1 ⟨rfl, rfl⟩
  go_wp2
  go_ret
  exact ⟨rfl, ((((Bel.refl w).alloc _).alloc _).alloc _).drew⟩
end Go.Proofs.YtndknolblfdcdaaDoor
