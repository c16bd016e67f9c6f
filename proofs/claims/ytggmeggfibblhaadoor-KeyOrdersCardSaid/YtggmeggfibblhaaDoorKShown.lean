/- moultlaw4.shown: chapter 4's examples. -/
import Derived.Test.YtggmeggfibblhaaDoorKTake2
import Derived.Test.YtggmeggfibblhaaDoorKAfter
set_option linter.unusedSimpArgs false
set_option linter.unusedVariables false
namespace Go.Proofs.YtggmeggfibblhaaDoor
open Go.RowKit Go.Deep

theorem ex_put1 : putV ⟨1, 1, ⟨#[]⟩⟩ = .tuple #[.string ⟨#[1, 1]⟩, .int .i64 0] := by kernel_rfl
theorem ex_put2 : putV ⟨2, -1, ⟨#[]⟩⟩ = .tuple #[.string ⟨#[2, 127, 255]⟩, .int .i64 0] := by kernel_rfl
theorem ex_put3 : putV ⟨5, 0, ⟨#[97, 0]⟩⟩ = .tuple #[.string ⟨#[5, 97, 0, 255, 0, 0]⟩, .int .i64 0] := by kernel_rfl
theorem ex_take1 : takeV (readL [2, 128, 5, 9]) = .tuple #[.agg #[.int .i64 2, .int .i64 5, .string ⟨#[]⟩], .string ⟨#[9]⟩, .int .i64 0] := by kernel_rfl
theorem ex_take2 : takeV (readL [1, 2]) = .tuple #[.agg #[.int .i64 0, .int .i64 0, .string ⟨#[]⟩], .string ⟨#[]⟩, .int .i64 8] := by kernel_rfl
theorem ex_after1 : afterV (afterL [97, 122]) = .tuple #[.string ⟨#[97, 123]⟩, .bool true] := by kernel_rfl
theorem ex_after2 : afterV (afterL [255]) = .tuple #[.string ⟨#[]⟩, .bool false] := by kernel_rfl

theorem in64_small (k n : Int) (s : ByteArray) (h : -9223372036854775808 ≤ n ∧ n ≤ 9223372036854775807) : (KV.mk k n s).in64 := h

set_option maxHeartbeats 4000000 in
theorem shown_any (w : World) (hstd : Std w) : Calls Tryd.prog 9 #[] w fun e w' => e = .returned (.bool true) ∧ Bel w w' := by
  have HS := Lib.hid hstd; clear hstd
  go_enter Tryd.func9, Tryd.ntmps9
  go_wp2_with (fail)
  refine (put_any ⟨1, 1, ⟨#[]⟩⟩ w (Nat.zero_le _) ⟨by decide, by decide⟩ HS.out).mono ?_
  rintro e w1 ⟨rfl, hb⟩
  rw [ex_put1]
  have HB := Lib.hid hb; clear hb
  go_wp2_with (fail)
  refine (put_any ⟨2, -1, ⟨#[]⟩⟩ w1 (Nat.zero_le _) ⟨by decide, by decide⟩ (HS.out.bel HB.out)).mono ?_
  rintro e w2 ⟨rfl, hb⟩
  rw [ex_put2]
  replace HB := Lib.hid (HB.out.trans hb); clear hb
  go_wp2_with (fail)
  refine (put_any ⟨5, 0, ⟨#[97, 0]⟩⟩ w2 (by decide) ⟨by decide, by decide⟩ (HS.out.bel HB.out)).mono ?_
  rintro e w3 ⟨rfl, hb⟩
  rw [ex_put3]
  replace HB := Lib.hid (HB.out.trans hb); clear hb
  go_wp2_with (fail)
  refine (take_any ⟨#[2, 128, 5, 9]⟩ w3 (by decide) (HS.out.bel HB.out)).mono ?_
  rintro e w4 ⟨rfl, hb⟩
  rw [show (⟨#[2, 128, 5, 9]⟩ : ByteArray).data.toList = [2, 128, 5, 9] from rfl, ex_take1]
  replace HB := Lib.hid (HB.out.trans hb); clear hb
  go_wp2_with (fail)
  refine (take_any ⟨#[1, 2]⟩ _ (by decide) (HS.out.bel (HB.out.alloc _))).mono ?_
  rintro e w5 ⟨rfl, hb⟩
  rw [show (⟨#[1, 2]⟩ : ByteArray).data.toList = [1, 2] from rfl, ex_take2]
  have r0 : w5.cell? ⟨w4.heap.size, 0, none⟩ = some (.int .i64 2) := cell_later hb (by go_simp)
  have r1 : w5.cell? ⟨w4.heap.size, 1, none⟩ = some (.int .i64 5) := cell_later hb (by go_simp)
  have r2 : w5.cell? ⟨w4.heap.size, 2, none⟩ = some (.string ⟨#[]⟩) := cell_later hb (by go_simp)
  have hlt : w4.heap.size < w5.heap.size := hb.past
  replace HB := Lib.hid ((HB.out.alloc _).trans hb); clear hb
  go_wp2_with (fail)
  refine (after_any ⟨#[97, 122]⟩ _ (by decide)).mono ?_
  rintro e w6 ⟨rfl, hb⟩
  rw [show (⟨#[97, 122]⟩ : ByteArray).data.toList = [97, 122] from rfl, ex_after1]
  replace r0 : w6.cell? ⟨w4.heap.size, 0, none⟩ = some (.int .i64 2) := cell_later hb (by go_simp)
  replace r1 : w6.cell? ⟨w4.heap.size, 1, none⟩ = some (.int .i64 5) := cell_later hb (by go_simp)
  replace r2 : w6.cell? ⟨w4.heap.size, 2, none⟩ = some (.string ⟨#[]⟩) := cell_later hb (by go_simp)
  replace HB := Lib.hid ((HB.out.alloc _).trans hb); clear hb hlt
  go_wp2_with (fail)
  refine (after_any ⟨#[255]⟩ _ (by decide)).mono ?_
  rintro e w7 ⟨rfl, hb⟩
  rw [show (⟨#[255]⟩ : ByteArray).data.toList = [255] from rfl, ex_after2]
  replace r0 : w7.cell? ⟨w4.heap.size, 0, none⟩ = some (.int .i64 2) := cell_later hb r0
  replace r1 : w7.cell? ⟨w4.heap.size, 1, none⟩ = some (.int .i64 5) := cell_later hb r1
  replace r2 : w7.cell? ⟨w4.heap.size, 2, none⟩ = some (.string ⟨#[]⟩) := cell_later hb r2
  replace HB := Lib.hid (HB.out.trans hb); clear hb
  go_wp2_with (fail)
  go_ret
  exact ⟨rfl, HB.out⟩
end Go.Proofs.YtggmeggfibblhaaDoor
