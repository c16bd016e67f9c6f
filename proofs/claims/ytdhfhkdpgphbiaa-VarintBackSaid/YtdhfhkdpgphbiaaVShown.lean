/- shown: chapter 3's examples come out as they should. -/
import Derived.Test.YtdhfhkdpgphbiaaVFold
set_option linter.unusedSimpArgs false
set_option linter.unusedVariables false
namespace Go.Proofs.Ytdhfhkdpgphbiaa
open Go.RowKit Go.Deep

theorem put_const (x : Int) (n : Nat) (a : Array UInt8) (w : World) (hn : n < 18446744073709551616) (hx : x = n) (ha : (putL n).toArray = a) :
    Calls Try.prog 10 #[.int .u64 x] w fun e w' => e = .returned (.string ⟨a⟩) ∧ Bel w w' := by
  subst hx ha; exact put_any n w hn
theorem take_const (a : Array UInt8) (n : Int) (r : Array UInt8) (ok : Bool) (w : World) (ha : a.size ≤ 1000000) (h : takeV a.toList = .tuple #[.int .u64 n, .string ⟨r⟩, .bool ok]) :
    Calls Try.prog 13 #[.string ⟨a⟩] w fun e w' => e = .returned (.tuple #[.int .u64 n, .string ⟨r⟩, .bool ok]) ∧ Bel w w' := by
  rw [← h]; exact take_any ⟨a⟩ w ha
theorem fold_const (n : Int) (u : Int) (w : World) (hn : -9223372036854775808 ≤ n ∧ n ≤ 9223372036854775807) (hu : u = (foldN n : Nat)) :
    Calls Try.prog 17 #[.int .i64 n] w fun e w' => e = .returned (.int .u64 u) ∧ Drw w w' := by
  rw [hu]; exact fold_any n w hn
theorem size_const (x : Int) (n : Nat) (k : Int) (w : World) (hn : n < 18446744073709551616) (hx : x = n) (hk : k = szN n) :
    Calls Try.prog 12 #[.int .u64 x] w fun e w' => e = .returned (.int .i64 k) ∧ Drw w w' := by
  subst hx hk; exact size_any n w hn

set_option maxHeartbeats 4000000 in
set_option maxRecDepth 20000 in
theorem shown_any (w : World) : Calls Try.prog 9 #[] w fun e w' => e = .returned (.bool true) ∧ Bel w w' := by
  go_enter Try.func9, Try.ntmps9
  have HB := Lib.hid (Bel.refl w)
  go_wp2_with (fail)
  refine (put_const _ 7 #[7] _ (by decide) rfl (by decide +kernel)).mono ?_
  rintro e w1 ⟨rfl, hb⟩
  replace HB := Lib.hid (HB.out.trans hb); clear hb
  go_wp2_with (fail)
  refine (put_const _ 240 #[240] _ (by decide) rfl (by decide +kernel)).mono ?_
  rintro e w2 ⟨rfl, hb⟩
  replace HB := Lib.hid (HB.out.trans hb); clear hb
  go_wp2_with (fail)
  refine (put_const _ 241 #[241, 1] _ (by decide) rfl (by decide +kernel)).mono ?_
  rintro e w3 ⟨rfl, hb⟩
  replace HB := Lib.hid (HB.out.trans hb); clear hb
  go_wp2_with (fail)
  refine (put_const _ 2287 #[248, 255] _ (by decide) rfl (by decide +kernel)).mono ?_
  rintro e w4 ⟨rfl, hb⟩
  replace HB := Lib.hid (HB.out.trans hb); clear hb
  go_wp2_with (fail)
  refine (put_const _ 2288 #[249, 0, 0] _ (by decide) rfl (by decide +kernel)).mono ?_
  rintro e w5 ⟨rfl, hb⟩
  replace HB := Lib.hid (HB.out.trans hb); clear hb
  go_wp2_with (fail)
  refine (put_const _ 67824 #[250, 1, 8, 240] _ (by decide) rfl (by decide +kernel)).mono ?_
  rintro e w6 ⟨rfl, hb⟩
  replace HB := Lib.hid (HB.out.trans hb); clear hb
  go_wp2_with (fail)
  refine (size_const _ 18446744073709551615 9 _ (by decide) rfl (by decide +kernel)).mono ?_
  rintro e w7 ⟨rfl, hb⟩
  replace HB := Lib.hid (HB.out.trans hb.bel); clear hb
  go_wp2_with (fail)
  refine (fold_const (-1) 1 _ (by decide) (by decide +kernel)).mono ?_
  rintro e w8 ⟨rfl, hb⟩
  replace HB := Lib.hid (HB.out.trans hb.bel); clear hb
  go_wp2_with (fail)
  refine (fold_const 3 6 _ (by decide) (by decide +kernel)).mono ?_
  rintro e w9 ⟨rfl, hb⟩
  replace HB := Lib.hid (HB.out.trans hb.bel); clear hb
  go_wp2_with (fail)
  refine (take_const #[241, 1, 9] 241 #[9] true _ (by decide) (by kernel_rfl)).mono ?_
  rintro e w10 ⟨rfl, hb⟩
  replace HB := Lib.hid (HB.out.trans hb); clear hb
  go_wp2_with (fail)
  refine (take_const #[249, 0] 0 #[] false _ (by decide) (by kernel_rfl)).mono ?_
  rintro e w11 ⟨rfl, hb⟩
  replace HB := Lib.hid (HB.out.trans hb); clear hb
  go_wp2_with (fail)
  refine (take_const #[250, 0, 0, 1] 0 #[] false _ (by decide) (by kernel_rfl)).mono ?_
  rintro e w12 ⟨rfl, hb⟩
  replace HB := Lib.hid (HB.out.trans hb); clear hb
  go_wp2_with (fail)
  go_ret
  exact ⟨rfl, HB.out⟩
end Go.Proofs.Ytdhfhkdpgphbiaa
