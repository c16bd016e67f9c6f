/- Fold and Unfold, of the program and of the document's answer; moultref3.Take for any bytes. -/
import Derived.Test.YtdhfhkdpgphbiaaVRTake
set_option linter.unusedSimpArgs false
set_option linter.unusedVariables false
namespace Go.Proofs.Ytdhfhkdpgphbiaa
open Go.RowKit Go.Deep

theorem rtake_any (s : ByteArray) (w : World) (hs : s.size ≤ 1000000) :
    Calls Try.prog 14 #[.string s] w fun e w' => e = .returned (takeV s.data.toList) ∧ Bel w w' := by
  by_cases h0 : s.size = 0
  · obtain rfl : s = ⟨#[]⟩ := by apply ByteArray.ext; exact Array.eq_empty_of_size_eq_zero h0
    go_enter Try.func14, Try.ntmps14
    go_wp2_with (fail)
    go_ret3
    exact ⟨rfl, Bel.refl w⟩
  have h0' : 0 < s.size := by omega
  by_cases h1 : (s[0].toNat : Int) < 241
  · exact rtake_one s w hs h0' h1
  by_cases h2 : (s[0].toNat : Int) < 249
  · exact rtake_two s w hs h0' (by omega) h2
  by_cases h3 : (s[0].toNat : Int) = 249
  · exact rtake_three s w hs h0' h3
  · exact rtake_more s w hs h0' (by omega)

theorem fold_neg (n : Int) (h : n < 0) : ((foldN n : Nat) : Int) = -2 * n - 1 := by unfold foldN; rw [if_pos h]; omega
theorem fold_pos (n : Int) (h : ¬ n < 0) : ((foldN n : Nat) : Int) = 2 * n := by unfold foldN; rw [if_neg h]; omega

theorem fold_any (n : Int) (w : World) (hn : -9223372036854775808 ≤ n ∧ n ≤ 9223372036854775807) :
    Calls Try.prog 17 #[.int .i64 n] w fun e w' => e = .returned (.int .u64 (foldN n : Nat)) ∧ Drw w w' := by
  obtain ⟨hn1, hn2⟩ := hn
  by_cases h : n < 0
  · have hf := Lib.hid (fold_neg n h)
    have v1 : IntKind.u64.wrap (-(n + 1)) = -(n + 1) := u64_in _ (by omega) (by omega)
    have v2 : IntKind.u64.wrap (-(n + 1) * 2) = -(n + 1) * 2 := u64_in _ (by omega) (by omega)
    have v3 : IntKind.u64.wrap (-(n + 1) * 2 + 1) = -(n + 1) * 2 + 1 := u64_in _ (by omega) (by omega)
    go_enter Try.func17, Try.ntmps17
    go_wp2
    go_ret
    exact ⟨ret_int (by rw [hf.out]; omega), Drw.refl w⟩
  · have hf := Lib.hid (fold_pos n h)
    have v1 : IntKind.u64.wrap n = n := u64_in _ (by omega) (by omega)
    have v2 : IntKind.u64.wrap (n * 2) = n * 2 := u64_in _ (by omega) (by omega)
    go_enter Try.func17, Try.ntmps17
    go_wp2
    go_ret
    exact ⟨ret_int (by rw [hf.out]; omega), Drw.refl w⟩

theorem rfold_any (n : Int) (w : World) (hn : -9223372036854775808 ≤ n ∧ n ≤ 9223372036854775807) :
    Calls Try.prog 18 #[.int .i64 n] w fun e w' => e = .returned (.int .u64 (foldN n : Nat)) ∧ Drw w w' := by
  obtain ⟨hn1, hn2⟩ := hn
  by_cases h : n < 0
  · have hf := Lib.hid (fold_neg n h)
    have v1 : IntKind.u64.wrap (-(n + 1)) = -(n + 1) := u64_in _ (by omega) (by omega)
    have v2 : IntKind.u64.wrap (2 * -(n + 1)) = 2 * -(n + 1) := u64_in _ (by omega) (by omega)
    have v3 : IntKind.u64.wrap (2 * -(n + 1) + 1) = 2 * -(n + 1) + 1 := u64_in _ (by omega) (by omega)
    go_enter Try.func18, Try.ntmps18
    go_wp2
    go_ret
    exact ⟨ret_int (by rw [hf.out]; omega), Drw.refl w⟩
  · have hf := Lib.hid (fold_pos n h)
    have v1 : IntKind.u64.wrap n = n := u64_in _ (by omega) (by omega)
    have v2 : IntKind.u64.wrap (2 * n) = 2 * n := u64_in _ (by omega) (by omega)
    go_enter Try.func18, Try.ntmps18
    go_wp2
    go_ret
    exact ⟨ret_int (by rw [hf.out]), Drw.refl w⟩

theorem unfold_odd (u : Nat) (h : u % 2 = 1) : unfoldZ u = -((u : Int) / 2) - 1 := by unfold unfoldZ; rw [if_pos h]; simp
theorem unfold_even (u : Nat) (h : ¬ u % 2 = 1) : unfoldZ u = (u : Int) / 2 := by unfold unfoldZ; rw [if_neg h]; simp

theorem unfold_any (u : Nat) (w : World) (hu : u < 18446744073709551616) :
    Calls Try.prog 16 #[.int .u64 u] w fun e w' => e = .returned (.int .i64 (unfoldZ u)) ∧ Drw w w' := by
  have v0 : IntKind.u64.wrap ((u : Int) / 2) = (u : Int) / 2 := u64_in _ (by omega) (by omega)
  have v1 : IntKind.i64.wrap ((u : Int) / 2) = (u : Int) / 2 := IntWalk.i64_in _ (by omega)
  have v2 : IntKind.i64.wrap (-((u : Int) / 2)) = -((u : Int) / 2) := IntWalk.i64_in _ (by omega)
  have v3 : IntKind.i64.wrap (-((u : Int) / 2) - 1) = -((u : Int) / 2) - 1 := IntWalk.i64_in _ (by omega)
  by_cases h : u % 2 = 1
  · have hf := Lib.hid (unfold_odd u h)
    have i1 : (u : Int) % 2 = 1 := by omega
    clear hu h
    go_enter Try.func16, Try.ntmps16
    go_wp2
    go_ret
    exact ⟨ret_int (by rw [hf.out]), Drw.refl w⟩
  · have hf := Lib.hid (unfold_even u h)
    have i1 : (u : Int) % 2 = 0 := by omega
    clear hu h
    go_enter Try.func16, Try.ntmps16
    go_wp2
    go_ret
    exact ⟨ret_int (by rw [hf.out]), Drw.refl w⟩
theorem runfold_any (u : Nat) (w : World) (hu : u < 18446744073709551616) :
    Calls Try.prog 19 #[.int .u64 u] w fun e w' => e = .returned (.int .i64 (unfoldZ u)) ∧ Drw w w' := by
  have v0 : IntKind.u64.wrap ((u : Int) / 2) = (u : Int) / 2 := u64_in _ (by omega) (by omega)
  have v1 : IntKind.i64.wrap ((u : Int) / 2) = (u : Int) / 2 := IntWalk.i64_in _ (by omega)
  have v2 : IntKind.i64.wrap (-((u : Int) / 2)) = -((u : Int) / 2) := IntWalk.i64_in _ (by omega)
  have v3 : IntKind.i64.wrap (-((u : Int) / 2) - 1) = -((u : Int) / 2) - 1 := IntWalk.i64_in _ (by omega)
  by_cases h : u % 2 = 1
  · have hf := Lib.hid (unfold_odd u h)
    have i1 : (u : Int) % 2 = 1 := by omega
    clear hu h
    go_enter Try.func19, Try.ntmps19
    go_wp2
    go_ret
    exact ⟨ret_int (by rw [hf.out]), Drw.refl w⟩
  · have hf := Lib.hid (unfold_even u h)
    have i1 : (u : Int) % 2 = 0 := by omega
    clear hu h
    go_enter Try.func19, Try.ntmps19
    go_wp2
    go_ret
    exact ⟨ret_int (by rw [hf.out]), Drw.refl w⟩
end Go.Proofs.Ytdhfhkdpgphbiaa
