/- varint.Put and moultref3.Put: one number's bytes. -/
import Derived.Test.YtldkpomkgmilbaaVSize
set_option linter.unusedSimpArgs false
set_option linter.unusedVariables false
namespace Go.Proofs.Ytldkpomkgmilbaa
open Go.RowKit Go.Deep

theorem putL_one (n : Nat) (h : n < 241) : putL n = bigL n 1 := by unfold putL; rw [if_pos h]
theorem putL_two (n : Nat) (h : ¬ n < 241) (h2 : n < 2288) : putL n = bigL (61456 + n) 2 := by unfold putL; rw [if_neg h, if_pos h2]
theorem putL_three (n : Nat) (h : ¬ n < 2288) (h2 : n < 67824) : putL n = bigL (16316176 + n) 3 := by unfold putL; rw [if_neg (by omega), if_neg h, if_pos h2]
theorem putL_more (n : Nat) (h : ¬ n < 67824) : putL n = bigL (246 + szN n) 1 ++ bigL n (szN n - 1) := by
  unfold putL; rw [if_neg (by omega), if_neg (by omega), if_neg h]
  have := szN_le n
  simp only [bigL, List.nil_append, List.singleton_append]
  rw [Nat.mod_eq_of_lt (by omega)]
theorem sz_cases (n : Nat) : (n < 241 → szN n = 1) ∧ (¬ n < 241 → n < 2288 → szN n = 2) ∧ (¬ n < 2288 → n < 67824 → szN n = 3) ∧ (¬ n < 67824 → 4 ≤ szN n) := by
  unfold szN; (repeat' split) <;> omega

theorem ba_append (a b : List UInt8) : (⟨a.toArray⟩ ++ ⟨b.toArray⟩ : ByteArray) = ⟨(a ++ b).toArray⟩ := by apply ByteArray.ext; simp
theorem big_at (x y : Int) (n sz : Nat) (w : World) (hx : x = n) (hy : y = sz) (hs : sz ≤ 9) :
    Calls Try.prog 53 #[.int .u64 x, .int .i64 y] w fun e w' => e = .returned (.string ⟨(bigL n sz).toArray⟩) ∧ Bel w w' := by
  subst hx hy; exact big_any n sz w hs
theorem u64_in (x : Int) (h : 0 ≤ x) (h' : x < 18446744073709551616) : IntKind.u64.wrap x = x := by rw [wrap_u64]; omega

set_option maxHeartbeats 2000000 in
theorem put_any (n : Nat) (w : World) (hn : n < 18446744073709551616) :
    Calls Try.prog 46 #[.int .u64 n] w fun e w' => e = .returned (.string ⟨(putL n).toArray⟩) ∧ Bel w w' := by
  have h9 := szN_le n
  obtain ⟨z1, z2, z3, z4⟩ := sz_cases n
  go_enter Try.func46, Try.ntmps46
  go_wp2_with (fail)
  refine (size_any n w hn).mono ?_
  rintro e w1 ⟨rfl, hw1⟩
  have HW := Lib.hid hw1.bel; clear hw1
  by_cases h1 : n < 241
  · rw [z1 h1]
    clear z1 z2 z3 z4 h9
    go_wp2_with (fail)
    refine (big_any n 1 w1 (by omega)).mono ?_
    rintro e w2 ⟨rfl, hb⟩
    go_wp2_with (fail)
    go_ret
    exact ⟨ret_string (by rw [putL_one n h1]), HW.out.trans hb⟩
  by_cases h2 : n < 2288
  · rw [z2 h1 h2]
    clear z1 z2 z3 z4 h9
    go_wp2_with (fail)
    refine (big_at _ _ (61456 + n) 2 w1 (by omega) (by rfl) (by omega)).mono ?_
    rintro e w2 ⟨rfl, hb⟩
    go_wp2_with (fail)
    go_ret
    exact ⟨ret_string (by rw [putL_two n h1 h2]), HW.out.trans hb⟩
  by_cases h3 : n < 67824
  · rw [z3 h2 h3]
    clear z1 z2 z3 z4 h9
    go_wp2_with (fail)
    refine (big_at _ _ (16316176 + n) 3 w1 (by omega) (by rfl) (by omega)).mono ?_
    rintro e w2 ⟨rfl, hb⟩
    go_wp2_with (fail)
    go_ret
    exact ⟨ret_string (by rw [putL_three n h2 h3]), HW.out.trans hb⟩
  · have hz := z4 h3
    clear z1 z2 z3 z4
    have i1 : ¬ (szN n : Int) = 1 := by omega
    have i2 : ¬ (szN n : Int) = 2 := by omega
    have i3 : ¬ (szN n : Int) = 3 := by omega
    have ew : IntKind.u64.wrap (247 + (szN n : Int) - 1) = 247 + (szN n : Int) - 1 := u64_in _ (by omega) (by omega)
    go_wp2_with (fail)
    refine (big_at _ _ (246 + szN n) 1 w1 (by first | omega | (rw [ew]; omega)) (by rfl) (by omega)).mono ?_
    rintro e w2 ⟨rfl, hb⟩
    have HB := Lib.hid hb; clear hb
    go_wp2_with (fail)
    refine (big_at _ _ n (szN n - 1) w2 (by first | rfl | omega) (by omega) (by omega)).mono ?_
    rintro e w3 ⟨rfl, hb2⟩
    have hl1 := bigL_len 1 (246 + szN n)
    have hl2 := bigL_len (szN n - 1) n
    go_wp2_with (fail)
    go_ret
    exact ⟨ret_string (by rw [putL_more n h3, ba_append]), (HW.out.trans HB.out).trans hb2⟩
end Go.Proofs.Ytldkpomkgmilbaa
