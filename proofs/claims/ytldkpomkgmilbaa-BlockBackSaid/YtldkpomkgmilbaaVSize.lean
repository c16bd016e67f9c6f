/- varint.Size: how many bytes a number's are. -/
import Derived.Test.YtldkpomkgmilbaaVBig
import Derived.WalkMore
set_option linter.unusedSimpArgs false
set_option linter.unusedVariables false
namespace Go.Proofs.Ytldkpomkgmilbaa
open Go.RowKit Go.Deep

def SizeRel (n : Nat) (i : Value) : Prop := ∃ j : Nat, 1 ≤ j ∧ j ≤ szN n ∧ i = .int .i64 j
theorem sz_lt1 (n : Nat) (hn : n < 18446744073709551616) (h1 : 1 ≤ szN n) : (n < 241 → szN n = 1) ∧ (¬ n < 241 → 1 + 1 ≤ szN n) := by
  revert h1; unfold szN; repeat' split
  all_goals omega
theorem sz_lt2 (n : Nat) (hn : n < 18446744073709551616) (h1 : 2 ≤ szN n) : (n < 2288 → szN n = 2) ∧ (¬ n < 2288 → 2 + 1 ≤ szN n) := by
  revert h1; unfold szN; repeat' split
  all_goals omega
theorem sz_lt3 (n : Nat) (hn : n < 18446744073709551616) (h1 : 3 ≤ szN n) : (n < 67824 → szN n = 3) ∧ (¬ n < 67824 → 3 + 1 ≤ szN n) := by
  revert h1; unfold szN; repeat' split
  all_goals omega
theorem sz_lt4 (n : Nat) (hn : n < 18446744073709551616) (h1 : 4 ≤ szN n) : (n < 16777216 → szN n = 4) ∧ (¬ n < 16777216 → 4 + 1 ≤ szN n) := by
  revert h1; unfold szN; repeat' split
  all_goals omega
theorem sz_lt5 (n : Nat) (hn : n < 18446744073709551616) (h1 : 5 ≤ szN n) : (n < 4294967296 → szN n = 5) ∧ (¬ n < 4294967296 → 5 + 1 ≤ szN n) := by
  revert h1; unfold szN; repeat' split
  all_goals omega
theorem sz_lt6 (n : Nat) (hn : n < 18446744073709551616) (h1 : 6 ≤ szN n) : (n < 1099511627776 → szN n = 6) ∧ (¬ n < 1099511627776 → 6 + 1 ≤ szN n) := by
  revert h1; unfold szN; repeat' split
  all_goals omega
theorem sz_lt7 (n : Nat) (hn : n < 18446744073709551616) (h1 : 7 ≤ szN n) : (n < 281474976710656 → szN n = 7) ∧ (¬ n < 281474976710656 → 7 + 1 ≤ szN n) := by
  revert h1; unfold szN; repeat' split
  all_goals omega
theorem sz_lt8 (n : Nat) (hn : n < 18446744073709551616) (h1 : 8 ≤ szN n) : (n < 72057594037927936 → szN n = 8) ∧ (¬ n < 72057594037927936 → 8 + 1 ≤ szN n) := by
  revert h1; unfold szN; repeat' split
  all_goals omega
theorem sz_lt9 (n : Nat) (hn : n < 18446744073709551616) (h1 : 9 ≤ szN n) : (n < 18446744073709551616 → szN n = 9) ∧ (¬ n < 18446744073709551616 → 9 + 1 ≤ szN n) := by
  revert h1; unfold szN; repeat' split
  all_goals omega
set_option maxHeartbeats 2000000 in
theorem size_any (n : Nat) (w : World) (hn : n < 18446744073709551616) :
    Calls Try.prog 52 #[.int .u64 n] w fun e w' => e = .returned (.int .i64 (szN n)) ∧ Drw w w' := by
  go_enter Try.func52, Try.ntmps52
  go_wp2
  go_step3
  go_wp2
  go_step3
  go_wp2
  go_loopw [3] (fun i x => SizeRel n i ∧ Drw w x) (fun i _ => 9 - (intOf i).toNat)
  case atStart => exact ⟨⟨1, Nat.le_refl _, szN_pos n, rfl⟩, Drw.refl _⟩
  case round =>
    obtain ⟨⟨j, h1, h2, rfl⟩, hw⟩ := hrel
    have HW := Lib.hid hw; clear hw
    have h9 := szN_le n
    obtain rfl | rfl | rfl | rfl | rfl | rfl | rfl | rfl | rfl : j = 1 ∨ j = 2 ∨ j = 3 ∨ j = 4 ∨ j = 5 ∨ j = 6 ∨ j = 7 ∨ j = 8 ∨ j = 9 := by omega
    · have hz := Lib.hid (sz_lt1 n hn h2)
      by_cases hlt : n < 241
      · have i1 : (n : Int) < 241 := by omega
        clear h2 h9
        go_wp2
        try rw [Exit.noGoto_ret]
        go_ret
        exact ⟨ret_int (by rw [hz.out.1 hlt]), HW.out⟩
      · have i1 : ¬ (n : Int) < 241 := by omega
        clear h9
        go_wp2
        go_roundw
        case rel => exact ⟨⟨2, by omega, hz.out.2 hlt, rfl⟩, HW.out⟩
        case measure => simp [intOf]
    · have hz := Lib.hid (sz_lt2 n hn h2)
      by_cases hlt : n < 2288
      · have i1 : (n : Int) < 2288 := by omega
        clear h2 h9
        go_wp2
        try rw [Exit.noGoto_ret]
        go_ret
        exact ⟨ret_int (by rw [hz.out.1 hlt]), HW.out⟩
      · have i1 : ¬ (n : Int) < 2288 := by omega
        clear h9
        go_wp2
        go_roundw
        case rel => exact ⟨⟨3, by omega, hz.out.2 hlt, rfl⟩, HW.out⟩
        case measure => simp [intOf]
    · have hz := Lib.hid (sz_lt3 n hn h2)
      by_cases hlt : n < 67824
      · have i1 : (n : Int) < 67824 := by omega
        clear h2 h9
        go_wp2
        try rw [Exit.noGoto_ret]
        go_ret
        exact ⟨ret_int (by rw [hz.out.1 hlt]), HW.out⟩
      · have i1 : ¬ (n : Int) < 67824 := by omega
        clear h9
        go_wp2
        go_roundw
        case rel => exact ⟨⟨4, by omega, hz.out.2 hlt, rfl⟩, HW.out⟩
        case measure => simp [intOf]
    · have hz := Lib.hid (sz_lt4 n hn h2)
      by_cases hlt : n < 16777216
      · have i1 : (n : Int) / 16777216 = 0 := by omega
        clear h2 h9
        go_wp2
        try rw [Exit.noGoto_ret]
        go_ret
        exact ⟨ret_int (by rw [hz.out.1 hlt]), HW.out⟩
      · have i1 : ¬ (n : Int) / 16777216 = 0 := by omega
        clear h9
        go_wp2
        go_roundw
        case rel => exact ⟨⟨5, by omega, hz.out.2 hlt, rfl⟩, HW.out⟩
        case measure => simp [intOf]
    · have hz := Lib.hid (sz_lt5 n hn h2)
      by_cases hlt : n < 4294967296
      · have i1 : (n : Int) / 4294967296 = 0 := by omega
        clear h2 h9
        go_wp2
        try rw [Exit.noGoto_ret]
        go_ret
        exact ⟨ret_int (by rw [hz.out.1 hlt]), HW.out⟩
      · have i1 : ¬ (n : Int) / 4294967296 = 0 := by omega
        clear h9
        go_wp2
        go_roundw
        case rel => exact ⟨⟨6, by omega, hz.out.2 hlt, rfl⟩, HW.out⟩
        case measure => simp [intOf]
    · have hz := Lib.hid (sz_lt6 n hn h2)
      by_cases hlt : n < 1099511627776
      · have i1 : (n : Int) / 1099511627776 = 0 := by omega
        clear h2 h9
        go_wp2
        try rw [Exit.noGoto_ret]
        go_ret
        exact ⟨ret_int (by rw [hz.out.1 hlt]), HW.out⟩
      · have i1 : ¬ (n : Int) / 1099511627776 = 0 := by omega
        clear h9
        go_wp2
        go_roundw
        case rel => exact ⟨⟨7, by omega, hz.out.2 hlt, rfl⟩, HW.out⟩
        case measure => simp [intOf]
    · have hz := Lib.hid (sz_lt7 n hn h2)
      by_cases hlt : n < 281474976710656
      · have i1 : (n : Int) / 281474976710656 = 0 := by omega
        clear h2 h9
        go_wp2
        try rw [Exit.noGoto_ret]
        go_ret
        exact ⟨ret_int (by rw [hz.out.1 hlt]), HW.out⟩
      · have i1 : ¬ (n : Int) / 281474976710656 = 0 := by omega
        clear h9
        go_wp2
        go_roundw
        case rel => exact ⟨⟨8, by omega, hz.out.2 hlt, rfl⟩, HW.out⟩
        case measure => simp [intOf]
    · have hz := Lib.hid (sz_lt8 n hn h2)
      by_cases hlt : n < 72057594037927936
      · have i1 : (n : Int) / 72057594037927936 = 0 := by omega
        clear h2 h9
        go_wp2
        try rw [Exit.noGoto_ret]
        go_ret
        exact ⟨ret_int (by rw [hz.out.1 hlt]), HW.out⟩
      · have i1 : ¬ (n : Int) / 72057594037927936 = 0 := by omega
        clear h9
        go_wp2
        go_roundw
        case rel => exact ⟨⟨9, by omega, hz.out.2 hlt, rfl⟩, HW.out⟩
        case measure => simp [intOf]
    · have hz := Lib.hid (sz_lt9 n hn h2)
      have hlt : n < 18446744073709551616 := by omega
      have i1 : (n : Int) / 18446744073709551616 = 0 := by omega
      clear h2 h9
      go_wp2
      try rw [Exit.noGoto_ret]
      go_ret
      exact ⟨ret_int (by rw [hz.out.1 hlt]), HW.out⟩
end Go.Proofs.Ytldkpomkgmilbaa
