/- CSum, laid together. -/
import Derived.Test.YtfbiinnenlgkfaaGreatDoorR3
import Derived.Test.YtfbiinnenlgkfaaGreatDoorR1
import Derived.Laws.BitsAllLaws
import Derived.Deep.OwnRows
set_option linter.unusedSimpArgs false
set_option linter.unusedVariables false
namespace Go.Proofs.YtfbiinnenlgkfaaGreatDoor
open Go.RowKit Go.Deep

theorem turn_odd {n : Nat} (h : n % 2 = 1) : turnN n = n / 2 ^^^ 3988292384 := by unfold turnN; rw [if_pos h]
theorem turn_even {n : Nat} (h : ¬ n % 2 = 1) : turnN n = n / 2 := by unfold turnN; rw [if_neg h]

theorem rturn_any (n : Nat) (w : World) (hn : n < 4294967296) :
  Calls Tryz.prog 156 #[.int .u32 n] w fun e w' => e = .returned (.int .u32 (turnN n : Nat)) ∧ Drw w w' := by
 by_cases h : n % 2 = 1
 ·have ht := Lib.hid (turn_odd h)
  have t1 : ((n : Int) % 2 == 1) = true := by rw [beq_iff_eq]; omega
  have t2 : bits .xor .u32 ((n : Int) / 2) 3988292384 = ((n / 2 ^^^ 3988292384 : Nat) : Int) := by
   have := u32_xor_nat (n / 2) 3988292384 (by omega) (by omega)
   rw [← this]; rfl
  go_enter Tryz.func156, Tryz.ntmps156
  go_wp2
  go_ret
  exact ⟨ret_int (by rw [ht.out]), Drw.refl w⟩
 ·have ht := Lib.hid (turn_even h)
  have t1 : ((n : Int) % 2 == 1) = false := by rw [beq_eq_false_iff_ne]; omega
  go_enter Tryz.func156, Tryz.ntmps156
  go_wp2
  go_ret
  exact ⟨ret_int (by rw [ht.out]; omega), Drw.refl w⟩

def SumRel5 (s : ByteArray) (n i : Value) : Prop := ∃ k : Nat, k ≤ s.size ∧ i = .int .i64 k ∧ n = .int .u32 ((runN 4294967295 (s.data.toList.take k) : Nat) : Int)
def TurnRel (m : Nat) (n i : Value) : Prop := ∃ k : Nat, k ≤ 8 ∧ i = .int .i64 k ∧ n = .int .u32 ((turnsN m k : Nat) : Int)
theorem runL_take (n : Nat) (s : ByteArray) (k : Nat) (h : k < s.size) : runN n (s.data.toList.take (k + 1)) = feedN (runN n (s.data.toList.take k)) s[k].toNat := by
 rw [List.take_add_one]
 have e : s.data.toList[k]? = some s[k] := by rw [List.getElem?_eq_getElem (by simpa using h)]; rfl
 rw [e]
 exact run_snoc _ _ _
set_option maxHeartbeats 2000000 in
theorem sum5_any (s : ByteArray) (w : World) (hs : s.size ≤ maxLen) :
  Calls Tryz.prog 148 #[.string s] w fun e w' => e = .returned (.int .u32 ((crcN s.data.toList : Nat) : Int)) ∧ Drw w w' := by
 unfold maxLen at hs
 go_enter Tryz.func148, Tryz.ntmps148
 go_wp2
 go_loopw [3, 7] (fun n i x => SumRel5 s n i ∧ Drw w x) (fun _ i _ => s.size - (intOf i).toNat)
 case atStart => exact ⟨⟨0, Nat.zero_le _, rfl, rfl⟩, Drw.refl _⟩
 case round =>
  obtain ⟨⟨k, hk, rfl, rfl⟩, hw⟩ := hrel
  have HW := Lib.hid hw; clear hw
  by_cases hlt : k < s.size
  ·obtain ⟨r, hr⟩ : ∃ r, r = runN 4294967295 (s.data.toList.take k) := ⟨_, rfl⟩
   have hrl : r < 4294967296 := by rw [hr]; exact run_lt _ (by omega)
   have hbl := byte_lt s[k]
   have t1 : bits .xor .u32 (r : Int) (s[k].toNat : Int) = ((r ^^^ s[k].toNat : Nat) : Int) := u32_xor_nat _ _ hrl hbl
   have hml : r ^^^ s[k].toNat < 4294967296 := Nat.xor_lt_two_pow (n := 32) hrl hbl
   have HN := Lib.hid (show runN 4294967295 (s.data.toList.take (k + 1)) = turnsN (r ^^^ s[k].toNat) 8 by rw [runL_take _ s k hlt, ← hr]; rfl)
   rw [← hr]
   clear hr
   go_wp2
   generalize r ^^^ s[k].toNat = m at *
   go_loopw [3, 16] (fun n i x => TurnRel m n i ∧ Drw w x) (fun _ i _ => 8 - (intOf i).toNat)
   case atStart => exact ⟨⟨0, Nat.zero_le _, rfl, rfl⟩, HW.out⟩
   case round =>
    obtain ⟨⟨j, hj, rfl, rfl⟩, hw2⟩ := hrel
    have HW2 := Lib.hid hw2; clear hw2
    by_cases hj8 : j < 8
    ·have HT := Lib.hid (show turnsN m (j + 1) = turnN (turnsN m j) from rfl)
     have hxl := turns_lt hml j
     generalize turnsN m j = x at *
     by_cases ho : x % 2 = 1
     ·have t2 : bits .and .u32 (x : Int) 1 = 1 := by
       have := u32_and_nat x 1 hxl (by omega)
       rw [nat_mask1, ho] at this
       exact this
      have t3 : bits .xor .u32 ((x : Int) / 2) 3988292384 = ((x / 2 ^^^ 3988292384 : Nat) : Int) := by
       have := u32_xor_nat (x / 2) 3988292384 (by omega) (by omega)
       rw [← this]; rfl
      have HO := Lib.hid (turn_odd ho)
      clear ho
      go_wp2
      go_roundw
      case rel => exact ⟨⟨j + 1, by omega, by go_num, by rw [HT.out, HO.out]⟩, HW2.out⟩
      case measure => simp [intOf]; omega
     ·have t2 : bits .and .u32 (x : Int) 1 = 0 := by
       have := u32_and_nat x 1 hxl (by omega)
       rw [nat_mask1, show x % 2 = 0 by omega] at this
       exact this
      have t3 : bits .xor .u32 ((x : Int) / 2) 0 = ((x / 2 : Nat) : Int) := by
       have := u32_xor_nat (x / 2) 0 (by omega) (by omega)
       rw [Nat.xor_zero] at this
       rw [← this]; rfl
      have HO := Lib.hid (turn_even ho)
      clear ho
      go_wp2
      go_roundw
      case rel => exact ⟨⟨j + 1, by omega, by go_num, by rw [HT.out, HO.out]; go_num⟩, HW2.out⟩
      case measure => simp [intOf]; omega
    ·obtain rfl : j = 8 := by omega
     rw [← HN.out]
     go_wp2
     go_roundw
     case rel => exact ⟨⟨k + 1, by omega, by go_num, rfl⟩, HW2.out⟩
     case measure => simp [intOf]; omega
  ·have HE := Lib.hid (show s.data.toList.take k = s.data.toList from List.take_of_length_le (by show s.size ≤ k; omega))
   have hrl := run_lt (s.data.toList.take k) (n := 4294967295) (by omega)
   have HC := Lib.hid (show crcN s.data.toList = 4294967295 - runN 4294967295 (s.data.toList.take k) by rw [HE.out]; rfl)
   generalize runN 4294967295 (s.data.toList.take k) = r at *
   have HX := Lib.hid (show bits .xor .u32 IntKind.u32.max (r : Int) = ((4294967295 - r : Nat) : Int) by
    rw [compl_xor hrl, Nat.xor_comm]; exact u32_xor_nat 4294967295 r (by omega) hrl)
   go_wp2
   go_ret
   exact ⟨ret_int (by rw [HC.out, HX.out]), HW.out⟩

set_option maxHeartbeats 2000000 in
theorem rsum5_any (s : ByteArray) (w : World) (hs : s.size ≤ maxLen) :
  Calls Tryz.prog 134 #[.string s] w fun e w' => e = .returned (.int .u32 ((crcN s.data.toList : Nat) : Int)) ∧ Drw w w' := by
 unfold maxLen at hs
 go_enter Tryz.func134, Tryz.ntmps134
 go_wp2
 go_loopw [3, 4] (fun n i x => SumRel5 s n i ∧ Drw w x) (fun _ i _ => s.size - (intOf i).toNat)
 case atStart => exact ⟨⟨0, Nat.zero_le _, rfl, rfl⟩, Drw.refl _⟩
 case round =>
  obtain ⟨⟨k, hk, rfl, rfl⟩, hw⟩ := hrel
  have HW := Lib.hid hw; clear hw
  by_cases hlt : k < s.size
  ·obtain ⟨r, hr⟩ : ∃ r, r = runN 4294967295 (s.data.toList.take k) := ⟨_, rfl⟩
   have hrl : r < 4294967296 := by rw [hr]; exact run_lt _ (by omega)
   have hbl := byte_lt s[k]
   have t1 : bits .xor .u32 (r : Int) (s[k].toNat : Int) = ((r ^^^ s[k].toNat : Nat) : Int) := u32_xor_nat _ _ hrl hbl
   have hml : r ^^^ s[k].toNat < 4294967296 := Nat.xor_lt_two_pow (n := 32) hrl hbl
   have HN := Lib.hid (show runN 4294967295 (s.data.toList.take (k + 1)) = turnsN (r ^^^ s[k].toNat) 8 by rw [runL_take _ s k hlt, ← hr]; rfl)
   rw [← hr]
   clear hr
   go_wp2
   generalize r ^^^ s[k].toNat = m at *
   go_loopw [3, 5] (fun n i x => TurnRel m n i ∧ Drw w x) (fun _ i _ => 8 - (intOf i).toNat)
   case atStart => exact ⟨⟨0, Nat.zero_le _, rfl, rfl⟩, HW.out⟩
   case round =>
    obtain ⟨⟨j, hj, rfl, rfl⟩, hw2⟩ := hrel
    have HW2 := Lib.hid hw2; clear hw2
    by_cases hj8 : j < 8
    ·have HT := Lib.hid (show turnsN m (j + 1) = turnN (turnsN m j) from rfl)
     have hxl := turns_lt hml j
     generalize turnsN m j = x at *
     go_wp2_with (fail)
     refine (rturn_any x _ hxl).mono ?_
     rintro e w1 ⟨rfl, hd⟩
     replace HW2 := Lib.hid (HW2.out.trans hd); clear hd
     go_wp2
     go_roundw
     case rel => exact ⟨⟨j + 1, by omega, by go_num, by rw [HT.out]⟩, HW2.out⟩
     case measure => simp [intOf]; omega
    ·obtain rfl : j = 8 := by omega
     rw [← HN.out]
     go_wp2
     go_roundw
     case rel => exact ⟨⟨k + 1, by omega, by go_num, rfl⟩, HW2.out⟩
     case measure => simp [intOf]; omega
  ·have HE := Lib.hid (show s.data.toList.take k = s.data.toList from List.take_of_length_le (by show s.size ≤ k; omega))
   have hrl := run_lt (s.data.toList.take k) (n := 4294967295) (by omega)
   have HC := Lib.hid (show crcN s.data.toList = 4294967295 - runN 4294967295 (s.data.toList.take k) by rw [HE.out]; rfl)
   generalize runN 4294967295 (s.data.toList.take k) = r at *
   go_wp2
   go_ret
   exact ⟨ret_int (by rw [HC.out]; omega), HW.out⟩
end Go.Proofs.YtfbiinnenlgkfaaGreatDoor
