/- filter.Hash and moultref9.Hash. -/
import Derived.Test.YtaabaphpllnieaaIStr
import Derived.Laws.BitsAllLaws
set_option linter.unusedSimpArgs false
set_option linter.unusedVariables false
namespace Go.Proofs.Ytaabaphpllnieaa
open Go.RowKit Go.Deep

def HashRel (s : ByteArray) (v i : Value) : Prop := ∃ k : Nat, k ≤ s.size ∧ i = .int .i64 k ∧ v = .int .u64 (rawN (s.data.toList.take k) : Nat)
theorem raw_snoc (l : List UInt8) (b : UInt8) : rawN (l ++ [b]) = mixN (rawN l) b := by
  unfold rawN
  rw [List.foldl_append, List.foldl_cons, List.foldl_nil]
theorem raw_take (s : ByteArray) (k : Nat) (h : k < s.size) : rawN (s.data.toList.take (k + 1)) = mixN (rawN (s.data.toList.take k)) s[k] := by
  rw [List.take_add_one]
  have e : s.data.toList[k]? = some s[k] := by rw [List.getElem?_eq_getElem (by simpa using h)]; rfl
  rw [e, Option.toList_some, raw_snoc]
theorem raw_all (s : ByteArray) : s.data.toList.take s.size = s.data.toList := by
  have : s.data.toList.length = s.size := rfl
  rw [← this, List.take_length]
theorem wrap9_u64 (x : Int) : IntKind.u64.wrap x = x % 18446744073709551616 := by simp [IntKind.wrap, IntKind.bits, IntKind.signed]
theorem mix_walk (h : Nat) (b : UInt8) (hh : h < 18446744073709551616) : IntKind.u64.wrap (bits .xor .u64 (h : Int) (IntKind.u64.wrap (b.toNat : Int)) * 1099511628211) = (mixN h b : Nat) := by
  have hb := b.toNat_lt
  have e : IntKind.u64.wrap (b.toNat : Int) = (b.toNat : Int) := by rw [wrap9_u64]; omega
  rw [e, u64_xor_nat h b.toNat hh (by omega), wrap9_u64]
  unfold mixN
  generalize h ^^^ b.toNat = c
  omega
theorem fold_walk (h : Nat) (hh : h < 18446744073709551616) : bits .xor .u64 (h : Int) ((h : Int) / 8589934592) = ((h ^^^ (h / 8589934592) : Nat) : Int) := by
  have e : (h : Int) / 8589934592 = ((h / 8589934592 : Nat) : Int) := by omega
  rw [e, u64_xor_nat h (h / 8589934592) hh (by omega)]
theorem hash_end (s : ByteArray) : bits .xor .u64 (rawN s.data.toList : Int) ((rawN s.data.toList : Int) / 8589934592) = (hashN s.data.toList : Nat) := fold_walk _ (rawN_lt _)

theorem hash_end2 (s : ByteArray) : bits .xor .u64 (rawN s.data.toList : Int) (IntKind.u64.wrap ((rawN s.data.toList : Int) / 8589934592)) = (hashN s.data.toList : Nat) := by
  have h := rawN_lt s.data.toList
  rw [← hash_end, wrap9_u64]
  congr 1
  omega

set_option maxHeartbeats 1000000 in
theorem hash_any (s : ByteArray) (w : World) (hs : s.size ≤ maxLen) :
    Calls Try.prog 10 #[.string s] w fun e w' => e = .returned (.int .u64 (hashN s.data.toList : Nat)) ∧ Drw w w' := by
  unfold maxLen at hs
  go_enter Try.func10, Try.ntmps10
  go_wp2_with (fail)
  go_loopw [3, 7] (fun h i x => HashRel s h i ∧ Drw w x) (fun _ i _ => s.size - (intOf i).toNat)
  case atStart => exact ⟨⟨0, Nat.zero_le _, rfl, rfl⟩, Drw.refl w⟩
  case round =>
    obtain ⟨⟨k, hk, rfl, rfl⟩, hw⟩ := hrel
    have HW := Lib.hid hw; clear hw
    by_cases hlt : k < s.size
    · go_wp2_with (fail)
      refine ⟨⟨⟨k + 1, hlt, by go_num, ?_⟩, HW.out⟩, by simp [intOf]; omega⟩
      rw [mix_walk _ _ (rawN_lt _), raw_take s k hlt]
    · obtain rfl : k = s.size := by omega
      have HE := Lib.hid (hash_end s)
      have HA := Lib.hid (raw_all s)
      go_wp2_with (fail)
      go_ret
      exact ⟨by rw [HA.out, HE.out]; rfl, HW.out⟩
set_option maxHeartbeats 1000000 in
theorem rhash_any (s : ByteArray) (w : World) (hs : s.size ≤ maxLen) :
    Calls Try.prog 11 #[.string s] w fun e w' => e = .returned (.int .u64 (hashN s.data.toList : Nat)) ∧ Drw w w' := by
  unfold maxLen at hs
  go_enter Try.func11, Try.ntmps11
  go_wp2_with (fail)
  go_loopw [3, 4] (fun h i x => HashRel s h i ∧ Drw w x) (fun _ i _ => s.size - (intOf i).toNat)
  case atStart => exact ⟨⟨0, Nat.zero_le _, rfl, rfl⟩, Drw.refl w⟩
  case round =>
    obtain ⟨⟨k, hk, rfl, rfl⟩, hw⟩ := hrel
    have HW := Lib.hid hw; clear hw
    by_cases hlt : k < s.size
    · go_wp2_with (fail)
      refine ⟨⟨⟨k + 1, hlt, by go_num, ?_⟩, HW.out⟩, by simp [intOf]; omega⟩
      rw [mix_walk _ _ (rawN_lt _), raw_take s k hlt]
    · obtain rfl : k = s.size := by omega
      have HE := Lib.hid (hash_end2 s)
      have HA := Lib.hid (raw_all s)
      go_wp2_with (fail)
      go_ret
      exact ⟨by rw [HA.out, HE.out]; rfl, HW.out⟩
end Go.Proofs.Ytaabaphpllnieaa
