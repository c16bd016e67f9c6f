/- varint.big, varint.sum: the last bytes of a number, and the number of some bytes. -/
import Derived.Test.YtldkpomkgmilbaaOwn
import Derived.Test.YtldkpomkgmilbaaVMath
import Derived.Deep.OwnRows
set_option linter.unusedSimpArgs false
set_option linter.unusedVariables false
namespace Go.Proofs.Ytldkpomkgmilbaa
open Go.RowKit Go.Deep

def BigRel (n sz : Nat) (w : World) (i : Value) (x : World) : Prop := ∃ k : Nat, k ≤ sz ∧ i = .int .i64 k ∧
  x.rowIs w.heap.size 5 sz (fun j => if sz - k ≤ j then .int .u8 ((n / 256 ^ (sz - 1 - j) % 256 : Nat) : Int) else .int .u8 0) ∧ Bel w x

theorem bigL_get : ∀ (sz n j : Nat), j < sz → (bigL n sz)[j]? = some (UInt8.ofNat (n / 256 ^ (sz - 1 - j) % 256))
  | 0, n, j, h => by omega
  | sz + 1, n, 0, h => by rw [bigL_cons]; simp
  | sz + 1, n, j + 1, h => by
    rw [bigL_cons, List.getElem?_cons_succ, bigL_get sz n j (by omega)]
    have e : sz - 1 - j = sz + 1 - 1 - (j + 1) := by omega
    rw [e]
theorem shr_byte (n k : Nat) : (n : Int) / 2 ^ (8 * k) % 256 = ((n / 256 ^ k % 256 : Nat) : Int) := by
  have e : (2 : Int) ^ (8 * k) = ((256 ^ k : Nat) : Int) := by rw [Int.pow_mul]; simp
  rw [e]; simp

set_option maxHeartbeats 1000000 in
theorem big_any (n sz : Nat) (w : World) (hs : sz ≤ 9) :
    Calls Try.prog 53 #[.int .u64 n, .int .i64 sz] w fun e w' => e = .returned (.string ⟨(bigL n sz).toArray⟩) ∧ Bel w w' := by
  have hmk := run_make_row' (P := Try.prog) 57 5 (.int .u8 0) 1 Try.underlying57 infoByte rfl .i64 .i64 sz (by omega) (by omega)
  go_enter Try.func53, Try.ntmps53
  go_wp2
  go_loopw [11] (fun i x => BigRel n sz w i x) (fun i _ => sz - (intOf i).toNat)
  case atStart => exact ⟨0, Nat.zero_le _, rfl, (World.rowIs_made w (.int .u8 0) sz 5).congr fun j hj => by rw [if_neg (by omega)], (Bel.refl w).alloc _⟩
  case round =>
    obtain ⟨k, hk, rfl, hrow, hb⟩ := hrel
    have HR := Lib.hid hrow; clear hrow
    have HB := Lib.hid hb; clear hb
    by_cases hlt : k < sz
    · obtain ⟨j, rfl⟩ : ∃ j, sz = k + 1 + j := ⟨sz - (k + 1), by omega⟩
      have hc := HR.out.cell (i := j) (by omega)
      have hf := HR.out.frozen j
      go_wp2
      go_roundw
      case rel =>
        refine ⟨k + 1, by omega, by go_num, ?_, HB.out.setCell (Nat.le_refl _) _⟩
        refine (HR.out.set j _).congr fun i hi => ?_
        by_cases he : i = j
        · subst he
          rw [if_pos rfl, if_pos (by omega), shr_byte]
          have e : k + 1 + i - 1 - i = k := by omega
          rw [e]
        · rw [if_neg he]
          by_cases hp : k + 1 + j - k ≤ i
          · rw [if_pos hp, if_pos (by omega)]
          · rw [if_neg hp, if_neg (by omega)]
      case measure => simp [intOf]; omega
    · obtain rfl : k = sz := by omega
      have hcv : (convert 57 9 (.slice (some ⟨w.heap.size, 0, none⟩) k k)).run Try.prog wr = .ok (.string ⟨(bigL n k).toArray⟩) wr := by
        have h0 := run_convert_bytes_back wr 57 9 5 ⟨w.heap.size, 0, none⟩ k (bigL n k) Try.underlying57 Try.underlying5 Try.underlying9 (fun j hj => by
          rw [bigL_len] at hj
          have e : (⟨w.heap.size, 0, none⟩ : Addr).add j = ⟨w.heap.size, j, none⟩ := by cases j <;> simp [Addr.add]
          have hg := bigL_get k n j hj
          rw [List.getElem?_eq_getElem (by rw [bigL_len]; exact hj)] at hg
          rw [e, HR.out.cell hj, if_pos (by omega), Option.some.inj hg]
          simp)
        rw [bigL_len] at h0
        exact h0
      go_wp2
      go_ret
      exact ⟨rfl, HB.out⟩

theorem wrap_u64 (x : Int) : IntKind.u64.wrap x = x % 18446744073709551616 := by simp [IntKind.wrap, IntKind.bits, IntKind.signed]
theorem wrap_step (a : Nat) (b : UInt8) : IntKind.u64.wrap (IntKind.u64.wrap ((a : Int) % 18446744073709551616 * 256) + IntKind.u64.wrap (b.toNat : Int)) = (((a * 256 + b.toNat) % 18446744073709551616 : Nat) : Int) := by
  rw [wrap_u64, wrap_u64, wrap_u64]; omega

def SumRel (s : ByteArray) (v i : Value) : Prop := ∃ k : Nat, k ≤ s.size ∧ i = .int .i64 k ∧ v = .int .u64 ((sumL (s.data.toList.take k) % 18446744073709551616 : Nat) : Int)

theorem sumL_take (s : ByteArray) (k : Nat) (h : k < s.size) : sumL (s.data.toList.take (k + 1)) = sumL (s.data.toList.take k) * 256 + s[k].toNat := by
  rw [← sumL_snoc, List.take_add_one]
  have e : s.data.toList[k]? = some s[k] := by rw [List.getElem?_eq_getElem (by simpa using h)]; rfl
  rw [e]; rfl

set_option maxHeartbeats 1000000 in
theorem sum_any (s : ByteArray) (w : World) (hs : s.size ≤ maxLen) :
    Calls Try.prog 56 #[.string s] w fun e w' => e = .returned (.int .u64 ((sumL s.data.toList % 18446744073709551616 : Nat) : Int)) ∧ Drw w w' := by
  unfold maxLen at hs
  go_enter Try.func56, Try.ntmps56
  go_wp2
  go_loopw [3, 7] (fun v i x => SumRel s v i ∧ Drw w x) (fun _ i _ => s.size - (intOf i).toNat)
  case atStart => exact ⟨⟨0, Nat.zero_le _, rfl, rfl⟩, Drw.refl _⟩
  case round =>
    obtain ⟨⟨k, hk, rfl, rfl⟩, hw⟩ := hrel
    have HW := Lib.hid hw; clear hw
    by_cases hlt : k < s.size
    · go_wp2
      go_roundw
      case rel =>
        refine ⟨⟨k + 1, hlt, by go_num, ?_⟩, HW.out⟩
        rw [sumL_take s k hlt]
        exact congrArg _ (wrap_step _ _)
      case measure => simp [intOf]; omega
    · go_wp2
      go_ret
      obtain rfl : k = s.size := by omega
      refine ⟨ret_int ?_, HW.out⟩
      have e : s.data.toList.take s.size = s.data.toList := List.take_of_length_le (Nat.le_refl _)
      rw [e]
end Go.Proofs.Ytldkpomkgmilbaa
