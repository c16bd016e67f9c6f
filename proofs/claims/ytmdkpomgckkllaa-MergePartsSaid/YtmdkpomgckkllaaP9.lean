/- Cmp, Cmp2, Ord, laid together. -/
import Derived.Test.YtmdkpomgckkllaaP2
import Derived.Lib.Bytealg
import Derived.StillTailTactics
set_option linter.unusedSimpArgs false
set_option linter.unusedVariables false
/- How two values stand: the plain definitions (where the program's own Compare is not in the seat; else tpl/XCmp). -/
namespace Go.Proofs.Ytmdkpomgckkllaa
open Go.RowKit
def cmpI (x y : Int) : Int := if x < y then -1 else if y < x then 1 else 0
end Go.Proofs.Ytmdkpomgckkllaa
/- The contract of moultref1's Bytes (where the seat has no moultref1.Compare; else tpl/XCmp2). -/
namespace Go.Proofs.Ytmdkpomgckkllaa
open Go.RowKit

def CmpRel (a b : List UInt8) (k : Nat) : Prop := Lib.compareBytes (a.drop k) (b.drop k) = Lib.compareBytes a b

theorem drop_at (a : ByteArray) (k : Nat) (h : k < a.size) : a.data.toList.drop k = a[k] :: a.data.toList.drop (k + 1) := by
  rw [List.drop_eq_getElem_cons (by simpa using h)]
  rfl

theorem cmp_lt (a b : ByteArray) (k : Nat) (h : k < a.size) (h' : k < b.size) (hr : CmpRel a.data.toList b.data.toList k) (hl : a[k].toNat < b[k].toNat) : Lib.compareBytes a.data.toList b.data.toList = -1 := by
  rw [← hr, drop_at a k h, drop_at b k h', Lib.compareBytes, if_pos (UInt8.lt_iff_toNat_lt.2 hl)]
theorem cmp_gt (a b : ByteArray) (k : Nat) (h : k < a.size) (h' : k < b.size) (hr : CmpRel a.data.toList b.data.toList k) (hl : b[k].toNat < a[k].toNat) : Lib.compareBytes a.data.toList b.data.toList = 1 := by
  rw [← hr, drop_at a k h, drop_at b k h', Lib.compareBytes, if_neg (by rw [UInt8.lt_iff_toNat_lt]; omega), if_pos (UInt8.lt_iff_toNat_lt.2 hl)]
theorem cmp_eq (a b : ByteArray) (k : Nat) (h : k < a.size) (h' : k < b.size) (hr : CmpRel a.data.toList b.data.toList k) (hl : b[k].toNat = a[k].toNat) : CmpRel a.data.toList b.data.toList (k + 1) := by
  unfold CmpRel
  rw [← hr, drop_at a k h, drop_at b k h', Lib.compareBytes, if_neg (by rw [UInt8.lt_iff_toNat_lt]; omega), if_neg (by rw [UInt8.lt_iff_toNat_lt]; omega)]
theorem cmp_end (a b : ByteArray) (k : Nat) (h : k ≤ a.size) (h' : k ≤ b.size) (hr : CmpRel a.data.toList b.data.toList k) (hl : k = a.size ∨ k = b.size) : Lib.compareBytes a.data.toList b.data.toList = cmpI a.size b.size := by
  rw [← hr]
  have ha : (a.data.toList.drop k).length = a.size - k := by rw [List.length_drop]; rfl
  have hb : (b.data.toList.drop k).length = b.size - k := by rw [List.length_drop]; rfl
  generalize a.data.toList.drop k = l at *
  generalize b.data.toList.drop k = m at *
  cases l <;> cases m <;> simp [Lib.compareBytes, cmpI] at * <;> omega

def BytesRel (a b : ByteArray) (i : Value) : Prop := ∃ k : Nat, k ≤ a.size ∧ k ≤ b.size ∧ i = .int .i64 k ∧ CmpRel a.data.toList b.data.toList k

set_option maxHeartbeats 1000000 in
theorem ref_bytes_any (a b : ByteArray) (w : World) (ha : a.size ≤ maxLen) (hb : b.size ≤ maxLen) :
    Calls Try.prog 47 #[.string a, .string b] w fun e w' => e = .returned (.int .i64 (Lib.compareBytes a.data.toList b.data.toList)) ∧ Drw w w' := by
  unfold maxLen at ha hb
  go_enter Try.func47, Try.ntmps47
  go_wp2
  go_loopw [5] (fun i w' => BytesRel a b i ∧ Drw w w') (fun i _ => a.size - (intOf i).toNat)
  case atStart => exact ⟨⟨0, Nat.zero_le _, Nat.zero_le _, rfl, rfl⟩, Drw.refl _⟩
  case round =>
    obtain ⟨⟨k, hka, hkb, rfl, hr⟩, hw⟩ := hrel
    have HR := Lib.hid hr; clear hr
    have HW := Lib.hid hw; clear hw
    by_cases hla : k < a.size
    · by_cases hlb : k < b.size
      · have i1 : (k : Int) < (a.size : Int) := by omega
        have i2 : (k : Int) < (b.size : Int) := by omega
        by_cases h1 : a[k].toNat < b[k].toNat
        · go_wp2
          go_quiet (fail)
          go_wp2
          go_ret
          exact ⟨ret_int (by rw [cmp_lt a b k hla hlb HR.out h1]), HW.out.drewN _⟩
        · by_cases h2 : b[k].toNat < a[k].toNat
          · go_wp2
            go_quiet (fail)
            go_wp2
            go_quiet (fail)
            go_wp2
            go_ret
            exact ⟨ret_int (by rw [cmp_gt a b k hla hlb HR.out h2]), (HW.out.drewN _).drewN _⟩
          · go_wp2
            go_quiet (fail)
            go_wp2
            go_quiet (fail)
            go_wp2
            go_roundw
            case rel => exact ⟨⟨k + 1, hla, hlb, by go_num, cmp_eq a b k hla hlb HR.out (by omega)⟩, HW.out.drewN _⟩
            case measure => simp [intOf]; omega
      · go_wp2
        all_goals
          go_ret
          refine ⟨ret_int ?_, HW.out⟩
          rw [cmp_end a b k hka hkb HR.out (by omega)]
          go_light
          unfold cmpI
          try (simp; omega)
    · go_wp2
      all_goals
        go_ret
        refine ⟨ret_int ?_, HW.out⟩
        rw [cmp_end a b k hka hkb HR.out (by omega)]
        go_light
        unfold cmpI
        try (simp; omega)

end Go.Proofs.Ytmdkpomgckkllaa
/- Plain mathematics of the order of values. -/
namespace Go.Proofs.Ytmdkpomgckkllaa
open Go.RowKit

theorem cb_zero : ∀ a b : List UInt8, Lib.compareBytes a b = 0 ↔ a = b
  | [], [] => by simp [Lib.compareBytes]
  | [], _ :: _ => by simp [Lib.compareBytes]
  | _ :: _, [] => by simp [Lib.compareBytes]
  | a :: ra, b :: rb => by
    have ih := cb_zero ra rb
    unfold Lib.compareBytes
    by_cases h1 : a < b
    · have h3 : a ≠ b := by intro h; subst h; rw [UInt8.lt_iff_toNat_lt] at h1; omega
      simp [h1, h3]
    · by_cases h2 : b < a
      · have h3 : a ≠ b := by intro h; subst h; rw [UInt8.lt_iff_toNat_lt] at h2; omega
        simp [h1, h2, h3]
      · have h3 : a = b := by
          apply UInt8.toNat_inj.1
          rw [UInt8.lt_iff_toNat_lt] at h1 h2; omega
        simp [h3, ih]
end Go.Proofs.Ytmdkpomgckkllaa
