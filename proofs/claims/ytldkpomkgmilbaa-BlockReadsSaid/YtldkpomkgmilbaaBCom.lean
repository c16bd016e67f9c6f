/- block.Common and moultref8.Common: how many bytes two texts begin with alike; block.length and moultref8.size: a length's bytes. -/
import Derived.Test.YtldkpomkgmilbaaBMath
import Derived.Test.YtldkpomkgmilbaaVPut
import Derived.Test.YtldkpomkgmilbaaVRef
set_option linter.unusedSimpArgs false
set_option linter.unusedVariables false
namespace Go.Proofs.Ytldkpomkgmilbaa
open Go.RowKit Go.Deep

def ComRel (a b : ByteArray) (i : Value) : Prop := ∃ k : Nat, k ≤ a.size ∧ k ≤ b.size ∧ k ≤ comL a.data.toList b.data.toList ∧ i = .int .i64 k
theorem com_more (a b : ByteArray) (k : Nat) (hk : k ≤ comL a.data.toList b.data.toList) (ha : k < a.size) (hb : k < b.size) (h : a[k].toNat = b[k].toNat) : k + 1 ≤ comL a.data.toList b.data.toList :=
  com_step a.data.toList b.data.toList k hk ha hb (UInt8.toNat_inj.1 h)
theorem com_end (a b : ByteArray) (k : Nat) (hk : k ≤ comL a.data.toList b.data.toList) (h : k = a.size ∨ k = b.size ∨ ∃ (ha : k < a.size) (hb : k < b.size), a[k].toNat ≠ b[k].toNat) : k = comL a.data.toList b.data.toList := by
  refine com_stop _ _ k hk ?_
  rcases h with h | h | ⟨h1, h2, h3⟩
  · exact Or.inl h
  · exact Or.inr (Or.inl h)
  · exact Or.inr (Or.inr ⟨h1, h2, fun e => h3 (by rw [show a[k] = b[k] from e])⟩)

set_option maxHeartbeats 2000000 in
theorem common_any (a b : ByteArray) (w : World) (ha : a.size ≤ maxLen) (hb : b.size ≤ maxLen) :
    Calls Try.prog 15 #[.string a, .string b] w fun e w' => e = .returned (.int .i64 (comL a.data.toList b.data.toList : Nat)) ∧ Drw w w' := by
  unfold maxLen at ha hb
  go_enter Try.func15, Try.ntmps15
  go_wp2
  go_loopw [5] (fun i w' => ComRel a b i ∧ Drw w w') (fun i _ => a.size - (intOf i).toNat)
  case atStart => exact ⟨⟨0, Nat.zero_le _, Nat.zero_le _, Nat.zero_le _, rfl⟩, Drw.refl _⟩
  case round =>
    obtain ⟨⟨k, hka, hkb, hk, rfl⟩, hw⟩ := hrel
    have HK := Lib.hid hk; clear hk
    have HW := Lib.hid hw; clear hw
    by_cases hla : k < a.size
    · have i1 : (k : Int) < (a.size : Int) := by omega
      by_cases hlb : k < b.size
      · have i2 : (k : Int) < (b.size : Int) := by omega
        by_cases h : a[k].toNat = b[k].toNat
        · have HN := Lib.hid (com_more a b k HK.out hla hlb h)
          go_wp2
          go_quiet (fail)
          go_wp2
          go_roundw
          case rel => exact ⟨⟨k + 1, hla, hlb, HN.out, by go_num⟩, HW.out.drewN _⟩
          case measure => simp [intOf]; omega
        · have HN := Lib.hid (com_end a b k HK.out (Or.inr (Or.inr ⟨hla, hlb, h⟩)))
          go_wp2
          go_quiet (fail)
          go_wp2
          go_ret
          exact ⟨ret_int (by rw [← HN.out]), HW.out.drewN _⟩
      · have HN := Lib.hid (com_end a b k HK.out (Or.inr (Or.inl (by omega))))
        have i2 : decide ((k : Int) < (b.size : Int)) = false := decide_eq_false (by omega)
        go_wp2
        go_quiet (fail)
        go_wp2
        go_ret
        exact ⟨ret_int (by rw [← HN.out]), HW.out.drewN _⟩
    · have HN := Lib.hid (com_end a b k HK.out (Or.inl (by omega)))
      have i1 : decide ((k : Int) < (a.size : Int)) = false := decide_eq_false (by omega)
      go_wp2
      go_quiet (fail)
      go_wp2
      go_ret
      exact ⟨ret_int (by rw [← HN.out]), HW.out.drewN _⟩

set_option maxHeartbeats 2000000 in
theorem rcommon_any (a b : ByteArray) (w : World) (ha : a.size ≤ maxLen) (hb : b.size ≤ maxLen) :
    Calls Try.prog 16 #[.string a, .string b] w fun e w' => e = .returned (.int .i64 (comL a.data.toList b.data.toList : Nat)) ∧ Drw w w' := by
  unfold maxLen at ha hb
  go_enter Try.func16, Try.ntmps16
  go_wp2
  go_loopw [5] (fun i w' => ComRel a b i ∧ Drw w w') (fun i _ => a.size - (intOf i).toNat)
  case atStart => exact ⟨⟨0, Nat.zero_le _, Nat.zero_le _, Nat.zero_le _, rfl⟩, Drw.refl _⟩
  case round =>
    obtain ⟨⟨k, hka, hkb, hk, rfl⟩, hw⟩ := hrel
    have HK := Lib.hid hk; clear hk
    have HW := Lib.hid hw; clear hw
    by_cases hla : k < a.size
    · have i1 : (k : Int) < (a.size : Int) := by omega
      by_cases hlb : k < b.size
      · have i2 : (k : Int) < (b.size : Int) := by omega
        by_cases h : a[k].toNat = b[k].toNat
        · have HN := Lib.hid (com_more a b k HK.out hla hlb h)
          go_wp2
          go_quiet (fail)
          go_wp2
          go_roundw
          case rel => exact ⟨⟨k + 1, hla, hlb, HN.out, by go_num⟩, HW.out.drewN _⟩
          case measure => simp [intOf]; omega
        · have HN := Lib.hid (com_end a b k HK.out (Or.inr (Or.inr ⟨hla, hlb, h⟩)))
          go_wp2
          go_quiet (fail)
          go_wp2
          go_ret
          exact ⟨ret_int (by rw [← HN.out]), HW.out.drewN _⟩
      · have HN := Lib.hid (com_end a b k HK.out (Or.inr (Or.inl (by omega))))
        have i2 : decide ((k : Int) < (b.size : Int)) = false := decide_eq_false (by omega)
        go_wp2
        go_quiet (fail)
        go_wp2
        go_ret
        exact ⟨ret_int (by rw [← HN.out]), HW.out.drewN _⟩
    · have HN := Lib.hid (com_end a b k HK.out (Or.inl (by omega)))
      have i1 : decide ((k : Int) < (a.size : Int)) = false := decide_eq_false (by omega)
      go_wp2
      go_quiet (fail)
      go_wp2
      go_ret
      exact ⟨ret_int (by rw [← HN.out]), HW.out.drewN _⟩

set_option maxHeartbeats 1000000 in
theorem length_any (x : Int) (n : Nat) (w : World) (hx : x = n) (hn : n ≤ maxLen) :
    Calls Try.prog 40 #[.int .i64 x] w fun e w' => e = .returned (.string ⟨(putL n).toArray⟩) ∧ Bel w w' := by
  subst hx
  unfold maxLen at hn
  have hu : IntKind.u64.wrap (n : Int) = n := u64_in _ (by omega) (by omega)
  go_enter Try.func40, Try.ntmps40
  go_wp2_with (fail)
  refine (put_any n w (by omega)).mono ?_
  rintro e w1 ⟨rfl, hb⟩
  go_wp2_with (fail)
  go_ret
  exact ⟨rfl, hb⟩
set_option maxHeartbeats 1000000 in
theorem size8_any (x : Int) (n : Nat) (w : World) (hx : x = n) (hn : n ≤ maxLen) :
    Calls Try.prog 33 #[.int .i64 x] w fun e w' => e = .returned (.string ⟨(putL n).toArray⟩) ∧ Bel w w' := by
  subst hx
  unfold maxLen at hn
  have hu : IntKind.u64.wrap (n : Int) = n := u64_in _ (by omega) (by omega)
  go_enter Try.func33, Try.ntmps33
  go_wp2_with (fail)
  refine (rput_any n w (by omega)).mono ?_
  rintro e w1 ⟨rfl, hb⟩
  go_wp2_with (fail)
  go_ret
  exact ⟨rfl, hb⟩
end Go.Proofs.Ytldkpomkgmilbaa
