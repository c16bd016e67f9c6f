/- filter.mask, filter.eachPlace. -/
import Derived.Test.YtaabaphpllnieaaIPlc
set_option linter.unusedSimpArgs false
set_option linter.unusedVariables false
namespace Go.Proofs.Ytaabaphpllnieaa
open Go.RowKit Go.Deep

set_option maxHeartbeats 1000000 in
theorem mask_any (i : Nat) (w : World) (hi : i ≤ maxLen) :
    Calls Try.prog 26 #[.int .i64 i] w fun e w' => e = .returned (.int .u8 (2 ^ (i % 8) : Nat)) ∧ w' = w := by
  unfold maxLen at hi
  go_enter Try.func26, Try.ntmps26
  go_wp2_with (fail)
  go_ret
  refine ⟨?_, rfl⟩
  have h1 : 2 ^ (i % 8) ≤ 2 ^ 7 := Nat.pow_le_pow_right (by omega) (by omega)
  have h2 : (2 : Int) ^ (i % 8) = ((2 ^ (i % 8) : Nat) : Int) := by simp
  have h3 : (2 : Int) ^ (i % 8) % 256 = ((2 ^ (i % 8) : Nat) : Int) := by
    rw [h2]
    generalize 2 ^ (i % 8) = z at h1
    have : z ≤ 128 := h1
    omega
  show Ending.returned (.int .u8 ((2 : Int) ^ (i % 8) % 256)) = _
  rw [h3]

set_option maxHeartbeats 1000000 in
theorem each_any (key : ByteArray) (n : Nat) (g : Nat) (rv : Value) (I : Nat → World → Prop) (F : List Nat) (w : World) (hk : key.size ≤ maxLen) (hn : 8 * n ≤ maxLen) (hF : ∀ k ∈ F, k < w.heap.size)
    (hI : ∀ k x y, I k x → Bel x y → I k y) (h0 : I 0 w)
    (hcall : ∀ (v : Value) (x : World), (callFunc g #[rv, v]).run Try.prog x = .ok (.enter g #[rv, v]) x)
    (hc : ∀ (k : Nat) (hk : k < (placesL (hashN key.data.toList) (8 * n)).length) (x : World), Keep F w x → I k x →
      Calls Try.prog g #[rv, .int .i64 ((placesL (hashN key.data.toList) (8 * n))[k] : Nat)] x fun e x' => e = .returned (.tuple #[]) ∧ I (k + 1) x' ∧ Keep F x x') :
    Calls Try.prog 22 #[.string key, .int .i64 n, .func (.func g) #[rv] #[]] w fun e w' => e = .returned (.tuple #[]) ∧ I (placesL (hashN key.data.toList) (8 * n)).length w' ∧ Keep F w w' := by
  have hl4 : (placesL (hashN key.data.toList) (8 * n)).length ≤ 4 := by unfold placesL; split <;> simp
  generalize hL : placesL (hashN key.data.toList) (8 * n) = L at *
  have HL := Lib.hid hL; clear hL
  have HC := Lib.hid hc; clear hc
  have HCL := Lib.hid hcall
  unfold maxLen at hk hn
  go_enter Try.func22, Try.ntmps22
  go_wp2_with (fail)
  refine (places_any key (8 * (n : Int)) w (by unfold maxLen; omega) (by omega)).mono ?_
  rw [show (8 * (n : Int)).toNat = 8 * n by omega]
  unfold PlacesPost
  rw [HL.out]
  rintro e w1 ⟨p, cap, rfl, hat, hp, hb⟩
  have HAT := Lib.hid hat
  have HP := Lib.hid hp
  have HB := Lib.hid hb
  have h1 := Lib.hid (hI _ _ _ h0 hb)
  clear hat hp hb h0
  go_wp2_with (fail)
  go_loopw [13] (fun iv x => ∃ k : Nat, k ≤ L.length ∧ iv = .int .i64 k ∧ I k x ∧ Keep F w1 x) (fun iv _ => L.length - (intOf iv).toNat)
  case atStart => exact ⟨0, Nat.zero_le _, rfl, h1.out, Keep.refl _ _⟩
  case round =>
    obtain ⟨k, hk, rfl, hi, hkp⟩ := hrel
    have HIK := Lib.hid hi; clear hi
    have HK := Lib.hid hkp
    by_cases hlt : k < L.length
    · obtain ⟨a, rfl, hc⟩ := (HAT.out.keep hkp (fun a ha hm => by have := HP.out a ha; have := hF _ hm; omega)) k hlt
      clear hkp
      have hcl := HCL.out (.int .i64 (L[k] : Nat)) wr
      go_wp2_with (fail)
      refine (HC.out k hlt wr ((Keep.of_bel HB.out F).trans HK.out (fun x hx => Or.inl hx)) HIK.out).mono ?_
      rintro e w2 ⟨rfl, hi2, hk2⟩
      have HI2 := Lib.hid hi2
      have HK2 := Lib.hid (HK.out.trans hk2 (fun x hx => Or.inl hx))
      clear hi2 hk2
      go_wp2_with (fail)
      go_roundw
      case rel => exact ⟨k + 1, hlt, by go_num, HI2.out, HK2.out⟩
      case measure => simp [intOf]; omega
    · obtain rfl : k = L.length := by omega
      clear hkp
      go_wp2_with (fail)
      go_end0
      exact ⟨rfl, HIK.out, (Keep.of_bel HB.out F).trans HK.out (fun x hx => Or.inl hx)⟩
end Go.Proofs.Ytaabaphpllnieaa
