/- The contracts of moultref1.hex and moultref1.unquoted. -/
import Derived.Test.YtndknolblfdcdaaDoorUnq
import Derived.Deep.RegionLaw
set_option linter.unusedSimpArgs false
set_option linter.unusedVariables false
namespace Go.Proofs.YtndknolblfdcdaaDoor
open Go.RowKit

def hv (c : UInt8) : Int := if 48 ≤ c.toNat ∧ c.toNat ≤ 57 then (c.toNat : Int) - 48 else if 97 ≤ c.toNat ∧ c.toNat ≤ 102 then (c.toNat : Int) - 87 else -1
theorem hv_range (c : UInt8) : -1 ≤ hv c ∧ hv c < 16 := by unfold hv; split; omega; split <;> omega
theorem hv_hexd_all : ∀ p : Fin 16, hv (hexd p.val) = (p.val : Int) := by decide +kernel
theorem hv_dig_all : ∀ n : Fin 256, 0 ≤ hv (UInt8.ofNat n.val) → dig (UInt8.ofNat n.val) = some (hv (UInt8.ofNat n.val)).toNat := by decide +kernel
theorem hv_dig (c : UInt8) (h : 0 ≤ hv c) : dig c = some (hv c).toNat := by
  have := hv_dig_all ⟨c.toNat, c.toNat_lt⟩
  simp at this
  exact this h
theorem hv_hexd (p : Nat) (h : p < 16) : 0 ≤ hv (hexd p) := by
  have := hv_hexd_all ⟨p, h⟩
  simp at this
  omega

set_option maxHeartbeats 400000 in
theorem ref_hex_any (c : UInt8) (w : World) :
    Calls Tryd.prog 37 #[.int .u8 (c.toNat : Int)] w fun e w' => e = .returned (.int .i64 (hv c)) ∧ w = w' := by
  have c256 := c.toNat_lt
  go_enter Tryd.func37, Tryd.ntmps37
  go_wp2
  all_goals go_ret
  all_goals refine ⟨ret_int ?_, rfl⟩
  all_goals go_light
  all_goals (unfold hv; simp_all; try omega)

theorem URel.bad {s l l' : List UInt8} {k k' : Nat} (h : URel s k l) {x0 x1 : UInt8} {r : List UInt8} (hd : s.drop k = 92 :: 120 :: x0 :: x1 :: r) (hx : hv x0 < 0 ∨ hv x1 < 0) : URel s k' l' := by
  intro m L hm hs
  exfalso
  obtain ⟨c', L', h1, h2⟩ := h.head hd hm hs
  have h256 := c'.toNat_lt
  rcases esc_cases m c' hm with ⟨e, e2⟩ | ⟨e, e2⟩ | e <;> rw [e] at h2
  · simp at h2
    rw [← h2.1] at e2; exact absurd rfl e2
  · simp at h2
    rw [← h2.1] at e2; exact absurd rfl e2
  · simp at h2
    obtain ⟨rfl, rfl, _⟩ := h2
    have d0 := hv_hexd (c'.toNat / 16) (by omega)
    have d1 := hv_hexd (c'.toNat % 16) (by omega)
    omega
end Go.Proofs.YtndknolblfdcdaaDoor
