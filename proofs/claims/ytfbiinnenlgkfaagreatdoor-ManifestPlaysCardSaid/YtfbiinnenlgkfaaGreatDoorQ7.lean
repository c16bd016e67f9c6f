/- Dig, laid together. -/
import Derived.Test.YtfbiinnenlgkfaaGreatDoorQ1
import Derived.Lib.ItoaNum
set_option linter.unusedSimpArgs false
set_option linter.unusedVariables false
namespace Go.Proofs.YtfbiinnenlgkfaaGreatDoor
open Go.RowKit

theorem digits_one (u : Nat) (h : u < 10) : Lib.decDigits u = [UInt8.ofNat (48 + u)] := by rw [Lib.decDigits, dif_pos h]
theorem digits_more (u : Nat) (h : ¬ u < 10) : Lib.decDigits u = Lib.decDigits (u / 10) ++ [UInt8.ofNat (48 + u % 10)] := by rw [Lib.decDigits, dif_neg h]
theorem dig_all : ∀ n : Fin 10, (ByteArray.mk #[48, 49, 50, 51, 52, 53, 54, 55, 56, 57]).extract n.val (n.val + 1) = ⟨[UInt8.ofNat (48 + n.val)].toArray⟩ := by decide +kernel
theorem dig_at (u : Nat) (h : u < 10) : (ByteArray.mk #[48, 49, 50, 51, 52, 53, 54, 55, 56, 57]).extract u (u + 1) = ⟨[UInt8.ofNat (48 + u)].toArray⟩ := dig_all ⟨u, h⟩
theorem neg_tmod (u : Nat) : (-(u : Int)).tmod 10 = -((u % 10 : Nat) : Int) := by
 rw [Int.neg_tmod, Int.tmod_eq_emod_of_nonneg (Int.natCast_nonneg _)]; rfl
theorem neg_tdiv (u : Nat) : (-(u : Int)).tdiv 10 = -((u / 10 : Nat) : Int) := by
 rw [Int.neg_tdiv, Int.tdiv_eq_ediv_of_nonneg (Int.natCast_nonneg _)]; rfl

set_option maxHeartbeats 400000 in
theorem ref_digits_small (u : Nat) (hu : u < 10) (w : World) :
  Calls Tryz.prog 154 #[.int .i64 (-(u : Int))] w fun e w' => e = .returned (.string ⟨(Lib.decDigits u).toArray⟩) ∧ Drw w w' := by
 have h1 : (-(u : Int)).tmod 10 = -(u : Int) := by rw [neg_tmod, Nat.mod_eq_of_lt hu]
 go_enter Tryz.func154, Tryz.ntmps154
 go_wp2_with (fail)
 go_ret
 refine ⟨ret_string ?_, Drw.refl _⟩
 rw [digits_one u hu, ← dig_at u hu]

set_option maxHeartbeats 400000 in
theorem ref_digits_step (n : Int) (q r : Nat) (hlo : -9223372036854775808 ≤ n) (hn : n ≤ -10) (hm : n.tmod 10 = -(r : Int)) (hd : n.tdiv 10 = -(q : Int)) (hr : r < 10) (hq : q ≤ 922337203685477580) (l : List UInt8) (hl : l.length ≤ 100)
  (ih : Hid (∀ w : World, Calls Tryz.prog 154 #[.int .i64 (-(q : Int))] w fun e w' => e = .returned (.string ⟨l.toArray⟩) ∧ Drw w w')) (w : World) :
  Calls Tryz.prog 154 #[.int .i64 n] w fun e w' => e = .returned (.string ⟨(l ++ [UInt8.ofNat (48 + r)]).toArray⟩) ∧ Drw w w' := by
 have hw1 : IntKind.i64.wrap ((r : Int) + 1) = (r : Int) + 1 := IntWalk.i64_in _ (by omega)
 have hw2 : IntKind.i64.wrap (-(q : Int)) = -(q : Int) := IntWalk.i64_in _ (by omega)
 have hw3 : (r : Int) ≤ (r : Int) + 1 := by omega
 have hw4 : (r : Int) + 1 ≤ 10 := by omega
 have hw5 : ((r : Int) + 1).toNat = r + 1 := by omega
 have hx := dig_at r hr
 generalize UInt8.ofNat (48 + r) = d at hx ⊢
 go_enter Tryz.func154, Tryz.ntmps154
 go_wp2_with (fail)
 go_quiet ((go_at_call 154; exact Calls.quiet_of (ih.out _)))
 go_wp2
 go_ret
 refine ⟨ret_string ?_, (Drw.refl w).drewN _⟩
 exact ByteArray.mk_append_mk l [d]

theorem decDigits_len (k u : Nat) (h : u < 10 ^ (k + 1)) : (Lib.decDigits u).length ≤ k + 1 := by
 induction k generalizing u with
 | zero => rw [digits_one u (by simpa using h)]; simp
 | succ k ih =>
  by_cases h1 : u < 10
  ·rw [digits_one u h1]; simp
  ·rw [digits_more u h1]
   have := ih (u / 10) (by rw [Nat.pow_succ] at h; omega)
   simp only [List.length_append, List.length_cons, List.length_nil]; omega

theorem ref_digits_all (N : Nat) : ∀ u : Nat, u ≤ N → u ≤ 9223372036854775808 → ∀ w : World,
    Calls Tryz.prog 154 #[.int .i64 (-(u : Int))] w fun e w' => e = .returned (.string ⟨(Lib.decDigits u).toArray⟩) ∧ Drw w w' := by
  induction N with
  | zero => intro u h1 _ w; exact ref_digits_small u (by omega) w
  | succ N ih =>
    intro u h1 h2 w
    by_cases h : u < 10
    · exact ref_digits_small u h w
    · rw [digits_more u h]
      have hl := decDigits_len 18 (u / 10) (by have : (10:Nat) ^ (18 + 1) = 10000000000000000000 := by decide
                                               omega)
      exact ref_digits_step (-(u : Int)) (u / 10) (u % 10) (by omega) (by omega) (neg_tmod u) (neg_tdiv u) (by omega) (by omega) _ (by omega) (Lib.hid (fun w => ih (u / 10) (by omega) (by omega) w)) w

theorem ref_digits_any (u : Nat) (h : u ≤ 9223372036854775808) (n : Int) (hn : n = -(u : Int)) (w : World) :
  Calls Tryz.prog 154 #[.int .i64 n] w fun e w' => e = .returned (.string ⟨(Lib.decDigits u).toArray⟩) ∧ Drw w w' := by
 subst hn; exact ref_digits_all u u (Nat.le_refl _) h w

set_option maxHeartbeats 400000 in
theorem ref_decimal_any (n : Int) (h0 : -9223372036854775808 ≤ n) (h1 : n ≤ 9223372036854775807) (w : World) :
    Calls Tryz.prog 127 #[.int .i64 n] w fun e w' => e = .returned (.string ⟨(Lib.itoa n).toArray⟩) ∧ Drw w w' := by
  have hl := decDigits_len 19 n.natAbs (by have : (10:Nat) ^ (19 + 1) = 100000000000000000000 := by decide
                                           omega)
  by_cases hn : n < 0
  · have hr : Lib.itoa n = [45] ++ Lib.decDigits n.natAbs := by simp [Lib.itoa, hn]
    rw [hr]
    clear hr
    go_enter Tryz.func127, Tryz.ntmps127
    go_wp2_with (go_at_call 154; refine (ref_digits_any n.natAbs (by omega) _ (by omega) _).mono ?_; rintro e w' ⟨rfl, hw⟩)
    go_ret
    exact ⟨ret_string (ByteArray.mk_append_mk [45] _), hw⟩
  · have hr : Lib.itoa n = Lib.decDigits n.natAbs := by
      have : n.toNat = n.natAbs := by omega
      simp [Lib.itoa, hn, this]
    rw [hr]
    clear hr
    go_enter Tryz.func127, Tryz.ntmps127
    go_wp2_with (go_at_call 154; refine (ref_digits_any n.natAbs (by omega) _ (by omega) _).mono ?_; rintro e w' ⟨rfl, hw⟩)
    go_ret
    exact ⟨rfl, hw⟩
end Go.Proofs.YtfbiinnenlgkfaaGreatDoor
