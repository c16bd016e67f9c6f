/- The contract of strconv.ParseUint at two bytes, base 16, 8 bits (value.unquote calls it so). -/
import Derived.Test.YtndknolblfdcdaaDoorNum
import Derived.Test.YtndknolblfdcdaaDoorQuo
import Derived.Lib.ConvBytes
import Derived.Lib.Bits
set_option linter.unusedSimpArgs false
set_option linter.unusedVariables false
namespace Go.Proofs.YtndknolblfdcdaaDoor
open Go.RowKit

def lo (c : UInt8) : Nat := c.toNat ||| 32
def dig (c : UInt8) : Option Nat :=
  if 48 ≤ c.toNat ∧ c.toNat ≤ 57 then some (c.toNat - 48) else if 97 ≤ lo c ∧ lo c ≤ 102 then some (lo c - 87) else none
theorem dig_hexd_all : ∀ p : Fin 16, dig (hexd p.val) = some p.val := by decide +kernel
theorem dig_hexd (p : Nat) (h : p < 16) : dig (hexd p) = some p := dig_hexd_all ⟨p, h⟩
theorem or32_all : ∀ n : Fin 256, bits BinOp.or IntKind.u8 (n.val : Int) 32 = ((n.val ||| 32 : Nat) : Int) ∧ (n.val ||| 32) < 256 := by decide +kernel
theorem or32 (c : UInt8) : bits BinOp.or IntKind.u8 (c.toNat : Int) 32 = (lo c : Int) := (or32_all ⟨c.toNat, c.toNat_lt⟩).1
theorem lo_lt (c : UInt8) : lo c < 256 := (or32_all ⟨c.toNat, c.toNat_lt⟩).2

set_option maxHeartbeats 400000 in
theorem lower_any (c : UInt8) (w : World) :
    Calls Tryd.prog 64 #[.int .u8 (c.toNat : Int)] w fun e w' => e = .returned (.int .u8 (lo c : Int)) ∧ w = w' := by
  have h := or32 c
  go_enter Tryd.func64, Tryd.ntmps64
  go_wp2
  go_ret
  exact ⟨rfl, rfl⟩

theorem lower_at (c : UInt8) (n : Int) (h : n = (c.toNat : Int)) (w : World) :
    Calls Tryd.prog 64 #[.int .u8 n] w fun e w' => e = .returned (.int .u8 (lo c : Int)) ∧ w = w' := by subst h; exact lower_any c w

/-- After k of the two bytes the number gathered is a. -/
def HexRel (x0 x1 : UInt8) (k : Nat) (a : Int) : Prop :=
  (k = 0 ∧ a = 0) ∨ (k = 1 ∧ ∃ p, dig x0 = some p ∧ p < 16 ∧ a = p) ∨ (k = 2 ∧ ∃ p q, dig x0 = some p ∧ dig x1 = some q ∧ p < 16 ∧ q < 16 ∧ a = 16 * p + q)
/-- What ParseUint answers. -/
def HexEnd (T : TypeId) (x0 x1 : UInt8) (v : Int) (err : Value) : Prop :=
  (err = .nilIface ∧ ∃ p q, dig x0 = some p ∧ dig x1 = some q ∧ p < 16 ∧ q < 16 ∧ v = 16 * p + q) ∨ (err = .iface T (.int .i64 2) ∧ v = 0 ∧ (dig x0 = none ∨ dig x1 = none))
def HexPost (T : TypeId) (x0 x1 : UInt8) (w : World) (e : Ending) (w' : World) : Prop := ∃ v err, e = .returned (.tuple #[.int .u64 v, err]) ∧ HexEnd T x0 x1 v err ∧ Bel w w'

set_option maxHeartbeats 1000000 in
set_option maxRecDepth 100000 in
theorem inner_parse16 (x0 x1 : UInt8) (w : World) :
    Calls Tryd.prog 59 #[.string ⟨#[x0, x1]⟩, .int .i64 16, .int .i64 8] w (HexPost 74 x0 x1 w) := by
  have hcv := Lib.run_convert_string_bytes (P := Tryd.prog) w 9 50 5 ⟨#[x0, x1]⟩ (u := .string) Tryd.underlying9 Tryd.underlying50 Tryd.underlying5
  have hB0 : (Lib.bytesWorld w 5 ⟨#[x0, x1]⟩).cell? ⟨w.heap.size, 0, none⟩ = some (.int .u8 x0.toNat) := Lib.bytesWorld_cell w 5 ⟨#[x0, x1]⟩ 0 (show 0 < 2 by decide)
  have hB1 : (Lib.bytesWorld w 5 ⟨#[x0, x1]⟩).cell? ⟨w.heap.size, 1, none⟩ = some (.int .u8 x1.toNat) := Lib.bytesWorld_cell w 5 ⟨#[x0, x1]⟩ 1 (show 1 < 2 by decide)
  have hbel : Bel w (Lib.bytesWorld w 5 ⟨#[x0, x1]⟩) := Lib.bytesWorld_below _ _ _
  generalize Lib.bytesWorld w 5 ⟨#[x0, x1]⟩ = W1 at hcv hB0 hB1 hbel
  have HB := Lib.hid hbel; clear hbel
  go_enter Tryd.func59, Tryd.ntmps59
  go_wp2
  go_loop [12, 13, 101] (fun u n i => ∃ (k : Nat) (a : Int), u = .bool false ∧ n = .int .u64 a ∧ i = .int .i64 k ∧ HexRel x0 x1 k a) (fun _ _ i => 2 - (intOf i).toNat)
  case atStart => exact ⟨0, 0, rfl, rfl, rfl, Or.inl ⟨rfl, rfl⟩⟩
  case round =>
    obtain ⟨k, a, rfl, rfl, rfl, hr⟩ := hrel
    rcases hr with ⟨rfl, rfl⟩ | ⟨rfl, p, hp, hp16, ha⟩ | ⟨rfl, p, q, hp, hq, hp16, hq16, ha⟩
    · have hlow := lower_at x0
      have HD0 := Lib.hid hlow; clear hlow
      have c256 := x0.toNat_lt
      have l256 := lo_lt x0
      by_cases hD : 48 ≤ x0.toNat ∧ x0.toNat ≤ 57
      · have HD := Lib.hid (show dig x0 = some (x0.toNat - 48) by simp [dig, hD])
        obtain ⟨d1, d2⟩ := hD
        have e1 : (48 : Int) ≤ (x0.toNat : Int) := by omega
        have e2 : (x0.toNat : Int) ≤ 57 := by omega
        go_wp2_with (go_at_call 64; refine (HD0.out _ (by omega) _).mono ?_; rintro e w' ⟨rfl, rfl⟩)
        go_round
        case rel => exact ⟨1, _, rfl, rfl, by go_num, Or.inr (Or.inl ⟨rfl, x0.toNat - 48, HD.out, by omega, by omega⟩)⟩
        case measure => simp [intOf]
      · by_cases hL : 97 ≤ lo x0 ∧ lo x0 ≤ 102
        · have HD := Lib.hid (show dig x0 = some (lo x0 - 87) by simp [dig, hD, hL])
          obtain ⟨d1, d2⟩ := hL
          have e1 : (97 : Int) ≤ (lo x0 : Int) := by omega
          have e2 : (lo x0 : Int) ≤ 102 := by omega
          have e3 : ¬ ((48 : Int) ≤ (x0.toNat : Int) ∧ (x0.toNat : Int) ≤ 57) := by omega
          go_wp2_with (go_at_call 64; refine (HD0.out _ (by omega) _).mono ?_; rintro e w' ⟨rfl, rfl⟩)
          all_goals go_round
          all_goals first
            | exact ⟨1, _, rfl, rfl, by go_num, Or.inr (Or.inl ⟨rfl, lo x0 - 87, HD.out, by omega, by omega⟩)⟩
            | simp [intOf]
        · have HD := Lib.hid (show dig x0 = none by simp [dig, hD, hL])
          have e1 : ¬ ((97 : Int) ≤ (lo x0 : Int) ∧ (lo x0 : Int) ≤ 102) := by omega
          have e3 : ¬ ((48 : Int) ≤ (x0.toNat : Int) ∧ (x0.toNat : Int) ≤ 57) := by omega
          clear hD hL
          go_wp2_with (go_at_call 64; refine (HD0.out _ (by omega) _).mono ?_; rintro e w' ⟨rfl, rfl⟩)
          all_goals go_ret2
          all_goals exact ⟨0, _, rfl, Or.inr ⟨rfl, rfl, Or.inl HD.out⟩, HB.out⟩
    · have HP := Lib.hid hp; clear hp
      have a0 : 0 ≤ a := by omega
      have a1 : a ≤ 15 := by omega
      have HA := Lib.hid ha; clear ha
      have HP16 := Lib.hid hp16; clear hp16
      have hlow := lower_at x1
      have HD0 := Lib.hid hlow; clear hlow
      have c256 := x1.toNat_lt
      have l256 := lo_lt x1
      by_cases hD : 48 ≤ x1.toNat ∧ x1.toNat ≤ 57
      · have HD := Lib.hid (show dig x1 = some (x1.toNat - 48) by simp [dig, hD])
        obtain ⟨d1, d2⟩ := hD
        have e1 : (48 : Int) ≤ (x1.toNat : Int) := by omega
        have e2 : (x1.toNat : Int) ≤ 57 := by omega
        go_wp2_with (go_at_call 64; refine (HD0.out _ (by omega) _).mono ?_; rintro e w' ⟨rfl, rfl⟩)
        go_round
        case rel => exact ⟨2, _, rfl, rfl, by go_num, Or.inr (Or.inr ⟨rfl, p, x1.toNat - 48, HP.out, HD.out, HP16.out, by omega, by have := HA.out; omega⟩)⟩
        case measure => simp [intOf]
      · by_cases hL : 97 ≤ lo x1 ∧ lo x1 ≤ 102
        · have HD := Lib.hid (show dig x1 = some (lo x1 - 87) by simp [dig, hD, hL])
          obtain ⟨d1, d2⟩ := hL
          have e1 : (97 : Int) ≤ (lo x1 : Int) := by omega
          have e2 : (lo x1 : Int) ≤ 102 := by omega
          have e3 : ¬ ((48 : Int) ≤ (x1.toNat : Int) ∧ (x1.toNat : Int) ≤ 57) := by omega
          go_wp2_with (go_at_call 64; refine (HD0.out _ (by omega) _).mono ?_; rintro e w' ⟨rfl, rfl⟩)
          all_goals go_round
          all_goals first
            | exact ⟨2, _, rfl, rfl, by go_num, Or.inr (Or.inr ⟨rfl, p, lo x1 - 87, HP.out, HD.out, HP16.out, by omega, by have := HA.out; omega⟩)⟩
            | simp [intOf]
        · have HD := Lib.hid (show dig x1 = none by simp [dig, hD, hL])
          have e1 : ¬ ((97 : Int) ≤ (lo x1 : Int) ∧ (lo x1 : Int) ≤ 102) := by omega
          have e3 : ¬ ((48 : Int) ≤ (x1.toNat : Int) ∧ (x1.toNat : Int) ≤ 57) := by omega
          clear hD hL
          go_wp2_with (go_at_call 64; refine (HD0.out _ (by omega) _).mono ?_; rintro e w' ⟨rfl, rfl⟩)
          all_goals go_ret2
          all_goals exact ⟨0, _, rfl, Or.inr ⟨rfl, rfl, Or.inr HD.out⟩, HB.out⟩
    · have HP := Lib.hid hp; clear hp
      have HQ := Lib.hid hq; clear hq
      have HA := Lib.hid ha; clear ha
      go_wp2
      go_ret2
      exact ⟨_, _, rfl, Or.inl ⟨rfl, p, q, HP.out, HQ.out, hp16, hq16, HA.out⟩, HB.out⟩
end Go.Proofs.YtndknolblfdcdaaDoor
