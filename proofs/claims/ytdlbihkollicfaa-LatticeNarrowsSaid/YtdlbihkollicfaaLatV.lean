/- The walks of the laws of chapter 2 on values: LatticeTakes, LatticeWidens. -/
import Derived.Test.YtdlbihkollicfaaLatS
set_option linter.unusedSimpArgs false
set_option linter.unusedVariables false
namespace Go.Proofs.Ytdlbihkollicfaa
open Go.RowKit

/-- A value that is taken: right or zero. -/
def zOr (E x : Int) : Int := if E = 0 then x else 0
def zOrS (E : Int) (s : ByteArray) : ByteArray := if E = 0 then s else ⟨#[]⟩
theorem takeV_eq (q n : Int) (s : ByteArray) (E : Int) : takeV q n s E = .agg #[.int .i64 (zOr E q), .int .i64 (zOr E n), .string (zOrS E s)] := by
  unfold takeV zOr zOrS
  by_cases h : E = 0 <;> simp [h]

set_option maxHeartbeats 4000000 in
theorem takes_law (k n : Int) (s : ByteArray) (q : Int) (w : World) (hs : s.size ≤ maxLen) :
    Calls Try.prog 4 #[.agg #[.int .i64 k, .int .i64 n, .string s], .int .i64 q] w fun e w' => e = .returned (.bool true) ∧ Bel w w' := by
  go_enter Try.func4, Try.ntmps4
  go_wp2_with (fail)
  refine (shown_any _).mono ?_
  rintro e w1 ⟨rfl, hb⟩
  obtain ⟨q0, q1, q2, _, _, _, z0⟩ := (VAt.new w k n s 30).bel hb
  have HB1 := Lib.hid (((Bel.refl w).alloc _).trans hb); clear hb
  by_cases hlong : 3000 < s.size
  · go_wp2_with (fail)
    go_ret
    exact ⟨rfl, HB1.out⟩
  go_wp2_with (fail)
  refine (widen_any k n s q _ hs).mono ?_
  rintro e w2 ⟨rfl, hb⟩
  replace q0 := cell_later hb q0
  replace q1 := cell_later hb q1
  replace q2 := cell_later hb q2
  replace z0 := Nat.lt_of_lt_of_le z0 hb.size
  have HB2 := Lib.hid (HB1.out.trans hb); clear hb
  rw [takeV_eq]
  go_wp2_with (fail)
  refine (ref_widen_any k n s q _ hs).mono ?_
  rintro e w3 ⟨rfl, hb⟩
  obtain ⟨a0, a1, a2, _, _, _, za⟩ := (VAt.new w2 (zOr (widE k n s.data.toList q) q) (zOr (widE k n s.data.toList q) n) (zOrS (widE k n s.data.toList q) s) 30).bel hb
  replace hb := ((Bel.refl _).alloc _).trans hb
  replace q0 := cell_later hb q0
  replace q1 := cell_later hb q1
  replace q2 := cell_later hb q2
  replace z0 := Nat.lt_of_lt_of_le z0 hb.size
  have HB3 := Lib.hid (HB2.out.trans hb); clear hb
  rw [takeV_eq]
  go_wp2_with (fail)
  refine (narrow_any k n s q _ hs).mono ?_
  rintro e w4 ⟨rfl, hb⟩
  obtain ⟨b0, b1, b2, _, _, _, zb⟩ := (VAt.new w3 (zOr (widE k n s.data.toList q) q) (zOr (widE k n s.data.toList q) n) (zOrS (widE k n s.data.toList q) s) 30).bel hb
  replace hb := ((Bel.refl _).alloc _).trans hb
  replace q0 := cell_later hb q0
  replace q1 := cell_later hb q1
  replace q2 := cell_later hb q2
  replace z0 := Nat.lt_of_lt_of_le z0 hb.size
  replace a0 := cell_later hb a0
  replace a1 := cell_later hb a1
  replace a2 := cell_later hb a2
  replace za := Nat.lt_of_lt_of_le za hb.size
  have HB4 := Lib.hid (HB3.out.trans hb); clear hb
  rw [takeV_eq]
  go_wp2_with (fail)
  refine (ref_narrow_any k n s q _ hs).mono ?_
  rintro e w5 ⟨rfl, hb⟩
  obtain ⟨c0, c1, c2, _, _, _, zc⟩ := (VAt.new w4 (zOr (narE k n s.data.toList q) q) (zOr (narE k n s.data.toList q) n) (zOrS (narE k n s.data.toList q) s) 30).bel hb
  replace hb := ((Bel.refl _).alloc _).trans hb
  replace a0 := cell_later hb a0
  replace a1 := cell_later hb a1
  replace a2 := cell_later hb a2
  replace za := Nat.lt_of_lt_of_le za hb.size
  replace b0 := cell_later hb b0
  replace b1 := cell_later hb b1
  replace b2 := cell_later hb b2
  replace zb := Nat.lt_of_lt_of_le zb hb.size
  clear q0 q1 q2 z0
  have HB5 := Lib.hid (HB4.out.trans hb); clear hb
  rw [takeV_eq]
  go_wp2_with (fail)
  go_ret
  exact ⟨rfl, HB5.out.alloc _⟩

theorem right_kind {k n : Int} {s : List UInt8} (h : rightB k n s = true) : 1 ≤ k ∧ k ≤ 6 := by
  unfold rightB at h
  by_cases h1 : k = 1; · omega
  by_cases h2 : k = 2; · omega
  by_cases h3 : k = 3; · omega
  by_cases h4 : k = 4; · omega
  by_cases h5 : k = 5; · omega
  by_cases h6 : k = 6; · omega
  simp [h1, h2, h3, h4, h5, h6] at h
theorem right_up {k n q : Int} {s : List UInt8} (h : rightB k n s = true) (hu : upB k q = true) : rightB q n s = true := by
  have hq : 1 ≤ q ∧ q ≤ 6 := by unfold upB at hu; simp at hu; omega
  rcases six (right_kind h) with rfl | rfl | rfl | rfl | rfl | rfl <;> rcases six hq with rfl | rfl | rfl | rfl | rfl | rfl <;> first
    | exact h
    | (exfalso; revert hu; decide)
    | (simp [rightB] at h ⊢; omega)
    | (simp [rightB] at h ⊢; obtain ⟨h1, h2⟩ := h; exact ⟨by omega, h2⟩)
    | (simp [rightB] at h ⊢; exact h.2)
theorem widE_ok {k n q : Int} {s : List UInt8} (h : widE k n s q = 0) : rightB k n s = true ∧ kindB q = true ∧ upB k q = true := by
  unfold widE at h
  by_cases h1 : rightB k n s = true ∧ kindB q = true
  · rw [if_pos h1] at h
    by_cases h2 : upB k q = true
    · exact ⟨h1.1, h1.2, h2⟩
    · rw [if_neg h2] at h; omega
  · rw [if_neg h1] at h; omega
theorem widE_of {k n q : Int} {s : List UInt8} (h : rightB k n s = true) (hu : upB k q = true) : widE k n s q = 0 := by
  have hq : kindB q = true := by unfold upB at hu; simp at hu; unfold kindB; simp; omega
  simp [widE, h, hu, hq]
theorem narE_back {k n q : Int} {s : List UInt8} (h : widE k n s q = 0) : narE q n s k = 0 := by
  obtain ⟨h1, h2, h3⟩ := widE_ok h
  have hk := right_kind h1
  have hkb : kindB k = true := by unfold kindB; simp; omega
  simp [narE, right_up h1 h3, hkb, h3, h1]
theorem widE_two {k n a b : Int} {s : List UInt8} (h : widE k n s a = 0) (h' : widE a n s b = 0) : widE k n s b = 0 := by
  obtain ⟨h1, h2, h3⟩ := widE_ok h
  obtain ⟨g1, g2, g3⟩ := widE_ok h'
  refine widE_of h1 ?_
  unfold upB at *; simp at *; omega
end Go.Proofs.Ytdlbihkollicfaa
