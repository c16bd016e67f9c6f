/- The walks of LatticeWidens and LatticeNarrows. -/
import Derived.Test.YtdlbihkollicfaaLatV
set_option linter.unusedSimpArgs false
set_option linter.unusedVariables false
namespace Go.Proofs.Ytdlbihkollicfaa
open Go.RowKit

set_option maxHeartbeats 4000000 in
theorem widens_law (k n : Int) (s : ByteArray) (a b : Int) (w : World) (hs : s.size ≤ maxLen) :
    Calls Try.prog 7 #[.agg #[.int .i64 k, .int .i64 n, .string s], .int .i64 a, .int .i64 b] w fun e w' => e = .returned (.bool true) ∧ Bel w w' := by
  go_enter Try.func7, Try.ntmps7
  go_wp2_with (fail)
  refine (shown_any _).mono ?_
  rintro e w1 ⟨rfl, hb⟩
  obtain ⟨q0, q1, q2, _, _, _, z0⟩ := (VAt.new w k n s 30).bel hb
  have HB1 := Lib.hid (((Bel.refl w).alloc _).trans hb); clear hb
  by_cases hlong : 3000 < s.size
  · go_wp2_with (fail)
    go_ret
    exact ⟨rfl, HB1.out⟩
  go_wp2_with (fail)
  refine (widen_any k n s a _ hs).mono ?_
  rintro e w2 ⟨rfl, hb⟩
  replace q0 := cell_later hb q0
  replace q1 := cell_later hb q1
  replace q2 := cell_later hb q2
  replace z0 := Nat.lt_of_lt_of_le z0 hb.size
  have HB2 := Lib.hid (HB1.out.trans hb); clear hb
  by_cases hE : widE k n s.data.toList a = 0
  · have HE := Lib.hid hE
    rw [hE, takeV_ok]
    clear hE
    go_wp2_with (fail)
    refine (narrow_any a n s k _ hs).mono ?_
    rintro e w3 ⟨rfl, hb⟩
    obtain ⟨a0, a1, a2, _, _, _, za⟩ := (VAt.new w2 a n s 30).bel hb
    replace hb := ((Bel.refl _).alloc _).trans hb
    replace q0 := cell_later hb q0
    replace q1 := cell_later hb q1
    replace q2 := cell_later hb q2
    replace z0 := Nat.lt_of_lt_of_le z0 hb.size
    have HB3 := Lib.hid (HB2.out.trans hb); clear hb
    rw [narE_back HE.out, takeV_ok]
    go_wp2_with (fail)
    refine (widen_any a n s b _ hs).mono ?_
    rintro e w4 ⟨rfl, hb⟩
    obtain ⟨b0, b1, b2, _, _, _, zb⟩ := (VAt.new w3 k n s 30).bel hb
    replace hb := ((Bel.refl _).alloc _).trans hb
    replace q0 := cell_later hb q0
    replace q1 := cell_later hb q1
    replace q2 := cell_later hb q2
    replace z0 := Nat.lt_of_lt_of_le z0 hb.size
    replace a0 := cell_later hb a0
    replace a1 := cell_later hb a1
    replace a2 := cell_later hb a2
    replace za := Nat.lt_of_lt_of_le za hb.size
    have HB4 := Lib.hid (HB3.out.trans hb); clear hb
    rw [takeV_eq]
    go_wp2_with (fail)
    refine (widen_any k n s b _ hs).mono ?_
    rintro e w5 ⟨rfl, hb⟩
    obtain ⟨c0, c1, c2, _, _, _, zc⟩ := (VAt.new w4 (zOr (widE a n s.data.toList b) b) (zOr (widE a n s.data.toList b) n) (zOrS (widE a n s.data.toList b) s) 30).bel hb
    replace hb := ((Bel.refl _).alloc _).trans hb
    replace q0 := cell_later hb q0
    replace q1 := cell_later hb q1
    replace q2 := cell_later hb q2
    replace z0 := Nat.lt_of_lt_of_le z0 hb.size
    replace a0 := cell_later hb a0
    replace a1 := cell_later hb a1
    replace a2 := cell_later hb a2
    replace za := Nat.lt_of_lt_of_le za hb.size
    replace b0 := cell_later hb b0
    replace b1 := cell_later hb b1
    replace b2 := cell_later hb b2
    replace zb := Nat.lt_of_lt_of_le zb hb.size
    have HB5 := Lib.hid (HB4.out.trans hb); clear hb
    rw [takeV_eq]
    go_wp2_with (fail)
    refine (ref_right_any a n s _ hs).mono ?_
    rintro e w6 ⟨rfl, hb⟩
    obtain ⟨d0, d1, d2, _, _, _, zd⟩ := (VAt.new w5 (zOr (widE k n s.data.toList b) b) (zOr (widE k n s.data.toList b) n) (zOrS (widE k n s.data.toList b) s) 30).bel hb
    replace hb := ((Bel.refl _).alloc _).trans hb
    replace a0 := cell_later hb a0
    replace a1 := cell_later hb a1
    replace a2 := cell_later hb a2
    replace za := Nat.lt_of_lt_of_le za hb.size
    replace c0 := cell_later hb c0
    replace c1 := cell_later hb c1
    replace c2 := cell_later hb c2
    replace zc := Nat.lt_of_lt_of_le zc hb.size
    have HB6 := Lib.hid (HB5.out.trans hb); clear hb q0 q1 q2 z0 b0 b1 b2 zb
    rw [right_up (widE_ok HE.out).1 (widE_ok HE.out).2.2]
    by_cases hF : widE a n s.data.toList b = 0
    · have hG := widE_two HE.out hF
      rw [hF] at c0 c1 c2
      rw [hG] at d0 d1 d2
      simp only [hF, hG]
      clear hF hG
      go_wp2_with (fail)
      go_ret
      exact ⟨rfl, HB6.out⟩
    · have hF' : (widE a n s.data.toList b != 0) = true := by simpa using hF
      clear hF
      go_wp2_with (fail)
      go_ret
      exact ⟨ret_bool (by simp [hF']), HB6.out⟩
  · have hE' : (widE k n s.data.toList a != 0) = true := by simpa using hE
    rw [takeV_err _ _ _ hE]
    clear hE
    go_wp2_with (fail)
    go_ret
    exact ⟨rfl, HB2.out.alloc _⟩

theorem narE_ok {k n q : Int} {s : List UInt8} (h : narE k n s q = 0) : rightB k n s = true ∧ upB q k = true ∧ rightB q n s = true := by
  unfold narE at h
  by_cases h1 : rightB k n s = true ∧ kindB q = true
  · rw [if_pos h1] at h
    by_cases h2 : upB q k = true
    · rw [if_pos h2] at h
      by_cases h3 : rightB q n s = true
      · exact ⟨h1.1, h2, h3⟩
      · rw [if_neg h3] at h; omega
    · rw [if_neg h2] at h; omega
  · rw [if_neg h1] at h; omega
theorem narE_two {k n q : Int} {s : List UInt8} (h : narE k n s q = 2) : upB q k = true ∧ rightB q n s = false := by
  unfold narE at h
  by_cases h1 : rightB k n s = true ∧ kindB q = true
  · rw [if_pos h1] at h
    by_cases h2 : upB q k = true
    · rw [if_pos h2] at h
      by_cases h3 : rightB q n s = true
      · rw [if_pos h3] at h; omega
      · exact ⟨h2, by simpa using h3⟩
    · rw [if_neg h2] at h; omega
  · rw [if_neg h1] at h; omega

set_option maxHeartbeats 4000000 in
theorem narrows_law (k n : Int) (s : ByteArray) (q : Int) (w : World) (hs : s.size ≤ maxLen) :
    Calls Try.prog 9 #[.agg #[.int .i64 k, .int .i64 n, .string s], .int .i64 q] w fun e w' => e = .returned (.bool true) ∧ Bel w w' := by
  go_enter Try.func9, Try.ntmps9
  go_wp2_with (fail)
  refine (shown_any _).mono ?_
  rintro e w1 ⟨rfl, hb⟩
  obtain ⟨q0, q1, q2, _, _, _, z0⟩ := (VAt.new w k n s 30).bel hb
  have HB1 := Lib.hid (((Bel.refl w).alloc _).trans hb); clear hb
  by_cases hlong : 3000 < s.size
  · go_wp2_with (fail)
    go_ret
    exact ⟨rfl, HB1.out⟩
  go_wp2_with (fail)
  refine (narrow_any k n s q _ hs).mono ?_
  rintro e w2 ⟨rfl, hb⟩
  replace q0 := cell_later hb q0
  replace q1 := cell_later hb q1
  replace q2 := cell_later hb q2
  replace z0 := Nat.lt_of_lt_of_le z0 hb.size
  have HB2 := Lib.hid (HB1.out.trans hb); clear hb
  by_cases h2 : narE k n s.data.toList q = 2
  · obtain ⟨g1, g2⟩ := narE_two h2
    have G1 := Lib.hid g1; have G2 := Lib.hid g2
    clear g1 g2
    rw [h2, takeV_err _ _ _ (by decide)]
    clear h2
    go_wp2_with (fail)
    refine (Below_any q k _).mono ?_
    rintro e w3 ⟨rfl, hb⟩
    replace hb := ((Bel.refl _).alloc _).trans hb
    replace q0 := cell_later hb q0
    replace q1 := cell_later hb q1
    replace q2 := cell_later hb q2
    replace z0 := Nat.lt_of_lt_of_le z0 hb.size
    have HB3 := Lib.hid (HB2.out.trans hb); clear hb
    rw [G1.out]
    go_wp2_with (fail)
    refine (ref_right_any q n s _ hs).mono ?_
    rintro e w4 ⟨rfl, hb⟩
    have HB4 := Lib.hid (HB3.out.trans hb); clear hb
    rw [G2.out]
    go_wp2_with (fail)
    go_ret
    exact ⟨rfl, HB4.out⟩
  by_cases h0 : narE k n s.data.toList q = 0
  · obtain ⟨g1, g2, g3⟩ := narE_ok h0
    have G := Lib.hid (widE_of g3 g2)
    clear g1 g2 g3 h2
    rw [h0, takeV_ok]
    clear h0
    go_wp2_with (fail)
    refine (widen_any q n s k _ hs).mono ?_
    rintro e w3 ⟨rfl, hb⟩
    obtain ⟨a0, a1, a2, _, _, _, za⟩ := (VAt.new w2 q n s 30).bel hb
    replace hb := ((Bel.refl _).alloc _).trans hb
    replace q0 := cell_later hb q0
    replace q1 := cell_later hb q1
    replace q2 := cell_later hb q2
    replace z0 := Nat.lt_of_lt_of_le z0 hb.size
    have HB3 := Lib.hid (HB2.out.trans hb); clear hb
    rw [G.out, takeV_ok]
    go_wp2_with (fail)
    go_ret
    exact ⟨rfl, HB3.out.alloc _⟩
  · have h2' : (narE k n s.data.toList q == 2) = false := by simpa using h2
    have h0' : (narE k n s.data.toList q != 0) = true := by simpa using h0
    rw [takeV_err _ _ _ h0]
    clear h0 h2
    go_wp2_with (fail)
    go_ret
    exact ⟨rfl, HB2.out.alloc _⟩
end Go.Proofs.Ytdlbihkollicfaa
