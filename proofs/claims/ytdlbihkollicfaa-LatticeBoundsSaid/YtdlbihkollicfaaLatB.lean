/- The walk of LatticeBounds. -/
import Derived.Test.YtdlbihkollicfaaLatL
set_option linter.unusedSimpArgs false
set_option linter.unusedVariables false
namespace Go.Proofs.Ytdlbihkollicfaa
open Go.RowKit

theorem comp_no {a b c : Int} (h : comp a b = false) : (upB a c && upB b c) = false ∧ (upB c a && upB c b) = false := by
  unfold comp at h; simp at h
  constructor <;> (rw [Bool.eq_false_iff]; intro h2; simp [upB] at h2; omega)
theorem comp_yes {a b : Int} (h : comp a b = true) : upB a (max a b) = true ∧ upB b (max a b) = true ∧ upB (min a b) a = true ∧ upB (min a b) b = true := by
  unfold comp at h; simp at h
  refine ⟨?_, ?_, ?_, ?_⟩ <;> (unfold upB; simp; omega)
theorem comp_bound {a b c : Int} (h : comp a b = true) : upB (max a b) c = (upB a c && upB b c) ∧ upB c (min a b) = (upB c a && upB c b) := by
  unfold comp at h; simp at h
  constructor <;> (rw [Bool.eq_iff_iff]; simp [upB]; omega)

set_option maxHeartbeats 8000000 in
theorem bounds_law (a b c : Int) (w : World) :
    Calls Try.prog 6 #[.int .i64 a, .int .i64 b, .int .i64 c] w fun e w' => e = .returned (.bool true) ∧ Bel w w' := by
  obtain ⟨J1, J2, J3, J4, -, -, -, -⟩ := joins a b
  have K1 := Lib.hid J1
  have K2 := Lib.hid J2
  have K3 := Lib.hid J3
  have K4 := Lib.hid J4
  clear J1 J2 J3 J4
  go_enter Try.func6, Try.ntmps6
  go_wp2_with (fail)
  refine (shown_any _).mono ?_
  rintro e w1 ⟨rfl, hb⟩
  have HB1 := Lib.hid (show Bel w w1 from hb); clear hb
  go_wp2_with (fail)
  refine (Join_any a b _).mono ?_
  rintro e w2 ⟨rfl, hb⟩
  have HB2 := Lib.hid (HB1.out.trans hb); clear hb
  rw [K1.out, K2.out]
  rcases hc : comp a b with _ | _
  · obtain ⟨n1, n2⟩ := comp_no (c := c) hc
    have HC := Lib.hid hc; clear hc
    rw [if_neg (by simp)]
    go_wp2_with (fail)
    refine (Meet_any a b _).mono ?_
    rintro e w4 ⟨rfl, hb⟩
    have HB4 := Lib.hid (HB2.out.trans hb); clear hb
    rw [K3.out, K4.out, HC.out, if_neg (by simp)]
    have N1 := Lib.hid n1; clear n1
    have N2 := Lib.hid n2; clear n2
    go_wp2_with (fail)
    refine (Below_any a c _).mono ?_
    rintro e w5 ⟨rfl, hb⟩
    have HB5 := Lib.hid (HB4.out.trans hb); clear hb
    rcases hac : upB a c with _ | _
    · clear hac
      go_wp2_with (fail)
      refine (Below_any c a _).mono ?_
      rintro e w6 ⟨rfl, hb⟩
      have HB6 := Lib.hid (HB5.out.trans hb); clear hb
      rcases hca : upB c a with _ | _
      · clear hca
        go_wp2_with (fail)
        go_ret
        exact ⟨rfl, HB6.out⟩
      · have HCA := Lib.hid hca; clear hca
        go_wp2_with (fail)
        refine (Below_any c b _).mono ?_
        rintro e w7 ⟨rfl, hb⟩
        have HB7 := Lib.hid (HB6.out.trans hb); clear hb
        rw [show upB c b = false by have := N2.out; rw [HCA.out] at this; simpa using this]
        go_wp2_with (fail)
        go_ret
        exact ⟨rfl, HB7.out⟩
    · have HAC := Lib.hid hac; clear hac
      go_wp2_with (fail)
      refine (Below_any b c _).mono ?_
      rintro e w6 ⟨rfl, hb⟩
      have HB6 := Lib.hid (HB5.out.trans hb); clear hb
      rw [show upB b c = false by have := N1.out; rw [HAC.out] at this; simpa using this]
      go_wp2_with (fail)
      refine (Below_any c a _).mono ?_
      rintro e w6 ⟨rfl, hb⟩
      have HB7 := Lib.hid (HB6.out.trans hb); clear hb
      rcases hca : upB c a with _ | _
      · clear hca
        go_wp2_with (fail)
        go_ret
        exact ⟨rfl, HB7.out⟩
      · have HCA := Lib.hid hca; clear hca
        go_wp2_with (fail)
        refine (Below_any c b _).mono ?_
        rintro e w7 ⟨rfl, hb⟩
        have HB8 := Lib.hid (HB7.out.trans hb); clear hb
        rw [show upB c b = false by have := N2.out; rw [HCA.out] at this; simpa using this]
        go_wp2_with (fail)
        go_ret
        exact ⟨rfl, HB8.out⟩
  · have HC := Lib.hid hc
    obtain ⟨g1, g2, g3, g4⟩ := comp_yes hc
    obtain ⟨g5, g6⟩ := comp_bound (c := c) hc
    clear hc
    rw [if_pos rfl]
    obtain ⟨j, hj⟩ : ∃ j, max a b = j := ⟨_, rfl⟩
    obtain ⟨m, hm⟩ : ∃ m, min a b = m := ⟨_, rfl⟩
    rw [hj] at g1 g2 g5 ⊢
    rw [hm] at g3 g4 g6
    have G1 := Lib.hid g1; have G2 := Lib.hid g2; have G3 := Lib.hid g3; have G4 := Lib.hid g4; have G5 := Lib.hid g5; have G6 := Lib.hid g6
    have HJ := Lib.hid hj; have HM := Lib.hid hm
    clear g1 g2 g3 g4 g5 g6 hj hm
    go_wp2_with (fail)
    refine (Meet_any a b _).mono ?_
    rintro e w4 ⟨rfl, hb⟩
    have HB4 := Lib.hid (HB2.out.trans hb); clear hb
    rw [K3.out, K4.out, HC.out, if_pos rfl, HM.out]
    go_wp2_with (fail)
    refine (Below_any a j _).mono ?_
    rintro e w5 ⟨rfl, hb⟩
    have HB5 := Lib.hid (HB4.out.trans hb); clear hb
    rw [G1.out]
    go_wp2_with (fail)
    refine (Below_any b j _).mono ?_
    rintro e w6 ⟨rfl, hb⟩
    have HB6 := Lib.hid (HB5.out.trans hb); clear hb
    rw [G2.out]
    go_wp2_with (fail)
    refine (Below_any m a _).mono ?_
    rintro e w7 ⟨rfl, hb⟩
    have HB7 := Lib.hid (HB6.out.trans hb); clear hb
    rw [G3.out]
    go_wp2_with (fail)
    refine (Below_any m b _).mono ?_
    rintro e w8 ⟨rfl, hb⟩
    have HB8 := Lib.hid (HB7.out.trans hb); clear hb
    rw [G4.out]
    go_wp2_with (fail)
    refine (Below_any a c _).mono ?_
    rintro e w9 ⟨rfl, hb⟩
    have HB9 := Lib.hid (HB8.out.trans hb); clear hb
    rcases h : upB a c with _ | _
    · have F0 := Lib.hid h; clear h
      have FU := Lib.hid (show upB j c = false by rw [G5.out, F0.out]; rfl)
      go_wp2_with (fail)
      refine (Below_any c a _).mono ?_
      rintro e x10 ⟨rfl, hb⟩
      have HX10 := Lib.hid (HB9.out.trans hb); clear hb
      rcases h : upB c a with _ | _
      · have F2 := Lib.hid h; clear h
        have FD := Lib.hid (show upB c m = false by rw [G6.out, F2.out]; rfl)
        go_wp2_with (fail)
        refine (Below_any j c _).mono ?_
        rintro e x11 ⟨rfl, hb⟩
        have HX11 := Lib.hid (HX10.out.trans hb); clear hb
        rw [FU.out]
        go_wp2_with (fail)
        refine (Below_any c m _).mono ?_
        rintro e x12 ⟨rfl, hb⟩
        have HX12 := Lib.hid (HX11.out.trans hb); clear hb
        rw [FD.out]
        go_wp2_with (fail)
        go_ret
        exact ⟨rfl, HX12.out⟩
      · have F2 := Lib.hid h; clear h
        go_wp2_with (fail)
        refine (Below_any c b _).mono ?_
        rintro e x13 ⟨rfl, hb⟩
        have HX13 := Lib.hid (HX10.out.trans hb); clear hb
        rcases h : upB c b with _ | _
        · have F3 := Lib.hid h; clear h
          have FD := Lib.hid (show upB c m = false by rw [G6.out, F2.out, F3.out]; rfl)
          go_wp2_with (fail)
          refine (Below_any j c _).mono ?_
          rintro e x14 ⟨rfl, hb⟩
          have HX14 := Lib.hid (HX13.out.trans hb); clear hb
          rw [FU.out]
          go_wp2_with (fail)
          refine (Below_any c m _).mono ?_
          rintro e x15 ⟨rfl, hb⟩
          have HX15 := Lib.hid (HX14.out.trans hb); clear hb
          rw [FD.out]
          go_wp2_with (fail)
          go_ret
          exact ⟨rfl, HX15.out⟩
        · have F3 := Lib.hid h; clear h
          have FD := Lib.hid (show upB c m = true by rw [G6.out, F2.out, F3.out]; rfl)
          go_wp2_with (fail)
          refine (Below_any j c _).mono ?_
          rintro e x16 ⟨rfl, hb⟩
          have HX16 := Lib.hid (HX13.out.trans hb); clear hb
          rw [FU.out]
          go_wp2_with (fail)
          refine (Below_any c m _).mono ?_
          rintro e x17 ⟨rfl, hb⟩
          have HX17 := Lib.hid (HX16.out.trans hb); clear hb
          rw [FD.out]
          go_wp2_with (fail)
          go_ret
          exact ⟨rfl, HX17.out⟩
    · have F0 := Lib.hid h; clear h
      go_wp2_with (fail)
      refine (Below_any b c _).mono ?_
      rintro e x18 ⟨rfl, hb⟩
      have HX18 := Lib.hid (HB9.out.trans hb); clear hb
      rcases h : upB b c with _ | _
      · have F1 := Lib.hid h; clear h
        have FU := Lib.hid (show upB j c = false by rw [G5.out, F0.out, F1.out]; rfl)
        go_wp2_with (fail)
        refine (Below_any c a _).mono ?_
        rintro e x19 ⟨rfl, hb⟩
        have HX19 := Lib.hid (HX18.out.trans hb); clear hb
        rcases h : upB c a with _ | _
        · have F2 := Lib.hid h; clear h
          have FD := Lib.hid (show upB c m = false by rw [G6.out, F2.out]; rfl)
          go_wp2_with (fail)
          refine (Below_any j c _).mono ?_
          rintro e x20 ⟨rfl, hb⟩
          have HX20 := Lib.hid (HX19.out.trans hb); clear hb
          rw [FU.out]
          go_wp2_with (fail)
          refine (Below_any c m _).mono ?_
          rintro e x21 ⟨rfl, hb⟩
          have HX21 := Lib.hid (HX20.out.trans hb); clear hb
          rw [FD.out]
          go_wp2_with (fail)
          go_ret
          exact ⟨rfl, HX21.out⟩
        · have F2 := Lib.hid h; clear h
          go_wp2_with (fail)
          refine (Below_any c b _).mono ?_
          rintro e x22 ⟨rfl, hb⟩
          have HX22 := Lib.hid (HX19.out.trans hb); clear hb
          rcases h : upB c b with _ | _
          · have F3 := Lib.hid h; clear h
            have FD := Lib.hid (show upB c m = false by rw [G6.out, F2.out, F3.out]; rfl)
            go_wp2_with (fail)
            refine (Below_any j c _).mono ?_
            rintro e x23 ⟨rfl, hb⟩
            have HX23 := Lib.hid (HX22.out.trans hb); clear hb
            rw [FU.out]
            go_wp2_with (fail)
            refine (Below_any c m _).mono ?_
            rintro e x24 ⟨rfl, hb⟩
            have HX24 := Lib.hid (HX23.out.trans hb); clear hb
            rw [FD.out]
            go_wp2_with (fail)
            go_ret
            exact ⟨rfl, HX24.out⟩
          · have F3 := Lib.hid h; clear h
            have FD := Lib.hid (show upB c m = true by rw [G6.out, F2.out, F3.out]; rfl)
            go_wp2_with (fail)
            refine (Below_any j c _).mono ?_
            rintro e x25 ⟨rfl, hb⟩
            have HX25 := Lib.hid (HX22.out.trans hb); clear hb
            rw [FU.out]
            go_wp2_with (fail)
            refine (Below_any c m _).mono ?_
            rintro e x26 ⟨rfl, hb⟩
            have HX26 := Lib.hid (HX25.out.trans hb); clear hb
            rw [FD.out]
            go_wp2_with (fail)
            go_ret
            exact ⟨rfl, HX26.out⟩
      · have F1 := Lib.hid h; clear h
        have FU := Lib.hid (show upB j c = true by rw [G5.out, F0.out, F1.out]; rfl)
        go_wp2_with (fail)
        refine (Below_any c a _).mono ?_
        rintro e x27 ⟨rfl, hb⟩
        have HX27 := Lib.hid (HX18.out.trans hb); clear hb
        rcases h : upB c a with _ | _
        · have F2 := Lib.hid h; clear h
          have FD := Lib.hid (show upB c m = false by rw [G6.out, F2.out]; rfl)
          go_wp2_with (fail)
          refine (Below_any j c _).mono ?_
          rintro e x28 ⟨rfl, hb⟩
          have HX28 := Lib.hid (HX27.out.trans hb); clear hb
          rw [FU.out]
          go_wp2_with (fail)
          refine (Below_any c m _).mono ?_
          rintro e x29 ⟨rfl, hb⟩
          have HX29 := Lib.hid (HX28.out.trans hb); clear hb
          rw [FD.out]
          go_wp2_with (fail)
          go_ret
          exact ⟨rfl, HX29.out⟩
        · have F2 := Lib.hid h; clear h
          go_wp2_with (fail)
          refine (Below_any c b _).mono ?_
          rintro e x30 ⟨rfl, hb⟩
          have HX30 := Lib.hid (HX27.out.trans hb); clear hb
          rcases h : upB c b with _ | _
          · have F3 := Lib.hid h; clear h
            have FD := Lib.hid (show upB c m = false by rw [G6.out, F2.out, F3.out]; rfl)
            go_wp2_with (fail)
            refine (Below_any j c _).mono ?_
            rintro e x31 ⟨rfl, hb⟩
            have HX31 := Lib.hid (HX30.out.trans hb); clear hb
            rw [FU.out]
            go_wp2_with (fail)
            refine (Below_any c m _).mono ?_
            rintro e x32 ⟨rfl, hb⟩
            have HX32 := Lib.hid (HX31.out.trans hb); clear hb
            rw [FD.out]
            go_wp2_with (fail)
            go_ret
            exact ⟨rfl, HX32.out⟩
          · have F3 := Lib.hid h; clear h
            have FD := Lib.hid (show upB c m = true by rw [G6.out, F2.out, F3.out]; rfl)
            go_wp2_with (fail)
            refine (Below_any j c _).mono ?_
            rintro e x33 ⟨rfl, hb⟩
            have HX33 := Lib.hid (HX30.out.trans hb); clear hb
            rw [FU.out]
            go_wp2_with (fail)
            refine (Below_any c m _).mono ?_
            rintro e x34 ⟨rfl, hb⟩
            have HX34 := Lib.hid (HX33.out.trans hb); clear hb
            rw [FD.out]
            go_wp2_with (fail)
            go_ret
            exact ⟨rfl, HX34.out⟩
end Go.Proofs.Ytdlbihkollicfaa
