/- The chapter's examples (shown): all hold. -/
import Derived.Test.YtdlbihkollicfaaLat9
set_option linter.unusedSimpArgs false
set_option linter.unusedVariables false
namespace Go.Proofs.Ytdlbihkollicfaa
open Go.RowKit

theorem above_3 : els.filter (upB 3) = [3, 4] := by decide
theorem join_24 : joinI upB 2 4 = 4 ∧ joinB upB 2 4 = true := by decide
theorem join_15 : joinI upB 1 5 = 0 ∧ joinB upB 1 5 = false := by decide
theorem meet_56 : joinI dnB 5 6 = 5 ∧ joinB dnB 5 6 = true := by decide
theorem wid_ex : widE 2 7 [] 4 = 0 := by decide
theorem nar_ex1 : narE 4 70000 [] 2 = 2 := by decide
theorem nar_ex2 : narE 4 7 [] 1 = 2 := by decide

set_option maxHeartbeats 4000000 in
theorem shown_any (w : World) : Calls Try.prog 10 #[] w fun e w' => e = .returned (.bool true) ∧ Bel w w' := by
  go_enter Try.func10, Try.ntmps10
  go_wp2_with (fail)
  refine (Below_any 1 4 _).mono ?_
  rintro e w1 ⟨rfl, hb⟩
  have HB1 := Lib.hid (show Bel w w1 from hb); clear hb
  rw [show upB 1 4 = true by decide]
  go_wp2_with (fail)
  refine (Below_any 3 2 _).mono ?_
  rintro e w2 ⟨rfl, hb⟩
  have HB2 := Lib.hid (HB1.out.trans hb); clear hb
  rw [show upB 3 2 = false by decide]
  go_wp2_with (fail)
  refine (Below_any 5 4 _).mono ?_
  rintro e w3 ⟨rfl, hb⟩
  have HB3 := Lib.hid (HB2.out.trans hb); clear hb
  rw [show upB 5 4 = false by decide]
  go_wp2_with (fail)
  refine (Above_any 3 _).mono ?_
  rintro e w4 ⟨v, rfl, hown, hb⟩
  have HB4 := Lib.hid (HB3.out.trans hb); clear hb
  have HO := Lib.hid hown; clear hown
  go_wp2_with (fail)
  refine (same_any _ (HO.out.alloc _) (ownG_new intOk w4.heap.size w4 _ [3, 4] rfl (Nat.le_refl _) (by decide)) (by decide) (by decide)).mono ?_
  rintro e w5 ⟨rfl, hd⟩
  have HB5 := Lib.hid ((HB4.out.alloc _).trans hd.bel); clear hd
  rw [show (decide (els.filter (upB 3) = [3, 4])) = true by decide]
  go_wp2_with (fail)
  refine (Join_any 2 4 _).mono ?_
  rintro e w6 ⟨rfl, hb⟩
  have HB6 := Lib.hid (HB5.out.trans hb); clear hb
  rw [join_24.1, join_24.2]
  go_wp2_with (fail)
  refine (Join_any 1 5 _).mono ?_
  rintro e w7 ⟨rfl, hb⟩
  have HB7 := Lib.hid (HB6.out.trans hb); clear hb
  rw [join_15.1, join_15.2]
  go_wp2_with (fail)
  refine (Meet_any 5 6 _).mono ?_
  rintro e w8 ⟨rfl, hb⟩
  have HB8 := Lib.hid (HB7.out.trans hb); clear hb
  rw [meet_56.1, meet_56.2]
  go_wp2_with (fail)
  refine (widen_any 2 7 ⟨#[]⟩ 4 _ (by decide)).mono ?_
  rintro e w9 ⟨rfl, hb⟩
  have HB9 := Lib.hid (HB8.out.trans hb); clear hb
  rw [show widE 2 7 (ByteArray.mk #[]).data.toList 4 = 0 from wid_ex, takeV_ok]
  go_wp2_with (fail)
  refine (narrow_any 4 70000 ⟨#[]⟩ 2 _ (by decide)).mono ?_
  rintro e w10 ⟨rfl, hb⟩
  obtain ⟨q0, q1, q2, _, _, _, z0⟩ := (VAt.new w9 4 7 ⟨#[]⟩ 30).bel hb
  have HB10 := Lib.hid ((HB9.out.alloc _).trans hb); clear hb
  rw [show narE 4 70000 (ByteArray.mk #[]).data.toList 2 = 2 from nar_ex1, takeV_err _ _ _ (by decide)]
  go_wp2_with (fail)
  refine (narrow_any 4 7 ⟨#[]⟩ 1 _ (by decide)).mono ?_
  rintro e w11 ⟨rfl, hb⟩
  replace hb := ((Bel.refl w10).alloc _).trans hb
  replace q0 := cell_later hb q0
  replace q1 := cell_later hb q1
  replace q2 := cell_later hb q2
  replace z0 := Nat.lt_of_lt_of_le z0 hb.size
  have HB11 := Lib.hid (HB10.out.trans hb); clear hb
  rw [show narE 4 7 (ByteArray.mk #[]).data.toList 1 = 2 from nar_ex2, takeV_err _ _ _ (by decide)]
  go_wp2_with (fail)
  go_ret
  exact ⟨rfl, HB11.out.alloc _⟩
end Go.Proofs.Ytdlbihkollicfaa
