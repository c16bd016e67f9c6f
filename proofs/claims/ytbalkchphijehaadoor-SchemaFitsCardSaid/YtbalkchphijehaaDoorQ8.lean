/- KRight, laid together. -/
import Derived.Test.YtbalkchphijehaaDoorQ1
import Derived.Test.YtbalkchphijehaaDoorQ7
set_option linter.unusedSimpArgs false
set_option linter.unusedVariables false
/- The contracts of value.Right and moultref1.Right. -/
set_option maxRecDepth 20000
namespace Go.Proofs.YtbalkchphijehaaDoor
open Go.RowKit

set_option maxHeartbeats 400000 in
theorem right_any (k n : Int) (s : ByteArray) (w : World) (hs : s.size ≤ maxLen) :
    Calls Tryd.prog 39 #[.agg #[.int .i64 k, .int .i64 n, .string s]] w fun e w' => e = .returned (.bool (rightB k n s.data.toList)) ∧ Bel w w' := by
  unfold maxLen at hs
  go_enter Tryd.func39, Tryd.ntmps39
  go_wp2
  all_goals
    go_ret
    refine ⟨ret_bool ?_, (Bel.refl _).alloc _⟩
    go_light
    have hz : s.data.toList.length = s.size := rfl
    simp_all [rightB, ByteArray.toList_eq]
    try omega

end Go.Proofs.YtbalkchphijehaaDoor
