/- Compare at a shown answer. -/
import Derived.Test.YtggmeggfibblhaaDoorKOrd
import Derived.Test.YtggmeggfibblhaaDoorCmp2
set_option linter.unusedSimpArgs false
set_option linter.unusedVariables false
namespace Go.Proofs.YtggmeggfibblhaaDoor
open Go.RowKit Go.Deep

theorem compare_at (k n : Int) (s : ByteArray) (k' n' : Int) (s' : ByteArray) (z : Int) (w : World) (ha : s.size ≤ maxLen) (hb : s'.size ≤ maxLen) (hz : cmpK ⟨k, n, s⟩ ⟨k', n', s'⟩ = z) :
    Calls Tryd.prog 21 #[.agg #[.int .i64 k, .int .i64 n, .string s], .agg #[.int .i64 k', .int .i64 n', .string s']] w fun e w' => e = .returned (.int .i64 z) ∧ Bel w w' := by
  subst hz
  exact ref_compare_any k n s k' n' s' w ha hb
end Go.Proofs.YtggmeggfibblhaaDoor
