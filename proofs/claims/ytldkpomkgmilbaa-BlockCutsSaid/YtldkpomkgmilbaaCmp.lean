/- How two values stand: the plain definitions (where the program's own Compare is not in the seat; else tpl/XCmp). -/
import Derived.Test.YtldkpomkgmilbaaKit
import Derived.Lib.Bytealg
import Derived.StillTailTactics
set_option linter.unusedSimpArgs false
set_option linter.unusedVariables false
namespace Go.Proofs.Ytldkpomkgmilbaa
open Go.RowKit
def cmpI (x y : Int) : Int := if x < y then -1 else if y < x then 1 else 0
/-- The first of three that is not 0. -/
def or3 (x y z : Int) : Int := if x ≠ 0 then x else if y ≠ 0 then y else z
/-- How two values stand. -/
def cmpV (k n : Int) (s : List UInt8) (k' n' : Int) (s' : List UInt8) : Int := or3 (cmpI k k') (cmpI n n') (Lib.compareBytes s s')
end Go.Proofs.Ytldkpomkgmilbaa
