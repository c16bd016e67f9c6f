/- Cmp, Cmp2, Ord, laid together. -/
import Derived.Test.YteimllgoelleeaaQ1
import Derived.Lib.Bytealg
import Derived.StillTailTactics
set_option linter.unusedSimpArgs false
set_option linter.unusedVariables false
/- How two values stand: the plain definitions (where the program's own Compare is not in the seat; else tpl/XCmp). -/
namespace Go.Proofs.Yteimllgoelleeaa
open Go.RowKit
end Go.Proofs.Yteimllgoelleeaa
/- The contract of moultref1's Bytes (where the seat has no moultref1.Compare; else tpl/XCmp2). -/
namespace Go.Proofs.Yteimllgoelleeaa
open Go.RowKit

end Go.Proofs.Yteimllgoelleeaa
/- Plain mathematics of the order of values. -/
namespace Go.Proofs.Yteimllgoelleeaa
open Go.RowKit

end Go.Proofs.Yteimllgoelleeaa
