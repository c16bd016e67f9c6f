/- Cmp, Cmp2, Ord, laid together. -/
import Derived.Test.YteimllgoelleeaaGreatDoorZ1
import Derived.Lib.Bytealg
import Derived.StillTailTactics
set_option linter.unusedSimpArgs false
set_option linter.unusedVariables false
/- How two values stand: the plain definitions (where the program's own Compare is not in the seat; else tpl/XCmp). -/
namespace Go.Proofs.YteimllgoelleeaaGreatDoor
open Go.RowKit
end Go.Proofs.YteimllgoelleeaaGreatDoor
/- The contract of moultref1's Bytes (where the seat has no moultref1.Compare; else tpl/XCmp2). -/
namespace Go.Proofs.YteimllgoelleeaaGreatDoor
open Go.RowKit

end Go.Proofs.YteimllgoelleeaaGreatDoor
/- Plain mathematics of the order of values. -/
namespace Go.Proofs.YteimllgoelleeaaGreatDoor
open Go.RowKit

end Go.Proofs.YteimllgoelleeaaGreatDoor
