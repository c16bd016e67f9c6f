/- WrapP, laid together. -/
import Derived.Test.YteimllgoelleeaaGreatDoorZ1
import Derived.ProofKit
import Derived.OpenShut
import Derived.Lib.SmallJoins
set_option linter.unusedSimpArgs false
set_option linter.unusedVariables false
/- Small words for rows without variables: the program's own knob, and how a value is handed on. -/
namespace Go.Proofs.YteimllgoelleeaaGreatDoor
open Go.ChangeShapes Go.WideShapes Go.ChangeAt Go.RowKit Go.Joins

theorem own : ownKnob Tryz.prog.godebug = none := by kernel_rfl
end Go.Proofs.YteimllgoelleeaaGreatDoor
