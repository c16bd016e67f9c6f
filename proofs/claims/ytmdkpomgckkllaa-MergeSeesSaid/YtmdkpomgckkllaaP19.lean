/- WrapP, laid together. -/
import Derived.Test.YtmdkpomgckkllaaP2
import Derived.ProofKit
import Derived.OpenShut
import Derived.Lib.SmallJoins
set_option linter.unusedSimpArgs false
set_option linter.unusedVariables false
/- Small words for rows without variables: the program's own knob, and how a value is handed on. -/
namespace Go.Proofs.Ytmdkpomgckkllaa
open Go.ChangeShapes Go.WideShapes Go.ChangeAt Go.RowKit Go.Joins

theorem own : ownKnob Try.prog.godebug = none := by kernel_rfl
end Go.Proofs.Ytmdkpomgckkllaa
