/- VBig, VSize, VPut, VNum, VTake, VRef, VRTake, laid together. -/
import Derived.Test.YtmdkpomgckkllaaP4
import Derived.Test.YtmdkpomgckkllaaP1
import Derived.Deep.OwnRows
import Derived.WalkMore
import Derived.StillTailTactics
set_option linter.unusedSimpArgs false
set_option linter.unusedVariables false
/- varint.big, varint.sum: the last bytes of a number, and the number of some bytes. -/
namespace Go.Proofs.Ytmdkpomgckkllaa
open Go.RowKit Go.Deep

end Go.Proofs.Ytmdkpomgckkllaa
/- varint.Size: how many bytes a number's are. -/
namespace Go.Proofs.Ytmdkpomgckkllaa
open Go.RowKit Go.Deep

end Go.Proofs.Ytmdkpomgckkllaa
/- varint.Put and moultref3.Put: one number's bytes. -/
namespace Go.Proofs.Ytmdkpomgckkllaa
open Go.RowKit Go.Deep

end Go.Proofs.Ytmdkpomgckkllaa
/- varint.sizeBehind, varint.number: what so many bytes tell. -/
namespace Go.Proofs.Ytmdkpomgckkllaa
open Go.RowKit Go.Deep

end Go.Proofs.Ytmdkpomgckkllaa
/- varint.Take: the number with which some bytes begin. -/
namespace Go.Proofs.Ytmdkpomgckkllaa
open Go.RowKit Go.Deep

end Go.Proofs.Ytmdkpomgckkllaa
/- moultref3's bytes, count and Put: the document's answer for a number's bytes. -/
namespace Go.Proofs.Ytmdkpomgckkllaa
open Go.RowKit Go.Deep

end Go.Proofs.Ytmdkpomgckkllaa
/- moultref3.Take: the document's answer for what some bytes begin with. (written by genvrtake.py) -/
namespace Go.Proofs.Ytmdkpomgckkllaa
open Go.RowKit Go.Deep

end Go.Proofs.Ytmdkpomgckkllaa
