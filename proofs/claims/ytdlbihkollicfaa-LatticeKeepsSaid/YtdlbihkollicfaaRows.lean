/-
  No cell of these rows narrows 'for every input' (looked for: loops, veiled, ifaces, maps, wideKeys, modest, calm, conditions, laid).
  DERIVED. THE GIVEN ROWS OF THIS SEAT. 7 by the template 'for every input the law returns true; each argument reads behind the call as it read before'; 0 by the template 'total and deterministic' (their statements: YtdlbihkollicfaaTotals.lean).
  GIVEN WITH THE SEED: the statements are not yours to turn. If you find one false, say at which input.
  Laid BY PROGRAM, IN A SANDBOX (cutbox-rows.mjs): the forced cells as the released guide's own fill.sh prints them over the translation 8ea02697dd052d1a… (all of the seat's roots in one cut). By AI agents, Wed Nov 11 2026. No macro, syntax, notation, axiom, sorry.
-/
import Derived.Test.YtdlbihkollicfaaChecked
import GoSem.Claim
import GoSem.ClaimJoined
import GoSem.ClaimMapViews
import Derived.JoinedTies
import Derived.KernelRfl
namespace Go.Proofs.Ytdlbihkollicfaa
/- THE CELL 'sum', in the pinned program and in every row, IS THE sha256 OF THE DUMP (.gsa) THAT YtdlbihkollicfaaProg.lean LOADS. Nothing in Lean hashes anything: it is a label: what it is worth is what the hold of that sum in a sandbox is worth. -/
noncomputable def Try.pinned : Pinned := { name := "ytdlbihkollicfaa", sum := "8ea02697dd052d1ae0023e15ef319dbb59ea192a057d4c62bc691adf197d0c40", checked := Try.checked }
namespace Rows
def none {H : Type} : Left H := { results := [], args := [] }

/-- 'moultlaw2.LatticeTells': WHATEVER THE INPUT: true; the input reads as it did. -/
def latticeTellsSpec : ChangeSpec := { name := "latticeTells", fn := fun _ => fun
  | [d1, d2] => { results := [.lit (.bool true)], args := [d1, d2] }
  | _ => none }
def latticeTellsRow : OpenClaim := { program := "ytdlbihkollicfaa", sum := "8ea02697dd052d1ae0023e15ef319dbb59ea192a057d4c62bc691adf197d0c40", func := "moult/moultlaw2.LatticeTells", spec := "latticeTells", recurses := true, apart := false }
def LatticeTellsSaid : Prop := latticeTellsRow.holds Try.pinned (OpenSpec.ofChange latticeTellsSpec)

/-- ITS FALSE NEIGHBOUR: 'it returns false'. Refute it at one input. -/
def latticeTellsWrong : ChangeSpec := { name := "latticeTells", fn := fun _ => fun
  | [d1, d2] => { results := [.lit (.bool false)], args := [d1, d2] }
  | _ => none }
def LatticeTellsWrongFalsely : Prop := latticeTellsRow.holds Try.pinned (OpenSpec.ofChange latticeTellsWrong)

/-- 'moultlaw2.LatticeTakes': WHATEVER THE INPUT: true; the input reads as it did. -/
def latticeTakesSpec : ChangeSpec := { name := "latticeTakes", fn := fun _ => fun
  | [d1, d2] => { results := [.lit (.bool true)], args := [d1, d2] }
  | _ => none }
def latticeTakesRow : OpenClaim := { program := "ytdlbihkollicfaa", sum := "8ea02697dd052d1ae0023e15ef319dbb59ea192a057d4c62bc691adf197d0c40", func := "moult/moultlaw2.LatticeTakes", spec := "latticeTakes", recurses := true, apart := false }
def LatticeTakesSaid : Prop := latticeTakesRow.holds Try.pinned (OpenSpec.ofChange latticeTakesSpec)

/-- ITS FALSE NEIGHBOUR: 'it returns false'. Refute it at one input. -/
def latticeTakesWrong : ChangeSpec := { name := "latticeTakes", fn := fun _ => fun
  | [d1, d2] => { results := [.lit (.bool false)], args := [d1, d2] }
  | _ => none }
def LatticeTakesWrongFalsely : Prop := latticeTakesRow.holds Try.pinned (OpenSpec.ofChange latticeTakesWrong)

/-- 'moultlaw2.LatticeOrders': WHATEVER THE INPUT: true; the input reads as it did. -/
def latticeOrdersSpec : ChangeSpec := { name := "latticeOrders", fn := fun _ => fun
  | [d1, d2, d3] => { results := [.lit (.bool true)], args := [d1, d2, d3] }
  | _ => none }
def latticeOrdersRow : OpenClaim := { program := "ytdlbihkollicfaa", sum := "8ea02697dd052d1ae0023e15ef319dbb59ea192a057d4c62bc691adf197d0c40", func := "moult/moultlaw2.LatticeOrders", spec := "latticeOrders", recurses := true, apart := false }
def LatticeOrdersSaid : Prop := latticeOrdersRow.holds Try.pinned (OpenSpec.ofChange latticeOrdersSpec)

/-- ITS FALSE NEIGHBOUR: 'it returns false'. Refute it at one input. -/
def latticeOrdersWrong : ChangeSpec := { name := "latticeOrders", fn := fun _ => fun
  | [d1, d2, d3] => { results := [.lit (.bool false)], args := [d1, d2, d3] }
  | _ => none }
def LatticeOrdersWrongFalsely : Prop := latticeOrdersRow.holds Try.pinned (OpenSpec.ofChange latticeOrdersWrong)

/-- 'moultlaw2.LatticeBounds': WHATEVER THE INPUT: true; the input reads as it did. -/
def latticeBoundsSpec : ChangeSpec := { name := "latticeBounds", fn := fun _ => fun
  | [d1, d2, d3] => { results := [.lit (.bool true)], args := [d1, d2, d3] }
  | _ => none }
def latticeBoundsRow : OpenClaim := { program := "ytdlbihkollicfaa", sum := "8ea02697dd052d1ae0023e15ef319dbb59ea192a057d4c62bc691adf197d0c40", func := "moult/moultlaw2.LatticeBounds", spec := "latticeBounds", recurses := true, apart := false }
def LatticeBoundsSaid : Prop := latticeBoundsRow.holds Try.pinned (OpenSpec.ofChange latticeBoundsSpec)

/-- ITS FALSE NEIGHBOUR: 'it returns false'. Refute it at one input. -/
def latticeBoundsWrong : ChangeSpec := { name := "latticeBounds", fn := fun _ => fun
  | [d1, d2, d3] => { results := [.lit (.bool false)], args := [d1, d2, d3] }
  | _ => none }
def LatticeBoundsWrongFalsely : Prop := latticeBoundsRow.holds Try.pinned (OpenSpec.ofChange latticeBoundsWrong)

/-- 'moultlaw2.LatticeWidens': WHATEVER THE INPUT: true; the input reads as it did. -/
def latticeWidensSpec : ChangeSpec := { name := "latticeWidens", fn := fun _ => fun
  | [d1, d2, d3] => { results := [.lit (.bool true)], args := [d1, d2, d3] }
  | _ => none }
def latticeWidensRow : OpenClaim := { program := "ytdlbihkollicfaa", sum := "8ea02697dd052d1ae0023e15ef319dbb59ea192a057d4c62bc691adf197d0c40", func := "moult/moultlaw2.LatticeWidens", spec := "latticeWidens", recurses := true, apart := false }
def LatticeWidensSaid : Prop := latticeWidensRow.holds Try.pinned (OpenSpec.ofChange latticeWidensSpec)

/-- ITS FALSE NEIGHBOUR: 'it returns false'. Refute it at one input. -/
def latticeWidensWrong : ChangeSpec := { name := "latticeWidens", fn := fun _ => fun
  | [d1, d2, d3] => { results := [.lit (.bool false)], args := [d1, d2, d3] }
  | _ => none }
def LatticeWidensWrongFalsely : Prop := latticeWidensRow.holds Try.pinned (OpenSpec.ofChange latticeWidensWrong)

/-- 'moultlaw2.LatticeKeeps': WHATEVER THE INPUT: true; the input reads as it did. -/
def latticeKeepsSpec : ChangeSpec := { name := "latticeKeeps", fn := fun _ => fun
  | [d1, d2, d3] => { results := [.lit (.bool true)], args := [d1, d2, d3] }
  | _ => none }
def latticeKeepsRow : OpenClaim := { program := "ytdlbihkollicfaa", sum := "8ea02697dd052d1ae0023e15ef319dbb59ea192a057d4c62bc691adf197d0c40", func := "moult/moultlaw2.LatticeKeeps", spec := "latticeKeeps", recurses := true, apart := false }
def LatticeKeepsSaid : Prop := latticeKeepsRow.holds Try.pinned (OpenSpec.ofChange latticeKeepsSpec)

/-- ITS FALSE NEIGHBOUR: 'it returns false'. Refute it at one input. -/
def latticeKeepsWrong : ChangeSpec := { name := "latticeKeeps", fn := fun _ => fun
  | [d1, d2, d3] => { results := [.lit (.bool false)], args := [d1, d2, d3] }
  | _ => none }
def LatticeKeepsWrongFalsely : Prop := latticeKeepsRow.holds Try.pinned (OpenSpec.ofChange latticeKeepsWrong)

/-- 'moultlaw2.LatticeNarrows': WHATEVER THE INPUT: true; the input reads as it did. -/
def latticeNarrowsSpec : ChangeSpec := { name := "latticeNarrows", fn := fun _ => fun
  | [d1, d2] => { results := [.lit (.bool true)], args := [d1, d2] }
  | _ => none }
def latticeNarrowsRow : OpenClaim := { program := "ytdlbihkollicfaa", sum := "8ea02697dd052d1ae0023e15ef319dbb59ea192a057d4c62bc691adf197d0c40", func := "moult/moultlaw2.LatticeNarrows", spec := "latticeNarrows", recurses := true, apart := false }
def LatticeNarrowsSaid : Prop := latticeNarrowsRow.holds Try.pinned (OpenSpec.ofChange latticeNarrowsSpec)

/-- ITS FALSE NEIGHBOUR: 'it returns false'. Refute it at one input. -/
def latticeNarrowsWrong : ChangeSpec := { name := "latticeNarrows", fn := fun _ => fun
  | [d1, d2] => { results := [.lit (.bool false)], args := [d1, d2] }
  | _ => none }
def LatticeNarrowsWrongFalsely : Prop := latticeNarrowsRow.holds Try.pinned (OpenSpec.ofChange latticeNarrowsWrong)

/- THE SECOND FORM. 'bulk': how many values and letters a reading holds, each counted each time it is reached (what is shared counts as often as it is met; a slice's spare places count too). A statement '..UptoSaid' is the law's where the arguments, and the package variables that the reading takes, are together of bulk at most 1048576: NARROWER than '..Said'. Prove '..Said' where nothing that the law and all that it calls make is longer than what came in: it says more and counts as full. Else prove '..UptoSaid'. A law counts once. -/
mutual
def uptoBulk {H : Type} : DataW H → Nat
  | .lit (.string bytes) => bytes.length + 1
  | .lit _ => 1
  | .nil => 1
  | .ptr d => uptoBulk d + 1
  | .slice elems spare => uptoBulkAll elems + uptoBulkAll spare + 1
  | .agg parts => uptoBulkAll parts + 1
  | .iface _ d => uptoBulk d + 1
  | .map entries => uptoBulkEntries entries + 1
  | .held _ => 1
def uptoBulkAll {H : Type} : List (DataW H) → Nat
  | [] => 0
  | d :: r => uptoBulk d + uptoBulkAll r
def uptoBulkEntries {H : Type} : List (Lit × DataW H) → Nat
  | [] => 0
  | x :: r => uptoBulkEntry x + uptoBulkEntries r
def uptoBulkEntry {H : Type} : Lit × DataW H → Nat
  | (.string bytes, d) => bytes.length + uptoBulk d + 1
  | (_, d) => uptoBulk d + 1
 end
def uptoSmall : (H : Type) → List (DataW H) → Bool := fun _ ds => decide (uptoBulkAll ds ≤ 1048576)
def OpenSpec.upto (s : _root_.Go.ChangeSpec) : _root_.Go.OpenSpec := { _root_.Go.OpenSpec.ofChange s with cond := some uptoSmall }

/-- 'moultlaw2.LatticeTells', WHERE WHAT IT READS IS OF BULK AT MOST 1048576: true; the input reads as it did. -/
def latticeTellsUptoRow : OpenClaim := { program := "ytdlbihkollicfaa", sum := "8ea02697dd052d1ae0023e15ef319dbb59ea192a057d4c62bc691adf197d0c40", func := "moult/moultlaw2.LatticeTells", spec := "latticeTells", recurses := true, apart := false, narrowed := true }
def LatticeTellsUptoSaid : Prop := latticeTellsUptoRow.holds Try.pinned (OpenSpec.upto latticeTellsSpec)

/-- 'moultlaw2.LatticeTakes', WHERE WHAT IT READS IS OF BULK AT MOST 1048576: true; the input reads as it did. -/
def latticeTakesUptoRow : OpenClaim := { program := "ytdlbihkollicfaa", sum := "8ea02697dd052d1ae0023e15ef319dbb59ea192a057d4c62bc691adf197d0c40", func := "moult/moultlaw2.LatticeTakes", spec := "latticeTakes", recurses := true, apart := false, narrowed := true }
def LatticeTakesUptoSaid : Prop := latticeTakesUptoRow.holds Try.pinned (OpenSpec.upto latticeTakesSpec)

/-- 'moultlaw2.LatticeOrders', WHERE WHAT IT READS IS OF BULK AT MOST 1048576: true; the input reads as it did. -/
def latticeOrdersUptoRow : OpenClaim := { program := "ytdlbihkollicfaa", sum := "8ea02697dd052d1ae0023e15ef319dbb59ea192a057d4c62bc691adf197d0c40", func := "moult/moultlaw2.LatticeOrders", spec := "latticeOrders", recurses := true, apart := false, narrowed := true }
def LatticeOrdersUptoSaid : Prop := latticeOrdersUptoRow.holds Try.pinned (OpenSpec.upto latticeOrdersSpec)

/-- 'moultlaw2.LatticeBounds', WHERE WHAT IT READS IS OF BULK AT MOST 1048576: true; the input reads as it did. -/
def latticeBoundsUptoRow : OpenClaim := { program := "ytdlbihkollicfaa", sum := "8ea02697dd052d1ae0023e15ef319dbb59ea192a057d4c62bc691adf197d0c40", func := "moult/moultlaw2.LatticeBounds", spec := "latticeBounds", recurses := true, apart := false, narrowed := true }
def LatticeBoundsUptoSaid : Prop := latticeBoundsUptoRow.holds Try.pinned (OpenSpec.upto latticeBoundsSpec)

/-- 'moultlaw2.LatticeWidens', WHERE WHAT IT READS IS OF BULK AT MOST 1048576: true; the input reads as it did. -/
def latticeWidensUptoRow : OpenClaim := { program := "ytdlbihkollicfaa", sum := "8ea02697dd052d1ae0023e15ef319dbb59ea192a057d4c62bc691adf197d0c40", func := "moult/moultlaw2.LatticeWidens", spec := "latticeWidens", recurses := true, apart := false, narrowed := true }
def LatticeWidensUptoSaid : Prop := latticeWidensUptoRow.holds Try.pinned (OpenSpec.upto latticeWidensSpec)

/-- 'moultlaw2.LatticeKeeps', WHERE WHAT IT READS IS OF BULK AT MOST 1048576: true; the input reads as it did. -/
def latticeKeepsUptoRow : OpenClaim := { program := "ytdlbihkollicfaa", sum := "8ea02697dd052d1ae0023e15ef319dbb59ea192a057d4c62bc691adf197d0c40", func := "moult/moultlaw2.LatticeKeeps", spec := "latticeKeeps", recurses := true, apart := false, narrowed := true }
def LatticeKeepsUptoSaid : Prop := latticeKeepsUptoRow.holds Try.pinned (OpenSpec.upto latticeKeepsSpec)

/-- 'moultlaw2.LatticeNarrows', WHERE WHAT IT READS IS OF BULK AT MOST 1048576: true; the input reads as it did. -/
def latticeNarrowsUptoRow : OpenClaim := { program := "ytdlbihkollicfaa", sum := "8ea02697dd052d1ae0023e15ef319dbb59ea192a057d4c62bc691adf197d0c40", func := "moult/moultlaw2.LatticeNarrows", spec := "latticeNarrows", recurses := true, apart := false, narrowed := true }
def LatticeNarrowsUptoSaid : Prop := latticeNarrowsUptoRow.holds Try.pinned (OpenSpec.upto latticeNarrowsSpec)

end Rows
end Go.Proofs.Ytdlbihkollicfaa
