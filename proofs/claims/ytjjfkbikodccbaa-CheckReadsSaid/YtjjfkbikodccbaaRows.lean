/-
  No cell of these rows narrows 'for every input' (looked for: loops, veiled, ifaces, maps, wideKeys, modest, calm, conditions, laid).
  DERIVED. THE GIVEN ROWS OF THIS SEAT. 6 by the template 'for every input the law returns true; each argument reads behind the call as it read before'; 0 by the template 'total and deterministic' (their statements: YtjjfkbikodccbaaTotals.lean).
  GIVEN WITH THE SEED: the statements are not yours to turn. If you find one false, say at which input.
  Laid BY PROGRAM, IN A SANDBOX (cutbox-rows.mjs): the forced cells as the released guide's own fill.sh prints them over the translation ade0ed505faf8f00… (all of the seat's roots in one cut). By AI agents, Wed Nov 11 2026. No macro, syntax, notation, axiom, sorry.
-/
import Derived.Test.YtjjfkbikodccbaaChecked
import GoSem.Claim
import GoSem.ClaimJoined
import GoSem.ClaimMapViews
import Derived.JoinedTies
import Derived.KernelRfl
namespace Go.Proofs.Ytjjfkbikodccbaa
/- THE CELL 'sum', in the pinned program and in every row, IS THE sha256 OF THE DUMP (.gsa) THAT YtjjfkbikodccbaaProg.lean LOADS. Nothing in Lean hashes anything: it is a label: what it is worth is what the hold of that sum in a sandbox is worth. -/
noncomputable def Try.pinned : Pinned := { name := "ytjjfkbikodccbaa", sum := "ade0ed505faf8f009d5aab980e5b68f1c781e33b025108c59759f9469d9ce217", checked := Try.checked }
namespace Rows
def none {H : Type} : Left H := { results := [], args := [] }

/-- 'moultlaw5.CheckFrames': WHATEVER THE INPUT: true; the input reads as it did. -/
def checkFramesSpec : ChangeSpec := { name := "checkFrames", fn := fun _ => fun
  | [d1, d2] => { results := [.lit (.bool true)], args := [d1, d2] }
  | _ => none }
def checkFramesRow : OpenClaim := { program := "ytjjfkbikodccbaa", sum := "ade0ed505faf8f009d5aab980e5b68f1c781e33b025108c59759f9469d9ce217", func := "moult/moultlaw5.CheckFrames", spec := "checkFrames", unfollowed := true, recurses := true, apart := false }
def CheckFramesSaid : Prop := checkFramesRow.holds Try.pinned (OpenSpec.ofChange checkFramesSpec)

/-- ITS FALSE NEIGHBOUR: 'it returns false'. Refute it at one input. -/
def checkFramesWrong : ChangeSpec := { name := "checkFrames", fn := fun _ => fun
  | [d1, d2] => { results := [.lit (.bool false)], args := [d1, d2] }
  | _ => none }
def CheckFramesWrongFalsely : Prop := checkFramesRow.holds Try.pinned (OpenSpec.ofChange checkFramesWrong)

/-- 'moultlaw5.CheckReads': WHATEVER THE INPUT: true; the input reads as it did. -/
def checkReadsSpec : ChangeSpec := { name := "checkReads", fn := fun _ => fun
  | [d] => { results := [.lit (.bool true)], args := [d] }
  | _ => none }
def checkReadsRow : OpenClaim := { program := "ytjjfkbikodccbaa", sum := "ade0ed505faf8f009d5aab980e5b68f1c781e33b025108c59759f9469d9ce217", func := "moult/moultlaw5.CheckReads", spec := "checkReads", unfollowed := true, recurses := true, apart := false }
def CheckReadsSaid : Prop := checkReadsRow.holds Try.pinned (OpenSpec.ofChange checkReadsSpec)

/-- ITS FALSE NEIGHBOUR: 'it returns false'. Refute it at one input. -/
def checkReadsWrong : ChangeSpec := { name := "checkReads", fn := fun _ => fun
  | [d] => { results := [.lit (.bool false)], args := [d] }
  | _ => none }
def CheckReadsWrongFalsely : Prop := checkReadsRow.holds Try.pinned (OpenSpec.ofChange checkReadsWrong)

/-- 'moultlaw5.CheckBack': WHATEVER THE INPUT: true; the input reads as it did. -/
def checkBackSpec : ChangeSpec := { name := "checkBack", fn := fun _ => fun
  | [d1, d2] => { results := [.lit (.bool true)], args := [d1, d2] }
  | _ => none }
def checkBackRow : OpenClaim := { program := "ytjjfkbikodccbaa", sum := "ade0ed505faf8f009d5aab980e5b68f1c781e33b025108c59759f9469d9ce217", func := "moult/moultlaw5.CheckBack", spec := "checkBack", unfollowed := true, recurses := true, apart := false }
def CheckBackSaid : Prop := checkBackRow.holds Try.pinned (OpenSpec.ofChange checkBackSpec)

/-- ITS FALSE NEIGHBOUR: 'it returns false'. Refute it at one input. -/
def checkBackWrong : ChangeSpec := { name := "checkBack", fn := fun _ => fun
  | [d1, d2] => { results := [.lit (.bool false)], args := [d1, d2] }
  | _ => none }
def CheckBackWrongFalsely : Prop := checkBackRow.holds Try.pinned (OpenSpec.ofChange checkBackWrong)

/-- 'moultlaw5.CheckCuts': WHATEVER THE INPUT: true; the input reads as it did. -/
def checkCutsSpec : ChangeSpec := { name := "checkCuts", fn := fun _ => fun
  | [d1, d2] => { results := [.lit (.bool true)], args := [d1, d2] }
  | _ => none }
def checkCutsRow : OpenClaim := { program := "ytjjfkbikodccbaa", sum := "ade0ed505faf8f009d5aab980e5b68f1c781e33b025108c59759f9469d9ce217", func := "moult/moultlaw5.CheckCuts", spec := "checkCuts", unfollowed := true, recurses := true, apart := false }
def CheckCutsSaid : Prop := checkCutsRow.holds Try.pinned (OpenSpec.ofChange checkCutsSpec)

/-- ITS FALSE NEIGHBOUR: 'it returns false'. Refute it at one input. -/
def checkCutsWrong : ChangeSpec := { name := "checkCuts", fn := fun _ => fun
  | [d1, d2] => { results := [.lit (.bool false)], args := [d1, d2] }
  | _ => none }
def CheckCutsWrongFalsely : Prop := checkCutsRow.holds Try.pinned (OpenSpec.ofChange checkCutsWrong)

/-- 'moultlaw5.CheckTurns': WHATEVER THE INPUT: true; the input reads as it did. -/
def checkTurnsSpec : ChangeSpec := { name := "checkTurns", fn := fun _ => fun
  | [d1, d2, d3] => { results := [.lit (.bool true)], args := [d1, d2, d3] }
  | _ => none }
def checkTurnsRow : OpenClaim := { program := "ytjjfkbikodccbaa", sum := "ade0ed505faf8f009d5aab980e5b68f1c781e33b025108c59759f9469d9ce217", func := "moult/moultlaw5.CheckTurns", spec := "checkTurns", unfollowed := true, recurses := true, apart := false }
def CheckTurnsSaid : Prop := checkTurnsRow.holds Try.pinned (OpenSpec.ofChange checkTurnsSpec)

/-- ITS FALSE NEIGHBOUR: 'it returns false'. Refute it at one input. -/
def checkTurnsWrong : ChangeSpec := { name := "checkTurns", fn := fun _ => fun
  | [d1, d2, d3] => { results := [.lit (.bool false)], args := [d1, d2, d3] }
  | _ => none }
def CheckTurnsWrongFalsely : Prop := checkTurnsRow.holds Try.pinned (OpenSpec.ofChange checkTurnsWrong)

/-- 'moultlaw5.CheckSums': WHATEVER THE INPUT: true; the input reads as it did. -/
def checkSumsSpec : ChangeSpec := { name := "checkSums", fn := fun _ => fun
  | [d1, d2, d3, d4, d5] => { results := [.lit (.bool true)], args := [d1, d2, d3, d4, d5] }
  | _ => none }
def checkSumsRow : OpenClaim := { program := "ytjjfkbikodccbaa", sum := "ade0ed505faf8f009d5aab980e5b68f1c781e33b025108c59759f9469d9ce217", func := "moult/moultlaw5.CheckSums", spec := "checkSums", unfollowed := true, recurses := true, apart := false }
def CheckSumsSaid : Prop := checkSumsRow.holds Try.pinned (OpenSpec.ofChange checkSumsSpec)

/-- ITS FALSE NEIGHBOUR: 'it returns false'. Refute it at one input. -/
def checkSumsWrong : ChangeSpec := { name := "checkSums", fn := fun _ => fun
  | [d1, d2, d3, d4, d5] => { results := [.lit (.bool false)], args := [d1, d2, d3, d4, d5] }
  | _ => none }
def CheckSumsWrongFalsely : Prop := checkSumsRow.holds Try.pinned (OpenSpec.ofChange checkSumsWrong)

/- THE SECOND FORM. 'bulk': how many values and letters a reading holds, each counted each time it is reached (what is shared counts as often as it is met; a slice's spare places count too). A statement '..UptoSaid' is the law's where the arguments, and the package variables that the reading takes, are together of bulk at most 1048576: NARROWER than '..Said'. Prove '..Said' where nothing that the law and all that it calls make is longer than what came in: it says more and counts as full. Else prove '..UptoSaid'. A law counts once. -/
mutual
def uptoBulk {H : Type} : DataW H → Nat
  | .lit (.string bytes) => bytes.length + 1
  | .lit _ => 1
  | .nil => 1
  | .ptr d => uptoBulk d + 1
  | .slice elems spare => uptoBulkAll elems + uptoBulkAll spare + 1
  | .agg parts => uptoBulkAll parts + 1
  | .iface _ d => uptoBulk d + 1
  | .map entries => uptoBulkEntries entries + 1
  | .held _ => 1
def uptoBulkAll {H : Type} : List (DataW H) → Nat
  | [] => 0
  | d :: r => uptoBulk d + uptoBulkAll r
def uptoBulkEntries {H : Type} : List (Lit × DataW H) → Nat
  | [] => 0
  | x :: r => uptoBulkEntry x + uptoBulkEntries r
def uptoBulkEntry {H : Type} : Lit × DataW H → Nat
  | (.string bytes, d) => bytes.length + uptoBulk d + 1
  | (_, d) => uptoBulk d + 1
 end
def uptoSmall : (H : Type) → List (DataW H) → Bool := fun _ ds => decide (uptoBulkAll ds ≤ 1048576)
def OpenSpec.upto (s : _root_.Go.ChangeSpec) : _root_.Go.OpenSpec := { _root_.Go.OpenSpec.ofChange s with cond := some uptoSmall }

/-- 'moultlaw5.CheckFrames', WHERE WHAT IT READS IS OF BULK AT MOST 1048576: true; the input reads as it did. -/
def checkFramesUptoRow : OpenClaim := { program := "ytjjfkbikodccbaa", sum := "ade0ed505faf8f009d5aab980e5b68f1c781e33b025108c59759f9469d9ce217", func := "moult/moultlaw5.CheckFrames", spec := "checkFrames", unfollowed := true, recurses := true, apart := false, narrowed := true }
def CheckFramesUptoSaid : Prop := checkFramesUptoRow.holds Try.pinned (OpenSpec.upto checkFramesSpec)

/-- 'moultlaw5.CheckReads', WHERE WHAT IT READS IS OF BULK AT MOST 1048576: true; the input reads as it did. -/
def checkReadsUptoRow : OpenClaim := { program := "ytjjfkbikodccbaa", sum := "ade0ed505faf8f009d5aab980e5b68f1c781e33b025108c59759f9469d9ce217", func := "moult/moultlaw5.CheckReads", spec := "checkReads", unfollowed := true, recurses := true, apart := false, narrowed := true }
def CheckReadsUptoSaid : Prop := checkReadsUptoRow.holds Try.pinned (OpenSpec.upto checkReadsSpec)

/-- 'moultlaw5.CheckBack', WHERE WHAT IT READS IS OF BULK AT MOST 1048576: true; the input reads as it did. -/
def checkBackUptoRow : OpenClaim := { program := "ytjjfkbikodccbaa", sum := "ade0ed505faf8f009d5aab980e5b68f1c781e33b025108c59759f9469d9ce217", func := "moult/moultlaw5.CheckBack", spec := "checkBack", unfollowed := true, recurses := true, apart := false, narrowed := true }
def CheckBackUptoSaid : Prop := checkBackUptoRow.holds Try.pinned (OpenSpec.upto checkBackSpec)

/-- 'moultlaw5.CheckCuts', WHERE WHAT IT READS IS OF BULK AT MOST 1048576: true; the input reads as it did. -/
def checkCutsUptoRow : OpenClaim := { program := "ytjjfkbikodccbaa", sum := "ade0ed505faf8f009d5aab980e5b68f1c781e33b025108c59759f9469d9ce217", func := "moult/moultlaw5.CheckCuts", spec := "checkCuts", unfollowed := true, recurses := true, apart := false, narrowed := true }
def CheckCutsUptoSaid : Prop := checkCutsUptoRow.holds Try.pinned (OpenSpec.upto checkCutsSpec)

/-- 'moultlaw5.CheckTurns', WHERE WHAT IT READS IS OF BULK AT MOST 1048576: true; the input reads as it did. -/
def checkTurnsUptoRow : OpenClaim := { program := "ytjjfkbikodccbaa", sum := "ade0ed505faf8f009d5aab980e5b68f1c781e33b025108c59759f9469d9ce217", func := "moult/moultlaw5.CheckTurns", spec := "checkTurns", unfollowed := true, recurses := true, apart := false, narrowed := true }
def CheckTurnsUptoSaid : Prop := checkTurnsUptoRow.holds Try.pinned (OpenSpec.upto checkTurnsSpec)

/-- 'moultlaw5.CheckSums', WHERE WHAT IT READS IS OF BULK AT MOST 1048576: true; the input reads as it did. -/
def checkSumsUptoRow : OpenClaim := { program := "ytjjfkbikodccbaa", sum := "ade0ed505faf8f009d5aab980e5b68f1c781e33b025108c59759f9469d9ce217", func := "moult/moultlaw5.CheckSums", spec := "checkSums", unfollowed := true, recurses := true, apart := false, narrowed := true }
def CheckSumsUptoSaid : Prop := checkSumsUptoRow.holds Try.pinned (OpenSpec.upto checkSumsSpec)

end Rows
end Go.Proofs.Ytjjfkbikodccbaa
