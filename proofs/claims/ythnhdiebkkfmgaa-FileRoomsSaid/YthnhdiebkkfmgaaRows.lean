/-
  No cell of these rows narrows 'for every input' (looked for: loops, veiled, ifaces, maps, wideKeys, modest, calm, conditions, laid).
  DERIVED. THE GIVEN ROWS OF THIS SEAT. 5 by the template 'for every input the law returns true; each argument reads behind the call as it read before'; 0 by the template 'total and deterministic' (their statements: YthnhdiebkkfmgaaTotals.lean).
  GIVEN WITH THE SEED: the statements are not yours to turn. If you find one false, say at which input.
  Laid BY PROGRAM, IN A SANDBOX (cutbox-rows.mjs): the forced cells as the released guide's own fill.sh prints them over the translation 1e4dd523abcf2f4b… (all of the seat's roots in one cut). By AI agents, Wed Nov 11 2026. No macro, syntax, notation, axiom, sorry.
-/
import Derived.Test.YthnhdiebkkfmgaaChecked
import GoSem.Claim
import GoSem.ClaimJoined
import GoSem.ClaimMapViews
import Derived.JoinedTies
import Derived.KernelRfl
namespace Go.Proofs.Ythnhdiebkkfmgaa
/- THE CELL 'sum', in the pinned program and in every row, IS THE sha256 OF THE DUMP (.gsa) THAT YthnhdiebkkfmgaaProg.lean LOADS. Nothing in Lean hashes anything: it is a label: what it is worth is what the hold of that sum in a sandbox is worth. -/
noncomputable def Try.pinned : Pinned := { name := "ythnhdiebkkfmgaa", sum := "1e4dd523abcf2f4ba4b8f6b372b7a4cd1e548679d6dea7d53f7d40f5df4e25e6", checked := Try.checked }
namespace Rows
def none {H : Type} : Left H := { results := [], args := [] }

/-- 'moultlaw6.FilePlays': WHATEVER THE INPUT: true; the input reads as it did. -/
def filePlaysSpec : ChangeSpec := { name := "filePlays", fn := fun _ => fun
  | [d1, d2, d3] => { results := [.lit (.bool true)], args := [d1, d2, d3] }
  | _ => none }
def filePlaysRow : OpenClaim := { program := "ythnhdiebkkfmgaa", sum := "1e4dd523abcf2f4ba4b8f6b372b7a4cd1e548679d6dea7d53f7d40f5df4e25e6", func := "moult/moultlaw6.FilePlays", spec := "filePlays", unfollowed := true, recurses := true, apart := false }
def FilePlaysSaid : Prop := filePlaysRow.holds Try.pinned (OpenSpec.ofChange filePlaysSpec)

/-- ITS FALSE NEIGHBOUR: 'it returns false'. Refute it at one input. -/
def filePlaysWrong : ChangeSpec := { name := "filePlays", fn := fun _ => fun
  | [d1, d2, d3] => { results := [.lit (.bool false)], args := [d1, d2, d3] }
  | _ => none }
def FilePlaysWrongFalsely : Prop := filePlaysRow.holds Try.pinned (OpenSpec.ofChange filePlaysWrong)

/-- 'moultlaw6.FileSafe': WHATEVER THE INPUT: true; the input reads as it did. -/
def fileSafeSpec : ChangeSpec := { name := "fileSafe", fn := fun _ => fun
  | [d1, d2, d3, d4, d5] => { results := [.lit (.bool true)], args := [d1, d2, d3, d4, d5] }
  | _ => none }
def fileSafeRow : OpenClaim := { program := "ythnhdiebkkfmgaa", sum := "1e4dd523abcf2f4ba4b8f6b372b7a4cd1e548679d6dea7d53f7d40f5df4e25e6", func := "moult/moultlaw6.FileSafe", spec := "fileSafe", unfollowed := true, recurses := true, apart := false }
def FileSafeSaid : Prop := fileSafeRow.holds Try.pinned (OpenSpec.ofChange fileSafeSpec)

/-- ITS FALSE NEIGHBOUR: 'it returns false'. Refute it at one input. -/
def fileSafeWrong : ChangeSpec := { name := "fileSafe", fn := fun _ => fun
  | [d1, d2, d3, d4, d5] => { results := [.lit (.bool false)], args := [d1, d2, d3, d4, d5] }
  | _ => none }
def FileSafeWrongFalsely : Prop := fileSafeRow.holds Try.pinned (OpenSpec.ofChange fileSafeWrong)

/-- 'moultlaw6.FileLimits': WHATEVER THE INPUT: true; the input reads as it did. -/
def fileLimitsSpec : ChangeSpec := { name := "fileLimits", fn := fun _ => fun
  | [d1, d2] => { results := [.lit (.bool true)], args := [d1, d2] }
  | _ => none }
def fileLimitsRow : OpenClaim := { program := "ythnhdiebkkfmgaa", sum := "1e4dd523abcf2f4ba4b8f6b372b7a4cd1e548679d6dea7d53f7d40f5df4e25e6", func := "moult/moultlaw6.FileLimits", spec := "fileLimits", unfollowed := true, recurses := true, apart := false }
def FileLimitsSaid : Prop := fileLimitsRow.holds Try.pinned (OpenSpec.ofChange fileLimitsSpec)

/-- ITS FALSE NEIGHBOUR: 'it returns false'. Refute it at one input. -/
def fileLimitsWrong : ChangeSpec := { name := "fileLimits", fn := fun _ => fun
  | [d1, d2] => { results := [.lit (.bool false)], args := [d1, d2] }
  | _ => none }
def FileLimitsWrongFalsely : Prop := fileLimitsRow.holds Try.pinned (OpenSpec.ofChange fileLimitsWrong)

/-- 'moultlaw6.FileRooms': WHATEVER THE INPUT: true; the input reads as it did. -/
def fileRoomsSpec : ChangeSpec := { name := "fileRooms", fn := fun _ => fun
  | [d1, d2] => { results := [.lit (.bool true)], args := [d1, d2] }
  | _ => none }
def fileRoomsRow : OpenClaim := { program := "ythnhdiebkkfmgaa", sum := "1e4dd523abcf2f4ba4b8f6b372b7a4cd1e548679d6dea7d53f7d40f5df4e25e6", func := "moult/moultlaw6.FileRooms", spec := "fileRooms", unfollowed := true, recurses := true, apart := false }
def FileRoomsSaid : Prop := fileRoomsRow.holds Try.pinned (OpenSpec.ofChange fileRoomsSpec)

/-- ITS FALSE NEIGHBOUR: 'it returns false'. Refute it at one input. -/
def fileRoomsWrong : ChangeSpec := { name := "fileRooms", fn := fun _ => fun
  | [d1, d2] => { results := [.lit (.bool false)], args := [d1, d2] }
  | _ => none }
def FileRoomsWrongFalsely : Prop := fileRoomsRow.holds Try.pinned (OpenSpec.ofChange fileRoomsWrong)

/-- 'moultlaw6.FileMoves': WHATEVER THE INPUT: true; the input reads as it did. -/
def fileMovesSpec : ChangeSpec := { name := "fileMoves", fn := fun _ => fun
  | [d1, d2, d3, d4] => { results := [.lit (.bool true)], args := [d1, d2, d3, d4] }
  | _ => none }
def fileMovesRow : OpenClaim := { program := "ythnhdiebkkfmgaa", sum := "1e4dd523abcf2f4ba4b8f6b372b7a4cd1e548679d6dea7d53f7d40f5df4e25e6", func := "moult/moultlaw6.FileMoves", spec := "fileMoves", unfollowed := true, recurses := true, apart := false }
def FileMovesSaid : Prop := fileMovesRow.holds Try.pinned (OpenSpec.ofChange fileMovesSpec)

/-- ITS FALSE NEIGHBOUR: 'it returns false'. Refute it at one input. -/
def fileMovesWrong : ChangeSpec := { name := "fileMoves", fn := fun _ => fun
  | [d1, d2, d3, d4] => { results := [.lit (.bool false)], args := [d1, d2, d3, d4] }
  | _ => none }
def FileMovesWrongFalsely : Prop := fileMovesRow.holds Try.pinned (OpenSpec.ofChange fileMovesWrong)

/- THE SECOND FORM. 'bulk': how many values and letters a reading holds, each counted each time it is reached (what is shared counts as often as it is met; a slice's spare places count too). A statement '..UptoSaid' is the law's where the arguments, and the package variables that the reading takes, are together of bulk at most 1048576: NARROWER than '..Said'. Prove '..Said' where nothing that the law and all that it calls make is longer than what came in: it says more and counts as full. Else prove '..UptoSaid'. A law counts once. -/
mutual
def uptoBulk {H : Type} : DataW H → Nat
  | .lit (.string bytes) => bytes.length + 1
  | .lit _ => 1
  | .nil => 1
  | .ptr d => uptoBulk d + 1
  | .slice elems spare => uptoBulkAll elems + uptoBulkAll spare + 1
  | .agg parts => uptoBulkAll parts + 1
  | .iface _ d => uptoBulk d + 1
  | .map entries => uptoBulkEntries entries + 1
  | .held _ => 1
def uptoBulkAll {H : Type} : List (DataW H) → Nat
  | [] => 0
  | d :: r => uptoBulk d + uptoBulkAll r
def uptoBulkEntries {H : Type} : List (Lit × DataW H) → Nat
  | [] => 0
  | x :: r => uptoBulkEntry x + uptoBulkEntries r
def uptoBulkEntry {H : Type} : Lit × DataW H → Nat
  | (.string bytes, d) => bytes.length + uptoBulk d + 1
  | (_, d) => uptoBulk d + 1
 end
def uptoSmall : (H : Type) → List (DataW H) → Bool := fun _ ds => decide (uptoBulkAll ds ≤ 1048576)
def OpenSpec.upto (s : _root_.Go.ChangeSpec) : _root_.Go.OpenSpec := { _root_.Go.OpenSpec.ofChange s with cond := some uptoSmall }

/-- 'moultlaw6.FilePlays', WHERE WHAT IT READS IS OF BULK AT MOST 1048576: true; the input reads as it did. -/
def filePlaysUptoRow : OpenClaim := { program := "ythnhdiebkkfmgaa", sum := "1e4dd523abcf2f4ba4b8f6b372b7a4cd1e548679d6dea7d53f7d40f5df4e25e6", func := "moult/moultlaw6.FilePlays", spec := "filePlays", unfollowed := true, recurses := true, apart := false, narrowed := true }
def FilePlaysUptoSaid : Prop := filePlaysUptoRow.holds Try.pinned (OpenSpec.upto filePlaysSpec)

/-- 'moultlaw6.FileSafe', WHERE WHAT IT READS IS OF BULK AT MOST 1048576: true; the input reads as it did. -/
def fileSafeUptoRow : OpenClaim := { program := "ythnhdiebkkfmgaa", sum := "1e4dd523abcf2f4ba4b8f6b372b7a4cd1e548679d6dea7d53f7d40f5df4e25e6", func := "moult/moultlaw6.FileSafe", spec := "fileSafe", unfollowed := true, recurses := true, apart := false, narrowed := true }
def FileSafeUptoSaid : Prop := fileSafeUptoRow.holds Try.pinned (OpenSpec.upto fileSafeSpec)

/-- 'moultlaw6.FileLimits', WHERE WHAT IT READS IS OF BULK AT MOST 1048576: true; the input reads as it did. -/
def fileLimitsUptoRow : OpenClaim := { program := "ythnhdiebkkfmgaa", sum := "1e4dd523abcf2f4ba4b8f6b372b7a4cd1e548679d6dea7d53f7d40f5df4e25e6", func := "moult/moultlaw6.FileLimits", spec := "fileLimits", unfollowed := true, recurses := true, apart := false, narrowed := true }
def FileLimitsUptoSaid : Prop := fileLimitsUptoRow.holds Try.pinned (OpenSpec.upto fileLimitsSpec)

/-- 'moultlaw6.FileRooms', WHERE WHAT IT READS IS OF BULK AT MOST 1048576: true; the input reads as it did. -/
def fileRoomsUptoRow : OpenClaim := { program := "ythnhdiebkkfmgaa", sum := "1e4dd523abcf2f4ba4b8f6b372b7a4cd1e548679d6dea7d53f7d40f5df4e25e6", func := "moult/moultlaw6.FileRooms", spec := "fileRooms", unfollowed := true, recurses := true, apart := false, narrowed := true }
def FileRoomsUptoSaid : Prop := fileRoomsUptoRow.holds Try.pinned (OpenSpec.upto fileRoomsSpec)

/-- 'moultlaw6.FileMoves', WHERE WHAT IT READS IS OF BULK AT MOST 1048576: true; the input reads as it did. -/
def fileMovesUptoRow : OpenClaim := { program := "ythnhdiebkkfmgaa", sum := "1e4dd523abcf2f4ba4b8f6b372b7a4cd1e548679d6dea7d53f7d40f5df4e25e6", func := "moult/moultlaw6.FileMoves", spec := "fileMoves", unfollowed := true, recurses := true, apart := false, narrowed := true }
def FileMovesUptoSaid : Prop := fileMovesUptoRow.holds Try.pinned (OpenSpec.upto fileMovesSpec)

end Rows
end Go.Proofs.Ythnhdiebkkfmgaa
