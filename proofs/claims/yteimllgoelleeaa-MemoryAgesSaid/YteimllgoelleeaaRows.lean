/-
  No cell of these rows narrows 'for every input' (looked for: loops, veiled, ifaces, maps, wideKeys, modest, calm, conditions, laid).
  DERIVED. THE GIVEN ROWS OF THIS SEAT. 5 by the template 'for every input the law returns true; each argument reads behind the call as it read before'; 0 by the template 'total and deterministic' (their statements: YteimllgoelleeaaTotals.lean).
  GIVEN WITH THE SEED: the statements are not yours to turn. If you find one false, say at which input.
  Laid BY PROGRAM, IN A SANDBOX (cutbox-rows.mjs): the forced cells as the released guide's own fill.sh prints them over the translation 738c3a4972a7821d… (all of the seat's roots in one cut). By AI agents, Wed Nov 11 2026. No macro, syntax, notation, axiom, sorry.
-/
import Derived.Test.YteimllgoelleeaaChecked
import GoSem.Claim
import GoSem.ClaimJoined
import GoSem.ClaimMapViews
import Derived.JoinedTies
import Derived.KernelRfl
namespace Go.Proofs.Yteimllgoelleeaa
/- THE CELL 'sum', in the pinned program and in every row, IS THE sha256 OF THE DUMP (.gsa) THAT YteimllgoelleeaaProg.lean LOADS. Nothing in Lean hashes anything: it is a label: what it is worth is what the hold of that sum in a sandbox is worth. -/
noncomputable def Try.pinned : Pinned := { name := "yteimllgoelleeaa", sum := "738c3a4972a7821d24621ac12420da7e7c50d97372e76e830d035c89a9cb30b9", checked := Try.checked }
namespace Rows
def none {H : Type} : Left H := { results := [], args := [] }

/-- 'moultlaw11.MemoryPlays': WHATEVER THE INPUT: true; the input reads as it did. -/
def memoryPlaysSpec : ChangeSpec := { name := "memoryPlays", fn := fun _ => fun
  | [d1, d2, d3, d4] => { results := [.lit (.bool true)], args := [d1, d2, d3, d4] }
  | _ => none }
def memoryPlaysRow : OpenClaim := { program := "yteimllgoelleeaa", sum := "738c3a4972a7821d24621ac12420da7e7c50d97372e76e830d035c89a9cb30b9", func := "moult/moultlaw11.MemoryPlays", spec := "memoryPlays", unfollowed := true, recurses := true, apart := false }
def MemoryPlaysSaid : Prop := memoryPlaysRow.holds Try.pinned (OpenSpec.ofChange memoryPlaysSpec)

/-- ITS FALSE NEIGHBOUR: 'it returns false'. Refute it at one input. -/
def memoryPlaysWrong : ChangeSpec := { name := "memoryPlays", fn := fun _ => fun
  | [d1, d2, d3, d4] => { results := [.lit (.bool false)], args := [d1, d2, d3, d4] }
  | _ => none }
def MemoryPlaysWrongFalsely : Prop := memoryPlaysRow.holds Try.pinned (OpenSpec.ofChange memoryPlaysWrong)

/-- 'moultlaw11.MemoryOrders': WHATEVER THE INPUT: true; the input reads as it did. -/
def memoryOrdersSpec : ChangeSpec := { name := "memoryOrders", fn := fun _ => fun
  | [d1, d2] => { results := [.lit (.bool true)], args := [d1, d2] }
  | _ => none }
def memoryOrdersRow : OpenClaim := { program := "yteimllgoelleeaa", sum := "738c3a4972a7821d24621ac12420da7e7c50d97372e76e830d035c89a9cb30b9", func := "moult/moultlaw11.MemoryOrders", spec := "memoryOrders", unfollowed := true, recurses := true, apart := false }
def MemoryOrdersSaid : Prop := memoryOrdersRow.holds Try.pinned (OpenSpec.ofChange memoryOrdersSpec)

/-- ITS FALSE NEIGHBOUR: 'it returns false'. Refute it at one input. -/
def memoryOrdersWrong : ChangeSpec := { name := "memoryOrders", fn := fun _ => fun
  | [d1, d2] => { results := [.lit (.bool false)], args := [d1, d2] }
  | _ => none }
def MemoryOrdersWrongFalsely : Prop := memoryOrdersRow.holds Try.pinned (OpenSpec.ofChange memoryOrdersWrong)

/-- 'moultlaw11.MemoryStands': WHATEVER THE INPUT: true; the input reads as it did. -/
def memoryStandsSpec : ChangeSpec := { name := "memoryStands", fn := fun _ => fun
  | [d] => { results := [.lit (.bool true)], args := [d] }
  | _ => none }
def memoryStandsRow : OpenClaim := { program := "yteimllgoelleeaa", sum := "738c3a4972a7821d24621ac12420da7e7c50d97372e76e830d035c89a9cb30b9", func := "moult/moultlaw11.MemoryStands", spec := "memoryStands", unfollowed := true, recurses := true, apart := false }
def MemoryStandsSaid : Prop := memoryStandsRow.holds Try.pinned (OpenSpec.ofChange memoryStandsSpec)

/-- ITS FALSE NEIGHBOUR: 'it returns false'. Refute it at one input. -/
def memoryStandsWrong : ChangeSpec := { name := "memoryStands", fn := fun _ => fun
  | [d] => { results := [.lit (.bool false)], args := [d] }
  | _ => none }
def MemoryStandsWrongFalsely : Prop := memoryStandsRow.holds Try.pinned (OpenSpec.ofChange memoryStandsWrong)

/-- 'moultlaw11.MemoryAges': WHATEVER THE INPUT: true; the input reads as it did. -/
def memoryAgesSpec : ChangeSpec := { name := "memoryAges", fn := fun _ => fun
  | [d1, d2, d3] => { results := [.lit (.bool true)], args := [d1, d2, d3] }
  | _ => none }
def memoryAgesRow : OpenClaim := { program := "yteimllgoelleeaa", sum := "738c3a4972a7821d24621ac12420da7e7c50d97372e76e830d035c89a9cb30b9", func := "moult/moultlaw11.MemoryAges", spec := "memoryAges", unfollowed := true, recurses := true, apart := false }
def MemoryAgesSaid : Prop := memoryAgesRow.holds Try.pinned (OpenSpec.ofChange memoryAgesSpec)

/-- ITS FALSE NEIGHBOUR: 'it returns false'. Refute it at one input. -/
def memoryAgesWrong : ChangeSpec := { name := "memoryAges", fn := fun _ => fun
  | [d1, d2, d3] => { results := [.lit (.bool false)], args := [d1, d2, d3] }
  | _ => none }
def MemoryAgesWrongFalsely : Prop := memoryAgesRow.holds Try.pinned (OpenSpec.ofChange memoryAgesWrong)

/-- 'moultlaw11.MemoryParts': WHATEVER THE INPUT: true; the input reads as it did. -/
def memoryPartsSpec : ChangeSpec := { name := "memoryParts", fn := fun _ => fun
  | [d1, d2, d3] => { results := [.lit (.bool true)], args := [d1, d2, d3] }
  | _ => none }
def memoryPartsRow : OpenClaim := { program := "yteimllgoelleeaa", sum := "738c3a4972a7821d24621ac12420da7e7c50d97372e76e830d035c89a9cb30b9", func := "moult/moultlaw11.MemoryParts", spec := "memoryParts", unfollowed := true, recurses := true, apart := false }
def MemoryPartsSaid : Prop := memoryPartsRow.holds Try.pinned (OpenSpec.ofChange memoryPartsSpec)

/-- ITS FALSE NEIGHBOUR: 'it returns false'. Refute it at one input. -/
def memoryPartsWrong : ChangeSpec := { name := "memoryParts", fn := fun _ => fun
  | [d1, d2, d3] => { results := [.lit (.bool false)], args := [d1, d2, d3] }
  | _ => none }
def MemoryPartsWrongFalsely : Prop := memoryPartsRow.holds Try.pinned (OpenSpec.ofChange memoryPartsWrong)

/- THE SECOND FORM. 'bulk': how many values and letters a reading holds, each counted each time it is reached (what is shared counts as often as it is met; a slice's spare places count too). A statement '..UptoSaid' is the law's where the arguments, and the package variables that the reading takes, are together of bulk at most 1048576: NARROWER than '..Said'. Prove '..Said' where nothing that the law and all that it calls make is longer than what came in: it says more and counts as full. Else prove '..UptoSaid'. A law counts once. -/
mutual
def uptoBulk {H : Type} : DataW H → Nat
  | .lit (.string bytes) => bytes.length + 1
  | .lit _ => 1
  | .nil => 1
  | .ptr d => uptoBulk d + 1
  | .slice elems spare => uptoBulkAll elems + uptoBulkAll spare + 1
  | .agg parts => uptoBulkAll parts + 1
  | .iface _ d => uptoBulk d + 1
  | .map entries => uptoBulkEntries entries + 1
  | .held _ => 1
def uptoBulkAll {H : Type} : List (DataW H) → Nat
  | [] => 0
  | d :: r => uptoBulk d + uptoBulkAll r
def uptoBulkEntries {H : Type} : List (Lit × DataW H) → Nat
  | [] => 0
  | x :: r => uptoBulkEntry x + uptoBulkEntries r
def uptoBulkEntry {H : Type} : Lit × DataW H → Nat
  | (.string bytes, d) => bytes.length + uptoBulk d + 1
  | (_, d) => uptoBulk d + 1
 end
def uptoSmall : (H : Type) → List (DataW H) → Bool := fun _ ds => decide (uptoBulkAll ds ≤ 1048576)
def OpenSpec.upto (s : _root_.Go.ChangeSpec) : _root_.Go.OpenSpec := { _root_.Go.OpenSpec.ofChange s with cond := some uptoSmall }

/-- 'moultlaw11.MemoryPlays', WHERE WHAT IT READS IS OF BULK AT MOST 1048576: true; the input reads as it did. -/
def memoryPlaysUptoRow : OpenClaim := { program := "yteimllgoelleeaa", sum := "738c3a4972a7821d24621ac12420da7e7c50d97372e76e830d035c89a9cb30b9", func := "moult/moultlaw11.MemoryPlays", spec := "memoryPlays", unfollowed := true, recurses := true, apart := false, narrowed := true }
def MemoryPlaysUptoSaid : Prop := memoryPlaysUptoRow.holds Try.pinned (OpenSpec.upto memoryPlaysSpec)

/-- 'moultlaw11.MemoryOrders', WHERE WHAT IT READS IS OF BULK AT MOST 1048576: true; the input reads as it did. -/
def memoryOrdersUptoRow : OpenClaim := { program := "yteimllgoelleeaa", sum := "738c3a4972a7821d24621ac12420da7e7c50d97372e76e830d035c89a9cb30b9", func := "moult/moultlaw11.MemoryOrders", spec := "memoryOrders", unfollowed := true, recurses := true, apart := false, narrowed := true }
def MemoryOrdersUptoSaid : Prop := memoryOrdersUptoRow.holds Try.pinned (OpenSpec.upto memoryOrdersSpec)

/-- 'moultlaw11.MemoryStands', WHERE WHAT IT READS IS OF BULK AT MOST 1048576: true; the input reads as it did. -/
def memoryStandsUptoRow : OpenClaim := { program := "yteimllgoelleeaa", sum := "738c3a4972a7821d24621ac12420da7e7c50d97372e76e830d035c89a9cb30b9", func := "moult/moultlaw11.MemoryStands", spec := "memoryStands", unfollowed := true, recurses := true, apart := false, narrowed := true }
def MemoryStandsUptoSaid : Prop := memoryStandsUptoRow.holds Try.pinned (OpenSpec.upto memoryStandsSpec)

/-- 'moultlaw11.MemoryAges', WHERE WHAT IT READS IS OF BULK AT MOST 1048576: true; the input reads as it did. -/
def memoryAgesUptoRow : OpenClaim := { program := "yteimllgoelleeaa", sum := "738c3a4972a7821d24621ac12420da7e7c50d97372e76e830d035c89a9cb30b9", func := "moult/moultlaw11.MemoryAges", spec := "memoryAges", unfollowed := true, recurses := true, apart := false, narrowed := true }
def MemoryAgesUptoSaid : Prop := memoryAgesUptoRow.holds Try.pinned (OpenSpec.upto memoryAgesSpec)

/-- 'moultlaw11.MemoryParts', WHERE WHAT IT READS IS OF BULK AT MOST 1048576: true; the input reads as it did. -/
def memoryPartsUptoRow : OpenClaim := { program := "yteimllgoelleeaa", sum := "738c3a4972a7821d24621ac12420da7e7c50d97372e76e830d035c89a9cb30b9", func := "moult/moultlaw11.MemoryParts", spec := "memoryParts", unfollowed := true, recurses := true, apart := false, narrowed := true }
def MemoryPartsUptoSaid : Prop := memoryPartsUptoRow.holds Try.pinned (OpenSpec.upto memoryPartsSpec)

end Rows
end Go.Proofs.Yteimllgoelleeaa
