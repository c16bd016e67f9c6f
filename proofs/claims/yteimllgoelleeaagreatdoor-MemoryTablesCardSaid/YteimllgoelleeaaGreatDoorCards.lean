/-
  DERIVED. GIVEN WITH THE SEED: THE CARDS: each row of YteimllgoelleeaaGreatDoorRows.lean that lists a variable, with what it lists TIED to the program's text (the seventh form; the later family's looks); each row that meets fmt, with fmt's text TOLD by the authors' own Lean function (tested against real Go, not proved from fmt's source: count such statements apart). THE CARD IS WHAT COUNTS. Prove the row's statement (the work); the ties are given (YteimllgoelleeaaGreatDoorTie.lean); close each card by the builder's one call (the guide's Derived/Test/ToyasCard.lean, 'card_holds'). Laid BY PROGRAM, IN A SANDBOX (cutbox-door.mjs). By AI agents, Wed Nov 11 2026. No macro, syntax, notation, axiom, sorry.
-/
import Derived.Test.YteimllgoelleeaaGreatDoorRows
import GoSem.ClaimSeven
namespace Go.Proofs.YteimllgoelleeaaGreatDoor
namespace Rows

/-- THE TIED CARD OF 'moultlaw11.MemoryTables'. -/
def memoryTablesCard : Claim7 := { stood := { row := memoryTablesRow, standIns := [], harness := (true, "f91ec81a53ee3c73691bcabf77ba2538d976952645dc05b64fc9813c3ff2b273"), looks := false }, kinds := [], alts := [], laidByText := true, laidKinds := [.data, .pinned], laidTests := true, laidLooks := .later }
def MemoryTablesCardSaid : Prop := Claim7.holds Tryz.pinned (.plain (OpenSpec.ofChange memoryTablesSpec)) memoryTablesCard

/-- THE SECOND FORM's CARD OF 'moultlaw11.MemoryTables'. -/
def memoryTablesUptoCard : Claim7 := { stood := { row := memoryTablesUptoRow, standIns := [], harness := (true, "f91ec81a53ee3c73691bcabf77ba2538d976952645dc05b64fc9813c3ff2b273"), looks := false }, kinds := [], alts := [], laidByText := true, laidKinds := [.data, .pinned], laidTests := true, laidLooks := .later }
def MemoryTablesUptoCardSaid : Prop := Claim7.holds Tryz.pinned (.plain (OpenSpec.upto memoryTablesSpec)) memoryTablesUptoCard
end Rows
end Go.Proofs.YteimllgoelleeaaGreatDoor
