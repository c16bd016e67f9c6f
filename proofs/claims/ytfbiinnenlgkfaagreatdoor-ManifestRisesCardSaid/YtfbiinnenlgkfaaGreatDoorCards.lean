/-
  DERIVED. GIVEN WITH THE SEED: THE CARDS: each row of YtfbiinnenlgkfaaGreatDoorRows.lean that lists a variable, with what it lists TIED to the program's text (the seventh form; the later family's looks); each row that meets fmt, with fmt's text TOLD by the authors' own Lean function (tested against real Go, not proved from fmt's source: count such statements apart). THE CARD IS WHAT COUNTS. Prove the row's statement (the work); the ties are given (YtfbiinnenlgkfaaGreatDoorTie.lean); close each card by the builder's one call (the guide's Derived/Test/ToyasCard.lean, 'card_holds'). Laid BY PROGRAM, IN A SANDBOX (cutbox-door.mjs). By AI agents, Wed Nov 11 2026. No macro, syntax, notation, axiom, sorry.
-/
import Derived.Test.YtfbiinnenlgkfaaGreatDoorRows
import GoSem.ClaimSeven
namespace Go.Proofs.YtfbiinnenlgkfaaGreatDoor
namespace Rows

/-- THE TIED CARD OF 'moultlaw13.ManifestPacks'. -/
def manifestPacksCard : Claim7 := { stood := { row := manifestPacksRow, standIns := [], harness := (true, "4b1d594b82364c55e4686e7f7ba3d6a007a3221a706ef6cd783c679578b948dd"), looks := true }, kinds := [], alts := [], laidByText := true, laidKinds := [.data, .data, .data, .sentinel, .sentinel], laidTests := true, laidLooks := .later }
def ManifestPacksCardSaid : Prop := Claim7.holds Tryz.pinned (.plain (OpenSpec.ofChange manifestPacksSpec)) manifestPacksCard

/-- THE TIED CARD OF 'moultlaw13.ManifestBack'. -/
def manifestBackCard : Claim7 := { stood := { row := manifestBackRow, standIns := [], harness := (true, "4b1d594b82364c55e4686e7f7ba3d6a007a3221a706ef6cd783c679578b948dd"), looks := true }, kinds := [], alts := [], laidByText := true, laidKinds := [.data, .data, .data, .sentinel, .sentinel], laidTests := true, laidLooks := .later }
def ManifestBackCardSaid : Prop := Claim7.holds Tryz.pinned (.plain (OpenSpec.ofChange manifestBackSpec)) manifestBackCard

/-- THE TIED CARD OF 'moultlaw13.ManifestPlays'. -/
def manifestPlaysCard : Claim7 := { stood := { row := manifestPlaysRow, standIns := [], harness := (true, "4b1d594b82364c55e4686e7f7ba3d6a007a3221a706ef6cd783c679578b948dd"), looks := true }, kinds := [], alts := [], laidByText := true, laidKinds := [.data, .data, .data, .sentinel, .sentinel], laidTests := true, laidLooks := .later }
def ManifestPlaysCardSaid : Prop := Claim7.holds Tryz.pinned (.plain (OpenSpec.ofChange manifestPlaysSpec)) manifestPlaysCard

/-- THE TIED CARD OF 'moultlaw13.ManifestKeeps'. -/
def manifestKeepsCard : Claim7 := { stood := { row := manifestKeepsRow, standIns := [], harness := (true, "4b1d594b82364c55e4686e7f7ba3d6a007a3221a706ef6cd783c679578b948dd"), looks := true }, kinds := [], alts := [], laidByText := true, laidKinds := [.data, .data, .data, .sentinel, .sentinel], laidTests := true, laidLooks := .later }
def ManifestKeepsCardSaid : Prop := Claim7.holds Tryz.pinned (.plain (OpenSpec.ofChange manifestKeepsSpec)) manifestKeepsCard

/-- THE TIED CARD OF 'moultlaw13.ManifestRises'. -/
def manifestRisesCard : Claim7 := { stood := { row := manifestRisesRow, standIns := [], harness := (true, "4b1d594b82364c55e4686e7f7ba3d6a007a3221a706ef6cd783c679578b948dd"), looks := true }, kinds := [], alts := [], laidByText := true, laidKinds := [.data, .data, .data, .sentinel, .sentinel], laidTests := true, laidLooks := .later }
def ManifestRisesCardSaid : Prop := Claim7.holds Tryz.pinned (.plain (OpenSpec.ofChange manifestRisesSpec)) manifestRisesCard

/-- THE TIED CARD OF 'moultlaw13.ManifestOpens'. -/
def manifestOpensCard : Claim7 := { stood := { row := manifestOpensRow, standIns := [], harness := (true, "4b1d594b82364c55e4686e7f7ba3d6a007a3221a706ef6cd783c679578b948dd"), looks := true }, kinds := [], alts := [], laidByText := true, laidKinds := [.data, .data, .data, .sentinel, .sentinel], laidTests := true, laidLooks := .later }
def ManifestOpensCardSaid : Prop := Claim7.holds Tryz.pinned (.plain (OpenSpec.ofChange manifestOpensSpec)) manifestOpensCard

/-- THE SECOND FORM's CARD OF 'moultlaw13.ManifestPacks'. -/
def manifestPacksUptoCard : Claim7 := { stood := { row := manifestPacksUptoRow, standIns := [], harness := (true, "4b1d594b82364c55e4686e7f7ba3d6a007a3221a706ef6cd783c679578b948dd"), looks := true }, kinds := [], alts := [], laidByText := true, laidKinds := [.data, .data, .data, .sentinel, .sentinel], laidTests := true, laidLooks := .later }
def ManifestPacksUptoCardSaid : Prop := Claim7.holds Tryz.pinned (.plain (OpenSpec.upto manifestPacksSpec)) manifestPacksUptoCard

/-- THE SECOND FORM's CARD OF 'moultlaw13.ManifestBack'. -/
def manifestBackUptoCard : Claim7 := { stood := { row := manifestBackUptoRow, standIns := [], harness := (true, "4b1d594b82364c55e4686e7f7ba3d6a007a3221a706ef6cd783c679578b948dd"), looks := true }, kinds := [], alts := [], laidByText := true, laidKinds := [.data, .data, .data, .sentinel, .sentinel], laidTests := true, laidLooks := .later }
def ManifestBackUptoCardSaid : Prop := Claim7.holds Tryz.pinned (.plain (OpenSpec.upto manifestBackSpec)) manifestBackUptoCard

/-- THE SECOND FORM's CARD OF 'moultlaw13.ManifestPlays'. -/
def manifestPlaysUptoCard : Claim7 := { stood := { row := manifestPlaysUptoRow, standIns := [], harness := (true, "4b1d594b82364c55e4686e7f7ba3d6a007a3221a706ef6cd783c679578b948dd"), looks := true }, kinds := [], alts := [], laidByText := true, laidKinds := [.data, .data, .data, .sentinel, .sentinel], laidTests := true, laidLooks := .later }
def ManifestPlaysUptoCardSaid : Prop := Claim7.holds Tryz.pinned (.plain (OpenSpec.upto manifestPlaysSpec)) manifestPlaysUptoCard

/-- THE SECOND FORM's CARD OF 'moultlaw13.ManifestKeeps'. -/
def manifestKeepsUptoCard : Claim7 := { stood := { row := manifestKeepsUptoRow, standIns := [], harness := (true, "4b1d594b82364c55e4686e7f7ba3d6a007a3221a706ef6cd783c679578b948dd"), looks := true }, kinds := [], alts := [], laidByText := true, laidKinds := [.data, .data, .data, .sentinel, .sentinel], laidTests := true, laidLooks := .later }
def ManifestKeepsUptoCardSaid : Prop := Claim7.holds Tryz.pinned (.plain (OpenSpec.upto manifestKeepsSpec)) manifestKeepsUptoCard

/-- THE SECOND FORM's CARD OF 'moultlaw13.ManifestRises'. -/
def manifestRisesUptoCard : Claim7 := { stood := { row := manifestRisesUptoRow, standIns := [], harness := (true, "4b1d594b82364c55e4686e7f7ba3d6a007a3221a706ef6cd783c679578b948dd"), looks := true }, kinds := [], alts := [], laidByText := true, laidKinds := [.data, .data, .data, .sentinel, .sentinel], laidTests := true, laidLooks := .later }
def ManifestRisesUptoCardSaid : Prop := Claim7.holds Tryz.pinned (.plain (OpenSpec.upto manifestRisesSpec)) manifestRisesUptoCard

/-- THE SECOND FORM's CARD OF 'moultlaw13.ManifestOpens'. -/
def manifestOpensUptoCard : Claim7 := { stood := { row := manifestOpensUptoRow, standIns := [], harness := (true, "4b1d594b82364c55e4686e7f7ba3d6a007a3221a706ef6cd783c679578b948dd"), looks := true }, kinds := [], alts := [], laidByText := true, laidKinds := [.data, .data, .data, .sentinel, .sentinel], laidTests := true, laidLooks := .later }
def ManifestOpensUptoCardSaid : Prop := Claim7.holds Tryz.pinned (.plain (OpenSpec.upto manifestOpensSpec)) manifestOpensUptoCard
end Rows
end Go.Proofs.YtfbiinnenlgkfaaGreatDoor
