/-
  No cell of these rows narrows 'for every input' (looked for: loops, veiled, ifaces, maps, wideKeys, modest, calm, conditions, laid).
  DERIVED. THE GIVEN ROWS OF THIS SEAT. 6 by the template 'for every input the law returns true; each argument reads behind the call as it read before'; 0 by the template 'total and deterministic' (their statements: YtaabaphpllnieaaTotals.lean).
  GIVEN WITH THE SEED: the statements are not yours to turn. If you find one false, say at which input.
  Laid BY PROGRAM, IN A SANDBOX (cutbox-rows.mjs): the forced cells as the released guide's own fill.sh prints them over the translation 5eed657952cb7981… (all of the seat's roots in one cut). By AI agents, Wed Nov 11 2026. No macro, syntax, notation, axiom, sorry.
-/
import Derived.Test.YtaabaphpllnieaaChecked
import GoSem.Claim
import GoSem.ClaimJoined
import GoSem.ClaimMapViews
import Derived.JoinedTies
import Derived.KernelRfl
namespace Go.Proofs.Ytaabaphpllnieaa
/- THE CELL 'sum', in the pinned program and in every row, IS THE sha256 OF THE DUMP (.gsa) THAT YtaabaphpllnieaaProg.lean LOADS. Nothing in Lean hashes anything: it is a label: what it is worth is what the hold of that sum in a sandbox is worth. -/
noncomputable def Try.pinned : Pinned := { name := "ytaabaphpllnieaa", sum := "5eed657952cb79819edd420846fcc75f145b42ba192bf53a7750825c19e05a3f", checked := Try.checked }
namespace Rows
def none {H : Type} : Left H := { results := [], args := [] }

/-- 'moultlaw9.FilterPlaces': WHATEVER THE INPUT: true; the input reads as it did. -/
def filterPlacesSpec : ChangeSpec := { name := "filterPlaces", fn := fun _ => fun
  | [d1, d2] => { results := [.lit (.bool true)], args := [d1, d2] }
  | _ => none }
def filterPlacesRow : OpenClaim := { program := "ytaabaphpllnieaa", sum := "5eed657952cb79819edd420846fcc75f145b42ba192bf53a7750825c19e05a3f", func := "moult/moultlaw9.FilterPlaces", spec := "filterPlaces", unfollowed := true, recurses := true, apart := false }
def FilterPlacesSaid : Prop := filterPlacesRow.holds Try.pinned (OpenSpec.ofChange filterPlacesSpec)

/-- ITS FALSE NEIGHBOUR: 'it returns false'. Refute it at one input. -/
def filterPlacesWrong : ChangeSpec := { name := "filterPlaces", fn := fun _ => fun
  | [d1, d2] => { results := [.lit (.bool false)], args := [d1, d2] }
  | _ => none }
def FilterPlacesWrongFalsely : Prop := filterPlacesRow.holds Try.pinned (OpenSpec.ofChange filterPlacesWrong)

/-- 'moultlaw9.FilterBuilds': WHATEVER THE INPUT: true; the input reads as it did. -/
def filterBuildsSpec : ChangeSpec := { name := "filterBuilds", fn := fun _ => fun
  | [d1, d2, d3] => { results := [.lit (.bool true)], args := [d1, d2, d3] }
  | _ => none }
def filterBuildsRow : OpenClaim := { program := "ytaabaphpllnieaa", sum := "5eed657952cb79819edd420846fcc75f145b42ba192bf53a7750825c19e05a3f", func := "moult/moultlaw9.FilterBuilds", spec := "filterBuilds", unfollowed := true, recurses := true, apart := false }
def FilterBuildsSaid : Prop := filterBuildsRow.holds Try.pinned (OpenSpec.ofChange filterBuildsSpec)

/-- ITS FALSE NEIGHBOUR: 'it returns false'. Refute it at one input. -/
def filterBuildsWrong : ChangeSpec := { name := "filterBuilds", fn := fun _ => fun
  | [d1, d2, d3] => { results := [.lit (.bool false)], args := [d1, d2, d3] }
  | _ => none }
def FilterBuildsWrongFalsely : Prop := filterBuildsRow.holds Try.pinned (OpenSpec.ofChange filterBuildsWrong)

/-- 'moultlaw9.FilterKnows': WHATEVER THE INPUT: true; the input reads as it did. -/
def filterKnowsSpec : ChangeSpec := { name := "filterKnows", fn := fun _ => fun
  | [d1, d2] => { results := [.lit (.bool true)], args := [d1, d2] }
  | _ => none }
def filterKnowsRow : OpenClaim := { program := "ytaabaphpllnieaa", sum := "5eed657952cb79819edd420846fcc75f145b42ba192bf53a7750825c19e05a3f", func := "moult/moultlaw9.FilterKnows", spec := "filterKnows", unfollowed := true, recurses := true, apart := false }
def FilterKnowsSaid : Prop := filterKnowsRow.holds Try.pinned (OpenSpec.ofChange filterKnowsSpec)

/-- ITS FALSE NEIGHBOUR: 'it returns false'. Refute it at one input. -/
def filterKnowsWrong : ChangeSpec := { name := "filterKnows", fn := fun _ => fun
  | [d1, d2] => { results := [.lit (.bool false)], args := [d1, d2] }
  | _ => none }
def FilterKnowsWrongFalsely : Prop := filterKnowsRow.holds Try.pinned (OpenSpec.ofChange filterKnowsWrong)

/-- 'moultlaw9.FilterGrows': WHATEVER THE INPUT: true; the input reads as it did. -/
def filterGrowsSpec : ChangeSpec := { name := "filterGrows", fn := fun _ => fun
  | [d1, d2, d3] => { results := [.lit (.bool true)], args := [d1, d2, d3] }
  | _ => none }
def filterGrowsRow : OpenClaim := { program := "ytaabaphpllnieaa", sum := "5eed657952cb79819edd420846fcc75f145b42ba192bf53a7750825c19e05a3f", func := "moult/moultlaw9.FilterGrows", spec := "filterGrows", unfollowed := true, recurses := true, apart := false }
def FilterGrowsSaid : Prop := filterGrowsRow.holds Try.pinned (OpenSpec.ofChange filterGrowsSpec)

/-- ITS FALSE NEIGHBOUR: 'it returns false'. Refute it at one input. -/
def filterGrowsWrong : ChangeSpec := { name := "filterGrows", fn := fun _ => fun
  | [d1, d2, d3] => { results := [.lit (.bool false)], args := [d1, d2, d3] }
  | _ => none }
def FilterGrowsWrongFalsely : Prop := filterGrowsRow.holds Try.pinned (OpenSpec.ofChange filterGrowsWrong)

/-- 'moultlaw9.FilterJoins': WHATEVER THE INPUT: true; the input reads as it did. -/
def filterJoinsSpec : ChangeSpec := { name := "filterJoins", fn := fun _ => fun
  | [d1, d2, d3] => { results := [.lit (.bool true)], args := [d1, d2, d3] }
  | _ => none }
def filterJoinsRow : OpenClaim := { program := "ytaabaphpllnieaa", sum := "5eed657952cb79819edd420846fcc75f145b42ba192bf53a7750825c19e05a3f", func := "moult/moultlaw9.FilterJoins", spec := "filterJoins", unfollowed := true, recurses := true, apart := false }
def FilterJoinsSaid : Prop := filterJoinsRow.holds Try.pinned (OpenSpec.ofChange filterJoinsSpec)

/-- ITS FALSE NEIGHBOUR: 'it returns false'. Refute it at one input. -/
def filterJoinsWrong : ChangeSpec := { name := "filterJoins", fn := fun _ => fun
  | [d1, d2, d3] => { results := [.lit (.bool false)], args := [d1, d2, d3] }
  | _ => none }
def FilterJoinsWrongFalsely : Prop := filterJoinsRow.holds Try.pinned (OpenSpec.ofChange filterJoinsWrong)

/-- 'moultlaw9.FilterWithin': WHATEVER THE INPUT: true; the input reads as it did. -/
def filterWithinSpec : ChangeSpec := { name := "filterWithin", fn := fun _ => fun
  | [d1, d2] => { results := [.lit (.bool true)], args := [d1, d2] }
  | _ => none }
def filterWithinRow : OpenClaim := { program := "ytaabaphpllnieaa", sum := "5eed657952cb79819edd420846fcc75f145b42ba192bf53a7750825c19e05a3f", func := "moult/moultlaw9.FilterWithin", spec := "filterWithin", unfollowed := true, recurses := true, apart := false }
def FilterWithinSaid : Prop := filterWithinRow.holds Try.pinned (OpenSpec.ofChange filterWithinSpec)

/-- ITS FALSE NEIGHBOUR: 'it returns false'. Refute it at one input. -/
def filterWithinWrong : ChangeSpec := { name := "filterWithin", fn := fun _ => fun
  | [d1, d2] => { results := [.lit (.bool false)], args := [d1, d2] }
  | _ => none }
def FilterWithinWrongFalsely : Prop := filterWithinRow.holds Try.pinned (OpenSpec.ofChange filterWithinWrong)

/- THE SECOND FORM. 'bulk': how many values and letters a reading holds, each counted each time it is reached (what is shared counts as often as it is met; a slice's spare places count too). A statement '..UptoSaid' is the law's where the arguments, and the package variables that the reading takes, are together of bulk at most 1048576: NARROWER than '..Said'. Prove '..Said' where nothing that the law and all that it calls make is longer than what came in: it says more and counts as full. Else prove '..UptoSaid'. A law counts once. -/
mutual
def uptoBulk {H : Type} : DataW H → Nat
  | .lit (.string bytes) => bytes.length + 1
  | .lit _ => 1
  | .nil => 1
  | .ptr d => uptoBulk d + 1
  | .slice elems spare => uptoBulkAll elems + uptoBulkAll spare + 1
  | .agg parts => uptoBulkAll parts + 1
  | .iface _ d => uptoBulk d + 1
  | .map entries => uptoBulkEntries entries + 1
  | .held _ => 1
def uptoBulkAll {H : Type} : List (DataW H) → Nat
  | [] => 0
  | d :: r => uptoBulk d + uptoBulkAll r
def uptoBulkEntries {H : Type} : List (Lit × DataW H) → Nat
  | [] => 0
  | x :: r => uptoBulkEntry x + uptoBulkEntries r
def uptoBulkEntry {H : Type} : Lit × DataW H → Nat
  | (.string bytes, d) => bytes.length + uptoBulk d + 1
  | (_, d) => uptoBulk d + 1
 end
def uptoSmall : (H : Type) → List (DataW H) → Bool := fun _ ds => decide (uptoBulkAll ds ≤ 1048576)
def OpenSpec.upto (s : _root_.Go.ChangeSpec) : _root_.Go.OpenSpec := { _root_.Go.OpenSpec.ofChange s with cond := some uptoSmall }

/-- 'moultlaw9.FilterPlaces', WHERE WHAT IT READS IS OF BULK AT MOST 1048576: true; the input reads as it did. -/
def filterPlacesUptoRow : OpenClaim := { program := "ytaabaphpllnieaa", sum := "5eed657952cb79819edd420846fcc75f145b42ba192bf53a7750825c19e05a3f", func := "moult/moultlaw9.FilterPlaces", spec := "filterPlaces", unfollowed := true, recurses := true, apart := false, narrowed := true }
def FilterPlacesUptoSaid : Prop := filterPlacesUptoRow.holds Try.pinned (OpenSpec.upto filterPlacesSpec)

/-- 'moultlaw9.FilterBuilds', WHERE WHAT IT READS IS OF BULK AT MOST 1048576: true; the input reads as it did. -/
def filterBuildsUptoRow : OpenClaim := { program := "ytaabaphpllnieaa", sum := "5eed657952cb79819edd420846fcc75f145b42ba192bf53a7750825c19e05a3f", func := "moult/moultlaw9.FilterBuilds", spec := "filterBuilds", unfollowed := true, recurses := true, apart := false, narrowed := true }
def FilterBuildsUptoSaid : Prop := filterBuildsUptoRow.holds Try.pinned (OpenSpec.upto filterBuildsSpec)

/-- 'moultlaw9.FilterKnows', WHERE WHAT IT READS IS OF BULK AT MOST 1048576: true; the input reads as it did. -/
def filterKnowsUptoRow : OpenClaim := { program := "ytaabaphpllnieaa", sum := "5eed657952cb79819edd420846fcc75f145b42ba192bf53a7750825c19e05a3f", func := "moult/moultlaw9.FilterKnows", spec := "filterKnows", unfollowed := true, recurses := true, apart := false, narrowed := true }
def FilterKnowsUptoSaid : Prop := filterKnowsUptoRow.holds Try.pinned (OpenSpec.upto filterKnowsSpec)

/-- 'moultlaw9.FilterGrows', WHERE WHAT IT READS IS OF BULK AT MOST 1048576: true; the input reads as it did. -/
def filterGrowsUptoRow : OpenClaim := { program := "ytaabaphpllnieaa", sum := "5eed657952cb79819edd420846fcc75f145b42ba192bf53a7750825c19e05a3f", func := "moult/moultlaw9.FilterGrows", spec := "filterGrows", unfollowed := true, recurses := true, apart := false, narrowed := true }
def FilterGrowsUptoSaid : Prop := filterGrowsUptoRow.holds Try.pinned (OpenSpec.upto filterGrowsSpec)

/-- 'moultlaw9.FilterJoins', WHERE WHAT IT READS IS OF BULK AT MOST 1048576: true; the input reads as it did. -/
def filterJoinsUptoRow : OpenClaim := { program := "ytaabaphpllnieaa", sum := "5eed657952cb79819edd420846fcc75f145b42ba192bf53a7750825c19e05a3f", func := "moult/moultlaw9.FilterJoins", spec := "filterJoins", unfollowed := true, recurses := true, apart := false, narrowed := true }
def FilterJoinsUptoSaid : Prop := filterJoinsUptoRow.holds Try.pinned (OpenSpec.upto filterJoinsSpec)

/-- 'moultlaw9.FilterWithin', WHERE WHAT IT READS IS OF BULK AT MOST 1048576: true; the input reads as it did. -/
def filterWithinUptoRow : OpenClaim := { program := "ytaabaphpllnieaa", sum := "5eed657952cb79819edd420846fcc75f145b42ba192bf53a7750825c19e05a3f", func := "moult/moultlaw9.FilterWithin", spec := "filterWithin", unfollowed := true, recurses := true, apart := false, narrowed := true }
def FilterWithinUptoSaid : Prop := filterWithinUptoRow.holds Try.pinned (OpenSpec.upto filterWithinSpec)

end Rows
end Go.Proofs.Ytaabaphpllnieaa
