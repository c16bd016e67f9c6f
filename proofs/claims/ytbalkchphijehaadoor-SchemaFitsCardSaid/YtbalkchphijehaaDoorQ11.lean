/- QRef3, QRef4, QRef5, QRef6, laid together. -/
import Derived.Test.YtbalkchphijehaaDoorQ6
import Derived.Deep.RegionHeld
import Derived.Test.YtbalkchphijehaaDoorQ9
set_option linter.unusedSimpArgs false
set_option linter.unusedVariables false
/- moultref14.Right. -/
set_option maxRecDepth 20000
namespace Go.Proofs.YtbalkchphijehaaDoor
open Go.RowKit Go.Deep

end Go.Proofs.YtbalkchphijehaaDoor
/- moultref14.Put. -/
set_option maxRecDepth 20000
namespace Go.Proofs.YtbalkchphijehaaDoor
open Go.RowKit Go.Deep

def prowV (t ver : Int) (L : List KV) : Value := if rowB t ver L = true then .tuple #[.string ⟨(encRow t.toNat ver.toNat L).toArray⟩, .int .i64 0] else .tuple #[.string ⟨#[]⟩, .int .i64 1]
theorem prow_no {t ver : Int} {L : List KV} (h : rowB t ver L = false) : prowV t ver L = .tuple #[.string ⟨#[]⟩, .int .i64 1] := by unfold prowV; rw [h]; rfl
theorem prow_yes {t ver : Int} {L : List KV} (h : rowB t ver L = true) : prowV t ver L = .tuple #[.string ⟨(encRow t.toNat ver.toNat L).toArray⟩, .int .i64 0] := by unfold prowV; rw [h]; rfl
end Go.Proofs.YtbalkchphijehaaDoor
/- moultref14.numbers. -/
set_option maxRecDepth 20000
namespace Go.Proofs.YtbalkchphijehaaDoor
open Go.RowKit Go.Deep

def intQ : El Nat := ⟨3, 78, 1, fun i => [.int .i64 (i : Int)]⟩
def NumPost (o : Option (List Nat × List UInt8)) (w : World) (e : Ending) (w' : World) : Prop := match o with
  | some x => ∃ v, e = .returned (.tuple #[v, .string ⟨x.2.toArray⟩, .bool true]) ∧ OwnG intQ w.heap.size w' v x.1 ∧ Bel w w'
  | none => e = .returned (.tuple #[.slice none 0 0, .string ⟨#[]⟩, .bool false]) ∧ Bel w w'
theorem NumPost.no {o : Option (List Nat × List UInt8)} (ho : o = none) {w w' : World} (hb : Bel w w') : NumPost o w (.returned (.tuple #[.slice none 0 0, .string ⟨#[]⟩, .bool false])) w' := by subst ho; exact ⟨rfl, hb⟩
theorem NumPost.yes {o : Option (List Nat × List UInt8)} {l : List Nat} {r : ByteArray} (ho : o = some (l, r.data.toList)) {w w' : World} {v : Value} (hv : OwnG intQ w.heap.size w' v l) (hb : Bel w w') : NumPost o w (.returned (.tuple #[v, .string r, .bool true])) w' := by
  subst ho
  exact ⟨v, by simp only [ba_list], hv, hb⟩
end Go.Proofs.YtbalkchphijehaaDoor
/- moultref14.Pack. -/
set_option maxRecDepth 20000
namespace Go.Proofs.YtbalkchphijehaaDoor
open Go.RowKit Go.Deep

end Go.Proofs.YtbalkchphijehaaDoor
