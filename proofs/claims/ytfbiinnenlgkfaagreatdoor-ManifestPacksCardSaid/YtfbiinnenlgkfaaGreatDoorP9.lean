/- FPut, FPut2, FOut, laid together. -/
import Derived.Test.YtfbiinnenlgkfaaGreatDoorP4
import Derived.Deep.RegionHeldLaw
import Derived.Test.YtfbiinnenlgkfaaGreatDoorP2
set_option linter.unusedSimpArgs false
set_option linter.unusedVariables false
/- What put and out make of the files; appending the elements of a slice that lies there, as one step of a region that draws its order. -/
namespace Go.Proofs.YtfbiinnenlgkfaaGreatDoor
open Go.RowKit Go.Deep

def insS (x : FI) (L : List FI) : List FI := L.take (findN x.name L) ++ x :: L.drop (findN x.name L + if isN x.name L then 1 else 0)
def outS (name : List UInt8) (L : List FI) : List FI := if isN name L then L.take (findN name L) ++ L.drop (findN name L + 1) else L

def SrcAt {α : Type} (E : El α) (x : World) (y : Value) (news : List α) : Prop :=
  (y = .slice none 0 0 ∧ news = []) ∨ ∃ ad c, y = .slice (some ad) news.length c ∧ ∀ j u, (E.all news)[j]? = some u → x.cell? (ad.add j) = some u
theorem step_append_seg {α : Type} {E : El α} {n : Nat} {b : Nat} (hE : ElOk E b) {ops : Array Oper} {o : Oper} {a : Act} {K : Act → World → Prop} {Q : Exit → Act → World → Prop} {F : Prop} {x : World} (hgd : o.guard = none) (s y : Operand)
    (ho : o.op = .call { callee := .builtin .append, args := #[s, y], argTypes := #[E.ST, E.ST] }) {v yv : Value} {L : List α}
    (hs : a.eval s = v) (hown : OwnG E n x v L) (news : List α) (hy : a.eval y = yv) (hsrc : SrcAt E x yv news)
    (hl1 : L.length + news.length ≤ maxLen) (hlim : (L.length + news.length) * b ≤ 140737488355328) (hbase : n ≤ x.heap.size)
    (h : ∀ v' w', OwnG E n w' v' (L ++ news) → x.grownBy w' v.ownBlock → Below n x w' → K (a.put o.dst v') w') : if Region.wanted o (yielded ops a.tmps) = true then o.wp Tryz.prog a x K Q else F := by
  rw [if_pos (by simp [Region.wanted, hgd])]
  rcases hsrc with ⟨rfl, rfl⟩ | ⟨ad, c, rfl, hc⟩
  · obtain ⟨z, hz, hzc⟩ := hE.info
    obtain ⟨i0, hi, hz0, hz1, hz2⟩ := info_parts hz
    have hr := run_append_owned_none (P := Tryz.prog) (w := x) n E.ST o.type E.T i0 E.n hE.und hi v L.length (E.all L) hown
    unfold Oper.wp execOp
    simp only [ho, resolve, invoke, builtin, Sem.run_bind, Sem.run_pure, Result.andThen_ok, List.map_toArray, List.map_cons, List.map_nil, hs, hy, hr]
    exact h v x (by simpa using hown) ⟨rfl, rfl, rfl, Nat.le_refl _, fun _ _ _ => rfl⟩ (Below.refl _ _)
  · exact wp_append_gen hE s y ho hs hown ad news.length c news hy rfl hc hl1 hlim hbase h

end Go.Proofs.YtfbiinnenlgkfaaGreatDoor
/- moultref6's put: a file stands where it belongs. -/
namespace Go.Proofs.YtfbiinnenlgkfaaGreatDoor
open Go.RowKit Go.Deep

end Go.Proofs.YtfbiinnenlgkfaaGreatDoor
/- moultref6's out: a file is not there any more. -/
namespace Go.Proofs.YtfbiinnenlgkfaaGreatDoor
open Go.RowKit Go.Deep

end Go.Proofs.YtfbiinnenlgkfaaGreatDoor
