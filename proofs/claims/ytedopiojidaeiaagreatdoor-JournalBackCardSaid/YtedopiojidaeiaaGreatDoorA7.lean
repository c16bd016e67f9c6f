/- FPut, laid together. -/
import Derived.Test.YtedopiojidaeiaaGreatDoorA6
import Derived.Deep.RegionHeldLaw
/- What put and out make of the files; appending the elements of a slice that lies there, as one step of a region that draws its order. -/
set_option linter.unusedSimpArgs false
set_option linter.unusedVariables false
namespace Go.Proofs.YtedopiojidaeiaaGreatDoor
open Go.RowKit Go.Deep

def fileV (x : FI) : Value := .agg #[.string ⟨x.name.toArray⟩, .string ⟨x.bytes.toArray⟩, .int .i64 x.safe]
/-- The files with one in its place. -/
def insS (x : FI) (L : List FI) : List FI := L.take (findN x.name L) ++ x :: L.drop (findN x.name L + if isN x.name L then 1 else 0)
/-- The files with none of a name. -/
def outS (name : List UInt8) (L : List FI) : List FI := if isN name L then L.take (findN name L) ++ L.drop (findN name L + 1) else L

/-- A slice of no elements that a literal has made lies on. -/
theorem ownG_none {W : World} {n B : Nat} (h : W.heap[B]? = some (.cells #[] 89 (0, 0))) (hn : n ≤ B) : OwnG fileEl n W (.slice (some ⟨B, 0, none⟩) 0 0) [] := by
  refine ⟨rfl, Or.inr ⟨B, 0, #[], rfl, hn, h, Nat.le_refl _, by unfold maxLen; omega, by simp, by simp [El.all]⟩⟩

/-- A slice whose elements are to be appended. -/
def SrcAt {α : Type} (E : El α) (x : World) (y : Value) (news : List α) : Prop :=
  (y = .slice none 0 0 ∧ news = []) ∨ ∃ ad c, y = .slice (some ad) news.length c ∧ ∀ j u, (E.all news)[j]? = some u → x.cell? (ad.add j) = some u
theorem step_append_seg {α : Type} {E : El α} {n : Nat} {b : Nat} (hE : ElOk E b) {ops : Array Oper} {o : Oper} {a : Act} {K : Act → World → Prop} {Q : Exit → Act → World → Prop} {F : Prop} {x : World} (hgd : o.guard = none) (s y : Operand)
    (ho : o.op = .call { callee := .builtin .append, args := #[s, y], argTypes := #[E.ST, E.ST] }) {v yv : Value} {L : List α}
    (hs : a.eval s = v) (hown : OwnG E n x v L) (news : List α) (hy : a.eval y = yv) (hsrc : SrcAt E x yv news)
    (hl1 : L.length + news.length ≤ maxLen) (hlim : (L.length + news.length) * b ≤ 140737488355328) (hbase : n ≤ x.heap.size)
    (h : ∀ v' w', OwnG E n w' v' (L ++ news) → x.grownBy w' v.ownBlock → Below n x w' → K (a.put o.dst v') w') : if Region.wanted o (yielded ops a.tmps) = true then o.wp Tryz.prog a x K Q else F := by
  rw [if_pos (by simp [Region.wanted, hgd])]
  rcases hsrc with ⟨rfl, rfl⟩ | ⟨ad, c, rfl, hc⟩
  · obtain ⟨z, hz, hzc⟩ := hE.info
    obtain ⟨i0, hi, hz0, hz1, hz2⟩ := info_parts hz
    have hr := run_append_owned_none (P := Tryz.prog) (w := x) n E.ST o.type E.T i0 E.n hE.und hi v L.length (E.all L) hown
    unfold Oper.wp execOp
    simp only [ho, resolve, invoke, builtin, Sem.run_bind, Sem.run_pure, Result.andThen_ok, List.map_toArray, List.map_cons, List.map_nil, hs, hy, hr]
    exact h v x (by simpa using hown) ⟨rfl, rfl, rfl, Nat.le_refl _, fun _ _ _ => rfl⟩ (Below.refl _ _)
  · exact wp_append_gen hE s y ho hs hown ad news.length c news hy rfl hc hl1 hlim hbase h

/-- The same, the operation written out: at another one it fails at once. -/
theorem step_seg (s y : Nat) {n : Nat} {ops : Array Oper} {dst : Option Tmp} {ty : TypeId} {pos : String} {aft : Array Edge} {a : Act} {K : Act → World → Prop} {Q : Exit → Act → World → Prop} {F : Prop} {x : World} {v yv : Value} {L : List FI} (news : List FI)
    (hs : a.eval (.tmp s) = v) (hy : a.eval (.tmp y) = yv) (hown : OwnG fileEl n x v L) (hsrc : SrcAt fileEl x yv news) (hl : L.length + news.length ≤ 1000) (hbase : n ≤ x.heap.size)
    (h : ∀ v' w', OwnG fileEl n w' v' (L ++ news) → x.grownBy w' v.ownBlock → Below n x w' → K (a.put dst v') w') :
    if Region.wanted (Oper.mk dst (.call { callee := .builtin .append, args := #[.tmp s, .tmp y], argTypes := #[84, 84] }) ty pos aft none) (yielded ops a.tmps) = true
      then (Oper.mk dst (.call { callee := .builtin .append, args := #[.tmp s, .tmp y], argTypes := #[84, 84] }) ty pos aft none).wp Tryz.prog a x K Q else F :=
  step_append_seg fileOk rfl (.tmp s) (.tmp y) rfl hs hown news hy hsrc (by unfold maxLen; omega) (by omega) hbase h

theorem at_new {y : World} {o : Obj} {B : Nat} (h : B = y.heap.size) : (y.alloc o).heap[B]? = some o := by subst h; exact heap_alloc_new y o
theorem at_old {y : World} {o o' : Obj} {B : Nat} (h : y.heap[B]? = some o') : (y.alloc o).heap[B]? = some o' := (Below.heap_alloc y o B (Array.getElem?_eq_some_iff.1 h).1).trans h
theorem at_drew {y : World} {o' : Obj} {B : Nat} (h : y.heap[B]? = some o') : y.drew.heap[B]? = some o' := h
theorem at_grown {y z : World} {row : Option Nat} {o' : Obj} {B : Nat} (hg : y.grownBy z row) (h : y.heap[B]? = some o') (hne : some B ≠ row) : z.heap[B]? = some o' :=
  (hg.block B (Array.getElem?_eq_some_iff.1 h).1 hne).trans h
theorem below_alloc {w y : World} (h : Below w.heap.size w y) (o : Obj) : Below w.heap.size w (y.alloc o) := h.alloc h.size o
theorem lit_src {W : World} {B : Nat} {x : FI} (h : W.heap[B]? = some (.cells #[.string ⟨x.name.toArray⟩, .string ⟨x.bytes.toArray⟩, .int .i64 x.safe] 89 (0, 0))) : SrcAt fileEl W (.slice (some ⟨B, 0, none⟩) 1 1) [x] := by
  refine Or.inr ⟨_, 1, rfl, fun j u hj => ?_⟩
  have e : (⟨B, 0, none⟩ : Addr).add j = ⟨B, j, none⟩ := by cases j <;> simp [Addr.add]
  rw [e]
  simp [World.cell?, h]
  simpa [El.all, fileEl] using hj

end Go.Proofs.YtedopiojidaeiaaGreatDoor
