/- Num, laid together. -/
import Derived.Test.YtfbiinnenlgkfaaGreatDoorR1
import Derived.Test.YtfbiinnenlgkfaaGreatDoorR23
import Derived.Lib.AppendIntMem
import Derived.Lib.AtoiErrMem
import Derived.Lib.AtoiAllMem
import Derived.WalkSmall
set_option linter.unusedSimpArgs false
set_option linter.unusedVariables false
namespace Go.Proofs.YtfbiinnenlgkfaaGreatDoor
open Go.RowKit

noncomputable def powName : String := ((Tryz.prog.globals[0]?).map (fun g => g.name)).getD ""
theorem powG : Tryz.prog.globalNamed powName = some 0 := by kernel_rfl

def Std (w : World) : Prop :=
 Lib.TabIs Tryz.prog w powName .u64 Lib.pow10Tab ∧ (∃ tp p, w.cell? ⟨1, 0, none⟩ = some (.iface tp p)) ∧ (∃ tp p, w.cell? ⟨2, 0, none⟩ = some (.iface tp p)) ∧
 0 < w.heap.size ∧ 1 < w.heap.size ∧ 2 < w.heap.size
theorem Std.bel {a w : World} (h : Std a) (hb : Bel a w) : Std w := by
 obtain ⟨h1, ⟨t2, p2, h2⟩, ⟨t3, p3, h3⟩, h4, h5, h6⟩ := h
 have hs := hb.size
 exact ⟨var?_below hb powG h4 h1, ⟨t2, p2, by rw [hb.cell _ _ h5]; exact h2⟩, ⟨t3, p3, by rw [hb.cell _ _ h6]; exact h3⟩, by omega, by omega, by omega⟩
theorem Std.alloc {w : World} (h : Std w) (o : Obj) : Std (w.alloc o) := h.bel ((Bel.refl w).alloc o)
theorem Std.drew {w : World} (h : Std w) : Std w.drew := h.bel ((Bel.refl w).drew)
theorem Std.drewN {w : World} (h : Std w) (n : Nat) : Std (w.drewN n) := h.bel ((Bel.refl w).drewN n)

theorem tab_named {w : World} {n m : String} {k : IntKind} {l : List Int} (h : Lib.TabIs Tryz.prog w n k l) (e : n = m) : Lib.TabIs Tryz.prog w m k l := e ▸ h

theorem itoa_any (n : Int) (h0 : -9223372036854775808 ≤ n) (h1 : n ≤ 9223372036854775807) (w : World) (h : Std w) :
  Calls Tryz.prog 116 #[.int .i64 n] w fun e w' => e = .returned (.string ⟨(Lib.itoa n).toArray⟩) ∧ Bel w w' := by
 refine (Any.strconv_Itoa Tryz.laysM171 n h0 h1 w ?_).mono ?_
 ·exact tab_named h.1 (by kernel_rfl)
 ·rintro e w' ⟨rfl, k, os, rfl⟩
  exact ⟨rfl, Lib.below_grow _ w (Nat.le_refl _) k os⟩
end Go.Proofs.YtfbiinnenlgkfaaGreatDoor
