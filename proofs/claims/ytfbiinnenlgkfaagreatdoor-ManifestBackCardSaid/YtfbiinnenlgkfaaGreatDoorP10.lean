/- FName, laid together. -/
import Derived.Test.YtfbiinnenlgkfaaGreatDoorP4
import Derived.Deep.OwnRows
import Derived.Lib.Hide
set_option linter.unusedSimpArgs false
set_option linter.unusedVariables false
/- moultref6.Name: is a text a name? -/
namespace Go.Proofs.YtfbiinnenlgkfaaGreatDoor
open Go.RowKit Go.Deep

def letB (c : UInt8) : Bool := (97 ≤ c.toNat && c.toNat ≤ 122) || (48 ≤ c.toNat && c.toNat ≤ 57) || c.toNat == 46
def nameB (l : List UInt8) : Bool := l.all letB && (1 ≤ l.length && l.length ≤ 24)
theorem name_bad (l : List UInt8) (k : Nat) (h : k < l.length) (hb : letB l[k] = false) : nameB l = false := by
  have : l.all letB = false := by
    rw [List.all_eq_false]
    exact ⟨l[k], List.getElem_mem h, by simp [hb]⟩
  unfold nameB
  rw [this]; rfl
def NmRel (l : List UInt8) (i : Value) : Prop := ∃ k : Nat, i = .int .i64 k ∧ k ≤ l.length ∧ (l.take k).all letB = true
theorem all_take (l : List UInt8) (k : Nat) (h : k < l.length) (h1 : (l.take k).all letB = true) (h2 : letB l[k] = true) : (l.take (k + 1)).all letB = true := by
  rw [List.take_add_one, List.getElem?_eq_getElem h, List.all_append, h1]
  simp [h2]
theorem let_ways (c : UInt8) : (letB c = true ∧ (¬ (c.toNat : Int) < 97 ∧ ¬ (122 : Int) < (c.toNat : Int))) ∨
    (letB c = true ∧ ((c.toNat : Int) < 97 ∧ ¬ (c.toNat : Int) < 48 ∧ ¬ (57 : Int) < (c.toNat : Int))) ∨ (letB c = true ∧ ((c.toNat : Int) < 97 ∧ (c.toNat : Int) < 48 ∧ ((c.toNat : Int) == 46) = true)) ∨
    (letB c = false ∧ ((c.toNat : Int) < 97 ∧ (c.toNat : Int) < 48 ∧ ((c.toNat : Int) == 46) = false)) ∨ (letB c = false ∧ ((c.toNat : Int) < 97 ∧ ¬ (c.toNat : Int) < 48 ∧ (57 : Int) < (c.toNat : Int) ∧ ((c.toNat : Int) == 46) = false)) ∨
    (letB c = false ∧ (¬ (c.toNat : Int) < 97 ∧ (122 : Int) < (c.toNat : Int) ∧ ¬ (c.toNat : Int) < 48 ∧ (57 : Int) < (c.toNat : Int) ∧ ((c.toNat : Int) == 46) = false)) := by
  have e : letB c = true ↔ (97 ≤ c.toNat ∧ c.toNat ≤ 122) ∨ (48 ≤ c.toNat ∧ c.toNat ≤ 57) ∨ c.toNat = 46 := by
    unfold letB; simp [or_assoc]
  have e' : letB c = false ↔ ¬ ((97 ≤ c.toNat ∧ c.toNat ≤ 122) ∨ (48 ≤ c.toNat ∧ c.toNat ≤ 57) ∨ c.toNat = 46) := by rw [← e]; simp
  have q : ((c.toNat : Int) == 46) = true ↔ c.toNat = 46 := by rw [beq_iff_eq]; omega
  have q' : ((c.toNat : Int) == 46) = false ↔ ¬ c.toNat = 46 := by rw [beq_eq_false_iff_ne]; omega
  simp only [e, e', q, q']
  omega

end Go.Proofs.YtfbiinnenlgkfaaGreatDoor
