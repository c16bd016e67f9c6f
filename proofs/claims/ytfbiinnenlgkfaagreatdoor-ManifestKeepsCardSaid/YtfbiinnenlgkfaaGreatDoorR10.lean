/- FName, laid together. -/
import Derived.Test.YtfbiinnenlgkfaaGreatDoorR4
import Derived.Deep.OwnRows
import Derived.Lib.Hide
set_option linter.unusedSimpArgs false
set_option linter.unusedVariables false
namespace Go.Proofs.YtfbiinnenlgkfaaGreatDoor
open Go.RowKit Go.Deep

def letB (c : UInt8) : Bool := (97 ≤ c.toNat && c.toNat ≤ 122) || (48 ≤ c.toNat && c.toNat ≤ 57) || c.toNat == 46
def nameB (l : List UInt8) : Bool := l.all letB && (1 ≤ l.length && l.length ≤ 24)
theorem name_bad (l : List UInt8) (k : Nat) (h : k < l.length) (hb : letB l[k] = false) : nameB l = false := by
 have : l.all letB = false := by
  rw [List.all_eq_false]
  exact ⟨l[k], List.getElem_mem h, by simp [hb]⟩
 unfold nameB
 rw [this]; rfl
def NmRel (l : List UInt8) (i : Value) : Prop := ∃ k : Nat, i = .int .i64 k ∧ k ≤ l.length ∧ (l.take k).all letB = true
theorem all_take (l : List UInt8) (k : Nat) (h : k < l.length) (h1 : (l.take k).all letB = true) (h2 : letB l[k] = true) : (l.take (k + 1)).all letB = true := by
 rw [List.take_add_one, List.getElem?_eq_getElem h, List.all_append, h1]
 simp [h2]
theorem let_ways (c : UInt8) : (letB c = true ∧ (¬ (c.toNat : Int) < 97 ∧ ¬ (122 : Int) < (c.toNat : Int))) ∨
  (letB c = true ∧ ((c.toNat : Int) < 97 ∧ ¬ (c.toNat : Int) < 48 ∧ ¬ (57 : Int) < (c.toNat : Int))) ∨ (letB c = true ∧ ((c.toNat : Int) < 97 ∧ (c.toNat : Int) < 48 ∧ ((c.toNat : Int) == 46) = true)) ∨
  (letB c = false ∧ ((c.toNat : Int) < 97 ∧ (c.toNat : Int) < 48 ∧ ((c.toNat : Int) == 46) = false)) ∨ (letB c = false ∧ ((c.toNat : Int) < 97 ∧ ¬ (c.toNat : Int) < 48 ∧ (57 : Int) < (c.toNat : Int) ∧ ((c.toNat : Int) == 46) = false)) ∨
  (letB c = false ∧ (¬ (c.toNat : Int) < 97 ∧ (122 : Int) < (c.toNat : Int) ∧ ¬ (c.toNat : Int) < 48 ∧ (57 : Int) < (c.toNat : Int) ∧ ((c.toNat : Int) == 46) = false)) := by
 have e : letB c = true ↔ (97 ≤ c.toNat ∧ c.toNat ≤ 122) ∨ (48 ≤ c.toNat ∧ c.toNat ≤ 57) ∨ c.toNat = 46 := by
  unfold letB; simp [or_assoc]
 have e' : letB c = false ↔ ¬ ((97 ≤ c.toNat ∧ c.toNat ≤ 122) ∨ (48 ≤ c.toNat ∧ c.toNat ≤ 57) ∨ c.toNat = 46) := by rw [← e]; simp
 have q : ((c.toNat : Int) == 46) = true ↔ c.toNat = 46 := by rw [beq_iff_eq]; omega
 have q' : ((c.toNat : Int) == 46) = false ↔ ¬ c.toNat = 46 := by rw [beq_eq_false_iff_ne]; omega
 simp only [e, e', q, q']
 omega

set_option maxHeartbeats 4000000 in
theorem rname_any (s : ByteArray) (w : World) (hs : s.size ≤ maxLen) :
  Calls Tryz.prog 65 #[.string s] w fun e w' => e = .returned (.bool (nameB s.data.toList)) ∧ Drw w w' := by
 unfold maxLen at hs
 have hsl : s.data.toList.length = s.size := rfl
 go_enter Tryz.func65, Tryz.ntmps65
 go_wp2_with (fail)
 go_loopw [3] (fun i x => NmRel s.data.toList i ∧ Drw w x) (fun i _ => s.size - (intOf i).toNat)
 case atStart => exact ⟨⟨0, rfl, Nat.zero_le _, rfl⟩, Drw.refl w⟩
 case round =>
  obtain ⟨⟨k, rfl, hk, hall⟩, hw⟩ := hrel
  have HW := Lib.hid hw; clear hw
  have HA := Lib.hid hall; clear hall
  rw [hsl] at hk
  by_cases hlt : k < s.size
  ·have HG := Lib.hid (show k < s.data.toList.length from hlt)
   have HB := Lib.hid (show letB s[k] = false → nameB s.data.toList = false from fun h => name_bad s.data.toList k hlt h)
   have HT := Lib.hid (show letB s[k] = true → (s.data.toList.take (k + 1)).all letB = true from fun h => all_take s.data.toList k hlt HA.out h)
   rcases let_ways s[k] with ⟨hl, h1, h2⟩ | ⟨hl, h1, h2, h3⟩ | ⟨hl, h1, h2, h3⟩ | ⟨hl, h1, h2, h3⟩ | ⟨hl, h1, h2, h3, h4⟩ | ⟨hl, h1, h2, h3, h4, h5⟩
   ·have HT2 := Lib.hid (HT.out hl); clear hl
    go_wp2_with (fail)
    go_roundw
    case rel => exact ⟨⟨k + 1, by go_num, by omega, HT2.out⟩, HW.out⟩
    case measure => simp [intOf]; omega
   ·have HT2 := Lib.hid (HT.out hl); clear hl
    go_wp2_with (fail)
    go_roundw
    case rel => exact ⟨⟨k + 1, by go_num, by omega, HT2.out⟩, HW.out⟩
    case measure => simp [intOf]; omega
   ·have HT2 := Lib.hid (HT.out hl); clear hl
    have h6 : ((s[k].toNat : Int) != 46) = false := by simp [bne, *]
    go_wp2_with (fail)
    go_roundw
    case rel => exact ⟨⟨k + 1, by go_num, by omega, HT2.out⟩, HW.out⟩
    case measure => simp [intOf]; omega
   ·have HT2 := Lib.hid (HB.out hl); clear hl
    have h6 : ((s[k].toNat : Int) != 46) = true := by simp [bne, *]
    go_wp2_with (fail)
    go_ret
    exact ⟨by rw [HT2.out]; rfl, HW.out⟩
   ·have HT2 := Lib.hid (HB.out hl); clear hl
    have h6 : ((s[k].toNat : Int) != 46) = true := by simp [bne, *]
    go_wp2_with (fail)
    case roundEnd => exfalso; rename_i h; clear h6; simp at *; omega
    go_ret
    exact ⟨by rw [HT2.out]; rfl, HW.out⟩
   ·have HT2 := Lib.hid (HB.out hl); clear hl
    have h6 : ((s[k].toNat : Int) != 46) = true := by simp [bne, *]
    go_wp2_with (fail)
    case roundEnd => exfalso; rename_i h; clear h6; simp at *; omega
    go_ret
    exact ⟨by rw [HT2.out]; rfl, HW.out⟩
  ·obtain rfl : k = s.size := by omega
   have HN := Lib.hid (show nameB s.data.toList = (decide ((1 : Int) ≤ (s.size : Int)) && decide ((s.size : Int) ≤ 24)) by
    have h := HA.out
    rw [← hsl, List.take_length] at h
    unfold nameB
    rw [h, hsl, Bool.true_and]
    congr 1 <;> rw [decide_eq_decide] <;> omega)
   by_cases h1 : (1 : Int) ≤ (s.size : Int)
   ·go_wp2_with (fail)
    go_ret
    exact ⟨by rw [HN.out]; simp [h1], HW.out⟩
   ·go_wp2_with (fail)
    go_ret
    exact ⟨ret_bool (by rw [HN.out]; simp; omega), HW.out⟩
end Go.Proofs.YtfbiinnenlgkfaaGreatDoor
