/- file's turn, whatever the change. -/
import Derived.Test.YtedopiojidaeiaaFAdmit
set_option linter.unusedSimpArgs false
set_option linter.unusedVariables false
namespace Go.Proofs.Ytedopiojidaeiaa
open Go.RowKit Go.Deep Go.Maps

/-- What lies in a file system's own block. -/
def Hdr (w : World) (b : Nat) (M : RS) (mv : Value) (t : Int) : Prop :=
  w.heap[b]? = some (.cells #[.int .i64 M.room, mv, .bool (decide (0 ≤ M.turns)), .int .i64 t, .bool M.gone] 49 (0, 0)) ∧ (0 ≤ M.turns → t = M.turns) ∧ in64 t
theorem turnS_zero {M : RS} (h : M.turns = 0) : turnS M = (7, { M with gone := true }) := by unfold turnS; rw [if_pos h]
theorem turnS_pos {M : RS} (h : 0 < M.turns) : turnS M = (0, { M with turns := M.turns - 1 }) := by unfold turnS; rw [if_neg (by omega), if_pos h]
theorem turnS_neg {M : RS} (h : M.turns < 0) : turnS M = (0, M) := by unfold turnS; rw [if_neg (by omega), if_neg (by omega)]
set_option maxHeartbeats 2000000 in
theorem pturn_any (w : World) (b : Nat) (M : RS) (mv : Value) (t : Int) (g : Nat) (lb : Array Value) (h : Hdr w b M mv t) (R : World → Prop) (hcall : ∀ x : World, (callFunc g lb).run Try.prog x = .ok (.enter g lb) x)
    (hc : ∀ w1 t1, Hdr w1 b (turnS M).2 mv t1 → Keep [b] w w1 → Calls Try.prog g lb w1 fun e w' => e = .returned (.tuple #[]) ∧ R w') :
    Calls Try.prog 20 #[.pointer (some ⟨b, 0, none⟩), .func (.func g) #[] lb] w fun e w' => e = .returned (.int .i64 (turnS M).1) ∧
      (M.turns = 0 → Hdr w' b (turnS M).2 mv t ∧ Keep [b] w w') ∧ (M.turns ≠ 0 → R w') := by
  obtain ⟨hb, ht, h64⟩ := h
  have c2 : w.cell? ⟨b, 2, none⟩ = some (.bool (decide (0 ≤ M.turns))) := by simp [World.cell?, hb]
  have c3 : w.cell? ⟨b, 3, none⟩ = some (.int .i64 t) := by simp [World.cell?, hb]
  have c4 : w.cell? ⟨b, 4, none⟩ = some (.bool M.gone) := by simp [World.cell?, hb]
  have f3 : w.frozen? ⟨b, 3, none⟩ = false := by simp [World.frozen?, hb]
  have f4 : w.frozen? ⟨b, 4, none⟩ = false := by simp [World.frozen?, hb]
  have HB := Lib.hid hb
  have HC := Lib.hid hc
  have H64 := Lib.hid h64
  clear hc hb
  rcases Int.lt_trichotomy M.turns 0 with hz | hz | hz
  · have hd : decide (0 ≤ M.turns) = false := by rw [decide_eq_false_iff_not]; omega
    rw [turnS_neg hz] at HC ⊢
    have HW := Lib.hid (HC.out w t ⟨HB.out, ht, h64⟩ (Keep.refl _ w))
    have HN := Lib.hid (show M.turns ≠ 0 by omega)
    rw [hd] at c2
    clear hd ht h64 hz
    go_enter Try.func20, Try.ntmps20
    go_wp2_with (fail)
    refine HW.out.mono ?_
    rintro e w1 ⟨rfl, hr⟩
    have HR := Lib.hid hr
    clear hr
    go_wp2_with (fail)
    go_ret
    exact ⟨rfl, fun h => absurd h HN.out, fun _ => HR.out⟩
  · have hd : decide (0 ≤ M.turns) = true := by rw [decide_eq_true_eq]; omega
    have hD := Lib.hid hd
    rw [turnS_zero hz] at HC ⊢
    rw [hd] at c2
    have HZ := Lib.hid hz
    have hT := Lib.hid ht
    have ht0 : t = 0 := by rw [ht (by omega)]; exact hz
    subst ht0
    clear hd ht h64 hz
    go_enter Try.func20, Try.ntmps20
    go_wp2_with (fail)
    go_ret
    exact ⟨rfl, fun _ => ⟨⟨by rw [blk_set HB.out 4 _]; rfl, hT.out, H64.out⟩, keep_set w b 4 _⟩, fun h => absurd HZ.out h⟩
  · have hd : decide (0 ≤ M.turns) = true := by rw [decide_eq_true_eq]; omega
    have hd' : decide (0 ≤ M.turns - 1) = true := by rw [decide_eq_true_eq]; omega
    rw [turnS_pos hz] at HC ⊢
    have ht0 : t = M.turns := ht (by omega)
    subst ht0
    obtain ⟨h1, h2⟩ := h64
    have HW := Lib.hid (HC.out (w.setCell ⟨b, 3, none⟩ (.int .i64 (M.turns - 1))) (M.turns - 1) ⟨by rw [blk_set HB.out 3 _]; simp only [hd, hd']; rfl, fun _ => rfl, by unfold in64; omega⟩ (keep_set w b 3 _))
    have HN := Lib.hid (show M.turns ≠ 0 by omega)
    have hne : (M.turns == 0) = false := by rw [beq_eq_false_iff_ne]; omega
    rw [hd] at c2
    clear hd hd' ht
    go_enter Try.func20, Try.ntmps20
    go_wp2_with (fail)
    refine HW.out.mono ?_
    rintro e w1 ⟨rfl, hr⟩
    have HR := Lib.hid hr
    clear hr
    go_wp2_with (fail)
    go_ret
    exact ⟨rfl, fun h => absurd h HN.out, fun _ => HR.out⟩
end Go.Proofs.Ytedopiojidaeiaa
