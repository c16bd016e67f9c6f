/- The order of kinds: its plain mathematics, how an order lies in memory, and the contracts of slices.Contains over its elements, of kinds and of below. -/
import Derived.Test.YtdlbihkollicfaaKit
set_option linter.unusedSimpArgs false
set_option linter.unusedVariables false
namespace Go.Proofs.Ytdlbihkollicfaa
open Go.RowKit

def kindB (a : Int) : Bool := decide (1 ≤ a ∧ a ≤ 6)
def upB (a b : Int) : Bool := decide (1 ≤ a ∧ a ≤ 6 ∧ 1 ≤ b ∧ b ≤ 6 ∧ (a ≤ 4 ↔ b ≤ 4) ∧ a ≤ b)
def dnB (a b : Int) : Bool := upB b a
def upL : List (Int × Int) := [(1, 2), (2, 3), (3, 4), (5, 6)]
def dnL : List (Int × Int) := [(2, 1), (3, 2), (4, 3), (6, 5)]

/-- R is the order that the four steps of l make. -/
structure OrdR (l : List (Int × Int)) (R : Int → Int → Bool) (rank : Int → Nat) : Prop where
  self : ∀ a, R a a = kindB a
  step : ∀ a b, a ≠ b → R a b = l.any fun p => decide (p.1 = a) && R p.2 b
  down : ∀ p ∈ l, rank p.2 < rank p.1
  four : l.length = 4

theorem up_ord : OrdR upL upB fun a => (7 - a).toNat := by
  refine ⟨fun a => ?_, fun a b h => ?_, ?_, rfl⟩
  · unfold upB kindB; rw [Bool.eq_iff_iff]; simp; omega
  · rw [Bool.eq_iff_iff]; simp [upL, upB]; omega
  · decide
theorem dn_ord : OrdR dnL dnB fun a => a.toNat := by
  refine ⟨fun a => ?_, fun a b h => ?_, ?_, rfl⟩
  · unfold dnB upB kindB; rw [Bool.eq_iff_iff]; simp; omega
  · rw [Bool.eq_iff_iff]; simp [dnL, dnB, upB]; omega
  · decide

/-- An order lies in blocks be and bs. -/
structure OrdAt (w : World) (be bs : Nat) (l : List (Int × Int)) : Prop where
  els : ∀ k : Nat, k < 6 → w.cell? ⟨be, k, none⟩ = some (.int .i64 ((k : Int) + 1))
  steps : ∀ (k : Nat) p, l[k]? = some p → w.cell? ⟨bs, k * 2, none⟩ = some (.int .i64 p.1) ∧ w.cell? ⟨bs, k * 2 + 1, none⟩ = some (.int .i64 p.2)
  hbe : be < w.heap.size
  hbs : bs < w.heap.size
theorem OrdAt.bel {w x : World} {be bs : Nat} {l : List (Int × Int)} (h : OrdAt w be bs l) (hb : Bel w x) : OrdAt x be bs l :=
  ⟨fun k hk => (hb.cell _ _ h.hbe).trans (h.els k hk), fun k p hp => ⟨(hb.cell _ _ h.hbs).trans (h.steps k p hp).1, (hb.cell _ _ h.hbs).trans (h.steps k p hp).2⟩, Nat.lt_of_lt_of_le h.hbe hb.size, Nat.lt_of_lt_of_le h.hbs hb.size⟩
theorem OrdAt.alloc {w : World} {be bs : Nat} {l : List (Int × Int)} (h : OrdAt w be bs l) (o : Obj) : OrdAt (w.alloc o) be bs l := h.bel ((Bel.refl w).alloc o)

def idxI (a : Int) : Int := if 1 ≤ a ∧ a ≤ 6 then a - 1 else -1
set_option maxHeartbeats 400000 in
theorem index_any (a : Int) (be ce : Nat) (w : World) (h : ∀ k : Nat, k < 6 → w.cell? ⟨be, k, none⟩ = some (.int .i64 ((k : Int) + 1))) :
    Calls Try.prog 38 #[.slice (some ⟨be, 0, none⟩) 6 ce, .int .i64 a] w fun e w' => e = .returned (.int .i64 (idxI a)) ∧ w = w' := by
  go_enter Try.func38, Try.ntmps38
  go_wp2
  go_loop [8] (fun i => ∃ k : Nat, k ≤ 6 ∧ i = .int .i64 k ∧ ¬ (1 ≤ a ∧ a ≤ k)) (fun i => 6 - (intOf i).toNat)
  case atStart => exact ⟨0, by omega, rfl, by omega⟩
  case round =>
    obtain ⟨k, hk, rfl, hno⟩ := hrel
    by_cases hlt : k < 6
    · have hc := h k hlt
      clear h
      by_cases he : a = (k : Int) + 1
      · have HE := Lib.hid he
        have he' : (a == (k : Int) + 1) = true := by simpa using he
        clear he
        go_wp2
        all_goals
          go_ret
          refine ⟨ret_int ?_, rfl⟩
          have := HE.out
          unfold idxI
          rw [if_pos (by omega)]; omega
      · have he' : (a == (k : Int) + 1) = false := by simpa using he
        go_wp2
        all_goals
          go_round
          case rel => exact ⟨k + 1, by omega, by go_num, by omega⟩
          case measure => simp [intOf]; omega
    · clear h
      go_wp2
      go_ret
      exact ⟨ret_int (by unfold idxI; rw [if_neg (by omega)]), rfl⟩

set_option maxHeartbeats 400000 in
theorem contains_any (a : Int) (be ce : Nat) (w : World) (h : ∀ k : Nat, k < 6 → w.cell? ⟨be, k, none⟩ = some (.int .i64 ((k : Int) + 1))) :
    Calls Try.prog 37 #[.slice (some ⟨be, 0, none⟩) 6 ce, .int .i64 a] w fun e w' => e = .returned (.bool (kindB a)) ∧ w = w' := by
  have HH := Lib.hid h; clear h
  go_enter Try.func37, Try.ntmps37
  go_wp2_with (fail)
  refine (index_any a be ce _ HH.out).mono ?_
  rintro e w' ⟨rfl, rfl⟩
  by_cases hk : 1 ≤ a ∧ a ≤ 6
  · rw [show idxI a = a - 1 from if_pos hk]
    go_wp2
    go_ret
    refine ⟨ret_bool ?_, rfl⟩
    unfold kindB; simp; omega
  · rw [show idxI a = -1 from if_neg hk]
    go_wp2
    go_ret
    refine ⟨ret_bool ?_, rfl⟩
    unfold kindB; simp; omega
end Go.Proofs.Ytdlbihkollicfaa
