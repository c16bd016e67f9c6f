/- Slices of values, that came in or that a call has made: what they hold; moultlaw4.small and same. -/
import Derived.Test.YtggmeggfibblhaaDoorKTake2
import Derived.Test.YtggmeggfibblhaaDoorOwnG
set_option linter.unusedSimpArgs false
set_option linter.unusedVariables false
namespace Go.Proofs.YtggmeggfibblhaaDoor
open Go.RowKit Go.Deep

def valEl : El KV := ⟨23, 24, 3, fun v => [.int .i64 v.k, .int .i64 v.n, .string v.s]⟩
theorem valOk : ElOk valEl 32 := ⟨fun _ => rfl, fun a u hu => by simp [valEl] at hu; rcases hu with rfl | rfl | rfl <;> rfl, by kernel_rfl, ⟨.agg #[.int .i64 0, .int .i64 0, .string ⟨#[]⟩], by kernel_rfl, rfl⟩, by decide⟩
/-- The slice at p holds L. -/
def ValsAt (w : World) (p : Option Addr) (L : List KV) : Prop := ∀ i (h : i < L.length), ∃ a B O sp, p = some a ∧ a.add (i * 3) = ⟨B, O, sp⟩ ∧ w.cell? ⟨B, O, sp⟩ = some (.int .i64 L[i].k) ∧ w.cell? ⟨B, O + 1, none⟩ = some (.int .i64 L[i].n) ∧ w.cell? ⟨B, O + 2, none⟩ = some (.string L[i].s)
theorem block_of_cell {w : World} {a : Addr} {v : Value} (h : w.cell? a = some v) : a.block < w.heap.size := World.block_lt_of_cell? _ _ h
theorem ValsAt.bel {w x : World} {p : Option Addr} {L : List KV} (h : ValsAt w p L) (hb : Bel w x) : ValsAt x p L := by
  intro i hi
  obtain ⟨a, B, O, sp, h1, h2, c0, c1, c2⟩ := h i hi
  exact ⟨a, B, O, sp, h1, h2, (Below.cell hb (block_of_cell c0)).trans c0, (Below.cell hb (block_of_cell c1)).trans c1, (Below.cell hb (block_of_cell c2)).trans c2⟩
def allV (L : List KV) : Prop := ∀ v ∈ L, v.in64 ∧ v.s.size ≤ maxLen

theorem ownG_vals {B : Nat} {w : World} {v : Value} {L : List KV} (h : OwnG valEl B w v L) : ∃ p cap, v = .slice p L.length cap ∧ ValsAt w p L := by
  by_cases hL : L = []
  · subst hL
    obtain ⟨p, cap, hv⟩ := ownG_len h
    exact ⟨p, cap, hv, fun i hi => by simp at hi⟩
  · obtain ⟨g, cap, hv, _, _, _, hc⟩ := ownG_cells valOk h hL
    refine ⟨_, cap, hv, fun i hi => ⟨_, g, i * 3, none, rfl, ?_, ?_, ?_, ?_⟩⟩
    · by_cases h0 : i * 3 = 0
      · rw [h0]; rfl
      · simp [Addr.add, h0]
    · exact hc i L[i] (List.getElem?_eq_getElem hi) 0 _ rfl
    · exact hc i L[i] (List.getElem?_eq_getElem hi) 1 _ rfl
    · exact hc i L[i] (List.getElem?_eq_getElem hi) 2 _ rfl
/-- Are there not too many, and none too long? -/
def smallB (L : List KV) : Bool := decide (L.length ≤ 40) && L.all fun v => decide (v.s.size ≤ 2000)
theorem small_many {L : List KV} (h : ¬ L.length ≤ 40) : smallB L = false := by unfold smallB; rw [decide_eq_false h]; rfl
theorem small_long {L : List KV} (k : Nat) (h : k < L.length) (hs : ¬ L[k].s.size ≤ 2000) : smallB L = false := by
  unfold smallB
  rw [Bool.and_eq_false_iff]
  right
  rw [List.all_eq_false]
  exact ⟨L[k], List.getElem_mem h, by simpa using hs⟩
theorem small_yes {L : List KV} (h : L.length ≤ 40) (hs : ∀ i (hi : i < L.length), L[i].s.size ≤ 2000) : smallB L = true := by
  unfold smallB
  rw [decide_eq_true h, Bool.true_and, List.all_eq_true]
  intro v hv
  obtain ⟨i, hi, rfl⟩ := List.getElem_of_mem hv
  exact decide_eq_true (hs i hi)
theorem small_of {L : List KV} (h : smallB L = true) : L.length ≤ 40 ∧ ∀ v ∈ L, v.s.size ≤ 2000 := by
  unfold smallB at h
  rw [Bool.and_eq_true, List.all_eq_true] at h
  exact ⟨of_decide_eq_true h.1, fun v hv => of_decide_eq_true (h.2 v hv)⟩
def SmallRel (L : List KV) (i : Value) : Prop := ∃ k : Nat, k ≤ L.length ∧ i = .int .i64 k ∧ ∀ j (hj : j < L.length), j < k → L[j].s.size ≤ 2000

set_option maxHeartbeats 2000000 in
theorem small_any (p : Option Addr) (cap : Nat) (L : List KV) (w : World) (h : ValsAt w p L) (hL : L.length ≤ maxLen) :
    Calls Tryd.prog 10 #[.slice p L.length cap] w fun e w' => e = .returned (.bool (smallB L)) ∧ w' = w := by
  have H := Lib.hid h; clear h
  unfold maxLen at hL
  go_enter Tryd.func10, Tryd.ntmps10
  by_cases hm : L.length ≤ 40
  · go_wp2_with (fail)
    go_loopw [3] (fun i x => SmallRel L i ∧ x = w) (fun i _ => L.length - (intOf i).toNat)
    case atStart => exact ⟨⟨0, Nat.zero_le _, rfl, fun _ _ h => by omega⟩, rfl⟩
    case round =>
      obtain ⟨⟨k, hk, rfl, hj⟩, rfl⟩ := hrel
      have HJ := Lib.hid hj; clear hj
      by_cases hlt : k < L.length
      · obtain ⟨a, B, O, sp, rfl, ha, c0, c1, c2⟩ := H.out k hlt
        by_cases hs : L[k].s.size ≤ 2000
        · have hs' : ((L[k].s.size : Nat) : Int) ≤ 2000 := by omega
          have HN := Lib.hid (show ∀ j (hj : j < L.length), j < k + 1 → L[j].s.size ≤ 2000 by
            intro j hj hjk
            by_cases e : j = k
            · subst e; exact hs
            · exact HJ.out j hj (by omega))
          go_wp2_with (fail)
          go_roundw
          case rel => exact ⟨⟨k + 1, hlt, by go_num, HN.out⟩, by trivial⟩
          case measure => simp [intOf]; omega
        · have HR := Lib.hid (small_long k hlt hs)
          have hs' : ¬ ((L[k].s.size : Nat) : Int) ≤ 2000 := by omega
          go_wp2_with (fail)
          go_ret
          exact ⟨ret_bool HR.out.symm, rfl⟩
      · have HR := Lib.hid (small_yes hm fun i hi => HJ.out i hi (by omega))
        go_wp2_with (fail)
        go_ret
        exact ⟨ret_bool HR.out.symm, rfl⟩
  · have HR := Lib.hid (small_many hm)
    have hm' : ¬ ((L.length : Nat) : Int) ≤ 40 := by omega
    go_wp2_with (fail)
    go_ret
    exact ⟨ret_bool HR.out.symm, rfl⟩

set_option maxHeartbeats 2000000 in
theorem same_any (p q : Option Addr) (cap cap' : Nat) (L : List KV) (w : World) (h : ValsAt w p L) (h' : ValsAt w q L) (hL : L.length ≤ 1000) :
    Calls Tryd.prog 19 #[.slice p L.length cap, .slice q L.length cap'] w fun e w' => e = .returned (.bool true) ∧ Drw w w' := by
  have H := Lib.hid h; clear h
  have H' := Lib.hid h'; clear h'
  go_enter Tryd.func19, Tryd.ntmps19
  go_wp2_with (fail)
  go_loopw [5] (fun i x => (∃ k : Nat, k ≤ L.length ∧ i = .int .i64 k) ∧ Drw w x) (fun i _ => L.length - (intOf i).toNat)
  case atStart => exact ⟨⟨0, Nat.zero_le _, rfl⟩, Drw.refl w⟩
  case round =>
    obtain ⟨⟨k, hk, rfl⟩, hw⟩ := hrel
    have HW := Lib.hid hw; clear hw
    by_cases hlt : k < L.length
    · obtain ⟨a, B, O, sp, rfl, ha, c0, c1, c2⟩ := (H.out.bel HW.out.bel) k hlt
      obtain ⟨a', B', O', sp', rfl, ha', c0', c1', c2'⟩ := (H'.out.bel HW.out.bel) k hlt
      go_wp2_with (fail)
      go_quiet (fail)
      go_wp2_with (fail)
      go_roundw
      case rel => exact ⟨⟨k + 1, hlt, by go_num⟩, HW.out.drewN _⟩
      case measure => simp [intOf]; omega
    · go_wp2_with (fail)
      go_ret
      exact ⟨rfl, HW.out⟩
end Go.Proofs.YtggmeggfibblhaaDoor
