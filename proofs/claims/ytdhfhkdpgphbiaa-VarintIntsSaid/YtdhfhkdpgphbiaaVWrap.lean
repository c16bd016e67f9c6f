/- Small words for chapter 3's rows: a slice of ints that came in, and the laws at whole numbers. -/
import Derived.Test.YtdhfhkdpgphbiaaVInts3
import Derived.Test.YtdhfhkdpgphbiaaVLaws2
import Derived.Test.YtdhfhkdpgphbiaaWrapP
import Derived.ChangeSlices
set_option linter.unusedSimpArgs false
set_option linter.unusedVariables false
namespace Go.Proofs.Ytdhfhkdpgphbiaa
open Go.ChangeShapes Go.WideShapes Go.ChangeAt Go.RowKit Go.Joins

theorem cellsInt : Try.prog.cellsOf 3 = 1 := by kernel_rfl
theorem wf_bounds {n : Int} (h : (Lit.int .i64 n).wf = true) : -9223372036854775808 ≤ n ∧ n ≤ 9223372036854775807 := by
  have e1 : IntKind.i64.min = -9223372036854775808 := rfl
  have e2 : IntKind.i64.max = 9223372036854775807 := rfl
  simp [Lit.wf, e1, e2] at h
  exact h
/-- A slice of ints that came in: what it holds, and that it reads so again behind a call that turns nothing. -/
theorem open_list {H : Type} {enc : TypeId × Value → H} {W : World} {a0 : Option Addr} {len cap : Nat} {d : DataW H} {ps : List MemPlace}
    (h : DataW.Trod enc Try.prog W 0 (fun _ => true) true 35 (.slice a0 len cap) d ps) :
    ∃ L : List Int, len = L.length ∧ L.length ≤ maxLen ∧ IntsAt W a0 L ∧ allIn L ∧
      ∀ W', Bel W W' → ∃ qs, DataW.Trod enc Try.prog W' 0 (fun b => decide (b < W.heap.size)) true 35 (.slice a0 len cap) d qs := by
  obtain ⟨fuel, hf⟩ := h
  rcases open_ints Try.underlying35 Try.underlying3 cellsInt hf with ⟨hcs, hx⟩ | ⟨a, len', cap', zs, hcs, _, hl, hm, hz, hx, hcell, hwz⟩
  · simp [Value.cells] at hcs
    obtain ⟨rfl, rfl, rfl⟩ := hcs
    simp only [Prod.mk.injEq] at hx
    obtain ⟨rfl, rfl⟩ := hx
    exact ⟨[], rfl, by simp, fun i hi => by simp at hi, fun n hn => by simp at hn, fun W' _ => ⟨_, shut_slice_nil Try.underlying35⟩⟩
  · simp [Value.cells] at hcs
    obtain ⟨rfl, rfl, rfl⟩ := hcs
    simp only [Prod.mk.injEq] at hx
    obtain ⟨rfl, rfl⟩ := hx
    simp only [if_true] at hz
    have hlen : (zs.take len).length = len := by rw [List.length_take]; omega
    refine ⟨zs.take len, hlen.symm, by omega, ?_, ?_, ?_⟩
    · intro i hi
      rw [hlen] at hi
      refine ⟨a, rfl, ?_⟩
      rw [hcell i (by omega)]
      simp [List.getD, show i < zs.length by omega]
    · intro n hn
      exact wf_bounds (hwz n (List.mem_of_mem_take hn))
    · intro W' hb
      refine ⟨_, 2, shut_ints 0 Try.underlying35 Try.underlying3 cellsInt (Nat.zero_le _) hl hm ?_ ?_ hwz⟩
      · by_cases h0 : zs.length = 0
        · split <;> omega
        · have := block_lt_of_cell (hcell 0 (by omega))
          rw [add_block] at this
          rw [if_pos (by simpa using this)]
          exact hz
      · intro i hi
        have hc := hcell i hi
        exact (Below.cell hb (block_lt_of_cell hc)).trans hc

theorem puts_row (u : Int) (w : World) (hu : 0 ≤ u ∧ u ≤ 18446744073709551615) : Calls Try.prog 3 #[.int .u64 u] w fun e w' => e = .returned (.bool true) ∧ Bel w w' := by
  obtain ⟨n, rfl⟩ : ∃ n : Nat, u = n := ⟨u.toNat, by omega⟩
  exact puts_any n w (by omega)
theorem back_row (u : Int) (s : ByteArray) (w : World) (hu : 0 ≤ u ∧ u ≤ 18446744073709551615) (hs : s.size ≤ maxLen) : Calls Try.prog 5 #[.int .u64 u, .string s] w fun e w' => e = .returned (.bool true) ∧ Bel w w' := by
  obtain ⟨n, rfl⟩ : ∃ n : Nat, u = n := ⟨u.toNat, by omega⟩
  exact back_any n s w (by omega) hs
theorem orders_row (u v : Int) (w : World) (hu : 0 ≤ u ∧ u ≤ 18446744073709551615) (hv : 0 ≤ v ∧ v ≤ 18446744073709551615) : Calls Try.prog 6 #[.int .u64 u, .int .u64 v] w fun e w' => e = .returned (.bool true) ∧ Bel w w' := by
  obtain ⟨n, rfl⟩ : ∃ n : Nat, u = n := ⟨u.toNat, by omega⟩
  obtain ⟨m, rfl⟩ : ∃ m : Nat, v = m := ⟨v.toNat, by omega⟩
  exact orders_any n m w (by omega) (by omega)
theorem folds_row (n u m : Int) (w : World) (hn : -9223372036854775808 ≤ n ∧ n ≤ 9223372036854775807) (hu : 0 ≤ u ∧ u ≤ 18446744073709551615) (hm : -9223372036854775808 ≤ m ∧ m ≤ 9223372036854775807) :
    Calls Try.prog 7 #[.int .i64 n, .int .u64 u, .int .i64 m] w fun e w' => e = .returned (.bool true) ∧ Bel w w' := by
  obtain ⟨k, rfl⟩ : ∃ k : Nat, u = k := ⟨u.toNat, by omega⟩
  exact folds_any n k m w hn (by omega) hm
end Go.Proofs.Ytdhfhkdpgphbiaa
