/- Small words for chapter 9's rows: a slice of texts that came in. -/
import Derived.Test.YtaabaphpllnieaaIMake
import Derived.Test.YtaabaphpllnieaaWrapP
import Derived.ChangeSlices
import Derived.Deep.Strs
import Derived.Deep.Slices
set_option linter.unusedSimpArgs false
set_option linter.unusedVariables false
namespace Go.Proofs.Ytaabaphpllnieaa
open Go.ChangeShapes Go.WideShapes Go.ChangeAt Go.RowKit Go.Joins Go.Deep

theorem cellsStr : Try.prog.cellsOf 9 = 1 := by kernel_rfl
theorem range_map {α : Type} (f g : Nat → α) (n : Nat) (h : ∀ i, i < n → f i = g i) : (List.range n).map f = (List.range n).map g :=
  List.map_congr_left fun i hi => h i (List.mem_range.1 hi)
/-- A slice of texts that came in: what it holds, and that it reads so again behind a call that turns nothing. -/
theorem open_list {H : Type} {enc : TypeId × Value → H} {W : World} {a0 : Option Addr} {len cap : Nat} {d : DataW H} {ps : List MemPlace}
    (h : DataW.Trod enc Try.prog W 0 (fun _ => true) true 29 (.slice a0 len cap) d ps) :
    ∃ L : List (List UInt8), len = L.length ∧ L.length ≤ maxLen ∧ (StrsAt W a0 L ∧ L.length ≤ cap ∧ strSmall maxLen L) ∧
      ∀ W', Bel W W' → ∃ qs, DataW.Trod enc Try.prog W' 0 (fun b => decide (b < W.heap.size)) true 29 (.slice a0 len cap) d qs := by
  obtain ⟨fuel, hf⟩ := h
  rcases open_strs Try.underlying29 Try.underlying9 cellsStr hf with ⟨hcs, hx⟩ | ⟨a, len', cap', m, Sx, hcs, _, hl, hm, hmm, hx, hcell⟩
  · simp [Value.cells] at hcs
    obtain ⟨rfl, rfl, rfl⟩ := hcs
    simp only [Prod.mk.injEq] at hx
    obtain ⟨rfl, rfl⟩ := hx
    exact ⟨[], rfl, by simp, ⟨fun i hi => (by simp at hi), by simp, fun i hi => (by simp at hi)⟩, fun W' _ => ⟨_, shut_slice_nil Try.underlying29⟩⟩
  · simp [Value.cells] at hcs
    obtain ⟨rfl, rfl, rfl⟩ := hcs
    simp only [Prod.mk.injEq] at hx
    obtain ⟨rfl, rfl⟩ := hx
    simp only [if_true] at hmm
    subst hmm
    refine ⟨(List.range len).map (fun i => (Sx i).data.toList), by simp, by simp; omega, ⟨?_, by simp; exact hl, fun i hi => ?_⟩, ?_⟩
    · intro i hi
      have hi' : i < len := by simpa using hi
      refine ⟨a, rfl, ?_⟩
      rw [(hcell i (by omega)).1]
      simp
    · have hi' : i < len := by simpa using hi
      have := (hcell i (by omega)).2
      simp only [List.getElem_map, List.getElem_range]
      exact this
    · intro W' hb
      have cells : ∀ i, i < m → ∃ cs n, W'.cells? 0 (a.add (i * Try.prog.cellsOf 9)) (Try.prog.cellsOf 9) = some cs ∧
          DataW.trod enc Try.prog W' 0 (fun b => decide (b < W.heap.size)) true n 9 cs = some (.lit (.string (Sx i).data.toList), []) := by
        intro i hi
        obtain ⟨h1, h2⟩ := hcell i hi
        have h3 : W'.cell? (a.add i) = some (.string (Sx i)) := (Below.cell hb (block_lt_of_cell h1)).trans h1
        refine ⟨[.string (Sx i)], 1, ?_, by simp [DataW.trod, Try.underlying9, h2]⟩
        rw [cellsStr, Nat.mul_one]
        exact cells?_one (Nat.zero_le _) h3
      by_cases h0 : a.block < W.heap.size
      · obtain ⟨n, hn⟩ := shut_slice_whole_cells (enc := enc) (w := W') (held := true) (base := 0) (spare := fun b => decide (b < W.heap.size)) (a := a) (len := len) (cap := m) Try.underlying29 (Nat.zero_le _) hl hm (by simpa using h0)
          (fun i => .lit (.string (Sx i).data.toList)) (fun _ => []) cells
        exact ⟨_, n, hn⟩
      · have hm0 : m = 0 := by
          rcases Nat.eq_zero_or_pos m with h | h
          · exact h
          · have := block_lt_of_cell (hcell 0 h).1
            rw [add_block] at this
            exact absurd this h0
        subst hm0
        obtain rfl : len = 0 := by omega
        obtain ⟨n, hn⟩ := shut_slice_cells (enc := enc) (w := W') (held := true) (base := 0) (spare := fun b => decide (b < W.heap.size)) (a := a) (len := 0) (cap := 0) Try.underlying29 (Nat.zero_le _) hl hm (by simpa using h0)
          (fun i => .lit (.string (Sx i).data.toList)) (fun _ => []) (fun i hi => by omega)
        exact ⟨_, n, hn⟩

end Go.Proofs.Ytaabaphpllnieaa
