/- Of acts and files: what serves where acts are done one by one. -/
import Derived.Test.YtedopiojidaeiaaFSt
set_option linter.unusedSimpArgs false
set_option linter.unusedVariables false
namespace Go.Proofs.Ytedopiojidaeiaa
open Go.RowKit Go.Deep Go.Maps

theorem own_low {B B' : Nat} {w : World} {v : Value} {l : List UInt8} (h : Own B w v l) (hB : B' ≤ B) : Own B' w v l := by
  obtain ⟨h1, h2⟩ := h
  refine ⟨h1, ?_⟩
  rcases h2 with h2 | ⟨g, cap, cur, hv, hg, r⟩
  · exact Or.inl h2
  · exact Or.inr ⟨g, cap, cur, hv, Nat.le_trans hB hg, r⟩
theorem prog_low {n n' : Nat} {w : World} {b : Nat} {M : RS} {F : List Nat} (h : ProgAt n w b M F) (hn : n' ≤ n) : ProgAt n' w b M F := by
  refine ⟨?_, Nat.le_trans hn h.low, h.mem, fun k hk => ⟨Nat.le_trans hn (h.within k hk).1, (h.within k hk).2⟩⟩
  obtain ⟨mv, t, a1, a2, a3, a4⟩ := h.ex
  refine ⟨mv, t, a1, a2, a3, ?_⟩
  rcases a4 with a4 | ⟨mb, D, V, a5, a6, a7, a8⟩
  · exact Or.inl a4
  · exact Or.inr ⟨mb, D, V, a5, ⟨a6.own, Nat.le_trans hn a6.low, a6.size, a6.has, a6.at_, (fun y hy he => own_low (a6.val y hy he) hn), a6.apart⟩, a7, a8⟩
theorem made_snoc (M : RS) (L : List AV) (k : Nat) (h : k < L.length) : (L.take (k + 1)).foldl (fun M a => (doS a M).2) M = (doS L[k] ((L.take k).foldl (fun M a => (doS a M).2) M)).2 := by
  rw [List.take_add_one, List.getElem?_eq_getElem h, List.foldl_append]
  rfl
theorem small_len {L : List AV} (h : smallB L = true) : L.length ≤ 150 := by
  unfold smallB at h; simp at h; exact h.1
theorem small_get {L : List AV} (h : smallB L = true) {k : Nat} (hk : k < L.length) : AV.small L[k] = true := by
  unfold smallB at h
  rw [Bool.and_eq_true, List.all_eq_true] at h
  exact h.2 _ (List.getElem_mem hk)
/-- The act at a place, in a world in which nothing that lay there has turned; does, done with it. -/
theorem act_at {w₀ x : World} {p : Option Addr} {L : List AV} (h : ActsAt w₀ p L) (hb : Bel w₀ x) {k : Nat} (hk : k < L.length) : ∃ a B O sp, p = some a ∧ a.add (k * 7) = ⟨B, O, sp⟩ ∧
    x.cell? ⟨B, O, sp⟩ = some (.int .i64 L[k].op) ∧ x.cell? ⟨B, O + 1, none⟩ = some (.int .i64 L[k].n) ∧ x.cell? ⟨B, O + 2, none⟩ = some (.string L[k].name) ∧ x.cell? ⟨B, O + 3, none⟩ = some (.string L[k].to) ∧
    x.cell? ⟨B, O + 4, none⟩ = some (.string L[k].data) ∧ x.cell? ⟨B, O + 5, none⟩ = some (.slice L[k].left.p L[k].left.L.length L[k].left.cap) ∧ x.cell? ⟨B, O + 6, none⟩ = some (.slice L[k].spoil.p L[k].spoil.L.length L[k].spoil.cap) := by
  obtain ⟨B, O, sp, hp, c0, c1, c2, c3, c4, c5, c6, hok⟩ := act_cells (h.bel hb) hk
  cases p with
  | none => cases hp
  | some a => exact ⟨a, B, O, sp, rfl, by simpa using hp, c0, c1, c2, c3, c4, c5, c6⟩
theorem st_does' {w₀ x : World} {b : Nat} {M : RS} (h : St w₀ x b M) {p : Option Addr} {L : List AV} (hA : ActsAt w₀ p L) {k : Nat} (hk : k < L.length) (hs : AV.small L[k] = true) :
    Calls Try.prog 11 #[.pointer (some ⟨b, 0, none⟩), .agg #[.int .i64 L[k].op, .int .i64 L[k].n, .string L[k].name, .string L[k].to, .string L[k].data, .slice L[k].left.p L[k].left.L.length L[k].left.cap, .slice L[k].spoil.p L[k].spoil.L.length L[k].spoil.cap]] x fun e y =>
      e = .returned (.tuple #[.string ⟨(doS L[k] M).1.1.toArray⟩, .int .i64 (doS L[k] M).1.2]) ∧ St w₀ y b (doS L[k] M).2 := by
  obtain ⟨B, O, sp, hp, hc, ho⟩ := hA k hk
  exact st_does h L[k] ho hs (ints_low ho.left) (ints_low ho.spoil)
end Go.Proofs.Ytedopiojidaeiaa
