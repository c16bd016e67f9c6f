/- moultlaw6's made. -/
import Derived.Test.YthnhdiebkkfmgaaFSt
set_option linter.unusedSimpArgs false
set_option linter.unusedVariables false
namespace Go.Proofs.Ythnhdiebkkfmgaa
open Go.RowKit Go.Deep Go.Maps

theorem own_low {B B' : Nat} {w : World} {v : Value} {l : List UInt8} (h : Own B w v l) (hB : B' ≤ B) : Own B' w v l := by
  obtain ⟨h1, h2⟩ := h
  refine ⟨h1, ?_⟩
  rcases h2 with h2 | ⟨g, cap, cur, hv, hg, r⟩
  · exact Or.inl h2
  · exact Or.inr ⟨g, cap, cur, hv, Nat.le_trans hB hg, r⟩
theorem prog_low {n n' : Nat} {w : World} {b : Nat} {M : RS} {F : List Nat} (h : ProgAt n w b M F) (hn : n' ≤ n) : ProgAt n' w b M F := by
  refine ⟨?_, Nat.le_trans hn h.low, h.mem, fun k hk => ⟨Nat.le_trans hn (h.within k hk).1, (h.within k hk).2⟩⟩
  obtain ⟨mv, t, a1, a2, a3, a4⟩ := h.ex
  refine ⟨mv, t, a1, a2, a3, ?_⟩
  rcases a4 with a4 | ⟨mb, D, V, a5, a6, a7, a8⟩
  · exact Or.inl a4
  · exact Or.inr ⟨mb, D, V, a5, ⟨a6.own, Nat.le_trans hn a6.low, a6.size, a6.has, a6.at_, (fun y hy he => own_low (a6.val y hy he) hn), a6.apart⟩, a7, a8⟩
theorem made_snoc (M : RS) (L : List AV) (k : Nat) (h : k < L.length) : (L.take (k + 1)).foldl (fun M a => (doS a M).2) M = (doS L[k] ((L.take k).foldl (fun M a => (doS a M).2) M)).2 := by
  rw [List.take_add_one, List.getElem?_eq_getElem h, List.foldl_append]
  rfl
theorem small_len {L : List AV} (h : smallB L = true) : L.length ≤ 150 := by
  unfold smallB at h; simp at h; exact h.1
theorem small_get {L : List AV} (h : smallB L = true) {k : Nat} (hk : k < L.length) : AV.small L[k] = true := by
  unfold smallB at h
  rw [Bool.and_eq_true, List.all_eq_true] at h
  exact h.2 _ (List.getElem_mem hk)
/-- The act at a place, in a world in which nothing that lay there has turned; does, done with it. -/
theorem act_at {w₀ x : World} {p : Option Addr} {L : List AV} (h : ActsAt w₀ p L) (hb : Bel w₀ x) {k : Nat} (hk : k < L.length) : ∃ a B O sp, p = some a ∧ a.add (k * 7) = ⟨B, O, sp⟩ ∧
    x.cell? ⟨B, O, sp⟩ = some (.int .i64 L[k].op) ∧ x.cell? ⟨B, O + 1, none⟩ = some (.int .i64 L[k].n) ∧ x.cell? ⟨B, O + 2, none⟩ = some (.string L[k].name) ∧ x.cell? ⟨B, O + 3, none⟩ = some (.string L[k].to) ∧
    x.cell? ⟨B, O + 4, none⟩ = some (.string L[k].data) ∧ x.cell? ⟨B, O + 5, none⟩ = some (.slice L[k].left.p L[k].left.L.length L[k].left.cap) ∧ x.cell? ⟨B, O + 6, none⟩ = some (.slice L[k].spoil.p L[k].spoil.L.length L[k].spoil.cap) := by
  obtain ⟨B, O, sp, hp, c0, c1, c2, c3, c4, c5, c6, hok⟩ := act_cells (h.bel hb) hk
  cases p with
  | none => cases hp
  | some a => exact ⟨a, B, O, sp, rfl, by simpa using hp, c0, c1, c2, c3, c4, c5, c6⟩
theorem st_does' {w₀ x : World} {b : Nat} {M : RS} (h : St w₀ x b M) {p : Option Addr} {L : List AV} (hA : ActsAt w₀ p L) {k : Nat} (hk : k < L.length) (hs : AV.small L[k] = true) :
    Calls Try.prog 15 #[.pointer (some ⟨b, 0, none⟩), .agg #[.int .i64 L[k].op, .int .i64 L[k].n, .string L[k].name, .string L[k].to, .string L[k].data, .slice L[k].left.p L[k].left.L.length L[k].left.cap, .slice L[k].spoil.p L[k].spoil.L.length L[k].spoil.cap]] x fun e y =>
      e = .returned (.tuple #[.string ⟨(doS L[k] M).1.1.toArray⟩, .int .i64 (doS L[k] M).1.2]) ∧ St w₀ y b (doS L[k] M).2 := by
  obtain ⟨B, O, sp, hp, hc, ho⟩ := hA k hk
  exact st_does h L[k] ho hs (ints_low ho.left) (ints_low ho.spoil)
def MdRel (w₀ : World) (b : Nat) (room : Int) (L : List AV) (i : Value) (x : World) : Prop := ∃ k : Nat, i = .int .i64 k ∧ k ≤ L.length ∧ St w₀ x b (madeS room (L.take k))
set_option maxHeartbeats 4000000 in
theorem made_any (w₀ w : World) (hw : Bel w₀ w) (room : Int) (p : Option Addr) (cap : Nat) (L : List AV) (h : ActsAt w₀ p L) (hr : 0 ≤ room ∧ room ≤ 10000000) (hs : smallB L = true) :
    Calls Try.prog 18 #[.int .i64 room, .slice p L.length cap] w fun e w' => ∃ b, e = .returned (.tuple #[.pointer (some ⟨b, 0, none⟩), .bool true]) ∧ St w₀ w' b (madeS room L) := by
  have H := Lib.hid h; clear h
  have HS := Lib.hid hs
  have HW := Lib.hid hw
  have hl := small_len hs
  clear hs hw
  go_enter Try.func18, Try.ntmps18
  go_wp2_with (fail)
  refine (st_new room w hr).mono ?_
  rintro e w1 ⟨rfl, h1⟩
  obtain ⟨b, hb⟩ : ∃ b, b = w.heap.size := ⟨_, rfl⟩
  rw [← hb] at h1 ⊢
  have HB := Lib.hid hb
  clear hb
  have H1 := Lib.hid (show St w₀ w1 b (newS room) by
    obtain ⟨⟨F, q1⟩, q2, q3⟩ := h1
    exact ⟨⟨F, prog_low q1 HW.out.size⟩, HW.out.trans q2, q3⟩)
  clear h1
  go_wp2_with (fail)
  go_loopw [8] (fun i x => MdRel w₀ b room L i x) (fun i _ => L.length - (intOf i).toNat)
  case atStart => exact ⟨0, rfl, Nat.zero_le _, H1.out⟩
  case round =>
    obtain ⟨k, rfl, hk, hst⟩ := hrel
    have HT := Lib.hid hst; clear hst
    by_cases hlt : k < L.length
    · obtain ⟨a, B, O, sp, rfl, hp, c0, c1, c2, c3, c4, c5, c6⟩ := act_at H.out HT.out.low hlt
      have HC := Lib.hid (fun x (hx : St w₀ x b (madeS room (L.take k))) => st_does' hx H.out hlt (small_get HS.out hlt))
      have HE := Lib.hid (show madeS room (L.take (k + 1)) = (doS L[k] (madeS room (L.take k))).2 from made_snoc _ L k hlt)
      obtain ⟨y, hy⟩ : ∃ y, y = L[k] := ⟨_, rfl⟩
      rw [← hy] at c0 c1 c2 c3 c4 c5 c6 HC HE
      clear hy
      go_wp2_with (fail)
      refine (HC.out _ HT.out).mono ?_
      rintro e w2 ⟨rfl, h2⟩
      have H2 := Lib.hid h2; clear h2
      go_wp2_with (fail)
      go_roundw
      case rel => exact ⟨k + 1, by go_num, by omega, by rw [HE.out]; exact H2.out⟩
      case measure => simp [intOf]; omega
    · obtain rfl : k = L.length := by omega
      go_wp2_with (fail)
      go_ret2
      refine ⟨b, rfl, ?_⟩
      have := HT.out
      rwa [List.take_length] at this
end Go.Proofs.Ythnhdiebkkfmgaa
