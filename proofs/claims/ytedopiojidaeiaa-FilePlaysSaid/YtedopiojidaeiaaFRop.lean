/- moultref6's Flush, Cut, Drop, Move, Add against the same operations as the program's. -/
import Derived.Test.YtedopiojidaeiaaFOut
import Derived.Test.YtedopiojidaeiaaFWf
set_option linter.unusedSimpArgs false
set_option linter.unusedVariables false
namespace Go.Proofs.Ytedopiojidaeiaa
open Go.RowKit Go.Deep Go.Maps

/-- The reference's files lie at block b, in the blocks F. -/
def RefP (n₀ : Nat) (w : World) (b : Nat) (M : RS) (F : List Nat) : Prop := ∃ v, RefAt n₀ w b M v ∧ b ∈ F ∧ (∀ k, v.ownBlock = some k → k ∈ F) ∧ ∀ k ∈ F, n₀ ≤ k ∧ k < w.heap.size
def RefTo (n₀ : Nat) (w x : World) (b : Nat) (M : RS) (F : List Nat) : Prop := ∃ G, RefP n₀ x b M G ∧ Keep F w x ∧ ∀ k ∈ G, k ∈ F ∨ w.heap.size ≤ k
def thereG (nm : List UInt8) (M : RS) : FI × Int := if M.gone then (noFile, 7) else match getF nm M.L with
    | some y => (y, 0)
    | none => (noFile, 4)
theorem there_eq (nm : List UInt8) {M : RS} (hs : Srt M.L) : thereS nm M = thereG nm M := by
  unfold thereS thereG
  cases hI : isN nm M.L with
  | true =>
    have h1 := find_getF nm hs hI
    have h2 := is_getF nm hs
    rw [hI] at h2
    cases hy : getF nm M.L with
    | none => rw [hy] at h2; cases h2
    | some y => rw [h1, hy]; rfl
  | false =>
    have h2 := is_getF nm hs
    rw [hI] at h2
    cases hy : getF nm M.L with
    | some y => rw [hy] at h2; cases h2
    | none => rfl
section
variable {n₀ : Nat} {w x y : World} {b : Nat} {M M' : RS} {F : List Nat} {v v' : Value}
theorem ref_to (hb : b ∈ F) (hv : ∀ k, v.ownBlock = some k → k ∈ F) (hF : ∀ k ∈ F, n₀ ≤ k ∧ k < w.heap.size) (hn : n₀ ≤ w.heap.size) (h : RefAt n₀ x b M v') (hk : Keep F w x) (hv' : v' = v ∨ ∀ k, v'.ownBlock = some k → w.heap.size ≤ k ∧ k < x.heap.size) : RefTo n₀ w x b M F := by
  refine ⟨F ++ v'.ownBlock.toList, ⟨v', h, by simp [hb], fun k hk => by simp [hk], fun k hk' => ?_⟩, hk, fun k hk' => ?_⟩
  · rw [List.mem_append] at hk'
    rcases hk' with hk' | hk'
    · exact ⟨(hF k hk').1, Nat.lt_of_lt_of_le (hF k hk').2 hk.size⟩
    · have e : v'.ownBlock = some k := by simpa using hk'
      rcases hv' with rfl | hv'
      · have := hF k (hv k e)
        exact ⟨this.1, Nat.lt_of_lt_of_le this.2 hk.size⟩
      · exact ⟨Nat.le_trans hn (hv' k e).1, (hv' k e).2⟩
  · rw [List.mem_append] at hk'
    rcases hk' with hk' | hk'
    · exact Or.inl hk'
    · have e : v'.ownBlock = some k := by simpa using hk'
      rcases hv' with rfl | hv'
      · exact Or.inl (hv k e)
      · exact Or.inr (hv' k e).1
theorem own_lt (h : RefAt n₀ w b M v) : ∀ k, v.ownBlock = some k → n₀ ≤ k ∧ k < w.heap.size := h.own.lt
end
theorem one_in {b n : Nat} {F : List Nat} (hb : b ∈ F) : ∀ x ∈ [b], x ∈ F ∨ n ≤ x := fun x hx => by rw [List.mem_singleton] at hx; subst hx; exact Or.inl hb
theorem RefAt.far {n₀ : Nat} {w x : World} {b B i : Nat} {M M' : RS} {v : Value} (h : RefAt n₀ w b M v) (h2 : RefAt n₀ x b M' v) (hB : w.heap.size ≤ B) (u : Value) : RefAt n₀ (x.setCell ⟨B, i, none⟩ u) b M' v :=
  h2.keep (keep_set x B i u) (by have := h.lt; rw [List.mem_singleton]; omega) (fun k hk => by have := (own_lt h k hk).2; rw [List.mem_singleton]; omega)
theorem turn_zero {M : RS} (h : M.turns = 0) : turnS M = (7, { M with gone := true }) := by unfold turnS; rw [if_pos h]
theorem turn_one {M : RS} (h : ¬ M.turns = 0) : (turnS M).1 = 0 := by unfold turnS; rw [if_neg h]; split <;> rfl

set_option maxHeartbeats 4000000 in
set_option maxRecDepth 20000 in
theorem rflush_any (n₀ : Nat) (w : World) (b : Nat) (M : RS) (F : List Nat) (s : ByteArray) (h : RefP n₀ w b M F) (hM : M.ok) :
    Calls Try.prog 31 #[.pointer (some ⟨b, 0, none⟩), .string s] w fun e w' => e = .returned (.int .i64 (flushS s.data.toList M).1) ∧ RefTo n₀ w w' b (flushS s.data.toList M).2 F := by
  obtain ⟨v, h, hb, hv, hF⟩ := h
  have HR := Lib.hid h
  have HM := Lib.hid hM
  have hn : n₀ ≤ w.heap.size := Nat.le_of_lt (Nat.lt_of_le_of_lt h.low h.lt)
  have HTo := Lib.hid (fun x M' v' => ref_to (x := x) (M := M') (v' := v') hb hv hF hn)
  have hbF := Lib.hid hb
  clear h hM hb hv hF
  go_enter Try.func31, Try.ntmps31
  go_wp2_with (fail)
  refine (there_any n₀ _ b M v s HR.out (by have := HM.out.len; omega)).mono ?_
  rintro e w1 ⟨rfl, hb1⟩
  have HB := Lib.hid hb1
  clear hb1
  rw [there_eq _ HM.out.srt]
  unfold fileW
  cases hg : M.gone with
  | true =>
    have HA := Lib.hid (show flushS s.data.toList M = (7, M) by unfold flushS onS; rw [if_pos hg])
    have HT := Lib.hid (show thereG s.data.toList M = (noFile, 7) by unfold thereG; rw [if_pos hg])
    clear hg
    rw [HT.out]
    unfold noFile
    go_wp2_with (fail)
    go_ret
    rw [HA.out]
    exact ⟨rfl, HTo.out _ _ _ (HR.out.bel (HB.out.alloc _)) (Keep.of_bel (HB.out.alloc _) F) (Or.inl rfl)⟩
  | false =>
    cases hy : getF s.data.toList M.L with
    | none =>
      have HA := Lib.hid (show flushS s.data.toList M = (4, M) by unfold flushS onS; rw [if_neg (by rw [hg]; simp), hy])
      have HT := Lib.hid (show thereG s.data.toList M = (noFile, 4) by unfold thereG; rw [if_neg (by rw [hg]; simp), hy])
      clear hg hy
      rw [HT.out]
      unfold noFile
      go_wp2_with (fail)
      go_ret
      rw [HA.out]
      exact ⟨rfl, HTo.out _ _ _ (HR.out.bel (HB.out.alloc _)) (Keep.of_bel (HB.out.alloc _) F) (Or.inl rfl)⟩
    | some y =>
      have HA := Lib.hid (show flushS s.data.toList M = chgS M (insS { y with safe := y.bytes.length } M.L) by unfold flushS onS; rw [if_neg (by rw [hg]; simp), hy])
      have HT := Lib.hid (show thereG s.data.toList M = (y, 0) by unfold thereG; rw [if_neg (by rw [hg]; simp), hy])
      clear hg hy
      rw [HT.out]
      go_wp2_with (fail)
      refine (turn_any n₀ _ b M v (HR.out.bel (HB.out.alloc _)) HM.out.turns).mono ?_
      rintro e w2 ⟨rfl, h2, hk2⟩
      by_cases ht : M.turns = 0
      · have HC := Lib.hid (show flushS s.data.toList M = (7, (turnS M).2) by rw [HA.out]; unfold chgS; rw [if_pos ht])
        have HT1 := Lib.hid (show (turnS M).1 = 7 by rw [turn_zero ht])
        rw [HT1.out]
        have H2 := Lib.hid h2
        have HK2 := Lib.hid hk2
        clear h2 hk2 ht
        go_wp2_with (fail)
        go_ret
        rw [HC.out]
        exact ⟨rfl, HTo.out _ _ _ H2.out ((Keep.of_bel (HB.out.alloc _) F).trans HK2.out (fun x hx => by rw [List.mem_singleton] at hx; subst hx; exact Or.inl hbF.out)) (Or.inl rfl)⟩
      · have HC := Lib.hid (show flushS s.data.toList M = (0, { (turnS M).2 with L := insS { y with safe := y.bytes.length } M.L }) by rw [HA.out]; unfold chgS; rw [if_neg ht])
        have HT1 := Lib.hid (turn_one ht)
        rw [HT1.out]
        have H2 := Lib.hid h2
        have HK2 := Lib.hid hk2
        clear h2 hk2 ht
        have hbw := HR.out.lt
        have hw1 := HB.out.size
        have hnb : w1.heap.size ∉ [b] := by rw [List.mem_singleton]; omega
        have p0 : w2.cell? ⟨w1.heap.size, 0, none⟩ = some (.string ⟨y.name.toArray⟩) := HK2.out.cell (by go_simp) hnb
        have p1 : w2.cell? ⟨w1.heap.size, 1, none⟩ = some (.string ⟨y.bytes.toArray⟩) := HK2.out.cell (by go_simp) hnb
        have p2 : w2.cell? ⟨w1.heap.size, 2, none⟩ = some (.int .i64 y.safe) := HK2.out.cell (by go_simp) hnb
        have pf : ∀ i, w2.frozen? ⟨w1.heap.size, i, none⟩ = false := fun i => (HK2.out.frozen (by simp) hnb).trans (by simp)
        have hys : (⟨y.bytes.toArray⟩ : ByteArray).size = y.bytes.length := by show y.bytes.toArray.size = _; simp
        go_wp2_with (fail)
        refine (put_any n₀ _ b (turnS M).2 v (HR.out.far H2.out hw1 _) { y with safe := y.bytes.length } (by rw [turn_L]; have := HM.out.len; omega) (by have := HK2.out.size; simp at this ⊢; omega)).mono ?_
        rintro e w3 ⟨⟨u, rfl⟩, v', h4, hv4, hk4⟩
        rw [turn_L] at h4
        have H4 := Lib.hid h4
        have HV4 := Lib.hid hv4
        have HK4 := Lib.hid hk4
        clear h4 hv4 hk4
        go_wp2_with (fail)
        go_ret
        rw [HC.out]
        have K2 := ((Keep.of_bel (HB.out.alloc _) F).trans HK2.out (one_in hbF.out)).setCell (p := ⟨w1.heap.size, 2, none⟩) (Or.inr hw1) (.int .i64 y.bytes.length)
        exact ⟨rfl, HTo.out _ _ _ H4.out (K2.trans HK4.out (one_in hbF.out)) (Or.inr fun k hk => ⟨Nat.le_trans K2.size (HV4.out k hk), (own_lt H4.out k hk).2⟩)⟩
end Go.Proofs.Ytedopiojidaeiaa
