/- The walk of LatticeKeeps. -/
import Derived.Test.YtdlbihkollicfaaLatW
import Derived.Test.YtdlbihkollicfaaCmp2
import Derived.Deep.RegionHeld3
set_option linter.unusedSimpArgs false
set_option linter.unusedVariables false
namespace Go.Proofs.Ytdlbihkollicfaa
open Go.RowKit

theorem cmpV_kind (k q n : Int) (s : List UInt8) (n' : Int) (s' : List UInt8) : cmpV q n s q n' s' = cmpV k n s k n' s' := by
  simp [cmpV, cmpI]

theorem four_next {w x y : World} {A B C D : Nat} {k n : Int} {s : ByteArray} {k' n' : Int} {s' : ByteArray} {q m : Int} {t : ByteArray} {q' m' : Int} {t' : ByteArray} (hb : Bel x y)
    (h : x.cell? ⟨A, 0, none⟩ = some (.int .i64 k) ∧ x.cell? ⟨A, 1, none⟩ = some (.int .i64 n) ∧ x.cell? ⟨A, 2, none⟩ = some (.string s) ∧ x.cell? ⟨B, 0, none⟩ = some (.int .i64 k') ∧ x.cell? ⟨B, 1, none⟩ = some (.int .i64 n') ∧ x.cell? ⟨B, 2, none⟩ = some (.string s') ∧ x.cell? ⟨C, 0, none⟩ = some (.int .i64 q) ∧ x.cell? ⟨C, 1, none⟩ = some (.int .i64 m) ∧ x.cell? ⟨C, 2, none⟩ = some (.string t) ∧ x.cell? ⟨D, 0, none⟩ = some (.int .i64 q') ∧ x.cell? ⟨D, 1, none⟩ = some (.int .i64 m') ∧ x.cell? ⟨D, 2, none⟩ = some (.string t') ∧ Bel w x) :
    y.cell? ⟨A, 0, none⟩ = some (.int .i64 k) ∧ y.cell? ⟨A, 1, none⟩ = some (.int .i64 n) ∧ y.cell? ⟨A, 2, none⟩ = some (.string s) ∧ y.cell? ⟨B, 0, none⟩ = some (.int .i64 k') ∧ y.cell? ⟨B, 1, none⟩ = some (.int .i64 n') ∧ y.cell? ⟨B, 2, none⟩ = some (.string s') ∧ y.cell? ⟨C, 0, none⟩ = some (.int .i64 q) ∧ y.cell? ⟨C, 1, none⟩ = some (.int .i64 m) ∧ y.cell? ⟨C, 2, none⟩ = some (.string t) ∧ y.cell? ⟨D, 0, none⟩ = some (.int .i64 q') ∧ y.cell? ⟨D, 1, none⟩ = some (.int .i64 m') ∧ y.cell? ⟨D, 2, none⟩ = some (.string t') ∧ Bel w y := by
  obtain ⟨a0, a1, a2, b0, b1, b2, c0, c1, c2, d0, d1, d2, h⟩ := h
  exact ⟨cell_later hb a0, cell_later hb a1, cell_later hb a2, cell_later hb b0, cell_later hb b1, cell_later hb b2, cell_later hb c0, cell_later hb c1, cell_later hb c2, cell_later hb d0, cell_later hb d1, cell_later hb d2, h.trans hb⟩

theorem four_bel {w x : World} {A B C D : Nat} {k n : Int} {s : ByteArray} {k' n' : Int} {s' : ByteArray} {q m : Int} {t : ByteArray} {q' m' : Int} {t' : ByteArray}
    (h : x.cell? ⟨A, 0, none⟩ = some (.int .i64 k) ∧ x.cell? ⟨A, 1, none⟩ = some (.int .i64 n) ∧ x.cell? ⟨A, 2, none⟩ = some (.string s) ∧ x.cell? ⟨B, 0, none⟩ = some (.int .i64 k') ∧ x.cell? ⟨B, 1, none⟩ = some (.int .i64 n') ∧ x.cell? ⟨B, 2, none⟩ = some (.string s') ∧ x.cell? ⟨C, 0, none⟩ = some (.int .i64 q) ∧ x.cell? ⟨C, 1, none⟩ = some (.int .i64 m) ∧ x.cell? ⟨C, 2, none⟩ = some (.string t) ∧ x.cell? ⟨D, 0, none⟩ = some (.int .i64 q') ∧ x.cell? ⟨D, 1, none⟩ = some (.int .i64 m') ∧ x.cell? ⟨D, 2, none⟩ = some (.string t') ∧ Bel w x) : Bel w x :=
  h.2.2.2.2.2.2.2.2.2.2.2.2

set_option maxHeartbeats 8000000 in
theorem keeps_law (k n : Int) (s : ByteArray) (k' n' : Int) (s' : ByteArray) (q : Int) (w : World) (hs : s.size ≤ maxLen) (hs' : s'.size ≤ maxLen) :
    Calls Try.prog 8 #[.agg #[.int .i64 k, .int .i64 n, .string s], .agg #[.int .i64 k', .int .i64 n', .string s'], .int .i64 q] w fun e w' => e = .returned (.bool true) ∧ Bel w w' := by
  go_enter Try.func8, Try.ntmps8
  go_wp2_with (fail)
  refine (shown_any _).mono ?_
  rintro e w1 ⟨rfl, hb⟩
  obtain ⟨a0, a1, a2, _, _, _, za⟩ := ((VAt.new w k n s 30).bel ((Bel.refl _).alloc _)).bel hb
  obtain ⟨b0, b1, b2, _, _, _, zb⟩ := (VAt.new (w.alloc (.cells #[.int .i64 k, .int .i64 n, .string s] 30)) k' n' s' 30).bel hb
  rw [show (w.alloc (.cells #[.int .i64 k, .int .i64 n, .string s] 30)).heap.size = w.heap.size + 1 by simp] at b0 b1 b2 zb
  have HB1 := Lib.hid ((((Bel.refl w).alloc _).alloc _).trans hb); clear hb
  by_cases hl1 : 3000 < s.size
  · go_wp2_with (fail)
    go_ret
    exact ⟨rfl, HB1.out⟩
  by_cases hl2 : 3000 < s'.size
  · go_wp2_with (fail)
    go_ret
    exact ⟨rfl, HB1.out⟩
  by_cases hk : k = k'
  · subst hk
    go_wp2_with (fail)
    refine (widen_any k n s q _ hs).mono ?_
    rintro e w2 ⟨rfl, hb⟩
    replace a0 := cell_later hb a0
    replace a1 := cell_later hb a1
    replace a2 := cell_later hb a2
    replace za := Nat.lt_of_lt_of_le za hb.size
    replace b0 := cell_later hb b0
    replace b1 := cell_later hb b1
    replace b2 := cell_later hb b2
    replace zb := Nat.lt_of_lt_of_le zb hb.size
    have HB2 := Lib.hid (HB1.out.trans hb); clear hb
    by_cases hE : widE k n s.data.toList q = 0
    · rw [hE, takeV_ok]
      clear hE
      go_wp2_with (fail)
      refine (widen_any k n' s' q _ hs').mono ?_
      rintro e w3 ⟨rfl, hb⟩
      obtain ⟨c0, c1, c2, _, _, _, zc⟩ := (VAt.new w2 q n s 30).bel hb
      replace hb := ((Bel.refl _).alloc _).trans hb
      replace a0 := cell_later hb a0
      replace a1 := cell_later hb a1
      replace a2 := cell_later hb a2
      replace za := Nat.lt_of_lt_of_le za hb.size
      replace b0 := cell_later hb b0
      replace b1 := cell_later hb b1
      replace b2 := cell_later hb b2
      replace zb := Nat.lt_of_lt_of_le zb hb.size
      have HB3 := Lib.hid (HB2.out.trans hb); clear hb
      by_cases hF : widE k n' s'.data.toList q = 0
      · rw [hF, takeV_ok]
        clear hF
        go_wp2_with (fail)
        obtain ⟨d0, d1, d2, _, _, _, zd⟩ := VAt.new w3 q n' s' 30
        have hb := (Bel.refl w3).alloc (.cells #[.int .i64 q, .int .i64 n', .string s'] 30)
        replace a0 := cell_later hb a0
        replace a1 := cell_later hb a1
        replace a2 := cell_later hb a2
        replace b0 := cell_later hb b0
        replace b1 := cell_later hb b1
        replace b2 := cell_later hb b2
        replace c0 := cell_later hb c0
        replace c1 := cell_later hb c1
        replace c2 := cell_later hb c2
        have HX := HB3.out.trans hb
        obtain ⟨D, hD⟩ : ∃ D, w3.heap.size = D := ⟨_, rfl⟩
        obtain ⟨C, hC⟩ : ∃ C, w2.heap.size = C := ⟨_, rfl⟩
        obtain ⟨X, hX⟩ : ∃ X, w3.alloc (.cells #[.int .i64 q, .int .i64 n', .string s'] 30) = X := ⟨_, rfl⟩
        rw [hX] at a0 a1 a2 b0 b1 b2 c0 c1 c2 d0 d1 d2 HX ⊢
        rw [hC] at c0 c1 c2 ⊢
        rw [hD] at d0 d1 d2 ⊢
        clear hX hC hD hb za zb zc zd
        have hkd := HX.drew
        go_region_held3 (fun x => x.cell? ⟨w.heap.size, 0, none⟩ = some (.int .i64 k) ∧ x.cell? ⟨w.heap.size, 1, none⟩ = some (.int .i64 n) ∧ x.cell? ⟨w.heap.size, 2, none⟩ = some (.string s) ∧ x.cell? ⟨w.heap.size + 1, 0, none⟩ = some (.int .i64 k) ∧ x.cell? ⟨w.heap.size + 1, 1, none⟩ = some (.int .i64 n') ∧ x.cell? ⟨w.heap.size + 1, 2, none⟩ = some (.string s') ∧ x.cell? ⟨C, 0, none⟩ = some (.int .i64 q) ∧ x.cell? ⟨C, 1, none⟩ = some (.int .i64 n) ∧ x.cell? ⟨C, 2, none⟩ = some (.string s) ∧ x.cell? ⟨D, 0, none⟩ = some (.int .i64 q) ∧ x.cell? ⟨D, 1, none⟩ = some (.int .i64 n') ∧ x.cell? ⟨D, 2, none⟩ = some (.string s') ∧ Bel w x)
          (first | exact ⟨a0, a1, a2, b0, b1, b2, c0, c1, c2, d0, d1, d2, hkd⟩ | exact four_next hb (by assumption))
          (first
            | (go_at_call_of 25 (Value.agg #[.int .i64 q, .int .i64 n, .string s]); refine (ref_compare_any q n s q n' s' _ hs hs').mono ?_; rintro e w' ⟨rfl, hb⟩)
            | (go_at_call_of 25 (Value.agg #[.int .i64 k, .int .i64 n, .string s]); refine (ref_compare_any k n s k n' s' _ hs hs').mono ?_; rintro e w' ⟨rfl, hb⟩))
        have hend := four_bel (by assumption)
        go_wp2_with (fail)
        go_ret
        exact ⟨ret_bool (by rw [cmpV_kind k q]; simp), hend⟩
      · have hF' : (widE k n' s'.data.toList q != 0) = true := by simpa using hF
        rw [takeV_eq]
        clear hF
        go_wp2_with (fail)
        go_ret
        exact ⟨rfl, HB3.out.alloc _⟩
    · have hE' : (widE k n s.data.toList q != 0) = true := by simpa using hE
      rw [takeV_eq]
      clear hE
      go_wp2_with (fail)
      refine (widen_any k n' s' q _ hs').mono ?_
      rintro e w3 ⟨rfl, hb⟩
      have HB3 := Lib.hid ((HB2.out.alloc _).trans hb); clear hb
      rw [takeV_eq]
      go_wp2_with (fail)
      go_ret
      exact ⟨rfl, HB3.out.alloc _⟩
  · have hk' : (k != k') = true := by simpa using hk
    clear hk
    go_wp2_with (fail)
    go_ret
    exact ⟨rfl, HB1.out⟩
end Go.Proofs.Ytdlbihkollicfaa
