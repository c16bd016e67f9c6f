/- The walks of KeyPuts, KeyTakes and KeyAfter. -/
import Derived.Test.YtggmeggfibblhaaDoorKShown
import Derived.Test.YtggmeggfibblhaaDoorKUnt
import Derived.Test.YtggmeggfibblhaaDoorCmp2
set_option linter.unusedSimpArgs false
set_option linter.unusedVariables false
namespace Go.Proofs.YtggmeggfibblhaaDoor
open Go.RowKit Go.Deep

theorem putV_form (v : KV) : ∃ x e, putV v = .tuple #[.string x, .int .i64 e] := by unfold putV; split <;> exact ⟨_, _, rfl⟩
theorem tupV_form (L : List KV) : ∃ x e, tupV L = .tuple #[.string x, .int .i64 e] := by unfold tupV; split <;> exact ⟨_, _, rfl⟩
theorem takeV_form (o : Option (KV × List UInt8)) : ∃ k n t x e, takeV o = .tuple #[.agg #[.int .i64 k, .int .i64 n, .string t], .string x, .int .i64 e] := by
  cases o with
  | none => exact ⟨_, _, _, _, _, rfl⟩
  | some p => exact ⟨_, _, _, _, _, rfl⟩
theorem afterV_form (o : Option (List UInt8)) : ∃ x b, afterV o = .tuple #[.string x, .bool b] := by cases o <;> exact ⟨_, _, rfl⟩
theorem small_allV {L : List KV} (h : smallB L = true) (hi : ∀ v ∈ L, v.in64) : allV L := fun v hv => ⟨hi v hv, by have := (small_of h).2 v hv; unfold maxLen; omega⟩

set_option maxHeartbeats 4000000 in
theorem puts_law (k n : Int) (s : ByteArray) (p : Option Addr) (cap : Nat) (L : List KV) (w : World) (hs : s.size ≤ maxLen) (hn : -9223372036854775808 ≤ n ∧ n ≤ 9223372036854775807) (hv : ValsAt w p L) (hL : L.length ≤ maxLen) (hin : allV L) (hstd : Std w) :
    Calls Tryd.prog 3 #[.agg #[.int .i64 k, .int .i64 n, .string s], .slice p L.length cap] w fun e w' => e = .returned (.bool true) ∧ Bel w w' := by
  have HS := Lib.hid hstd; clear hstd
  have HV := Lib.hid hv; clear hv
  have HI := Lib.hid hin; clear hin
  obtain ⟨x1, e1, hf1⟩ := putV_form ⟨k, n, s⟩
  obtain ⟨x2, e2, hf2⟩ := tupV_form L
  have HF1 := Lib.hid hf1; clear hf1
  have HF2 := Lib.hid hf2; clear hf2
  go_enter Tryd.func3, Tryd.ntmps3
  go_wp2_with (fail)
  refine (shown_any _ (HS.out.bel ((Bel.refl w).alloc _))).mono ?_
  rintro e w1 ⟨rfl, hb⟩
  have c0 : w1.cell? ⟨w.heap.size, 0, none⟩ = some (.int .i64 k) := cell_later hb (by go_simp)
  have c1 : w1.cell? ⟨w.heap.size, 1, none⟩ = some (.int .i64 n) := cell_later hb (by go_simp)
  have c2 : w1.cell? ⟨w.heap.size, 2, none⟩ = some (.string s) := cell_later hb (by go_simp)
  have HB := Lib.hid (((Bel.refl w).alloc _).trans hb); clear hb
  go_wp2_with (fail)
  refine (small_any p cap L _ (HV.out.bel HB.out) hL).mono ?_
  rintro e w2 ⟨rfl, rfl⟩
  cases hsm : smallB L with
  | false =>
    go_wp2_with (fail)
    go_ret
    exact ⟨rfl, HB.out⟩
  | true =>
    by_cases hl : s.size ≤ 3000
    · have hl' : ((s.size : Nat) : Int) ≤ 3000 := by omega
      go_wp2_with (fail)
      refine (put_any ⟨k, n, s⟩ _ hs hn (HS.out.bel HB.out)).mono ?_
      rintro e w3 ⟨rfl, hb⟩
      rw [HF1.out]
      replace c0 : w3.cell? ⟨w.heap.size, 0, none⟩ = some (.int .i64 k) := cell_later hb c0
      replace c1 : w3.cell? ⟨w.heap.size, 1, none⟩ = some (.int .i64 n) := cell_later hb c1
      replace c2 : w3.cell? ⟨w.heap.size, 2, none⟩ = some (.string s) := cell_later hb c2
      replace HB := Lib.hid (HB.out.trans hb); clear hb
      go_wp2_with (fail)
      refine (rput_any ⟨k, n, s⟩ _ hs hn).mono ?_
      rintro e w4 ⟨rfl, hb⟩
      rw [HF1.out]
      replace HB := Lib.hid (HB.out.trans hb); clear hb
      go_wp2_with (fail)
      refine (tuple_any p cap L _ (HV.out.bel HB.out) hL HI.out (HS.out.bel HB.out)).mono ?_
      rintro e w5 ⟨rfl, hb⟩
      rw [HF2.out]
      replace HB := Lib.hid (HB.out.trans hb); clear hb
      go_wp2_with (fail)
      refine (rtuple_any p cap L _ (HV.out.bel HB.out) hL HI.out).mono ?_
      rintro e w6 ⟨rfl, hb⟩
      rw [HF2.out]
      replace HB := Lib.hid (HB.out.trans hb); clear hb
      go_wp2_with (fail)
      go_ret
      exact ⟨rfl, HB.out⟩
    · have hl' : ¬ ((s.size : Nat) : Int) ≤ 3000 := by omega
      go_wp2_with (fail)
      go_ret
      exact ⟨rfl, HB.out⟩

set_option maxHeartbeats 4000000 in
theorem takes_law (s : ByteArray) (w : World) (hs : s.size ≤ maxLen) (hstd : Std w) :
    Calls Tryd.prog 4 #[.string s] w fun e w' => e = .returned (.bool true) ∧ Bel w w' := by
  unfold maxLen at hs
  have HS := Lib.hid hstd; clear hstd
  obtain ⟨k, n, t, x1, e1, hf1⟩ := takeV_form (readL s.data.toList)
  have HF1 := Lib.hid hf1; clear hf1
  obtain ⟨o, ho⟩ : ∃ o, untL 20 s.data.toList = o := ⟨_, rfl⟩
  have hlen : (o.getD []).length ≤ 20 := by
    cases o with
    | none => simp
    | some M => exact unt_len _ _ _ ho
  have HO := Lib.hid ho; clear ho
  go_enter Tryd.func4, Tryd.ntmps4
  go_wp2_with (fail)
  refine (shown_any _ HS.out).mono ?_
  rintro e w1 ⟨rfl, hb⟩
  have HB := Lib.hid hb; clear hb
  by_cases hl : s.size ≤ 4000
  · have hl' : ((s.size : Nat) : Int) ≤ 4000 := by omega
    go_wp2_with (fail)
    refine (take_any s _ (by omega) (HS.out.bel HB.out)).mono ?_
    rintro e w2 ⟨rfl, hb⟩
    rw [HF1.out]
    replace HB := Lib.hid (HB.out.trans hb); clear hb
    go_wp2_with (fail)
    refine (rtake_any s _ (by omega)).mono ?_
    rintro e w3 ⟨rfl, hb⟩
    rw [HF1.out]
    have c0 : w3.cell? ⟨w2.heap.size, 0, none⟩ = some (.int .i64 k) := cell_later hb (by go_simp)
    have c1 : w3.cell? ⟨w2.heap.size, 1, none⟩ = some (.int .i64 n) := cell_later hb (by go_simp)
    have c2 : w3.cell? ⟨w2.heap.size, 2, none⟩ = some (.string t) := cell_later hb (by go_simp)
    have hlt2 : w2.heap.size < w3.heap.size := hb.past
    replace HB := Lib.hid ((HB.out.alloc _).trans hb); clear hb
    go_wp2_with (fail)
    refine (untuple_any s _ (by omega) (HS.out.bel (HB.out.alloc _))).mono ?_
    rintro e w4 ⟨v1, rfl, hown1, hb⟩
    rw [HO.out] at hown1 ⊢
    have d0 : w4.cell? ⟨w3.heap.size, 0, none⟩ = some (.int .i64 k) := cell_later hb (by go_simp)
    have d1 : w4.cell? ⟨w3.heap.size, 1, none⟩ = some (.int .i64 n) := cell_later hb (by go_simp)
    have d2 : w4.cell? ⟨w3.heap.size, 2, none⟩ = some (.string t) := cell_later hb (by go_simp)
    replace c0 : w4.cell? ⟨w2.heap.size, 0, none⟩ = some (.int .i64 k) := cell_later hb (by go_simp)
    replace c1 : w4.cell? ⟨w2.heap.size, 1, none⟩ = some (.int .i64 n) := cell_later hb (by go_simp)
    replace c2 : w4.cell? ⟨w2.heap.size, 2, none⟩ = some (.string t) := cell_later hb (by go_simp)
    replace HB := Lib.hid ((HB.out.alloc _).trans hb); clear hb hlt2
    have HW1 := Lib.hid hown1; clear hown1
    go_wp2_with (fail)
    refine (runtuple_any s _ (by omega)).mono ?_
    rintro e w5 ⟨v2, rfl, hown2, hb⟩
    rw [HO.out] at hown2 ⊢
    replace d0 : w5.cell? ⟨w3.heap.size, 0, none⟩ = some (.int .i64 k) := cell_later hb d0
    replace d1 : w5.cell? ⟨w3.heap.size, 1, none⟩ = some (.int .i64 n) := cell_later hb d1
    replace d2 : w5.cell? ⟨w3.heap.size, 2, none⟩ = some (.string t) := cell_later hb d2
    replace c0 : w5.cell? ⟨w2.heap.size, 0, none⟩ = some (.int .i64 k) := cell_later hb c0
    replace c1 : w5.cell? ⟨w2.heap.size, 1, none⟩ = some (.int .i64 n) := cell_later hb c1
    replace c2 : w5.cell? ⟨w2.heap.size, 2, none⟩ = some (.string t) := cell_later hb c2
    obtain ⟨p1, cap1, rfl, hva1⟩ := ownG_vals (HW1.out.bel hb)
    obtain ⟨p2, cap2, rfl, hva2⟩ := ownG_vals hown2
    replace HB := Lib.hid (HB.out.trans hb); clear hb hown2 HW1
    have HA1 := Lib.hid hva1; clear hva1
    have HA2 := Lib.hid hva2; clear hva2
    go_wp2_with (fail)
    refine (same_any p1 p2 cap1 cap2 (o.getD []) _ HA1.out HA2.out (by omega)).mono ?_
    rintro e w6 ⟨rfl, hw⟩
    replace HB := Lib.hid (HB.out.trans hw.bel); clear hw
    go_wp2_with (fail)
    go_ret
    exact ⟨rfl, HB.out⟩
  · have hl' : ¬ ((s.size : Nat) : Int) ≤ 4000 := by omega
    go_wp2_with (fail)
    go_ret
    exact ⟨rfl, HB.out⟩
end Go.Proofs.YtggmeggfibblhaaDoor
