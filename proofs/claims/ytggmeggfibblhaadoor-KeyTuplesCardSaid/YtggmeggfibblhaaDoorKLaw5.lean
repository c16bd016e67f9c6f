/- The walk of KeyTuples. -/
import Derived.Test.YtggmeggfibblhaaDoorKLaw3
import Derived.Test.YtggmeggfibblhaaDoorKCmpAt
import Derived.Deep.RegionHeld3
set_option linter.unusedSimpArgs false
set_option linter.unusedVariables false
namespace Go.Proofs.YtggmeggfibblhaaDoor
open Go.RowKit Go.Deep

def TupsRel (L M : List KV) (w : World) (wv i : Value) (x : World) : Prop := ∃ (k : Nat) (z : Int), k ≤ L.length ∧ k ≤ M.length ∧ i = .int .i64 k ∧ wv = .int .i64 z ∧ (z = 0 → tupC (L.drop k) (M.drop k) = tupC L M) ∧ (z ≠ 0 → tupC L M = z) ∧ Bel w x
theorem tupC_step {L M : List KV} (k : Nat) (h : k < L.length) (h' : k < M.length) : tupC (L.drop k) (M.drop k) = if cmpK L[k] M[k] = 0 then tupC (L.drop (k + 1)) (M.drop (k + 1)) else cmpK L[k] M[k] := by
  rw [List.drop_eq_getElem_cons h, List.drop_eq_getElem_cons h', tupC]
theorem tupC_left {L M : List KV} (k : Nat) (h : L.length ≤ k) (h' : k < M.length) : tupC (L.drop k) (M.drop k) = -1 := by
  rw [List.drop_of_length_le h, List.drop_eq_getElem_cons h', tupC]
theorem tupC_right {L M : List KV} (k : Nat) (h : k < L.length) (h' : M.length ≤ k) : tupC (L.drop k) (M.drop k) = 1 := by
  rw [List.drop_of_length_le h', List.drop_eq_getElem_cons h, tupC]
theorem tupC_both {L M : List KV} (k : Nat) (h : L.length ≤ k) (h' : M.length ≤ k) : tupC (L.drop k) (M.drop k) = 0 := by
  rw [List.drop_of_length_le h', List.drop_of_length_le h, tupC]
theorem heldT_next {w x y : World} {B B' O O' : Nat} {sp sp' : Option Nat} {a b c d e f : Value} (hb : Bel x y)
    (h : x.cell? ⟨B, O, sp⟩ = some a ∧ x.cell? ⟨B, O + 1, none⟩ = some b ∧ x.cell? ⟨B, O + 2, none⟩ = some c ∧ x.cell? ⟨B', O', sp'⟩ = some d ∧ x.cell? ⟨B', O' + 1, none⟩ = some e ∧ x.cell? ⟨B', O' + 2, none⟩ = some f ∧ Bel w x) :
    y.cell? ⟨B, O, sp⟩ = some a ∧ y.cell? ⟨B, O + 1, none⟩ = some b ∧ y.cell? ⟨B, O + 2, none⟩ = some c ∧ y.cell? ⟨B', O', sp'⟩ = some d ∧ y.cell? ⟨B', O' + 1, none⟩ = some e ∧ y.cell? ⟨B', O' + 2, none⟩ = some f ∧ Bel w y := by
  obtain ⟨h0, h1, h2, h3, h4, h5, h7⟩ := h
  exact ⟨cell_later hb h0, cell_later hb h1, cell_later hb h2, cell_later hb h3, cell_later hb h4, cell_later hb h5, h7.trans hb⟩
theorem heldT_bel {w x : World} {B B' O O' : Nat} {sp sp' : Option Nat} {a b c d e f : Value}
    (h : x.cell? ⟨B, O, sp⟩ = some a ∧ x.cell? ⟨B, O + 1, none⟩ = some b ∧ x.cell? ⟨B, O + 2, none⟩ = some c ∧ x.cell? ⟨B', O', sp'⟩ = some d ∧ x.cell? ⟨B', O' + 1, none⟩ = some e ∧ x.cell? ⟨B', O' + 2, none⟩ = some f ∧ Bel w x) : Bel w x := h.2.2.2.2.2.2

set_option maxHeartbeats 8000000 in
theorem tuples_law (p q : Option Addr) (cap cap' : Nat) (L M : List KV) (w : World) (hv : ValsAt w p L) (hL : L.length ≤ maxLen) (hin : allV L) (hv' : ValsAt w q M) (hM : M.length ≤ maxLen) (hin' : allV M) (hstd : Std w) :
    Calls Tryd.prog 7 #[.slice p L.length cap, .slice q M.length cap'] w fun e w' => e = .returned (.bool true) ∧ Bel w w' := by
  have HS := Lib.hid hstd; clear hstd
  have HV := Lib.hid hv; clear hv
  have HI := Lib.hid hin; clear hin
  have HV' := Lib.hid hv'; clear hv'
  have HI' := Lib.hid hin'; clear hin'
  go_enter Tryd.func7, Tryd.ntmps7
  go_wp2_with (fail)
  refine (shown_any _ HS.out).mono ?_
  rintro e w1 ⟨rfl, hb⟩
  have HB := Lib.hid hb; clear hb
  go_wp2_with (fail)
  refine (small_any p cap L _ (HV.out.bel HB.out) hL).mono ?_
  rintro e w2 ⟨rfl, rfl⟩
  go_wp2_with (fail)
  refine (small_any q cap' M _ (HV'.out.bel HB.out) hM).mono ?_
  rintro e w3 ⟨rfl, rfl⟩
  cases hsm : smallB L with
  | false =>
    go_wp2_with (fail)
    go_ret
    exact ⟨rfl, HB.out⟩
  | true =>
    cases hsm' : smallB M with
    | false =>
      go_wp2_with (fail)
      go_ret
      exact ⟨rfl, HB.out⟩
    | true =>
      go_wp2_with (fail)
      refine (tuple_any p cap L _ (HV.out.bel HB.out) hL HI.out (HS.out.bel HB.out)).mono ?_
      rintro e w4 ⟨rfl, hb⟩
      replace HB := Lib.hid (HB.out.trans hb); clear hb
      cases htb : tupB L with
      | false =>
        have HT := Lib.hid (show tupV L = .tuple #[.string ⟨#[]⟩, .int .i64 1] by unfold tupV; rw [htb]; rfl)
        obtain ⟨x2, e2, hf2⟩ := tupV_form M
        have HF2 := Lib.hid hf2; clear hf2
        rw [HT.out]
        go_wp2_with (fail)
        refine (tuple_any q cap' M _ (HV'.out.bel HB.out) hM HI'.out (HS.out.bel HB.out)).mono ?_
        rintro e w5 ⟨rfl, hb⟩
        replace HB := Lib.hid (HB.out.trans hb); clear hb
        rw [HF2.out]
        go_wp2_with (fail)
        go_ret
        exact ⟨rfl, HB.out⟩
      | true =>
        obtain ⟨hl20, hrr⟩ := tup_of htb
        have HT := Lib.hid (show tupV L = .tuple #[.string ⟨(catL L).toArray⟩, .int .i64 0] by unfold tupV; rw [if_pos htb])
        rw [HT.out]
        cases htb' : tupB M with
        | false =>
          have HT' := Lib.hid (show tupV M = .tuple #[.string ⟨#[]⟩, .int .i64 1] by unfold tupV; rw [htb']; rfl)
          clear htb hrr
          generalize catL L = E at *
          go_wp2_with (fail)
          refine (tuple_any q cap' M _ (HV'.out.bel HB.out) hM HI'.out (HS.out.bel HB.out)).mono ?_
          rintro e w5 ⟨rfl, hb⟩
          replace HB := Lib.hid (HB.out.trans hb); clear hb
          rw [HT'.out]
          go_wp2_with (fail)
          go_ret
          exact ⟨rfl, HB.out⟩
        | true =>
          obtain ⟨hm20, hrr'⟩ := tup_of htb'
          have HT' := Lib.hid (show tupV M = .tuple #[.string ⟨(catL M).toArray⟩, .int .i64 0] by unfold tupV; rw [if_pos htb'])
          have hcmp := cat_cmp L M hrr hrr' (fun v hv => (HI.out v hv).1) (fun v hv => (HI'.out v hv).1)
          have hc1 := cat_len L hrr
          have hc2 := cat_len M hrr'
          obtain ⟨z0, hz0⟩ : ∃ z, tupC L M = z := ⟨_, rfl⟩
          rw [hz0] at hcmp
          have HZ0 := Lib.hid hz0
          have HBY := Lib.hid fun w => bytes_at ⟨(catL L).toArray⟩ ⟨(catL M).toArray⟩ z0 w (by show (catL L).toArray.size ≤ _; rw [List.size_toArray]; omega) (by show (catL M).toArray.size ≤ _; rw [List.size_toArray]; omega) hcmp
          clear htb htb' hrr hrr' hcmp hz0
          generalize catL L = E at *
          generalize catL M = F at *
          go_wp2_with (fail)
          refine (tuple_any q cap' M _ (HV'.out.bel HB.out) hM HI'.out (HS.out.bel HB.out)).mono ?_
          rintro e w5 ⟨rfl, hb⟩
          replace HB := Lib.hid (HB.out.trans hb); clear hb
          rw [HT'.out]
          clear HT HT'
          go_wp2_with (fail)
          go_loopw [12, 13] (fun wv i x => TupsRel L M w wv i x) (fun _ i _ => L.length - (intOf i).toNat)
          case atStart => exact ⟨0, 0, Nat.zero_le _, Nat.zero_le _, rfl, rfl, fun _ => rfl, fun h => absurd rfl h, HB.out⟩
          case round =>
            obtain ⟨k, z, hkL, hkM, rfl, rfl, hz1, hz2, hb⟩ := hrel
            have HZ1 := Lib.hid hz1; clear hz1
            have HZ2 := Lib.hid hz2; clear hz2
            have HB := Lib.hid hb; clear hb
            by_cases hz : z = 0
            · subst hz
              by_cases h1 : k < L.length
              · by_cases h2 : k < M.length
                · have h1' : (k : Int) < (L.length : Int) := by omega
                  have h2' : (k : Int) < (M.length : Int) := by omega
                  obtain ⟨a, B, O, sp, rfl, ha, c0, c1, c2⟩ := (HV.out.bel HB.out) k h1
                  obtain ⟨a', B', O', sp', rfl, ha', d0, d1, d2⟩ := (HV'.out.bel HB.out) k h2
                  have hvk := HI.out L[k] (List.getElem_mem h1)
                  have hvk' := HI'.out M[k] (List.getElem_mem h2)
                  have hst := HZ1.out rfl
                  rw [tupC_step k h1 h2] at hst
                  obtain ⟨y, hy⟩ : ∃ y, cmpK L[k] M[k] = y := ⟨_, rfl⟩
                  rw [hy] at hst
                  have HCMP := Lib.hid fun w => compare_at L[k].k L[k].n L[k].s M[k].k M[k].n M[k].s y w hvk.2 hvk'.2 hy
                  have HST := Lib.hid hst
                  have hkd := HB.out.drew
                  clear hst hy hvk hvk'
                  go_wp2_with (fail)
                  first | go_region_held3 (fun x => x.cell? ⟨B, O, sp⟩ = some (.int .i64 L[k].k) ∧ x.cell? ⟨B, O + 1, none⟩ = some (.int .i64 L[k].n) ∧ x.cell? ⟨B, O + 2, none⟩ = some (.string L[k].s) ∧ x.cell? ⟨B', O', sp'⟩ = some (.int .i64 M[k].k) ∧ x.cell? ⟨B', O' + 1, none⟩ = some (.int .i64 M[k].n) ∧ x.cell? ⟨B', O' + 2, none⟩ = some (.string M[k].s) ∧ Bel w x)
                          (first | assumption | exact ⟨c0, c1, c2, d0, d1, d2, hkd⟩ | exact heldT_next hb (by assumption))
                          (first
                            | (go_at_call 21; refine (HCMP.out _).mono ?_; rintro e w' ⟨rfl, hb⟩))
                        | fail
                  have hk := heldT_bel (by assumption)
                  go_wp2_with (fail)
                  go_roundw
                  case rel => exact ⟨k + 1, y, by omega, by omega, by go_num, rfl, fun h => by have := HST.out; rw [if_pos h] at this; exact this, fun h => by have := HST.out; rw [if_neg h] at this; exact this.symm, hk⟩
                  case measure => simp [intOf]; omega
                · have h1' : (k : Int) < (L.length : Int) := by omega
                  have h2' : ¬ (k : Int) < (M.length : Int) := by omega
                  obtain rfl : z0 = 1 := HZ0.out.symm.trans ((HZ1.out rfl).symm.trans (tupC_right k h1 (by omega)))
                  have h3 : ¬ ((L.length : Nat) : Int) = (M.length : Int) := by omega
                  have h4 : ¬ ((L.length : Nat) : Int) < (M.length : Int) := by omega
                  have h5 : (((L.length : Nat) : Int) == (M.length : Int)) = false := beq_eq_false_iff_ne.2 h3
                  go_wp2_with (fail)
                  refine (HBY.out _).mono ?_
                  rintro e w7 ⟨rfl, hb⟩
                  replace HB := Lib.hid (HB.out.trans hb); clear hb
                  go_wp2_with (fail)
                  go_ret
                  exact ⟨ret_bool (by simp), HB.out⟩
              · by_cases h2 : k < M.length
                · have h1' : ¬ (k : Int) < (L.length : Int) := by omega
                  have h2' : (k : Int) < (M.length : Int) := by omega
                  obtain rfl : z0 = -1 := HZ0.out.symm.trans ((HZ1.out rfl).symm.trans (tupC_left k (by omega) h2))
                  have h3 : ¬ ((L.length : Nat) : Int) = (M.length : Int) := by omega
                  have h4 : ((L.length : Nat) : Int) < (M.length : Int) := by omega
                  have h5 : (((L.length : Nat) : Int) == (M.length : Int)) = false := beq_eq_false_iff_ne.2 h3
                  go_wp2_with (fail)
                  refine (HBY.out _).mono ?_
                  rintro e w7 ⟨rfl, hb⟩
                  replace HB := Lib.hid (HB.out.trans hb); clear hb
                  go_wp2_with (fail)
                  go_ret
                  exact ⟨ret_bool (by simp), HB.out⟩
                · have h1' : ¬ (k : Int) < (L.length : Int) := by omega
                  have h2' : ¬ (k : Int) < (M.length : Int) := by omega
                  obtain rfl : z0 = 0 := HZ0.out.symm.trans ((HZ1.out rfl).symm.trans (tupC_both k (by omega) (by omega)))
                  have h3 : ((L.length : Nat) : Int) = (M.length : Int) := by omega
                  have h5 : (((L.length : Nat) : Int) == (M.length : Int)) = true := by rw [h3]; simp
                  go_wp2_with (fail)
                  refine (HBY.out _).mono ?_
                  rintro e w7 ⟨rfl, hb⟩
                  replace HB := Lib.hid (HB.out.trans hb); clear hb
                  go_wp2_with (fail)
                  go_ret
                  exact ⟨ret_bool (by simp), HB.out⟩
            · obtain rfl : z0 = z := HZ0.out.symm.trans (HZ2.out hz)
              have hzb : (z0 == 0) = false := beq_eq_false_iff_ne.2 hz
              by_cases h1 : k < L.length
              · have h1' : (k : Int) < (L.length : Int) := by omega
                by_cases h2 : k < M.length
                · have h2' : (k : Int) < (M.length : Int) := by omega
                  go_wp2_with (fail)
                  refine (HBY.out _).mono ?_
                  rintro e w7 ⟨rfl, hb⟩
                  replace HB := Lib.hid (HB.out.trans hb); clear hb
                  go_wp2_with (fail)
                  go_ret
                  exact ⟨ret_bool (by simp), HB.out⟩
                · have h2' : ¬ (k : Int) < (M.length : Int) := by omega
                  go_wp2_with (fail)
                  refine (HBY.out _).mono ?_
                  rintro e w7 ⟨rfl, hb⟩
                  replace HB := Lib.hid (HB.out.trans hb); clear hb
                  go_wp2_with (fail)
                  go_ret
                  exact ⟨ret_bool (by simp), HB.out⟩
              · have h1' : ¬ (k : Int) < (L.length : Int) := by omega
                go_wp2_with (fail)
                refine (HBY.out _).mono ?_
                rintro e w7 ⟨rfl, hb⟩
                replace HB := Lib.hid (HB.out.trans hb); clear hb
                go_wp2_with (fail)
                go_ret
                exact ⟨ret_bool (by simp), HB.out⟩
end Go.Proofs.YtggmeggfibblhaaDoor
