/- moultlaw6.FileLimits. -/
import Derived.Test.YthnhdiebkkfmgaaFLawN
set_option linter.unusedSimpArgs false
set_option linter.unusedVariables false
namespace Go.Proofs.Ythnhdiebkkfmgaa
open Go.RowKit Go.Deep Go.Maps

/-- What a call made of the turns, with the power on. -/
def Tn (M : RS) (c : Bool) (r : Int × RS) : Prop := (r.1 = 7 ∧ M.turns = 0 ∧ r.2.gone = true ∧ r.2.turns = 0) ∨ (r.1 ≠ 7 ∧ r.2.gone = false ∧ ((c = true ∧ r.1 = 0 ∧ M.turns = r.2.turns + 1 ∧ 0 ≤ r.2.turns) ∨ ((c = false ∨ r.1 ≠ 0) ∧ r.2.turns = M.turns)))
theorem tn_chg {M : RS} (hg : M.gone = false) (ht : 0 ≤ M.turns) (L' : List FI) : Tn M true (chgS M L') := by
  unfold chgS
  by_cases h0 : M.turns = 0
  · rw [if_pos h0, turnS_zero h0]
    exact Or.inl ⟨rfl, h0, rfl, h0⟩
  · rw [if_neg h0, turnS_pos (by omega)]
    exact Or.inr ⟨by show (0 : Int) ≠ 7; decide, hg, Or.inl ⟨rfl, rfl, by simp only []; omega, by simp only []; omega⟩⟩
theorem tn_err {M : RS} (hg : M.gone = false) {e : Int} (c : Bool) (h7 : e ≠ 7) (h0 : c = false ∨ e ≠ 0) : Tn M c (e, M) := Or.inr ⟨h7, hg, Or.inr ⟨h0, rfl⟩⟩
theorem tn_on {M : RS} (hg : M.gone = false) (nm : List UInt8) {k : FI → Int × RS} (hk : ∀ y, Tn M true (k y)) : Tn M true (onS nm M k) := by
  unfold onS
  rw [hg]
  simp only [Bool.false_eq_true, if_false]
  cases getF nm M.L with
  | none => exact tn_err hg true (by decide) (Or.inr (by decide))
  | some y => exact hk y
theorem adm_not7 {nm : List UInt8} {k : Nat} {M : RS} (hg : M.gone = false) : admS nm k M ≠ 7 := by
  unfold admS
  rw [hg]
  simp only [Bool.false_eq_true, if_false]
  repeat (first | (split; · decide) | decide)
theorem do_turn (a : AV) (M : RS) (hp : pickN a.op 10 ≤ 7) : (M.gone = true → (doS a M).1.2 = 7 ∧ (doS a M).2 = M) ∧ (M.gone = false → 0 ≤ M.turns → Tn M (decide (pickN a.op 10 < 7)) ((doS a M).1.2, (doS a M).2)) := by
  have on_gone : ∀ nm k, M.gone = true → onS nm M k = (7, M) := fun nm k h => by unfold onS; rw [if_pos h]
  unfold doS
  by_cases h3 : pickN a.op 10 = 3
  · simp only [h3, if_true]
    exact ⟨fun h => by unfold flushS; rw [on_gone _ _ h]; exact ⟨rfl, rfl⟩, fun h ht => tn_on h _ fun y => tn_chg h ht _⟩
  simp only [if_neg h3]
  by_cases h4 : pickN a.op 10 = 4
  · simp only [h4, if_true]
    refine ⟨fun h => by unfold cutS; rw [on_gone _ _ h]; exact ⟨rfl, rfl⟩, fun h ht => tn_on h _ fun y => ?_⟩
    split
    · exact tn_err h true (by decide) (Or.inr (by decide))
    · exact tn_chg h ht _
  simp only [if_neg h4]
  by_cases h5 : pickN a.op 10 = 5
  · simp only [h5, if_true]
    refine ⟨fun h => by unfold moveS; rw [on_gone _ _ h]; exact ⟨rfl, rfl⟩, fun h ht => tn_on h _ fun y => ?_⟩
    split
    · exact tn_err h true (by decide) (Or.inr (by decide))
    · exact tn_chg h ht _
  simp only [if_neg h5]
  by_cases h6 : pickN a.op 10 = 6
  · simp only [h6, if_true]
    exact ⟨fun h => by unfold dropS; rw [on_gone _ _ h]; exact ⟨rfl, rfl⟩, fun h ht => tn_on h _ fun y => tn_chg h ht _⟩
  simp only [if_neg h6]
  by_cases h7 : pickN a.op 10 = 7
  · simp only [h7, if_true]
    refine ⟨fun h => by unfold getS; rw [if_pos h]; simp, fun h ht => ?_⟩
    unfold getS
    rw [h]
    simp only [Bool.false_eq_true, if_false]
    cases getF a.name.data.toList M.L with
    | none => exact tn_err h _ (by decide) (Or.inl rfl)
    | some y => exact tn_err h _ (by show (0 : Int) ≠ 7; decide) (Or.inl rfl)
  simp only [if_neg h7]
  rw [if_neg (by omega), if_neg (by omega), decide_eq_true (by omega)]
  refine ⟨fun h => ?_, fun h ht => ?_⟩
  · have : admS a.name.data.toList a.data.data.toList.length M = 7 := by unfold admS; rw [if_pos h]
    simp only [addS]
    rw [if_neg (by rw [this]; decide), this]
    exact ⟨rfl, rfl⟩
  · show Tn M true (addS a.name.data.toList a.data.data.toList M)
    unfold addS
    split
    · exact tn_chg h ht _
    · rename_i hne
      exact tn_err h true (adm_not7 h) (Or.inr hne)
def LmRel (w₀ : World) (b : Nat) (most : Nat) (L : List AV) (many i : Value) (x : World) : Prop := ∃ (k n : Nat) (M : RS), i = .int .i64 k ∧ k ≤ L.length ∧ many = .int .i64 n ∧ St w₀ x b M ∧ 0 ≤ M.turns ∧ (n : Int) + M.turns = most ∧ (M.gone = true → M.turns = 0)
set_option maxHeartbeats 4000000 in
set_option maxRecDepth 40000 in
theorem law_limits_any (w : World) (p : Option Addr) (cap : Nat) (L : List AV) (turns : Int) (h : ActsAt w p L) (hL : L.length ≤ maxLen) (ht : in64 turns) :
    Calls Try.prog 5 #[.slice p L.length cap, .int .i64 turns] w fun e w' => e = .returned (.bool true) ∧ Bel w w' := by
  have H := Lib.hid h; clear h
  have HL := Lib.hid hL; clear hL
  cases hs : smallB L with
  | false =>
    have HS := Lib.hid hs; clear hs
    go_enter Try.func5, Try.ntmps5
    go_wp2_with (fail)
    refine (shown_any w).mono ?_
    rintro e w1 ⟨rfl, h1⟩
    have H1 := Lib.hid h1; clear h1
    go_wp2_with (fail)
    refine (small_any w1 p cap L (H.out.bel H1.out) HL.out).mono ?_
    rintro e w2 ⟨rfl, h2⟩
    rw [HS.out]
    have H2 := Lib.hid (H1.out.trans h2.bel); clear h2
    go_wp2_with (fail)
    go_ret
    exact ⟨rfl, H2.out⟩
  | true =>
    have HS := Lib.hid hs
    have hll := small_len hs
    clear hs
    have hlt := pickN_lt turns (n := 40) (by omega)
    go_enter Try.func5, Try.ntmps5
    go_wp2_with (fail)
    refine (shown_any w).mono ?_
    rintro e w1 ⟨rfl, h1⟩
    have H1 := Lib.hid h1; clear h1
    go_wp2_with (fail)
    refine (small_any w1 p cap L (H.out.bel H1.out) HL.out).mono ?_
    rintro e w2 ⟨rfl, h2⟩
    rw [HS.out]
    have H2 := Lib.hid (H1.out.trans h2.bel); clear h2
    go_wp2_with (fail)
    refine (made_any w w2 H2.out 5000 none 0 [] (fun i hi => by simp at hi) (by omega) rfl).mono ?_
    rintro e w3 ⟨b, rfl, h3⟩
    have H3 := Lib.hid (show St w w3 b (newS 5000) from h3); clear h3
    go_wp2_with (fail)
    refine (pick_at turns 40 40 w3 ht (by omega) (by omega) rfl).mono ?_
    rintro e w3' ⟨rfl, rfl⟩
    obtain ⟨most, hm⟩ : ∃ most, most = pickN turns 40 := ⟨_, rfl⟩
    rw [← hm] at hlt ⊢
    clear hm
    go_wp2_with (fail)
    refine (st_limit H3.out (most : Int) ⟨by omega, by omega⟩).mono ?_
    rintro e w4 ⟨⟨u4, rfl⟩, h4⟩
    have H4 := Lib.hid h4
    have HT4 := Lib.hid (show (limS (most : Int) (newS 5000)).turns = (most : Int) by unfold limS; simp only []; rw [if_neg (by omega)])
    have HG4 := Lib.hid (show (limS (most : Int) (newS 5000)).gone = false from rfl)
    obtain ⟨M4, hM4⟩ : ∃ M4, M4 = limS (most : Int) (newS 5000) := ⟨_, rfl⟩
    rw [← hM4] at H4 HT4 HG4
    clear h4 hM4
    go_wp2_with (fail)
    go_loopw [10, 11] (fun many i x => LmRel w b most L many i x) (fun _ i _ => L.length - (intOf i).toNat)
    case atStart => exact ⟨0, 0, M4, rfl, Nat.zero_le _, rfl, H4.out, by rw [HT4.out]; omega, by rw [HT4.out]; simp, fun h => by rw [HG4.out] at h; cases h⟩
    case round =>
      obtain ⟨k, n, M, rfl, hk, rfl, hst, ht0, hnt, hgt⟩ := hrel
      have HT := Lib.hid hst
      have HT0 := Lib.hid ht0
      have HNT := Lib.hid hnt
      have HGT := Lib.hid hgt
      have hnm : n ≤ most := by omega
      clear hst ht0 hnt hgt
      by_cases hlt' : k < L.length
      · obtain ⟨a, B, O, sp, rfl, hp, c0, c1, c2, c3, c4, c5, c6⟩ := act_at H.out HT.out.low hlt'
        have HA0 := Lib.hid (fun (x : World) (hx : St w x b M) => act_at H.out hx.low hlt')
        have HC := Lib.hid (fun (x : World) (hx : St w x b M) => st_does' hx H.out hlt' (small_get HS.out hlt'))
        have hop : in64 L[k].op := by obtain ⟨B', O', sp', _, _, ho⟩ := H.out k hlt'; exact ho.op
        have HDT := Lib.hid (do_turn L[k] M)
        obtain ⟨y, hy⟩ : ∃ y, y = L[k] := ⟨_, rfl⟩
        rw [← hy] at c0 c1 c2 c3 c4 c5 c6 HC HDT hop HA0
        have HOP := Lib.hid hop
        clear hy hop
        have hplt := pickN_lt y.op (n := 10) (by omega)
        obtain ⟨o, ho⟩ : ∃ o, o = pickN y.op 10 := ⟨_, rfl⟩
        have HO := Lib.hid ho
        rw [← ho] at hplt
        clear ho
        by_cases h7 : 7 < o
        · have h7' : (7 : Int) < (o : Int) := by omega
          go_wp2_with (fail)
          refine (pick_at y.op 10 10 _ HOP.out (by omega) (by omega) rfl).mono ?_
          rintro e w5 ⟨rfl, rfl⟩
          rw [← HO.out]
          go_wp2_with (fail)
          go_roundw
          case rel => exact ⟨k + 1, n, M, by go_num, by omega, rfl, HT.out, HT0.out, HNT.out, HGT.out⟩
          case measure => simp [intOf]; omega
        · have h7d : decide ((7 : Int) < (o : Int)) = false := by rw [decide_eq_false_iff_not]; omega
          have h7' : (o : Int) ≤ 7 := by omega
          cases hgn : M.gone with
          | true =>
            have HGN := Lib.hid hgn
            have HE := Lib.hid ((HDT.out (by rw [← HO.out]; omega)).1 hgn)
            clear hgn
            go_wp2_with (fail)
            refine (pick_at y.op 10 10 _ HOP.out (by omega) (by omega) rfl).mono ?_
            rintro e w5 ⟨rfl, rfl⟩
            rw [← HO.out]
            go_wp2_with (fail)
            refine (st_used HT.out).mono ?_
            rintro e w6 ⟨rfl, h6, hb6⟩
            have H6 := Lib.hid h6
            have HB6 := Lib.hid hb6
            clear h7d h7' h7 hplt
            clear h6 hb6
            go_wp2_with (fail)
            refine (st_dead H6.out).mono ?_
            rintro e w7 ⟨rfl, h7, hd7⟩
            rw [HGN.out]
            have H7 := Lib.hid h7
            have hb7 := HB6.out.trans hd7.bel
            have d0 := cell_later hb7 c0
            have d1 := cell_later hb7 c1
            have d2 := cell_later hb7 c2
            have d3 := cell_later hb7 c3
            have d4 := cell_later hb7 c4
            have d5 := cell_later hb7 c5
            have d6 := cell_later hb7 c6
            clear h7 hd7 hb7
            go_wp2_with (fail)
            refine (HC.out _ H7.out).mono ?_
            rintro e w8 ⟨rfl, h8⟩
            rw [HE.out.2] at h8
            rw [HE.out.1]
            have H8 := Lib.hid h8
            clear h8
            go_wp2_with (fail)
            refine (st_used H8.out).mono ?_
            rintro e w9 ⟨rfl, h9, -⟩
            have H9 := Lib.hid h9; clear h9
            go_wp2_with (fail)
            refine (st_dead H9.out).mono ?_
            rintro e w10 ⟨rfl, h10, -⟩
            rw [HGN.out]
            have H10 := Lib.hid h10; clear h10
            go_wp2_with (fail)
            all_goals
              go_roundw
              case rel => exact ⟨k + 1, n, M, by go_num, by omega, rfl, H10.out, HT0.out, HNT.out, HGT.out⟩
              case measure => simp [intOf]; omega
          | false =>
            have HGN := Lib.hid hgn
            have HE := Lib.hid ((HDT.out (by rw [← HO.out]; omega)).2 hgn HT0.out)
            rw [← HO.out] at HE
            clear hgn
            obtain ⟨r, hr⟩ : ∃ r, r = (doS y M).1.2 := ⟨_, rfl⟩
            obtain ⟨M', hM'⟩ : ∃ M', M' = (doS y M).2 := ⟨_, rfl⟩
            rw [← hr, ← hM'] at HE
            have HM' := Lib.hid hM'
            have HR := Lib.hid hr
            clear hr hM'
            rcases HE.out with ⟨e1, e2, e3, e4⟩ | ⟨e1, e3, ⟨e5, e6, e7, e8⟩ | ⟨e5, e7⟩⟩
            · simp only [] at e1 e2 e3 e4
              subst e1
              have E2 := Lib.hid e2
              have E3 := Lib.hid e3
              have E4 := Lib.hid e4
              clear e2 e3 e4
              go_wp2_with (fail)
              refine (pick_at y.op 10 10 _ HOP.out (by omega) (by omega) rfl).mono ?_
              rintro e w5 ⟨rfl, rfl⟩
              rw [← HO.out]
              go_wp2_with (fail)
              refine (st_used HT.out).mono ?_
              rintro e w6 ⟨rfl, h6, hb6⟩
              have H6 := Lib.hid h6
              have HB6 := Lib.hid hb6
              clear h7d h7' h7 hplt
              clear h6 hb6
              go_wp2_with (fail)
              refine (st_dead H6.out).mono ?_
              rintro e w7 ⟨rfl, h7, hd7⟩
              rw [HGN.out]
              have H7 := Lib.hid h7
              have hb7 := HB6.out.trans hd7.bel
              have d0 := cell_later hb7 c0
              have d1 := cell_later hb7 c1
              have d2 := cell_later hb7 c2
              have d3 := cell_later hb7 c3
              have d4 := cell_later hb7 c4
              have d5 := cell_later hb7 c5
              have d6 := cell_later hb7 c6
              clear h7 hd7 hb7
              go_wp2_with (fail)
              refine (HC.out _ H7.out).mono ?_
              rintro e w8 ⟨rfl, h8⟩
              rw [← HM'.out] at h8
              rw [← HR.out]
              have H8 := Lib.hid h8
              clear h8
              go_wp2_with (fail)
              refine (st_dead H8.out).mono ?_
              rintro e w10 ⟨rfl, h10, -⟩
              have H10 := Lib.hid h10; clear h10
              rw [E3.out]
              go_wp2_with (fail)
              all_goals
                go_roundw
                case rel => exact ⟨k + 1, n, M', by go_num, by omega, rfl, H10.out, by rw [E4.out]; exact Int.le_refl _, by rw [E4.out, ← E2.out]; exact HNT.out, fun _ => E4.out⟩
                case measure => simp [intOf]; omega
            · simp only [] at e1 e3 e5 e6 e7 e8
              subst e6
              have E3 := Lib.hid e3
              have E7 := Lib.hid e7
              have E8 := Lib.hid e8
              have ho7 : o < 7 := by simpa using e5
              have ho7' : (o : Int) < 7 := by omega
              clear e1 e3 e5 e7 e8
              go_wp2_with (fail)
              refine (pick_at y.op 10 10 _ HOP.out (by omega) (by omega) rfl).mono ?_
              rintro e w5 ⟨rfl, rfl⟩
              rw [← HO.out]
              go_wp2_with (fail)
              refine (st_used HT.out).mono ?_
              rintro e w6 ⟨rfl, h6, hb6⟩
              have H6 := Lib.hid h6
              have HB6 := Lib.hid hb6
              clear h7d h7' h7 hplt
              clear h6 hb6
              go_wp2_with (fail)
              refine (st_dead H6.out).mono ?_
              rintro e w7 ⟨rfl, h7, hd7⟩
              rw [HGN.out]
              have H7 := Lib.hid h7
              have hb7 := HB6.out.trans hd7.bel
              have d0 := cell_later hb7 c0
              have d1 := cell_later hb7 c1
              have d2 := cell_later hb7 c2
              have d3 := cell_later hb7 c3
              have d4 := cell_later hb7 c4
              have d5 := cell_later hb7 c5
              have d6 := cell_later hb7 c6
              clear h7 hd7 hb7
              go_wp2_with (fail)
              refine (HC.out _ H7.out).mono ?_
              rintro e w8 ⟨rfl, h8⟩
              rw [← HM'.out] at h8
              rw [← HR.out]
              have H8 := Lib.hid h8
              clear h8
              go_wp2_with (fail)
              refine (st_dead H8.out).mono ?_
              rintro e w10 ⟨rfl, h10, -⟩
              have H10 := Lib.hid h10; clear h10
              rw [E3.out]
              go_wp2_with (fail)
              all_goals
                go_roundw
                case rel => exact ⟨k + 1, n + 1, M', by go_num, by omega, by go_num, H10.out, E8.out, by have := HNT.out; have := E7.out; omega, fun h => by rw [E3.out] at h; cases h⟩
                case measure => simp [intOf]; omega
            · simp only [] at e1 e3 e5 e7
              have E3 := Lib.hid e3
              have E7 := Lib.hid e7
              have h17 : (r == 7) = false := by rw [beq_eq_false_iff_ne]; exact e1
              by_cases ho7 : o < 7
              · have hr0 : (r == 0) = false := by
                  rw [beq_eq_false_iff_ne]
                  exact e5.resolve_left (by rw [decide_eq_true ho7]; simp)
                have ho7' : (o : Int) < 7 := by omega
                clear e1 e3 e5 e7
                go_wp2_with (fail)
                refine (pick_at y.op 10 10 _ HOP.out (by omega) (by omega) rfl).mono ?_
                rintro e w5 ⟨rfl, rfl⟩
                rw [← HO.out]
                go_wp2_with (fail)
                refine (st_used HT.out).mono ?_
                rintro e w6 ⟨rfl, h6, hb6⟩
                have H6 := Lib.hid h6
                have HB6 := Lib.hid hb6
                clear h7d h7' h7 hplt
                clear h6 hb6
                go_wp2_with (fail)
                refine (st_dead H6.out).mono ?_
                rintro e w7 ⟨rfl, h7, hd7⟩
                rw [HGN.out]
                have H7 := Lib.hid h7
                have hb7 := HB6.out.trans hd7.bel
                have d0 := cell_later hb7 c0
                have d1 := cell_later hb7 c1
                have d2 := cell_later hb7 c2
                have d3 := cell_later hb7 c3
                have d4 := cell_later hb7 c4
                have d5 := cell_later hb7 c5
                have d6 := cell_later hb7 c6
                clear h7 hd7 hb7
                go_wp2_with (fail)
                refine (HC.out _ H7.out).mono ?_
                rintro e w8 ⟨rfl, h8⟩
                rw [← HM'.out] at h8
                rw [← HR.out]
                have H8 := Lib.hid h8
                clear h8
                go_wp2_with (fail)
                refine (st_dead H8.out).mono ?_
                rintro e w10 ⟨rfl, h10, -⟩
                have H10 := Lib.hid h10; clear h10
                rw [E3.out]
                go_wp2_with (fail)
                all_goals
                  go_roundw
                  case rel => exact ⟨k + 1, n, M', by go_num, by omega, rfl, H10.out, by rw [E7.out]; exact HT0.out, by rw [E7.out]; exact HNT.out, fun h => by rw [E3.out] at h; cases h⟩
                  case measure => simp [intOf]; omega
              · have ho7' : ¬ ((o : Int) < 7) := by omega
                have ho7d : decide ((o : Int) < 7) = false := by rw [decide_eq_false_iff_not]; omega
                clear e1 e3 e5 e7
                go_wp2_with (fail)
                refine (pick_at y.op 10 10 _ HOP.out (by omega) (by omega) rfl).mono ?_
                rintro e w5 ⟨rfl, rfl⟩
                rw [← HO.out]
                go_wp2_with (fail)
                refine (st_used HT.out).mono ?_
                rintro e w6 ⟨rfl, h6, hb6⟩
                have H6 := Lib.hid h6
                have HB6 := Lib.hid hb6
                clear h7d h7' h7 hplt
                clear h6 hb6
                go_wp2_with (fail)
                refine (st_dead H6.out).mono ?_
                rintro e w7 ⟨rfl, h7, hd7⟩
                rw [HGN.out]
                have H7 := Lib.hid h7
                have hb7 := HB6.out.trans hd7.bel
                have d0 := cell_later hb7 c0
                have d1 := cell_later hb7 c1
                have d2 := cell_later hb7 c2
                have d3 := cell_later hb7 c3
                have d4 := cell_later hb7 c4
                have d5 := cell_later hb7 c5
                have d6 := cell_later hb7 c6
                clear h7 hd7 hb7
                go_wp2_with (fail)
                refine (HC.out _ H7.out).mono ?_
                rintro e w8 ⟨rfl, h8⟩
                rw [← HM'.out] at h8
                rw [← HR.out]
                have H8 := Lib.hid h8
                clear h8
                go_wp2_with (fail)
                refine (st_dead H8.out).mono ?_
                rintro e w10 ⟨rfl, h10, -⟩
                have H10 := Lib.hid h10; clear h10
                rw [E3.out]
                go_wp2_with (fail)
                all_goals
                  go_roundw
                  case rel => exact ⟨k + 1, n, M', by go_num, by omega, rfl, H10.out, by rw [E7.out]; exact HT0.out, by rw [E7.out]; exact HNT.out, fun h => by rw [E3.out] at h; cases h⟩
                  case measure => simp [intOf]; omega
      · obtain rfl : k = L.length := by omega
        go_wp2_with (fail)
        refine (st_dead HT.out).mono ?_
        rintro e w5 ⟨rfl, h5, -⟩
        have H5 := Lib.hid h5; clear h5
        cases hg : M.gone with
        | true =>
          have hnn : n = most := by have := HGT.out hg; have := HNT.out; omega
          subst hnn
          go_wp2_with (fail)
          go_ret
          exact ⟨rfl, H5.out.low⟩
        | false =>
          go_wp2_with (fail)
          go_ret
          exact ⟨rfl, H5.out.low⟩
end Go.Proofs.Ythnhdiebkkfmgaa
