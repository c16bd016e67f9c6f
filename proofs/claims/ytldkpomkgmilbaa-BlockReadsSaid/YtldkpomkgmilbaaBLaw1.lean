/- The laws BlockBuilds and BlockReads walked. -/
import Derived.Test.YtldkpomkgmilbaaBShown
set_option linter.unusedSimpArgs false
set_option linter.unusedVariables false
namespace Go.Proofs.Ytldkpomkgmilbaa
open Go.RowKit Go.Deep

theorem splitB_row (most : Int) : ∀ (L row r : List PB), r ∈ splitB most L row → r.length ≤ row.length + L.length
  | [], row, r, h => by
    unfold splitB at h
    split at h
    · simp at h
    · rw [List.mem_singleton] at h; subst h; simp
  | p :: L, row, r, h => by
    unfold splitB at h
    split at h
    · rcases List.mem_cons.1 h with rfl | h
      · simp
      · have := splitB_row most L [] r h
        simp at this ⊢; omega
    · have := splitB_row most L (row ++ [p]) r h
      simp at this ⊢; omega
theorem as_len {L : List PB} (h : AsOk L) : L.length ≤ 1000 := by have := h.1; omega
theorem as_small {L : List PB} (h : AsOk L) : smallP 100000 L := fun i hi => by have := h.2 i hi; omega

set_option maxHeartbeats 4000000 in
set_option maxRecDepth 20000 in
theorem law_builds_any (w : World) (p : Option Addr) (cap : Nat) (L : List PB) (most : Int) (a b : ByteArray) (h : PairsAt w p L) (hL : L.length ≤ maxLen) (hs : smallP maxLen L) (hm : -9223372036854775808 ≤ most ∧ most ≤ 9223372036854775807) (ha : a.size ≤ maxLen) (hb : b.size ≤ maxLen) :
    Calls Try.prog 3 #[.slice p L.length cap, .int .i64 most, .string a, .string b] w fun e w' => e = .returned (.bool true) ∧ Bel w w' := by
  have H := Lib.hid h; clear h
  have HSM := Lib.hid hs; clear hs
  have HL := Lib.hid hL
  have HMB := Lib.hid hm; clear hm
  unfold maxLen at hL ha hb
  go_enter Try.func3, Try.ntmps3
  go_wp2_with (fail)
  refine (shown_any w).mono ?_
  rintro e w1 ⟨rfl, hb1⟩
  have HB1 := Lib.hid hb1; clear hb1
  go_wp2_with (fail)
  refine (as_any p cap L w1 (H.out.bel HB1.out) HL.out HSM.out).mono ?_
  rintro e w2 ⟨hb2, (⟨hok, v, rfl, ho⟩ | ⟨hno, v, rfl⟩)⟩
  · have HB2 := Lib.hid (HB1.out.trans hb2)
    have HOK := Lib.hid hok
    obtain ⟨q, qc, rfl, hat⟩ := ownG_rpairs ho
    have HQ := Lib.hid hat
    have h60 := hok.1
    clear hb2 hok ho hat
    by_cases h1 : a.size ≤ 1000
    · by_cases h2 : b.size ≤ 1000
      · have h1' : (a.size : Int) ≤ 1000 := by omega
        have h2' : (b.size : Int) ≤ 1000 := by omega
        go_wp2_with (fail)
        refine (build_any p cap L w2 (H.out.bel HB2.out) (as_len HOK.out) (as_small HOK.out)).mono ?_
        rintro e w3 ⟨rfl, hb3⟩
        have HB3 := Lib.hid (HB2.out.trans hb3)
        have HQ3 := Lib.hid (HQ.out.bel hb3)
        clear hb3
        go_wp2_with (fail)
        refine (rbuild_any q qc L w3 HQ3.out (as_len HOK.out) (as_small HOK.out)).mono ?_
        rintro e w4 ⟨rfl, hb4⟩
        have HB4 := Lib.hid (HB3.out.trans hb4)
        have HQ4 := Lib.hid (HQ3.out.bel hb4)
        clear hb4
        generalize (buildL (prs L)).1 = t at *
        generalize (buildL (prs L)).2 = E at *
        go_wp2_with (fail)
        refine (split_at p cap L most w4 (H.out.bel HB4.out) (as_len HOK.out) (as_small HOK.out)).mono ?_
        rintro e w5 ⟨x, xc, rfl, hx, hb5⟩
        have HB5 := Lib.hid (HB4.out.trans hb5)
        have HQ5 := Lib.hid (HQ4.out.bel hb5)
        have HX := Lib.hid hx
        clear hb5 hx
        go_wp2_with (fail)
        refine (rsplit_at q qc L most w5 HQ5.out (as_len HOK.out) (as_small HOK.out)).mono ?_
        rintro e w6 ⟨y, yc, rfl, hy, hb6⟩
        have HB6 := Lib.hid (HB5.out.trans hb6)
        have HX6 := Lib.hid (HX.out.bel hb6)
        have HY := Lib.hid hy
        have hrl := splitB_len most L []
        clear hb6 hy
        have HROW := Lib.hid (show ∀ i (h : i < (splitB most L []).length), (splitB most L [])[i].length ≤ 1000000 from fun i hi => by
          have := splitB_row most L [] _ (List.getElem_mem hi)
          simp only [List.length_nil] at this
          omega)
        generalize hR : splitB most L [] = R at *
        clear hR
        go_wp2_with (fail)
        refine (common_any a b w6 (by unfold maxLen; omega) (by unfold maxLen; omega)).mono ?_
        rintro e w7 ⟨rfl, hd7⟩
        have HB7 := Lib.hid (HB6.out.trans hd7.bel)
        have HX7 := Lib.hid (HX6.out.bel hd7.bel)
        have HY7 := Lib.hid (HY.out.bel hd7.bel)
        clear hd7
        go_wp2_with (fail)
        refine (rcommon_any a b w7 (by unfold maxLen; omega) (by unfold maxLen; omega)).mono ?_
        rintro e w8 ⟨rfl, hd8⟩
        have HB8 := Lib.hid (HB7.out.trans hd8.bel)
        have HX8 := Lib.hid (HX7.out.bel hd8.bel)
        have HY8 := Lib.hid (HY7.out.bel hd8.bel)
        clear hd8
        generalize comL a.data.toList b.data.toList = cm at *
        go_wp2_with (fail)
        go_loopw [18] (fun i x => (∃ k : Nat, k ≤ R.length ∧ i = .int .i64 k) ∧ Drw w8 x) (fun i _ => R.length - (intOf i).toNat)
        case atStart => exact ⟨⟨0, Nat.zero_le _, rfl⟩, Drw.refl w8⟩
        case round =>
          obtain ⟨⟨k, hk, rfl⟩, hw⟩ := hrel
          have HW := Lib.hid hw
          by_cases hlt : k < R.length
          · obtain ⟨a1, q1, c1, rfl, hc1, hp1⟩ := (HX8.out.bel hw.bel) k hlt
            obtain ⟨a2, q2, c2, rfl, hc2, hp2⟩ := (HY8.out.bel hw.bel) k hlt
            have HP1 := Lib.hid hp1
            have HP2 := Lib.hid hp2
            have HRK := Lib.hid (HROW.out k hlt)
            clear hw hp1 hp2
            go_wp2_with (fail)
            go_quiet ((go_at_call 17; exact Calls.quiet_of (alike_any q1 q2 c1 c2 R[k] _ (by first | exact HP1.out | exact HP1.out.bel ((Bel.refl _).drewN _) | exact HP1.out.bel (Bel.refl _).drew) (by first | exact HP2.out | exact HP2.out.bel ((Bel.refl _).drewN _) | exact HP2.out.bel (Bel.refl _).drew) HRK.out)))
            go_wp2_with (fail)
            go_roundw
            case rel => exact ⟨⟨k + 1, hlt, by go_num⟩, by first | exact HW.out.drewN _ | exact (HW.out.drewN _).drewN _⟩
            case measure => simp [intOf]; omega
          · clear hw
            go_wp2_with (fail)
            go_ret
            exact ⟨rfl, HB8.out.trans HW.out.bel⟩
      · have h1' : (a.size : Int) ≤ 1000 := by omega
        have h2' : ¬ (b.size : Int) ≤ 1000 := by omega
        go_wp2_with (fail)
        go_ret
        exact ⟨rfl, HB2.out⟩
    · have h1' : ¬ (a.size : Int) ≤ 1000 := by omega
      go_wp2_with (fail)
      go_ret
      exact ⟨rfl, HB2.out⟩
  · have HB2 := Lib.hid (HB1.out.trans hb2)
    clear hb2
    go_wp2_with (fail)
    go_ret
    exact ⟨rfl, HB2.out⟩

set_option maxHeartbeats 4000000 in
set_option maxRecDepth 20000 in
theorem law_reads_any (w : World) (s key lo hi : ByteArray) (hs : s.size ≤ maxLen) (hk : key.size ≤ maxLen) (hlo : lo.size ≤ maxLen) (hhi : hi.size ≤ maxLen) :
    Calls Try.prog 4 #[.string s, .string key, .string lo, .string hi] w fun e w' => e = .returned (.bool true) ∧ Bel w w' := by
  unfold maxLen at hs hk hlo hhi
  go_enter Try.func4, Try.ntmps4
  go_wp2_with (fail)
  refine (shown_any w).mono ?_
  rintro e w1 ⟨rfl, hb1⟩
  have HB1 := Lib.hid hb1; clear hb1
  by_cases h1 : s.size ≤ 3000
  · have h1' : (s.size : Int) ≤ 3000 := by omega
    by_cases h2 : key.size ≤ 300
    · have h2' : (key.size : Int) ≤ 300 := by omega
      by_cases h3 : lo.size ≤ 300
      · have h3' : (lo.size : Int) ≤ 300 := by omega
        by_cases h4 : hi.size ≤ 300
        · have h4' : (hi.size : Int) ≤ 300 := by omega
          go_wp2_with (fail)
          refine (read_any s w1 (by omega)).mono ?_
          rintro e w2 ⟨v, L, rfl, ho, hp, hb2⟩
          obtain ⟨p, pc, rfl, hat⟩ := ownG_pairs ho
          have HB2 := Lib.hid (HB1.out.trans hb2)
          have HL := Lib.hid hat
          have HP := Lib.hid hp
          clear ho hat hb2 hp
          go_wp2_with (fail)
          refine (rread_any s w2 (by omega)).mono ?_
          rintro e w3 ⟨v, M, rfl, ho, hp, hsm, hlen, hb3⟩
          obtain rfl : M = L := prs_inj (hp.trans HP.out.symm)
          obtain ⟨q, qc, rfl, hat⟩ := ownG_rpairs ho
          have HB3 := Lib.hid (HB2.out.trans hb3)
          have HL3 := Lib.hid (HL.out.bel hb3)
          have HM := Lib.hid hat
          have hE : (readAll s.data.toList).2 = (searchL s.data.toList (fun _ => true)).2 := rfl
          rw [hE]
          generalize (searchL s.data.toList (fun _ => true)).2 = E at *
          clear ho hat hb3 hp hsm hE HP
          go_wp2_with (fail)
          refine (find_any s key w3 (by omega)).mono ?_
          rintro e w4 ⟨rfl, hb4⟩
          have HB4 := Lib.hid (HB3.out.trans hb4)
          have HL4 := Lib.hid (HL3.out.bel hb4)
          have HM4 := Lib.hid (HM.out.bel hb4)
          clear hb4
          unfold findV
          obtain ⟨fv, fb, fe, hf⟩ : ∃ fv fb fe, findA s.data.toList key.data.toList = (fv, fb, fe) := ⟨_, _, _, rfl⟩
          have HFA := Lib.hid hf
          rw [hf]
          clear hf
          go_wp2_with (fail)
          refine (rfind_any s key w4 (by omega)).mono ?_
          rintro e w5 ⟨rfl, hb5⟩
          have HB5 := Lib.hid (HB4.out.trans hb5)
          have HL5 := Lib.hid (HL4.out.bel hb5)
          have HM5 := Lib.hid (HM4.out.bel hb5)
          clear hb5
          unfold findV
          rw [HFA.out]
          go_wp2_with (fail)
          refine (between_any s lo hi w5 (by omega)).mono ?_
          rintro e w6 ⟨v, X, rfl, ho, hp, hb6⟩
          obtain ⟨x, xc, rfl, hat⟩ := ownG_pairs ho
          have HB6 := Lib.hid (HB5.out.trans hb6)
          have HL6 := Lib.hid (HL5.out.bel hb6)
          have HM6 := Lib.hid (HM5.out.bel hb6)
          have HX := Lib.hid hat
          have HP := Lib.hid hp
          clear ho hat hb6 hp
          go_wp2_with (fail)
          refine (rbetween_any s lo hi w6 (by omega) (by omega) (by omega)).mono ?_
          rintro e w7 ⟨v, Y, rfl, ho, hp, hlx, hb7⟩
          obtain rfl : Y = X := prs_inj (hp.trans HP.out.symm)
          obtain ⟨y, yc, rfl, hat⟩ := ownG_rpairs ho
          have HB7 := Lib.hid (HB6.out.trans hb7)
          have HL7 := Lib.hid (HL6.out.bel hb7)
          have HM7 := Lib.hid (HM6.out.bel hb7)
          have HX7 := Lib.hid (HX.out.bel hb7)
          have HY := Lib.hid hat
          clear ho hat hb7 hp HP
          generalize (searchL s.data.toList (betB lo.data.toList hi.data.toList)).2 = F at *
          go_wp2_with (fail)
          refine (alike_any p q pc qc M w7 HL7.out HM7.out (by omega)).mono ?_
          rintro e w8 ⟨rfl, hd8⟩
          have HB8 := Lib.hid (HB7.out.trans hd8.bel)
          have HX8 := Lib.hid (HX7.out.bel hd8.bel)
          have HY8 := Lib.hid (HY.out.bel hd8.bel)
          clear hd8
          go_wp2_with (fail)
          refine (alike_any x y xc yc Y w8 HX8.out HY8.out (by omega)).mono ?_
          rintro e w9 ⟨rfl, hd9⟩
          have HB9 := Lib.hid (HB8.out.trans hd9.bel)
          clear hd9
          go_wp2_with (fail)
          go_ret
          exact ⟨rfl, HB9.out⟩
        · have h4' : ¬ (hi.size : Int) ≤ 300 := by omega
          go_wp2_with (fail)
          go_ret
          exact ⟨rfl, HB1.out⟩
      · have h3' : ¬ (lo.size : Int) ≤ 300 := by omega
        go_wp2_with (fail)
        go_ret
        exact ⟨rfl, HB1.out⟩
    · have h2' : ¬ (key.size : Int) ≤ 300 := by omega
      go_wp2_with (fail)
      go_ret
      exact ⟨rfl, HB1.out⟩
  · have h1' : ¬ (s.size : Int) ≤ 3000 := by omega
    go_wp2_with (fail)
    go_ret
    exact ⟨rfl, HB1.out⟩
end Go.Proofs.Ytldkpomkgmilbaa
