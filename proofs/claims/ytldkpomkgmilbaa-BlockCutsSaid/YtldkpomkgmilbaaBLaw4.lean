/- The law BlockCuts walked. -/
import Derived.Test.YtldkpomkgmilbaaBLaw3
set_option linter.unusedSimpArgs false
set_option linter.unusedVariables false
namespace Go.Proofs.Ytldkpomkgmilbaa
open Go.RowKit Go.Deep

theorem PairsAt.take {w : World} {p : Option Addr} {L : List PB} (h : PairsAt w p L) (k : Nat) : PairsAt w p (L.take k) := by
  intro i hi
  rw [List.length_take] at hi
  obtain ⟨a, B, O, sp, h1, h2, c0, c1⟩ := h i (by omega)
  exact ⟨a, B, O, sp, h1, h2, by rw [List.getElem_take]; exact c0, by rw [List.getElem_take]; exact c1⟩
theorem smallP.take {n : Nat} {L : List PB} (h : smallP n L) (k : Nat) : smallP n (L.take k) := by
  intro i hi
  rw [List.length_take] at hi
  rw [List.getElem_take]; exact h i (by omega)
/-- A block that is cut short: what is read of it, if anything, are the first ones of its pairs. -/
theorem cut_read {L : List PB} {t : List UInt8} (hi : incB (prs L) = true) (hs : smallP 1500 L) (ht : t = encL [] (prs L)) (htl : t.length ≤ 40000) (k : Nat) (hk : k < t.length) {M : List PB} (hr : readL (t.take k) = some (prs M)) :
    M.length < L.length ∧ M = L.take M.length ∧ buildL (prs (L.take M.length)) = (t.take k, 0) := by
  obtain ⟨h1, h2⟩ := readL_back hr
  have hsm : ∀ p ∈ prs L, p.k.length < 18446744073709551616 ∧ p.v.length < 18446744073709551616 := fun p hp => by
    obtain ⟨q, hq, rfl⟩ := prs_mem hp
    obtain ⟨j, hj, rfl⟩ := List.getElem_of_mem hq
    have := hs j hj
    have e1 : L[j].pr.k.length = L[j].k.size := rfl
    have e2 : L[j].pr.v.length = L[j].v.size := rfl
    omega
  have hkl : (t.take k).length = k := by rw [List.length_take]; omega
  have hsm2 : ∀ p ∈ prs M, p.k.length < 18446744073709551616 ∧ p.v.length < 18446744073709551616 := fun p hp => by
    have := enc_small [] (prs M) p hp
    rw [h1, hkl] at this
    simp only [List.length_nil] at this
    omega
  obtain ⟨r', hr', hx⟩ := enc_prefix (prs M) (prs L) [] (t.drop k) hsm2 hsm (by rw [h1, List.take_append_drop, ht])
  have hne : r' ≠ [] := by
    rintro rfl
    have := congrArg List.length hx
    rw [List.length_drop] at this
    simp [encL] at this; omega
  have hlen := congrArg List.length hr'
  rw [List.length_append, prs_len, prs_len] at hlen
  have hpos := List.length_pos_iff.2 hne
  have hM : M = L.take M.length := prs_inj (by rw [prs_take, hr', List.take_left' (prs_len M)])
  refine ⟨by omega, hM, ?_⟩
  rw [← hM, build_of h2 (by rw [h1, hkl]; omega), h1]
theorem more_read {L : List PB} {t : List UInt8} (hs : smallP 1500 L) (ht : t = encL [] (prs L)) (htl : t.length ≤ 40000) : readL (t ++ [0]) = none := by
  cases hr : readL (t ++ [0]) with
  | none => rfl
  | some M =>
    exfalso
    obtain ⟨h1, h2⟩ := readL_back hr
    have hsm : ∀ p ∈ prs L, p.k.length < 18446744073709551616 ∧ p.v.length < 18446744073709551616 := fun p hp => by
      obtain ⟨q, hq, rfl⟩ := prs_mem hp
      obtain ⟨j, hj, rfl⟩ := List.getElem_of_mem hq
      have := hs j hj
      have e1 : L[j].pr.k.length = L[j].k.size := rfl
      have e2 : L[j].pr.v.length = L[j].v.size := rfl
      omega
    have hsm2 : ∀ p ∈ M, p.k.length < 18446744073709551616 ∧ p.v.length < 18446744073709551616 := fun p hp => by
      have := enc_small [] M p hp
      rw [h1, List.length_append] at this
      simp only [List.length_nil, List.length_singleton] at this
      omega
    obtain ⟨r', hr', hx⟩ := enc_prefix (prs L) M [] [0] hsm hsm2 (by rw [h1, ht])
    cases r' with
    | nil => simp [encL] at hx
    | cons q r' =>
      have := congrArg List.length hx
      have h3 := one_pos (lastK [] (prs L)) q
      rw [encL, List.length_append, List.length_singleton] at this
      omega

theorem read_at (s : ByteArray) (l : List UInt8) (w : World) (hs : s.size ≤ 1000000) (h : s.data.toList = l) :
    Calls Try.prog 18 #[.string s] w (SearchPost l (fun _ => true) w) := by
  subst h; exact read_any s w hs

set_option maxHeartbeats 4000000 in
set_option maxRecDepth 20000 in
theorem law_cuts8_any (w : World) (p : Option Addr) (cap : Nat) (L : List PB) (at_ : Int) (h : PairsAt w p L) (hL : L.length ≤ maxLen) (hs : smallP maxLen L) (hm : -9223372036854775808 ≤ at_ ∧ at_ ≤ 9223372036854775807) :
    Calls Try.prog 8 #[.slice p L.length cap, .int .i64 at_] w fun e w' => e = .returned (.bool true) ∧ Bel w w' := by
  have H := Lib.hid h; clear h
  have HSM := Lib.hid hs; clear hs
  have HL := Lib.hid hL
  have HMM := Lib.hid hm; clear hm
  unfold maxLen at hL
  go_enter Try.func8, Try.ntmps8
  go_wp2_with (fail)
  refine (shown_any w).mono ?_
  rintro e w1 ⟨rfl, hb1⟩
  have HB1 := Lib.hid hb1; clear hb1
  go_wp2_with (fail)
  refine (as_any p cap L w1 (H.out.bel HB1.out) HL.out HSM.out).mono ?_
  rintro e w2 ⟨hb2, (⟨hok, v, rfl, ho⟩ | ⟨hno, v, rfl⟩)⟩
  · have HB2 := Lib.hid (HB1.out.trans hb2)
    have HOK := Lib.hid hok
    obtain ⟨q, qc, rfl, hat⟩ := ownG_rpairs ho
    clear hb2 hok ho hat
    go_wp2_with (fail)
    refine (rising_any p cap L w2 (H.out.bel HB2.out) (by have := as_len HOK.out; omega)).mono ?_
    rintro e w3 ⟨v, out, rfl, ho3, hpo, hb3⟩
    have HO3 := Lib.hid ho3
    obtain ⟨r, rc, rfl, hat⟩ := ownG_pairs ho3
    obtain ⟨hinc, hlen, hsm⟩ := ris_ok HOK.out hpo
    have HR := Lib.hid hat
    have HB3 := Lib.hid (HB2.out.trans hb3)
    have HS := Lib.hid hsm
    have HI := Lib.hid hinc
    clear hb3 ho3 hat hsm hpo
    go_wp2_with (fail)
    refine (build_any r rc out w3 HR.out (by omega) (fun i hi => by have := HS.out i hi; omega)).mono ?_
    rintro e w4 ⟨rfl, hb4⟩
    have HB4 := Lib.hid (HB3.out.trans hb4)
    have HR4 := Lib.hid (HR.out.bel hb4)
    clear hb4
    rcases build_inc hinc with hbd | hbd
    · rw [hbd]
      clear hbd hinc
      go_wp2_with (fail)
      go_ret
      exact ⟨rfl, HB4.out⟩
    · obtain ⟨t, ht⟩ : ∃ t, encL [] (prs out) = t := ⟨_, rfl⟩
      rw [ht] at hbd
      obtain ⟨hrd, htl, hte⟩ := read_of hinc HS.out hbd
      rw [hbd]
      have htz := mk_size t
      have hdt : (⟨t.toArray⟩ : ByteArray).data.toList = t := by simp
      obtain ⟨tb, htb⟩ : ∃ tb : ByteArray, (⟨t.toArray⟩ : ByteArray) = tb := ⟨_, rfl⟩
      simp only []
      rw [htb] at htz hdt ⊢
      have HTE := Lib.hid hte
      have HDT := Lib.hid hdt
      by_cases h0 : tb.size = 0
      · have h0' : ((tb.size : Int) == 0) = true := by rw [beq_iff_eq]; omega
        clear hbd hinc ht htb hrd hdt hte htz
        go_wp2_with (fail)
        go_ret
        exact ⟨rfl, HB4.out⟩
      · have h0' : ((tb.size : Int) == 0) = false := by rw [beq_eq_false_iff_ne]; omega
        have hone : out ≠ [] := by
          rintro rfl
          have h9 : t = [] := hte
          rw [h9] at htz
          simp only [List.length_nil] at htz; omega
        obtain ⟨g, rcap, hrv, -, -, hrcap, -⟩ := ownG_cells pairOk HO3.out hone
        cases hrv
        have hk := pickN_lt at_ (n := tb.size) (by omega)
        have HTZ := Lib.hid htz
        have htb4 : tb.size ≤ 40000 := by omega
        have HMR := Lib.hid (search_none (f := fun _ => true) (show readL (t ++ [0]) = none from more_read HS.out hte htl))
        have hps := pick_at at_ (tb.size : Int) tb.size w4 HMM.out (by omega) (by omega) rfl
        have HPK := Lib.hid hps
        obtain ⟨k, hkk⟩ : ∃ k, pickN at_ tb.size = k := ⟨_, rfl⟩
        rw [hkk] at hk HPK
        have hkd : (tb.extract 0 k).data.toList = t.take k := by rw [ext_data, List.drop_zero, hdt]
        have HKD := Lib.hid hkd
        have hkz : (tb.extract 0 k).size = k := by rw [ByteArray.size_extract]; omega
        clear hbd hinc ht htb hrd hdt hte hps hkk hkd htz
        go_wp2_with (fail)
        refine HPK.out.mono ?_
        rintro e w5 ⟨rfl, hd5⟩
        have HB5 := Lib.hid (HB4.out.trans hd5.bel)
        have HR5 := Lib.hid (HR4.out.bel hd5.bel)
        clear hd5
        go_wp2_with (fail)
        refine (read_any (tb.extract 0 k) w5 (by omega)).mono ?_
        rintro e w6 ⟨v, M, rfl, hoM, hpM, hb6⟩
        obtain ⟨m, mc, rfl, hatM⟩ := ownG_pairs hoM
        have HB6 := Lib.hid (HB5.out.trans hb6)
        have HR6 := Lib.hid (HR5.out.bel hb6)
        have HM := Lib.hid hatM
        have HPM := Lib.hid hpM
        clear hb6 hatM hoM hpM
        obtain ⟨sf, hsf⟩ : ∃ sf, (searchL (tb.extract 0 k).data.toList (fun _ => true)).2 = sf := ⟨_, rfl⟩
        have HSF := Lib.hid hsf
        rw [hsf]
        clear hsf
        go_wp2_with (fail)
        refine (read_at _ (t ++ [0]) w6 ?_ ?_).mono ?_
        · rw [ByteArray.size_append]; show tb.size + 1 ≤ _; omega
        · rw [ByteArray.data_append, Array.toList_append, HDT.out]
        rintro e w7 ⟨v, N, rfl, hoN, hpN, hb7⟩
        rw [HMR.out]
        obtain ⟨n, nc, rfl⟩ := ownG_len hoN
        have HB7 := Lib.hid (HB6.out.trans hb7)
        have HR7 := Lib.hid (HR6.out.bel hb7)
        have HM7 := Lib.hid (HM.out.bel hb7)
        clear hb7 hoN hpN
        simp only []
        cases hrd : readL (t.take k) with
        | none =>
          have hm0 := HPM.out
          have hsf := HSF.out
          rw [HKD.out, search_none (f := fun _ => true) hrd] at hm0 hsf
          have hM0 : M = [] := by
            have := congrArg List.length hm0
            rw [prs_len] at this
            exact List.eq_nil_of_length_eq_zero this
          subst hM0
          obtain rfl : (8 : Int) = sf := hsf
          clear hm0 hrd
          go_wp2_with (fail)
          go_ret
          exact ⟨rfl, HB7.out⟩
        | some M' =>
          have hm0 := HPM.out
          have hsf := HSF.out
          rw [HKD.out, search_some (f := fun _ => true) hrd, filter_all] at hm0 hsf
          obtain rfl : (0 : Int) = sf := hsf
          simp only at hm0
          subst hm0
          obtain ⟨c1, c2, c3⟩ := cut_read HI.out HS.out HTE.out htl k (by have := HTZ.out; omega) hrd
          have HC2 := Lib.hid c2
          have hmin : (if out.length < M.length then out.length else M.length) = M.length := if_neg (by omega)
          have hmin2 : min M.length out.length = M.length := by omega
          have hmin3 : min (M.length : Int) (out.length : Int) = (M.length : Int) := by omega
          have hml : M.length ≤ rc := by omega
          have hml2 : (M.length : Int) < (out.length : Int) := by omega
          have htk : (out.take M.length).length = M.length := by rw [List.length_take]; omega
          have HBT := Lib.hid (fun z (hz : Bel w7 z) => build_at (some ⟨g, 0, none⟩) M.length rc (out.take M.length) (t.take k) 0 z ((HR7.out.bel hz).take M.length) htk.symm (by omega) (fun i hi => by have := (HS.out.take M.length) i hi; omega) c3)
          have htkl : (t.take k).length = k := by have := HTZ.out; rw [List.length_take]; omega
          clear hrd c2 c3
          have htkz := mk_size (t.take k)
          rw [htkl] at htkz
          have HTKZ := Lib.hid htkz
          go_wp2_with (fail)
          refine (HBT.out _ (Bel.refl w7)).mono ?_
          rintro e w8 ⟨rfl, hb8⟩
          have HB8 := Lib.hid (HB7.out.trans hb8)
          have HR8 := Lib.hid (show PairsAt w8 (some ⟨g, 0, none⟩) M by
            have h9 := (HR7.out.bel hb8).take M.length
            rw [← HC2.out] at h9; exact h9)
          have HM8 := Lib.hid (HM7.out.bel hb8)
          obtain ⟨tk, htk2⟩ : ∃ tk : ByteArray, (⟨(t.take k).toArray⟩ : ByteArray) = tk := ⟨_, rfl⟩
          rw [htk2] at htkz ⊢
          clear hb8 htk2
          go_wp2_with (fail)
          refine (same8_at m _ M.length M.length mc rc M w8 HM8.out HR8.out (by omega) rfl rfl).mono ?_
          rintro e w9 ⟨rfl, hd9⟩
          have HB9 := Lib.hid (HB8.out.trans hd9.bel)
          clear hd9
          go_wp2_with (fail)
          go_ret
          exact ⟨rfl, HB9.out⟩
  · have HB2 := Lib.hid (HB1.out.trans hb2)
    clear hb2
    go_wp2_with (fail)
    go_ret
    exact ⟨rfl, HB2.out⟩
end Go.Proofs.Ytldkpomkgmilbaa
