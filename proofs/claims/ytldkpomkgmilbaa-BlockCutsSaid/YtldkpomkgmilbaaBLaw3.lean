/- The laws BlockRows and BlockCuts walked. -/
import Derived.Test.YtldkpomkgmilbaaBLaw2
set_option linter.unusedSimpArgs false
set_option linter.unusedVariables false
namespace Go.Proofs.Ytldkpomkgmilbaa
open Go.RowKit Go.Deep

theorem drw_cell {w x : World} (h : Drw w x) (a : Addr) : x.cell? a = w.cell? a := by obtain ⟨n, rfl⟩ := h; rfl
theorem prs_take (L : List PB) (k : Nat) : prs (L.take k) = (prs L).take k := List.map_take ..
/-- Each row but the last one is full, and not without its last pair. -/
theorem splitB_full (most : Int) (L : List PB) (i : Nat) (hi : i < (splitB most L []).length) :
    (splitB most L [])[i] ≠ [] ∧ (∀ k, 0 < k → k < (splitB most L [])[i].length → ((tot (prs ((splitB most L [])[i].take k)) : Nat) : Int) < most) ∧ (i + 1 < (splitB most L []).length → most ≤ ((tot (prs (splitB most L [])[i]) : Nat) : Int)) := by
  have e := splitB_prs most L []
  obtain ⟨h1, h2⟩ := split_full most (prs L) (prs []) (by intro k h1 h2; simp [prs] at h2; omega)
  rw [← e] at h1 h2
  have hm : prs (splitB most L [])[i] ∈ (splitB most L []).map prs := List.mem_map.2 ⟨_, List.getElem_mem hi, rfl⟩
  obtain ⟨g1, g2⟩ := h1 _ hm
  refine ⟨fun e0 => g1 (by rw [e0]; rfl), fun k hk hk2 => by rw [prs_take]; exact g2 k hk (by rw [prs_len]; exact hk2), fun hlast => h2 _ ?_⟩
  rw [← List.map_dropLast]
  refine List.mem_map.2 ⟨(splitB most L [])[i], ?_, rfl⟩
  have hd : i < (splitB most L []).dropLast.length := by rw [List.length_dropLast]; omega
  have := List.getElem_dropLast hd
  rw [← this]
  exact List.getElem_mem hd
theorem splitB_mem (most : Int) (L : List PB) (r : List PB) (hr : r ∈ splitB most L []) : ∀ p ∈ r, p ∈ L := by
  intro p hp
  have h := splitB_join most L []
  rw [List.nil_append] at h
  rw [← h, List.mem_flatten]
  exact ⟨r, hr, hp⟩
theorem small_mem {n : Nat} {L : List PB} (h : smallP n L) {p : PB} (hp : p ∈ L) : p.k.size ≤ n ∧ p.v.size ≤ n := by
  obtain ⟨i, hi, rfl⟩ := List.getElem_of_mem hp
  exact h i hi
/-- Pairs that lie as pairs can be appended. -/
theorem src_pairs {w : World} {p : Option Addr} {L : List PB} {cap : Nat} (h : PairsAt w p L) (hne : L ≠ []) : SrcAt pairEl w (.slice p L.length cap) L := by
  obtain ⟨a, _, _, _, hp, _⟩ := h 0 (List.length_pos_iff.2 hne)
  subst hp
  refine Or.inr ⟨a, cap, rfl, fun j u hj => ?_⟩
  have hjl : j < L.length * 2 := by
    have h1 := El.all_len pairOk L
    have h2 := (List.getElem?_eq_some_iff.1 hj).1
    rw [h1] at h2; exact h2
  obtain ⟨i, b, hb, rfl⟩ : ∃ i b, b < 2 ∧ j = i * 2 + b := ⟨j / 2, j % 2, Nat.mod_lt _ (by omega), by omega⟩
  have hi : i < L.length := by omega
  obtain ⟨a', B, O, sp, ha', hadd, c0, c1⟩ := h i hi
  cases ha'
  have hg := El.all_get pairOk L i L[i] (List.getElem?_eq_getElem hi) b (by show b < 2; exact hb)
  have e2 : pairEl.n = 2 := rfl
  rw [e2] at hg
  rw [hg] at hj
  have hb2 : b = 0 ∨ b = 1 := by omega
  rcases hb2 with rfl | rfl
  · have : u = .string L[i].k := by simpa [pairEl] using hj.symm
    rw [this, Nat.add_zero, hadd]; exact c0
  · have : u = .string L[i].v := by simpa [pairEl] using hj.symm
    rw [this]
    have e3 : a.add (i * 2 + 1) = ⟨B, O + 1, none⟩ := by
      by_cases h0 : i * 2 = 0
      · rw [h0] at hadd ⊢
        have : a = ⟨B, O, sp⟩ := hadd
        subst this
        simp [Addr.add]
      · have h9 : i * 2 + 1 ≠ 0 := by omega
        simp only [Addr.add, h0, if_false] at hadd
        simp only [Addr.add, h9, if_false]
        simp at hadd
        obtain ⟨e4, e5, -⟩ := hadd
        rw [e4, ← e5, Nat.add_assoc]
    rw [e3]; exact c1
theorem tot_take_succ (r : List PB) (k : Nat) (h : k < r.length) : tot (prs (r.take (k + 1))) = tot (prs (r.take k)) + r[k].k.size + r[k].v.size := by
  rw [← List.take_append_getElem h, tot_prs_snoc]
theorem tot_bound {n : Nat} (r : List PB) (h : smallP n r) : ∀ k, k ≤ r.length → tot (prs (r.take k)) ≤ k * (2 * n)
  | 0, _ => by simp [prs, tot]
  | k + 1, hk => by
    have ih := tot_bound r h k (by omega)
    have := h k (by omega)
    rw [tot_take_succ r k (by omega), Nat.add_mul]; omega

set_option maxHeartbeats 4000000 in
set_option maxRecDepth 20000 in
theorem law_rows_any (w : World) (p : Option Addr) (cap : Nat) (L : List PB) (most : Int) (h : PairsAt w p L) (hL : L.length ≤ maxLen) (hs : smallP maxLen L) (hm : -9223372036854775808 ≤ most ∧ most ≤ 9223372036854775807) :
    Calls Try.prog 7 #[.slice p L.length cap, .int .i64 most] w fun e w' => e = .returned (.bool true) ∧ Bel w w' := by
  have H := Lib.hid h; clear h
  have HSM := Lib.hid hs; clear hs
  have HL := Lib.hid hL
  unfold maxLen at hL
  go_enter Try.func7, Try.ntmps7
  go_wp2_with (fail)
  refine (shown_any w).mono ?_
  rintro e w1 ⟨rfl, hb1⟩
  have HB1 := Lib.hid hb1; clear hb1
  go_wp2_with (fail)
  refine (as_any p cap L w1 (H.out.bel HB1.out) HL.out HSM.out).mono ?_
  rintro e w2 ⟨hb2, (⟨hok, v, rfl, ho⟩ | ⟨hno, v, rfl⟩)⟩
  · have HB2 := Lib.hid (HB1.out.trans hb2)
    have HOK := Lib.hid hok
    obtain ⟨q, qc, rfl, hat⟩ := ownG_rpairs ho
    have h60 := hok.1
    clear hb2 hok ho hat
    go_wp2_with (fail)
    refine (split_at p cap L most w2 (H.out.bel HB2.out) (as_len HOK.out) (as_small HOK.out)).mono ?_
    rintro e w3 ⟨x, xc, rfl, hx, hb3⟩
    have HB3 := Lib.hid (HB2.out.trans hb3)
    have HX := Lib.hid hx
    have hrl := splitB_len most L []
    have HROW := Lib.hid (splitB_full most L)
    have HMEM := Lib.hid (fun i (hi : i < (splitB most L []).length) => show smallP 1500 (splitB most L [])[i] ∧ (splitB most L [])[i].length ≤ 60 from ⟨fun j hj => by
      obtain ⟨n, hn, e⟩ := List.getElem_of_mem (splitB_mem most L _ (List.getElem_mem hi) _ (List.getElem_mem hj))
      have := HOK.out.2 n hn
      rw [e] at this; omega, by
      have := splitB_row most L [] _ (List.getElem_mem hi)
      simp only [List.length_nil] at this; omega⟩)
    have HJ := Lib.hid (show (splitB most L []).flatten = L by rw [splitB_join]; simp)
    clear hb3 hx
    generalize hR : splitB most L [] = R at *
    clear hR
    have HTK := Lib.hid (fun i (hi : i < R.length) => show (R.take (i + 1)).flatten = (R.take i).flatten ++ R[i] by rw [← List.take_append_getElem hi, List.flatten_append]; simp)
    have HTL := Lib.hid (fun i => show (R.take i).flatten.length ≤ L.length by
      have := congrArg List.length HJ.out
      rw [← List.take_append_drop i R, List.flatten_append, List.length_append] at this
      rw [← this]
      omega)
    go_wp2_with (fail)
    go_loopw [9, 10] (fun av i x => (∃ k : Nat, k ≤ R.length ∧ i = .int .i64 k ∧ OwnG pairEl w3.heap.size x av (R.take k).flatten) ∧ Bel w3 x) (fun _ i _ => R.length - (intOf i).toNat)
    case atStart => exact ⟨⟨0, Nat.zero_le _, rfl, by simpa using OwnG.nil pairEl w3.heap.size w3⟩, Bel.refl w3⟩
    case round =>
      obtain ⟨⟨i, hi, rfl, hown⟩, hw⟩ := hrel
      obtain ⟨ap, ac, rfl⟩ := ownG_len hown
      have HO := Lib.hid hown
      have HW := Lib.hid hw
      by_cases hlt : i < R.length
      · obtain ⟨a1, q1, c1, rfl, hc1, hp1⟩ := (HX.out.bel hw) i hlt
        obtain ⟨r1, r2, r3⟩ := HROW.out i hlt
        obtain ⟨m1, m2⟩ := HMEM.out i hlt
        have HTB := Lib.hid (tot_bound R[i] m1)
        have HTS := Lib.hid (tot_take_succ R[i])
        have HP1 := Lib.hid hp1
        have HR2 := Lib.hid r2
        have HM1 := Lib.hid m1
        have HTI := Lib.hid (HTK.out i hlt)
        have hpos := List.length_pos_iff.2 r1
        have htl := HTL.out (i + 1)
        rw [HTI.out, List.length_append] at htl
        have hne : ¬ (R[i].length : Int) = 0 := by omega
        have hneb : ((R[i].length : Int) == 0) = false := by rw [beq_eq_false_iff_ne]; exact hne
        clear hown hw r2 m1 hp1
        obtain ⟨y, hy⟩ : ∃ y, y = wr := ⟨_, rfl⟩
        subst hy
        have hal : (R.take i).flatten.length ≤ 60 := by omega
        obtain ⟨AL, hALe⟩ : ∃ AL, (R.take i).flatten = AL := ⟨_, rfl⟩
        rw [hALe] at HO HTI hal htl ⊢
        obtain ⟨al, hale⟩ : ∃ al, AL.length = al := ⟨_, rfl⟩
        rw [hale] at HO hal htl ⊢
        clear hALe
        go_wp2_with (fail)
        go_loopw [11, 12] (fun nv kv x => (∃ k : Nat, k ≤ R[i].length ∧ kv = .int .i64 k ∧ nv = .int .i64 (tot (prs (R[i].take k)) : Nat)) ∧ Drw y x) (fun _ kv _ => R[i].length - (intOf kv).toNat)
        case atStart => exact ⟨⟨0, Nat.zero_le _, rfl, by simp [prs, tot]⟩, Drw.refl _⟩
        case round =>
          obtain ⟨⟨k, hk, rfl, rfl⟩, hd⟩ := hrel
          have HD := Lib.hid hd
          have hc2 : wr.cell? (a1.add i) = some (.slice q1 R[i].length c1) := (drw_cell hd _).trans hc1
          have hTB := HTB.out k hk
          have HO2 := Lib.hid (HO.out.bel hd.bel)
          have HW2 := Lib.hid (HW.out.trans hd.bel)
          by_cases hk2 : k < R[i].length
          · obtain ⟨a2, B, O, sp, rfl, ha2, d0, d1⟩ := HP1.out k hk2
            have e0 : wr.cell? ⟨B, O, sp⟩ = some (.string R[i][k].k) := (drw_cell hd _).trans d0
            have e1 : wr.cell? ⟨B, O + 1, none⟩ = some (.string R[i][k].v) := (drw_cell hd _).trans d1
            obtain ⟨s1, s2⟩ := HM1.out k hk2
            have HT1 := Lib.hid (HTS.out k hk2)
            have hlow := HR2.out k
            obtain ⟨T, hT⟩ : ∃ T, tot (prs (R[i].take k)) = T := ⟨_, rfl⟩
            rw [hT] at HT1 hTB hlow ⊢
            have va : IntKind.i64.wrap ((T : Int) + (R[i][k].k.size : Int)) = (T : Int) + (R[i][k].k.size : Int) := IntWalk.i64_in _ (by omega)
            have vb : IntKind.i64.wrap ((T : Int) + (R[i][k].k.size : Int) + (R[i][k].v.size : Int)) = (T : Int) + (R[i][k].k.size : Int) + (R[i][k].v.size : Int) := IntWalk.i64_in _ (by omega)
            have HK2 := Lib.hid hk2
            have i2 : (k : Int) < (R[i].length : Int) := by omega
            by_cases hmo : most ≤ (T : Int)
            · have k0 : k = 0 := by
                rcases Nat.eq_zero_or_pos k with h | h
                · exact h
                · have := hlow h hk2; omega
              have k0' : ¬ (0 : Int) < (k : Int) := by omega
              have HK0 := Lib.hid k0
              clear hT d0 d1 hc1 hlow k0 hd
              go_wp2_with (fail)
              go_quiet (fail)
              go_wp2_with (fail)
              go_roundw
              case rel => exact ⟨⟨k + 1, by have := HK2.out; omega, by go_num, by rw [HT1.out]; simp⟩, HD.out.drewN _⟩
              case measure => have := HK2.out; simp [intOf]; omega
            · clear hT d0 d1 hc1 hlow hd
              go_wp2_with (fail)
              go_quiet (fail)
              go_wp2_with (fail)
              go_roundw
              case rel => exact ⟨⟨k + 1, by have := HK2.out; omega, by go_num, by rw [HT1.out]; simp⟩, HD.out.drewN _⟩
              case measure => have := HK2.out; simp [intOf]; omega
          · have hkl : k = R[i].length := by omega
            have hta : R[i].take k = R[i] := List.take_of_length_le (by omega)
            rw [hta] at hTB ⊢
            have HP3 := Lib.hid (HP1.out.bel hd.bel)
            have HTI2 := Lib.hid HTI.out
            have hsrc := src_pairs (cap := c1) HP3.out r1
            have HSRC := Lib.hid hsrc
            have hz3 : w3.heap.size ≤ wr.heap.size := HW2.out.size
            obtain ⟨T, hT⟩ : ∃ T, tot (prs R[i]) = T := ⟨_, rfl⟩
            rw [hT] at hTB r3 ⊢
            have hcond : (T : Int) < most → ¬ (i + 1 < R.length) := fun h1 h2 => by have := r3 h2; omega
            have hcond2 : (most ≤ (T : Int)) ∨ ¬ ((i : Int) < (R.length : Int) - 1) := by
              by_cases h9 : i + 1 < R.length
              · exact Or.inl (r3 h9)
              · exact Or.inr (by omega)
            have vr : IntKind.i64.wrap ((R.length : Int) - 1) = (R.length : Int) - 1 := IntWalk.i64_in _ (by omega)
            subst hkl
            clear hT hta hd hcond hc1 hTB r3 hsrc
            rcases hcond2 with hmo | hnl
            · go_wp2_with (at_builtin; refine stop_here ?_)
              refine go_on ?_
              refine append_all pairOk rfl _ _ rfl rfl HO2.out R[i] rfl HSRC.out (by unfold maxLen; omega) (by omega) hz3 ?_
              intro v4 w4 ho4 hk4 hv4
              have HO4 := Lib.hid ho4
              have HW4 := Lib.hid (HW2.out.trans_below (hk4.own hz3 (fun k hk => (HO2.out.lt k hk).1)))
              clear ho4 hk4 hv4
              go_wp2_with (fail)
              go_roundw
              case rel => exact ⟨⟨i + 1, hlt, by go_num, by rw [HTI2.out]; exact HO4.out⟩, HW4.out⟩
              case measure => simp [intOf]; omega
            · by_cases hmo : most ≤ (T : Int)
              · go_wp2_with (at_builtin; refine stop_here ?_)
                refine go_on ?_
                refine append_all pairOk rfl _ _ rfl rfl HO2.out R[i] rfl HSRC.out (by unfold maxLen; omega) (by omega) hz3 ?_
                intro v4 w4 ho4 hk4 hv4
                have HO4 := Lib.hid ho4
                have HW4 := Lib.hid (HW2.out.trans_below (hk4.own hz3 (fun k hk => (HO2.out.lt k hk).1)))
                clear ho4 hk4 hv4
                go_wp2_with (fail)
                go_roundw
                case rel => exact ⟨⟨i + 1, hlt, by go_num, by rw [HTI2.out]; exact HO4.out⟩, HW4.out⟩
                case measure => simp [intOf]; omega
              · go_wp2_with (at_builtin; refine stop_here ?_)
                refine go_on ?_
                refine append_all pairOk rfl _ _ rfl rfl HO2.out R[i] rfl HSRC.out (by unfold maxLen; omega) (by omega) hz3 ?_
                intro v4 w4 ho4 hk4 hv4
                have HO4 := Lib.hid ho4
                have HW4 := Lib.hid (HW2.out.trans_below (hk4.own hz3 (fun k hk => (HO2.out.lt k hk).1)))
                clear ho4 hk4 hv4
                go_wp2_with (fail)
                go_roundw
                case rel => exact ⟨⟨i + 1, hlt, by go_num, by rw [HTI2.out]; exact HO4.out⟩, HW4.out⟩
                case measure => simp [intOf]; omega
      · have hall : (R.take i).flatten = L := by rw [List.take_of_length_le (by omega), HJ.out]
        rw [hall] at hown ⊢
        obtain ⟨p9, c9, hv9, hat9⟩ := ownG_pairs hown
        cases hv9
        have HP9 := Lib.hid hat9
        have HB9 := Lib.hid (HB3.out.trans hw)
        clear hown hw hall hat9
        go_wp2_with (fail)
        refine (same8_any ap p ac cap L wr HP9.out (H.out.bel HB9.out) (by omega)).mono ?_
        rintro e w10 ⟨rfl, hd10⟩
        have HB10 := Lib.hid (HB9.out.trans hd10.bel)
        clear hd10
        go_wp2_with (fail)
        go_ret
        exact ⟨rfl, HB10.out⟩
  · have HB2 := Lib.hid (HB1.out.trans hb2)
    clear hb2
    go_wp2_with (fail)
    go_ret
    exact ⟨rfl, HB2.out⟩
end Go.Proofs.Ytldkpomkgmilbaa
