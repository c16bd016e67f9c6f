/- moultref6's Drop, Cut, Move. -/
import Derived.Test.YtedopiojidaeiaaFRop
set_option linter.unusedSimpArgs false
set_option linter.unusedVariables false
namespace Go.Proofs.Ytedopiojidaeiaa
open Go.RowKit Go.Deep Go.Maps

set_option maxHeartbeats 4000000 in
set_option maxRecDepth 20000 in
theorem rdrop_any (n₀ : Nat) (w : World) (b : Nat) (M : RS) (F : List Nat) (s : ByteArray) (h : RefP n₀ w b M F) (hM : M.ok) :
    Calls Try.prog 34 #[.pointer (some ⟨b, 0, none⟩), .string s] w fun e w' => e = .returned (.int .i64 (dropS s.data.toList M).1) ∧ RefTo n₀ w w' b (dropS s.data.toList M).2 F := by
  obtain ⟨v, h, hb, hv, hF⟩ := h
  have HR := Lib.hid h
  have HM := Lib.hid hM
  have hn : n₀ ≤ w.heap.size := Nat.le_of_lt (Nat.lt_of_le_of_lt h.low h.lt)
  have HTo := Lib.hid (fun x M' v' => ref_to (x := x) (M := M') (v' := v') hb hv hF hn)
  have hbF := Lib.hid hb
  clear h hM hb hv hF
  go_enter Try.func34, Try.ntmps34
  go_wp2_with (fail)
  refine (there_any n₀ _ b M v s HR.out (by have := HM.out.len; omega)).mono ?_
  rintro e w1 ⟨rfl, hb1⟩
  have HB := Lib.hid hb1
  clear hb1
  rw [there_eq _ HM.out.srt]
  unfold fileW
  cases hg : M.gone with
  | true =>
    have HA := Lib.hid (show dropS s.data.toList M = (7, M) by unfold dropS onS; rw [if_pos hg])
    have HT := Lib.hid (show thereG s.data.toList M = (noFile, 7) by unfold thereG; rw [if_pos hg])
    clear hg
    rw [HT.out]
    unfold noFile
    go_wp2_with (fail)
    go_ret
    rw [HA.out]
    exact ⟨rfl, HTo.out _ _ _ (HR.out.bel (HB.out.alloc _)) (Keep.of_bel (HB.out.alloc _) F) (Or.inl rfl)⟩
  | false =>
    cases hy : getF s.data.toList M.L with
    | none =>
      have HA := Lib.hid (show dropS s.data.toList M = (4, M) by unfold dropS onS; rw [if_neg (by rw [hg]; simp), hy])
      have HT := Lib.hid (show thereG s.data.toList M = (noFile, 4) by unfold thereG; rw [if_neg (by rw [hg]; simp), hy])
      clear hg hy
      rw [HT.out]
      unfold noFile
      go_wp2_with (fail)
      go_ret
      rw [HA.out]
      exact ⟨rfl, HTo.out _ _ _ (HR.out.bel (HB.out.alloc _)) (Keep.of_bel (HB.out.alloc _) F) (Or.inl rfl)⟩
    | some y =>
      have HT := Lib.hid (show thereG s.data.toList M = (y, 0) by unfold thereG; rw [if_neg (by rw [hg]; simp), hy])
      have HA := Lib.hid (show dropS s.data.toList M = chgS M (outS s.data.toList M.L) by unfold dropS onS; rw [if_neg (by rw [hg]; simp), hy])
      clear hg hy
      rw [HT.out]
      go_wp2_with (fail)
      refine (turn_any n₀ _ b M v (HR.out.bel (HB.out.alloc _)) HM.out.turns).mono ?_
      rintro e w2 ⟨rfl, h2, hk2⟩
      by_cases ht : M.turns = 0
      · have HC := Lib.hid (show dropS s.data.toList M = (7, (turnS M).2) by rw [HA.out]; unfold chgS; rw [if_pos ht])
        have HT1 := Lib.hid (show (turnS M).1 = 7 by rw [turn_zero ht])
        rw [HT1.out]
        have H2 := Lib.hid h2
        have HK2 := Lib.hid hk2
        clear h2 hk2 ht
        go_wp2_with (fail)
        go_ret
        rw [HC.out]
        exact ⟨rfl, HTo.out _ _ _ H2.out ((Keep.of_bel (HB.out.alloc _) F).trans HK2.out (one_in hbF.out)) (Or.inl rfl)⟩
      have HC := Lib.hid (show dropS s.data.toList M = (0, { (turnS M).2 with L := outS s.data.toList M.L }) by rw [HA.out]; unfold chgS; rw [if_neg ht])
      have HT1 := Lib.hid (turn_one ht)
      rw [HT1.out]
      have H2 := Lib.hid h2
      have HK2 := Lib.hid hk2
      clear h2 hk2 ht
      have hbw := HR.out.lt
      have hw1 := HB.out.size
      go_wp2_with (fail)
      refine (out_any n₀ _ b (turnS M).2 v H2.out s (by rw [turn_L]; have := HM.out.len; omega) (by have := HK2.out.size; simp at this; omega)).mono ?_
      rintro e w3 ⟨⟨u, rfl⟩, v', h4, hv4, hk4⟩
      rw [turn_L] at h4
      have H4 := Lib.hid h4
      have HV4 := Lib.hid hv4
      have HK4 := Lib.hid hk4
      clear h4 hv4 hk4
      go_wp2_with (fail)
      go_ret
      rw [HC.out]
      have K2 := ((Keep.of_bel (HB.out.alloc _) F).trans HK2.out (one_in hbF.out))
      exact ⟨rfl, HTo.out _ _ _ H4.out (K2.trans HK4.out (one_in hbF.out)) (HV4.out.imp id fun h k hk => ⟨Nat.le_trans K2.size (h k hk), (own_lt H4.out k hk).2⟩)⟩

theorem good_bytes' {M : RS} (h : M.ok) : bytesN M.L ≤ 1000000000 := by have := h.fits; have := h.room; omega
set_option maxHeartbeats 4000000 in
set_option maxRecDepth 20000 in
theorem rcut_any (n₀ : Nat) (w : World) (b : Nat) (M : RS) (F : List Nat) (s : ByteArray) (n : Int) (hn64 : in64 n) (h : RefP n₀ w b M F) (hM : M.ok) :
    Calls Try.prog 32 #[.pointer (some ⟨b, 0, none⟩), .string s, .int .i64 n] w fun e w' => e = .returned (.int .i64 (cutS s.data.toList n M).1) ∧ RefTo n₀ w w' b (cutS s.data.toList n M).2 F := by
  obtain ⟨v, h, hb, hv, hF⟩ := h
  have HR := Lib.hid h
  have HM := Lib.hid hM
  have hn : n₀ ≤ w.heap.size := Nat.le_of_lt (Nat.lt_of_le_of_lt h.low h.lt)
  have HTo := Lib.hid (fun x M' v' => ref_to (x := x) (M := M') (v' := v') hb hv hF hn)
  have hbF := Lib.hid hb
  clear h hM hb hv hF
  obtain ⟨hn1, hn2⟩ := hn64
  go_enter Try.func32, Try.ntmps32
  go_wp2_with (fail)
  refine (there_any n₀ _ b M v s HR.out (by have := HM.out.len; omega)).mono ?_
  rintro e w1 ⟨rfl, hb1⟩
  have HB := Lib.hid hb1
  clear hb1
  rw [there_eq _ HM.out.srt]
  unfold fileW
  cases hg : M.gone with
  | true =>
    have HA := Lib.hid (show cutS s.data.toList n M = (7, M) by unfold cutS onS; rw [if_pos hg])
    have HT := Lib.hid (show thereG s.data.toList M = (noFile, 7) by unfold thereG; rw [if_pos hg])
    clear hg
    rw [HT.out]
    unfold noFile
    go_wp2_with (fail)
    go_ret
    rw [HA.out]
    exact ⟨rfl, HTo.out _ _ _ (HR.out.bel (HB.out.alloc _)) (Keep.of_bel (HB.out.alloc _) F) (Or.inl rfl)⟩
  | false =>
    cases hy : getF s.data.toList M.L with
    | none =>
      have HA := Lib.hid (show cutS s.data.toList n M = (4, M) by unfold cutS onS; rw [if_neg (by rw [hg]; simp), hy])
      have HT := Lib.hid (show thereG s.data.toList M = (noFile, 4) by unfold thereG; rw [if_neg (by rw [hg]; simp), hy])
      clear hg hy
      rw [HT.out]
      unfold noFile
      go_wp2_with (fail)
      go_ret
      rw [HA.out]
      exact ⟨rfl, HTo.out _ _ _ (HR.out.bel (HB.out.alloc _)) (Keep.of_bel (HB.out.alloc _) F) (Or.inl rfl)⟩
    | some y =>
      have HT := Lib.hid (show thereG s.data.toList M = (y, 0) by unfold thereG; rw [if_neg (by rw [hg]; simp), hy])
      by_cases hc : n < 0 ∨ (y.bytes.length : Int) < n
      · have HA := Lib.hid (show cutS s.data.toList n M = (2, M) by unfold cutS onS; rw [if_neg (by rw [hg]; simp), hy]; simp only []; rw [if_pos hc])
        clear hg hy
        rw [HT.out]
        have hys : (⟨y.bytes.toArray⟩ : ByteArray).size = y.bytes.length := by show y.bytes.toArray.size = _; simp
        by_cases hc0 : n < 0
        · go_wp2_with (fail)
          go_ret
          rw [HA.out]
          exact ⟨rfl, HTo.out _ _ _ (HR.out.bel (HB.out.alloc _)) (Keep.of_bel (HB.out.alloc _) F) (Or.inl rfl)⟩
        · have hc1 : (y.bytes.length : Int) < n := by omega
          have hc2 : ¬ n < 0 := hc0
          go_wp2_with (fail)
          go_ret
          rw [HA.out]
          exact ⟨rfl, HTo.out _ _ _ (HR.out.bel (HB.out.alloc _)) (Keep.of_bel (HB.out.alloc _) F) (Or.inl rfl)⟩
      obtain ⟨n, rfl⟩ : ∃ k : Nat, n = k := ⟨n.toNat, by omega⟩
      have hnl : n ≤ y.bytes.length := by omega
      have HA := Lib.hid (show cutS s.data.toList n M = chgS M (insS { y with bytes := y.bytes.take n, safe := min y.safe n } M.L) by unfold cutS onS; rw [if_neg (by rw [hg]; simp), hy]; simp only []; rw [if_neg hc]; rfl)
      have hbn := bytes_mem (getF_mem hy)
      have hbm := good_bytes' HM.out
      clear hg hy hc
      rw [HT.out]
      have hys : (⟨y.bytes.toArray⟩ : ByteArray).size = y.bytes.length := by show y.bytes.toArray.size = _; simp
      go_wp2_with (fail)
      refine (turn_any n₀ _ b M v (HR.out.bel (HB.out.alloc _)) HM.out.turns).mono ?_
      rintro e w2 ⟨rfl, h2, hk2⟩
      by_cases ht : M.turns = 0
      · have HC := Lib.hid (show cutS s.data.toList n M = (7, (turnS M).2) by rw [HA.out]; unfold chgS; rw [if_pos ht])
        have HT1 := Lib.hid (show (turnS M).1 = 7 by rw [turn_zero ht])
        rw [HT1.out]
        have H2 := Lib.hid h2
        have HK2 := Lib.hid hk2
        clear h2 hk2 ht
        go_wp2_with (fail)
        go_ret
        rw [HC.out]
        exact ⟨rfl, HTo.out _ _ _ H2.out ((Keep.of_bel (HB.out.alloc _) F).trans HK2.out (one_in hbF.out)) (Or.inl rfl)⟩
      have HC := Lib.hid (show cutS s.data.toList n M = (0, { (turnS M).2 with L := insS { y with bytes := y.bytes.take n, safe := min y.safe n } M.L }) by rw [HA.out]; unfold chgS; rw [if_neg ht])
      have HT1 := Lib.hid (turn_one ht)
      rw [HT1.out]
      have H2 := Lib.hid h2
      have HK2 := Lib.hid hk2
      clear h2 hk2 ht
      have hbw := HR.out.lt
      have hw1 := HB.out.size
      have hnb : w1.heap.size ∉ [b] := by rw [List.mem_singleton]; omega
      have p0 : w2.cell? ⟨w1.heap.size, 0, none⟩ = some (.string ⟨y.name.toArray⟩) := HK2.out.cell (by go_simp) hnb
      have p1 : w2.cell? ⟨w1.heap.size, 1, none⟩ = some (.string ⟨y.bytes.toArray⟩) := HK2.out.cell (by go_simp) hnb
      have p2 : w2.cell? ⟨w1.heap.size, 2, none⟩ = some (.int .i64 y.safe) := HK2.out.cell (by go_simp) hnb
      have pf : ∀ i, w2.frozen? ⟨w1.heap.size, i, none⟩ = false := fun i => (HK2.out.frozen (by simp) hnb).trans (by simp)
      have hys : (⟨y.bytes.toArray⟩ : ByteArray).size = y.bytes.length := by show y.bytes.toArray.size = _; simp
      go_wp2_with (fail)
      have hmin : min (y.safe : Int) (n : Int) = ((min y.safe n : Nat) : Int) := by omega
      have hext : (⟨y.bytes.toArray⟩ : ByteArray).extract 0 n = ⟨(y.bytes.take n).toArray⟩ := by apply ByteArray.ext; simp [ByteArray.data_extract]
      rw [hmin, hext]
      have hf2 := (HR.out.far (i := 1) H2.out hw1 (.string ⟨(y.bytes.take n).toArray⟩))
      refine (put_any n₀ _ b (turnS M).2 v (HR.out.far hf2 hw1 _) { y with bytes := y.bytes.take n, safe := min y.safe n } (by rw [turn_L]; have := HM.out.len; omega) (by have := HK2.out.size; simp at this ⊢; omega)).mono ?_
      rintro e w3 ⟨⟨u, rfl⟩, v', h4, hv4, hk4⟩
      rw [turn_L] at h4
      have H4 := Lib.hid h4
      have HV4 := Lib.hid hv4
      have HK4 := Lib.hid hk4
      clear h4 hv4 hk4
      go_wp2_with (fail)
      go_ret
      rw [HC.out]
      have K2 := (((Keep.of_bel (HB.out.alloc _) F).trans HK2.out (one_in hbF.out)).setCell (p := ⟨w1.heap.size, 1, none⟩) (Or.inr hw1) (.string ⟨(y.bytes.take n).toArray⟩)).setCell (p := ⟨w1.heap.size, 2, none⟩) (Or.inr hw1) (.int .i64 ((min y.safe n : Nat) : Int))
      exact ⟨rfl, HTo.out _ _ _ H4.out (K2.trans HK4.out (one_in hbF.out)) (Or.inr fun k hk => ⟨Nat.le_trans K2.size (HV4.out k hk), (own_lt H4.out k hk).2⟩)⟩

set_option maxHeartbeats 4000000 in
set_option maxRecDepth 20000 in
theorem rmove_any (n₀ : Nat) (w : World) (b : Nat) (M : RS) (F : List Nat) (s : ByteArray) (t : ByteArray) (ht : t.size ≤ maxLen) (h : RefP n₀ w b M F) (hM : M.ok) :
    Calls Try.prog 33 #[.pointer (some ⟨b, 0, none⟩), .string s, .string t] w fun e w' => e = .returned (.int .i64 (moveS s.data.toList t.data.toList M).1) ∧ RefTo n₀ w w' b (moveS s.data.toList t.data.toList M).2 F := by
  obtain ⟨v, h, hb, hv, hF⟩ := h
  have HR := Lib.hid h
  have HM := Lib.hid hM
  have hn : n₀ ≤ w.heap.size := Nat.le_of_lt (Nat.lt_of_le_of_lt h.low h.lt)
  have HTo := Lib.hid (fun x M' v' => ref_to (x := x) (M := M') (v' := v') hb hv hF hn)
  have hbF := Lib.hid hb
  clear h hM hb hv hF
  go_enter Try.func33, Try.ntmps33
  go_wp2_with (fail)
  refine (there_any n₀ _ b M v s HR.out (by have := HM.out.len; omega)).mono ?_
  rintro e w1 ⟨rfl, hb1⟩
  have HB := Lib.hid hb1
  clear hb1
  rw [there_eq _ HM.out.srt]
  unfold fileW
  cases hg : M.gone with
  | true =>
    have HA := Lib.hid (show moveS s.data.toList t.data.toList M = (7, M) by unfold moveS onS; rw [if_pos hg])
    have HT := Lib.hid (show thereG s.data.toList M = (noFile, 7) by unfold thereG; rw [if_pos hg])
    clear hg
    rw [HT.out]
    unfold noFile
    go_wp2_with (fail)
    refine (rname_any t _ ht).mono ?_
    rintro e w5 ⟨rfl, hd5⟩
    have HD5 := Lib.hid hd5.bel
    clear hd5
    go_wp2_with (fail)
    go_ret
    rw [HA.out]
    exact ⟨rfl, HTo.out _ _ _ (HR.out.bel ((HB.out.alloc _).trans HD5.out)) (Keep.of_bel ((HB.out.alloc _).trans HD5.out) F) (Or.inl rfl)⟩
  | false =>
    cases hy : getF s.data.toList M.L with
    | none =>
      have HA := Lib.hid (show moveS s.data.toList t.data.toList M = (4, M) by unfold moveS onS; rw [if_neg (by rw [hg]; simp), hy])
      have HT := Lib.hid (show thereG s.data.toList M = (noFile, 4) by unfold thereG; rw [if_neg (by rw [hg]; simp), hy])
      clear hg hy
      rw [HT.out]
      unfold noFile
      go_wp2_with (fail)
      refine (rname_any t _ ht).mono ?_
      rintro e w5 ⟨rfl, hd5⟩
      have HD5 := Lib.hid hd5.bel
      clear hd5
      go_wp2_with (fail)
      go_ret
      rw [HA.out]
      exact ⟨rfl, HTo.out _ _ _ (HR.out.bel ((HB.out.alloc _).trans HD5.out)) (Keep.of_bel ((HB.out.alloc _).trans HD5.out) F) (Or.inl rfl)⟩
    | some y =>
      have HT := Lib.hid (show thereG s.data.toList M = (y, 0) by unfold thereG; rw [if_neg (by rw [hg]; simp), hy])
      cases hnm : nameB t.data.toList with
      | false =>
        have HA := Lib.hid (show moveS s.data.toList t.data.toList M = (3, M) by unfold moveS onS; rw [if_neg (by rw [hg]; simp), hy]; simp only []; rw [if_pos hnm])
        clear hg hy
        rw [HT.out]
        go_wp2_with (fail)
        refine (rname_any t _ ht).mono ?_
        rintro e w5 ⟨rfl, hd5⟩
        rw [hnm]
        have HD5 := Lib.hid hd5.bel
        clear hd5
        go_wp2_with (fail)
        go_ret
        rw [HA.out]
        exact ⟨rfl, HTo.out _ _ _ (HR.out.bel ((HB.out.alloc _).trans HD5.out)) (Keep.of_bel ((HB.out.alloc _).trans HD5.out) F) (Or.inl rfl)⟩
      | true =>
        have HA := Lib.hid (show moveS s.data.toList t.data.toList M = chgS M (insS { y with name := t.data.toList } (outS s.data.toList M.L)) by unfold moveS onS; rw [if_neg (by rw [hg]; simp), hy]; simp only []; rw [if_neg (by rw [hnm]; simp)])
        clear hg hy
        rw [HT.out]
        go_wp2_with (fail)
        refine (rname_any t _ ht).mono ?_
        rintro e w5 ⟨rfl, hd5⟩
        rw [hnm]
        have HD5 := Lib.hid hd5.bel
        have HB5 := Lib.hid ((HB.out.alloc (.cells #[.string ⟨y.name.toArray⟩, .string ⟨y.bytes.toArray⟩, .int .i64 y.safe] 64)).trans HD5.out)
        have hz1 : w1.heap.size < w5.heap.size := by have := hd5.bel.size; simp at this; omega
        have q0 : w5.cell? ⟨w1.heap.size, 0, none⟩ = some (.string ⟨y.name.toArray⟩) := cell_later HD5.out (by go_simp)
        have q1 : w5.cell? ⟨w1.heap.size, 1, none⟩ = some (.string ⟨y.bytes.toArray⟩) := cell_later HD5.out (by go_simp)
        have q2 : w5.cell? ⟨w1.heap.size, 2, none⟩ = some (.int .i64 y.safe) := cell_later HD5.out (by go_simp)
        have qf : ∀ i, w5.frozen? ⟨w1.heap.size, i, none⟩ = false := fun i => (HD5.out.frozen _ _ (by simp)).trans (by simp)
        clear hd5
        go_wp2_with (fail)
        refine (turn_any n₀ _ b M v (HR.out.bel (HB5.out)) HM.out.turns).mono ?_
        rintro e w2 ⟨rfl, h2, hk2⟩
        by_cases ht0 : M.turns = 0
        · have HC := Lib.hid (show moveS s.data.toList t.data.toList M = (7, (turnS M).2) by rw [HA.out]; unfold chgS; rw [if_pos ht0])
          have HT1 := Lib.hid (show (turnS M).1 = 7 by rw [turn_zero ht0])
          rw [HT1.out]
          have H2 := Lib.hid h2
          have HK2 := Lib.hid hk2
          clear h2 hk2 ht0
          go_wp2_with (fail)
          go_ret
          rw [HC.out]
          exact ⟨rfl, HTo.out _ _ _ H2.out ((Keep.of_bel (HB5.out) F).trans HK2.out (one_in hbF.out)) (Or.inl rfl)⟩
        have HC := Lib.hid (show moveS s.data.toList t.data.toList M = (0, { (turnS M).2 with L := insS { y with name := t.data.toList } (outS s.data.toList M.L) }) by rw [HA.out]; unfold chgS; rw [if_neg ht0])
        have HT1 := Lib.hid (turn_one ht0)
        rw [HT1.out]
        have H2 := Lib.hid h2
        have HK2 := Lib.hid hk2
        clear h2 hk2 ht0
        have hbw := HR.out.lt
        have hw1 := HB.out.size
        have hnb : w1.heap.size ∉ [b] := by rw [List.mem_singleton]; omega
        go_wp2_with (fail)
        refine (out_any n₀ _ b (turnS M).2 v H2.out s (by rw [turn_L]; have := HM.out.len; omega) (by have := HK2.out.size; omega)).mono ?_
        rintro e w3 ⟨⟨u, rfl⟩, v', h4, hv4, hk4⟩
        rw [turn_L] at h4
        have H4 := Lib.hid h4
        have HV4 := Lib.hid hv4
        have HK4 := Lib.hid ((HK2.out).trans hk4 (fun x hx => Or.inl hx))
        clear h4 hv4 hk4
        have p0 : w3.cell? ⟨w1.heap.size, 0, none⟩ = some (.string ⟨y.name.toArray⟩) := HK4.out.cell q0 hnb
        have p1 : w3.cell? ⟨w1.heap.size, 1, none⟩ = some (.string ⟨y.bytes.toArray⟩) := HK4.out.cell q1 hnb
        have p2 : w3.cell? ⟨w1.heap.size, 2, none⟩ = some (.int .i64 y.safe) := HK4.out.cell q2 hnb
        have pf : ∀ i, w3.frozen? ⟨w1.heap.size, i, none⟩ = false := fun i => (HK4.out.frozen hz1 hnb).trans (qf i)
        clear q0 q1 q2 qf
        go_wp2_with (fail)
        have hfv : fileV { y with name := t.data.toList } = .agg #[.string t, .string ⟨y.bytes.toArray⟩, .int .i64 y.safe] := by unfold fileV; simp
        have h41 := H4.out.keep (keep_set w3 w1.heap.size 0 (.string t)) (by rw [List.mem_singleton]; omega) (fun k hk => by
          rw [List.mem_singleton]
          have := HK2.out.size
          rcases HV4.out with rfl | hv4
          · have := (own_lt HR.out k hk).2; omega
          · have := hv4 k hk; omega)
        have P := put_any n₀ _ b _ v' h41 { y with name := t.data.toList } (by show (outS s.data.toList M.L).length ≤ 100; rw [len_out _ HM.out.srt]; have := HM.out.len; split <;> omega) (by have := HK4.out.size; simp; omega)
        rw [hfv] at P
        refine P.mono ?_
        rintro e w4 ⟨⟨u, rfl⟩, v4, h5, hv5, hk5⟩
        have H5 := Lib.hid h5
        have HV5 := Lib.hid hv5
        have HK5 := Lib.hid hk5
        clear h5 hv5 hk5 P h41
        go_wp2_with (fail)
        go_ret
        rw [HC.out]
        have K2 := ((Keep.of_bel HB5.out F).trans HK4.out (one_in hbF.out)).setCell (p := ⟨w1.heap.size, 0, none⟩) (Or.inr hw1) (.string t)
        exact ⟨rfl, HTo.out _ _ _ H5.out (K2.trans HK5.out (one_in hbF.out)) (Or.inr fun k hk => ⟨Nat.le_trans K2.size (HV5.out k hk), (own_lt H5.out k hk).2⟩)⟩

end Go.Proofs.Ytedopiojidaeiaa
