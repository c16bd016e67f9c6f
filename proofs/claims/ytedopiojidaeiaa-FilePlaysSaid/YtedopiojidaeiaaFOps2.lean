/- file's Cut, Drop, Move. -/
import Derived.Test.YtedopiojidaeiaaFOps
set_option linter.unusedSimpArgs false
set_option linter.unusedVariables false
namespace Go.Proofs.Ytedopiojidaeiaa
open Go.RowKit Go.Deep Go.Maps

set_option maxHeartbeats 4000000 in
set_option maxRecDepth 20000 in
theorem pdrop_any (n₀ : Nat) (w : World) (b : Nat) (M : RS) (F : List Nat) (s : ByteArray) (h : ProgAt n₀ w b M F) (hs : s.size ≤ maxLen) (hS : Srt M.L) (hL : M.L.length ≤ 1000) :
    Calls Try.prog 30 #[.pointer (some ⟨b, 0, none⟩), .string s] w fun e w' => e = .returned (.int .i64 (dropS s.data.toList M).1) ∧ ProgTo n₀ w w' b (dropS s.data.toList M).2 F := by
  have HP := Lib.hid h
  obtain ⟨⟨mv, t, hb, ht, h64, hf⟩, hlow, hbF, hFw⟩ := h
  have B2 := Lib.hid (((Bel.refl w).alloc (.cells #[.pointer (some ⟨b, 0, none⟩)] 25)).alloc (.cells #[.string s] 9))
  cases hg : M.gone with
  | true =>
    have HA := Lib.hid (show dropS s.data.toList M = (7, M) by unfold dropS onS; rw [if_pos hg])
    have HG := Lib.hid hg
    clear hb hf hg hFw ht h64
    go_enter Try.func30, Try.ntmps30
    go_wp2_with (fail)
    refine (find_gone n₀ _ b M F s (HP.out.bel B2.out) HG.out).mono ?_
    rintro e w1 ⟨rfl, hb1⟩
    have HB := Lib.hid (B2.out.trans hb1)
    clear hb1
    unfold conZ
    go_wp2_with (fail)
    go_ret
    rw [HA.out]
    exact ⟨rfl, HP.out.to (HB.out.alloc _)⟩
  | false =>
    cases hy : getF s.data.toList M.L with
    | none =>
      have HA := Lib.hid (show dropS s.data.toList M = (4, M) by unfold dropS onS; rw [hg, hy]; rfl)
      have HG := Lib.hid hg
      have HY := Lib.hid hy
      clear hb hf hg hy hFw ht h64
      go_enter Try.func30, Try.ntmps30
      go_wp2_with (fail)
      refine (find_none n₀ _ b M F s (HP.out.bel B2.out) HG.out hs HY.out).mono ?_
      rintro e w1 ⟨rfl, hb1⟩
      have HB := Lib.hid (B2.out.trans hb1)
      clear hb1
      unfold conZ
      go_wp2_with (fail)
      go_ret
      rw [HA.out]
      exact ⟨rfl, HP.out.to (HB.out.alloc _)⟩
    | some y =>
      rcases hf with ⟨_, hL0⟩ | ⟨mb, D, V, rfl, hV, hmF, hvF⟩
      · rw [hL0] at hy; cases hy
      have HA := Lib.hid (show dropS s.data.toList M = chgS M (outS s.data.toList M.L) by unfold dropS onS; rw [hg, hy]; rfl)
      have hsn : s.data.toList = y.name := (getF_name hy).symm
      obtain ⟨p, cap, hp, -⟩ := own_len (hV.val y (getF_mem hy) (by simp))
      have HF := Lib.hid (fun x (hx : Bel w x) => find_some n₀ x b M mb t D V s y ((Keep.of_bel hx []).at hb (by simp)) (hV.bel hx) hg hs hy)
      rw [hsn, hp] at HF
      unfold conV at HF
      have HV := Lib.hid hV
      have HH := Lib.hid (show Hdr w b M (.map (some mb)) t from ⟨hb, ht, h64⟩)
      have HS := Lib.hid hS
      have HY := Lib.hid hy
      have HPV := Lib.hid hp
      have HFW := Lib.hid hFw
      have HMF := Lib.hid hmF
      have HVF := Lib.hid hvF
      have hbw : b < w.heap.size := (hFw b hbF).2
      clear hb hV hg hy hp hFw ht h64 hmF hvF hS hsn
      go_enter Try.func30, Try.ntmps30
      go_wp2_with (fail)
      refine (HF.out _ B2.out).mono ?_
      rintro e w1 ⟨rfl, hb1⟩
      have HB := Lib.hid (B2.out.trans hb1)
      have hz : w.heap.size + 1 < w1.heap.size := by have := hb1.size; simp at this; omega
      have hz0 : w.heap.size < w1.heap.size := by omega
      have k0 : w1.cell? ⟨w.heap.size, 0, none⟩ = some (.pointer (some ⟨b, 0, none⟩)) := cell_later hb1 (by go_simp)
      have k1 : w1.cell? ⟨w.heap.size + 1, 0, none⟩ = some (.string s) := cell_later hb1 (by go_simp)
      clear hb1
      go_wp2_with (fail)
      obtain ⟨w2, hw2⟩ : ∃ w2, w2 = w1.alloc (.cells #[.slice p y.bytes.length cap, .int .i64 y.safe] 56) := ⟨_, rfl⟩
      rw [← hw2]
      have HB2 := Lib.hid (show Bel w w2 by rw [hw2]; exact HB.out.alloc _)
      have m0 : w2.cell? ⟨w.heap.size, 0, none⟩ = some (.pointer (some ⟨b, 0, none⟩)) := by rw [hw2]; exact cell_later ((Bel.refl w1).alloc _) k0
      have m1 : w2.cell? ⟨w.heap.size + 1, 0, none⟩ = some (.string s) := by rw [hw2]; exact cell_later ((Bel.refl w1).alloc _) k1
      have m2 : w2.cell? ⟨w1.heap.size, 0, none⟩ = some (.slice p y.bytes.length cap) := by rw [hw2]; go_simp
      have m3 : w2.cell? ⟨w1.heap.size, 1, none⟩ = some (.int .i64 y.safe) := by rw [hw2]; go_simp
      have hne := HH.out.ne HV.out.own
      refine (pturn_any w2 b M (.map (some mb)) t _ _ (HH.out.keep (Keep.of_bel HB2.out []) (by simp)) (fun z => ProgTo n₀ w z b { (turnS M).2 with L := outS s.data.toList M.L } F) (run_enter Try.func50 (by kernel_rfl) rfl _) ?_).mono ?_
      · intro w3 t3 hdr hk
        have hV3 : FilesV n₀ w3 mb D V (turnS M).2.L none := by
          rw [turn_L]
          exact (HV.out.bel HB2.out).keep hk (by simpa using fun e => hne e.symm) (fun u hu _ k hk1 hk2 => by
            rw [List.mem_singleton] at hk2
            subst hk2
            exact HH.out.ne_row (HV.out.val u hu (by simp)) (by rw [Option.mem_toList]; exact hk1))
        refine (dropcl_any n₀ w3 b mb (turnS M).2 t3 D V w.heap.size (w.heap.size + 1) s hdr hV3 (by rw [turn_L]; exact HS.out) hs
          (hk.cell m0 (by simp; omega)) (hk.cell m1 (by simp; omega))).mono ?_
        rintro e w4 ⟨rfl, hc⟩
        rw [turn_L] at hc
        exact ⟨rfl, prog_of_chg hlow hbF HFW.out (le_sz HP.out) ((Keep.of_bel HB2.out F).trans (hk.mono (G := F) (fun x hx => by rw [List.mem_singleton] at hx; rw [hx]; exact hbF)) (fun x hx => Or.inl hx)) HMF.out HVF.out hc⟩
      · rintro e w5 ⟨rfl, h0, h1⟩
        have R0 := Lib.hid h0
        have R1 := Lib.hid h1
        clear h0 h1 hw2
        go_wp2_with (fail)
        go_ret
        rw [HA.out]
        unfold chgS
        by_cases hT : M.turns = 0
        · rw [if_pos hT]
          obtain ⟨r1, r2⟩ := R0.out hT
          exact ⟨ret_int (by rw [turnS_zero hT]), prog_of_hdr HP.out (fun mv' t' h' => ⟨t, by
            have e : mv' = .map (some mb) := by
              have := h'.1.symm.trans HH.out.1
              simp at this
              exact this.1
            rw [e]; exact r1⟩) (turn_L M) ⟨w2, HB2.out, r2⟩⟩
        · rw [if_neg hT]
          refine ⟨?_, R1.out hT⟩
          rcases Int.lt_or_gt_of_ne hT with h | h
          · exact ret_int (by rw [turnS_neg h])
          · exact ret_int (by rw [turnS_pos h])

set_option maxHeartbeats 4000000 in
set_option maxRecDepth 20000 in
theorem pcut_any (n₀ : Nat) (w : World) (b : Nat) (M : RS) (F : List Nat) (s : ByteArray) (q : Int) (hq : in64 q) (hsz : ∀ z ∈ M.L, z.bytes.length ≤ 1000000000) (h : ProgAt n₀ w b M F) (hs : s.size ≤ maxLen) (hS : Srt M.L) (hL : M.L.length ≤ 1000) :
    Calls Try.prog 28 #[.pointer (some ⟨b, 0, none⟩), .string s, .int .i64 q] w fun e w' => e = .returned (.int .i64 (cutS s.data.toList q M).1) ∧ ProgTo n₀ w w' b (cutS s.data.toList q M).2 F := by
  have HP := Lib.hid h
  obtain ⟨⟨mv, t, hb, ht, h64, hf⟩, hlow, hbF, hFw⟩ := h
  have B2 := Lib.hid ((((Bel.refl w).alloc (.cells #[.pointer (some ⟨b, 0, none⟩)] 25)).alloc (.cells #[.string s] 9)).alloc (.cells #[.int .i64 q] 3))
  cases hg : M.gone with
  | true =>
    have HA := Lib.hid (show cutS s.data.toList q M = (7, M) by unfold cutS onS; rw [if_pos hg])
    have HG := Lib.hid hg
    clear hb hf hg hFw ht h64
    go_enter Try.func28, Try.ntmps28
    go_wp2_with (fail)
    refine (find_gone n₀ _ b M F s (HP.out.bel B2.out) HG.out).mono ?_
    rintro e w1 ⟨rfl, hb1⟩
    have HB := Lib.hid (B2.out.trans hb1)
    clear hb1
    unfold conZ
    go_wp2_with (fail)
    go_ret
    rw [HA.out]
    exact ⟨rfl, HP.out.to (HB.out.alloc _)⟩
  | false =>
    cases hy : getF s.data.toList M.L with
    | none =>
      have HA := Lib.hid (show cutS s.data.toList q M = (4, M) by unfold cutS onS; rw [hg, hy]; rfl)
      have HG := Lib.hid hg
      have HY := Lib.hid hy
      clear hb hf hg hy hFw ht h64
      go_enter Try.func28, Try.ntmps28
      go_wp2_with (fail)
      refine (find_none n₀ _ b M F s (HP.out.bel B2.out) HG.out hs HY.out).mono ?_
      rintro e w1 ⟨rfl, hb1⟩
      have HB := Lib.hid (B2.out.trans hb1)
      clear hb1
      unfold conZ
      go_wp2_with (fail)
      go_ret
      rw [HA.out]
      exact ⟨rfl, HP.out.to (HB.out.alloc _)⟩
    | some y =>
      rcases hf with ⟨_, hL0⟩ | ⟨mb, D, V, rfl, hV, hmF, hvF⟩
      · rw [hL0] at hy; cases hy
      have HA := Lib.hid (show cutS s.data.toList q M = if q < 0 ∨ (y.bytes.length : Int) < q then (2, M) else chgS M (insS { y with bytes := y.bytes.take q.toNat, safe := min y.safe q.toNat } M.L) by unfold cutS onS; rw [hg, hy]; rfl)
      have hyz := hsz y (getF_mem hy)
      have hsn : s.data.toList = y.name := (getF_name hy).symm
      obtain ⟨p, cap, hp, -⟩ := own_len (hV.val y (getF_mem hy) (by simp))
      have HF := Lib.hid (fun x (hx : Bel w x) => find_some n₀ x b M mb t D V s y ((Keep.of_bel hx []).at hb (by simp)) (hV.bel hx) hg hs hy)
      rw [hsn, hp] at HF
      unfold conV at HF
      have HV := Lib.hid hV
      have HH := Lib.hid (show Hdr w b M (.map (some mb)) t from ⟨hb, ht, h64⟩)
      have HS := Lib.hid hS
      have HY := Lib.hid hy
      have HPV := Lib.hid hp
      have HFW := Lib.hid hFw
      have HMF := Lib.hid hmF
      have HVF := Lib.hid hvF
      have hbw : b < w.heap.size := (hFw b hbF).2
      clear hb hV hg hy hp hFw ht h64 hmF hvF hS hsn
      by_cases h1 : q < 0
      · rw [if_pos (Or.inl h1)] at HA
        go_enter Try.func28, Try.ntmps28
        go_wp2_with (fail)
        refine (HF.out _ B2.out).mono ?_
        rintro e w1 ⟨rfl, hb1⟩
        have HB := Lib.hid (B2.out.trans hb1)
        have hz2 : w.heap.size + 2 < w1.heap.size := by have := hb1.size; simp at this; omega
        have hz : w.heap.size + 1 < w1.heap.size := by have := hb1.size; simp at this; omega
        have hz0 : w.heap.size < w1.heap.size := by omega
        have k0 : w1.cell? ⟨w.heap.size, 0, none⟩ = some (.pointer (some ⟨b, 0, none⟩)) := cell_later hb1 (by go_simp)
        have k1 : w1.cell? ⟨w.heap.size + 1, 0, none⟩ = some (.string s) := cell_later hb1 (by go_simp)
        have k2 : w1.cell? ⟨w.heap.size + 2, 0, none⟩ = some (.int .i64 q) := cell_later hb1 (by go_simp)
        clear hb1
        go_wp2_with (fail)
        go_ret
        rw [HA.out]
        exact ⟨rfl, HP.out.to (HB.out.alloc _)⟩
      · by_cases h2 : (y.bytes.length : Int) < q
        · rw [if_pos (Or.inr h2)] at HA
          go_enter Try.func28, Try.ntmps28
          go_wp2_with (fail)
          refine (HF.out _ B2.out).mono ?_
          rintro e w1 ⟨rfl, hb1⟩
          have HB := Lib.hid (B2.out.trans hb1)
          have hz2 : w.heap.size + 2 < w1.heap.size := by have := hb1.size; simp at this; omega
          have hz : w.heap.size + 1 < w1.heap.size := by have := hb1.size; simp at this; omega
          have hz0 : w.heap.size < w1.heap.size := by omega
          have k0 : w1.cell? ⟨w.heap.size, 0, none⟩ = some (.pointer (some ⟨b, 0, none⟩)) := cell_later hb1 (by go_simp)
          have k1 : w1.cell? ⟨w.heap.size + 1, 0, none⟩ = some (.string s) := cell_later hb1 (by go_simp)
          have k2 : w1.cell? ⟨w.heap.size + 2, 0, none⟩ = some (.int .i64 q) := cell_later hb1 (by go_simp)
          clear hb1
          go_wp2_with (fail)
          go_ret
          rw [HA.out]
          exact ⟨rfl, HP.out.to (HB.out.alloc _)⟩
        · rw [if_neg (by omega)] at HA
          go_enter Try.func28, Try.ntmps28
          go_wp2_with (fail)
          refine (HF.out _ B2.out).mono ?_
          rintro e w1 ⟨rfl, hb1⟩
          have HB := Lib.hid (B2.out.trans hb1)
          have hz2 : w.heap.size + 2 < w1.heap.size := by have := hb1.size; simp at this; omega
          have hz : w.heap.size + 1 < w1.heap.size := by have := hb1.size; simp at this; omega
          have hz0 : w.heap.size < w1.heap.size := by omega
          have k0 : w1.cell? ⟨w.heap.size, 0, none⟩ = some (.pointer (some ⟨b, 0, none⟩)) := cell_later hb1 (by go_simp)
          have k1 : w1.cell? ⟨w.heap.size + 1, 0, none⟩ = some (.string s) := cell_later hb1 (by go_simp)
          have k2 : w1.cell? ⟨w.heap.size + 2, 0, none⟩ = some (.int .i64 q) := cell_later hb1 (by go_simp)
          clear hb1
          go_wp2_with (fail)
          obtain ⟨w2, hw2⟩ : ∃ w2, w2 = w1.alloc (.cells #[.slice p y.bytes.length cap, .int .i64 y.safe] 56) := ⟨_, rfl⟩
          rw [← hw2]
          have HB2 := Lib.hid (show Bel w w2 by rw [hw2]; exact HB.out.alloc _)
          have m0 : w2.cell? ⟨w.heap.size, 0, none⟩ = some (.pointer (some ⟨b, 0, none⟩)) := by rw [hw2]; exact cell_later ((Bel.refl w1).alloc _) k0
          have m1 : w2.cell? ⟨w.heap.size + 1, 0, none⟩ = some (.string s) := by rw [hw2]; exact cell_later ((Bel.refl w1).alloc _) k1
          have m4 : w2.cell? ⟨w.heap.size + 2, 0, none⟩ = some (.int .i64 q) := by rw [hw2]; exact cell_later ((Bel.refl w1).alloc _) k2
          have m2 : w2.cell? ⟨w1.heap.size, 0, none⟩ = some (.slice p y.bytes.length cap) := by rw [hw2]; go_simp
          have m3 : w2.cell? ⟨w1.heap.size, 1, none⟩ = some (.int .i64 y.safe) := by rw [hw2]; go_simp
          have hne := HH.out.ne HV.out.own
          refine (pturn_any w2 b M (.map (some mb)) t _ _ (HH.out.keep (Keep.of_bel HB2.out []) (by simp)) (fun z => ProgTo n₀ w z b { (turnS M).2 with L := insS { y with bytes := y.bytes.take q.toNat, safe := min y.safe q.toNat } M.L } F) (run_enter Try.func47 (by kernel_rfl) rfl _) ?_).mono ?_
          · intro w3 t3 hdr hk
            have hV3 : FilesV n₀ w3 mb D V (turnS M).2.L none := by
              rw [turn_L]
              exact (HV.out.bel HB2.out).keep hk (by simpa using fun e => hne e.symm) (fun u hu _ k hk1 hk2 => by
                rw [List.mem_singleton] at hk2
                subst hk2
                exact HH.out.ne_row (HV.out.val u hu (by simp)) (by rw [Option.mem_toList]; exact hk1))
            refine (cutcl_any n₀ w3 b mb (turnS M).2 t3 D V w1.heap.size (w.heap.size + 2) w.heap.size (w.heap.size + 1) s y hdr hV3 (by rw [turn_L]; exact HS.out) (by rw [turn_L]; exact hL) hs (by rw [turn_L]; exact HY.out) HPV.out rfl q.toNat (by omega) (by rw [show ((q.toNat : Nat) : Int) = q by omega]; exact hk.cell m4 (by simp; omega))
              (hk.cell m2 (by simp; omega)) (hk.cell m3 (by simp; omega)) (hk.cell m0 (by simp; omega)) (hk.cell m1 (by simp; omega))).mono ?_
            rintro e w4 ⟨rfl, hc⟩
            rw [turn_L] at hc
            exact ⟨rfl, prog_of_chg hlow hbF HFW.out (le_sz HP.out) ((Keep.of_bel HB2.out F).trans (hk.mono (G := F) (fun x hx => by rw [List.mem_singleton] at hx; rw [hx]; exact hbF)) (fun x hx => Or.inl hx)) HMF.out HVF.out hc⟩
          · rintro e w5 ⟨rfl, h0, h1⟩
            have R0 := Lib.hid h0
            have R1 := Lib.hid h1
            clear h0 h1 hw2
            go_wp2_with (fail)
            go_ret
            rw [HA.out]
            unfold chgS
            by_cases hT : M.turns = 0
            · rw [if_pos hT]
              obtain ⟨r1, r2⟩ := R0.out hT
              exact ⟨ret_int (by rw [turnS_zero hT]), prog_of_hdr HP.out (fun mv' t' h' => ⟨t, by
                have e : mv' = .map (some mb) := by
                  have := h'.1.symm.trans HH.out.1
                  simp at this
                  exact this.1
                rw [e]; exact r1⟩) (turn_L M) ⟨w2, HB2.out, r2⟩⟩
            · rw [if_neg hT]
              refine ⟨?_, R1.out hT⟩
              rcases Int.lt_or_gt_of_ne hT with h | h
              · exact ret_int (by rw [turnS_neg h])
              · exact ret_int (by rw [turnS_pos h])

set_option maxHeartbeats 4000000 in
set_option maxRecDepth 20000 in
theorem pmove_any (n₀ : Nat) (w : World) (b : Nat) (M : RS) (F : List Nat) (s to : ByteArray) (hto : to.size ≤ maxLen) (h : ProgAt n₀ w b M F) (hs : s.size ≤ maxLen) (hS : Srt M.L) (hL : M.L.length ≤ 1000) :
    Calls Try.prog 29 #[.pointer (some ⟨b, 0, none⟩), .string s, .string to] w fun e w' => e = .returned (.int .i64 (moveS s.data.toList to.data.toList M).1) ∧ ProgTo n₀ w w' b (moveS s.data.toList to.data.toList M).2 F := by
  have HP := Lib.hid h
  obtain ⟨⟨mv, t, hb, ht, h64, hf⟩, hlow, hbF, hFw⟩ := h
  have B2 := Lib.hid ((((Bel.refl w).alloc (.cells #[.pointer (some ⟨b, 0, none⟩)] 25)).alloc (.cells #[.string s] 9)).alloc (.cells #[.string to] 9))
  cases hg : M.gone with
  | true =>
    have HA := Lib.hid (show moveS s.data.toList to.data.toList M = (7, M) by unfold moveS onS; rw [if_pos hg])
    have HG := Lib.hid hg
    clear hb hf hg hFw ht h64
    go_enter Try.func29, Try.ntmps29
    go_wp2_with (fail)
    refine (find_gone n₀ _ b M F s (HP.out.bel B2.out) HG.out).mono ?_
    rintro e w1 ⟨rfl, hb1⟩
    have HB := Lib.hid (B2.out.trans hb1)
    clear hb1
    unfold conZ
    go_wp2_with (fail)
    go_ret
    rw [HA.out]
    exact ⟨rfl, HP.out.to (HB.out.alloc _)⟩
  | false =>
    cases hy : getF s.data.toList M.L with
    | none =>
      have HA := Lib.hid (show moveS s.data.toList to.data.toList M = (4, M) by unfold moveS onS; rw [hg, hy]; rfl)
      have HG := Lib.hid hg
      have HY := Lib.hid hy
      clear hb hf hg hy hFw ht h64
      go_enter Try.func29, Try.ntmps29
      go_wp2_with (fail)
      refine (find_none n₀ _ b M F s (HP.out.bel B2.out) HG.out hs HY.out).mono ?_
      rintro e w1 ⟨rfl, hb1⟩
      have HB := Lib.hid (B2.out.trans hb1)
      clear hb1
      unfold conZ
      go_wp2_with (fail)
      go_ret
      rw [HA.out]
      exact ⟨rfl, HP.out.to (HB.out.alloc _)⟩
    | some y =>
      rcases hf with ⟨_, hL0⟩ | ⟨mb, D, V, rfl, hV, hmF, hvF⟩
      · rw [hL0] at hy; cases hy
      have HA := Lib.hid (show moveS s.data.toList to.data.toList M = if nameB to.data.toList = false then (3, M) else chgS M (insS { y with name := to.data.toList } (outS s.data.toList M.L)) by unfold moveS onS; rw [hg, hy]; rfl)
      have hsn : s.data.toList = y.name := (getF_name hy).symm
      obtain ⟨p, cap, hp, -⟩ := own_len (hV.val y (getF_mem hy) (by simp))
      have HF := Lib.hid (fun x (hx : Bel w x) => find_some n₀ x b M mb t D V s y ((Keep.of_bel hx []).at hb (by simp)) (hV.bel hx) hg hs hy)
      rw [hsn, hp] at HF
      unfold conV at HF
      have HV := Lib.hid hV
      have HH := Lib.hid (show Hdr w b M (.map (some mb)) t from ⟨hb, ht, h64⟩)
      have HS := Lib.hid hS
      have HY := Lib.hid hy
      have HPV := Lib.hid hp
      have HFW := Lib.hid hFw
      have HMF := Lib.hid hmF
      have HVF := Lib.hid hvF
      have hbw : b < w.heap.size := (hFw b hbF).2
      clear hb hV hg hy hp hFw ht h64 hmF hvF hS hsn
      cases hnm : nameB to.data.toList with
      | false =>
        rw [hnm, if_pos rfl] at HA
        have HN := Lib.hid hnm
        clear hnm
        go_enter Try.func29, Try.ntmps29
        go_wp2_with (fail)
        refine (HF.out _ B2.out).mono ?_
        rintro e w1 ⟨rfl, hb1⟩
        have HB := Lib.hid (B2.out.trans hb1)
        have hz2 : w.heap.size + 2 < w1.heap.size := by have := hb1.size; simp at this; omega
        have hz : w.heap.size + 1 < w1.heap.size := by have := hb1.size; simp at this; omega
        have hz0 : w.heap.size < w1.heap.size := by omega
        have k0 : w1.cell? ⟨w.heap.size, 0, none⟩ = some (.pointer (some ⟨b, 0, none⟩)) := cell_later hb1 (by go_simp)
        have k1 : w1.cell? ⟨w.heap.size + 1, 0, none⟩ = some (.string s) := cell_later hb1 (by go_simp)
        have k2 : w1.cell? ⟨w.heap.size + 2, 0, none⟩ = some (.string to) := cell_later hb1 (by go_simp)
        clear hb1
        go_wp2_with (fail)
        refine (isname_any to _ hto).mono ?_
        rintro e wn ⟨rfl, hd⟩
        rw [HN.out]
        have HDN := Lib.hid hd
        have HBN := Lib.hid ((HB.out.alloc (.cells #[.slice p y.bytes.length cap, .int .i64 y.safe] 56)).trans hd.bel)
        have r0 : wn.cell? ⟨w.heap.size, 0, none⟩ = some (.pointer (some ⟨b, 0, none⟩)) := cell_later hd.bel (cell_later ((Bel.refl w1).alloc _) k0)
        have r1 : wn.cell? ⟨w.heap.size + 1, 0, none⟩ = some (.string s) := cell_later hd.bel (cell_later ((Bel.refl w1).alloc _) k1)
        have r4 : wn.cell? ⟨w.heap.size + 2, 0, none⟩ = some (.string to) := cell_later hd.bel (cell_later ((Bel.refl w1).alloc _) k2)
        have r2 : wn.cell? ⟨w1.heap.size, 0, none⟩ = some (.slice p y.bytes.length cap) := cell_later hd.bel (by go_simp)
        have r3 : wn.cell? ⟨w1.heap.size, 1, none⟩ = some (.int .i64 y.safe) := cell_later hd.bel (by go_simp)
        clear hd
        go_wp2_with (fail)
        go_ret
        rw [HA.out]
        exact ⟨rfl, HP.out.to HBN.out⟩
      | true =>
        rw [hnm, if_neg (by simp)] at HA
        have HN := Lib.hid hnm
        clear hnm
        go_enter Try.func29, Try.ntmps29
        go_wp2_with (fail)
        refine (HF.out _ B2.out).mono ?_
        rintro e w1 ⟨rfl, hb1⟩
        have HB := Lib.hid (B2.out.trans hb1)
        have hz2 : w.heap.size + 2 < w1.heap.size := by have := hb1.size; simp at this; omega
        have hz : w.heap.size + 1 < w1.heap.size := by have := hb1.size; simp at this; omega
        have hz0 : w.heap.size < w1.heap.size := by omega
        have k0 : w1.cell? ⟨w.heap.size, 0, none⟩ = some (.pointer (some ⟨b, 0, none⟩)) := cell_later hb1 (by go_simp)
        have k1 : w1.cell? ⟨w.heap.size + 1, 0, none⟩ = some (.string s) := cell_later hb1 (by go_simp)
        have k2 : w1.cell? ⟨w.heap.size + 2, 0, none⟩ = some (.string to) := cell_later hb1 (by go_simp)
        clear hb1
        go_wp2_with (fail)
        refine (isname_any to _ hto).mono ?_
        rintro e wn ⟨rfl, hd⟩
        rw [HN.out]
        have HDN := Lib.hid hd
        have HBN := Lib.hid ((HB.out.alloc (.cells #[.slice p y.bytes.length cap, .int .i64 y.safe] 56)).trans hd.bel)
        have r0 : wn.cell? ⟨w.heap.size, 0, none⟩ = some (.pointer (some ⟨b, 0, none⟩)) := cell_later hd.bel (cell_later ((Bel.refl w1).alloc _) k0)
        have r1 : wn.cell? ⟨w.heap.size + 1, 0, none⟩ = some (.string s) := cell_later hd.bel (cell_later ((Bel.refl w1).alloc _) k1)
        have r4 : wn.cell? ⟨w.heap.size + 2, 0, none⟩ = some (.string to) := cell_later hd.bel (cell_later ((Bel.refl w1).alloc _) k2)
        have r2 : wn.cell? ⟨w1.heap.size, 0, none⟩ = some (.slice p y.bytes.length cap) := cell_later hd.bel (by go_simp)
        have r3 : wn.cell? ⟨w1.heap.size, 1, none⟩ = some (.int .i64 y.safe) := cell_later hd.bel (by go_simp)
        clear hd
        go_wp2_with (fail)
        obtain ⟨w2, hw2⟩ : ∃ w2, w2 = wn := ⟨_, rfl⟩
        have HB2 := Lib.hid (show Bel w w2 by rw [hw2]; exact HBN.out)
        rw [← hw2] at r0 r1 r2 r3 r4 ⊢
        have m0 := r0
        have m1 := r1
        have m2 := r2
        have m3 := r3
        have m4 := r4
        have hne := HH.out.ne HV.out.own
        refine (pturn_any w2 b M (.map (some mb)) t _ _ (HH.out.keep (Keep.of_bel HB2.out []) (by simp)) (fun z => ProgTo n₀ w z b { (turnS M).2 with L := insS { y with name := to.data.toList } (outS s.data.toList M.L) } F) (run_enter Try.func49 (by kernel_rfl) rfl _) ?_).mono ?_
        · intro w3 t3 hdr hk
          have hV3 : FilesV n₀ w3 mb D V (turnS M).2.L none := by
            rw [turn_L]
            exact (HV.out.bel HB2.out).keep hk (by simpa using fun e => hne e.symm) (fun u hu _ k hk1 hk2 => by
              rw [List.mem_singleton] at hk2
              subst hk2
              exact HH.out.ne_row (HV.out.val u hu (by simp)) (by rw [Option.mem_toList]; exact hk1))
          refine (movecl_any n₀ w3 b mb (turnS M).2 t3 D V w.heap.size (w.heap.size + 1) w1.heap.size (w.heap.size + 2) s to y hdr hV3 (by rw [turn_L]; exact HS.out) (by rw [turn_L]; exact hL) hs hto (by rw [turn_L]; exact HY.out) HPV.out rfl
            (hk.cell m2 (by simp; omega)) (hk.cell m3 (by simp; omega)) (hk.cell m0 (by simp; omega)) (hk.cell m1 (by simp; omega)) (hk.cell m4 (by simp; omega))).mono ?_
          rintro e w4 ⟨rfl, hc⟩
          rw [turn_L] at hc
          exact ⟨rfl, prog_of_chg hlow hbF HFW.out (le_sz HP.out) ((Keep.of_bel HB2.out F).trans (hk.mono (G := F) (fun x hx => by rw [List.mem_singleton] at hx; rw [hx]; exact hbF)) (fun x hx => Or.inl hx)) HMF.out HVF.out hc⟩
        · rintro e w5 ⟨rfl, h0, h1⟩
          have R0 := Lib.hid h0
          have R1 := Lib.hid h1
          clear h0 h1 hw2
          go_wp2_with (fail)
          go_ret
          rw [HA.out]
          unfold chgS
          by_cases hT : M.turns = 0
          · rw [if_pos hT]
            obtain ⟨r1, r2⟩ := R0.out hT
            exact ⟨ret_int (by rw [turnS_zero hT]), prog_of_hdr HP.out (fun mv' t' h' => ⟨t, by
              have e : mv' = .map (some mb) := by
                have := h'.1.symm.trans HH.out.1
                simp at this
                exact this.1
              rw [e]; exact r1⟩) (turn_L M) ⟨w2, HB2.out, r2⟩⟩
          · rw [if_neg hT]
            refine ⟨?_, R1.out hT⟩
            rcases Int.lt_or_gt_of_ne hT with h | h
            · exact ret_int (by rw [turnS_neg h])
            · exact ret_int (by rw [turnS_pos h])
end Go.Proofs.Ytedopiojidaeiaa
