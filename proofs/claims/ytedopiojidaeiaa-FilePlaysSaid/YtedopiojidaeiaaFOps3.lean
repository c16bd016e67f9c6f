/- file's Add. -/
import Derived.Test.YtedopiojidaeiaaFOps2
set_option linter.unusedSimpArgs false
set_option linter.unusedVariables false
namespace Go.Proofs.Ytedopiojidaeiaa
open Go.RowKit Go.Deep Go.Maps

set_option maxHeartbeats 4000000 in
set_option maxRecDepth 20000 in
theorem padd_any (n₀ : Nat) (w : World) (b : Nat) (M : RS) (F : List Nat) (s u : ByteArray) (h : ProgAt n₀ w b M F) (hs : s.size ≤ 1000000) (hu : u.size ≤ 1000000) (hS : Srt M.L) (hL : M.L.length ≤ 1000) (hB : bytesN M.L ≤ 1000000000) (hroom : 0 ≤ M.room ∧ M.room ≤ 10000000) :
    Calls Try.prog 9 #[.pointer (some ⟨b, 0, none⟩), .string s, .string u] w fun e w' => e = .returned (.int .i64 (addS s.data.toList u.data.toList M).1) ∧ ProgTo n₀ w w' b (addS s.data.toList u.data.toList M).2 F := by
  have HP := Lib.hid h
  obtain ⟨⟨mv, t, hb, ht, h64, hf⟩, hlow, hbF, hFw⟩ := h
  have B2 := Lib.hid ((((Bel.refl w).alloc (.cells #[.pointer (some ⟨b, 0, none⟩)] 25)).alloc (.cells #[.string s] 9)).alloc (.cells #[.string u] 9))
  have hus : u.data.toList.length = u.size := rfl
  obtain ⟨adm, hadm⟩ : ∃ adm, adm = admS s.data.toList u.size M := ⟨_, rfl⟩
  have HAD := Lib.hid (fun x (hx : Bel w x) => hadm ▸ admits_any n₀ x b M F s u.size (HP.out.bel hx) hs hu hS hB hL hroom)
  have hsm := Lib.hid (show s.size ≤ maxLen by unfold maxLen; omega)
  have HH := Lib.hid (show Hdr w b M mv t from ⟨hb, ht, h64⟩)
  have HS := Lib.hid hS
  have HBN := Lib.hid hB
  have HFW := Lib.hid hFw
  have HFA := Lib.hid hf
  have hbw : b < w.heap.size := (hFw b hbF).2
  clear hb hf hFw ht h64 hS
  by_cases ha : adm = 0
  · have HA := Lib.hid (show addS s.data.toList u.data.toList M = chgS M (insS (addF s.data.toList u.data.toList M.L) M.L) by unfold addS; rw [hus, ← hadm, if_pos ha])
    subst ha
    clear hadm
    go_enter Try.func9, Try.ntmps9
    go_wp2_with (fail)
    refine (HAD.out _ B2.out).mono ?_
    rintro e w2 ⟨rfl, hb1⟩
    have HB2 := Lib.hid (B2.out.trans hb1)
    have hz2 : w.heap.size + 2 < w2.heap.size := by have := hb1.size; simp at this; omega
    have m0 : w2.cell? ⟨w.heap.size, 0, none⟩ = some (.pointer (some ⟨b, 0, none⟩)) := cell_later hb1 (by go_simp)
    have m1 : w2.cell? ⟨w.heap.size + 1, 0, none⟩ = some (.string s) := cell_later hb1 (by go_simp)
    have m2 : w2.cell? ⟨w.heap.size + 2, 0, none⟩ = some (.string u) := cell_later hb1 (by go_simp)
    clear hb1
    go_wp2_with (fail)
    refine (pturn_any w2 b M mv t _ _ (HH.out.keep (Keep.of_bel HB2.out []) (by simp)) (fun z => ProgTo n₀ w z b { (turnS M).2 with L := insS (addF s.data.toList u.data.toList M.L) M.L } F) (run_enter Try.func21 (by kernel_rfl) rfl _) ?_).mono ?_
    · intro w3 t3 hdr hk
      have nf : w.heap.size ∉ F ∧ w.heap.size + 1 ∉ F ∧ w.heap.size + 2 ∉ F := by
        refine ⟨fun h => ?_, fun h => ?_, fun h => ?_⟩ <;> have := (HFW.out _ h).2 <;> omega
      have q0 := hk.cell m0 (by simp; omega)
      have q1 := hk.cell m1 (by simp; omega)
      have q2 := hk.cell m2 (by simp; omega)
      have hn0 : n₀ ≤ w3.heap.size := Nat.le_trans (le_sz HP.out) (Nat.le_trans HB2.out.size hk.size)
      have KF := (Keep.of_bel HB2.out F).trans (hk.mono (G := F) (fun x hx => by rw [List.mem_singleton] at hx; rw [hx]; exact hbF)) (fun x hx => Or.inl hx)
      have fin : ∀ w4, Added n₀ w3 w4 b (turnS M).2 t3 (insS (addF s.data.toList u.data.toList (turnS M).2.L) (turnS M).2.L) F → ProgTo n₀ w w4 b { (turnS M).2 with L := insS (addF s.data.toList u.data.toList M.L) M.L } F := by
        intro w4 hc
        rw [turn_L] at hc
        exact prog_of_added hlow hbF HFW.out (le_sz HP.out) KF hc
      rcases HFA.out with ⟨rfl, hL0⟩ | ⟨mb, D, V, rfl, hV, hmF, hvF⟩
      · refine (addcl_nil n₀ w3 b (turnS M).2 t3 F w.heap.size (w.heap.size + 1) (w.heap.size + 2) s u hdr (by rw [turn_L]; exact hL0) (by rw [turn_L]; exact HS.out) (by rw [turn_L]; exact hL) hbF hn0 hsm.out hu q0 q1 q2 nf).mono ?_
        rintro e w4 ⟨rfl, hc⟩
        exact ⟨rfl, fin w4 hc⟩
      · have hne := HH.out.ne hV.own
        have hV3 : FilesV n₀ w3 mb D V (turnS M).2.L none := by
          rw [turn_L]
          exact (hV.bel HB2.out).keep hk (by simpa using fun e => hne e.symm) (fun u hu _ k hk1 hk2 => by
            rw [List.mem_singleton] at hk2
            subst hk2
            exact HH.out.ne_row (hV.val u hu (by simp)) (by rw [Option.mem_toList]; exact hk1))
        cases hy : getF s.data.toList M.L with
        | none =>
          refine (addcl_none n₀ w3 b (turnS M).2 t3 F mb D V w.heap.size (w.heap.size + 1) (w.heap.size + 2) s u hdr hV3 hmF (by rw [turn_L]; exact hvF) (by rw [turn_L]; exact HS.out) (by rw [turn_L]; exact hL) hbF hn0 hsm.out hu (by rw [turn_L]; exact hy) q0 q1 q2 nf).mono ?_
          rintro e w4 ⟨rfl, hc⟩
          exact ⟨rfl, fin w4 hc⟩
        | some y =>
          refine (addcl_some n₀ w3 b (turnS M).2 t3 F mb D V w.heap.size (w.heap.size + 1) (w.heap.size + 2) s u hdr hV3 hmF (by rw [turn_L]; exact hvF) (by rw [turn_L]; exact HS.out) (by rw [turn_L]; exact hL) hbF hn0 hsm.out hu y (by rw [turn_L]; exact hy) (Nat.le_trans (bytes_mem (getF_mem hy)) HBN.out) q0 q1 q2 nf).mono ?_
          rintro e w4 ⟨rfl, hc⟩
          exact ⟨rfl, fin w4 hc⟩
    · rintro e w5 ⟨rfl, h0, h1⟩
      have R0 := Lib.hid h0
      have R1 := Lib.hid h1
      clear h0 h1
      go_wp2_with (fail)
      go_ret
      rw [HA.out]
      unfold chgS
      by_cases hT : M.turns = 0
      · rw [if_pos hT]
        obtain ⟨r1, r2⟩ := R0.out hT
        exact ⟨ret_int (by rw [turnS_zero hT]), prog_of_hdr HP.out (fun mv' t' h' => ⟨t, by
          have e : mv' = mv := by
            have := h'.1.symm.trans HH.out.1
            simp at this
            exact this.1
          rw [e]; exact r1⟩) (turn_L M) ⟨w2, HB2.out, r2⟩⟩
      · rw [if_neg hT]
        refine ⟨?_, R1.out hT⟩
        rcases Int.lt_or_gt_of_ne hT with h | h
        · exact ret_int (by rw [turnS_neg h])
        · exact ret_int (by rw [turnS_pos h])
  · have HA := Lib.hid (show addS s.data.toList u.data.toList M = (adm, M) by unfold addS; rw [hus, ← hadm, if_neg ha])
    have ha2 : (adm == 0) = false := by rw [beq_eq_false_iff_ne]; exact ha
    clear hadm
    go_enter Try.func9, Try.ntmps9
    go_wp2_with (fail)
    refine (HAD.out _ B2.out).mono ?_
    rintro e w2 ⟨rfl, hb1⟩
    have HB2 := Lib.hid (B2.out.trans hb1)
    clear hb1
    have ha3 : (adm != 0) = true := by rw [bne_iff_ne]; exact ha
    go_wp2_with (fail)
    go_ret
    rw [HA.out]
    exact ⟨rfl, HP.out.to HB2.out⟩
end Go.Proofs.Ytedopiojidaeiaa
