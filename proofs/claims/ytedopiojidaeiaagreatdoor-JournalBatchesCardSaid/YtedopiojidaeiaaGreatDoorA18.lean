/- FOps, FOps2, FOps3, laid together. -/
import Derived.Test.YtedopiojidaeiaaGreatDoorA17
/- file's Flush, Cut, Drop, Move, Add. -/
set_option linter.unusedSimpArgs false
set_option linter.unusedVariables false
namespace Go.Proofs.YtedopiojidaeiaaGreatDoor
open Go.RowKit Go.Deep Go.Maps

/-- A change of the files, if a turn may be made. -/
def chgS (M : RS) (L' : List FI) : Int × RS := if M.turns = 0 then (7, (turnS M).2) else (0, { (turnS M).2 with L := L' })
def addS (nm s : List UInt8) (M : RS) : Int × RS := if admS nm s.length M = 0 then chgS M (insS (addF nm s M.L) M.L) else (admS nm s.length M, M)
def onS (nm : List UInt8) (M : RS) (k : FI → Int × RS) : Int × RS := if M.gone then (7, M) else match getF nm M.L with
  | some y => k y
  | none => (4, M)
def flushS (nm : List UInt8) (M : RS) : Int × RS := onS nm M fun y => chgS M (insS { y with safe := y.bytes.length } M.L)
def cutS (nm : List UInt8) (n : Int) (M : RS) : Int × RS := onS nm M fun y => if n < 0 ∨ (y.bytes.length : Int) < n then (2, M) else chgS M (insS { y with bytes := y.bytes.take n.toNat, safe := min y.safe n.toNat } M.L)
def dropS (nm : List UInt8) (M : RS) : Int × RS := onS nm M fun y => chgS M (outS nm M.L)
def moveS (nm to : List UInt8) (M : RS) : Int × RS := onS nm M fun y => if nameB to = false then (3, M) else chgS M (insS { y with name := to } (outS nm M.L))

theorem turn_L (M : RS) : (turnS M).2.L = M.L := by unfold turnS; split; rfl; split <;> rfl
theorem run_enter {f : FuncId} {fn : Func} {c : Code} (hf : Tryz.prog.funcs[f]? = some fn) (hname : (fn.name == "runtime.NumGoroutine") = false) (hb : fn.body = some c) (args : Array Value) (w : World) : (callFunc f args).run Tryz.prog w = .ok (.enter f args) w := by
  have h1 : fn.name ≠ "runtime.NumGoroutine" := by simpa using hname
  simp [callFunc, hf, h1, hb]
section
variable {n₀ : Nat} {w w1 x : World} {b : Nat} {M M' : RS} {F : List Nat} {mb : Nat} {t : Int} {V : List UInt8 → Value} {L L' : List FI} {mv : Value}
theorem ProgTo.mk' (hlow : n₀ ≤ b) (hbF : b ∈ F) (hFw : ∀ k ∈ F, n₀ ≤ k ∧ k < w.heap.size) (hn0 : n₀ ≤ w.heap.size) (hk : Keep F w x) {D : DataW Value} (hdr : Hdr x b M (.map (some mb)) t) (hV : FilesV n₀ x mb D V M.L none) (hmb : mb ∈ F ∨ w.heap.size ≤ mb)
    (hv : ∀ z ∈ M.L, ∀ k, (V z.name).ownBlock = some k → k ∈ F ∨ w.heap.size ≤ k) : ProgTo n₀ w x b M F := by
  refine ⟨mb :: (F ++ M.L.filterMap fun z => (V z.name).ownBlock), ⟨⟨_, t, hdr.1, hdr.2.1, hdr.2.2, Or.inr ⟨mb, D, V, rfl, hV, by simp, fun z hz k hk => by
    rw [List.mem_cons, List.mem_append, List.mem_filterMap]
    exact Or.inr (Or.inr ⟨z, hz, hk⟩)⟩⟩, hlow, by simp [hbF], fun k hk' => ?_⟩, hk, fun k hk' => ?_⟩
  · rw [List.mem_cons, List.mem_append, List.mem_filterMap] at hk'
    rcases hk' with rfl | hk' | ⟨z, hz, hk'⟩
    · exact ⟨hV.low, hV.lt⟩
    · exact ⟨(hFw k hk').1, Nat.lt_of_lt_of_le (hFw k hk').2 hk.size⟩
    · exact (hV.val z hz (by simp)).lt k hk'
  · rw [List.mem_cons, List.mem_append, List.mem_filterMap] at hk'
    rcases hk' with rfl | hk' | ⟨z, hz, hk'⟩
    · exact hmb
    · exact Or.inl hk'
    · exact hv z hz k hk'
theorem prog_of_chg (hlow : n₀ ≤ b) (hbF : b ∈ F) (hFw : ∀ k ∈ F, n₀ ≤ k ∧ k < w.heap.size) (hn0 : n₀ ≤ w.heap.size) (hk : Keep F w w1) (hmF : mb ∈ F) (hvF : ∀ z ∈ L, ∀ k, (V z.name).ownBlock = some k → k ∈ F)
    (hc : Chg n₀ w1 x b M mb t V L L' [mb]) : ProgTo n₀ w x b { M with L := L' } F := by
  obtain ⟨D', V', h1, h2, h3, h4⟩ := hc
  refine ProgTo.mk' hlow hbF hFw hn0 (hk.trans (h3.mono (G := F) (fun x hx => by rw [List.mem_singleton] at hx; rw [hx]; exact hmF)) (fun x hx => Or.inl hx)) h1 h2 (Or.inl hmF) (fun z hz k hk' => ?_)
  rcases h4 z hz k hk' with ⟨u, hu, h5⟩ | h5
  · exact Or.inl (hvF u hu k h5)
  · exact Or.inr (Nat.le_trans hk.size h5)
theorem prog_of_added (hlow : n₀ ≤ b) (hbF : b ∈ F) (hFw : ∀ k ∈ F, n₀ ≤ k ∧ k < w.heap.size) (hn0 : n₀ ≤ w.heap.size) (hk : Keep F w w1) (hc : Added n₀ w1 x b M t L' F) : ProgTo n₀ w x b { M with L := L' } F := by
  obtain ⟨mb, D', V', h1, h2, h3, h4, h5⟩ := hc
  refine ProgTo.mk' hlow hbF hFw hn0 (hk.trans h3 (fun x hx => Or.inl hx)) h1 h2 (h4.imp id (fun h => Nat.le_trans hk.size h)) (fun z hz k hk' => (h5 z hz k hk').imp id (fun h => Nat.le_trans hk.size h))
/-- The header alone was written. -/
theorem prog_of_hdr (h : ProgAt n₀ w b M F) (hmv : ∀ mv t, Hdr w b M mv t → ∃ t', Hdr x b M' mv t') (hL : M'.L = M.L) (hk : ∃ y, Bel w y ∧ Keep [b] y x) : ProgTo n₀ w x b M' F := by
  obtain ⟨y, hb, hk⟩ := hk
  have hK := (Keep.of_bel hb [b]).trans hk (fun x hx => Or.inl hx)
  obtain ⟨G, h1, h2, h3⟩ := h.set2 (x := x) (M' := M') (fun mv t h1 h2 h3 => by
    obtain ⟨t', h⟩ := hmv mv t ⟨h1, h2, h3⟩
    exact ⟨t', h⟩) hL hK
  exact ⟨G, h1, h2, h3⟩
end
theorem le_sz {n₀ : Nat} {w : World} {b : Nat} {M : RS} {F : List Nat} (h : ProgAt n₀ w b M F) : n₀ ≤ w.heap.size := by
  have := h.within b h.mem; omega

set_option maxHeartbeats 4000000 in
set_option maxRecDepth 20000 in
theorem pflush_any (n₀ : Nat) (w : World) (b : Nat) (M : RS) (F : List Nat) (s : ByteArray) (h : ProgAt n₀ w b M F) (hs : s.size ≤ maxLen) (hS : Srt M.L) (hL : M.L.length ≤ 1000) :
    Calls Tryz.prog 73 #[.pointer (some ⟨b, 0, none⟩), .string s] w fun e w' => e = .returned (.int .i64 (flushS s.data.toList M).1) ∧ ProgTo n₀ w w' b (flushS s.data.toList M).2 F := by
  have HP := Lib.hid h
  obtain ⟨⟨mv, t, hb, ht, h64, hf⟩, hlow, hbF, hFw⟩ := h
  have B2 := Lib.hid (((Bel.refl w).alloc (.cells #[.pointer (some ⟨b, 0, none⟩)] 48)).alloc (.cells #[.string s] 9))
  cases hg : M.gone with
  | true =>
    have HA := Lib.hid (show flushS s.data.toList M = (7, M) by unfold flushS onS; rw [if_pos hg])
    have HG := Lib.hid hg
    clear hb hf hg hFw ht h64
    go_enter Tryz.func73, Tryz.ntmps73
    go_wp2_with (fail)
    refine (find_gone n₀ _ b M F s (HP.out.bel B2.out) HG.out).mono ?_
    rintro e w1 ⟨rfl, hb1⟩
    have HB := Lib.hid (B2.out.trans hb1)
    clear hb1
    unfold conZ
    go_wp2_with (fail)
    go_ret
    rw [HA.out]
    exact ⟨rfl, HP.out.to (HB.out.alloc _)⟩
  | false =>
    cases hy : getF s.data.toList M.L with
    | none =>
      have HA := Lib.hid (show flushS s.data.toList M = (4, M) by unfold flushS onS; rw [hg, hy]; rfl)
      have HG := Lib.hid hg
      have HY := Lib.hid hy
      clear hb hf hg hy hFw ht h64
      go_enter Tryz.func73, Tryz.ntmps73
      go_wp2_with (fail)
      refine (find_none n₀ _ b M F s (HP.out.bel B2.out) HG.out hs HY.out).mono ?_
      rintro e w1 ⟨rfl, hb1⟩
      have HB := Lib.hid (B2.out.trans hb1)
      clear hb1
      unfold conZ
      go_wp2_with (fail)
      go_ret
      rw [HA.out]
      exact ⟨rfl, HP.out.to (HB.out.alloc _)⟩
    | some y =>
      rcases hf with ⟨_, hL0⟩ | ⟨mb, D, V, rfl, hV, hmF, hvF⟩
      · rw [hL0] at hy; cases hy
      have HA := Lib.hid (show flushS s.data.toList M = chgS M (insS { y with safe := y.bytes.length } M.L) by unfold flushS onS; rw [hg, hy]; rfl)
      have hsn : s.data.toList = y.name := (getF_name hy).symm
      obtain ⟨p, cap, hp, -⟩ := own_len (hV.val y (getF_mem hy) (by simp))
      have HF := Lib.hid (fun x (hx : Bel w x) => find_some n₀ x b M mb t D V s y ((Keep.of_bel hx []).at hb (by simp)) (hV.bel hx) hg hs hy)
      rw [hsn, hp] at HF
      unfold conV at HF
      have HV := Lib.hid hV
      have HH := Lib.hid (show Hdr w b M (.map (some mb)) t from ⟨hb, ht, h64⟩)
      have HS := Lib.hid hS
      have HY := Lib.hid hy
      have HPV := Lib.hid hp
      have HFW := Lib.hid hFw
      have HMF := Lib.hid hmF
      have HVF := Lib.hid hvF
      have hbw : b < w.heap.size := (hFw b hbF).2
      clear hb hV hg hy hp hFw ht h64 hmF hvF hS hsn
      go_enter Tryz.func73, Tryz.ntmps73
      go_wp2_with (fail)
      refine (HF.out _ B2.out).mono ?_
      rintro e w1 ⟨rfl, hb1⟩
      have HB := Lib.hid (B2.out.trans hb1)
      have hz : w.heap.size + 1 < w1.heap.size := by have := hb1.size; simp at this; omega
      have hz0 : w.heap.size < w1.heap.size := by omega
      have k0 : w1.cell? ⟨w.heap.size, 0, none⟩ = some (.pointer (some ⟨b, 0, none⟩)) := cell_later hb1 (by go_simp)
      have k1 : w1.cell? ⟨w.heap.size + 1, 0, none⟩ = some (.string s) := cell_later hb1 (by go_simp)
      clear hb1
      go_wp2_with (fail)
      obtain ⟨w2, hw2⟩ : ∃ w2, w2 = w1.alloc (.cells #[.slice p y.bytes.length cap, .int .i64 y.safe] 97) := ⟨_, rfl⟩
      rw [← hw2]
      have HB2 := Lib.hid (show Bel w w2 by rw [hw2]; exact HB.out.alloc _)
      have m0 : w2.cell? ⟨w.heap.size, 0, none⟩ = some (.pointer (some ⟨b, 0, none⟩)) := by rw [hw2]; exact cell_later ((Bel.refl w1).alloc _) k0
      have m1 : w2.cell? ⟨w.heap.size + 1, 0, none⟩ = some (.string s) := by rw [hw2]; exact cell_later ((Bel.refl w1).alloc _) k1
      have m2 : w2.cell? ⟨w1.heap.size, 0, none⟩ = some (.slice p y.bytes.length cap) := by rw [hw2]; go_simp
      have m3 : w2.cell? ⟨w1.heap.size, 1, none⟩ = some (.int .i64 y.safe) := by rw [hw2]; go_simp
      have hne := HH.out.ne HV.out.own
      refine (pturn_any w2 b M (.map (some mb)) t _ _ (HH.out.keep (Keep.of_bel HB2.out []) (by simp)) (fun z => ProgTo n₀ w z b { (turnS M).2 with L := insS { y with safe := y.bytes.length } M.L } F) (run_enter Tryz.func101 (by kernel_rfl) rfl _) ?_).mono ?_
      · intro w3 t3 hdr hk
        have hV3 : FilesV n₀ w3 mb D V (turnS M).2.L none := by
          rw [turn_L]
          exact (HV.out.bel HB2.out).keep hk (by simpa using fun e => hne e.symm) (fun u hu _ k hk1 hk2 => by
            rw [List.mem_singleton] at hk2
            subst hk2
            exact HH.out.ne_row (HV.out.val u hu (by simp)) (by rw [Option.mem_toList]; exact hk1))
        refine (flushcl_any n₀ w3 b mb (turnS M).2 t3 D V w1.heap.size w.heap.size (w.heap.size + 1) s y hdr hV3 (by rw [turn_L]; exact HS.out) (by rw [turn_L]; exact hL) hs (by rw [turn_L]; exact HY.out) HPV.out rfl
          (hk.cell m2 (by simp; omega)) (hk.cell m3 (by simp; omega)) (hk.cell m0 (by simp; omega)) (hk.cell m1 (by simp; omega))).mono ?_
        rintro e w4 ⟨rfl, hc⟩
        rw [turn_L] at hc
        exact ⟨rfl, prog_of_chg hlow hbF HFW.out (le_sz HP.out) ((Keep.of_bel HB2.out F).trans (hk.mono (G := F) (fun x hx => by rw [List.mem_singleton] at hx; rw [hx]; exact hbF)) (fun x hx => Or.inl hx)) HMF.out HVF.out hc⟩
      · rintro e w5 ⟨rfl, h0, h1⟩
        have R0 := Lib.hid h0
        have R1 := Lib.hid h1
        clear h0 h1 hw2
        go_wp2_with (fail)
        go_ret
        rw [HA.out]
        unfold chgS
        by_cases hT : M.turns = 0
        · rw [if_pos hT]
          obtain ⟨r1, r2⟩ := R0.out hT
          exact ⟨ret_int (by rw [turnS_zero hT]), prog_of_hdr HP.out (fun mv' t' h' => ⟨t, by
            have e : mv' = .map (some mb) := by
              have := h'.1.symm.trans HH.out.1
              simp at this
              exact this.1
            rw [e]; exact r1⟩) (turn_L M) ⟨w2, HB2.out, r2⟩⟩
        · rw [if_neg hT]
          refine ⟨?_, R1.out hT⟩
          rcases Int.lt_or_gt_of_ne hT with h | h
          · exact ret_int (by rw [turnS_neg h])
          · exact ret_int (by rw [turnS_pos h])
end Go.Proofs.YtedopiojidaeiaaGreatDoor
/- file's Cut, Drop, Move. -/
set_option linter.unusedSimpArgs false
set_option linter.unusedVariables false
namespace Go.Proofs.YtedopiojidaeiaaGreatDoor
open Go.RowKit Go.Deep Go.Maps

set_option maxHeartbeats 4000000 in
set_option maxRecDepth 20000 in
theorem pdrop_any (n₀ : Nat) (w : World) (b : Nat) (M : RS) (F : List Nat) (s : ByteArray) (h : ProgAt n₀ w b M F) (hs : s.size ≤ maxLen) (hS : Srt M.L) (hL : M.L.length ≤ 1000) :
    Calls Tryz.prog 77 #[.pointer (some ⟨b, 0, none⟩), .string s] w fun e w' => e = .returned (.int .i64 (dropS s.data.toList M).1) ∧ ProgTo n₀ w w' b (dropS s.data.toList M).2 F := by
  have HP := Lib.hid h
  obtain ⟨⟨mv, t, hb, ht, h64, hf⟩, hlow, hbF, hFw⟩ := h
  have B2 := Lib.hid (((Bel.refl w).alloc (.cells #[.pointer (some ⟨b, 0, none⟩)] 48)).alloc (.cells #[.string s] 9))
  cases hg : M.gone with
  | true =>
    have HA := Lib.hid (show dropS s.data.toList M = (7, M) by unfold dropS onS; rw [if_pos hg])
    have HG := Lib.hid hg
    clear hb hf hg hFw ht h64
    go_enter Tryz.func77, Tryz.ntmps77
    go_wp2_with (fail)
    refine (find_gone n₀ _ b M F s (HP.out.bel B2.out) HG.out).mono ?_
    rintro e w1 ⟨rfl, hb1⟩
    have HB := Lib.hid (B2.out.trans hb1)
    clear hb1
    unfold conZ
    go_wp2_with (fail)
    go_ret
    rw [HA.out]
    exact ⟨rfl, HP.out.to (HB.out.alloc _)⟩
  | false =>
    cases hy : getF s.data.toList M.L with
    | none =>
      have HA := Lib.hid (show dropS s.data.toList M = (4, M) by unfold dropS onS; rw [hg, hy]; rfl)
      have HG := Lib.hid hg
      have HY := Lib.hid hy
      clear hb hf hg hy hFw ht h64
      go_enter Tryz.func77, Tryz.ntmps77
      go_wp2_with (fail)
      refine (find_none n₀ _ b M F s (HP.out.bel B2.out) HG.out hs HY.out).mono ?_
      rintro e w1 ⟨rfl, hb1⟩
      have HB := Lib.hid (B2.out.trans hb1)
      clear hb1
      unfold conZ
      go_wp2_with (fail)
      go_ret
      rw [HA.out]
      exact ⟨rfl, HP.out.to (HB.out.alloc _)⟩
    | some y =>
      rcases hf with ⟨_, hL0⟩ | ⟨mb, D, V, rfl, hV, hmF, hvF⟩
      · rw [hL0] at hy; cases hy
      have HA := Lib.hid (show dropS s.data.toList M = chgS M (outS s.data.toList M.L) by unfold dropS onS; rw [hg, hy]; rfl)
      have hsn : s.data.toList = y.name := (getF_name hy).symm
      obtain ⟨p, cap, hp, -⟩ := own_len (hV.val y (getF_mem hy) (by simp))
      have HF := Lib.hid (fun x (hx : Bel w x) => find_some n₀ x b M mb t D V s y ((Keep.of_bel hx []).at hb (by simp)) (hV.bel hx) hg hs hy)
      rw [hsn, hp] at HF
      unfold conV at HF
      have HV := Lib.hid hV
      have HH := Lib.hid (show Hdr w b M (.map (some mb)) t from ⟨hb, ht, h64⟩)
      have HS := Lib.hid hS
      have HY := Lib.hid hy
      have HPV := Lib.hid hp
      have HFW := Lib.hid hFw
      have HMF := Lib.hid hmF
      have HVF := Lib.hid hvF
      have hbw : b < w.heap.size := (hFw b hbF).2
      clear hb hV hg hy hp hFw ht h64 hmF hvF hS hsn
      go_enter Tryz.func77, Tryz.ntmps77
      go_wp2_with (fail)
      refine (HF.out _ B2.out).mono ?_
      rintro e w1 ⟨rfl, hb1⟩
      have HB := Lib.hid (B2.out.trans hb1)
      have hz : w.heap.size + 1 < w1.heap.size := by have := hb1.size; simp at this; omega
      have hz0 : w.heap.size < w1.heap.size := by omega
      have k0 : w1.cell? ⟨w.heap.size, 0, none⟩ = some (.pointer (some ⟨b, 0, none⟩)) := cell_later hb1 (by go_simp)
      have k1 : w1.cell? ⟨w.heap.size + 1, 0, none⟩ = some (.string s) := cell_later hb1 (by go_simp)
      clear hb1
      go_wp2_with (fail)
      obtain ⟨w2, hw2⟩ : ∃ w2, w2 = w1.alloc (.cells #[.slice p y.bytes.length cap, .int .i64 y.safe] 97) := ⟨_, rfl⟩
      rw [← hw2]
      have HB2 := Lib.hid (show Bel w w2 by rw [hw2]; exact HB.out.alloc _)
      have m0 : w2.cell? ⟨w.heap.size, 0, none⟩ = some (.pointer (some ⟨b, 0, none⟩)) := by rw [hw2]; exact cell_later ((Bel.refl w1).alloc _) k0
      have m1 : w2.cell? ⟨w.heap.size + 1, 0, none⟩ = some (.string s) := by rw [hw2]; exact cell_later ((Bel.refl w1).alloc _) k1
      have m2 : w2.cell? ⟨w1.heap.size, 0, none⟩ = some (.slice p y.bytes.length cap) := by rw [hw2]; go_simp
      have m3 : w2.cell? ⟨w1.heap.size, 1, none⟩ = some (.int .i64 y.safe) := by rw [hw2]; go_simp
      have hne := HH.out.ne HV.out.own
      refine (pturn_any w2 b M (.map (some mb)) t _ _ (HH.out.keep (Keep.of_bel HB2.out []) (by simp)) (fun z => ProgTo n₀ w z b { (turnS M).2 with L := outS s.data.toList M.L } F) (run_enter Tryz.func104 (by kernel_rfl) rfl _) ?_).mono ?_
      · intro w3 t3 hdr hk
        have hV3 : FilesV n₀ w3 mb D V (turnS M).2.L none := by
          rw [turn_L]
          exact (HV.out.bel HB2.out).keep hk (by simpa using fun e => hne e.symm) (fun u hu _ k hk1 hk2 => by
            rw [List.mem_singleton] at hk2
            subst hk2
            exact HH.out.ne_row (HV.out.val u hu (by simp)) (by rw [Option.mem_toList]; exact hk1))
        refine (dropcl_any n₀ w3 b mb (turnS M).2 t3 D V w.heap.size (w.heap.size + 1) s hdr hV3 (by rw [turn_L]; exact HS.out) hs
          (hk.cell m0 (by simp; omega)) (hk.cell m1 (by simp; omega))).mono ?_
        rintro e w4 ⟨rfl, hc⟩
        rw [turn_L] at hc
        exact ⟨rfl, prog_of_chg hlow hbF HFW.out (le_sz HP.out) ((Keep.of_bel HB2.out F).trans (hk.mono (G := F) (fun x hx => by rw [List.mem_singleton] at hx; rw [hx]; exact hbF)) (fun x hx => Or.inl hx)) HMF.out HVF.out hc⟩
      · rintro e w5 ⟨rfl, h0, h1⟩
        have R0 := Lib.hid h0
        have R1 := Lib.hid h1
        clear h0 h1 hw2
        go_wp2_with (fail)
        go_ret
        rw [HA.out]
        unfold chgS
        by_cases hT : M.turns = 0
        · rw [if_pos hT]
          obtain ⟨r1, r2⟩ := R0.out hT
          exact ⟨ret_int (by rw [turnS_zero hT]), prog_of_hdr HP.out (fun mv' t' h' => ⟨t, by
            have e : mv' = .map (some mb) := by
              have := h'.1.symm.trans HH.out.1
              simp at this
              exact this.1
            rw [e]; exact r1⟩) (turn_L M) ⟨w2, HB2.out, r2⟩⟩
        · rw [if_neg hT]
          refine ⟨?_, R1.out hT⟩
          rcases Int.lt_or_gt_of_ne hT with h | h
          · exact ret_int (by rw [turnS_neg h])
          · exact ret_int (by rw [turnS_pos h])

set_option maxHeartbeats 4000000 in
set_option maxRecDepth 20000 in
theorem pcut_any (n₀ : Nat) (w : World) (b : Nat) (M : RS) (F : List Nat) (s : ByteArray) (q : Int) (hq : in64 q) (hsz : ∀ z ∈ M.L, z.bytes.length ≤ 1000000000) (h : ProgAt n₀ w b M F) (hs : s.size ≤ maxLen) (hS : Srt M.L) (hL : M.L.length ≤ 1000) :
    Calls Tryz.prog 117 #[.pointer (some ⟨b, 0, none⟩), .string s, .int .i64 q] w fun e w' => e = .returned (.int .i64 (cutS s.data.toList q M).1) ∧ ProgTo n₀ w w' b (cutS s.data.toList q M).2 F := by
  have HP := Lib.hid h
  obtain ⟨⟨mv, t, hb, ht, h64, hf⟩, hlow, hbF, hFw⟩ := h
  have B2 := Lib.hid ((((Bel.refl w).alloc (.cells #[.pointer (some ⟨b, 0, none⟩)] 48)).alloc (.cells #[.string s] 9)).alloc (.cells #[.int .i64 q] 3))
  cases hg : M.gone with
  | true =>
    have HA := Lib.hid (show cutS s.data.toList q M = (7, M) by unfold cutS onS; rw [if_pos hg])
    have HG := Lib.hid hg
    clear hb hf hg hFw ht h64
    go_enter Tryz.func117, Tryz.ntmps117
    go_wp2_with (fail)
    refine (find_gone n₀ _ b M F s (HP.out.bel B2.out) HG.out).mono ?_
    rintro e w1 ⟨rfl, hb1⟩
    have HB := Lib.hid (B2.out.trans hb1)
    clear hb1
    unfold conZ
    go_wp2_with (fail)
    go_ret
    rw [HA.out]
    exact ⟨rfl, HP.out.to (HB.out.alloc _)⟩
  | false =>
    cases hy : getF s.data.toList M.L with
    | none =>
      have HA := Lib.hid (show cutS s.data.toList q M = (4, M) by unfold cutS onS; rw [hg, hy]; rfl)
      have HG := Lib.hid hg
      have HY := Lib.hid hy
      clear hb hf hg hy hFw ht h64
      go_enter Tryz.func117, Tryz.ntmps117
      go_wp2_with (fail)
      refine (find_none n₀ _ b M F s (HP.out.bel B2.out) HG.out hs HY.out).mono ?_
      rintro e w1 ⟨rfl, hb1⟩
      have HB := Lib.hid (B2.out.trans hb1)
      clear hb1
      unfold conZ
      go_wp2_with (fail)
      go_ret
      rw [HA.out]
      exact ⟨rfl, HP.out.to (HB.out.alloc _)⟩
    | some y =>
      rcases hf with ⟨_, hL0⟩ | ⟨mb, D, V, rfl, hV, hmF, hvF⟩
      · rw [hL0] at hy; cases hy
      have HA := Lib.hid (show cutS s.data.toList q M = if q < 0 ∨ (y.bytes.length : Int) < q then (2, M) else chgS M (insS { y with bytes := y.bytes.take q.toNat, safe := min y.safe q.toNat } M.L) by unfold cutS onS; rw [hg, hy]; rfl)
      have hyz := hsz y (getF_mem hy)
      have hsn : s.data.toList = y.name := (getF_name hy).symm
      obtain ⟨p, cap, hp, -⟩ := own_len (hV.val y (getF_mem hy) (by simp))
      have HF := Lib.hid (fun x (hx : Bel w x) => find_some n₀ x b M mb t D V s y ((Keep.of_bel hx []).at hb (by simp)) (hV.bel hx) hg hs hy)
      rw [hsn, hp] at HF
      unfold conV at HF
      have HV := Lib.hid hV
      have HH := Lib.hid (show Hdr w b M (.map (some mb)) t from ⟨hb, ht, h64⟩)
      have HS := Lib.hid hS
      have HY := Lib.hid hy
      have HPV := Lib.hid hp
      have HFW := Lib.hid hFw
      have HMF := Lib.hid hmF
      have HVF := Lib.hid hvF
      have hbw : b < w.heap.size := (hFw b hbF).2
      clear hb hV hg hy hp hFw ht h64 hmF hvF hS hsn
      by_cases h1 : q < 0
      · rw [if_pos (Or.inl h1)] at HA
        go_enter Tryz.func117, Tryz.ntmps117
        go_wp2_with (fail)
        refine (HF.out _ B2.out).mono ?_
        rintro e w1 ⟨rfl, hb1⟩
        have HB := Lib.hid (B2.out.trans hb1)
        have hz2 : w.heap.size + 2 < w1.heap.size := by have := hb1.size; simp at this; omega
        have hz : w.heap.size + 1 < w1.heap.size := by have := hb1.size; simp at this; omega
        have hz0 : w.heap.size < w1.heap.size := by omega
        have k0 : w1.cell? ⟨w.heap.size, 0, none⟩ = some (.pointer (some ⟨b, 0, none⟩)) := cell_later hb1 (by go_simp)
        have k1 : w1.cell? ⟨w.heap.size + 1, 0, none⟩ = some (.string s) := cell_later hb1 (by go_simp)
        have k2 : w1.cell? ⟨w.heap.size + 2, 0, none⟩ = some (.int .i64 q) := cell_later hb1 (by go_simp)
        clear hb1
        go_wp2_with (fail)
        go_ret
        rw [HA.out]
        exact ⟨rfl, HP.out.to (HB.out.alloc _)⟩
      · by_cases h2 : (y.bytes.length : Int) < q
        · rw [if_pos (Or.inr h2)] at HA
          go_enter Tryz.func117, Tryz.ntmps117
          go_wp2_with (fail)
          refine (HF.out _ B2.out).mono ?_
          rintro e w1 ⟨rfl, hb1⟩
          have HB := Lib.hid (B2.out.trans hb1)
          have hz2 : w.heap.size + 2 < w1.heap.size := by have := hb1.size; simp at this; omega
          have hz : w.heap.size + 1 < w1.heap.size := by have := hb1.size; simp at this; omega
          have hz0 : w.heap.size < w1.heap.size := by omega
          have k0 : w1.cell? ⟨w.heap.size, 0, none⟩ = some (.pointer (some ⟨b, 0, none⟩)) := cell_later hb1 (by go_simp)
          have k1 : w1.cell? ⟨w.heap.size + 1, 0, none⟩ = some (.string s) := cell_later hb1 (by go_simp)
          have k2 : w1.cell? ⟨w.heap.size + 2, 0, none⟩ = some (.int .i64 q) := cell_later hb1 (by go_simp)
          clear hb1
          go_wp2_with (fail)
          go_ret
          rw [HA.out]
          exact ⟨rfl, HP.out.to (HB.out.alloc _)⟩
        · rw [if_neg (by omega)] at HA
          go_enter Tryz.func117, Tryz.ntmps117
          go_wp2_with (fail)
          refine (HF.out _ B2.out).mono ?_
          rintro e w1 ⟨rfl, hb1⟩
          have HB := Lib.hid (B2.out.trans hb1)
          have hz2 : w.heap.size + 2 < w1.heap.size := by have := hb1.size; simp at this; omega
          have hz : w.heap.size + 1 < w1.heap.size := by have := hb1.size; simp at this; omega
          have hz0 : w.heap.size < w1.heap.size := by omega
          have k0 : w1.cell? ⟨w.heap.size, 0, none⟩ = some (.pointer (some ⟨b, 0, none⟩)) := cell_later hb1 (by go_simp)
          have k1 : w1.cell? ⟨w.heap.size + 1, 0, none⟩ = some (.string s) := cell_later hb1 (by go_simp)
          have k2 : w1.cell? ⟨w.heap.size + 2, 0, none⟩ = some (.int .i64 q) := cell_later hb1 (by go_simp)
          clear hb1
          go_wp2_with (fail)
          obtain ⟨w2, hw2⟩ : ∃ w2, w2 = w1.alloc (.cells #[.slice p y.bytes.length cap, .int .i64 y.safe] 97) := ⟨_, rfl⟩
          rw [← hw2]
          have HB2 := Lib.hid (show Bel w w2 by rw [hw2]; exact HB.out.alloc _)
          have m0 : w2.cell? ⟨w.heap.size, 0, none⟩ = some (.pointer (some ⟨b, 0, none⟩)) := by rw [hw2]; exact cell_later ((Bel.refl w1).alloc _) k0
          have m1 : w2.cell? ⟨w.heap.size + 1, 0, none⟩ = some (.string s) := by rw [hw2]; exact cell_later ((Bel.refl w1).alloc _) k1
          have m4 : w2.cell? ⟨w.heap.size + 2, 0, none⟩ = some (.int .i64 q) := by rw [hw2]; exact cell_later ((Bel.refl w1).alloc _) k2
          have m2 : w2.cell? ⟨w1.heap.size, 0, none⟩ = some (.slice p y.bytes.length cap) := by rw [hw2]; go_simp
          have m3 : w2.cell? ⟨w1.heap.size, 1, none⟩ = some (.int .i64 y.safe) := by rw [hw2]; go_simp
          have hne := HH.out.ne HV.out.own
          refine (pturn_any w2 b M (.map (some mb)) t _ _ (HH.out.keep (Keep.of_bel HB2.out []) (by simp)) (fun z => ProgTo n₀ w z b { (turnS M).2 with L := insS { y with bytes := y.bytes.take q.toNat, safe := min y.safe q.toNat } M.L } F) (run_enter Tryz.func140 (by kernel_rfl) rfl _) ?_).mono ?_
          · intro w3 t3 hdr hk
            have hV3 : FilesV n₀ w3 mb D V (turnS M).2.L none := by
              rw [turn_L]
              exact (HV.out.bel HB2.out).keep hk (by simpa using fun e => hne e.symm) (fun u hu _ k hk1 hk2 => by
                rw [List.mem_singleton] at hk2
                subst hk2
                exact HH.out.ne_row (HV.out.val u hu (by simp)) (by rw [Option.mem_toList]; exact hk1))
            refine (cutcl_any n₀ w3 b mb (turnS M).2 t3 D V w1.heap.size (w.heap.size + 2) w.heap.size (w.heap.size + 1) s y hdr hV3 (by rw [turn_L]; exact HS.out) (by rw [turn_L]; exact hL) hs (by rw [turn_L]; exact HY.out) HPV.out rfl q.toNat (by omega) (by rw [show ((q.toNat : Nat) : Int) = q by omega]; exact hk.cell m4 (by simp; omega))
              (hk.cell m2 (by simp; omega)) (hk.cell m3 (by simp; omega)) (hk.cell m0 (by simp; omega)) (hk.cell m1 (by simp; omega))).mono ?_
            rintro e w4 ⟨rfl, hc⟩
            rw [turn_L] at hc
            exact ⟨rfl, prog_of_chg hlow hbF HFW.out (le_sz HP.out) ((Keep.of_bel HB2.out F).trans (hk.mono (G := F) (fun x hx => by rw [List.mem_singleton] at hx; rw [hx]; exact hbF)) (fun x hx => Or.inl hx)) HMF.out HVF.out hc⟩
          · rintro e w5 ⟨rfl, h0, h1⟩
            have R0 := Lib.hid h0
            have R1 := Lib.hid h1
            clear h0 h1 hw2
            go_wp2_with (fail)
            go_ret
            rw [HA.out]
            unfold chgS
            by_cases hT : M.turns = 0
            · rw [if_pos hT]
              obtain ⟨r1, r2⟩ := R0.out hT
              exact ⟨ret_int (by rw [turnS_zero hT]), prog_of_hdr HP.out (fun mv' t' h' => ⟨t, by
                have e : mv' = .map (some mb) := by
                  have := h'.1.symm.trans HH.out.1
                  simp at this
                  exact this.1
                rw [e]; exact r1⟩) (turn_L M) ⟨w2, HB2.out, r2⟩⟩
            · rw [if_neg hT]
              refine ⟨?_, R1.out hT⟩
              rcases Int.lt_or_gt_of_ne hT with h | h
              · exact ret_int (by rw [turnS_neg h])
              · exact ret_int (by rw [turnS_pos h])

end Go.Proofs.YtedopiojidaeiaaGreatDoor
/- file's Add. -/
set_option linter.unusedSimpArgs false
set_option linter.unusedVariables false
namespace Go.Proofs.YtedopiojidaeiaaGreatDoor
open Go.RowKit Go.Deep Go.Maps

set_option maxHeartbeats 4000000 in
set_option maxRecDepth 20000 in
theorem padd_any (n₀ : Nat) (w : World) (b : Nat) (M : RS) (F : List Nat) (s u : ByteArray) (h : ProgAt n₀ w b M F) (hs : s.size ≤ 1000000) (hu : u.size ≤ 1000000) (hS : Srt M.L) (hL : M.L.length ≤ 1000) (hB : bytesN M.L ≤ 1000000000) (hroom : 0 ≤ M.room ∧ M.room ≤ 10000000) :
    Calls Tryz.prog 24 #[.pointer (some ⟨b, 0, none⟩), .string s, .string u] w fun e w' => e = .returned (.int .i64 (addS s.data.toList u.data.toList M).1) ∧ ProgTo n₀ w w' b (addS s.data.toList u.data.toList M).2 F := by
  have HP := Lib.hid h
  obtain ⟨⟨mv, t, hb, ht, h64, hf⟩, hlow, hbF, hFw⟩ := h
  have B2 := Lib.hid ((((Bel.refl w).alloc (.cells #[.pointer (some ⟨b, 0, none⟩)] 48)).alloc (.cells #[.string s] 9)).alloc (.cells #[.string u] 9))
  have hus : u.data.toList.length = u.size := rfl
  obtain ⟨adm, hadm⟩ : ∃ adm, adm = admS s.data.toList u.size M := ⟨_, rfl⟩
  have HAD := Lib.hid (fun x (hx : Bel w x) => hadm ▸ admits_any n₀ x b M F s u.size (HP.out.bel hx) hs hu hS hB hL hroom)
  have hsm := Lib.hid (show s.size ≤ maxLen by unfold maxLen; omega)
  have HH := Lib.hid (show Hdr w b M mv t from ⟨hb, ht, h64⟩)
  have HS := Lib.hid hS
  have HBN := Lib.hid hB
  have HFW := Lib.hid hFw
  have HFA := Lib.hid hf
  have hbw : b < w.heap.size := (hFw b hbF).2
  clear hb hf hFw ht h64 hS
  by_cases ha : adm = 0
  · have HA := Lib.hid (show addS s.data.toList u.data.toList M = chgS M (insS (addF s.data.toList u.data.toList M.L) M.L) by unfold addS; rw [hus, ← hadm, if_pos ha])
    subst ha
    clear hadm
    go_enter Tryz.func24, Tryz.ntmps24
    go_wp2_with (fail)
    refine (HAD.out _ B2.out).mono ?_
    rintro e w2 ⟨rfl, hb1⟩
    have HB2 := Lib.hid (B2.out.trans hb1)
    have hz2 : w.heap.size + 2 < w2.heap.size := by have := hb1.size; simp at this; omega
    have m0 : w2.cell? ⟨w.heap.size, 0, none⟩ = some (.pointer (some ⟨b, 0, none⟩)) := cell_later hb1 (by go_simp)
    have m1 : w2.cell? ⟨w.heap.size + 1, 0, none⟩ = some (.string s) := cell_later hb1 (by go_simp)
    have m2 : w2.cell? ⟨w.heap.size + 2, 0, none⟩ = some (.string u) := cell_later hb1 (by go_simp)
    clear hb1
    go_wp2_with (fail)
    refine (pturn_any w2 b M mv t _ _ (HH.out.keep (Keep.of_bel HB2.out []) (by simp)) (fun z => ProgTo n₀ w z b { (turnS M).2 with L := insS (addF s.data.toList u.data.toList M.L) M.L } F) (run_enter Tryz.func54 (by kernel_rfl) rfl _) ?_).mono ?_
    · intro w3 t3 hdr hk
      have nf : w.heap.size ∉ F ∧ w.heap.size + 1 ∉ F ∧ w.heap.size + 2 ∉ F := by
        refine ⟨fun h => ?_, fun h => ?_, fun h => ?_⟩ <;> have := (HFW.out _ h).2 <;> omega
      have q0 := hk.cell m0 (by simp; omega)
      have q1 := hk.cell m1 (by simp; omega)
      have q2 := hk.cell m2 (by simp; omega)
      have hn0 : n₀ ≤ w3.heap.size := Nat.le_trans (le_sz HP.out) (Nat.le_trans HB2.out.size hk.size)
      have KF := (Keep.of_bel HB2.out F).trans (hk.mono (G := F) (fun x hx => by rw [List.mem_singleton] at hx; rw [hx]; exact hbF)) (fun x hx => Or.inl hx)
      have fin : ∀ w4, Added n₀ w3 w4 b (turnS M).2 t3 (insS (addF s.data.toList u.data.toList (turnS M).2.L) (turnS M).2.L) F → ProgTo n₀ w w4 b { (turnS M).2 with L := insS (addF s.data.toList u.data.toList M.L) M.L } F := by
        intro w4 hc
        rw [turn_L] at hc
        exact prog_of_added hlow hbF HFW.out (le_sz HP.out) KF hc
      rcases HFA.out with ⟨rfl, hL0⟩ | ⟨mb, D, V, rfl, hV, hmF, hvF⟩
      · refine (addcl_nil n₀ w3 b (turnS M).2 t3 F w.heap.size (w.heap.size + 1) (w.heap.size + 2) s u hdr (by rw [turn_L]; exact hL0) (by rw [turn_L]; exact HS.out) (by rw [turn_L]; exact hL) hbF hn0 hsm.out hu q0 q1 q2 nf).mono ?_
        rintro e w4 ⟨rfl, hc⟩
        exact ⟨rfl, fin w4 hc⟩
      · have hne := HH.out.ne hV.own
        have hV3 : FilesV n₀ w3 mb D V (turnS M).2.L none := by
          rw [turn_L]
          exact (hV.bel HB2.out).keep hk (by simpa using fun e => hne e.symm) (fun u hu _ k hk1 hk2 => by
            rw [List.mem_singleton] at hk2
            subst hk2
            exact HH.out.ne_row (hV.val u hu (by simp)) (by rw [Option.mem_toList]; exact hk1))
        cases hy : getF s.data.toList M.L with
        | none =>
          refine (addcl_none n₀ w3 b (turnS M).2 t3 F mb D V w.heap.size (w.heap.size + 1) (w.heap.size + 2) s u hdr hV3 hmF (by rw [turn_L]; exact hvF) (by rw [turn_L]; exact HS.out) (by rw [turn_L]; exact hL) hbF hn0 hsm.out hu (by rw [turn_L]; exact hy) q0 q1 q2 nf).mono ?_
          rintro e w4 ⟨rfl, hc⟩
          exact ⟨rfl, fin w4 hc⟩
        | some y =>
          refine (addcl_some n₀ w3 b (turnS M).2 t3 F mb D V w.heap.size (w.heap.size + 1) (w.heap.size + 2) s u hdr hV3 hmF (by rw [turn_L]; exact hvF) (by rw [turn_L]; exact HS.out) (by rw [turn_L]; exact hL) hbF hn0 hsm.out hu y (by rw [turn_L]; exact hy) (Nat.le_trans (bytes_mem (getF_mem hy)) HBN.out) q0 q1 q2 nf).mono ?_
          rintro e w4 ⟨rfl, hc⟩
          exact ⟨rfl, fin w4 hc⟩
    · rintro e w5 ⟨rfl, h0, h1⟩
      have R0 := Lib.hid h0
      have R1 := Lib.hid h1
      clear h0 h1
      go_wp2_with (fail)
      go_ret
      rw [HA.out]
      unfold chgS
      by_cases hT : M.turns = 0
      · rw [if_pos hT]
        obtain ⟨r1, r2⟩ := R0.out hT
        exact ⟨ret_int (by rw [turnS_zero hT]), prog_of_hdr HP.out (fun mv' t' h' => ⟨t, by
          have e : mv' = mv := by
            have := h'.1.symm.trans HH.out.1
            simp at this
            exact this.1
          rw [e]; exact r1⟩) (turn_L M) ⟨w2, HB2.out, r2⟩⟩
      · rw [if_neg hT]
        refine ⟨?_, R1.out hT⟩
        rcases Int.lt_or_gt_of_ne hT with h | h
        · exact ret_int (by rw [turnS_neg h])
        · exact ret_int (by rw [turnS_pos h])
  · have HA := Lib.hid (show addS s.data.toList u.data.toList M = (adm, M) by unfold addS; rw [hus, ← hadm, if_neg ha])
    have ha2 : (adm == 0) = false := by rw [beq_eq_false_iff_ne]; exact ha
    clear hadm
    go_enter Tryz.func24, Tryz.ntmps24
    go_wp2_with (fail)
    refine (HAD.out _ B2.out).mono ?_
    rintro e w2 ⟨rfl, hb1⟩
    have HB2 := Lib.hid (B2.out.trans hb1)
    clear hb1
    have ha3 : (adm != 0) = true := by rw [bne_iff_ne]; exact ha
    go_wp2_with (fail)
    go_ret
    rw [HA.out]
    exact ⟨rfl, HP.out.to HB2.out⟩
end Go.Proofs.YtedopiojidaeiaaGreatDoor
