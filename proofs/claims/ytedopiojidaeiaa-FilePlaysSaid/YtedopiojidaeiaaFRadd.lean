/- moultref6's Add. -/
import Derived.Test.YtedopiojidaeiaaFRop2
set_option linter.unusedSimpArgs false
set_option linter.unusedVariables false
namespace Go.Proofs.Ytedopiojidaeiaa
open Go.RowKit Go.Deep Go.Maps

set_option maxHeartbeats 4000000 in
set_option maxRecDepth 20000 in
theorem radd_any (n₀ : Nat) (w : World) (b : Nat) (M : RS) (F : List Nat) (s u : ByteArray) (hs : s.size ≤ 1000000) (hu : u.size ≤ 1000000) (h : RefP n₀ w b M F) (hM : M.ok) :
    Calls Try.prog 10 #[.pointer (some ⟨b, 0, none⟩), .string s, .string u] w fun e w' => e = .returned (.int .i64 (addS s.data.toList u.data.toList M).1) ∧ RefTo n₀ w w' b (addS s.data.toList u.data.toList M).2 F := by
  obtain ⟨v, h, hb, hv, hF⟩ := h
  have HR := Lib.hid h
  have HM := Lib.hid hM
  have hn : n₀ ≤ w.heap.size := Nat.le_of_lt (Nat.lt_of_le_of_lt h.low h.lt)
  have HTo := Lib.hid (fun x M' v' => ref_to (x := x) (M := M') (v' := v') hb hv hF hn)
  have hbF := Lib.hid hb
  clear h hb hv hF
  have hsm : s.size ≤ maxLen := by unfold maxLen; omega
  have hul : u.data.toList.length = u.size := rfl
  have HS : isN s.data.toList M.L = (getF s.data.toList M.L).isSome := is_getF _ hM.srt
  have hbm := good_bytes' hM
  obtain ⟨hr1, hr2⟩ := hM.room
  have hlen := hM.len
  clear hM
  obtain ⟨p, cap, rfl⟩ := ownG_len HR.out.own
  have HFI := Lib.hid (show isN s.data.toList M.L = true → findN s.data.toList M.L < M.L.length from fun h => by
    rcases Nat.lt_or_ge (findN s.data.toList M.L) M.L.length with k | k
    · exact k
    · rw [is_end _ M.L (by omega)] at h; cases h)
  have HFG := Lib.hid (show isN s.data.toList M.L = true → M.L[findN s.data.toList M.L]? = getF s.data.toList M.L from fun h => find_getF _ HM.out.srt h)
  have hfle := find_le s.data.toList M.L
  go_enter Try.func10, Try.ntmps10
  go_wp2_with (fail)
  refine (find_any n₀ _ b M _ s HR.out (by omega)).mono ?_
  rintro e w0 ⟨rfl, hd0⟩
  have HB0 := Lib.hid hd0.bel
  clear hd0
  rw [HS] at HFI HFG ⊢
  clear HS
  generalize findN s.data.toList M.L = fn at *
  go_wp2_with (fail)
  refine (rname_any s _ hsm).mono ?_
  rintro e w1 ⟨rfl, hd1⟩
  have HB := Lib.hid (HB0.out.trans hd1.bel)
  clear hd1
  have HR1 := Lib.hid (HR.out.bel HB.out)
  obtain ⟨c0, c1, c2, c3⟩ := HR1.out.cells
  cases hg : M.gone with
  | true =>
    have HA := Lib.hid (show addS s.data.toList u.data.toList M = (7, M) by unfold addS admS; rw [if_pos hg]; rfl)
    rw [hg] at c3
    clear hg
    go_wp2_with (fail)
    go_ret
    rw [HA.out]
    exact ⟨rfl, HTo.out _ _ _ HR1.out (Keep.of_bel HB.out F) (Or.inl rfl)⟩
  | false =>
  rw [hg] at c3
  cases hnm : nameB s.data.toList with
  | false =>
    have HA := Lib.hid (show addS s.data.toList u.data.toList M = (3, M) by unfold addS admS; rw [hg, hnm]; rfl)
    clear hg hnm
    go_wp2_with (fail)
    go_ret
    rw [HA.out]
    exact ⟨rfl, HTo.out _ _ _ HR1.out (Keep.of_bel HB.out F) (Or.inl rfl)⟩
  | true =>
  by_cases hm : (getF s.data.toList M.L).isSome = false ∧ 60 ≤ M.L.length
  · have HA := Lib.hid (show addS s.data.toList u.data.toList M = (11, M) by unfold addS admS; rw [hg, hnm, if_pos hm]; rfl)
    obtain ⟨hm1, hm2⟩ := hm
    rw [hm1]
    clear hg hnm hm1
    go_wp2_with (fail)
    go_ret
    rw [HA.out]
    exact ⟨rfl, HTo.out _ _ _ HR1.out (Keep.of_bel HB.out F) (Or.inl rfl)⟩
  have hroad : (getF s.data.toList M.L).isSome = true ∨ ((getF s.data.toList M.L).isSome = false ∧ M.L.length < 60) := by
    cases hi : (getF s.data.toList M.L).isSome with
    | true => exact Or.inl rfl
    | false => exact Or.inr ⟨rfl, by rw [hi] at hm; simp at hm; exact hm⟩
  have HQ := Lib.hid (show ¬ M.room < (bytesN M.L : Int) + (u.size : Nat) → addS s.data.toList u.data.toList M = chgS M (insS (addF s.data.toList u.data.toList M.L) M.L) from fun hfull => by
    unfold addS admS; rw [hg, hnm, if_neg hm, hul, if_neg hfull]; rfl)
  have HQ6 := Lib.hid (show M.room < (bytesN M.L : Int) + (u.size : Nat) → addS s.data.toList u.data.toList M = (6, M) from fun hfull => by
    unfold addS admS; rw [hg, hnm, if_neg hm, hul, if_pos hfull]; rfl)
  clear hg hnm hm
  rcases hroad with hi | ⟨hi, hlt⟩
  · rw [hi] at HFI HFG ⊢
    have hfl := HFI.out rfl
    have hfg := HFG.out rfl
    rw [List.getElem?_eq_getElem hfl] at hfg
    obtain ⟨x, hx⟩ : ∃ x, x = M.L[fn] := ⟨_, rfl⟩
    rw [← hx] at hfg
    have hne : M.L ≠ [] := by intro e; rw [e] at hfl; simp at hfl
    have HAF := Lib.hid (show addF s.data.toList u.data.toList M.L = { x with bytes := x.bytes ++ u.data.toList } by unfold addF; rw [← hfg])
    have hxb := bytes_mem (getF_mem hfg.symm)
    clear hfg hi HFI HFG
    go_wp2_with (fail)
    have hwr : IntKind.i64.wrap ((bytesN M.L : Int) + (u.size : Nat)) = (bytesN M.L : Int) + (u.size : Nat) := wrap_i64_in (by omega) (by omega)
    refine wp_region_held_drew (S := fun y => y.cell? ⟨b, 1, none⟩ = some (.int .i64 M.room)) (by kernel_rfl) c1 (fun hHeld => ?_)
    refine wpAnyH_take (i := 0) (oi := { dst := some 40, op := Op.move (Operand.tmp 0), type := 29, pos := "ref.go:95", after := #[], guard := none }) (v := ?_) rfl (by kernel_rfl) (by kernel_rfl) (by kernel_rfl) (fun _ _ _ h => h) (Or.inl ⟨by rfl, ?_⟩) (by assumption) ?_
    rotate_left
    · (intro w hSw; (try dsimp only at hSw); first | (go_simp; done) | (go_simp; with_reducible rfl))
    try simp only [Act.put, List.setIfInBounds_toArray, List.set_cons_zero, List.set_cons_succ]
    refine wpAnyH_take (i := 2) (oi := { dst := some 42, op := Op.move (Operand.tmp 2), type := 9, pos := "ref.go:95", after := #[], guard := none }) (v := ?_) rfl (by kernel_rfl) (by kernel_rfl) (by kernel_rfl) (fun _ _ _ h => h) (Or.inl ⟨by rfl, ?_⟩) (by assumption) ?_
    rotate_left
    · (intro w hSw; (try dsimp only at hSw); first | (go_simp; done) | (go_simp; with_reducible rfl))
    try simp only [Act.put, List.setIfInBounds_toArray, List.set_cons_zero, List.set_cons_succ]
    refine wpAnyH_take (i := 3) (oi := { dst := some 43, op := Op.call { callee := Callee.builtin Builtin.len, args := #[Operand.tmp 42], argTypes := #[9] }, type := 3, pos := "ref.go:95", after := #[{ on := 2, ground := Ground.data }], guard := none }) (v := ?_) rfl (by kernel_rfl) (by kernel_rfl) (by kernel_rfl) (fun _ _ _ h => h) (Or.inl ⟨by rfl, ?_⟩) (by assumption) ?_
    rotate_left
    · (intro w hSw; (try dsimp only at hSw); first | (go_simp; done) | (go_simp; with_reducible rfl))
    try simp only [Act.put, List.setIfInBounds_toArray, List.set_cons_zero, List.set_cons_succ]
    refine wpAnyH_take (i := 5) (oi := { dst := some 45, op := Op.move (Operand.tmp 0), type := 29, pos := "ref.go:95", after := #[], guard := none }) (v := ?_) rfl (by kernel_rfl) (by kernel_rfl) (by kernel_rfl) (fun _ _ _ h => h) (Or.inl ⟨by rfl, ?_⟩) (by assumption) ?_
    rotate_left
    · (intro w hSw; (try dsimp only at hSw); first | (go_simp; done) | (go_simp; with_reducible rfl))
    try simp only [Act.put, List.setIfInBounds_toArray, List.set_cons_zero, List.set_cons_succ]
    refine wpAnyH_take (i := 6) (oi := { dst := some 46, op := Op.nilCheck (Operand.tmp 45), type := 0, pos := "ref.go:95", after := #[{ on := 5, ground := Ground.data }], guard := none }) (v := ?_) rfl (by kernel_rfl) (by kernel_rfl) (by kernel_rfl) (fun _ _ _ h => h) (Or.inl ⟨by rfl, ?_⟩) (by assumption) ?_
    rotate_left
    · (intro w hSw; (try dsimp only at hSw); first | (go_simp; done) | (go_simp; with_reducible rfl))
    try simp only [Act.put, List.setIfInBounds_toArray, List.set_cons_zero, List.set_cons_succ]
    refine wpAnyH_take (i := 7) (oi := { dst := some 47, op := Op.fieldAddr 52 (Operand.tmp 46) 1, type := 0, pos := "ref.go:95", after := #[{ on := 6, ground := Ground.data }], guard := none }) (v := ?_) rfl (by kernel_rfl) (by kernel_rfl) (by kernel_rfl) (fun _ _ _ h => h) (Or.inl ⟨by rfl, ?_⟩) (by assumption) ?_
    rotate_left
    · (intro w hSw; (try dsimp only at hSw); first | (go_simp; done) | (go_simp; with_reducible rfl))
    try simp only [Act.put, List.setIfInBounds_toArray, List.set_cons_zero, List.set_cons_succ]
    refine wpAnyH_take (i := 8) (oi := { dst := some 48, op := Op.load 3 (Operand.tmp 47), type := 3, pos := "ref.go:95", after := #[{ on := 7, ground := Ground.data }], guard := none }) (v := ?_) rfl (by kernel_rfl) (by kernel_rfl) (by kernel_rfl) (fun _ _ _ h => h) (Or.inl ⟨by rfl, ?_⟩) (by assumption) ?_
    rotate_left
    · (intro w hSw; (try dsimp only at hSw); first | (go_simp; done) | (go_simp; with_reducible rfl))
    try simp only [Act.put, List.setIfInBounds_toArray, List.set_cons_zero, List.set_cons_succ]
    refine wpAnyH_ready (rs := [1]) (by kernel_rfl) (by simp) ?_
    refine AllReadyH.cons (o := { dst := some 41, op := Op.call { callee := Callee.value (Operand.func 25), args := #[Operand.tmp 40], argTypes := #[29] }, type := 3, pos := "ref.go:95", after := #[{ on := 0, ground := Ground.data }], guard := none }) rfl (fun K hK => ?_) AllReadyH.nil
    go_simp
    refine (used_any n₀ _ b M _ (HR1.out.bel (Bel.refl w1).drew) (by omega) hbm).mono ?_
    rintro e w2 ⟨rfl, hd2⟩
    have D1 := Lib.hid ((Bel.refl w1).drew.trans hd2.bel)
    clear hd2
    have d1 := cell_later D1.out c1
    dsimp only
    refine hK.out _ _ d1 (fun hHeld => ?_)
    clear hK K
    try simp only [Act.put, List.setIfInBounds_toArray, List.set_cons_zero, List.set_cons_succ]
    have HB2 := Lib.hid (HB.out.trans D1.out)
    by_cases hfull : M.room < (bytesN M.L : Int) + (u.size : Nat)
    · have HA := Lib.hid (HQ6.out (by omega))
      refine wpAnyH_take (i := 4) (oi := { dst := some 44, op := Op.binOp BinOp.add 3 (Operand.tmp 41) (Operand.tmp 43) 3, type := 3, pos := "ref.go:95", after := #[{ on := 1, ground := Ground.data }, { on := 3, ground := Ground.data }], guard := none }) (v := ?_) rfl (by kernel_rfl) (by kernel_rfl) (by kernel_rfl) (fun _ _ _ h => h) (Or.inl ⟨by rfl, ?_⟩) (by assumption) ?_
      rotate_left
      · (intro w hSw; (try dsimp only at hSw); first | (go_simp; done) | (go_simp; with_reducible rfl))
      try simp only [Act.put, List.setIfInBounds_toArray, List.set_cons_zero, List.set_cons_succ]
      refine wpAnyH_take (i := 9) (oi := { dst := some 49, op := Op.binOp BinOp.gtr 3 (Operand.tmp 44) (Operand.tmp 48) 3, type := 4, pos := "ref.go:95", after := #[{ on := 4, ground := Ground.data }, { on := 8, ground := Ground.data }], guard := none }) (v := ?_) rfl (by kernel_rfl) (by kernel_rfl) (by kernel_rfl) (fun _ _ _ h => h) (Or.inl ⟨by rfl, ?_⟩) (by assumption) ?_
      rotate_left
      · (intro w hSw; (try dsimp only at hSw); first | (go_simp; done) | (go_simp; with_reducible rfl))
      try simp only [Act.put, List.setIfInBounds_toArray, List.set_cons_zero, List.set_cons_succ]
      refine wpAnyH_take (i := 10) (oi := { dst := some 39, op := Op.assign (Operand.tmp 49), type := 4, pos := "ref.go:95", after := #[{ on := 9, ground := Ground.data }, { on := 1, ground := Ground.chain }], guard := none }) (v := ?_) rfl (by kernel_rfl) (by kernel_rfl) (by kernel_rfl) (fun _ _ _ h => h) (Or.inl ⟨by rfl, ?_⟩) (by assumption) ?_
      rotate_left
      · (intro w hSw; (try dsimp only at hSw); first | (go_simp; done) | (go_simp; with_reducible rfl))
      try simp only [Act.put, List.setIfInBounds_toArray, List.set_cons_zero, List.set_cons_succ]
      refine wpAnyH_done (by kernel_rfl) ?_ _
      go_wp2_with (fail)
      go_ret
      rw [HA.out]
      exact ⟨rfl, HTo.out _ _ _ (HR.out.bel HB2.out) (Keep.of_bel HB2.out F) (Or.inl rfl)⟩
    have HA := Lib.hid (HQ.out (by omega))
    clear HQ HQ6
    refine wpAnyH_take (i := 4) (oi := { dst := some 44, op := Op.binOp BinOp.add 3 (Operand.tmp 41) (Operand.tmp 43) 3, type := 3, pos := "ref.go:95", after := #[{ on := 1, ground := Ground.data }, { on := 3, ground := Ground.data }], guard := none }) (v := ?_) rfl (by kernel_rfl) (by kernel_rfl) (by kernel_rfl) (fun _ _ _ h => h) (Or.inl ⟨by rfl, ?_⟩) (by assumption) ?_
    rotate_left
    · (intro w hSw; (try dsimp only at hSw); first | (go_simp; done) | (go_simp; with_reducible rfl))
    try simp only [Act.put, List.setIfInBounds_toArray, List.set_cons_zero, List.set_cons_succ]
    refine wpAnyH_take (i := 9) (oi := { dst := some 49, op := Op.binOp BinOp.gtr 3 (Operand.tmp 44) (Operand.tmp 48) 3, type := 4, pos := "ref.go:95", after := #[{ on := 4, ground := Ground.data }, { on := 8, ground := Ground.data }], guard := none }) (v := ?_) rfl (by kernel_rfl) (by kernel_rfl) (by kernel_rfl) (fun _ _ _ h => h) (Or.inl ⟨by rfl, ?_⟩) (by assumption) ?_
    rotate_left
    · (intro w hSw; (try dsimp only at hSw); first | (go_simp; done) | (go_simp; with_reducible rfl))
    try simp only [Act.put, List.setIfInBounds_toArray, List.set_cons_zero, List.set_cons_succ]
    refine wpAnyH_take (i := 10) (oi := { dst := some 39, op := Op.assign (Operand.tmp 49), type := 4, pos := "ref.go:95", after := #[{ on := 9, ground := Ground.data }, { on := 1, ground := Ground.chain }], guard := none }) (v := ?_) rfl (by kernel_rfl) (by kernel_rfl) (by kernel_rfl) (fun _ _ _ h => h) (Or.inl ⟨by rfl, ?_⟩) (by assumption) ?_
    rotate_left
    · (intro w hSw; (try dsimp only at hSw); first | (go_simp; done) | (go_simp; with_reducible rfl))
    try simp only [Act.put, List.setIfInBounds_toArray, List.set_cons_zero, List.set_cons_succ]
    refine wpAnyH_done (by kernel_rfl) ?_ _
    go_wp2_with (fail)
    refine (turn_any n₀ _ b M _ (HR.out.bel HB2.out) HM.out.turns).mono ?_
    rintro e w3 ⟨rfl, h2, hk2⟩
    by_cases ht : M.turns = 0
    · have HC := Lib.hid (show addS s.data.toList u.data.toList M = (7, (turnS M).2) by rw [HA.out]; unfold chgS; rw [if_pos ht])
      have HT1 := Lib.hid (show (turnS M).1 = 7 by rw [turn_zero ht])
      rw [HT1.out]
      have H2 := Lib.hid h2
      have HK2 := Lib.hid hk2
      clear h2 hk2 ht
      go_wp2_with (fail)
      go_ret
      rw [HC.out]
      exact ⟨rfl, HTo.out _ _ _ H2.out ((Keep.of_bel HB2.out F).trans HK2.out (one_in hbF.out)) (Or.inl rfl)⟩
    have HC := Lib.hid (show addS s.data.toList u.data.toList M = (0, { (turnS M).2 with L := insS (addF s.data.toList u.data.toList M.L) M.L }) by rw [HA.out]; unfold chgS; rw [if_neg ht])
    have HT1 := Lib.hid (turn_one ht)
    rw [HT1.out]
    have H2 := Lib.hid h2
    have HK2 := Lib.hid hk2
    clear h2 hk2 ht
    obtain ⟨e0, -, -, -⟩ := H2.out.cells
    have hb3 : b < w3.heap.size := H2.out.lt
    obtain ⟨g, cap', hv, _, hgl, _, hcs⟩ := ownG_cells fileOk (show OwnG fileEl n₀ w3 _ M.L by have := H2.out.own; rwa [turn_L] at this) hne
    cases hv
    have d0 := hcs fn x (by rw [List.getElem?_eq_getElem hfl, hx]) 0 _ rfl
    have d1 := hcs fn x (by rw [List.getElem?_eq_getElem hfl, hx]) 1 _ rfl
    have d2 := hcs fn x (by rw [List.getElem?_eq_getElem hfl, hx]) 2 _ rfl
    simp only [fileEl, Nat.add_zero] at d0 d1 d2
    clear hcs hx
    have hxs : (⟨x.bytes.toArray⟩ : ByteArray).size = x.bytes.length := by show x.bytes.toArray.size = _; simp
    have hub : x.bytes.length + u.size ≤ 2000000000 := by omega
    have hw3 : w.heap.size ≤ w3.heap.size := Nat.le_trans HB2.out.size HK2.out.size
    go_wp2_with (fail)
    have hcat : (⟨x.bytes.toArray⟩ : ByteArray) ++ u = ⟨(x.bytes ++ u.data.toList).toArray⟩ := by apply ByteArray.ext; simp
    have hfv : fileV (addF s.data.toList u.data.toList M.L) = .agg #[.string ⟨x.name.toArray⟩, .string ((⟨x.bytes.toArray⟩ : ByteArray) ++ u), .int .i64 x.safe] := by rw [HAF.out, hcat]; unfold fileV; simp
    have P := put_any n₀ _ b _ _ (H2.out.bel ((Bel.refl w3).alloc (.cells #[.string ⟨x.name.toArray⟩, .string ((⟨x.bytes.toArray⟩ : ByteArray) ++ u), .int .i64 x.safe] 64))) (addF s.data.toList u.data.toList M.L) (by rw [turn_L]; omega) (by simp; omega)
    rw [hfv] at P
    refine P.mono ?_
    rintro e w4 ⟨⟨uu, rfl⟩, v4, h5, hv5, hk5⟩
    rw [turn_L] at h5
    have H5 := Lib.hid h5
    have HV5 := Lib.hid hv5
    have HK5 := Lib.hid hk5
    clear h5 hv5 hk5 P
    go_wp2_with (fail)
    go_ret
    rw [HC.out]
    have K2 := ((Keep.of_bel HB2.out F).trans HK2.out (one_in hbF.out)).alloc (.cells #[.string ⟨x.name.toArray⟩, .string ((⟨x.bytes.toArray⟩ : ByteArray) ++ u), .int .i64 x.safe] 64)
    exact ⟨rfl, HTo.out _ _ _ H5.out (K2.trans HK5.out (one_in hbF.out)) (Or.inr fun k hk => ⟨Nat.le_trans K2.size (HV5.out k hk), (own_lt H5.out k hk).2⟩)⟩
  · rw [hi] at HFI HFG ⊢
    have hnone : getF s.data.toList M.L = none := by
      cases hy : getF s.data.toList M.L with
      | none => rfl
      | some y => rw [hy] at hi; cases hi
    have HAF := Lib.hid (show addF s.data.toList u.data.toList M.L = ⟨s.data.toList, u.data.toList, 0⟩ by unfold addF; rw [hnone])
    clear hi HFI HFG hnone
    go_wp2_with (fail)
    have hwr : IntKind.i64.wrap ((bytesN M.L : Int) + (u.size : Nat)) = (bytesN M.L : Int) + (u.size : Nat) := wrap_i64_in (by omega) (by omega)
    refine wp_region_held_drew (S := fun y => y.cell? ⟨b, 1, none⟩ = some (.int .i64 M.room)) (by kernel_rfl) c1 (fun hHeld => ?_)
    refine wpAnyH_take (i := 0) (oi := { dst := some 40, op := Op.move (Operand.tmp 0), type := 29, pos := "ref.go:95", after := #[], guard := none }) (v := ?_) rfl (by kernel_rfl) (by kernel_rfl) (by kernel_rfl) (fun _ _ _ h => h) (Or.inl ⟨by rfl, ?_⟩) (by assumption) ?_
    rotate_left
    · (intro w hSw; (try dsimp only at hSw); first | (go_simp; done) | (go_simp; with_reducible rfl))
    try simp only [Act.put, List.setIfInBounds_toArray, List.set_cons_zero, List.set_cons_succ]
    refine wpAnyH_take (i := 2) (oi := { dst := some 42, op := Op.move (Operand.tmp 2), type := 9, pos := "ref.go:95", after := #[], guard := none }) (v := ?_) rfl (by kernel_rfl) (by kernel_rfl) (by kernel_rfl) (fun _ _ _ h => h) (Or.inl ⟨by rfl, ?_⟩) (by assumption) ?_
    rotate_left
    · (intro w hSw; (try dsimp only at hSw); first | (go_simp; done) | (go_simp; with_reducible rfl))
    try simp only [Act.put, List.setIfInBounds_toArray, List.set_cons_zero, List.set_cons_succ]
    refine wpAnyH_take (i := 3) (oi := { dst := some 43, op := Op.call { callee := Callee.builtin Builtin.len, args := #[Operand.tmp 42], argTypes := #[9] }, type := 3, pos := "ref.go:95", after := #[{ on := 2, ground := Ground.data }], guard := none }) (v := ?_) rfl (by kernel_rfl) (by kernel_rfl) (by kernel_rfl) (fun _ _ _ h => h) (Or.inl ⟨by rfl, ?_⟩) (by assumption) ?_
    rotate_left
    · (intro w hSw; (try dsimp only at hSw); first | (go_simp; done) | (go_simp; with_reducible rfl))
    try simp only [Act.put, List.setIfInBounds_toArray, List.set_cons_zero, List.set_cons_succ]
    refine wpAnyH_take (i := 5) (oi := { dst := some 45, op := Op.move (Operand.tmp 0), type := 29, pos := "ref.go:95", after := #[], guard := none }) (v := ?_) rfl (by kernel_rfl) (by kernel_rfl) (by kernel_rfl) (fun _ _ _ h => h) (Or.inl ⟨by rfl, ?_⟩) (by assumption) ?_
    rotate_left
    · (intro w hSw; (try dsimp only at hSw); first | (go_simp; done) | (go_simp; with_reducible rfl))
    try simp only [Act.put, List.setIfInBounds_toArray, List.set_cons_zero, List.set_cons_succ]
    refine wpAnyH_take (i := 6) (oi := { dst := some 46, op := Op.nilCheck (Operand.tmp 45), type := 0, pos := "ref.go:95", after := #[{ on := 5, ground := Ground.data }], guard := none }) (v := ?_) rfl (by kernel_rfl) (by kernel_rfl) (by kernel_rfl) (fun _ _ _ h => h) (Or.inl ⟨by rfl, ?_⟩) (by assumption) ?_
    rotate_left
    · (intro w hSw; (try dsimp only at hSw); first | (go_simp; done) | (go_simp; with_reducible rfl))
    try simp only [Act.put, List.setIfInBounds_toArray, List.set_cons_zero, List.set_cons_succ]
    refine wpAnyH_take (i := 7) (oi := { dst := some 47, op := Op.fieldAddr 52 (Operand.tmp 46) 1, type := 0, pos := "ref.go:95", after := #[{ on := 6, ground := Ground.data }], guard := none }) (v := ?_) rfl (by kernel_rfl) (by kernel_rfl) (by kernel_rfl) (fun _ _ _ h => h) (Or.inl ⟨by rfl, ?_⟩) (by assumption) ?_
    rotate_left
    · (intro w hSw; (try dsimp only at hSw); first | (go_simp; done) | (go_simp; with_reducible rfl))
    try simp only [Act.put, List.setIfInBounds_toArray, List.set_cons_zero, List.set_cons_succ]
    refine wpAnyH_take (i := 8) (oi := { dst := some 48, op := Op.load 3 (Operand.tmp 47), type := 3, pos := "ref.go:95", after := #[{ on := 7, ground := Ground.data }], guard := none }) (v := ?_) rfl (by kernel_rfl) (by kernel_rfl) (by kernel_rfl) (fun _ _ _ h => h) (Or.inl ⟨by rfl, ?_⟩) (by assumption) ?_
    rotate_left
    · (intro w hSw; (try dsimp only at hSw); first | (go_simp; done) | (go_simp; with_reducible rfl))
    try simp only [Act.put, List.setIfInBounds_toArray, List.set_cons_zero, List.set_cons_succ]
    refine wpAnyH_ready (rs := [1]) (by kernel_rfl) (by simp) ?_
    refine AllReadyH.cons (o := { dst := some 41, op := Op.call { callee := Callee.value (Operand.func 25), args := #[Operand.tmp 40], argTypes := #[29] }, type := 3, pos := "ref.go:95", after := #[{ on := 0, ground := Ground.data }], guard := none }) rfl (fun K hK => ?_) AllReadyH.nil
    go_simp
    refine (used_any n₀ _ b M _ (HR1.out.bel (Bel.refl w1).drew) (by omega) hbm).mono ?_
    rintro e w2 ⟨rfl, hd2⟩
    have D1 := Lib.hid ((Bel.refl w1).drew.trans hd2.bel)
    clear hd2
    have d1 := cell_later D1.out c1
    dsimp only
    refine hK.out _ _ d1 (fun hHeld => ?_)
    clear hK K
    try simp only [Act.put, List.setIfInBounds_toArray, List.set_cons_zero, List.set_cons_succ]
    have HB2 := Lib.hid (HB.out.trans D1.out)
    by_cases hfull : M.room < (bytesN M.L : Int) + (u.size : Nat)
    · have HA := Lib.hid (HQ6.out (by omega))
      refine wpAnyH_take (i := 4) (oi := { dst := some 44, op := Op.binOp BinOp.add 3 (Operand.tmp 41) (Operand.tmp 43) 3, type := 3, pos := "ref.go:95", after := #[{ on := 1, ground := Ground.data }, { on := 3, ground := Ground.data }], guard := none }) (v := ?_) rfl (by kernel_rfl) (by kernel_rfl) (by kernel_rfl) (fun _ _ _ h => h) (Or.inl ⟨by rfl, ?_⟩) (by assumption) ?_
      rotate_left
      · (intro w hSw; (try dsimp only at hSw); first | (go_simp; done) | (go_simp; with_reducible rfl))
      try simp only [Act.put, List.setIfInBounds_toArray, List.set_cons_zero, List.set_cons_succ]
      refine wpAnyH_take (i := 9) (oi := { dst := some 49, op := Op.binOp BinOp.gtr 3 (Operand.tmp 44) (Operand.tmp 48) 3, type := 4, pos := "ref.go:95", after := #[{ on := 4, ground := Ground.data }, { on := 8, ground := Ground.data }], guard := none }) (v := ?_) rfl (by kernel_rfl) (by kernel_rfl) (by kernel_rfl) (fun _ _ _ h => h) (Or.inl ⟨by rfl, ?_⟩) (by assumption) ?_
      rotate_left
      · (intro w hSw; (try dsimp only at hSw); first | (go_simp; done) | (go_simp; with_reducible rfl))
      try simp only [Act.put, List.setIfInBounds_toArray, List.set_cons_zero, List.set_cons_succ]
      refine wpAnyH_take (i := 10) (oi := { dst := some 39, op := Op.assign (Operand.tmp 49), type := 4, pos := "ref.go:95", after := #[{ on := 9, ground := Ground.data }, { on := 1, ground := Ground.chain }], guard := none }) (v := ?_) rfl (by kernel_rfl) (by kernel_rfl) (by kernel_rfl) (fun _ _ _ h => h) (Or.inl ⟨by rfl, ?_⟩) (by assumption) ?_
      rotate_left
      · (intro w hSw; (try dsimp only at hSw); first | (go_simp; done) | (go_simp; with_reducible rfl))
      try simp only [Act.put, List.setIfInBounds_toArray, List.set_cons_zero, List.set_cons_succ]
      refine wpAnyH_done (by kernel_rfl) ?_ _
      go_wp2_with (fail)
      go_ret
      rw [HA.out]
      exact ⟨rfl, HTo.out _ _ _ (HR.out.bel HB2.out) (Keep.of_bel HB2.out F) (Or.inl rfl)⟩
    have HA := Lib.hid (HQ.out (by omega))
    clear HQ HQ6
    refine wpAnyH_take (i := 4) (oi := { dst := some 44, op := Op.binOp BinOp.add 3 (Operand.tmp 41) (Operand.tmp 43) 3, type := 3, pos := "ref.go:95", after := #[{ on := 1, ground := Ground.data }, { on := 3, ground := Ground.data }], guard := none }) (v := ?_) rfl (by kernel_rfl) (by kernel_rfl) (by kernel_rfl) (fun _ _ _ h => h) (Or.inl ⟨by rfl, ?_⟩) (by assumption) ?_
    rotate_left
    · (intro w hSw; (try dsimp only at hSw); first | (go_simp; done) | (go_simp; with_reducible rfl))
    try simp only [Act.put, List.setIfInBounds_toArray, List.set_cons_zero, List.set_cons_succ]
    refine wpAnyH_take (i := 9) (oi := { dst := some 49, op := Op.binOp BinOp.gtr 3 (Operand.tmp 44) (Operand.tmp 48) 3, type := 4, pos := "ref.go:95", after := #[{ on := 4, ground := Ground.data }, { on := 8, ground := Ground.data }], guard := none }) (v := ?_) rfl (by kernel_rfl) (by kernel_rfl) (by kernel_rfl) (fun _ _ _ h => h) (Or.inl ⟨by rfl, ?_⟩) (by assumption) ?_
    rotate_left
    · (intro w hSw; (try dsimp only at hSw); first | (go_simp; done) | (go_simp; with_reducible rfl))
    try simp only [Act.put, List.setIfInBounds_toArray, List.set_cons_zero, List.set_cons_succ]
    refine wpAnyH_take (i := 10) (oi := { dst := some 39, op := Op.assign (Operand.tmp 49), type := 4, pos := "ref.go:95", after := #[{ on := 9, ground := Ground.data }, { on := 1, ground := Ground.chain }], guard := none }) (v := ?_) rfl (by kernel_rfl) (by kernel_rfl) (by kernel_rfl) (fun _ _ _ h => h) (Or.inl ⟨by rfl, ?_⟩) (by assumption) ?_
    rotate_left
    · (intro w hSw; (try dsimp only at hSw); first | (go_simp; done) | (go_simp; with_reducible rfl))
    try simp only [Act.put, List.setIfInBounds_toArray, List.set_cons_zero, List.set_cons_succ]
    refine wpAnyH_done (by kernel_rfl) ?_ _
    go_wp2_with (fail)
    refine (turn_any n₀ _ b M _ (HR.out.bel HB2.out) HM.out.turns).mono ?_
    rintro e w3 ⟨rfl, h2, hk2⟩
    by_cases ht : M.turns = 0
    · have HC := Lib.hid (show addS s.data.toList u.data.toList M = (7, (turnS M).2) by rw [HA.out]; unfold chgS; rw [if_pos ht])
      have HT1 := Lib.hid (show (turnS M).1 = 7 by rw [turn_zero ht])
      rw [HT1.out]
      have H2 := Lib.hid h2
      have HK2 := Lib.hid hk2
      clear h2 hk2 ht
      go_wp2_with (fail)
      go_ret
      rw [HC.out]
      exact ⟨rfl, HTo.out _ _ _ H2.out ((Keep.of_bel HB2.out F).trans HK2.out (one_in hbF.out)) (Or.inl rfl)⟩
    have HC := Lib.hid (show addS s.data.toList u.data.toList M = (0, { (turnS M).2 with L := insS (addF s.data.toList u.data.toList M.L) M.L }) by rw [HA.out]; unfold chgS; rw [if_neg ht])
    have HT1 := Lib.hid (turn_one ht)
    rw [HT1.out]
    have H2 := Lib.hid h2
    have HK2 := Lib.hid hk2
    clear h2 hk2 ht
    obtain ⟨e0, -, -, -⟩ := H2.out.cells
    have hb3 : b < w3.heap.size := H2.out.lt
    have hw3 : w.heap.size ≤ w3.heap.size := Nat.le_trans HB2.out.size HK2.out.size
    go_wp2_with (fail)
    have hcat : (⟨#[]⟩ : ByteArray) ++ u = ⟨(u.data.toList).toArray⟩ := by apply ByteArray.ext; simp
    have hfv : fileV (addF s.data.toList u.data.toList M.L) = .agg #[.string s, .string ((⟨#[]⟩ : ByteArray) ++ u), .int .i64 0] := by rw [HAF.out, hcat]; unfold fileV; simp
    have P := put_any n₀ _ b _ _ (H2.out.bel ((Bel.refl w3).alloc (.cells #[.string s, .string ((⟨#[]⟩ : ByteArray) ++ u), .int .i64 0] 64))) (addF s.data.toList u.data.toList M.L) (by rw [turn_L]; omega) (by simp; omega)
    rw [hfv] at P
    refine P.mono ?_
    rintro e w4 ⟨⟨uu, rfl⟩, v4, h5, hv5, hk5⟩
    rw [turn_L] at h5
    have H5 := Lib.hid h5
    have HV5 := Lib.hid hv5
    have HK5 := Lib.hid hk5
    clear h5 hv5 hk5 P
    go_wp2_with (fail)
    go_ret
    rw [HC.out]
    have K2 := ((Keep.of_bel HB2.out F).trans HK2.out (one_in hbF.out)).alloc (.cells #[.string s, .string ((⟨#[]⟩ : ByteArray) ++ u), .int .i64 0] 64)
    exact ⟨rfl, HTo.out _ _ _ H5.out (K2.trans HK5.out (one_in hbF.out)) (Or.inr fun k hk => ⟨Nat.le_trans K2.size (HV5.out k hk), (own_lt H5.out k hk).2⟩)⟩
end Go.Proofs.Ytedopiojidaeiaa
