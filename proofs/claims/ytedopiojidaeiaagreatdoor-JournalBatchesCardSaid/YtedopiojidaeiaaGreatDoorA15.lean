/- FAdmit, FTurn, laid together. -/
import Derived.Test.YtedopiojidaeiaaGreatDoorA14
/- file's admits. -/
set_option linter.unusedSimpArgs false
set_option linter.unusedVariables false
namespace Go.Proofs.YtedopiojidaeiaaGreatDoor
open Go.RowKit Go.Deep Go.Maps

theorem wrap_in {n : Int} (h1 : -9223372036854775808 ≤ n) (h2 : n ≤ 9223372036854775807) : IntKind.i64.wrap n = n := by
  rw [IntKind.wrap_i64]
  try unfold wrap64
  omega
/-- Whether a file may get so many bytes more. -/
def admS (nm : List UInt8) (size : Nat) (M : RS) : Int :=
  if M.gone then 7 else if nameB nm = false then 3 else if (getF nm M.L).isSome = false ∧ 60 ≤ M.L.length then 11 else if M.room < (bytesN M.L : Int) + size then 6 else 0
section
variable {n₀ : Nat} {w x : World} {b : Nat} {M : RS} {F : List Nat} {mv : Value} {L : List FI}
theorem run_look_any (h : FilesAt n₀ w mv L F) (s : ByteArray) (hs : s.size ≤ maxLen) (c : Bool) : ∃ p n cap f, ∀ x, Bel w x →
    (Instr.lookup 90 mv (.string s) true).run Tryz.prog x = .ok (.tuple #[.agg #[.slice p n cap, .int .i64 f], .bool (getF s.data.toList L).isSome]) x := by
  cases hy : getF s.data.toList L with
  | none => exact ⟨none, 0, 0, 0, fun x hx => run_look_none (h.bel hx) s hs hy true⟩
  | some y =>
    rcases h with ⟨rfl, rfl⟩ | ⟨mb, D, V, rfl, hV, _⟩
    · cases hy
    have hv := hV.val y (getF_mem hy) (by simp)
    rw [getF_name hy] at hv
    obtain ⟨p, cap, hp, -⟩ := own_len hv
    refine ⟨p, y.bytes.length, cap, y.safe, fun x hx => ?_⟩
    rw [run_look_some (hV.bel hx) s hs hy true, hp]; rfl
theorem run_len_any (h : FilesAt n₀ w mv L F) : ∀ x, Bel w x → ∀ ty, (Builtin.len_ #[90] ty #[mv]).run Tryz.prog x = .ok (.int .i64 (L.length : Nat)) x := by
  intro x hx ty
  rcases h with ⟨rfl, rfl⟩ | ⟨mb, D, V, rfl, hV, _⟩
  · exact Maps.len_nil Tryz.underlying90 ty
  · rw [(hV.bel hx).own.len Tryz.underlying90 ty, hV.size]
end
set_option maxHeartbeats 4000000 in
theorem admits_any (n₀ : Nat) (w : World) (b : Nat) (M : RS) (F : List Nat) (s : ByteArray) (k : Nat) (h : ProgAt n₀ w b M F) (hs : s.size ≤ 1000000) (hk : k ≤ 1000000) (hS : Srt M.L) (hB : bytesN M.L ≤ 1000000000) (hL : M.L.length ≤ 1000) (hroom : 0 ≤ M.room ∧ M.room ≤ 10000000) :
    Calls Tryz.prog 52 #[.pointer (some ⟨b, 0, none⟩), .string s, .int .i64 k] w fun e w' => e = .returned (.int .i64 (admS s.data.toList k M)) ∧ Bel w w' := by
  have HP := Lib.hid h
  obtain ⟨⟨mv, t, hb, _, _, hf⟩, -⟩ := h
  have c0 : w.cell? ⟨b, 0, none⟩ = some (.int .i64 M.room) := by simp [World.cell?, hb]
  have c1 : w.cell? ⟨b, 1, none⟩ = some mv := by simp [World.cell?, hb]
  have c4 : w.cell? ⟨b, 4, none⟩ = some (.bool M.gone) := by simp [World.cell?, hb]
  have hbl := block_lt_of_cell c0
  have hsm := Lib.hid (show s.size ≤ maxLen by unfold maxLen; omega)
  obtain ⟨p, n, cap, f, hlk⟩ := run_look_any hf s hsm.out true
  have HLK := Lib.hid hlk
  have HLN := Lib.hid (run_len_any hf)
  have HSR := Lib.hid hS
  obtain ⟨hr1, hr2⟩ := hroom
  clear hb hf hlk hS
  have W1 := Lib.hid ((Bel.refl w).alloc (.cells #[.slice p n cap, .int .i64 f] 97))
  cases hg : M.gone with
  | true =>
    have HA := Lib.hid (show admS s.data.toList k M = 7 by unfold admS; rw [if_pos hg])
    rw [hg] at c4
    clear hg
    go_enter Tryz.func52, Tryz.ntmps52
    go_wp2_with (at_lookup; refine wpList_look (HLK.out _ (Bel.refl _)) rfl _ _ rfl rfl rfl ?_)
    go_ret
    exact ⟨ret_int (by rw [HA.out]), (Bel.refl w).alloc _⟩
  | false =>
    rw [hg] at c4
    cases hn : nameB s.data.toList with
    | false =>
      have HA := Lib.hid (show admS s.data.toList k M = 3 by unfold admS; rw [hg, hn]; rfl)
      have HN := Lib.hid hn
      clear hg hn
      go_enter Tryz.func52, Tryz.ntmps52
      go_wp2_with (first
        | (at_lookup; refine wpList_look (HLK.out _ (Bel.refl _)) rfl _ _ rfl rfl rfl ?_)
        | (go_at_call 93; refine (isname_any s _ hsm.out).mono ?_; rintro e w1 ⟨rfl, hd⟩; rw [HN.out]; have HD := Lib.hid hd; clear hd))
      go_ret
      exact ⟨ret_int (by rw [HA.out]), W1.out.trans HD.out.bel⟩
    | true =>
      have HN := Lib.hid hn
      by_cases hm : (getF s.data.toList M.L).isSome = false ∧ 60 ≤ M.L.length
      · have HA := Lib.hid (show admS s.data.toList k M = 11 by unfold admS; rw [hg, hn, if_pos hm]; rfl)
        obtain ⟨hm1, hm2⟩ := hm
        rw [hm1] at HLK
        clear hg hn hm1
        go_enter Tryz.func52, Tryz.ntmps52
        go_wp2_with (first
          | (at_lookup; refine wpList_look (HLK.out _ (Bel.refl _)) rfl _ _ rfl rfl rfl ?_)
          | (go_at_call 93; refine (isname_any s _ hsm.out).mono ?_; rintro e w1 ⟨rfl, hd⟩; rw [HN.out]
             have HD := Lib.hid (W1.out.trans hd.bel)
             have hln := HLN.out _ HD.out
             have c1' := cell_later HD.out c1
             have c4' := cell_later HD.out c4
             clear hd))
        go_ret
        exact ⟨ret_int (by rw [HA.out]), HD.out⟩
      · have hroad : (getF s.data.toList M.L).isSome = true ∨ ((getF s.data.toList M.L).isSome = false ∧ M.L.length < 60) := by
          cases hi : (getF s.data.toList M.L).isSome with
          | true => exact Or.inl rfl
          | false => exact Or.inr ⟨rfl, by rw [hi] at hm; simp at hm; exact hm⟩
        by_cases hfull : M.room < (bytesN M.L : Int) + k
        · have HA := Lib.hid (show admS s.data.toList k M = 6 by unfold admS; rw [hg, hn, if_neg hm, if_pos hfull]; rfl)
          have hf2 : M.room - (bytesN M.L : Int) < (k : Int) := by omega
          clear hg hn hm
          rcases hroad with hi | ⟨hi, hlt⟩
          · rw [hi] at HLK
            clear hi
            go_enter Tryz.func52, Tryz.ntmps52
            go_wp2_with (first
              | (at_lookup; refine wpList_look (HLK.out _ (Bel.refl _)) rfl _ _ rfl rfl rfl ?_)
              | (go_at_call 93; refine (isname_any s _ hsm.out).mono ?_; rintro e w1 ⟨rfl, hd⟩; rw [HN.out]
                 have HD := Lib.hid (W1.out.trans hd.bel)
                 have hln := HLN.out _ HD.out
                 have c0' := cell_later HD.out c0
                 have c1' := cell_later HD.out c1
                 have c4' := cell_later HD.out c4
                 clear hd))
            have hwr : IntKind.i64.wrap (M.room - (bytesN M.L : Int)) = M.room - (bytesN M.L : Int) := wrap_in (by omega) (by omega)
            refine wp_region_held_drew (S := fun y => y.cell? ⟨b, 0, none⟩ = some (.int .i64 M.room)) (by kernel_rfl) c0' (fun hHeld => ?_)
            refine wpAnyH_take (i := 0) (oi := { dst := some 39, op := Op.move (Operand.tmp 2), type := 3, pos := "file.go:52", after := #[], guard := none }) (v := ?_) rfl (by kernel_rfl) (by kernel_rfl) (by kernel_rfl) (fun _ _ _ h => h) (Or.inl ⟨by rfl, ?_⟩) (by assumption) ?_
            rotate_left
            · (intro w hSw; (try dsimp only at hSw); first | (go_simp; done) | (go_simp; with_reducible rfl))
            try simp only [Act.put, List.setIfInBounds_toArray, List.set_cons_zero, List.set_cons_succ]
            refine wpAnyH_take (i := 1) (oi := { dst := some 40, op := Op.move (Operand.tmp 0), type := 48, pos := "file.go:52", after := #[], guard := none }) (v := ?_) rfl (by kernel_rfl) (by kernel_rfl) (by kernel_rfl) (fun _ _ _ h => h) (Or.inl ⟨by rfl, ?_⟩) (by assumption) ?_
            rotate_left
            · (intro w hSw; (try dsimp only at hSw); first | (go_simp; done) | (go_simp; with_reducible rfl))
            try simp only [Act.put, List.setIfInBounds_toArray, List.set_cons_zero, List.set_cons_succ]
            refine wpAnyH_take (i := 2) (oi := { dst := some 41, op := Op.nilCheck (Operand.tmp 40), type := 0, pos := "file.go:52", after := #[{ on := 1, ground := Ground.data }], guard := none }) (v := ?_) rfl (by kernel_rfl) (by kernel_rfl) (by kernel_rfl) (fun _ _ _ h => h) (Or.inl ⟨by rfl, ?_⟩) (by assumption) ?_
            rotate_left
            · (intro w hSw; (try dsimp only at hSw); first | (go_simp; done) | (go_simp; with_reducible rfl))
            try simp only [Act.put, List.setIfInBounds_toArray, List.set_cons_zero, List.set_cons_succ]
            refine wpAnyH_take (i := 3) (oi := { dst := some 42, op := Op.fieldAddr 92 (Operand.tmp 41) 0, type := 0, pos := "file.go:52", after := #[{ on := 2, ground := Ground.data }], guard := none }) (v := ?_) rfl (by kernel_rfl) (by kernel_rfl) (by kernel_rfl) (fun _ _ _ h => h) (Or.inl ⟨by rfl, ?_⟩) (by assumption) ?_
            rotate_left
            · (intro w hSw; (try dsimp only at hSw); first | (go_simp; done) | (go_simp; with_reducible rfl))
            try simp only [Act.put, List.setIfInBounds_toArray, List.set_cons_zero, List.set_cons_succ]
            refine wpAnyH_take (i := 4) (oi := { dst := some 43, op := Op.load 3 (Operand.tmp 42), type := 3, pos := "file.go:52", after := #[{ on := 3, ground := Ground.data }], guard := none }) (v := ?_) rfl (by kernel_rfl) (by kernel_rfl) (by kernel_rfl) (fun _ _ _ h => h) (Or.inl ⟨by rfl, ?_⟩) (by assumption) ?_
            rotate_left
            · (intro w hSw; (try dsimp only at hSw); first | (go_simp; done) | (go_simp; with_reducible rfl))
            try simp only [Act.put, List.setIfInBounds_toArray, List.set_cons_zero, List.set_cons_succ]
            refine wpAnyH_take (i := 5) (oi := { dst := some 44, op := Op.move (Operand.tmp 0), type := 48, pos := "file.go:52", after := #[], guard := none }) (v := ?_) rfl (by kernel_rfl) (by kernel_rfl) (by kernel_rfl) (fun _ _ _ h => h) (Or.inl ⟨by rfl, ?_⟩) (by assumption) ?_
            rotate_left
            · (intro w hSw; (try dsimp only at hSw); first | (go_simp; done) | (go_simp; with_reducible rfl))
            try simp only [Act.put, List.setIfInBounds_toArray, List.set_cons_zero, List.set_cons_succ]
            refine wpAnyH_ready (rs := [6]) (by kernel_rfl) (by simp) ?_
            refine AllReadyH.cons (o := { dst := some 45, op := Op.call { callee := Callee.value (Operand.func 47), args := #[Operand.tmp 44], argTypes := #[48] }, type := 3, pos := "file.go:52", after := #[{ on := 5, ground := Ground.data }], guard := none }) rfl (fun K hK => ?_) AllReadyH.nil
            go_simp
            refine (pused_any n₀ _ b M F (HP.out.bel HD.out.drew) HSR.out hB).mono ?_
            rintro e w2 ⟨rfl, hb2⟩
            have d0 := cell_later hb2 (show w1.drew.cell? ⟨b, 0, none⟩ = _ from c0')
            have D1 := Lib.hid (HD.out.drew.trans hb2)
            clear hb2
            dsimp only
            refine hK.out _ _ d0 (fun hHeld => ?_)
            clear hK K
            try simp only [Act.put, List.setIfInBounds_toArray, List.set_cons_zero, List.set_cons_succ]
            refine wpAnyH_take (i := 7) (oi := { dst := some 46, op := Op.binOp BinOp.sub 3 (Operand.tmp 43) (Operand.tmp 45) 3, type := 3, pos := "file.go:52", after := #[{ on := 4, ground := Ground.data }, { on := 6, ground := Ground.data }], guard := none }) (v := ?_) rfl (by kernel_rfl) (by kernel_rfl) (by kernel_rfl) (fun _ _ _ h => h) (Or.inl ⟨by rfl, ?_⟩) (by assumption) ?_
            rotate_left
            · (intro w hSw; (try dsimp only at hSw); first | (go_simp; done) | (go_simp; with_reducible rfl))
            try simp only [Act.put, List.setIfInBounds_toArray, List.set_cons_zero, List.set_cons_succ]
            refine wpAnyH_take (i := 8) (oi := { dst := some 47, op := Op.binOp BinOp.gtr 3 (Operand.tmp 39) (Operand.tmp 46) 3, type := 4, pos := "file.go:52", after := #[{ on := 0, ground := Ground.data }, { on := 7, ground := Ground.data }], guard := none }) (v := ?_) rfl (by kernel_rfl) (by kernel_rfl) (by kernel_rfl) (fun _ _ _ h => h) (Or.inl ⟨by rfl, ?_⟩) (by assumption) ?_
            rotate_left
            · (intro w hSw; (try dsimp only at hSw); first | (go_simp; done) | (go_simp; with_reducible rfl))
            try simp only [Act.put, List.setIfInBounds_toArray, List.set_cons_zero, List.set_cons_succ]
            refine wpAnyH_take (i := 9) (oi := { dst := some 38, op := Op.assign (Operand.tmp 47), type := 4, pos := "file.go:52", after := #[{ on := 8, ground := Ground.data }, { on := 6, ground := Ground.chain }], guard := none }) (v := ?_) rfl (by kernel_rfl) (by kernel_rfl) (by kernel_rfl) (fun _ _ _ h => h) (Or.inl ⟨by rfl, ?_⟩) (by assumption) ?_
            rotate_left
            · (intro w hSw; (try dsimp only at hSw); first | (go_simp; done) | (go_simp; with_reducible rfl))
            try simp only [Act.put, List.setIfInBounds_toArray, List.set_cons_zero, List.set_cons_succ]
            refine wpAnyH_done (by kernel_rfl) ?_ _
            go_wp2_with (fail)
            go_ret
            exact ⟨ret_int (by rw [HA.out]), D1.out⟩
          · rw [hi] at HLK
            clear hi
            go_enter Tryz.func52, Tryz.ntmps52
            go_wp2_with (first
              | (at_lookup; refine wpList_look (HLK.out _ (Bel.refl _)) rfl _ _ rfl rfl rfl ?_)
              | (go_at_call 93; refine (isname_any s _ hsm.out).mono ?_; rintro e w1 ⟨rfl, hd⟩; rw [HN.out]
                 have HD := Lib.hid (W1.out.trans hd.bel)
                 have hln := HLN.out _ HD.out
                 have c0' := cell_later HD.out c0
                 have c1' := cell_later HD.out c1
                 have c4' := cell_later HD.out c4
                 clear hd))
            have hwr : IntKind.i64.wrap (M.room - (bytesN M.L : Int)) = M.room - (bytesN M.L : Int) := wrap_in (by omega) (by omega)
            refine wp_region_held_drew (S := fun y => y.cell? ⟨b, 0, none⟩ = some (.int .i64 M.room)) (by kernel_rfl) c0' (fun hHeld => ?_)
            refine wpAnyH_take (i := 0) (oi := { dst := some 39, op := Op.move (Operand.tmp 2), type := 3, pos := "file.go:52", after := #[], guard := none }) (v := ?_) rfl (by kernel_rfl) (by kernel_rfl) (by kernel_rfl) (fun _ _ _ h => h) (Or.inl ⟨by rfl, ?_⟩) (by assumption) ?_
            rotate_left
            · (intro w hSw; (try dsimp only at hSw); first | (go_simp; done) | (go_simp; with_reducible rfl))
            try simp only [Act.put, List.setIfInBounds_toArray, List.set_cons_zero, List.set_cons_succ]
            refine wpAnyH_take (i := 1) (oi := { dst := some 40, op := Op.move (Operand.tmp 0), type := 48, pos := "file.go:52", after := #[], guard := none }) (v := ?_) rfl (by kernel_rfl) (by kernel_rfl) (by kernel_rfl) (fun _ _ _ h => h) (Or.inl ⟨by rfl, ?_⟩) (by assumption) ?_
            rotate_left
            · (intro w hSw; (try dsimp only at hSw); first | (go_simp; done) | (go_simp; with_reducible rfl))
            try simp only [Act.put, List.setIfInBounds_toArray, List.set_cons_zero, List.set_cons_succ]
            refine wpAnyH_take (i := 2) (oi := { dst := some 41, op := Op.nilCheck (Operand.tmp 40), type := 0, pos := "file.go:52", after := #[{ on := 1, ground := Ground.data }], guard := none }) (v := ?_) rfl (by kernel_rfl) (by kernel_rfl) (by kernel_rfl) (fun _ _ _ h => h) (Or.inl ⟨by rfl, ?_⟩) (by assumption) ?_
            rotate_left
            · (intro w hSw; (try dsimp only at hSw); first | (go_simp; done) | (go_simp; with_reducible rfl))
            try simp only [Act.put, List.setIfInBounds_toArray, List.set_cons_zero, List.set_cons_succ]
            refine wpAnyH_take (i := 3) (oi := { dst := some 42, op := Op.fieldAddr 92 (Operand.tmp 41) 0, type := 0, pos := "file.go:52", after := #[{ on := 2, ground := Ground.data }], guard := none }) (v := ?_) rfl (by kernel_rfl) (by kernel_rfl) (by kernel_rfl) (fun _ _ _ h => h) (Or.inl ⟨by rfl, ?_⟩) (by assumption) ?_
            rotate_left
            · (intro w hSw; (try dsimp only at hSw); first | (go_simp; done) | (go_simp; with_reducible rfl))
            try simp only [Act.put, List.setIfInBounds_toArray, List.set_cons_zero, List.set_cons_succ]
            refine wpAnyH_take (i := 4) (oi := { dst := some 43, op := Op.load 3 (Operand.tmp 42), type := 3, pos := "file.go:52", after := #[{ on := 3, ground := Ground.data }], guard := none }) (v := ?_) rfl (by kernel_rfl) (by kernel_rfl) (by kernel_rfl) (fun _ _ _ h => h) (Or.inl ⟨by rfl, ?_⟩) (by assumption) ?_
            rotate_left
            · (intro w hSw; (try dsimp only at hSw); first | (go_simp; done) | (go_simp; with_reducible rfl))
            try simp only [Act.put, List.setIfInBounds_toArray, List.set_cons_zero, List.set_cons_succ]
            refine wpAnyH_take (i := 5) (oi := { dst := some 44, op := Op.move (Operand.tmp 0), type := 48, pos := "file.go:52", after := #[], guard := none }) (v := ?_) rfl (by kernel_rfl) (by kernel_rfl) (by kernel_rfl) (fun _ _ _ h => h) (Or.inl ⟨by rfl, ?_⟩) (by assumption) ?_
            rotate_left
            · (intro w hSw; (try dsimp only at hSw); first | (go_simp; done) | (go_simp; with_reducible rfl))
            try simp only [Act.put, List.setIfInBounds_toArray, List.set_cons_zero, List.set_cons_succ]
            refine wpAnyH_ready (rs := [6]) (by kernel_rfl) (by simp) ?_
            refine AllReadyH.cons (o := { dst := some 45, op := Op.call { callee := Callee.value (Operand.func 47), args := #[Operand.tmp 44], argTypes := #[48] }, type := 3, pos := "file.go:52", after := #[{ on := 5, ground := Ground.data }], guard := none }) rfl (fun K hK => ?_) AllReadyH.nil
            go_simp
            refine (pused_any n₀ _ b M F (HP.out.bel HD.out.drew) HSR.out hB).mono ?_
            rintro e w2 ⟨rfl, hb2⟩
            have d0 := cell_later hb2 (show w1.drew.cell? ⟨b, 0, none⟩ = _ from c0')
            have D1 := Lib.hid (HD.out.drew.trans hb2)
            clear hb2
            dsimp only
            refine hK.out _ _ d0 (fun hHeld => ?_)
            clear hK K
            try simp only [Act.put, List.setIfInBounds_toArray, List.set_cons_zero, List.set_cons_succ]
            refine wpAnyH_take (i := 7) (oi := { dst := some 46, op := Op.binOp BinOp.sub 3 (Operand.tmp 43) (Operand.tmp 45) 3, type := 3, pos := "file.go:52", after := #[{ on := 4, ground := Ground.data }, { on := 6, ground := Ground.data }], guard := none }) (v := ?_) rfl (by kernel_rfl) (by kernel_rfl) (by kernel_rfl) (fun _ _ _ h => h) (Or.inl ⟨by rfl, ?_⟩) (by assumption) ?_
            rotate_left
            · (intro w hSw; (try dsimp only at hSw); first | (go_simp; done) | (go_simp; with_reducible rfl))
            try simp only [Act.put, List.setIfInBounds_toArray, List.set_cons_zero, List.set_cons_succ]
            refine wpAnyH_take (i := 8) (oi := { dst := some 47, op := Op.binOp BinOp.gtr 3 (Operand.tmp 39) (Operand.tmp 46) 3, type := 4, pos := "file.go:52", after := #[{ on := 0, ground := Ground.data }, { on := 7, ground := Ground.data }], guard := none }) (v := ?_) rfl (by kernel_rfl) (by kernel_rfl) (by kernel_rfl) (fun _ _ _ h => h) (Or.inl ⟨by rfl, ?_⟩) (by assumption) ?_
            rotate_left
            · (intro w hSw; (try dsimp only at hSw); first | (go_simp; done) | (go_simp; with_reducible rfl))
            try simp only [Act.put, List.setIfInBounds_toArray, List.set_cons_zero, List.set_cons_succ]
            refine wpAnyH_take (i := 9) (oi := { dst := some 38, op := Op.assign (Operand.tmp 47), type := 4, pos := "file.go:52", after := #[{ on := 8, ground := Ground.data }, { on := 6, ground := Ground.chain }], guard := none }) (v := ?_) rfl (by kernel_rfl) (by kernel_rfl) (by kernel_rfl) (fun _ _ _ h => h) (Or.inl ⟨by rfl, ?_⟩) (by assumption) ?_
            rotate_left
            · (intro w hSw; (try dsimp only at hSw); first | (go_simp; done) | (go_simp; with_reducible rfl))
            try simp only [Act.put, List.setIfInBounds_toArray, List.set_cons_zero, List.set_cons_succ]
            refine wpAnyH_done (by kernel_rfl) ?_ _
            go_wp2_with (fail)
            go_ret
            exact ⟨ret_int (by rw [HA.out]), D1.out⟩
        · have HA := Lib.hid (show admS s.data.toList k M = 0 by unfold admS; rw [hg, hn, if_neg hm, if_neg hfull]; rfl)
          have hf2 : ¬ (M.room - (bytesN M.L : Int) < (k : Int)) := by omega
          clear hg hn hm
          rcases hroad with hi | ⟨hi, hlt⟩
          · rw [hi] at HLK
            clear hi
            go_enter Tryz.func52, Tryz.ntmps52
            go_wp2_with (first
              | (at_lookup; refine wpList_look (HLK.out _ (Bel.refl _)) rfl _ _ rfl rfl rfl ?_)
              | (go_at_call 93; refine (isname_any s _ hsm.out).mono ?_; rintro e w1 ⟨rfl, hd⟩; rw [HN.out]
                 have HD := Lib.hid (W1.out.trans hd.bel)
                 have hln := HLN.out _ HD.out
                 have c0' := cell_later HD.out c0
                 have c1' := cell_later HD.out c1
                 have c4' := cell_later HD.out c4
                 clear hd))
            have hwr : IntKind.i64.wrap (M.room - (bytesN M.L : Int)) = M.room - (bytesN M.L : Int) := wrap_in (by omega) (by omega)
            refine wp_region_held_drew (S := fun y => y.cell? ⟨b, 0, none⟩ = some (.int .i64 M.room)) (by kernel_rfl) c0' (fun hHeld => ?_)
            refine wpAnyH_take (i := 0) (oi := { dst := some 39, op := Op.move (Operand.tmp 2), type := 3, pos := "file.go:52", after := #[], guard := none }) (v := ?_) rfl (by kernel_rfl) (by kernel_rfl) (by kernel_rfl) (fun _ _ _ h => h) (Or.inl ⟨by rfl, ?_⟩) (by assumption) ?_
            rotate_left
            · (intro w hSw; (try dsimp only at hSw); first | (go_simp; done) | (go_simp; with_reducible rfl))
            try simp only [Act.put, List.setIfInBounds_toArray, List.set_cons_zero, List.set_cons_succ]
            refine wpAnyH_take (i := 1) (oi := { dst := some 40, op := Op.move (Operand.tmp 0), type := 48, pos := "file.go:52", after := #[], guard := none }) (v := ?_) rfl (by kernel_rfl) (by kernel_rfl) (by kernel_rfl) (fun _ _ _ h => h) (Or.inl ⟨by rfl, ?_⟩) (by assumption) ?_
            rotate_left
            · (intro w hSw; (try dsimp only at hSw); first | (go_simp; done) | (go_simp; with_reducible rfl))
            try simp only [Act.put, List.setIfInBounds_toArray, List.set_cons_zero, List.set_cons_succ]
            refine wpAnyH_take (i := 2) (oi := { dst := some 41, op := Op.nilCheck (Operand.tmp 40), type := 0, pos := "file.go:52", after := #[{ on := 1, ground := Ground.data }], guard := none }) (v := ?_) rfl (by kernel_rfl) (by kernel_rfl) (by kernel_rfl) (fun _ _ _ h => h) (Or.inl ⟨by rfl, ?_⟩) (by assumption) ?_
            rotate_left
            · (intro w hSw; (try dsimp only at hSw); first | (go_simp; done) | (go_simp; with_reducible rfl))
            try simp only [Act.put, List.setIfInBounds_toArray, List.set_cons_zero, List.set_cons_succ]
            refine wpAnyH_take (i := 3) (oi := { dst := some 42, op := Op.fieldAddr 92 (Operand.tmp 41) 0, type := 0, pos := "file.go:52", after := #[{ on := 2, ground := Ground.data }], guard := none }) (v := ?_) rfl (by kernel_rfl) (by kernel_rfl) (by kernel_rfl) (fun _ _ _ h => h) (Or.inl ⟨by rfl, ?_⟩) (by assumption) ?_
            rotate_left
            · (intro w hSw; (try dsimp only at hSw); first | (go_simp; done) | (go_simp; with_reducible rfl))
            try simp only [Act.put, List.setIfInBounds_toArray, List.set_cons_zero, List.set_cons_succ]
            refine wpAnyH_take (i := 4) (oi := { dst := some 43, op := Op.load 3 (Operand.tmp 42), type := 3, pos := "file.go:52", after := #[{ on := 3, ground := Ground.data }], guard := none }) (v := ?_) rfl (by kernel_rfl) (by kernel_rfl) (by kernel_rfl) (fun _ _ _ h => h) (Or.inl ⟨by rfl, ?_⟩) (by assumption) ?_
            rotate_left
            · (intro w hSw; (try dsimp only at hSw); first | (go_simp; done) | (go_simp; with_reducible rfl))
            try simp only [Act.put, List.setIfInBounds_toArray, List.set_cons_zero, List.set_cons_succ]
            refine wpAnyH_take (i := 5) (oi := { dst := some 44, op := Op.move (Operand.tmp 0), type := 48, pos := "file.go:52", after := #[], guard := none }) (v := ?_) rfl (by kernel_rfl) (by kernel_rfl) (by kernel_rfl) (fun _ _ _ h => h) (Or.inl ⟨by rfl, ?_⟩) (by assumption) ?_
            rotate_left
            · (intro w hSw; (try dsimp only at hSw); first | (go_simp; done) | (go_simp; with_reducible rfl))
            try simp only [Act.put, List.setIfInBounds_toArray, List.set_cons_zero, List.set_cons_succ]
            refine wpAnyH_ready (rs := [6]) (by kernel_rfl) (by simp) ?_
            refine AllReadyH.cons (o := { dst := some 45, op := Op.call { callee := Callee.value (Operand.func 47), args := #[Operand.tmp 44], argTypes := #[48] }, type := 3, pos := "file.go:52", after := #[{ on := 5, ground := Ground.data }], guard := none }) rfl (fun K hK => ?_) AllReadyH.nil
            go_simp
            refine (pused_any n₀ _ b M F (HP.out.bel HD.out.drew) HSR.out hB).mono ?_
            rintro e w2 ⟨rfl, hb2⟩
            have d0 := cell_later hb2 (show w1.drew.cell? ⟨b, 0, none⟩ = _ from c0')
            have D1 := Lib.hid (HD.out.drew.trans hb2)
            clear hb2
            dsimp only
            refine hK.out _ _ d0 (fun hHeld => ?_)
            clear hK K
            try simp only [Act.put, List.setIfInBounds_toArray, List.set_cons_zero, List.set_cons_succ]
            refine wpAnyH_take (i := 7) (oi := { dst := some 46, op := Op.binOp BinOp.sub 3 (Operand.tmp 43) (Operand.tmp 45) 3, type := 3, pos := "file.go:52", after := #[{ on := 4, ground := Ground.data }, { on := 6, ground := Ground.data }], guard := none }) (v := ?_) rfl (by kernel_rfl) (by kernel_rfl) (by kernel_rfl) (fun _ _ _ h => h) (Or.inl ⟨by rfl, ?_⟩) (by assumption) ?_
            rotate_left
            · (intro w hSw; (try dsimp only at hSw); first | (go_simp; done) | (go_simp; with_reducible rfl))
            try simp only [Act.put, List.setIfInBounds_toArray, List.set_cons_zero, List.set_cons_succ]
            refine wpAnyH_take (i := 8) (oi := { dst := some 47, op := Op.binOp BinOp.gtr 3 (Operand.tmp 39) (Operand.tmp 46) 3, type := 4, pos := "file.go:52", after := #[{ on := 0, ground := Ground.data }, { on := 7, ground := Ground.data }], guard := none }) (v := ?_) rfl (by kernel_rfl) (by kernel_rfl) (by kernel_rfl) (fun _ _ _ h => h) (Or.inl ⟨by rfl, ?_⟩) (by assumption) ?_
            rotate_left
            · (intro w hSw; (try dsimp only at hSw); first | (go_simp; done) | (go_simp; with_reducible rfl))
            try simp only [Act.put, List.setIfInBounds_toArray, List.set_cons_zero, List.set_cons_succ]
            refine wpAnyH_take (i := 9) (oi := { dst := some 38, op := Op.assign (Operand.tmp 47), type := 4, pos := "file.go:52", after := #[{ on := 8, ground := Ground.data }, { on := 6, ground := Ground.chain }], guard := none }) (v := ?_) rfl (by kernel_rfl) (by kernel_rfl) (by kernel_rfl) (fun _ _ _ h => h) (Or.inl ⟨by rfl, ?_⟩) (by assumption) ?_
            rotate_left
            · (intro w hSw; (try dsimp only at hSw); first | (go_simp; done) | (go_simp; with_reducible rfl))
            try simp only [Act.put, List.setIfInBounds_toArray, List.set_cons_zero, List.set_cons_succ]
            refine wpAnyH_done (by kernel_rfl) ?_ _
            go_wp2_with (fail)
            go_ret
            exact ⟨ret_int (by rw [HA.out]), D1.out⟩
          · rw [hi] at HLK
            clear hi
            go_enter Tryz.func52, Tryz.ntmps52
            go_wp2_with (first
              | (at_lookup; refine wpList_look (HLK.out _ (Bel.refl _)) rfl _ _ rfl rfl rfl ?_)
              | (go_at_call 93; refine (isname_any s _ hsm.out).mono ?_; rintro e w1 ⟨rfl, hd⟩; rw [HN.out]
                 have HD := Lib.hid (W1.out.trans hd.bel)
                 have hln := HLN.out _ HD.out
                 have c0' := cell_later HD.out c0
                 have c1' := cell_later HD.out c1
                 have c4' := cell_later HD.out c4
                 clear hd))
            have hwr : IntKind.i64.wrap (M.room - (bytesN M.L : Int)) = M.room - (bytesN M.L : Int) := wrap_in (by omega) (by omega)
            refine wp_region_held_drew (S := fun y => y.cell? ⟨b, 0, none⟩ = some (.int .i64 M.room)) (by kernel_rfl) c0' (fun hHeld => ?_)
            refine wpAnyH_take (i := 0) (oi := { dst := some 39, op := Op.move (Operand.tmp 2), type := 3, pos := "file.go:52", after := #[], guard := none }) (v := ?_) rfl (by kernel_rfl) (by kernel_rfl) (by kernel_rfl) (fun _ _ _ h => h) (Or.inl ⟨by rfl, ?_⟩) (by assumption) ?_
            rotate_left
            · (intro w hSw; (try dsimp only at hSw); first | (go_simp; done) | (go_simp; with_reducible rfl))
            try simp only [Act.put, List.setIfInBounds_toArray, List.set_cons_zero, List.set_cons_succ]
            refine wpAnyH_take (i := 1) (oi := { dst := some 40, op := Op.move (Operand.tmp 0), type := 48, pos := "file.go:52", after := #[], guard := none }) (v := ?_) rfl (by kernel_rfl) (by kernel_rfl) (by kernel_rfl) (fun _ _ _ h => h) (Or.inl ⟨by rfl, ?_⟩) (by assumption) ?_
            rotate_left
            · (intro w hSw; (try dsimp only at hSw); first | (go_simp; done) | (go_simp; with_reducible rfl))
            try simp only [Act.put, List.setIfInBounds_toArray, List.set_cons_zero, List.set_cons_succ]
            refine wpAnyH_take (i := 2) (oi := { dst := some 41, op := Op.nilCheck (Operand.tmp 40), type := 0, pos := "file.go:52", after := #[{ on := 1, ground := Ground.data }], guard := none }) (v := ?_) rfl (by kernel_rfl) (by kernel_rfl) (by kernel_rfl) (fun _ _ _ h => h) (Or.inl ⟨by rfl, ?_⟩) (by assumption) ?_
            rotate_left
            · (intro w hSw; (try dsimp only at hSw); first | (go_simp; done) | (go_simp; with_reducible rfl))
            try simp only [Act.put, List.setIfInBounds_toArray, List.set_cons_zero, List.set_cons_succ]
            refine wpAnyH_take (i := 3) (oi := { dst := some 42, op := Op.fieldAddr 92 (Operand.tmp 41) 0, type := 0, pos := "file.go:52", after := #[{ on := 2, ground := Ground.data }], guard := none }) (v := ?_) rfl (by kernel_rfl) (by kernel_rfl) (by kernel_rfl) (fun _ _ _ h => h) (Or.inl ⟨by rfl, ?_⟩) (by assumption) ?_
            rotate_left
            · (intro w hSw; (try dsimp only at hSw); first | (go_simp; done) | (go_simp; with_reducible rfl))
            try simp only [Act.put, List.setIfInBounds_toArray, List.set_cons_zero, List.set_cons_succ]
            refine wpAnyH_take (i := 4) (oi := { dst := some 43, op := Op.load 3 (Operand.tmp 42), type := 3, pos := "file.go:52", after := #[{ on := 3, ground := Ground.data }], guard := none }) (v := ?_) rfl (by kernel_rfl) (by kernel_rfl) (by kernel_rfl) (fun _ _ _ h => h) (Or.inl ⟨by rfl, ?_⟩) (by assumption) ?_
            rotate_left
            · (intro w hSw; (try dsimp only at hSw); first | (go_simp; done) | (go_simp; with_reducible rfl))
            try simp only [Act.put, List.setIfInBounds_toArray, List.set_cons_zero, List.set_cons_succ]
            refine wpAnyH_take (i := 5) (oi := { dst := some 44, op := Op.move (Operand.tmp 0), type := 48, pos := "file.go:52", after := #[], guard := none }) (v := ?_) rfl (by kernel_rfl) (by kernel_rfl) (by kernel_rfl) (fun _ _ _ h => h) (Or.inl ⟨by rfl, ?_⟩) (by assumption) ?_
            rotate_left
            · (intro w hSw; (try dsimp only at hSw); first | (go_simp; done) | (go_simp; with_reducible rfl))
            try simp only [Act.put, List.setIfInBounds_toArray, List.set_cons_zero, List.set_cons_succ]
            refine wpAnyH_ready (rs := [6]) (by kernel_rfl) (by simp) ?_
            refine AllReadyH.cons (o := { dst := some 45, op := Op.call { callee := Callee.value (Operand.func 47), args := #[Operand.tmp 44], argTypes := #[48] }, type := 3, pos := "file.go:52", after := #[{ on := 5, ground := Ground.data }], guard := none }) rfl (fun K hK => ?_) AllReadyH.nil
            go_simp
            refine (pused_any n₀ _ b M F (HP.out.bel HD.out.drew) HSR.out hB).mono ?_
            rintro e w2 ⟨rfl, hb2⟩
            have d0 := cell_later hb2 (show w1.drew.cell? ⟨b, 0, none⟩ = _ from c0')
            have D1 := Lib.hid (HD.out.drew.trans hb2)
            clear hb2
            dsimp only
            refine hK.out _ _ d0 (fun hHeld => ?_)
            clear hK K
            try simp only [Act.put, List.setIfInBounds_toArray, List.set_cons_zero, List.set_cons_succ]
            refine wpAnyH_take (i := 7) (oi := { dst := some 46, op := Op.binOp BinOp.sub 3 (Operand.tmp 43) (Operand.tmp 45) 3, type := 3, pos := "file.go:52", after := #[{ on := 4, ground := Ground.data }, { on := 6, ground := Ground.data }], guard := none }) (v := ?_) rfl (by kernel_rfl) (by kernel_rfl) (by kernel_rfl) (fun _ _ _ h => h) (Or.inl ⟨by rfl, ?_⟩) (by assumption) ?_
            rotate_left
            · (intro w hSw; (try dsimp only at hSw); first | (go_simp; done) | (go_simp; with_reducible rfl))
            try simp only [Act.put, List.setIfInBounds_toArray, List.set_cons_zero, List.set_cons_succ]
            refine wpAnyH_take (i := 8) (oi := { dst := some 47, op := Op.binOp BinOp.gtr 3 (Operand.tmp 39) (Operand.tmp 46) 3, type := 4, pos := "file.go:52", after := #[{ on := 0, ground := Ground.data }, { on := 7, ground := Ground.data }], guard := none }) (v := ?_) rfl (by kernel_rfl) (by kernel_rfl) (by kernel_rfl) (fun _ _ _ h => h) (Or.inl ⟨by rfl, ?_⟩) (by assumption) ?_
            rotate_left
            · (intro w hSw; (try dsimp only at hSw); first | (go_simp; done) | (go_simp; with_reducible rfl))
            try simp only [Act.put, List.setIfInBounds_toArray, List.set_cons_zero, List.set_cons_succ]
            refine wpAnyH_take (i := 9) (oi := { dst := some 38, op := Op.assign (Operand.tmp 47), type := 4, pos := "file.go:52", after := #[{ on := 8, ground := Ground.data }, { on := 6, ground := Ground.chain }], guard := none }) (v := ?_) rfl (by kernel_rfl) (by kernel_rfl) (by kernel_rfl) (fun _ _ _ h => h) (Or.inl ⟨by rfl, ?_⟩) (by assumption) ?_
            rotate_left
            · (intro w hSw; (try dsimp only at hSw); first | (go_simp; done) | (go_simp; with_reducible rfl))
            try simp only [Act.put, List.setIfInBounds_toArray, List.set_cons_zero, List.set_cons_succ]
            refine wpAnyH_done (by kernel_rfl) ?_ _
            go_wp2_with (fail)
            go_ret
            exact ⟨ret_int (by rw [HA.out]), D1.out⟩
end Go.Proofs.YtedopiojidaeiaaGreatDoor
/- file's turn, whatever the change. -/
set_option linter.unusedSimpArgs false
set_option linter.unusedVariables false
namespace Go.Proofs.YtedopiojidaeiaaGreatDoor
open Go.RowKit Go.Deep Go.Maps

/-- What lies in a file system's own block. -/
def Hdr (w : World) (b : Nat) (M : RS) (mv : Value) (t : Int) : Prop :=
  w.heap[b]? = some (.cells #[.int .i64 M.room, mv, .bool (decide (0 ≤ M.turns)), .int .i64 t, .bool M.gone] 92 (0, 0)) ∧ (0 ≤ M.turns → t = M.turns) ∧ in64 t
theorem turnS_zero {M : RS} (h : M.turns = 0) : turnS M = (7, { M with gone := true }) := by unfold turnS; rw [if_pos h]
theorem turnS_pos {M : RS} (h : 0 < M.turns) : turnS M = (0, { M with turns := M.turns - 1 }) := by unfold turnS; rw [if_neg (by omega), if_pos h]
theorem turnS_neg {M : RS} (h : M.turns < 0) : turnS M = (0, M) := by unfold turnS; rw [if_neg (by omega), if_neg (by omega)]
set_option maxHeartbeats 2000000 in
theorem pturn_any (w : World) (b : Nat) (M : RS) (mv : Value) (t : Int) (g : Nat) (lb : Array Value) (h : Hdr w b M mv t) (R : World → Prop) (hcall : ∀ x : World, (callFunc g lb).run Tryz.prog x = .ok (.enter g lb) x)
    (hc : ∀ w1 t1, Hdr w1 b (turnS M).2 mv t1 → Keep [b] w w1 → Calls Tryz.prog g lb w1 fun e w' => e = .returned (.tuple #[]) ∧ R w') :
    Calls Tryz.prog 53 #[.pointer (some ⟨b, 0, none⟩), .func (.func g) #[] lb] w fun e w' => e = .returned (.int .i64 (turnS M).1) ∧
      (M.turns = 0 → Hdr w' b (turnS M).2 mv t ∧ Keep [b] w w') ∧ (M.turns ≠ 0 → R w') := by
  obtain ⟨hb, ht, h64⟩ := h
  have c2 : w.cell? ⟨b, 2, none⟩ = some (.bool (decide (0 ≤ M.turns))) := by simp [World.cell?, hb]
  have c3 : w.cell? ⟨b, 3, none⟩ = some (.int .i64 t) := by simp [World.cell?, hb]
  have c4 : w.cell? ⟨b, 4, none⟩ = some (.bool M.gone) := by simp [World.cell?, hb]
  have f3 : w.frozen? ⟨b, 3, none⟩ = false := by simp [World.frozen?, hb]
  have f4 : w.frozen? ⟨b, 4, none⟩ = false := by simp [World.frozen?, hb]
  have HB := Lib.hid hb
  have HC := Lib.hid hc
  have H64 := Lib.hid h64
  clear hc hb
  rcases Int.lt_trichotomy M.turns 0 with hz | hz | hz
  · have hd : decide (0 ≤ M.turns) = false := by rw [decide_eq_false_iff_not]; omega
    rw [turnS_neg hz] at HC ⊢
    have HW := Lib.hid (HC.out w t ⟨HB.out, ht, h64⟩ (Keep.refl _ w))
    have HN := Lib.hid (show M.turns ≠ 0 by omega)
    rw [hd] at c2
    clear hd ht h64 hz
    go_enter Tryz.func53, Tryz.ntmps53
    go_wp2_with (fail)
    refine HW.out.mono ?_
    rintro e w1 ⟨rfl, hr⟩
    have HR := Lib.hid hr
    clear hr
    go_wp2_with (fail)
    go_ret
    exact ⟨rfl, fun h => absurd h HN.out, fun _ => HR.out⟩
  · have hd : decide (0 ≤ M.turns) = true := by rw [decide_eq_true_eq]; omega
    have hD := Lib.hid hd
    rw [turnS_zero hz] at HC ⊢
    rw [hd] at c2
    have HZ := Lib.hid hz
    have hT := Lib.hid ht
    have ht0 : t = 0 := by rw [ht (by omega)]; exact hz
    subst ht0
    clear hd ht h64 hz
    go_enter Tryz.func53, Tryz.ntmps53
    go_wp2_with (fail)
    go_ret
    exact ⟨rfl, fun _ => ⟨⟨by rw [blk_set HB.out 4 _]; rfl, hT.out, H64.out⟩, keep_set w b 4 _⟩, fun h => absurd HZ.out h⟩
  · have hd : decide (0 ≤ M.turns) = true := by rw [decide_eq_true_eq]; omega
    have hd' : decide (0 ≤ M.turns - 1) = true := by rw [decide_eq_true_eq]; omega
    rw [turnS_pos hz] at HC ⊢
    have ht0 : t = M.turns := ht (by omega)
    subst ht0
    obtain ⟨h1, h2⟩ := h64
    have HW := Lib.hid (HC.out (w.setCell ⟨b, 3, none⟩ (.int .i64 (M.turns - 1))) (M.turns - 1) ⟨by rw [blk_set HB.out 3 _]; simp only [hd, hd']; rfl, fun _ => rfl, by unfold in64; omega⟩ (keep_set w b 3 _))
    have HN := Lib.hid (show M.turns ≠ 0 by omega)
    have hne : (M.turns == 0) = false := by rw [beq_eq_false_iff_ne]; omega
    rw [hd] at c2
    clear hd hd' ht
    go_enter Tryz.func53, Tryz.ntmps53
    go_wp2_with (fail)
    refine HW.out.mono ?_
    rintro e w1 ⟨rfl, hr⟩
    have HR := Lib.hid hr
    clear hr
    go_wp2_with (fail)
    go_ret
    exact ⟨rfl, fun h => absurd h HN.out, fun _ => HR.out⟩
end Go.Proofs.YtedopiojidaeiaaGreatDoor
