/- moultlaw6.FileSafe. -/
import Derived.Test.YthnhdiebkkfmgaaFLawN
set_option linter.unusedSimpArgs false
set_option linter.unusedVariables false
namespace Go.Proofs.Ythnhdiebkkfmgaa
open Go.RowKit Go.Deep Go.Maps

set_option maxHeartbeats 4000000 in
set_option maxRecDepth 20000 in
theorem law_safe_any (w : World) (p : Option Addr) (cap : Nat) (L : List AV) (s t : ByteArray) (lf sp : SI) (h : ActsAt w p L) (hL : L.length ≤ maxLen) (hs : s.size ≤ maxLen) (ht : t.size ≤ maxLen) (hlf : SI.ok w lf) (hsp : SI.ok w sp) :
    Calls Try.prog 4 #[.slice p L.length cap, .string s, .string t, lf.val, sp.val] w fun e w' => e = .returned (.bool true) ∧ Bel w w' := by
  have H := Lib.hid h; clear h
  have HLF := Lib.hid hlf; clear hlf
  have HSP := Lib.hid hsp; clear hsp
  have hll := HLF.out.2.1
  have hsl := HSP.out.2.1
  unfold maxLen at hs ht hll hsl
  have hLL := Lib.hid hL; clear hL
  unfold SI.val
  cases hsm : smallB L with
  | false =>
    have HS := Lib.hid hsm; clear hsm
    go_enter Try.func4, Try.ntmps4
    go_wp2_with (fail)
    refine (shown_any w).mono ?_
    rintro e w1 ⟨rfl, h1⟩
    have H1 := Lib.hid h1; clear h1
    go_wp2_with (fail)
    refine (small_any w1 p cap L (H.out.bel H1.out) hLL.out).mono ?_
    rintro e w2 ⟨rfl, h2⟩
    rw [HS.out]
    have H2 := Lib.hid (H1.out.trans h2.bel); clear h2
    go_wp2_with (fail)
    go_ret
    exact ⟨rfl, H2.out⟩
  | true =>
  have HS := Lib.hid hsm; clear hsm
  by_cases k1 : s.size ≤ 500
  · by_cases k2 : t.size ≤ 500
    · by_cases k3 : lf.L.length ≤ 80
      · by_cases k4 : sp.L.length ≤ 80
        · go_enter Try.func4, Try.ntmps4
          go_wp2_with (fail)
          refine (shown_any w).mono ?_
          rintro e w1 ⟨rfl, h1⟩
          have H1 := Lib.hid h1; clear h1
          go_wp2_with (fail)
          refine (small_any w1 p cap L (H.out.bel H1.out) hLL.out).mono ?_
          rintro e w2 ⟨rfl, h2⟩
          rw [HS.out]
          have H2 := Lib.hid (H1.out.trans h2.bel); clear h2
          go_wp2_with (fail)
          refine (made_any w w2 H2.out 5000 p cap L H.out (by omega) HS.out).mono ?_
          rintro e w3 ⟨b, rfl, h3⟩
          obtain ⟨M0, hM0⟩ : ∃ M0, M0 = madeS 5000 L := ⟨_, rfl⟩
          rw [← hM0] at h3
          have H3 := Lib.hid h3; clear h3 hM0
          go_wp2_with (fail)
          refine (st_crash H3.out (Bel.refl w3) nilI nilI (nilI_ok _) (nilI_ok _) (fun a ha => by cases ha) (fun a ha => by cases ha)).mono ?_
          rintro e w4 ⟨⟨u4, rfl⟩, h4⟩
          have Q1 := Lib.hid (qt_crash nilI.L nilI.L M0)
          obtain ⟨M1, hM1⟩ : ∃ M1, M1 = crashS nilI.L nilI.L M0 := ⟨_, rfl⟩
          rw [← hM1] at h4 Q1
          have H4 := Lib.hid h4; clear h4 hM1
          go_wp2_with (fail)
          refine (st_drop H4.out ⟨#[111, 119, 110]⟩ (by decide)).mono ?_
          rintro e w5 ⟨rfl, h5⟩
          have hD := qt_drop Q1.out H4.out.good.srt [111, 119, 110]
          have eo : (⟨#[111, 119, 110]⟩ : ByteArray).data.toList = [111, 119, 110] := rfl
          rw [eo] at h5 ⊢
          generalize (dropS [111, 119, 110] M1).1 = r1
          obtain ⟨M2, hM2⟩ : ∃ M2, M2 = (dropS [111, 119, 110] M1).2 := ⟨_, rfl⟩
          rw [← hM2] at h5 hD
          have H5 := Lib.hid h5
          have D2 := Lib.hid hD
          clear h5 hD hM2 eo
          go_wp2_with (fail)
          refine (st_add H5.out ⟨#[111, 119, 110]⟩ s (by decide) (by omega)).mono ?_
          rintro e w6 ⟨rfl, h6⟩
          have hA := qt_add D2.out.1 H5.out.good.srt [111, 119, 110] s.data.toList
          have eo : (⟨#[111, 119, 110]⟩ : ByteArray).data.toList = [111, 119, 110] := rfl
          rw [eo] at h6 ⊢
          obtain ⟨r2, hr2⟩ : ∃ r2, r2 = (addS [111, 119, 110] s.data.toList M2).1 := ⟨_, rfl⟩
          obtain ⟨M3, hM3⟩ : ∃ M3, M3 = (addS [111, 119, 110] s.data.toList M2).2 := ⟨_, rfl⟩
          rw [← hM3] at h6 hA
          rw [← hr2] at hA ⊢
          have H6 := Lib.hid h6
          have A3 := Lib.hid hA
          clear h6 hA hM3 eo hr2
          by_cases hr : r2 = 0
          · subst hr
            obtain ⟨q3, g3, -⟩ := A3.out.2 rfl
            rw [addF_new D2.out.2.1] at g3
            have F4 := Lib.hid (qt_flush q3 H6.out.good.srt g3)
            clear q3 g3
            go_wp2_with (fail)
            refine (st_flush H6.out ⟨#[111, 119, 110]⟩ (by decide)).mono ?_
            rintro e w7 ⟨rfl, h7⟩
            have eo : (⟨#[111, 119, 110]⟩ : ByteArray).data.toList = [111, 119, 110] := rfl
            rw [eo] at h7 ⊢
            rw [F4.out.1]
            obtain ⟨M4, hM4⟩ : ∃ M4, M4 = (flushS [111, 119, 110] M3).2 := ⟨_, rfl⟩
            have F4' := F4.out
            rw [← hM4] at h7 F4'
            have H7 := Lib.hid h7
            have F5 := Lib.hid F4'
            clear h7 F4' hM4 eo F4
            go_wp2_with (fail)
            refine (st_add H7.out ⟨#[111, 119, 110]⟩ t (by decide) (by omega)).mono ?_
            rintro e w8 ⟨rfl, h8⟩
            have hA := qt_add F5.out.2.1 H7.out.good.srt [111, 119, 110] t.data.toList
            have eo : (⟨#[111, 119, 110]⟩ : ByteArray).data.toList = [111, 119, 110] := rfl
            rw [eo] at h8 ⊢
            obtain ⟨r4, hr4⟩ : ∃ r4, r4 = (addS [111, 119, 110] t.data.toList M4).1 := ⟨_, rfl⟩
            obtain ⟨M5, hM5⟩ : ∃ M5, M5 = (addS [111, 119, 110] t.data.toList M4).2 := ⟨_, rfl⟩
            rw [← hM5] at h8 hA
            rw [← hr4] at hA ⊢
            have H8 := Lib.hid h8
            have A5 := Lib.hid (show ∃ t' : List UInt8, getF [111, 119, 110] M5.L = some ⟨[111, 119, 110], s.data.toList ++ t', s.data.toList.length⟩ ∧ (r4 ≠ 0 → t' = []) ∧ (r4 = 0 → t' = t.data.toList) by
              by_cases h0 : r4 = 0
              · refine ⟨t.data.toList, ?_, fun hc => absurd h0 hc, fun _ => rfl⟩
                have := (hA.2 h0).2.1
                rw [addF_old F5.out.2.2.1] at this
                exact this
              · refine ⟨[], ?_, fun _ => rfl, fun hc => absurd hc h0⟩
                rw [hA.1 h0, List.append_nil]
                exact F5.out.2.2.1)
            clear h8 hA hM5 eo hr4
            obtain ⟨t', g5, ta, tb⟩ := A5.out
            have G5 := Lib.hid g5
            have TA := Lib.hid ta
            have TB := Lib.hid tb
            clear g5 ta tb A5
            go_wp2_with (fail)
            refine (st_crash H8.out (Bel.refl w8) lf sp (HLF.out.bel H8.out.low) (HSP.out.bel H8.out.low) (fun a ha hne => Or.inl (ints_low HLF.out a ha hne)) (fun a ha hne => Or.inl (ints_low HSP.out a ha hne))).mono ?_
            rintro e w9 ⟨⟨u9, rfl⟩, h9⟩
            obtain ⟨jj, hcr⟩ := (crash_get lf.L sp.L [111, 119, 110] M5.L 0).2 _ G5.out
            obtain ⟨R, hR, hRl, hRm⟩ := crO_bytes (atN lf.L jj) (atN sp.L jj) [111, 119, 110] s.data.toList t'
            have HG := Lib.hid (show getS [111, 119, 110] (crashS lf.L sp.L M5) = (s.data.toList ++ R, 0) by
              rw [qt_get (qt_crash _ _ _)]
              have : (crashS lf.L sp.L M5).L = crashF lf.L sp.L 0 M5.L := rfl
              rw [this, hcr]
              simp only [hR])
            have H9 := Lib.hid h9
            have HRL := Lib.hid hRl
            have HRM := Lib.hid hRm
            clear h9 hcr hR hRl hRm
            go_wp2_with (fail)
            refine (st_get H9.out ⟨#[111, 119, 110]⟩ (by decide)).mono ?_
            rintro e w10 ⟨rfl, h10, -⟩
            have eo : (⟨#[111, 119, 110]⟩ : ByteArray).data.toList = [111, 119, 110] := rfl
            rw [eo, HG.out]
            have H10 := Lib.hid h10
            clear h10 eo
            obtain ⟨u, hu⟩ : ∃ u : ByteArray, u = ⟨(s.data.toList ++ R).toArray⟩ := ⟨_, rfl⟩
            have hfr := front_of s.data.toList R u s hu rfl
            obtain ⟨hf1, hf2⟩ := hfr
            rw [← hu]
            have HU := Lib.hid hu
            clear hu
            obtain ⟨c, hc⟩ : ∃ c, c = R.length := ⟨_, rfl⟩
            have HCL := Lib.hid hc
            rw [← hc] at hf2
            clear hc
            by_cases h40 : r4 = 0
            · subst h40
              have htt := TB.out rfl
              subst htt
              have hcl : c ≤ t.size := by rw [HCL.out]; exact HRL.out
              have hcc : (s.size : Int) + (c : Int) - (s.size : Int) = (c : Int) := by omega
              by_cases hc1 : c ≤ 1
              · have hc1' : (c : Int) ≤ 1 := by omega
                go_wp2_with (fail)
                refine wp_region_held_drew (S := fun z => True) (by kernel_rfl) trivial (fun hHeld => ?_)
                refine wpAnyH_take (i := 0) (oi := { dst := some 108, op := Op.move (Operand.tmp 18), type := 3, pos := "law.go:183", after := #[], guard := none }) (v := ?_) rfl (by kernel_rfl) (by kernel_rfl) (by kernel_rfl) (fun _ _ _ h => h) (Or.inl ⟨by rfl, ?_⟩) (by assumption) ?_
                rotate_left
                · (intro w hSw; (try dsimp only at hSw); first | (go_simp; done) | (go_simp; with_reducible rfl))
                try simp only [Act.put, List.setIfInBounds_toArray, List.set_cons_zero, List.set_cons_succ]
                refine wpAnyH_take (i := 1) (oi := { dst := some 109, op := Op.move (Operand.tmp 2), type := 9, pos := "law.go:183", after := #[], guard := none }) (v := ?_) rfl (by kernel_rfl) (by kernel_rfl) (by kernel_rfl) (fun _ _ _ h => h) (Or.inl ⟨by rfl, ?_⟩) (by assumption) ?_
                rotate_left
                · (intro w hSw; (try dsimp only at hSw); first | (go_simp; done) | (go_simp; with_reducible rfl))
                try simp only [Act.put, List.setIfInBounds_toArray, List.set_cons_zero, List.set_cons_succ]
                refine wpAnyH_take (i := 2) (oi := { dst := some 110, op := Op.call { callee := Callee.builtin Builtin.len, args := #[Operand.tmp 109], argTypes := #[9] }, type := 3, pos := "law.go:183", after := #[{ on := 1, ground := Ground.data }], guard := none }) (v := ?_) rfl (by kernel_rfl) (by kernel_rfl) (by kernel_rfl) (fun _ _ _ h => h) (Or.inl ⟨by rfl, ?_⟩) (by assumption) ?_
                rotate_left
                · (intro w hSw; (try dsimp only at hSw); first | (go_simp; done) | (go_simp; with_reducible rfl))
                try simp only [Act.put, List.setIfInBounds_toArray, List.set_cons_zero, List.set_cons_succ]
                refine wpAnyH_take (i := 3) (oi := { dst := some 111, op := Op.binOp BinOp.leq 3 (Operand.tmp 108) (Operand.tmp 110) 3, type := 4, pos := "law.go:183", after := #[{ on := 0, ground := Ground.data }, { on := 2, ground := Ground.data }], guard := none }) (v := ?_) rfl (by kernel_rfl) (by kernel_rfl) (by kernel_rfl) (fun _ _ _ h => h) (Or.inl ⟨by rfl, ?_⟩) (by assumption) ?_
                rotate_left
                · (intro w hSw; (try dsimp only at hSw); first | (go_simp; done) | (go_simp; with_reducible rfl))
                try simp only [Act.put, List.setIfInBounds_toArray, List.set_cons_zero, List.set_cons_succ]
                refine wpAnyH_take (i := 4) (oi := { dst := some 112, op := Op.move (Operand.tmp 111), type := 4, pos := "law.go:183", after := #[{ on := 3, ground := Ground.data }], guard := none }) (v := ?_) rfl (by kernel_rfl) (by kernel_rfl) (by kernel_rfl) (fun _ _ _ h => h) (Or.inl ⟨by rfl, ?_⟩) (by assumption) ?_
                rotate_left
                · (intro w hSw; (try dsimp only at hSw); first | (go_simp; done) | (go_simp; with_reducible rfl))
                try simp only [Act.put, List.setIfInBounds_toArray, List.set_cons_zero, List.set_cons_succ]
                refine wpAnyH_take (i := 5) (oi := { dst := some 113, op := Op.move (Operand.tmp 18), type := 3, pos := "law.go:183", after := #[{ on := 4, ground := Ground.guard }], guard := some (4, true) }) (v := ?_) rfl (by kernel_rfl) (by kernel_rfl) (by kernel_rfl) (fun _ _ _ h => h) (Or.inl ⟨by rfl, ?_⟩) (by assumption) ?_
                rotate_left
                · (intro w hSw; (try dsimp only at hSw); first | (go_simp; done) | (go_simp; with_reducible rfl))
                try simp only [Act.put, List.setIfInBounds_toArray, List.set_cons_zero, List.set_cons_succ]
                refine wpAnyH_take (i := 6) (oi := { dst := some 114, op := Op.binOp BinOp.leq 3 (Operand.tmp 113) (Operand.const (Value.int IntKind.i64 1)) 3, type := 4, pos := "law.go:183", after := #[{ on := 5, ground := Ground.data }, { on := 4, ground := Ground.guard }], guard := some (4, true) }) (v := ?_) rfl (by kernel_rfl) (by kernel_rfl) (by kernel_rfl) (fun _ _ _ h => h) (Or.inl ⟨by rfl, ?_⟩) (by assumption) ?_
                rotate_left
                · (intro w hSw; (try dsimp only at hSw); first | (go_simp; done) | (go_simp; with_reducible rfl))
                try simp only [Act.put, List.setIfInBounds_toArray, List.set_cons_zero, List.set_cons_succ]
                refine wpAnyH_take (i := 7) (oi := { dst := some 115, op := Op.move (Operand.tmp 114), type := 4, pos := "law.go:183", after := #[{ on := 6, ground := Ground.data }, { on := 4, ground := Ground.chain }, { on := 4, ground := Ground.guard }], guard := some (4, true) }) (v := ?_) rfl (by kernel_rfl) (by kernel_rfl) (by kernel_rfl) (fun _ _ _ h => h) (Or.inl ⟨by rfl, ?_⟩) (by assumption) ?_
                rotate_left
                · (intro w hSw; (try dsimp only at hSw); first | (go_simp; done) | (go_simp; with_reducible rfl))
                try simp only [Act.put, List.setIfInBounds_toArray, List.set_cons_zero, List.set_cons_succ]
                refine wpAnyH_take (i := 8) (oi := { dst := some 116, op := Op.move (Operand.tmp 16), type := 9, pos := "law.go:183", after := #[{ on := 7, ground := Ground.guard }], guard := some (7, false) }) (v := undef) rfl (by kernel_rfl) (by kernel_rfl) (by kernel_rfl) (fun _ _ _ h => h) (Or.inr ⟨by rfl, rfl⟩) (by assumption) ?_
                try simp only [Act.put, List.setIfInBounds_toArray, List.set_cons_zero, List.set_cons_succ]
                refine wpAnyH_take (i := 9) (oi := { dst := some 117, op := Op.move (Operand.tmp 1), type := 9, pos := "law.go:183", after := #[{ on := 7, ground := Ground.guard }], guard := some (7, false) }) (v := undef) rfl (by kernel_rfl) (by kernel_rfl) (by kernel_rfl) (fun _ _ _ h => h) (Or.inr ⟨by rfl, rfl⟩) (by assumption) ?_
                try simp only [Act.put, List.setIfInBounds_toArray, List.set_cons_zero, List.set_cons_succ]
                refine wpAnyH_take (i := 10) (oi := { dst := some 118, op := Op.call { callee := Callee.builtin Builtin.len, args := #[Operand.tmp 117], argTypes := #[9] }, type := 3, pos := "law.go:183", after := #[{ on := 9, ground := Ground.data }, { on := 7, ground := Ground.guard }], guard := some (7, false) }) (v := undef) rfl (by kernel_rfl) (by kernel_rfl) (by kernel_rfl) (fun _ _ _ h => h) (Or.inr ⟨by rfl, rfl⟩) (by assumption) ?_
                try simp only [Act.put, List.setIfInBounds_toArray, List.set_cons_zero, List.set_cons_succ]
                refine wpAnyH_take (i := 11) (oi := { dst := some 119, op := Op.move (Operand.tmp 16), type := 9, pos := "law.go:183", after := #[{ on := 7, ground := Ground.guard }], guard := some (7, false) }) (v := undef) rfl (by kernel_rfl) (by kernel_rfl) (by kernel_rfl) (fun _ _ _ h => h) (Or.inr ⟨by rfl, rfl⟩) (by assumption) ?_
                try simp only [Act.put, List.setIfInBounds_toArray, List.set_cons_zero, List.set_cons_succ]
                refine wpAnyH_take (i := 12) (oi := { dst := some 120, op := Op.call { callee := Callee.builtin Builtin.len, args := #[Operand.tmp 119], argTypes := #[9] }, type := 3, pos := "law.go:183", after := #[{ on := 11, ground := Ground.data }, { on := 7, ground := Ground.guard }], guard := some (7, false) }) (v := undef) rfl (by kernel_rfl) (by kernel_rfl) (by kernel_rfl) (fun _ _ _ h => h) (Or.inr ⟨by rfl, rfl⟩) (by assumption) ?_
                try simp only [Act.put, List.setIfInBounds_toArray, List.set_cons_zero, List.set_cons_succ]
                refine wpAnyH_take (i := 13) (oi := { dst := some 121, op := Op.binOp BinOp.sub 3 (Operand.tmp 120) (Operand.const (Value.int IntKind.i64 1)) 3, type := 3, pos := "law.go:183", after := #[{ on := 12, ground := Ground.data }, { on := 7, ground := Ground.guard }], guard := some (7, false) }) (v := undef) rfl (by kernel_rfl) (by kernel_rfl) (by kernel_rfl) (fun _ _ _ h => h) (Or.inr ⟨by rfl, rfl⟩) (by assumption) ?_
                try simp only [Act.put, List.setIfInBounds_toArray, List.set_cons_zero, List.set_cons_succ]
                refine wpAnyH_take (i := 14) (oi := { dst := some 122, op := Op.slice 9 (Operand.tmp 116) (some (Operand.tmp 118)) (some (Operand.tmp 121)) none, type := 9, pos := "law.go:183", after := #[{ on := 8, ground := Ground.data }, { on := 10, ground := Ground.data }, { on := 13, ground := Ground.data }, { on := 7, ground := Ground.guard }], guard := some (7, false) }) (v := undef) rfl (by kernel_rfl) (by kernel_rfl) (by kernel_rfl) (fun _ _ _ h => h) (Or.inr ⟨by rfl, rfl⟩) (by assumption) ?_
                try simp only [Act.put, List.setIfInBounds_toArray, List.set_cons_zero, List.set_cons_succ]
                refine wpAnyH_take (i := 15) (oi := { dst := some 123, op := Op.move (Operand.tmp 2), type := 9, pos := "law.go:183", after := #[{ on := 7, ground := Ground.guard }], guard := some (7, false) }) (v := undef) rfl (by kernel_rfl) (by kernel_rfl) (by kernel_rfl) (fun _ _ _ h => h) (Or.inr ⟨by rfl, rfl⟩) (by assumption) ?_
                try simp only [Act.put, List.setIfInBounds_toArray, List.set_cons_zero, List.set_cons_succ]
                refine wpAnyH_take (i := 16) (oi := { dst := some 124, op := Op.move (Operand.tmp 18), type := 3, pos := "law.go:183", after := #[{ on := 7, ground := Ground.guard }], guard := some (7, false) }) (v := undef) rfl (by kernel_rfl) (by kernel_rfl) (by kernel_rfl) (fun _ _ _ h => h) (Or.inr ⟨by rfl, rfl⟩) (by assumption) ?_
                try simp only [Act.put, List.setIfInBounds_toArray, List.set_cons_zero, List.set_cons_succ]
                refine wpAnyH_take (i := 17) (oi := { dst := some 125, op := Op.binOp BinOp.sub 3 (Operand.tmp 124) (Operand.const (Value.int IntKind.i64 1)) 3, type := 3, pos := "law.go:183", after := #[{ on := 16, ground := Ground.data }, { on := 7, ground := Ground.guard }], guard := some (7, false) }) (v := undef) rfl (by kernel_rfl) (by kernel_rfl) (by kernel_rfl) (fun _ _ _ h => h) (Or.inr ⟨by rfl, rfl⟩) (by assumption) ?_
                try simp only [Act.put, List.setIfInBounds_toArray, List.set_cons_zero, List.set_cons_succ]
                refine wpAnyH_take (i := 18) (oi := { dst := some 126, op := Op.slice 9 (Operand.tmp 123) none (some (Operand.tmp 125)) none, type := 9, pos := "law.go:183", after := #[{ on := 15, ground := Ground.data }, { on := 17, ground := Ground.data }, { on := 7, ground := Ground.guard }], guard := some (7, false) }) (v := undef) rfl (by kernel_rfl) (by kernel_rfl) (by kernel_rfl) (fun _ _ _ h => h) (Or.inr ⟨by rfl, rfl⟩) (by assumption) ?_
                try simp only [Act.put, List.setIfInBounds_toArray, List.set_cons_zero, List.set_cons_succ]
                refine wpAnyH_take (i := 19) (oi := { dst := some 127, op := Op.binOp BinOp.eql 9 (Operand.tmp 122) (Operand.tmp 126) 9, type := 4, pos := "law.go:183", after := #[{ on := 14, ground := Ground.data }, { on := 18, ground := Ground.data }, { on := 7, ground := Ground.guard }], guard := some (7, false) }) (v := undef) rfl (by kernel_rfl) (by kernel_rfl) (by kernel_rfl) (fun _ _ _ h => h) (Or.inr ⟨by rfl, rfl⟩) (by assumption) ?_
                try simp only [Act.put, List.setIfInBounds_toArray, List.set_cons_zero, List.set_cons_succ]
                refine wpAnyH_take (i := 20) (oi := { dst := some 128, op := Op.pick (Operand.tmp 115) (Operand.const (Value.bool true)) (Operand.tmp 127), type := 4, pos := "law.go:183", after := #[{ on := 7, ground := Ground.data }, { on := 19, ground := Ground.data }, { on := 4, ground := Ground.guard }], guard := some (4, true) }) (v := ?_) rfl (by kernel_rfl) (by kernel_rfl) (by kernel_rfl) (fun _ _ _ h => h) (Or.inl ⟨by rfl, ?_⟩) (by assumption) ?_
                rotate_left
                · (intro w hSw; (try dsimp only at hSw); first | (go_simp; done) | (go_simp; with_reducible rfl))
                try simp only [Act.put, List.setIfInBounds_toArray, List.set_cons_zero, List.set_cons_succ]
                refine wpAnyH_take (i := 21) (oi := { dst := some 129, op := Op.pick (Operand.tmp 112) (Operand.tmp 128) (Operand.const (Value.bool false)), type := 4, pos := "law.go:183", after := #[{ on := 4, ground := Ground.data }, { on := 20, ground := Ground.data }], guard := none }) (v := ?_) rfl (by kernel_rfl) (by kernel_rfl) (by kernel_rfl) (fun _ _ _ h => h) (Or.inl ⟨by rfl, ?_⟩) (by assumption) ?_
                rotate_left
                · (intro w hSw; (try dsimp only at hSw); first | (go_simp; done) | (go_simp; with_reducible rfl))
                try simp only [Act.put, List.setIfInBounds_toArray, List.set_cons_zero, List.set_cons_succ]
                refine wpAnyH_take (i := 22) (oi := { dst := some 10, op := Op.assign (Operand.tmp 129), type := 4, pos := "law.go:183", after := #[{ on := 21, ground := Ground.data }, { on := 7, ground := Ground.chain }, { on := 0, ground := Ground.phase }, { on := 1, ground := Ground.phase }, { on := 2, ground := Ground.phase }, { on := 3, ground := Ground.phase }, { on := 4, ground := Ground.phase }, { on := 5, ground := Ground.phase }, { on := 6, ground := Ground.phase }, { on := 7, ground := Ground.phase }, { on := 8, ground := Ground.phase }, { on := 9, ground := Ground.phase }, { on := 10, ground := Ground.phase }, { on := 11, ground := Ground.phase }, { on := 12, ground := Ground.phase }, { on := 13, ground := Ground.phase }, { on := 14, ground := Ground.phase }, { on := 15, ground := Ground.phase }, { on := 16, ground := Ground.phase }, { on := 17, ground := Ground.phase }, { on := 18, ground := Ground.phase }, { on := 19, ground := Ground.phase }, { on := 20, ground := Ground.phase }, { on := 21, ground := Ground.phase }], guard := none }) (v := ?_) rfl (by kernel_rfl) (by kernel_rfl) (by kernel_rfl) (fun _ _ _ h => h) (Or.inl ⟨by rfl, ?_⟩) (by assumption) ?_
                rotate_left
                · (intro w hSw; (try dsimp only at hSw); first | (go_simp; done) | (go_simp; with_reducible rfl))
                try simp only [Act.put, List.setIfInBounds_toArray, List.set_cons_zero, List.set_cons_succ]
                refine wpAnyH_done (by kernel_rfl) ?_ _
                go_wp2_with (fail)
                go_ret
                exact ⟨rfl, H10.out.low.drew⟩
              · obtain ⟨m, hm⟩ : ∃ m, c = m + 1 := ⟨c - 1, by omega⟩
                have hmid := mid_of s.data.toList R t.data.toList u s t HU.out rfl rfl m (by rw [← hm, HCL.out]) (by
                  have := HRM.out.resolve_left (by have := HCL.out; omega)
                  rwa [← HCL.out, hm, Nat.add_sub_cancel] at this)
                have hc1' : ¬ ((c : Int) ≤ 1) := by omega
                have hcd : decide ((c : Int) ≤ 1) = false := by rw [decide_eq_false_iff_not]; omega
                have hcm : (c : Int) - 1 = (m : Int) := by omega
                have hum : (s.size : Int) + (c : Int) - 1 = (s.size : Int) + (m : Int) := by omega
                have hw1 : IntKind.i64.wrap ((s.size : Int) + (m : Int)) = (s.size : Int) + (m : Int) := wrap_in (by omega) (by omega)
                have hw2 : IntKind.i64.wrap (m : Int) = (m : Int) := wrap_in (by omega) (by omega)
                have hmt : m ≤ t.size := by omega
                have hmc : (s.size : Int) + (m : Int) ≤ (s.size : Int) + (c : Int) := by omega
                have hms : (s.size : Int) ≤ (s.size : Int) + (m : Int) := by omega
                have hm0 : (0 : Int) ≤ (s.size : Int) + (m : Int) := by omega
                have htn : ((s.size : Int) + (m : Int)).toNat = s.size + m := by omega
                replace hm := Lib.hid hm
                go_wp2_with (fail)
                refine wp_region_held_drew (S := fun z => True) (by kernel_rfl) trivial (fun hHeld => ?_)
                refine wpAnyH_take (i := 0) (oi := { dst := some 108, op := Op.move (Operand.tmp 18), type := 3, pos := "law.go:183", after := #[], guard := none }) (v := ?_) rfl (by kernel_rfl) (by kernel_rfl) (by kernel_rfl) (fun _ _ _ h => h) (Or.inl ⟨by rfl, ?_⟩) (by assumption) ?_
                rotate_left
                · (intro w hSw; (try dsimp only at hSw); first | (go_simp; done) | (go_simp; with_reducible rfl))
                try simp only [Act.put, List.setIfInBounds_toArray, List.set_cons_zero, List.set_cons_succ]
                refine wpAnyH_take (i := 1) (oi := { dst := some 109, op := Op.move (Operand.tmp 2), type := 9, pos := "law.go:183", after := #[], guard := none }) (v := ?_) rfl (by kernel_rfl) (by kernel_rfl) (by kernel_rfl) (fun _ _ _ h => h) (Or.inl ⟨by rfl, ?_⟩) (by assumption) ?_
                rotate_left
                · (intro w hSw; (try dsimp only at hSw); first | (go_simp; done) | (go_simp; with_reducible rfl))
                try simp only [Act.put, List.setIfInBounds_toArray, List.set_cons_zero, List.set_cons_succ]
                refine wpAnyH_take (i := 2) (oi := { dst := some 110, op := Op.call { callee := Callee.builtin Builtin.len, args := #[Operand.tmp 109], argTypes := #[9] }, type := 3, pos := "law.go:183", after := #[{ on := 1, ground := Ground.data }], guard := none }) (v := ?_) rfl (by kernel_rfl) (by kernel_rfl) (by kernel_rfl) (fun _ _ _ h => h) (Or.inl ⟨by rfl, ?_⟩) (by assumption) ?_
                rotate_left
                · (intro w hSw; (try dsimp only at hSw); first | (go_simp; done) | (go_simp; with_reducible rfl))
                try simp only [Act.put, List.setIfInBounds_toArray, List.set_cons_zero, List.set_cons_succ]
                refine wpAnyH_take (i := 3) (oi := { dst := some 111, op := Op.binOp BinOp.leq 3 (Operand.tmp 108) (Operand.tmp 110) 3, type := 4, pos := "law.go:183", after := #[{ on := 0, ground := Ground.data }, { on := 2, ground := Ground.data }], guard := none }) (v := ?_) rfl (by kernel_rfl) (by kernel_rfl) (by kernel_rfl) (fun _ _ _ h => h) (Or.inl ⟨by rfl, ?_⟩) (by assumption) ?_
                rotate_left
                · (intro w hSw; (try dsimp only at hSw); first | (go_simp; done) | (go_simp; with_reducible rfl))
                try simp only [Act.put, List.setIfInBounds_toArray, List.set_cons_zero, List.set_cons_succ]
                refine wpAnyH_take (i := 4) (oi := { dst := some 112, op := Op.move (Operand.tmp 111), type := 4, pos := "law.go:183", after := #[{ on := 3, ground := Ground.data }], guard := none }) (v := ?_) rfl (by kernel_rfl) (by kernel_rfl) (by kernel_rfl) (fun _ _ _ h => h) (Or.inl ⟨by rfl, ?_⟩) (by assumption) ?_
                rotate_left
                · (intro w hSw; (try dsimp only at hSw); first | (go_simp; done) | (go_simp; with_reducible rfl))
                try simp only [Act.put, List.setIfInBounds_toArray, List.set_cons_zero, List.set_cons_succ]
                refine wpAnyH_take (i := 5) (oi := { dst := some 113, op := Op.move (Operand.tmp 18), type := 3, pos := "law.go:183", after := #[{ on := 4, ground := Ground.guard }], guard := some (4, true) }) (v := ?_) rfl (by kernel_rfl) (by kernel_rfl) (by kernel_rfl) (fun _ _ _ h => h) (Or.inl ⟨by rfl, ?_⟩) (by assumption) ?_
                rotate_left
                · (intro w hSw; (try dsimp only at hSw); first | (go_simp; done) | (go_simp; with_reducible rfl))
                try simp only [Act.put, List.setIfInBounds_toArray, List.set_cons_zero, List.set_cons_succ]
                refine wpAnyH_take (i := 6) (oi := { dst := some 114, op := Op.binOp BinOp.leq 3 (Operand.tmp 113) (Operand.const (Value.int IntKind.i64 1)) 3, type := 4, pos := "law.go:183", after := #[{ on := 5, ground := Ground.data }, { on := 4, ground := Ground.guard }], guard := some (4, true) }) (v := ?_) rfl (by kernel_rfl) (by kernel_rfl) (by kernel_rfl) (fun _ _ _ h => h) (Or.inl ⟨by rfl, ?_⟩) (by assumption) ?_
                rotate_left
                · (intro w hSw; (try dsimp only at hSw); first | (go_simp; done) | (go_simp; with_reducible rfl))
                try simp only [Act.put, List.setIfInBounds_toArray, List.set_cons_zero, List.set_cons_succ]
                refine wpAnyH_take (i := 7) (oi := { dst := some 115, op := Op.move (Operand.tmp 114), type := 4, pos := "law.go:183", after := #[{ on := 6, ground := Ground.data }, { on := 4, ground := Ground.chain }, { on := 4, ground := Ground.guard }], guard := some (4, true) }) (v := ?_) rfl (by kernel_rfl) (by kernel_rfl) (by kernel_rfl) (fun _ _ _ h => h) (Or.inl ⟨by rfl, ?_⟩) (by assumption) ?_
                rotate_left
                · (intro w hSw; (try dsimp only at hSw); first | (go_simp; done) | (go_simp; with_reducible rfl))
                try simp only [Act.put, List.setIfInBounds_toArray, List.set_cons_zero, List.set_cons_succ]
                refine wpAnyH_take (i := 8) (oi := { dst := some 116, op := Op.move (Operand.tmp 16), type := 9, pos := "law.go:183", after := #[{ on := 7, ground := Ground.guard }], guard := some (7, false) }) (v := ?_) rfl (by kernel_rfl) (by kernel_rfl) (by kernel_rfl) (fun _ _ _ h => h) (Or.inl ⟨by rfl, ?_⟩) (by assumption) ?_
                rotate_left
                · (intro w hSw; (try dsimp only at hSw); first | (go_simp; done) | (go_simp; with_reducible rfl))
                try simp only [Act.put, List.setIfInBounds_toArray, List.set_cons_zero, List.set_cons_succ]
                refine wpAnyH_take (i := 9) (oi := { dst := some 117, op := Op.move (Operand.tmp 1), type := 9, pos := "law.go:183", after := #[{ on := 7, ground := Ground.guard }], guard := some (7, false) }) (v := ?_) rfl (by kernel_rfl) (by kernel_rfl) (by kernel_rfl) (fun _ _ _ h => h) (Or.inl ⟨by rfl, ?_⟩) (by assumption) ?_
                rotate_left
                · (intro w hSw; (try dsimp only at hSw); first | (go_simp; done) | (go_simp; with_reducible rfl))
                try simp only [Act.put, List.setIfInBounds_toArray, List.set_cons_zero, List.set_cons_succ]
                refine wpAnyH_take (i := 10) (oi := { dst := some 118, op := Op.call { callee := Callee.builtin Builtin.len, args := #[Operand.tmp 117], argTypes := #[9] }, type := 3, pos := "law.go:183", after := #[{ on := 9, ground := Ground.data }, { on := 7, ground := Ground.guard }], guard := some (7, false) }) (v := ?_) rfl (by kernel_rfl) (by kernel_rfl) (by kernel_rfl) (fun _ _ _ h => h) (Or.inl ⟨by rfl, ?_⟩) (by assumption) ?_
                rotate_left
                · (intro w hSw; (try dsimp only at hSw); first | (go_simp; done) | (go_simp; with_reducible rfl))
                try simp only [Act.put, List.setIfInBounds_toArray, List.set_cons_zero, List.set_cons_succ]
                refine wpAnyH_take (i := 11) (oi := { dst := some 119, op := Op.move (Operand.tmp 16), type := 9, pos := "law.go:183", after := #[{ on := 7, ground := Ground.guard }], guard := some (7, false) }) (v := ?_) rfl (by kernel_rfl) (by kernel_rfl) (by kernel_rfl) (fun _ _ _ h => h) (Or.inl ⟨by rfl, ?_⟩) (by assumption) ?_
                rotate_left
                · (intro w hSw; (try dsimp only at hSw); first | (go_simp; done) | (go_simp; with_reducible rfl))
                try simp only [Act.put, List.setIfInBounds_toArray, List.set_cons_zero, List.set_cons_succ]
                refine wpAnyH_take (i := 12) (oi := { dst := some 120, op := Op.call { callee := Callee.builtin Builtin.len, args := #[Operand.tmp 119], argTypes := #[9] }, type := 3, pos := "law.go:183", after := #[{ on := 11, ground := Ground.data }, { on := 7, ground := Ground.guard }], guard := some (7, false) }) (v := ?_) rfl (by kernel_rfl) (by kernel_rfl) (by kernel_rfl) (fun _ _ _ h => h) (Or.inl ⟨by rfl, ?_⟩) (by assumption) ?_
                rotate_left
                · (intro w hSw; (try dsimp only at hSw); first | (go_simp; done) | (go_simp; with_reducible rfl))
                try simp only [Act.put, List.setIfInBounds_toArray, List.set_cons_zero, List.set_cons_succ]
                refine wpAnyH_take (i := 13) (oi := { dst := some 121, op := Op.binOp BinOp.sub 3 (Operand.tmp 120) (Operand.const (Value.int IntKind.i64 1)) 3, type := 3, pos := "law.go:183", after := #[{ on := 12, ground := Ground.data }, { on := 7, ground := Ground.guard }], guard := some (7, false) }) (v := ?_) rfl (by kernel_rfl) (by kernel_rfl) (by kernel_rfl) (fun _ _ _ h => h) (Or.inl ⟨by rfl, ?_⟩) (by assumption) ?_
                rotate_left
                · (intro w hSw; (try dsimp only at hSw); first | (go_simp; done) | (go_simp; with_reducible rfl))
                try simp only [Act.put, List.setIfInBounds_toArray, List.set_cons_zero, List.set_cons_succ]
                refine wpAnyH_take (i := 14) (oi := { dst := some 122, op := Op.slice 9 (Operand.tmp 116) (some (Operand.tmp 118)) (some (Operand.tmp 121)) none, type := 9, pos := "law.go:183", after := #[{ on := 8, ground := Ground.data }, { on := 10, ground := Ground.data }, { on := 13, ground := Ground.data }, { on := 7, ground := Ground.guard }], guard := some (7, false) }) (v := ?_) rfl (by kernel_rfl) (by kernel_rfl) (by kernel_rfl) (fun _ _ _ h => h) (Or.inl ⟨by rfl, ?_⟩) (by assumption) ?_
                rotate_left
                · (intro w hSw; (try dsimp only at hSw); first | (go_simp; done) | (go_simp; with_reducible rfl))
                try simp only [Act.put, List.setIfInBounds_toArray, List.set_cons_zero, List.set_cons_succ]
                refine wpAnyH_take (i := 15) (oi := { dst := some 123, op := Op.move (Operand.tmp 2), type := 9, pos := "law.go:183", after := #[{ on := 7, ground := Ground.guard }], guard := some (7, false) }) (v := ?_) rfl (by kernel_rfl) (by kernel_rfl) (by kernel_rfl) (fun _ _ _ h => h) (Or.inl ⟨by rfl, ?_⟩) (by assumption) ?_
                rotate_left
                · (intro w hSw; (try dsimp only at hSw); first | (go_simp; done) | (go_simp; with_reducible rfl))
                try simp only [Act.put, List.setIfInBounds_toArray, List.set_cons_zero, List.set_cons_succ]
                refine wpAnyH_take (i := 16) (oi := { dst := some 124, op := Op.move (Operand.tmp 18), type := 3, pos := "law.go:183", after := #[{ on := 7, ground := Ground.guard }], guard := some (7, false) }) (v := ?_) rfl (by kernel_rfl) (by kernel_rfl) (by kernel_rfl) (fun _ _ _ h => h) (Or.inl ⟨by rfl, ?_⟩) (by assumption) ?_
                rotate_left
                · (intro w hSw; (try dsimp only at hSw); first | (go_simp; done) | (go_simp; with_reducible rfl))
                try simp only [Act.put, List.setIfInBounds_toArray, List.set_cons_zero, List.set_cons_succ]
                refine wpAnyH_take (i := 17) (oi := { dst := some 125, op := Op.binOp BinOp.sub 3 (Operand.tmp 124) (Operand.const (Value.int IntKind.i64 1)) 3, type := 3, pos := "law.go:183", after := #[{ on := 16, ground := Ground.data }, { on := 7, ground := Ground.guard }], guard := some (7, false) }) (v := ?_) rfl (by kernel_rfl) (by kernel_rfl) (by kernel_rfl) (fun _ _ _ h => h) (Or.inl ⟨by rfl, ?_⟩) (by assumption) ?_
                rotate_left
                · (intro w hSw; (try dsimp only at hSw); first | (go_simp; done) | (go_simp; with_reducible rfl))
                try simp only [Act.put, List.setIfInBounds_toArray, List.set_cons_zero, List.set_cons_succ]
                refine wpAnyH_take (i := 18) (oi := { dst := some 126, op := Op.slice 9 (Operand.tmp 123) none (some (Operand.tmp 125)) none, type := 9, pos := "law.go:183", after := #[{ on := 15, ground := Ground.data }, { on := 17, ground := Ground.data }, { on := 7, ground := Ground.guard }], guard := some (7, false) }) (v := ?_) rfl (by kernel_rfl) (by kernel_rfl) (by kernel_rfl) (fun _ _ _ h => h) (Or.inl ⟨by rfl, ?_⟩) (by assumption) ?_
                rotate_left
                · (intro w hSw; (try dsimp only at hSw); first | (go_simp; done) | (go_simp; with_reducible rfl))
                try simp only [Act.put, List.setIfInBounds_toArray, List.set_cons_zero, List.set_cons_succ]
                refine wpAnyH_take (i := 19) (oi := { dst := some 127, op := Op.binOp BinOp.eql 9 (Operand.tmp 122) (Operand.tmp 126) 9, type := 4, pos := "law.go:183", after := #[{ on := 14, ground := Ground.data }, { on := 18, ground := Ground.data }, { on := 7, ground := Ground.guard }], guard := some (7, false) }) (v := ?_) rfl (by kernel_rfl) (by kernel_rfl) (by kernel_rfl) (fun _ _ _ h => h) (Or.inl ⟨by rfl, ?_⟩) (by assumption) ?_
                rotate_left
                · (intro w hSw; (try dsimp only at hSw); first | (go_simp; done) | (go_simp; with_reducible rfl))
                try simp only [Act.put, List.setIfInBounds_toArray, List.set_cons_zero, List.set_cons_succ]
                refine wpAnyH_take (i := 20) (oi := { dst := some 128, op := Op.pick (Operand.tmp 115) (Operand.const (Value.bool true)) (Operand.tmp 127), type := 4, pos := "law.go:183", after := #[{ on := 7, ground := Ground.data }, { on := 19, ground := Ground.data }, { on := 4, ground := Ground.guard }], guard := some (4, true) }) (v := ?_) rfl (by kernel_rfl) (by kernel_rfl) (by kernel_rfl) (fun _ _ _ h => h) (Or.inl ⟨by rfl, ?_⟩) (by assumption) ?_
                rotate_left
                · (intro w hSw; (try dsimp only at hSw); first | (go_simp; done) | (go_simp; with_reducible rfl))
                try simp only [Act.put, List.setIfInBounds_toArray, List.set_cons_zero, List.set_cons_succ]
                refine wpAnyH_take (i := 21) (oi := { dst := some 129, op := Op.pick (Operand.tmp 112) (Operand.tmp 128) (Operand.const (Value.bool false)), type := 4, pos := "law.go:183", after := #[{ on := 4, ground := Ground.data }, { on := 20, ground := Ground.data }], guard := none }) (v := ?_) rfl (by kernel_rfl) (by kernel_rfl) (by kernel_rfl) (fun _ _ _ h => h) (Or.inl ⟨by rfl, ?_⟩) (by assumption) ?_
                rotate_left
                · (intro w hSw; (try dsimp only at hSw); first | (go_simp; done) | (go_simp; with_reducible rfl))
                try simp only [Act.put, List.setIfInBounds_toArray, List.set_cons_zero, List.set_cons_succ]
                refine wpAnyH_take (i := 22) (oi := { dst := some 10, op := Op.assign (Operand.tmp 129), type := 4, pos := "law.go:183", after := #[{ on := 21, ground := Ground.data }, { on := 7, ground := Ground.chain }, { on := 0, ground := Ground.phase }, { on := 1, ground := Ground.phase }, { on := 2, ground := Ground.phase }, { on := 3, ground := Ground.phase }, { on := 4, ground := Ground.phase }, { on := 5, ground := Ground.phase }, { on := 6, ground := Ground.phase }, { on := 7, ground := Ground.phase }, { on := 8, ground := Ground.phase }, { on := 9, ground := Ground.phase }, { on := 10, ground := Ground.phase }, { on := 11, ground := Ground.phase }, { on := 12, ground := Ground.phase }, { on := 13, ground := Ground.phase }, { on := 14, ground := Ground.phase }, { on := 15, ground := Ground.phase }, { on := 16, ground := Ground.phase }, { on := 17, ground := Ground.phase }, { on := 18, ground := Ground.phase }, { on := 19, ground := Ground.phase }, { on := 20, ground := Ground.phase }, { on := 21, ground := Ground.phase }], guard := none }) (v := ?_) rfl (by kernel_rfl) (by kernel_rfl) (by kernel_rfl) (fun _ _ _ h => h) (Or.inl ⟨by rfl, ?_⟩) (by assumption) ?_
                rotate_left
                · (intro w hSw; (try dsimp only at hSw); first | (go_simp; done) | (go_simp; with_reducible rfl))
                try simp only [Act.put, List.setIfInBounds_toArray, List.set_cons_zero, List.set_cons_succ]
                refine wpAnyH_done (by kernel_rfl) ?_ _
                go_wp2_with (fail)
                go_ret
                exact ⟨rfl, H10.out.low.drew⟩
            · have htt := TA.out h40
              subst htt
              have hR0 : R = [] := by have := HRL.out; simp at this; exact this
              have huu : (u.toList == s.toList) = true := by
                rw [beq_iff_eq, ByteArray.toList_eq, ByteArray.toList_eq, HU.out, hR0]
                simp
              have hc0 : c = 0 := by rw [HCL.out, hR0]; rfl
              have h41 : (r4 != 0) = true := by rw [bne_iff_ne]; exact h40
              have h42 : (r4 == 0) = false := by rw [beq_eq_false_iff_ne]; exact h40
              subst hc0
              rw [Nat.add_zero] at hf2
              clear hR0
              go_wp2_with (fail)
              go_ret
              exact ⟨rfl, H10.out.low⟩
          · have h21 : (r2 != 0) = true := by rw [bne_iff_ne]; exact hr
            have h22 : (r2 == 0) = false := by rw [beq_eq_false_iff_ne]; exact hr
            go_wp2_with (fail)
            go_ret
            exact ⟨rfl, H6.out.low⟩
        · go_enter Try.func4, Try.ntmps4
          go_wp2_with (fail)
          refine (shown_any w).mono ?_
          rintro e w1 ⟨rfl, h1⟩
          have H1 := Lib.hid h1; clear h1
          go_wp2_with (fail)
          refine (small_any w1 p cap L (H.out.bel H1.out) hLL.out).mono ?_
          rintro e w2 ⟨rfl, h2⟩
          rw [HS.out]
          have H2 := Lib.hid (H1.out.trans h2.bel); clear h2
          go_wp2_with (fail)
          go_ret
          exact ⟨rfl, H2.out⟩
      · go_enter Try.func4, Try.ntmps4
        go_wp2_with (fail)
        refine (shown_any w).mono ?_
        rintro e w1 ⟨rfl, h1⟩
        have H1 := Lib.hid h1; clear h1
        go_wp2_with (fail)
        refine (small_any w1 p cap L (H.out.bel H1.out) hLL.out).mono ?_
        rintro e w2 ⟨rfl, h2⟩
        rw [HS.out]
        have H2 := Lib.hid (H1.out.trans h2.bel); clear h2
        go_wp2_with (fail)
        go_ret
        exact ⟨rfl, H2.out⟩
    · go_enter Try.func4, Try.ntmps4
      go_wp2_with (fail)
      refine (shown_any w).mono ?_
      rintro e w1 ⟨rfl, h1⟩
      have H1 := Lib.hid h1; clear h1
      go_wp2_with (fail)
      refine (small_any w1 p cap L (H.out.bel H1.out) hLL.out).mono ?_
      rintro e w2 ⟨rfl, h2⟩
      rw [HS.out]
      have H2 := Lib.hid (H1.out.trans h2.bel); clear h2
      go_wp2_with (fail)
      go_ret
      exact ⟨rfl, H2.out⟩
  · go_enter Try.func4, Try.ntmps4
    go_wp2_with (fail)
    refine (shown_any w).mono ?_
    rintro e w1 ⟨rfl, h1⟩
    have H1 := Lib.hid h1; clear h1
    go_wp2_with (fail)
    refine (small_any w1 p cap L (H.out.bel H1.out) hLL.out).mono ?_
    rintro e w2 ⟨rfl, h2⟩
    rw [HS.out]
    have H2 := Lib.hid (H1.out.trans h2.bel); clear h2
    go_wp2_with (fail)
    go_ret
    exact ⟨rfl, H2.out⟩
end Go.Proofs.Ythnhdiebkkfmgaa
