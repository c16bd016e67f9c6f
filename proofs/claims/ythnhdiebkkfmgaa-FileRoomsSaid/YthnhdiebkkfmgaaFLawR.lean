/- moultlaw6.FileRooms. -/
import Derived.Test.YthnhdiebkkfmgaaFLawM
set_option linter.unusedSimpArgs false
set_option linter.unusedVariables false
namespace Go.Proofs.Ythnhdiebkkfmgaa
open Go.RowKit Go.Deep Go.Maps

theorem three_ok (n : Int) (hn : in64 n) {B : Nat} {z : World} (h0 : z.cell? ⟨B, 0, none⟩ = some (.int .i64 n)) (h1 : z.cell? ⟨B, 1, none⟩ = some (.int .i64 n)) (h2 : z.cell? ⟨B, 2, none⟩ = some (.int .i64 n)) : SI.ok z ⟨some ⟨B, 0, none⟩, 3, [n, n, n]⟩ := by
  refine ⟨fun i hi => ?_, by simp [maxLen], fun m hm => by simp at hm; subst hm; exact hn⟩
  have hi3 : i < 3 := hi
  refine ⟨_, rfl, ?_⟩
  match i, hi3 with
  | 0, _ => exact h0
  | 1, _ => exact h1
  | 2, _ => exact h2
def RmRel (w₀ : World) (b : Nat) (M : RS) (v : Value) (z : World) (i sum : Value) (x : World) : Prop := ∃ k : Nat, i = .int .i64 k ∧ k ≤ M.L.length ∧ sum = .int .i64 (bytesN (M.L.take k) : Nat) ∧ St w₀ x b M ∧ Bel z x
set_option maxHeartbeats 4000000 in
theorem law_rooms_any (w : World) (room : Int) (p : Option Addr) (cap : Nat) (L : List AV) (h : ActsAt w p L) (hr : in64 room) (hL : L.length ≤ maxLen) :
    Calls Try.prog 6 #[.int .i64 room, .slice p L.length cap] w fun e w' => e = .returned (.bool true) ∧ Bel w w' := by
  have H := Lib.hid h; clear h
  cases hs : smallB L with
  | false =>
    have HS := Lib.hid hs; clear hs
    go_enter Try.func6, Try.ntmps6
    go_wp2_with (fail)
    refine (shown_any w).mono ?_
    rintro e w1 ⟨rfl, h1⟩
    have H1 := Lib.hid h1; clear h1
    go_wp2_with (fail)
    refine (small_any w1 p cap L (H.out.bel H1.out) hL).mono ?_
    rintro e w2 ⟨rfl, h2⟩
    rw [HS.out]
    have H2 := Lib.hid (H1.out.trans h2.bel); clear h2
    go_wp2_with (fail)
    go_ret
    exact ⟨rfl, H2.out⟩
  | true =>
    have HS := Lib.hid hs; clear hs
    have hlt := pickN_lt room (n := 3000) (by omega)
    go_enter Try.func6, Try.ntmps6
    go_wp2_with (fail)
    refine (shown_any w).mono ?_
    rintro e w1 ⟨rfl, h1⟩
    have H1 := Lib.hid h1; clear h1
    go_wp2_with (fail)
    refine (small_any w1 p cap L (H.out.bel H1.out) hL).mono ?_
    rintro e w2 ⟨rfl, h2⟩
    rw [HS.out]
    have H2 := Lib.hid (H1.out.trans h2.bel); clear h2
    go_wp2_with (fail)
    refine (pick_at room 3000 3000 w2 hr (by omega) (by omega) rfl).mono ?_
    rintro e w2' ⟨rfl, rfl⟩
    obtain ⟨n, hn⟩ : ∃ n, n = pickN room 3000 := ⟨_, rfl⟩
    rw [← hn] at hlt ⊢
    clear hn
    go_wp2_with (fail)
    refine (made_any w w2' H2.out (n : Int) p cap L H.out (by omega) HS.out).mono ?_
    rintro e w3 ⟨b, rfl, h3⟩
    have HRM := Lib.hid (made_room (n : Int) L)
    obtain ⟨M0, hM0⟩ : ∃ M0, M0 = madeS n L := ⟨_, rfl⟩
    rw [← hM0] at h3 HRM
    have H3 := Lib.hid h3; clear h3 hM0
    go_wp2_with (fail)
    refine (st_crash H3.out ((Bel.refl w3).alloc _) ⟨some ⟨w3.heap.size, 0, none⟩, 3, [1152921504606846976, 1152921504606846976, 1152921504606846976]⟩ nilI (three_ok _ ⟨by decide, by decide⟩ (by go_simp) (by go_simp) (by go_simp)) (nilI_ok _) (fun a ha _ => by simp at ha; subst ha; exact Or.inr (Nat.le_refl _)) (fun a ha => by cases ha)).mono ?_
    rintro e w4 ⟨⟨u4, rfl⟩, h4⟩
    obtain ⟨M, hM⟩ : ∃ M, M = crashS [1152921504606846976, 1152921504606846976, 1152921504606846976] nilI.L M0 := ⟨_, rfl⟩
    have HRM2 := Lib.hid (show M.room = (n : Int) by rw [hM]; exact HRM.out)
    have HG := Lib.hid (show M.gone = false by rw [hM]; rfl)
    rw [← hM] at h4
    have H4 := Lib.hid h4
    clear h4 hM
    go_wp2_with (fail)
    refine (st_names H4.out).mono ?_
    rintro e w5 ⟨v, rfl, hnm, h5, hb5⟩
    have HNM := Lib.hid hnm
    obtain ⟨np, ncap, hnv⟩ := ownG_len hnm
    rw [List.length_map] at hnv
    subst hnv
    have H5 := Lib.hid h5
    have hMl := good_len H4.out.good
    have hMb := good_bytes H4.out.good
    have h60 := H4.out.good.len
    have hfit := H4.out.good.fits
    rw [HRM2.out] at hfit
    clear hnm h5 hb5
    go_wp2_with (fail)
    go_loopw [11, 12] (fun sum i x => RmRel w b M (.slice np M.L.length ncap) w5 i sum x) (fun _ i _ => M.L.length - (intOf i).toNat)
    case atStart => exact ⟨0, rfl, Nat.zero_le _, rfl, H5.out, Bel.refl _⟩
    case round =>
      obtain ⟨k, rfl, hk, rfl, hst, hbel⟩ := hrel
      have HT := Lib.hid hst
      have HB := Lib.hid hbel
      clear hst hbel
      by_cases hlt' : k < M.L.length
      · have hne : M.L.map (·.name) ≠ [] := by intro e; rw [List.map_eq_nil_iff] at e; rw [e] at hlt'; simp at hlt'
        obtain ⟨g, ncap', hv, _, hgl, _, hcs⟩ := ownG_cells strOk (HNM.out.bel HB.out) hne
        rw [List.length_map] at hv
        simp only [Value.slice.injEq, true_and] at hv
        obtain ⟨rfl, rfl⟩ := hv
        obtain ⟨y, hy⟩ : ∃ y, y = M.L[k] := ⟨_, rfl⟩
        have d0 := hcs k M.L[k].name (by rw [List.getElem?_map, List.getElem?_eq_getElem hlt']; rfl) 0 _ rfl
        rw [← hy] at d0
        simp only [strEl, Nat.mul_one, Nat.add_zero] at d0
        have hym : y ∈ M.L := by rw [hy]; exact List.getElem_mem hlt'
        have hgy := getF_of_mem H4.out.good.srt hym
        have hyn := name_len (H4.out.good.each y hym).1
        have hnmL : (⟨y.name.toArray⟩ : ByteArray).data.toList = y.name := by simp
        have hsz : (⟨y.name.toArray⟩ : ByteArray).size ≤ maxLen := by show y.name.toArray.size ≤ _; rw [List.size_toArray]; unfold maxLen; omega
        have HGS := Lib.hid (show getS (⟨y.name.toArray⟩ : ByteArray).data.toList M = (y.bytes, 0) by rw [hnmL]; unfold getS; rw [HG.out, hgy]; rfl)
        have HC := Lib.hid (fun (x : World) (hx : St w x b M) => st_get hx ⟨y.name.toArray⟩ hsz)
        have HSM := Lib.hid (bytes_take M.L k hlt')
        rw [← hy] at HSM
        have hle := bytes_le M.L (k + 1)
        rw [HSM.out] at hle
        have hys : (⟨y.bytes.toArray⟩ : ByteArray).size = y.bytes.length := by show y.bytes.toArray.size = _; simp
        generalize bytesN (M.L.take k) = zz at *
        by_cases hk0 : k = 0
        · clear hy hym hgy hyn hnmL hsz hcs hne
          subst hk0
          go_wp2_with (fail)
          refine (HC.out _ HT.out).mono ?_
          rintro e w6 ⟨rfl, h6, hb6⟩
          rw [HGS.out]
          have H6 := Lib.hid h6
          have HB6 := Lib.hid (HB.out.trans hb6)
          have d0' := cell_later hb6 d0
          clear h6 hb6
          go_wp2_with (fail)
          refine wp_region_held_drew (S := fun z => True) (by kernel_rfl) trivial (fun hHeld => ?_)
          refine wpAnyH_take (i := 0) (oi := { dst := some 55, op := Op.move (Operand.tmp 14), type := 26, pos := "law.go:235", after := #[], guard := none }) (v := ?_) rfl (by kernel_rfl) (by kernel_rfl) (by kernel_rfl) (fun _ _ _ h => h) (Or.inl ⟨by rfl, ?_⟩) (by assumption) ?_
          rotate_left
          · (intro w hSw; (try dsimp only at hSw); first | (go_simp; done) | (go_simp; with_reducible rfl))
          try simp only [Act.put, List.setIfInBounds_toArray, List.set_cons_zero, List.set_cons_succ]
          refine wpAnyH_take (i := 1) (oi := { dst := some 56, op := Op.binOp BinOp.neq 26 (Operand.tmp 55) (Operand.const (Value.int IntKind.i64 0)) 26, type := 4, pos := "law.go:235", after := #[{ on := 0, ground := Ground.data }], guard := none }) (v := ?_) rfl (by kernel_rfl) (by kernel_rfl) (by kernel_rfl) (fun _ _ _ h => h) (Or.inl ⟨by rfl, ?_⟩) (by assumption) ?_
          rotate_left
          · (intro w hSw; (try dsimp only at hSw); first | (go_simp; done) | (go_simp; with_reducible rfl))
          try simp only [Act.put, List.setIfInBounds_toArray, List.set_cons_zero, List.set_cons_succ]
          refine wpAnyH_take (i := 2) (oi := { dst := some 57, op := Op.move (Operand.tmp 56), type := 4, pos := "law.go:235", after := #[{ on := 1, ground := Ground.data }], guard := none }) (v := ?_) rfl (by kernel_rfl) (by kernel_rfl) (by kernel_rfl) (fun _ _ _ h => h) (Or.inl ⟨by rfl, ?_⟩) (by assumption) ?_
          rotate_left
          · (intro w hSw; (try dsimp only at hSw); first | (go_simp; done) | (go_simp; with_reducible rfl))
          try simp only [Act.put, List.setIfInBounds_toArray, List.set_cons_zero, List.set_cons_succ]
          refine wpAnyH_take (i := 3) (oi := { dst := some 58, op := Op.move (Operand.tmp 12), type := 3, pos := "law.go:235", after := #[{ on := 2, ground := Ground.guard }], guard := some (2, false) }) (v := ?_) rfl (by kernel_rfl) (by kernel_rfl) (by kernel_rfl) (fun _ _ _ h => h) (Or.inl ⟨by rfl, ?_⟩) (by assumption) ?_
          rotate_left
          · (intro w hSw; (try dsimp only at hSw); first | (go_simp; done) | (go_simp; with_reducible rfl))
          try simp only [Act.put, List.setIfInBounds_toArray, List.set_cons_zero, List.set_cons_succ]
          refine wpAnyH_take (i := 4) (oi := { dst := some 59, op := Op.binOp BinOp.gtr 3 (Operand.tmp 58) (Operand.const (Value.int IntKind.i64 0)) 3, type := 4, pos := "law.go:235", after := #[{ on := 3, ground := Ground.data }, { on := 2, ground := Ground.guard }], guard := some (2, false) }) (v := ?_) rfl (by kernel_rfl) (by kernel_rfl) (by kernel_rfl) (fun _ _ _ h => h) (Or.inl ⟨by rfl, ?_⟩) (by assumption) ?_
          rotate_left
          · (intro w hSw; (try dsimp only at hSw); first | (go_simp; done) | (go_simp; with_reducible rfl))
          try simp only [Act.put, List.setIfInBounds_toArray, List.set_cons_zero, List.set_cons_succ]
          refine wpAnyH_take (i := 5) (oi := { dst := some 60, op := Op.move (Operand.tmp 59), type := 4, pos := "law.go:235", after := #[{ on := 4, ground := Ground.data }, { on := 2, ground := Ground.chain }, { on := 2, ground := Ground.guard }], guard := some (2, false) }) (v := ?_) rfl (by kernel_rfl) (by kernel_rfl) (by kernel_rfl) (fun _ _ _ h => h) (Or.inl ⟨by rfl, ?_⟩) (by assumption) ?_
          rotate_left
          · (intro w hSw; (try dsimp only at hSw); first | (go_simp; done) | (go_simp; with_reducible rfl))
          try simp only [Act.put, List.setIfInBounds_toArray, List.set_cons_zero, List.set_cons_succ]
          refine wpAnyH_take (i := 6) (oi := { dst := some 61, op := Op.move (Operand.tmp 10), type := 52, pos := "law.go:235", after := #[{ on := 5, ground := Ground.guard }], guard := some (5, true) }) (v := undef) rfl (by kernel_rfl) (by kernel_rfl) (by kernel_rfl) (fun _ _ _ h => h) (Or.inr ⟨by rfl, rfl⟩) (by assumption) ?_
          try simp only [Act.put, List.setIfInBounds_toArray, List.set_cons_zero, List.set_cons_succ]
          refine wpAnyH_take (i := 7) (oi := { dst := some 62, op := Op.move (Operand.tmp 12), type := 3, pos := "law.go:235", after := #[{ on := 5, ground := Ground.guard }], guard := some (5, true) }) (v := undef) rfl (by kernel_rfl) (by kernel_rfl) (by kernel_rfl) (fun _ _ _ h => h) (Or.inr ⟨by rfl, rfl⟩) (by assumption) ?_
          try simp only [Act.put, List.setIfInBounds_toArray, List.set_cons_zero, List.set_cons_succ]
          refine wpAnyH_take (i := 8) (oi := { dst := some 63, op := Op.indexAddr 52 (Operand.tmp 61) (Operand.tmp 62), type := 0, pos := "law.go:235", after := #[{ on := 6, ground := Ground.data }, { on := 7, ground := Ground.data }, { on := 5, ground := Ground.guard }], guard := some (5, true) }) (v := undef) rfl (by kernel_rfl) (by kernel_rfl) (by kernel_rfl) (fun _ _ _ h => h) (Or.inr ⟨by rfl, rfl⟩) (by assumption) ?_
          try simp only [Act.put, List.setIfInBounds_toArray, List.set_cons_zero, List.set_cons_succ]
          refine wpAnyH_take (i := 9) (oi := { dst := some 64, op := Op.load 9 (Operand.tmp 63), type := 9, pos := "law.go:235", after := #[{ on := 8, ground := Ground.data }, { on := 5, ground := Ground.guard }], guard := some (5, true) }) (v := undef) rfl (by kernel_rfl) (by kernel_rfl) (by kernel_rfl) (fun _ _ _ h => h) (Or.inr ⟨by rfl, rfl⟩) (by assumption) ?_
          try simp only [Act.put, List.setIfInBounds_toArray, List.set_cons_zero, List.set_cons_succ]
          refine wpAnyH_take (i := 10) (oi := { dst := some 65, op := Op.move (Operand.tmp 10), type := 52, pos := "law.go:235", after := #[{ on := 5, ground := Ground.guard }], guard := some (5, true) }) (v := undef) rfl (by kernel_rfl) (by kernel_rfl) (by kernel_rfl) (fun _ _ _ h => h) (Or.inr ⟨by rfl, rfl⟩) (by assumption) ?_
          try simp only [Act.put, List.setIfInBounds_toArray, List.set_cons_zero, List.set_cons_succ]
          refine wpAnyH_take (i := 11) (oi := { dst := some 66, op := Op.move (Operand.tmp 12), type := 3, pos := "law.go:235", after := #[{ on := 5, ground := Ground.guard }], guard := some (5, true) }) (v := undef) rfl (by kernel_rfl) (by kernel_rfl) (by kernel_rfl) (fun _ _ _ h => h) (Or.inr ⟨by rfl, rfl⟩) (by assumption) ?_
          try simp only [Act.put, List.setIfInBounds_toArray, List.set_cons_zero, List.set_cons_succ]
          refine wpAnyH_take (i := 12) (oi := { dst := some 67, op := Op.binOp BinOp.sub 3 (Operand.tmp 66) (Operand.const (Value.int IntKind.i64 1)) 3, type := 3, pos := "law.go:235", after := #[{ on := 11, ground := Ground.data }, { on := 5, ground := Ground.guard }], guard := some (5, true) }) (v := undef) rfl (by kernel_rfl) (by kernel_rfl) (by kernel_rfl) (fun _ _ _ h => h) (Or.inr ⟨by rfl, rfl⟩) (by assumption) ?_
          try simp only [Act.put, List.setIfInBounds_toArray, List.set_cons_zero, List.set_cons_succ]
          refine wpAnyH_take (i := 13) (oi := { dst := some 68, op := Op.indexAddr 52 (Operand.tmp 65) (Operand.tmp 67), type := 0, pos := "law.go:235", after := #[{ on := 10, ground := Ground.data }, { on := 12, ground := Ground.data }, { on := 5, ground := Ground.guard }], guard := some (5, true) }) (v := undef) rfl (by kernel_rfl) (by kernel_rfl) (by kernel_rfl) (fun _ _ _ h => h) (Or.inr ⟨by rfl, rfl⟩) (by assumption) ?_
          try simp only [Act.put, List.setIfInBounds_toArray, List.set_cons_zero, List.set_cons_succ]
          refine wpAnyH_take (i := 14) (oi := { dst := some 69, op := Op.load 9 (Operand.tmp 68), type := 9, pos := "law.go:235", after := #[{ on := 13, ground := Ground.data }, { on := 5, ground := Ground.guard }], guard := some (5, true) }) (v := undef) rfl (by kernel_rfl) (by kernel_rfl) (by kernel_rfl) (fun _ _ _ h => h) (Or.inr ⟨by rfl, rfl⟩) (by assumption) ?_
          try simp only [Act.put, List.setIfInBounds_toArray, List.set_cons_zero, List.set_cons_succ]
          refine wpAnyH_take (i := 15) (oi := { dst := some 70, op := Op.binOp BinOp.leq 9 (Operand.tmp 64) (Operand.tmp 69) 9, type := 4, pos := "law.go:235", after := #[{ on := 9, ground := Ground.data }, { on := 14, ground := Ground.data }, { on := 5, ground := Ground.guard }], guard := some (5, true) }) (v := undef) rfl (by kernel_rfl) (by kernel_rfl) (by kernel_rfl) (fun _ _ _ h => h) (Or.inr ⟨by rfl, rfl⟩) (by assumption) ?_
          try simp only [Act.put, List.setIfInBounds_toArray, List.set_cons_zero, List.set_cons_succ]
          refine wpAnyH_take (i := 16) (oi := { dst := some 71, op := Op.pick (Operand.tmp 60) (Operand.tmp 70) (Operand.const (Value.bool false)), type := 4, pos := "law.go:235", after := #[{ on := 5, ground := Ground.data }, { on := 15, ground := Ground.data }, { on := 2, ground := Ground.guard }], guard := some (2, false) }) (v := ?_) rfl (by kernel_rfl) (by kernel_rfl) (by kernel_rfl) (fun _ _ _ h => h) (Or.inl ⟨by rfl, ?_⟩) (by assumption) ?_
          rotate_left
          · (intro w hSw; (try dsimp only at hSw); first | (go_simp; done) | (go_simp; with_reducible rfl))
          try simp only [Act.put, List.setIfInBounds_toArray, List.set_cons_zero, List.set_cons_succ]
          refine wpAnyH_take (i := 17) (oi := { dst := some 72, op := Op.pick (Operand.tmp 57) (Operand.const (Value.bool true)) (Operand.tmp 71), type := 4, pos := "law.go:235", after := #[{ on := 2, ground := Ground.data }, { on := 16, ground := Ground.data }], guard := none }) (v := ?_) rfl (by kernel_rfl) (by kernel_rfl) (by kernel_rfl) (fun _ _ _ h => h) (Or.inl ⟨by rfl, ?_⟩) (by assumption) ?_
          rotate_left
          · (intro w hSw; (try dsimp only at hSw); first | (go_simp; done) | (go_simp; with_reducible rfl))
          try simp only [Act.put, List.setIfInBounds_toArray, List.set_cons_zero, List.set_cons_succ]
          refine wpAnyH_done (by kernel_rfl) ?_ _
          go_wp2_with (fail)
          go_roundw
          case rel => exact ⟨0 + 1, by go_num, by omega, by rw [HSM.out]; go_num, H6.out.bel (Bel.refl w6).drew, HB6.out.drew⟩
          case measure => simp [intOf]; omega
        · obtain ⟨j, hj⟩ : ∃ j, k = j + 1 := ⟨k - 1, by omega⟩
          have hjl : j < M.L.length := by omega
          obtain ⟨y', hy'⟩ : ∃ y', y' = M.L[j] := ⟨_, rfl⟩
          have d1 := hcs j M.L[j].name (by rw [List.getElem?_map, List.getElem?_eq_getElem hjl]; rfl) 0 _ rfl
          rw [← hy'] at d1
          simp only [strEl, Nat.mul_one, Nat.add_zero] at d1
          have hless : Op.bytesLess y'.name y.name = true := by
            rw [hy', hy]
            exact List.pairwise_iff_getElem.1 H4.out.good.srt j k hjl hlt' (by omega)
          have q1 : Op.bytesLess y.name y'.name = false := by
            cases hq : Op.bytesLess y.name y'.name with
            | false => rfl
            | true => have := bl_trans hq hless; rw [bl_irrefl] at this; cases this
          have q2 : (y.name == y'.name) = false := by rw [beq_eq_false_iff_ne]; exact fun e => bl_ne hless e.symm
          have hk1 : (k : Int) - 1 = (j : Int) := by omega
          have hk0' : 0 < (k : Int) := by omega
          have hkn : 0 < k := by omega
          have hwj : IntKind.i64.wrap (j : Int) = (j : Int) := wrap_in (by omega) (by omega)
          clear hy hy' hym hgy hyn hnmL hsz hcs hne hk0 hless hj
          go_wp2_with (fail)
          refine (HC.out _ HT.out).mono ?_
          rintro e w6 ⟨rfl, h6, hb6⟩
          rw [HGS.out]
          have H6 := Lib.hid h6
          have HB6 := Lib.hid (HB.out.trans hb6)
          have d0' := cell_later hb6 d0
          have d1' := cell_later hb6 d1
          clear h6 hb6
          go_wp2_with (fail)
          refine wp_region_held_drew (S := fun z => z.cell? ⟨g, k, none⟩ = some (.string ⟨y.name.toArray⟩) ∧ z.cell? ⟨g, j, none⟩ = some (.string ⟨y'.name.toArray⟩)) (by kernel_rfl) ⟨d0', d1'⟩ (fun hHeld => ?_)
          refine wpAnyH_take (i := 0) (oi := { dst := some 55, op := Op.move (Operand.tmp 14), type := 26, pos := "law.go:235", after := #[], guard := none }) (v := ?_) rfl (by kernel_rfl) (by kernel_rfl) (by kernel_rfl) (fun _ _ _ h => h) (Or.inl ⟨by rfl, ?_⟩) (by assumption) ?_
          rotate_left
          · (intro w hSw; (try dsimp only at hSw); first | (go_simp; done) | (go_simp; with_reducible rfl))
          try simp only [Act.put, List.setIfInBounds_toArray, List.set_cons_zero, List.set_cons_succ]
          refine wpAnyH_take (i := 1) (oi := { dst := some 56, op := Op.binOp BinOp.neq 26 (Operand.tmp 55) (Operand.const (Value.int IntKind.i64 0)) 26, type := 4, pos := "law.go:235", after := #[{ on := 0, ground := Ground.data }], guard := none }) (v := ?_) rfl (by kernel_rfl) (by kernel_rfl) (by kernel_rfl) (fun _ _ _ h => h) (Or.inl ⟨by rfl, ?_⟩) (by assumption) ?_
          rotate_left
          · (intro w hSw; (try dsimp only at hSw); first | (go_simp; done) | (go_simp; with_reducible rfl))
          try simp only [Act.put, List.setIfInBounds_toArray, List.set_cons_zero, List.set_cons_succ]
          refine wpAnyH_take (i := 2) (oi := { dst := some 57, op := Op.move (Operand.tmp 56), type := 4, pos := "law.go:235", after := #[{ on := 1, ground := Ground.data }], guard := none }) (v := ?_) rfl (by kernel_rfl) (by kernel_rfl) (by kernel_rfl) (fun _ _ _ h => h) (Or.inl ⟨by rfl, ?_⟩) (by assumption) ?_
          rotate_left
          · (intro w hSw; (try dsimp only at hSw); first | (go_simp; done) | (go_simp; with_reducible rfl))
          try simp only [Act.put, List.setIfInBounds_toArray, List.set_cons_zero, List.set_cons_succ]
          refine wpAnyH_take (i := 3) (oi := { dst := some 58, op := Op.move (Operand.tmp 12), type := 3, pos := "law.go:235", after := #[{ on := 2, ground := Ground.guard }], guard := some (2, false) }) (v := ?_) rfl (by kernel_rfl) (by kernel_rfl) (by kernel_rfl) (fun _ _ _ h => h) (Or.inl ⟨by rfl, ?_⟩) (by assumption) ?_
          rotate_left
          · (intro w hSw; (try dsimp only at hSw); first | (go_simp; done) | (go_simp; with_reducible rfl))
          try simp only [Act.put, List.setIfInBounds_toArray, List.set_cons_zero, List.set_cons_succ]
          refine wpAnyH_take (i := 4) (oi := { dst := some 59, op := Op.binOp BinOp.gtr 3 (Operand.tmp 58) (Operand.const (Value.int IntKind.i64 0)) 3, type := 4, pos := "law.go:235", after := #[{ on := 3, ground := Ground.data }, { on := 2, ground := Ground.guard }], guard := some (2, false) }) (v := ?_) rfl (by kernel_rfl) (by kernel_rfl) (by kernel_rfl) (fun _ _ _ h => h) (Or.inl ⟨by rfl, ?_⟩) (by assumption) ?_
          rotate_left
          · (intro w hSw; (try dsimp only at hSw); first | (go_simp; done) | (go_simp; with_reducible rfl))
          try simp only [Act.put, List.setIfInBounds_toArray, List.set_cons_zero, List.set_cons_succ]
          refine wpAnyH_take (i := 5) (oi := { dst := some 60, op := Op.move (Operand.tmp 59), type := 4, pos := "law.go:235", after := #[{ on := 4, ground := Ground.data }, { on := 2, ground := Ground.chain }, { on := 2, ground := Ground.guard }], guard := some (2, false) }) (v := ?_) rfl (by kernel_rfl) (by kernel_rfl) (by kernel_rfl) (fun _ _ _ h => h) (Or.inl ⟨by rfl, ?_⟩) (by assumption) ?_
          rotate_left
          · (intro w hSw; (try dsimp only at hSw); first | (go_simp; done) | (go_simp; with_reducible rfl))
          try simp only [Act.put, List.setIfInBounds_toArray, List.set_cons_zero, List.set_cons_succ]
          refine wpAnyH_take (i := 6) (oi := { dst := some 61, op := Op.move (Operand.tmp 10), type := 52, pos := "law.go:235", after := #[{ on := 5, ground := Ground.guard }], guard := some (5, true) }) (v := ?_) rfl (by kernel_rfl) (by kernel_rfl) (by kernel_rfl) (fun _ _ _ h => h) (Or.inl ⟨by rfl, ?_⟩) (by assumption) ?_
          rotate_left
          · (intro w hSw; (try dsimp only at hSw); first | (go_simp; done) | (go_simp; with_reducible rfl))
          try simp only [Act.put, List.setIfInBounds_toArray, List.set_cons_zero, List.set_cons_succ]
          refine wpAnyH_take (i := 7) (oi := { dst := some 62, op := Op.move (Operand.tmp 12), type := 3, pos := "law.go:235", after := #[{ on := 5, ground := Ground.guard }], guard := some (5, true) }) (v := ?_) rfl (by kernel_rfl) (by kernel_rfl) (by kernel_rfl) (fun _ _ _ h => h) (Or.inl ⟨by rfl, ?_⟩) (by assumption) ?_
          rotate_left
          · (intro w hSw; (try dsimp only at hSw); first | (go_simp; done) | (go_simp; with_reducible rfl))
          try simp only [Act.put, List.setIfInBounds_toArray, List.set_cons_zero, List.set_cons_succ]
          refine wpAnyH_take (i := 8) (oi := { dst := some 63, op := Op.indexAddr 52 (Operand.tmp 61) (Operand.tmp 62), type := 0, pos := "law.go:235", after := #[{ on := 6, ground := Ground.data }, { on := 7, ground := Ground.data }, { on := 5, ground := Ground.guard }], guard := some (5, true) }) (v := ?_) rfl (by kernel_rfl) (by kernel_rfl) (by kernel_rfl) (fun _ _ _ h => h) (Or.inl ⟨by rfl, ?_⟩) (by assumption) ?_
          rotate_left
          · (intro w hSw; (try dsimp only at hSw); first | (go_simp; done) | (go_simp; with_reducible rfl))
          try simp only [Act.put, List.setIfInBounds_toArray, List.set_cons_zero, List.set_cons_succ]
          refine wpAnyH_take (i := 9) (oi := { dst := some 64, op := Op.load 9 (Operand.tmp 63), type := 9, pos := "law.go:235", after := #[{ on := 8, ground := Ground.data }, { on := 5, ground := Ground.guard }], guard := some (5, true) }) (v := ?_) rfl (by kernel_rfl) (by kernel_rfl) (by kernel_rfl) (fun _ _ _ h => h) (Or.inl ⟨by rfl, ?_⟩) (by assumption) ?_
          rotate_left
          · (intro w hSw; (try dsimp only at hSw); first | (go_simp; done) | (go_simp; with_reducible rfl))
          try simp only [Act.put, List.setIfInBounds_toArray, List.set_cons_zero, List.set_cons_succ]
          refine wpAnyH_take (i := 10) (oi := { dst := some 65, op := Op.move (Operand.tmp 10), type := 52, pos := "law.go:235", after := #[{ on := 5, ground := Ground.guard }], guard := some (5, true) }) (v := ?_) rfl (by kernel_rfl) (by kernel_rfl) (by kernel_rfl) (fun _ _ _ h => h) (Or.inl ⟨by rfl, ?_⟩) (by assumption) ?_
          rotate_left
          · (intro w hSw; (try dsimp only at hSw); first | (go_simp; done) | (go_simp; with_reducible rfl))
          try simp only [Act.put, List.setIfInBounds_toArray, List.set_cons_zero, List.set_cons_succ]
          refine wpAnyH_take (i := 11) (oi := { dst := some 66, op := Op.move (Operand.tmp 12), type := 3, pos := "law.go:235", after := #[{ on := 5, ground := Ground.guard }], guard := some (5, true) }) (v := ?_) rfl (by kernel_rfl) (by kernel_rfl) (by kernel_rfl) (fun _ _ _ h => h) (Or.inl ⟨by rfl, ?_⟩) (by assumption) ?_
          rotate_left
          · (intro w hSw; (try dsimp only at hSw); first | (go_simp; done) | (go_simp; with_reducible rfl))
          try simp only [Act.put, List.setIfInBounds_toArray, List.set_cons_zero, List.set_cons_succ]
          refine wpAnyH_take (i := 12) (oi := { dst := some 67, op := Op.binOp BinOp.sub 3 (Operand.tmp 66) (Operand.const (Value.int IntKind.i64 1)) 3, type := 3, pos := "law.go:235", after := #[{ on := 11, ground := Ground.data }, { on := 5, ground := Ground.guard }], guard := some (5, true) }) (v := ?_) rfl (by kernel_rfl) (by kernel_rfl) (by kernel_rfl) (fun _ _ _ h => h) (Or.inl ⟨by rfl, ?_⟩) (by assumption) ?_
          rotate_left
          · (intro w hSw; (try dsimp only at hSw); first | (go_simp; done) | (go_simp; with_reducible rfl))
          try simp only [Act.put, List.setIfInBounds_toArray, List.set_cons_zero, List.set_cons_succ]
          refine wpAnyH_take (i := 13) (oi := { dst := some 68, op := Op.indexAddr 52 (Operand.tmp 65) (Operand.tmp 67), type := 0, pos := "law.go:235", after := #[{ on := 10, ground := Ground.data }, { on := 12, ground := Ground.data }, { on := 5, ground := Ground.guard }], guard := some (5, true) }) (v := ?_) rfl (by kernel_rfl) (by kernel_rfl) (by kernel_rfl) (fun _ _ _ h => h) (Or.inl ⟨by rfl, ?_⟩) (by assumption) ?_
          rotate_left
          · (intro w hSw; (try dsimp only at hSw); first | (go_simp; done) | (go_simp; with_reducible rfl))
          try simp only [Act.put, List.setIfInBounds_toArray, List.set_cons_zero, List.set_cons_succ]
          refine wpAnyH_take (i := 14) (oi := { dst := some 69, op := Op.load 9 (Operand.tmp 68), type := 9, pos := "law.go:235", after := #[{ on := 13, ground := Ground.data }, { on := 5, ground := Ground.guard }], guard := some (5, true) }) (v := ?_) rfl (by kernel_rfl) (by kernel_rfl) (by kernel_rfl) (fun _ _ _ h => h) (Or.inl ⟨by rfl, ?_⟩) (by assumption) ?_
          rotate_left
          · (intro w hSw; (try dsimp only at hSw); first | (go_simp; done) | (go_simp; with_reducible rfl))
          try simp only [Act.put, List.setIfInBounds_toArray, List.set_cons_zero, List.set_cons_succ]
          refine wpAnyH_take (i := 15) (oi := { dst := some 70, op := Op.binOp BinOp.leq 9 (Operand.tmp 64) (Operand.tmp 69) 9, type := 4, pos := "law.go:235", after := #[{ on := 9, ground := Ground.data }, { on := 14, ground := Ground.data }, { on := 5, ground := Ground.guard }], guard := some (5, true) }) (v := ?_) rfl (by kernel_rfl) (by kernel_rfl) (by kernel_rfl) (fun _ _ _ h => h) (Or.inl ⟨by rfl, ?_⟩) (by assumption) ?_
          rotate_left
          · (intro w hSw; (try dsimp only at hSw); first | (go_simp; done) | (go_simp; with_reducible rfl))
          try simp only [Act.put, List.setIfInBounds_toArray, List.set_cons_zero, List.set_cons_succ]
          refine wpAnyH_take (i := 16) (oi := { dst := some 71, op := Op.pick (Operand.tmp 60) (Operand.tmp 70) (Operand.const (Value.bool false)), type := 4, pos := "law.go:235", after := #[{ on := 5, ground := Ground.data }, { on := 15, ground := Ground.data }, { on := 2, ground := Ground.guard }], guard := some (2, false) }) (v := ?_) rfl (by kernel_rfl) (by kernel_rfl) (by kernel_rfl) (fun _ _ _ h => h) (Or.inl ⟨by rfl, ?_⟩) (by assumption) ?_
          rotate_left
          · (intro w hSw; (try dsimp only at hSw); first | (go_simp; done) | (go_simp; with_reducible rfl))
          try simp only [Act.put, List.setIfInBounds_toArray, List.set_cons_zero, List.set_cons_succ]
          refine wpAnyH_take (i := 17) (oi := { dst := some 72, op := Op.pick (Operand.tmp 57) (Operand.const (Value.bool true)) (Operand.tmp 71), type := 4, pos := "law.go:235", after := #[{ on := 2, ground := Ground.data }, { on := 16, ground := Ground.data }], guard := none }) (v := ?_) rfl (by kernel_rfl) (by kernel_rfl) (by kernel_rfl) (fun _ _ _ h => h) (Or.inl ⟨by rfl, ?_⟩) (by assumption) ?_
          rotate_left
          · (intro w hSw; (try dsimp only at hSw); first | (go_simp; done) | (go_simp; with_reducible rfl))
          try simp only [Act.put, List.setIfInBounds_toArray, List.set_cons_zero, List.set_cons_succ]
          refine wpAnyH_done (by kernel_rfl) ?_ _
          go_wp2_with (fail)
          go_roundw
          case rel => exact ⟨k + 1, by go_num, by omega, by rw [HSM.out]; go_num, H6.out.bel (Bel.refl w6).drew, HB6.out.drew⟩
          case measure => simp [intOf]; omega
      · obtain rfl : k = M.L.length := by omega
        have HTK := Lib.hid (show M.L.take M.L.length = M.L from List.take_length ..)
        rw [HTK.out]
        go_wp2_with (fail)
        refine (st_used HT.out).mono ?_
        rintro e w6 ⟨rfl, h6, hb6⟩
        have H6 := Lib.hid h6
        clear h6 hb6
        go_wp2_with (fail)
        go_ret
        exact ⟨ret_bool (by simp), H6.out.low⟩
end Go.Proofs.Ythnhdiebkkfmgaa
