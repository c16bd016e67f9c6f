/- MemoryParts. -/
import Derived.Test.YteimllgoelleeaaQ11
import Derived.Test.YteimllgoelleeaaQ2
set_option linter.unusedSimpArgs false
set_option linter.unusedVariables false
namespace Go.Proofs.Yteimllgoelleeaa
open Go.RowKit Go.Deep

theorem nil_data11 : (⟨#[]⟩ : ByteArray).data.toList = [] := rfl
theorem cat_list11 (a b : ByteArray) : (a ++ b).data.toList = a.data.toList ++ b.data.toList := by simp
theorem bet_len11 (f t : List UInt8) (M : List EB) : (betE f t M).length ≤ M.length := List.length_filter_le _ _
theorem gtr_less11 (a b : ByteArray) : (!Op.bytesLess a.toList b.toList && !a.toList == b.toList) = Op.bytesLess b.toList a.toList := by
  rcases less_tri a.toList b.toList with h | h | h
  · rw [h, less_asymm h]; rfl
  · rw [h, less_irrefl, beq_self_eq_true]; rfl
  · have hne : (a.toList == b.toList) = false := by rw [beq_eq_false_iff_ne]; intro e; rw [e, less_irrefl] at h; cases h
    rw [h, less_asymm h, hne]; rfl
theorem own_tab11 {B : Nat} {w : World} {v : Value} {L : List EB} (h : OwnG entEl B w v L) (h0 : L ≠ []) : ∃ g cap, v = .slice (some ⟨g, 0, none⟩) L.length cap ∧ EntsAt w (some ⟨g, 0, none⟩) L ∧ L.length ≤ cap ∧ ∀ j u, (entEl.all L)[j]? = some u → w.cell? ⟨g, j, none⟩ = some u := by
  obtain ⟨p, c, hv, hat⟩ := ownG_ents h
  have h1 := h
  rcases h.2 with ⟨_, hl⟩ | ⟨g, cap, cur, hv2, hg, hh, hcap, hcm, hcs, htk⟩
  · exact absurd (List.length_eq_zero_iff.1 hl) h0
  · have hv3 : v = .slice (some ⟨g, 0, none⟩) L.length cap := hv2
    rw [hv3] at hv
    simp only [Value.slice.injEq, true_and] at hv
    rw [← hv.1] at hat
    refine ⟨g, cap, hv3, hat, hcap, fun j u hj => ?_⟩
    subst hv3
    have := World.ownsRow.cells h1 rfl j u hj
    rw [add_any g j] at this
    exact this
theorem cells4y {w x : World} {g : Nat} {e : EB} (hb : Bel w x) (h : w.cell? ⟨g, 0, none⟩ = some (.string e.k) ∧ w.cell? ⟨g, 1, none⟩ = some (.int .i64 e.q) ∧ w.cell? ⟨g, 2, none⟩ = some (.bool e.d) ∧ w.cell? ⟨g, 3, none⟩ = some (.string e.v)) :
    x.cell? ⟨g, 0, none⟩ = some (.string e.k) ∧ x.cell? ⟨g, 1, none⟩ = some (.int .i64 e.q) ∧ x.cell? ⟨g, 2, none⟩ = some (.bool e.d) ∧ x.cell? ⟨g, 3, none⟩ = some (.string e.v) :=
  ⟨cl11 hb h.1, cl11 hb h.2.1, cl11 hb h.2.2.1, cl11 hb h.2.2.2⟩
set_option maxHeartbeats 4000000 in
set_option maxRecDepth 20000 in
theorem law_mparts_any {KM : MK} (W : World) (hok : KM.Ok W) (a0 : Option Addr) (cap0 : Nat) (L0 : List EB) (s1 s2 : ByteArray) (hi0 : EntsAt W a0 L0) (hl0 : L0.length ≤ maxLen) (hs0 : fitsL L0) (ws1 : s1.size ≤ 140737488355328) (ws2 : s2.size ≤ maxLen) :
    Calls Try.prog 7 #[.slice a0 L0.length cap0, .string s1, .string s2] W fun e w' => e = .returned (.bool true) ∧ Bel W w' := by
  have HM := Lib.hid hok; have HI := Lib.hid hi0; have HF := Lib.hid hs0
  clear hok hi0 hs0
  unfold maxLen at hl0 ws2
  go_enter Try.func7, Try.ntmps7
  go_wp2_with (fail)
  refine (shown11_any W HM.out).mono ?_
  rintro e w1 ⟨rfl, hb⟩
  have HB1 := Lib.hid hb; clear hb
  go_wp2_with (fail)
  refine (small11_any a0 cap0 L0 w1 (HI.out.bel HB1.out) (by omega) HF.out).mono ?_
  rintro e w2 ⟨hd, hres⟩
  have HB2 := Lib.hid (HB1.out.trans hd.bel); clear hd
  rcases hres with ⟨hsm, rfl⟩ | rfl
  · cases hgt : Op.bytesLess s2.toList s1.toList with
    | true =>
      have hg : (!Op.bytesLess s1.toList s2.toList && !s1.toList == s2.toList) = true := by rw [gtr_less11, hgt]
      clear hgt
      go_wp2_with (fail)
      go_ret
      exact ⟨rfl, HB2.out⟩
    | false =>
      have hg : (!Op.bytesLess s1.toList s2.toList && !s1.toList == s2.toList) = false := by rw [gtr_less11, hgt]
      cases hem : (s2.toList == []) with
      | true =>
        clear hgt
        go_wp2_with (fail)
        go_ret
        exact ⟨rfl, HB2.out⟩
      | false =>
        by_cases hz : s2.size ≤ 1500
        · have hz' : ¬ (1500 : Int) < s2.size := by omega
          have hl100 := hsm.1
          have HSM := Lib.hid hsm
          have hne2 : s2.data.toList ≠ [] := by rw [ByteArray.toList_eq, beq_eq_false_iff_ne] at hem; exact hem
          have HNE := Lib.hid hne2
          rw [ByteArray.toList_eq, ByteArray.toList_eq] at hgt
          have HGT := Lib.hid hgt
          clear hsm hgt hne2
          go_wp2_with (fail)
          refine (KM.new w2 (KM.okBel HM.out HB2.out)).mono ?_
          rintro e w3 ⟨b, F, rfl, hat, hn, hb⟩
          have HV := Lib.hid (MInv.start (L := L0) hat hn HB2.out hb)
          clear hat hn hb hg hem hz'
          go_wp2_with (fail)
          go_loopw [10] (fun iv x => ∃ k : Nat, k ≤ L0.length ∧ iv = .int .i64 k ∧ MInv KM W L0 b k x) (fun iv _ => L0.length - (intOf iv).toNat)
          case atStart => exact ⟨0, Nat.zero_le _, rfl, HV.out⟩
          case round =>
            obtain ⟨k, hk, rfl, hv⟩ := hrel
            have HVK := Lib.hid hv
            clear hv
            by_cases hkl : k < L0.length
            · obtain ⟨a, e0, rfl, he0, B, O, sp, ha, c0, c1, c2, c3⟩ := (HI.out.bel HVK.out.old).get hkl
              have HADD := Lib.hid (minv_add HVK.out HSM.out hkl e0 he0 (by rw [he0]; exact fits_at HF.out hkl))
              clear he0
              go_wp2_with (fail)
              refine HADD.out.mono ?_
              rintro e w4 ⟨rfl, hv⟩
              have HV4 := Lib.hid hv
              clear hv HADD
              go_wp2_with (fail)
              go_roundw
              case rel => exact ⟨k + 1, hkl, by go_num, HV4.out⟩
              case measure => simp [intOf]; omega
            · obtain rfl : k = L0.length := by omega
              obtain ⟨F, hat, hn, hb⟩ := HVK.out.full
              have HT5 := Lib.hid hat; have HB5 := Lib.hid hb
              have hH := hold_all hl100
              have HH := Lib.hid hH
              have HST := Lib.hid hH.1
              have t1 : (standingB L0).length ≤ 60 + 40 := by have := standing_len L0; omega
              obtain ⟨M, hM⟩ : ∃ M, M = standingB L0 := ⟨_, rfl⟩
              rw [← hM] at HT5 HH HST t1
              obtain ⟨w5, hw5⟩ : ∃ x, x = wr := ⟨_, rfl⟩
              rw [← hw5] at HT5 HB5 ⊢
              clear hat hn hb hH HVK hM hw5
              have HP := Lib.hid (stand_pair HST.out)
              obtain ⟨N, hN⟩ : ∃ N, N = betE s1.data.toList (s1.data.toList ++ [0]) M := ⟨_, rfl⟩
              have HG := Lib.hid (show getE s1.data.toList 1099511627776 M = N.head? by rw [hN]; exact get_head HST.out _)
              have HN := Lib.hid hN; clear hN
              obtain ⟨A, hA⟩ : ∃ A, A = betE s1.data.toList [] M := ⟨_, rfl⟩
              have HPA := Lib.hid (show betE s1.data.toList s2.data.toList M ++ betE s2.data.toList [] M = A by rw [hA]; exact bet_parts HST.out HGT.out HNE.out)
              have hAl : A.length ≤ 100 := by rw [hA]; have := bet_len11 s1.data.toList [] M; omega
              have HA := Lib.hid hA; clear hA
              have hl1 := bet_len11 s1.data.toList s2.data.toList M
              have hl2 := bet_len11 s2.data.toList [] M
              go_wp2_with (fail)
              refine (KM.between b F M s1 s2 _ (KM.bel HT5.out ((Bel.refl w5).alloc _)) HH.out).mono ?_
              rintro e w6 ⟨v6, rfl, ho, hb⟩
              have HOE := Lib.hid ((ownG_empty (E := entEl) (n := w5.heap.size) (heap_alloc_new w5 (.cells #[] 33)) (Nat.le_refl _)).bel hb)
              have HB56 := Lib.hid (((Bel.refl w5).alloc _).trans hb)
              have HS6 := Lib.hid (src_own ho)
              clear ho hb
              go_wp2_with (at_builtin; refine stop_here ?_)
              refine go_on ?_
              refine append_all entOk rfl _ _ rfl rfl HOE.out (betE s1.data.toList s2.data.toList M) rfl HS6.out (by simp only [List.length_nil]; unfold maxLen; omega) (by simp only [List.length_nil]; omega) HB56.out.size ?_
              intro v7 w7 ho7 hk7 _
              rw [List.nil_append] at ho7
              have HO7 := Lib.hid ho7
              have HB57 := Lib.hid (HB56.out.trans_below (hk7.own HB56.out.size (fun kk hkk => (HOE.out.lt kk hkk).1)))
              clear ho7 hk7
              go_wp2_with (fail)
              refine (KM.between b F M s2 ⟨#[]⟩ w7 (KM.bel HT5.out HB57.out) HH.out).mono ?_
              rintro e w8 ⟨v8, rfl, ho, hb⟩
              rw [nil_data11] at ho
              have HS8 := Lib.hid (src_own ho)
              have HO8 := Lib.hid (HO7.out.bel hb)
              have HB58 := Lib.hid (HB57.out.trans hb)
              clear ho hb
              go_wp2_with (at_builtin; refine stop_here ?_)
              refine go_on ?_
              refine append_all entOk rfl _ _ rfl rfl HO8.out (betE s2.data.toList [] M) rfl HS8.out (by unfold maxLen; omega) (by omega) HB58.out.size ?_
              intro v9 w9 ho9 hk9 _
              have HB59 := Lib.hid (HB58.out.trans_below (hk9.own HB58.out.size (fun kk hkk => (HO8.out.lt kk hkk).1)))
              rw [HPA.out] at ho9
              obtain ⟨qa, ca, rfl, hata⟩ := ownG_ents ho9
              have HAA := Lib.hid hata
              have HB9 := Lib.hid (HB5.out.trans HB59.out)
              have HT9 := Lib.hid (KM.bel HT5.out HB59.out)
              clear ho9 hk9 hata
              cases N with
              | nil =>
                go_wp2_with (fail)
                refine (MK.get_is (KM := KM) b F M s1 1099511627776 none w9 HG.out HT9.out HH.out).mono ?_
                rintro e w10 ⟨rfl, hb⟩
                unfold getM
                have HB10 := Lib.hid (hb.alloc (.cells #[.string ⟨#[]⟩, .int .i64 0, .bool false, .string ⟨#[]⟩] 33))
                clear hb
                go_wp2_with (fail)
                refine (KM.between b F M s1 _ _ (KM.bel HT9.out HB10.out) HH.out).mono ?_
                rintro e w11 ⟨v11, rfl, ho, hb⟩
                rw [cat_list11] at ho
                replace ho := (show OwnG entEl _ w11 v11 (betE s1.data.toList (s1.data.toList ++ [0]) M) from ho)
                rw [← HN.out] at ho
                obtain ⟨q11, c11, rfl, -⟩ := ownG_ents ho
                have HB11 := Lib.hid (HB10.out.trans hb)
                clear ho hb
                go_wp2_with (fail)
                refine wp_region_held_drew (S := fun z => True) (by kernel_rfl) trivial (fun hHeld => ?_)
                refine tk (oi := { dst := some 73, op := Op.move (Operand.tmp 11), type := 22, pos := "more.go:22", after := #[], guard := none }) (v := ?_) 0 rfl ?_ ?_
                rotate_left
                · (intro w hSw; (try dsimp only at hSw); first | (go_simp; done) | (go_simp; with_reducible rfl))
                try simp only [Act.put, List.setIfInBounds_toArray, List.set_cons_zero, List.set_cons_succ]
                refine tk (oi := { dst := some 74, op := Op.move (Operand.tmp 9), type := 25, pos := "more.go:22", after := #[], guard := none }) (v := ?_) 1 rfl ?_ ?_
                rotate_left
                · (intro w hSw; (try dsimp only at hSw); first | (go_simp; done) | (go_simp; with_reducible rfl))
                try simp only [Act.put, List.setIfInBounds_toArray, List.set_cons_zero, List.set_cons_succ]
                refine tk (oi := { dst := some 75, op := Op.move (Operand.tmp 1), type := 9, pos := "more.go:22", after := #[], guard := none }) (v := ?_) 2 rfl ?_ ?_
                rotate_left
                · (intro w hSw; (try dsimp only at hSw); first | (go_simp; done) | (go_simp; with_reducible rfl))
                try simp only [Act.put, List.setIfInBounds_toArray, List.set_cons_zero, List.set_cons_succ]
                refine wpAnyH_ready (rs := [3]) (by kernel_rfl) (by simp) ?_
                refine AllReadyH.cons (o := { dst := some 76, op := Op.call { callee := Callee.value (Operand.func 19), args := #[Operand.tmp 74, Operand.tmp 75, Operand.const (Value.string { data := #[] })], argTypes := #[25, 9, 9] }, type := 22, pos := "more.go:22", after := #[{ on := 1, ground := Ground.data }, { on := 2, ground := Ground.data }], guard := none }) rfl (fun K hK => ?_) AllReadyH.nil
                go_simp
                refine (KM.between b F M s1 ⟨#[]⟩ _ (KM.bel HT9.out HB11.out.drew) HH.out).mono ?_
                rintro r w13 ⟨v13, rfl, ho, hb⟩
                rw [nil_data11, ← HA.out] at ho
                obtain ⟨q13, c13, rfl, hat13⟩ := ownG_ents ho
                have HB13 := Lib.hid (HB11.out.drew.trans hb)
                have HA13 := Lib.hid hat13
                dsimp only
                refine hK.out _ _ trivial (fun hHeld => ?_)
                clear hK K hb ho hat13
                try simp only [Act.put, List.setIfInBounds_toArray, List.set_cons_zero, List.set_cons_succ]
                refine wpAnyH_ready (rs := [4]) (by kernel_rfl) (by simp) ?_
                refine AllReadyH.cons (o := { dst := some 77, op := Op.call { callee := Callee.value (Operand.func 18), args := #[Operand.tmp 73, Operand.tmp 76], argTypes := #[22, 22] }, type := 4, pos := "more.go:22", after := #[{ on := 0, ground := Ground.data }, { on := 3, ground := Ground.data }, { on := 3, ground := Ground.chain }], guard := none }) rfl (fun K hK => ?_) AllReadyH.nil
                go_simp
                refine (same11_at qa q13 _ _ ca c13 A w13 (HAA.out.bel HB13.out) HA13.out (by omega) rfl rfl).mono ?_
                rintro r w14 ⟨rfl, hd⟩
                have HB14 := Lib.hid (HB9.out.trans (HB13.out.trans hd.bel))
                dsimp only
                refine hK.out _ _ trivial (fun hHeld => ?_)
                clear hK K hd
                try simp only [Act.put, List.setIfInBounds_toArray, List.set_cons_zero, List.set_cons_succ]
                refine tk (oi := { dst := some 78, op := Op.move (Operand.tmp 77), type := 4, pos := "more.go:22", after := #[{ on := 4, ground := Ground.data }, { on := 4, ground := Ground.chain }], guard := none }) (v := ?_) 5 rfl ?_ ?_
                rotate_left
                · (intro w hSw; (try dsimp only at hSw); first | (go_simp; done) | (go_simp; with_reducible rfl))
                try simp only [Act.put, List.setIfInBounds_toArray, List.set_cons_zero, List.set_cons_succ]
                refine tk (oi := { dst := some 79, op := Op.move (Operand.tmp 13), type := 4, pos := "more.go:22", after := #[{ on := 5, ground := Ground.guard }], guard := some (5, true) }) (v := ?_) 6 rfl ?_ ?_
                rotate_left
                · (intro w hSw; (try dsimp only at hSw); first | (go_simp; done) | (go_simp; with_reducible rfl))
                try simp only [Act.put, List.setIfInBounds_toArray, List.set_cons_zero, List.set_cons_succ]
                refine tk (oi := { dst := some 80, op := Op.move (Operand.tmp 14), type := 22, pos := "more.go:22", after := #[{ on := 5, ground := Ground.guard }], guard := some (5, true) }) (v := ?_) 7 rfl ?_ ?_
                rotate_left
                · (intro w hSw; (try dsimp only at hSw); first | (go_simp; done) | (go_simp; with_reducible rfl))
                try simp only [Act.put, List.setIfInBounds_toArray, List.set_cons_zero, List.set_cons_succ]
                refine tk (oi := { dst := some 81, op := Op.call { callee := Callee.builtin Builtin.len, args := #[Operand.tmp 80], argTypes := #[22] }, type := 3, pos := "more.go:22", after := #[{ on := 7, ground := Ground.data }, { on := 5, ground := Ground.guard }], guard := some (5, true) }) (v := ?_) 8 rfl ?_ ?_
                rotate_left
                · (intro w hSw; (try dsimp only at hSw); first | (go_simp; done) | (go_simp; with_reducible rfl))
                try simp only [Act.put, List.setIfInBounds_toArray, List.set_cons_zero, List.set_cons_succ]
                refine tk (oi := { dst := some 82, op := Op.binOp BinOp.gtr 3 (Operand.tmp 81) (Operand.const (Value.int IntKind.i64 0)) 3, type := 4, pos := "more.go:22", after := #[{ on := 8, ground := Ground.data }, { on := 5, ground := Ground.guard }], guard := some (5, true) }) (v := ?_) 9 rfl ?_ ?_
                rotate_left
                · (intro w hSw; (try dsimp only at hSw); first | (go_simp; done) | (go_simp; with_reducible rfl))
                try simp only [Act.put, List.setIfInBounds_toArray, List.set_cons_zero, List.set_cons_succ]
                refine tk (oi := { dst := some 83, op := Op.binOp BinOp.eql 4 (Operand.tmp 79) (Operand.tmp 82) 4, type := 4, pos := "more.go:22", after := #[{ on := 6, ground := Ground.data }, { on := 9, ground := Ground.data }, { on := 5, ground := Ground.guard }], guard := some (5, true) }) (v := ?_) 10 rfl ?_ ?_
                rotate_left
                · (intro w hSw; (try dsimp only at hSw); first | (go_simp; done) | (go_simp; with_reducible rfl))
                try simp only [Act.put, List.setIfInBounds_toArray, List.set_cons_zero, List.set_cons_succ]
                refine tk (oi := { dst := some 84, op := Op.pick (Operand.tmp 78) (Operand.tmp 83) (Operand.const (Value.bool false)), type := 4, pos := "more.go:22", after := #[{ on := 5, ground := Ground.data }, { on := 10, ground := Ground.data }], guard := none }) (v := ?_) 11 rfl ?_ ?_
                rotate_left
                · (intro w hSw; (try dsimp only at hSw); first | (go_simp; done) | (go_simp; with_reducible rfl))
                try simp only [Act.put, List.setIfInBounds_toArray, List.set_cons_zero, List.set_cons_succ]
                refine tk (oi := { dst := some 85, op := Op.move (Operand.tmp 84), type := 4, pos := "more.go:22", after := #[{ on := 11, ground := Ground.data }, { on := 5, ground := Ground.chain }], guard := none }) (v := ?_) 12 rfl ?_ ?_
                rotate_left
                · (intro w hSw; (try dsimp only at hSw); first | (go_simp; done) | (go_simp; with_reducible rfl))
                try simp only [Act.put, List.setIfInBounds_toArray, List.set_cons_zero, List.set_cons_succ]
                refine tk (oi := { dst := some 86, op := Op.move (Operand.tmp 13), type := 4, pos := "more.go:22", after := #[{ on := 12, ground := Ground.guard }], guard := some (12, true) }) (v := ?_) 13 rfl ?_ ?_
                rotate_left
                · (intro w hSw; (try dsimp only at hSw); first | (go_simp; done) | (go_simp; with_reducible rfl))
                try simp only [Act.put, List.setIfInBounds_toArray, List.set_cons_zero, List.set_cons_succ]
                refine tk (oi := { dst := some 87, op := Op.unOp UnOp.not 4 (Operand.tmp 86), type := 4, pos := "more.go:22", after := #[{ on := 13, ground := Ground.data }, { on := 12, ground := Ground.guard }], guard := some (12, true) }) (v := ?_) 14 rfl ?_ ?_
                rotate_left
                · (intro w hSw; (try dsimp only at hSw); first | (go_simp; done) | (go_simp; with_reducible rfl))
                try simp only [Act.put, List.setIfInBounds_toArray, List.set_cons_zero, List.set_cons_succ]
                refine tk (oi := { dst := some 88, op := Op.move (Operand.tmp 87), type := 4, pos := "more.go:22", after := #[{ on := 14, ground := Ground.data }, { on := 12, ground := Ground.chain }, { on := 12, ground := Ground.guard }], guard := some (12, true) }) (v := ?_) 15 rfl ?_ ?_
                rotate_left
                · (intro w hSw; (try dsimp only at hSw); first | (go_simp; done) | (go_simp; with_reducible rfl))
                try simp only [Act.put, List.setIfInBounds_toArray, List.set_cons_zero, List.set_cons_succ]
                refine wpAnyH_take (i := 16) (oi := { dst := some 89, op := Op.move (Operand.tmp 14), type := 22, pos := "more.go:22", after := #[{ on := 15, ground := Ground.guard }], guard := some (15, false) }) (v := undef) rfl (by kernel_rfl) (by kernel_rfl) (by kernel_rfl) (fun _ _ _ h => h) (Or.inr ⟨by rfl, rfl⟩) (by assumption) ?_
                try simp only [Act.put, List.setIfInBounds_toArray, List.set_cons_zero, List.set_cons_succ]
                refine wpAnyH_take (i := 17) (oi := { dst := some 90, op := Op.indexAddr 22 (Operand.tmp 89) (Operand.const (Value.int IntKind.i64 0)), type := 0, pos := "more.go:22", after := #[{ on := 16, ground := Ground.data }, { on := 15, ground := Ground.guard }], guard := some (15, false) }) (v := undef) rfl (by kernel_rfl) (by kernel_rfl) (by kernel_rfl) (fun _ _ _ h => h) (Or.inr ⟨by rfl, rfl⟩) (by assumption) ?_
                try simp only [Act.put, List.setIfInBounds_toArray, List.set_cons_zero, List.set_cons_succ]
                refine wpAnyH_take (i := 18) (oi := { dst := some 91, op := Op.load 33 (Operand.tmp 90), type := 33, pos := "more.go:22", after := #[{ on := 17, ground := Ground.data }, { on := 15, ground := Ground.guard }], guard := some (15, false) }) (v := undef) rfl (by kernel_rfl) (by kernel_rfl) (by kernel_rfl) (fun _ _ _ h => h) (Or.inr ⟨by rfl, rfl⟩) (by assumption) ?_
                try simp only [Act.put, List.setIfInBounds_toArray, List.set_cons_zero, List.set_cons_succ]
                refine wpAnyH_take (i := 19) (oi := { dst := some 92, op := Op.load 33 (Operand.tmp 12), type := 33, pos := "more.go:22", after := #[{ on := 15, ground := Ground.guard }], guard := some (15, false) }) (v := undef) rfl (by kernel_rfl) (by kernel_rfl) (by kernel_rfl) (fun _ _ _ h => h) (Or.inr ⟨by rfl, rfl⟩) (by assumption) ?_
                try simp only [Act.put, List.setIfInBounds_toArray, List.set_cons_zero, List.set_cons_succ]
                refine wpAnyH_take (i := 20) (oi := { dst := some 93, op := Op.binOp BinOp.eql 33 (Operand.tmp 91) (Operand.tmp 92) 33, type := 4, pos := "more.go:22", after := #[{ on := 18, ground := Ground.data }, { on := 19, ground := Ground.data }, { on := 15, ground := Ground.guard }], guard := some (15, false) }) (v := undef) rfl (by kernel_rfl) (by kernel_rfl) (by kernel_rfl) (fun _ _ _ h => h) (Or.inr ⟨by rfl, rfl⟩) (by assumption) ?_
                try simp only [Act.put, List.setIfInBounds_toArray, List.set_cons_zero, List.set_cons_succ]
                refine tk (oi := { dst := some 94, op := Op.pick (Operand.tmp 88) (Operand.const (Value.bool true)) (Operand.tmp 93), type := 4, pos := "more.go:22", after := #[{ on := 15, ground := Ground.data }, { on := 20, ground := Ground.data }, { on := 12, ground := Ground.guard }], guard := some (12, true) }) (v := ?_) 21 rfl ?_ ?_
                rotate_left
                · (intro w hSw; (try dsimp only at hSw); first | (go_simp; done) | (go_simp; with_reducible rfl))
                try simp only [Act.put, List.setIfInBounds_toArray, List.set_cons_zero, List.set_cons_succ]
                refine tk (oi := { dst := some 95, op := Op.pick (Operand.tmp 85) (Operand.tmp 94) (Operand.const (Value.bool false)), type := 4, pos := "more.go:22", after := #[{ on := 12, ground := Ground.data }, { on := 21, ground := Ground.data }], guard := none }) (v := ?_) 22 rfl ?_ ?_
                rotate_left
                · (intro w hSw; (try dsimp only at hSw); first | (go_simp; done) | (go_simp; with_reducible rfl))
                try simp only [Act.put, List.setIfInBounds_toArray, List.set_cons_zero, List.set_cons_succ]
                refine tk (oi := { dst := some 6, op := Op.assign (Operand.tmp 95), type := 4, pos := "more.go:22", after := #[{ on := 22, ground := Ground.data }, { on := 15, ground := Ground.chain }, { on := 0, ground := Ground.phase }, { on := 1, ground := Ground.phase }, { on := 2, ground := Ground.phase }, { on := 3, ground := Ground.phase }, { on := 4, ground := Ground.phase }, { on := 5, ground := Ground.phase }, { on := 6, ground := Ground.phase }, { on := 7, ground := Ground.phase }, { on := 8, ground := Ground.phase }, { on := 9, ground := Ground.phase }, { on := 10, ground := Ground.phase }, { on := 11, ground := Ground.phase }, { on := 12, ground := Ground.phase }, { on := 13, ground := Ground.phase }, { on := 14, ground := Ground.phase }, { on := 15, ground := Ground.phase }, { on := 16, ground := Ground.phase }, { on := 17, ground := Ground.phase }, { on := 18, ground := Ground.phase }, { on := 19, ground := Ground.phase }, { on := 20, ground := Ground.phase }, { on := 21, ground := Ground.phase }, { on := 22, ground := Ground.phase }], guard := none }) (v := ?_) 23 rfl ?_ ?_
                rotate_left
                · (intro w hSw; (try dsimp only at hSw); first | (go_simp; done) | (go_simp; with_reducible rfl))
                try simp only [Act.put, List.setIfInBounds_toArray, List.set_cons_zero, List.set_cons_succ]
                refine wpAnyH_done (by kernel_rfl) ?_ _
                go_wp2_with (fail)
                go_ret
                exact ⟨rfl, HB14.out⟩
              | cons e0 N' =>
                go_wp2_with (fail)
                refine (MK.get_is (KM := KM) b F M s1 1099511627776 (some e0) w9 HG.out HT9.out HH.out).mono ?_
                rintro e w10 ⟨rfl, hb⟩
                unfold getM
                obtain ⟨w10a, hw10a⟩ : ∃ z, z = w10.alloc (.cells #[.string e0.k, .int .i64 e0.q, .bool e0.d, .string e0.v] 33) := ⟨_, rfl⟩
                have HB10 := Lib.hid (show Bel w9 w10a by rw [hw10a]; exact hb.alloc _)
                have HX := Lib.hid (show w10a.cell? ⟨w10.heap.size, 0, none⟩ = some (.string e0.k) ∧ w10a.cell? ⟨w10.heap.size, 1, none⟩ = some (.int .i64 e0.q) ∧ w10a.cell? ⟨w10.heap.size, 2, none⟩ = some (.bool e0.d) ∧ w10a.cell? ⟨w10.heap.size, 3, none⟩ = some (.string e0.v) by
                  have hbk : w10a.heap[w10.heap.size]? = some (.cells #[.string e0.k, .int .i64 e0.q, .bool e0.d, .string e0.v] 33 (0, 0)) := by rw [hw10a]; exact heap_alloc_new w10 _
                  refine ⟨?_, ?_, ?_, ?_⟩ <;> simp [World.cell?, hbk])
                clear hb
                go_wp2_with (fail)
                try rw [← hw10a]
                generalize w10.heap.size = X at *
                clear hw10a
                refine (KM.between b F M s1 _ _ (KM.bel HT9.out HB10.out) HH.out).mono ?_
                rintro e w11 ⟨v11, rfl, ho, hb⟩
                rw [cat_list11] at ho
                replace ho := (show OwnG entEl _ w11 v11 (betE s1.data.toList (s1.data.toList ++ [0]) M) from ho)
                rw [← HN.out] at ho
                obtain ⟨g, c11, rfl, -, -, hcells⟩ := own_tab11 ho (by simp)
                have HY := Lib.hid (show w11.cell? ⟨g, 0, none⟩ = some (.string e0.k) ∧ w11.cell? ⟨g, 1, none⟩ = some (.int .i64 e0.q) ∧ w11.cell? ⟨g, 2, none⟩ = some (.bool e0.d) ∧ w11.cell? ⟨g, 3, none⟩ = some (.string e0.v) from ⟨hcells 0 _ rfl, hcells 1 _ rfl, hcells 2 _ rfl, hcells 3 _ rfl⟩)
                have HX11 := Lib.hid (cells4y hb HX.out)
                have HB11 := Lib.hid (HB10.out.trans hb)
                clear ho hb hcells
                obtain ⟨n, hn⟩ : ∃ n, (e0 :: N').length = n := ⟨_, rfl⟩
                have hn0 : (0 : Int) < (n : Int) := by rw [← hn, List.length_cons]; omega
                have hn1 : 0 < n := by omega
                rw [hn]
                clear hn
                go_wp2_with (fail)
                refine wp_region_held_drew (S := fun z => (z.cell? ⟨g, 0, none⟩ = some (.string e0.k) ∧ z.cell? ⟨g, 1, none⟩ = some (.int .i64 e0.q) ∧ z.cell? ⟨g, 2, none⟩ = some (.bool e0.d) ∧ z.cell? ⟨g, 3, none⟩ = some (.string e0.v)) ∧ z.cell? ⟨X, 0, none⟩ = some (.string e0.k) ∧ z.cell? ⟨X, 1, none⟩ = some (.int .i64 e0.q) ∧ z.cell? ⟨X, 2, none⟩ = some (.bool e0.d) ∧ z.cell? ⟨X, 3, none⟩ = some (.string e0.v)) (by kernel_rfl) ⟨HY.out, HX11.out⟩ (fun hHeld => ?_)
                refine tk (oi := { dst := some 73, op := Op.move (Operand.tmp 11), type := 22, pos := "more.go:22", after := #[], guard := none }) (v := ?_) 0 rfl ?_ ?_
                rotate_left
                · (intro w hSw; (try dsimp only at hSw); first | (go_simp; done) | (go_simp; with_reducible rfl))
                try simp only [Act.put, List.setIfInBounds_toArray, List.set_cons_zero, List.set_cons_succ]
                refine tk (oi := { dst := some 74, op := Op.move (Operand.tmp 9), type := 25, pos := "more.go:22", after := #[], guard := none }) (v := ?_) 1 rfl ?_ ?_
                rotate_left
                · (intro w hSw; (try dsimp only at hSw); first | (go_simp; done) | (go_simp; with_reducible rfl))
                try simp only [Act.put, List.setIfInBounds_toArray, List.set_cons_zero, List.set_cons_succ]
                refine tk (oi := { dst := some 75, op := Op.move (Operand.tmp 1), type := 9, pos := "more.go:22", after := #[], guard := none }) (v := ?_) 2 rfl ?_ ?_
                rotate_left
                · (intro w hSw; (try dsimp only at hSw); first | (go_simp; done) | (go_simp; with_reducible rfl))
                try simp only [Act.put, List.setIfInBounds_toArray, List.set_cons_zero, List.set_cons_succ]
                refine wpAnyH_ready (rs := [3]) (by kernel_rfl) (by simp) ?_
                refine AllReadyH.cons (o := { dst := some 76, op := Op.call { callee := Callee.value (Operand.func 19), args := #[Operand.tmp 74, Operand.tmp 75, Operand.const (Value.string { data := #[] })], argTypes := #[25, 9, 9] }, type := 22, pos := "more.go:22", after := #[{ on := 1, ground := Ground.data }, { on := 2, ground := Ground.data }], guard := none }) rfl (fun K hK => ?_) AllReadyH.nil
                go_simp
                refine (KM.between b F M s1 ⟨#[]⟩ _ (KM.bel HT9.out HB11.out.drew) HH.out).mono ?_
                rintro r w13 ⟨v13, rfl, ho, hb⟩
                rw [nil_data11, ← HA.out] at ho
                obtain ⟨q13, c13, rfl, hat13⟩ := ownG_ents ho
                have hb11 : Bel w11 w13 := (Bel.refl w11).drew.trans hb
                have HB13 := Lib.hid (HB11.out.drew.trans hb)
                have HA13 := Lib.hid hat13
                dsimp only
                refine hK.out _ _ ⟨cells4y hb11 HY.out, cells4y hb11 HX11.out⟩ (fun hHeld => ?_)
                clear hK K hb ho hat13
                try simp only [Act.put, List.setIfInBounds_toArray, List.set_cons_zero, List.set_cons_succ]
                refine wpAnyH_ready (rs := [4]) (by kernel_rfl) (by simp) ?_
                refine AllReadyH.cons (o := { dst := some 77, op := Op.call { callee := Callee.value (Operand.func 18), args := #[Operand.tmp 73, Operand.tmp 76], argTypes := #[22, 22] }, type := 4, pos := "more.go:22", after := #[{ on := 0, ground := Ground.data }, { on := 3, ground := Ground.data }, { on := 3, ground := Ground.chain }], guard := none }) rfl (fun K hK => ?_) AllReadyH.nil
                go_simp
                refine (same11_at qa q13 _ _ ca c13 A w13 (HAA.out.bel HB13.out) HA13.out (by omega) rfl rfl).mono ?_
                rintro r w14 ⟨rfl, hd⟩
                have HB14 := Lib.hid (HB9.out.trans (HB13.out.trans hd.bel))
                have hb14 := hb11.trans hd.bel
                dsimp only
                refine hK.out _ _ ⟨cells4y hb14 HY.out, cells4y hb14 HX11.out⟩ (fun hHeld => ?_)
                clear hK K hd hb14 hb11
                try simp only [Act.put, List.setIfInBounds_toArray, List.set_cons_zero, List.set_cons_succ]
                refine tk (oi := { dst := some 78, op := Op.move (Operand.tmp 77), type := 4, pos := "more.go:22", after := #[{ on := 4, ground := Ground.data }, { on := 4, ground := Ground.chain }], guard := none }) (v := ?_) 5 rfl ?_ ?_
                rotate_left
                · (intro w hSw; (try dsimp only at hSw); first | (go_simp; done) | (go_simp; with_reducible rfl))
                try simp only [Act.put, List.setIfInBounds_toArray, List.set_cons_zero, List.set_cons_succ]
                refine tk (oi := { dst := some 79, op := Op.move (Operand.tmp 13), type := 4, pos := "more.go:22", after := #[{ on := 5, ground := Ground.guard }], guard := some (5, true) }) (v := ?_) 6 rfl ?_ ?_
                rotate_left
                · (intro w hSw; (try dsimp only at hSw); first | (go_simp; done) | (go_simp; with_reducible rfl))
                try simp only [Act.put, List.setIfInBounds_toArray, List.set_cons_zero, List.set_cons_succ]
                refine tk (oi := { dst := some 80, op := Op.move (Operand.tmp 14), type := 22, pos := "more.go:22", after := #[{ on := 5, ground := Ground.guard }], guard := some (5, true) }) (v := ?_) 7 rfl ?_ ?_
                rotate_left
                · (intro w hSw; (try dsimp only at hSw); first | (go_simp; done) | (go_simp; with_reducible rfl))
                try simp only [Act.put, List.setIfInBounds_toArray, List.set_cons_zero, List.set_cons_succ]
                refine tk (oi := { dst := some 81, op := Op.call { callee := Callee.builtin Builtin.len, args := #[Operand.tmp 80], argTypes := #[22] }, type := 3, pos := "more.go:22", after := #[{ on := 7, ground := Ground.data }, { on := 5, ground := Ground.guard }], guard := some (5, true) }) (v := ?_) 8 rfl ?_ ?_
                rotate_left
                · (intro w hSw; (try dsimp only at hSw); first | (go_simp; done) | (go_simp; with_reducible rfl))
                try simp only [Act.put, List.setIfInBounds_toArray, List.set_cons_zero, List.set_cons_succ]
                refine tk (oi := { dst := some 82, op := Op.binOp BinOp.gtr 3 (Operand.tmp 81) (Operand.const (Value.int IntKind.i64 0)) 3, type := 4, pos := "more.go:22", after := #[{ on := 8, ground := Ground.data }, { on := 5, ground := Ground.guard }], guard := some (5, true) }) (v := ?_) 9 rfl ?_ ?_
                rotate_left
                · (intro w hSw; (try dsimp only at hSw); first | (go_simp; done) | (go_simp; with_reducible rfl))
                try simp only [Act.put, List.setIfInBounds_toArray, List.set_cons_zero, List.set_cons_succ]
                try simp only [hn1, decide_true]
                refine tk (oi := { dst := some 83, op := Op.binOp BinOp.eql 4 (Operand.tmp 79) (Operand.tmp 82) 4, type := 4, pos := "more.go:22", after := #[{ on := 6, ground := Ground.data }, { on := 9, ground := Ground.data }, { on := 5, ground := Ground.guard }], guard := some (5, true) }) (v := ?_) 10 rfl ?_ ?_
                rotate_left
                · (intro w hSw; (try dsimp only at hSw); first | (go_simp; done) | (go_simp; with_reducible rfl))
                try simp only [Act.put, List.setIfInBounds_toArray, List.set_cons_zero, List.set_cons_succ]
                refine tk (oi := { dst := some 84, op := Op.pick (Operand.tmp 78) (Operand.tmp 83) (Operand.const (Value.bool false)), type := 4, pos := "more.go:22", after := #[{ on := 5, ground := Ground.data }, { on := 10, ground := Ground.data }], guard := none }) (v := ?_) 11 rfl ?_ ?_
                rotate_left
                · (intro w hSw; (try dsimp only at hSw); first | (go_simp; done) | (go_simp; with_reducible rfl))
                try simp only [Act.put, List.setIfInBounds_toArray, List.set_cons_zero, List.set_cons_succ]
                refine tk (oi := { dst := some 85, op := Op.move (Operand.tmp 84), type := 4, pos := "more.go:22", after := #[{ on := 11, ground := Ground.data }, { on := 5, ground := Ground.chain }], guard := none }) (v := ?_) 12 rfl ?_ ?_
                rotate_left
                · (intro w hSw; (try dsimp only at hSw); first | (go_simp; done) | (go_simp; with_reducible rfl))
                try simp only [Act.put, List.setIfInBounds_toArray, List.set_cons_zero, List.set_cons_succ]
                refine tk (oi := { dst := some 86, op := Op.move (Operand.tmp 13), type := 4, pos := "more.go:22", after := #[{ on := 12, ground := Ground.guard }], guard := some (12, true) }) (v := ?_) 13 rfl ?_ ?_
                rotate_left
                · (intro w hSw; (try dsimp only at hSw); first | (go_simp; done) | (go_simp; with_reducible rfl))
                try simp only [Act.put, List.setIfInBounds_toArray, List.set_cons_zero, List.set_cons_succ]
                refine tk (oi := { dst := some 87, op := Op.unOp UnOp.not 4 (Operand.tmp 86), type := 4, pos := "more.go:22", after := #[{ on := 13, ground := Ground.data }, { on := 12, ground := Ground.guard }], guard := some (12, true) }) (v := ?_) 14 rfl ?_ ?_
                rotate_left
                · (intro w hSw; (try dsimp only at hSw); first | (go_simp; done) | (go_simp; with_reducible rfl))
                try simp only [Act.put, List.setIfInBounds_toArray, List.set_cons_zero, List.set_cons_succ]
                refine tk (oi := { dst := some 88, op := Op.move (Operand.tmp 87), type := 4, pos := "more.go:22", after := #[{ on := 14, ground := Ground.data }, { on := 12, ground := Ground.chain }, { on := 12, ground := Ground.guard }], guard := some (12, true) }) (v := ?_) 15 rfl ?_ ?_
                rotate_left
                · (intro w hSw; (try dsimp only at hSw); first | (go_simp; done) | (go_simp; with_reducible rfl))
                try simp only [Act.put, List.setIfInBounds_toArray, List.set_cons_zero, List.set_cons_succ]
                refine tk (oi := { dst := some 89, op := Op.move (Operand.tmp 14), type := 22, pos := "more.go:22", after := #[{ on := 15, ground := Ground.guard }], guard := some (15, false) }) (v := ?_) 16 rfl ?_ ?_
                rotate_left
                · (intro w hSw; (try dsimp only at hSw); first | (go_simp; done) | (go_simp; with_reducible rfl))
                try simp only [Act.put, List.setIfInBounds_toArray, List.set_cons_zero, List.set_cons_succ]
                refine tk (oi := { dst := some 90, op := Op.indexAddr 22 (Operand.tmp 89) (Operand.const (Value.int IntKind.i64 0)), type := 0, pos := "more.go:22", after := #[{ on := 16, ground := Ground.data }, { on := 15, ground := Ground.guard }], guard := some (15, false) }) (v := ?_) 17 rfl ?_ ?_
                rotate_left
                · (intro w hSw; (try dsimp only at hSw); first | (go_simp; done) | (go_simp; with_reducible rfl))
                try simp only [Act.put, List.setIfInBounds_toArray, List.set_cons_zero, List.set_cons_succ]
                refine tk (oi := { dst := some 91, op := Op.load 33 (Operand.tmp 90), type := 33, pos := "more.go:22", after := #[{ on := 17, ground := Ground.data }, { on := 15, ground := Ground.guard }], guard := some (15, false) }) (v := ?_) 18 rfl ?_ ?_
                rotate_left
                · (intro w hSw; (try dsimp only at hSw); first | (go_simp; done) | (go_simp; with_reducible rfl))
                try simp only [Act.put, List.setIfInBounds_toArray, List.set_cons_zero, List.set_cons_succ]
                refine tk (oi := { dst := some 92, op := Op.load 33 (Operand.tmp 12), type := 33, pos := "more.go:22", after := #[{ on := 15, ground := Ground.guard }], guard := some (15, false) }) (v := ?_) 19 rfl ?_ ?_
                rotate_left
                · (intro w hSw; (try dsimp only at hSw); first | (go_simp; done) | (go_simp; with_reducible rfl))
                try simp only [Act.put, List.setIfInBounds_toArray, List.set_cons_zero, List.set_cons_succ]
                refine tk (oi := { dst := some 93, op := Op.binOp BinOp.eql 33 (Operand.tmp 91) (Operand.tmp 92) 33, type := 4, pos := "more.go:22", after := #[{ on := 18, ground := Ground.data }, { on := 19, ground := Ground.data }, { on := 15, ground := Ground.guard }], guard := some (15, false) }) (v := ?_) 20 rfl ?_ ?_
                rotate_left
                · (intro w hSw; (try dsimp only at hSw); first | (go_simp; done) | (go_simp; with_reducible rfl))
                try simp only [Act.put, List.setIfInBounds_toArray, List.set_cons_zero, List.set_cons_succ]
                refine tk (oi := { dst := some 94, op := Op.pick (Operand.tmp 88) (Operand.const (Value.bool true)) (Operand.tmp 93), type := 4, pos := "more.go:22", after := #[{ on := 15, ground := Ground.data }, { on := 20, ground := Ground.data }, { on := 12, ground := Ground.guard }], guard := some (12, true) }) (v := ?_) 21 rfl ?_ ?_
                rotate_left
                · (intro w hSw; (try dsimp only at hSw); first | (go_simp; done) | (go_simp; with_reducible rfl))
                try simp only [Act.put, List.setIfInBounds_toArray, List.set_cons_zero, List.set_cons_succ]
                refine tk (oi := { dst := some 95, op := Op.pick (Operand.tmp 85) (Operand.tmp 94) (Operand.const (Value.bool false)), type := 4, pos := "more.go:22", after := #[{ on := 12, ground := Ground.data }, { on := 21, ground := Ground.data }], guard := none }) (v := ?_) 22 rfl ?_ ?_
                rotate_left
                · (intro w hSw; (try dsimp only at hSw); first | (go_simp; done) | (go_simp; with_reducible rfl))
                try simp only [Act.put, List.setIfInBounds_toArray, List.set_cons_zero, List.set_cons_succ]
                refine tk (oi := { dst := some 6, op := Op.assign (Operand.tmp 95), type := 4, pos := "more.go:22", after := #[{ on := 22, ground := Ground.data }, { on := 15, ground := Ground.chain }, { on := 0, ground := Ground.phase }, { on := 1, ground := Ground.phase }, { on := 2, ground := Ground.phase }, { on := 3, ground := Ground.phase }, { on := 4, ground := Ground.phase }, { on := 5, ground := Ground.phase }, { on := 6, ground := Ground.phase }, { on := 7, ground := Ground.phase }, { on := 8, ground := Ground.phase }, { on := 9, ground := Ground.phase }, { on := 10, ground := Ground.phase }, { on := 11, ground := Ground.phase }, { on := 12, ground := Ground.phase }, { on := 13, ground := Ground.phase }, { on := 14, ground := Ground.phase }, { on := 15, ground := Ground.phase }, { on := 16, ground := Ground.phase }, { on := 17, ground := Ground.phase }, { on := 18, ground := Ground.phase }, { on := 19, ground := Ground.phase }, { on := 20, ground := Ground.phase }, { on := 21, ground := Ground.phase }, { on := 22, ground := Ground.phase }], guard := none }) (v := ?_) 23 rfl ?_ ?_
                rotate_left
                · (intro w hSw; (try dsimp only at hSw); first | (go_simp; done) | (go_simp; with_reducible rfl))
                try simp only [Act.put, List.setIfInBounds_toArray, List.set_cons_zero, List.set_cons_succ]
                refine wpAnyH_done (by kernel_rfl) ?_ _
                go_wp2_with (fail)
                go_ret
                exact ⟨rfl, HB14.out⟩
        · have hz' : (1500 : Int) < s2.size := by omega
          clear hgt
          go_wp2_with (fail)
          go_ret
          exact ⟨rfl, HB2.out⟩
  · go_wp2_with (fail)
    go_ret
    exact ⟨rfl, HB2.out⟩
end Go.Proofs.Yteimllgoelleeaa
