/- TableParts. -/
import Derived.Test.YtllcdhbchcpdoaaGreatDoorU26
import Derived.Deep.QuietTactic
import Derived.BigQuiet
import Derived.Test.YtllcdhbchcpdoaaGreatDoorU2
set_option linter.unusedSimpArgs false
set_option linter.unusedVariables false
namespace Go.Proofs.YtllcdhbchcpdoaaGreatDoor
open Go.RowKit Go.Deep

theorem nil_data : (⟨#[]⟩ : ByteArray).data.toList = [] := rfl
theorem cells4z {w x : World} {g : Nat} {e : EB} (hb : Bel w x) (h : w.cell? ⟨g, 0, none⟩ = some (.string e.k) ∧ w.cell? ⟨g, 1, none⟩ = some (.int .i64 e.q) ∧ w.cell? ⟨g, 2, none⟩ = some (.bool e.d) ∧ w.cell? ⟨g, 3, none⟩ = some (.string e.v)) :
    x.cell? ⟨g, 0, none⟩ = some (.string e.k) ∧ x.cell? ⟨g, 1, none⟩ = some (.int .i64 e.q) ∧ x.cell? ⟨g, 2, none⟩ = some (.bool e.d) ∧ x.cell? ⟨g, 3, none⟩ = some (.string e.v) :=
  ⟨cl10 hb h.1, cl10 hb h.2.1, cl10 hb h.2.2.1, cl10 hb h.2.2.2⟩
set_option maxHeartbeats 4000000 in
set_option maxRecDepth 20000 in
theorem law_parts_any (W : World) (hstd : MaxOk W) (a0 : Option Addr) (cap0 : Nat) (L0 : List EB) (s1 s2 : ByteArray) (hi0 : EntsAt W a0 L0) (hl0 : L0.length ≤ maxLen) (hs0 : fitsL L0) (ws1 : s1.size ≤ 140737488355328) (ws2 : s2.size ≤ maxLen) :
    Calls Tryz.prog 8 #[.slice a0 L0.length cap0, .string s1, .string s2] W fun e w' => e = .returned (.bool true) ∧ Bel W w' := by
  have HM := Lib.hid hstd; have HI := Lib.hid hi0; have HF := Lib.hid hs0
  clear hstd hi0 hs0
  unfold maxLen at hl0 ws2
  go_enter Tryz.func8, Tryz.ntmps8
  go_wp2_with (fail)
  refine (shown10_any W HM.out).mono ?_
  rintro e w1 ⟨rfl, hb⟩
  have HB1 := Lib.hid hb; clear hb
  go_wp2_with (fail)
  refine (small10_any a0 cap0 L0 w1 (HI.out.bel HB1.out) (by omega) HF.out).mono ?_
  rintro e w2 ⟨hd, hres⟩
  have HB2 := Lib.hid (HB1.out.trans hd.bel); clear hd
  rcases hres with ⟨hsm, rfl⟩ | rfl
  · cases hgt : Op.bytesLess s2.toList s1.toList with
    | true =>
      have hg : (!Op.bytesLess s1.toList s2.toList && !s1.toList == s2.toList) = true := by rw [gtr_less, hgt]
      clear hgt
      go_wp2_with (fail)
      go_ret
      exact ⟨rfl, HB2.out⟩
    | false =>
      have hg : (!Op.bytesLess s1.toList s2.toList && !s1.toList == s2.toList) = false := by rw [gtr_less, hgt]
      cases hem : (s2.toList == []) with
      | true =>
        clear hgt
        go_wp2_with (fail)
        go_ret
        exact ⟨rfl, HB2.out⟩
      | false =>
        by_cases hz : s2.size ≤ 1500
        · have hz' : ¬ (1500 : Int) < s2.size := by omega
          have hl60 := hsm.1
          obtain ⟨t1, t2, t3, t4, t5, t6⟩ := stand_small0 hsm
          have HSF := Lib.hid t2; have HSZ := Lib.hid t3; have HST := Lib.hid t4; have HSV := Lib.hid t5; have HLV := Lib.hid t6
          have hne2 : s2.data.toList ≠ [] := by rw [ByteArray.toList_eq, beq_eq_false_iff_ne] at hem; exact hem
          have HNE := Lib.hid hne2
          rw [ByteArray.toList_eq, ByteArray.toList_eq] at hgt
          have HGT := Lib.hid hgt
          clear hsm t2 t3 t4 t5 t6 hgt hne2
          go_wp2_with (fail)
          refine (standing_any a0 cap0 L0 w2 (HI.out.bel HB2.out) (by omega) HF.out HLV.out).mono ?_
          rintro e w3 ⟨v, rfl, ho, hb⟩
          obtain ⟨q, qc, rfl, hat⟩ := ownG_ents ho
          have HB3 := Lib.hid (HB2.out.trans hb)
          have HAT := Lib.hid hat
          clear ho hat hb
          obtain ⟨M, hM⟩ : ∃ M, M = standingB L0 := ⟨_, rfl⟩
          rw [← hM] at HAT HSF HSZ HST HSV t1 ⊢
          clear hM hg hem hz'
          go_wp2_with (fail)
          refine (pbuildT_any q qc M w3 HAT.out (by omega) HSF.out HSZ.out).mono ?_
          unfold buildV
          rcases built_any HST.out t1 with ⟨h0, hb0⟩ | ⟨h0, hb0⟩ | ⟨h0, he0, hb0⟩
          · rw [hb0]
            rintro e w4 ⟨rfl, hb⟩
            have HB4 := Lib.hid (HB3.out.trans hb); clear hb hb0 h0
            go_wp2_with (fail)
            go_ret
            exact ⟨rfl, HB4.out⟩
          · rw [hb0]
            rintro e w4 ⟨rfl, hb⟩
            have HB4 := Lib.hid (HB3.out.trans hb); clear hb hb0 h0
            go_wp2_with (fail)
            go_ret
            exact ⟨rfl, HB4.out⟩
          · rw [hb0]
            obtain ⟨S, hS⟩ : ∃ S : ByteArray, S = ⟨(fileL M).toArray⟩ := ⟨_, rfl⟩
            have HSD := Lib.hid (show S.data.toList = fileL M by rw [hS])
            rw [← hS]
            rintro e w4 ⟨rfl, hb⟩
            have HB4 := Lib.hid (HB3.out.trans hb)
            have H0 := Lib.hid h0; have HE0 := Lib.hid he0
            clear hb hb0 h0 hS he0
            go_wp2_with (fail)
            refine (open_ok M S w4 HSD.out (HM.out.bel HB4.out) HST.out H0.out t1 HSV.out HE0.out).mono ?_
            rintro e w5 ⟨b, rfl, ht, hb⟩
            have HB5 := Lib.hid (HB4.out.trans hb)
            have HT5 := Lib.hid ht
            clear hb ht
            have HP := Lib.hid (stand_pair HST.out)
            obtain ⟨N, hN⟩ : ∃ N, N = betE s1.data.toList (s1.data.toList ++ [0]) M := ⟨_, rfl⟩
            have HG := Lib.hid (show getE s1.data.toList 1099511627776 M = N.head? by rw [hN]; exact get_head HST.out _)
            have HN := Lib.hid hN; clear hN
            obtain ⟨A, hA⟩ : ∃ A, A = betE s1.data.toList [] M := ⟨_, rfl⟩
            have HPA := Lib.hid (show betE s1.data.toList s2.data.toList M ++ betE s2.data.toList [] M = A by rw [hA]; exact bet_parts HST.out HGT.out HNE.out)
            have hAl : A.length ≤ 60 := by rw [hA]; have := bet_len s1.data.toList [] M; omega
            have HA := Lib.hid hA; clear hA
            have hl1 := bet_len s1.data.toList s2.data.toList M
            have hl2 := bet_len s2.data.toList [] M
            go_wp2_with (fail)
            refine (between_any10 b s1 s2 M _ (HT5.out.bel ((Bel.refl w5).alloc _)) (by omega) HP.out).mono ?_
            rintro e w6 ⟨v6, rfl, ho, hb⟩
            have HOE := Lib.hid ((ownG_empty (E := entEl) (n := w5.heap.size) (heap_alloc_new w5 (.cells #[] 23)) (Nat.le_refl _)).bel hb)
            have HB56 := Lib.hid (((Bel.refl w5).alloc _).trans hb)
            have HS6 := Lib.hid (src_own ho)
            clear ho hb
            go_wp2_with (at_builtin; refine stop_here ?_)
            refine go_on ?_
            refine append_all entOk rfl _ _ rfl rfl HOE.out (betE s1.data.toList s2.data.toList M) rfl HS6.out (by simp only [List.length_nil]; unfold maxLen; omega) (by simp only [List.length_nil]; omega) HB56.out.size ?_
            intro v7 w7 ho7 hk7 _
            rw [List.nil_append] at ho7
            have HO7 := Lib.hid ho7
            have HB57 := Lib.hid (HB56.out.trans_below (hk7.own HB56.out.size (fun kk hkk => (HOE.out.lt kk hkk).1)))
            clear ho7 hk7
            go_wp2_with (fail)
            refine (between_any10 b s2 ⟨#[]⟩ M w7 (HT5.out.bel HB57.out) (by omega) HP.out).mono ?_
            rintro e w8 ⟨v8, rfl, ho, hb⟩
            rw [nil_data] at ho
            have HS8 := Lib.hid (src_own ho)
            have HO8 := Lib.hid (HO7.out.bel hb)
            have HB58 := Lib.hid (HB57.out.trans hb)
            clear ho hb
            go_wp2_with (at_builtin; refine stop_here ?_)
            refine go_on ?_
            refine append_all entOk rfl _ _ rfl rfl HO8.out (betE s2.data.toList [] M) rfl HS8.out (by unfold maxLen; omega) (by omega) HB58.out.size ?_
            intro v9 w9 ho9 hk9 _
            have HB59 := Lib.hid (HB58.out.trans_below (hk9.own HB58.out.size (fun kk hkk => (HO8.out.lt kk hkk).1)))
            rw [HPA.out] at ho9
            obtain ⟨qa, ca, rfl, hata⟩ := ownG_ents ho9
            have HAA := Lib.hid hata
            have HB9 := Lib.hid (HB5.out.trans HB59.out)
            have HT9 := Lib.hid (HT5.out.bel HB59.out)
            clear ho9 hk9 hata
            cases N with
            | nil =>
              go_wp2_with (fail)
              refine (get_is b s1 1099511627776 M none w9 HG.out HT9.out (by omega) HP.out).mono ?_
              rintro e w10 ⟨rfl, hb⟩
              unfold getV
              have HB10 := Lib.hid (hb.alloc (.cells #[.string ⟨#[]⟩, .int .i64 0, .bool false, .string ⟨#[]⟩] 23))
              clear hb
              go_wp2_with (fail)
              refine (between_any10 b s1 _ M _ (HT9.out.bel HB10.out) (by omega) HP.out).mono ?_
              rintro e w11 ⟨v11, rfl, ho, hb⟩
              rw [cat_list] at ho
              replace ho := (show OwnG entEl _ w11 v11 (betE s1.data.toList (s1.data.toList ++ [0]) M) from ho)
              rw [← HN.out] at ho
              obtain ⟨q11, c11, rfl, -⟩ := ownG_ents ho
              have HB11 := Lib.hid (HB10.out.trans hb)
              clear ho hb
              go_wp2_with (fail)
              refine wp_region_held_drew (S := fun z => True) (by kernel_rfl) trivial (fun hHeld => ?_)
              refine tk (oi := { dst := some 81, op := Op.move (Operand.tmp 13), type := 26, pos := "law.go:268", after := #[], guard := none }) (v := ?_) 0 rfl ?_ ?_
              rotate_left
              · (intro w hSw; (try dsimp only at hSw); first | (go_simp; done) | (go_simp; with_reducible rfl))
              try simp only [Act.put, List.setIfInBounds_toArray, List.set_cons_zero, List.set_cons_succ]
              refine tk (oi := { dst := some 82, op := Op.move (Operand.tmp 11), type := 40, pos := "law.go:268", after := #[], guard := none }) (v := ?_) 1 rfl ?_ ?_
              rotate_left
              · (intro w hSw; (try dsimp only at hSw); first | (go_simp; done) | (go_simp; with_reducible rfl))
              try simp only [Act.put, List.setIfInBounds_toArray, List.set_cons_zero, List.set_cons_succ]
              refine tk (oi := { dst := some 83, op := Op.move (Operand.tmp 1), type := 9, pos := "law.go:268", after := #[], guard := none }) (v := ?_) 2 rfl ?_ ?_
              rotate_left
              · (intro w hSw; (try dsimp only at hSw); first | (go_simp; done) | (go_simp; with_reducible rfl))
              try simp only [Act.put, List.setIfInBounds_toArray, List.set_cons_zero, List.set_cons_succ]
              refine wpAnyH_ready (rs := [3]) (by kernel_rfl) (by simp) ?_
              refine AllReadyH.cons (o := { dst := some 84, op := Op.call { callee := Callee.value (Operand.func 27), args := #[Operand.tmp 82, Operand.tmp 83, Operand.const (Value.string { data := #[] })], argTypes := #[40, 9, 9] }, type := 26, pos := "law.go:268", after := #[{ on := 1, ground := Ground.data }, { on := 2, ground := Ground.data }], guard := none }) rfl (fun K hK => ?_) AllReadyH.nil
              go_simp
              refine (between_any10 b s1 ⟨#[]⟩ M _ (HT9.out.bel HB11.out.drew) (by omega) HP.out).mono ?_
              rintro r w13 ⟨v13, rfl, ho, hb⟩
              rw [nil_data, ← HA.out] at ho
              obtain ⟨q13, c13, rfl, hat13⟩ := ownG_ents ho
              have HB13 := Lib.hid (HB11.out.drew.trans hb)
              have HA13 := Lib.hid hat13
              dsimp only
              refine hK.out _ _ trivial (fun hHeld => ?_)
              clear hK K hb ho hat13
              try simp only [Act.put, List.setIfInBounds_toArray, List.set_cons_zero, List.set_cons_succ]
              refine wpAnyH_ready (rs := [4]) (by kernel_rfl) (by simp) ?_
              refine AllReadyH.cons (o := { dst := some 85, op := Op.call { callee := Callee.value (Operand.func 26), args := #[Operand.tmp 81, Operand.tmp 84], argTypes := #[26, 26] }, type := 4, pos := "law.go:268", after := #[{ on := 0, ground := Ground.data }, { on := 3, ground := Ground.data }, { on := 3, ground := Ground.chain }], guard := none }) rfl (fun K hK => ?_) AllReadyH.nil
              go_simp
              refine (same10_at qa q13 _ _ ca c13 A w13 (HAA.out.bel HB13.out) HA13.out (by omega) rfl rfl).mono ?_
              rintro r w14 ⟨rfl, hd⟩
              have HB14 := Lib.hid (HB9.out.trans (HB13.out.trans hd.bel))
              dsimp only
              refine hK.out _ _ trivial (fun hHeld => ?_)
              clear hK K hd
              try simp only [Act.put, List.setIfInBounds_toArray, List.set_cons_zero, List.set_cons_succ]
              refine tk (oi := { dst := some 86, op := Op.move (Operand.tmp 85), type := 4, pos := "law.go:268", after := #[{ on := 4, ground := Ground.data }, { on := 4, ground := Ground.chain }], guard := none }) (v := ?_) 5 rfl ?_ ?_
              rotate_left
              · (intro w hSw; (try dsimp only at hSw); first | (go_simp; done) | (go_simp; with_reducible rfl))
              try simp only [Act.put, List.setIfInBounds_toArray, List.set_cons_zero, List.set_cons_succ]
              refine tk (oi := { dst := some 87, op := Op.move (Operand.tmp 15), type := 4, pos := "law.go:268", after := #[{ on := 5, ground := Ground.guard }], guard := some (5, true) }) (v := ?_) 6 rfl ?_ ?_
              rotate_left
              · (intro w hSw; (try dsimp only at hSw); first | (go_simp; done) | (go_simp; with_reducible rfl))
              try simp only [Act.put, List.setIfInBounds_toArray, List.set_cons_zero, List.set_cons_succ]
              refine tk (oi := { dst := some 88, op := Op.move (Operand.tmp 16), type := 26, pos := "law.go:268", after := #[{ on := 5, ground := Ground.guard }], guard := some (5, true) }) (v := ?_) 7 rfl ?_ ?_
              rotate_left
              · (intro w hSw; (try dsimp only at hSw); first | (go_simp; done) | (go_simp; with_reducible rfl))
              try simp only [Act.put, List.setIfInBounds_toArray, List.set_cons_zero, List.set_cons_succ]
              refine tk (oi := { dst := some 89, op := Op.call { callee := Callee.builtin Builtin.len, args := #[Operand.tmp 88], argTypes := #[26] }, type := 3, pos := "law.go:268", after := #[{ on := 7, ground := Ground.data }, { on := 5, ground := Ground.guard }], guard := some (5, true) }) (v := ?_) 8 rfl ?_ ?_
              rotate_left
              · (intro w hSw; (try dsimp only at hSw); first | (go_simp; done) | (go_simp; with_reducible rfl))
              try simp only [Act.put, List.setIfInBounds_toArray, List.set_cons_zero, List.set_cons_succ]
              refine tk (oi := { dst := some 90, op := Op.binOp BinOp.gtr 3 (Operand.tmp 89) (Operand.const (Value.int IntKind.i64 0)) 3, type := 4, pos := "law.go:268", after := #[{ on := 8, ground := Ground.data }, { on := 5, ground := Ground.guard }], guard := some (5, true) }) (v := ?_) 9 rfl ?_ ?_
              rotate_left
              · (intro w hSw; (try dsimp only at hSw); first | (go_simp; done) | (go_simp; with_reducible rfl))
              try simp only [Act.put, List.setIfInBounds_toArray, List.set_cons_zero, List.set_cons_succ]
              refine tk (oi := { dst := some 91, op := Op.binOp BinOp.eql 4 (Operand.tmp 87) (Operand.tmp 90) 4, type := 4, pos := "law.go:268", after := #[{ on := 6, ground := Ground.data }, { on := 9, ground := Ground.data }, { on := 5, ground := Ground.guard }], guard := some (5, true) }) (v := ?_) 10 rfl ?_ ?_
              rotate_left
              · (intro w hSw; (try dsimp only at hSw); first | (go_simp; done) | (go_simp; with_reducible rfl))
              try simp only [Act.put, List.setIfInBounds_toArray, List.set_cons_zero, List.set_cons_succ]
              refine tk (oi := { dst := some 92, op := Op.pick (Operand.tmp 86) (Operand.tmp 91) (Operand.const (Value.bool false)), type := 4, pos := "law.go:268", after := #[{ on := 5, ground := Ground.data }, { on := 10, ground := Ground.data }], guard := none }) (v := ?_) 11 rfl ?_ ?_
              rotate_left
              · (intro w hSw; (try dsimp only at hSw); first | (go_simp; done) | (go_simp; with_reducible rfl))
              try simp only [Act.put, List.setIfInBounds_toArray, List.set_cons_zero, List.set_cons_succ]
              refine tk (oi := { dst := some 93, op := Op.move (Operand.tmp 92), type := 4, pos := "law.go:268", after := #[{ on := 11, ground := Ground.data }, { on := 5, ground := Ground.chain }], guard := none }) (v := ?_) 12 rfl ?_ ?_
              rotate_left
              · (intro w hSw; (try dsimp only at hSw); first | (go_simp; done) | (go_simp; with_reducible rfl))
              try simp only [Act.put, List.setIfInBounds_toArray, List.set_cons_zero, List.set_cons_succ]
              refine tk (oi := { dst := some 94, op := Op.move (Operand.tmp 15), type := 4, pos := "law.go:268", after := #[{ on := 12, ground := Ground.guard }], guard := some (12, true) }) (v := ?_) 13 rfl ?_ ?_
              rotate_left
              · (intro w hSw; (try dsimp only at hSw); first | (go_simp; done) | (go_simp; with_reducible rfl))
              try simp only [Act.put, List.setIfInBounds_toArray, List.set_cons_zero, List.set_cons_succ]
              refine tk (oi := { dst := some 95, op := Op.unOp UnOp.not 4 (Operand.tmp 94), type := 4, pos := "law.go:268", after := #[{ on := 13, ground := Ground.data }, { on := 12, ground := Ground.guard }], guard := some (12, true) }) (v := ?_) 14 rfl ?_ ?_
              rotate_left
              · (intro w hSw; (try dsimp only at hSw); first | (go_simp; done) | (go_simp; with_reducible rfl))
              try simp only [Act.put, List.setIfInBounds_toArray, List.set_cons_zero, List.set_cons_succ]
              refine tk (oi := { dst := some 96, op := Op.move (Operand.tmp 95), type := 4, pos := "law.go:268", after := #[{ on := 14, ground := Ground.data }, { on := 12, ground := Ground.chain }, { on := 12, ground := Ground.guard }], guard := some (12, true) }) (v := ?_) 15 rfl ?_ ?_
              rotate_left
              · (intro w hSw; (try dsimp only at hSw); first | (go_simp; done) | (go_simp; with_reducible rfl))
              try simp only [Act.put, List.setIfInBounds_toArray, List.set_cons_zero, List.set_cons_succ]
              refine wpAnyH_take (i := 16) (oi := { dst := some 97, op := Op.move (Operand.tmp 16), type := 26, pos := "law.go:268", after := #[{ on := 15, ground := Ground.guard }], guard := some (15, false) }) (v := undef) rfl (by kernel_rfl) (by kernel_rfl) (by kernel_rfl) (fun _ _ _ h => h) (Or.inr ⟨by rfl, rfl⟩) (by assumption) ?_
              try simp only [Act.put, List.setIfInBounds_toArray, List.set_cons_zero, List.set_cons_succ]
              refine wpAnyH_take (i := 17) (oi := { dst := some 98, op := Op.indexAddr 26 (Operand.tmp 97) (Operand.const (Value.int IntKind.i64 0)), type := 0, pos := "law.go:268", after := #[{ on := 16, ground := Ground.data }, { on := 15, ground := Ground.guard }], guard := some (15, false) }) (v := undef) rfl (by kernel_rfl) (by kernel_rfl) (by kernel_rfl) (fun _ _ _ h => h) (Or.inr ⟨by rfl, rfl⟩) (by assumption) ?_
              try simp only [Act.put, List.setIfInBounds_toArray, List.set_cons_zero, List.set_cons_succ]
              refine wpAnyH_take (i := 18) (oi := { dst := some 99, op := Op.load 23 (Operand.tmp 98), type := 23, pos := "law.go:268", after := #[{ on := 17, ground := Ground.data }, { on := 15, ground := Ground.guard }], guard := some (15, false) }) (v := undef) rfl (by kernel_rfl) (by kernel_rfl) (by kernel_rfl) (fun _ _ _ h => h) (Or.inr ⟨by rfl, rfl⟩) (by assumption) ?_
              try simp only [Act.put, List.setIfInBounds_toArray, List.set_cons_zero, List.set_cons_succ]
              refine wpAnyH_take (i := 19) (oi := { dst := some 100, op := Op.load 23 (Operand.tmp 14), type := 23, pos := "law.go:268", after := #[{ on := 15, ground := Ground.guard }], guard := some (15, false) }) (v := undef) rfl (by kernel_rfl) (by kernel_rfl) (by kernel_rfl) (fun _ _ _ h => h) (Or.inr ⟨by rfl, rfl⟩) (by assumption) ?_
              try simp only [Act.put, List.setIfInBounds_toArray, List.set_cons_zero, List.set_cons_succ]
              refine wpAnyH_take (i := 20) (oi := { dst := some 101, op := Op.binOp BinOp.eql 23 (Operand.tmp 99) (Operand.tmp 100) 23, type := 4, pos := "law.go:268", after := #[{ on := 18, ground := Ground.data }, { on := 19, ground := Ground.data }, { on := 15, ground := Ground.guard }], guard := some (15, false) }) (v := undef) rfl (by kernel_rfl) (by kernel_rfl) (by kernel_rfl) (fun _ _ _ h => h) (Or.inr ⟨by rfl, rfl⟩) (by assumption) ?_
              try simp only [Act.put, List.setIfInBounds_toArray, List.set_cons_zero, List.set_cons_succ]
              refine tk (oi := { dst := some 102, op := Op.pick (Operand.tmp 96) (Operand.const (Value.bool true)) (Operand.tmp 101), type := 4, pos := "law.go:268", after := #[{ on := 15, ground := Ground.data }, { on := 20, ground := Ground.data }, { on := 12, ground := Ground.guard }], guard := some (12, true) }) (v := ?_) 21 rfl ?_ ?_
              rotate_left
              · (intro w hSw; (try dsimp only at hSw); first | (go_simp; done) | (go_simp; with_reducible rfl))
              try simp only [Act.put, List.setIfInBounds_toArray, List.set_cons_zero, List.set_cons_succ]
              refine tk (oi := { dst := some 103, op := Op.pick (Operand.tmp 93) (Operand.tmp 102) (Operand.const (Value.bool false)), type := 4, pos := "law.go:268", after := #[{ on := 12, ground := Ground.data }, { on := 21, ground := Ground.data }], guard := none }) (v := ?_) 22 rfl ?_ ?_
              rotate_left
              · (intro w hSw; (try dsimp only at hSw); first | (go_simp; done) | (go_simp; with_reducible rfl))
              try simp only [Act.put, List.setIfInBounds_toArray, List.set_cons_zero, List.set_cons_succ]
              refine tk (oi := { dst := some 6, op := Op.assign (Operand.tmp 103), type := 4, pos := "law.go:268", after := #[{ on := 22, ground := Ground.data }, { on := 15, ground := Ground.chain }, { on := 0, ground := Ground.phase }, { on := 1, ground := Ground.phase }, { on := 2, ground := Ground.phase }, { on := 3, ground := Ground.phase }, { on := 4, ground := Ground.phase }, { on := 5, ground := Ground.phase }, { on := 6, ground := Ground.phase }, { on := 7, ground := Ground.phase }, { on := 8, ground := Ground.phase }, { on := 9, ground := Ground.phase }, { on := 10, ground := Ground.phase }, { on := 11, ground := Ground.phase }, { on := 12, ground := Ground.phase }, { on := 13, ground := Ground.phase }, { on := 14, ground := Ground.phase }, { on := 15, ground := Ground.phase }, { on := 16, ground := Ground.phase }, { on := 17, ground := Ground.phase }, { on := 18, ground := Ground.phase }, { on := 19, ground := Ground.phase }, { on := 20, ground := Ground.phase }, { on := 21, ground := Ground.phase }, { on := 22, ground := Ground.phase }], guard := none }) (v := ?_) 23 rfl ?_ ?_
              rotate_left
              · (intro w hSw; (try dsimp only at hSw); first | (go_simp; done) | (go_simp; with_reducible rfl))
              try simp only [Act.put, List.setIfInBounds_toArray, List.set_cons_zero, List.set_cons_succ]
              refine wpAnyH_done (by kernel_rfl) ?_ _
              go_wp2_with (fail)
              go_ret
              exact ⟨rfl, HB14.out⟩
            | cons e0 N' =>
              go_wp2_with (fail)
              refine (get_is b s1 1099511627776 M (some e0) w9 HG.out HT9.out (by omega) HP.out).mono ?_
              rintro e w10 ⟨rfl, hb⟩
              unfold getV
              obtain ⟨w10a, hw10a⟩ : ∃ z, z = w10.alloc (.cells #[.string e0.k, .int .i64 e0.q, .bool e0.d, .string e0.v] 23) := ⟨_, rfl⟩
              have HB10 := Lib.hid (show Bel w9 w10a by rw [hw10a]; exact hb.alloc _)
              have HX := Lib.hid (show w10a.cell? ⟨w10.heap.size, 0, none⟩ = some (.string e0.k) ∧ w10a.cell? ⟨w10.heap.size, 1, none⟩ = some (.int .i64 e0.q) ∧ w10a.cell? ⟨w10.heap.size, 2, none⟩ = some (.bool e0.d) ∧ w10a.cell? ⟨w10.heap.size, 3, none⟩ = some (.string e0.v) by
                have hbk : w10a.heap[w10.heap.size]? = some (.cells #[.string e0.k, .int .i64 e0.q, .bool e0.d, .string e0.v] 23 (0, 0)) := by rw [hw10a]; exact heap_alloc_new w10 _
                refine ⟨?_, ?_, ?_, ?_⟩ <;> simp [World.cell?, hbk])
              clear hb
              go_wp2_with (fail)
              try rw [← hw10a]
              generalize w10.heap.size = X at *
              clear hw10a
              refine (between_any10 b s1 _ M _ (HT9.out.bel HB10.out) (by omega) HP.out).mono ?_
              rintro e w11 ⟨v11, rfl, ho, hb⟩
              rw [cat_list] at ho
              replace ho := (show OwnG entEl _ w11 v11 (betE s1.data.toList (s1.data.toList ++ [0]) M) from ho)
              rw [← HN.out] at ho
              obtain ⟨g, c11, rfl, -, -, hcells⟩ := own_tab ho (by simp)
              have HY := Lib.hid (show w11.cell? ⟨g, 0, none⟩ = some (.string e0.k) ∧ w11.cell? ⟨g, 1, none⟩ = some (.int .i64 e0.q) ∧ w11.cell? ⟨g, 2, none⟩ = some (.bool e0.d) ∧ w11.cell? ⟨g, 3, none⟩ = some (.string e0.v) from ⟨hcells 0 _ rfl, hcells 1 _ rfl, hcells 2 _ rfl, hcells 3 _ rfl⟩)
              have HX11 := Lib.hid (cells4z hb HX.out)
              have HB11 := Lib.hid (HB10.out.trans hb)
              clear ho hb hcells
              obtain ⟨n, hn⟩ : ∃ n, (e0 :: N').length = n := ⟨_, rfl⟩
              have hn0 : (0 : Int) < (n : Int) := by rw [← hn, List.length_cons]; omega
              have hn1 : 0 < n := by omega
              rw [hn]
              clear hn
              go_wp2_with (fail)
              refine wp_region_held_drew (S := fun z => (z.cell? ⟨g, 0, none⟩ = some (.string e0.k) ∧ z.cell? ⟨g, 1, none⟩ = some (.int .i64 e0.q) ∧ z.cell? ⟨g, 2, none⟩ = some (.bool e0.d) ∧ z.cell? ⟨g, 3, none⟩ = some (.string e0.v)) ∧ z.cell? ⟨X, 0, none⟩ = some (.string e0.k) ∧ z.cell? ⟨X, 1, none⟩ = some (.int .i64 e0.q) ∧ z.cell? ⟨X, 2, none⟩ = some (.bool e0.d) ∧ z.cell? ⟨X, 3, none⟩ = some (.string e0.v)) (by kernel_rfl) ⟨HY.out, HX11.out⟩ (fun hHeld => ?_)
              refine tk (oi := { dst := some 81, op := Op.move (Operand.tmp 13), type := 26, pos := "law.go:268", after := #[], guard := none }) (v := ?_) 0 rfl ?_ ?_
              rotate_left
              · (intro w hSw; (try dsimp only at hSw); first | (go_simp; done) | (go_simp; with_reducible rfl))
              try simp only [Act.put, List.setIfInBounds_toArray, List.set_cons_zero, List.set_cons_succ]
              refine tk (oi := { dst := some 82, op := Op.move (Operand.tmp 11), type := 40, pos := "law.go:268", after := #[], guard := none }) (v := ?_) 1 rfl ?_ ?_
              rotate_left
              · (intro w hSw; (try dsimp only at hSw); first | (go_simp; done) | (go_simp; with_reducible rfl))
              try simp only [Act.put, List.setIfInBounds_toArray, List.set_cons_zero, List.set_cons_succ]
              refine tk (oi := { dst := some 83, op := Op.move (Operand.tmp 1), type := 9, pos := "law.go:268", after := #[], guard := none }) (v := ?_) 2 rfl ?_ ?_
              rotate_left
              · (intro w hSw; (try dsimp only at hSw); first | (go_simp; done) | (go_simp; with_reducible rfl))
              try simp only [Act.put, List.setIfInBounds_toArray, List.set_cons_zero, List.set_cons_succ]
              refine wpAnyH_ready (rs := [3]) (by kernel_rfl) (by simp) ?_
              refine AllReadyH.cons (o := { dst := some 84, op := Op.call { callee := Callee.value (Operand.func 27), args := #[Operand.tmp 82, Operand.tmp 83, Operand.const (Value.string { data := #[] })], argTypes := #[40, 9, 9] }, type := 26, pos := "law.go:268", after := #[{ on := 1, ground := Ground.data }, { on := 2, ground := Ground.data }], guard := none }) rfl (fun K hK => ?_) AllReadyH.nil
              go_simp
              refine (between_any10 b s1 ⟨#[]⟩ M _ (HT9.out.bel HB11.out.drew) (by omega) HP.out).mono ?_
              rintro r w13 ⟨v13, rfl, ho, hb⟩
              rw [nil_data, ← HA.out] at ho
              obtain ⟨q13, c13, rfl, hat13⟩ := ownG_ents ho
              have hb11 : Bel w11 w13 := (Bel.refl w11).drew.trans hb
              have HB13 := Lib.hid (HB11.out.drew.trans hb)
              have HA13 := Lib.hid hat13
              dsimp only
              refine hK.out _ _ ⟨cells4z hb11 HY.out, cells4z hb11 HX11.out⟩ (fun hHeld => ?_)
              clear hK K hb ho hat13
              try simp only [Act.put, List.setIfInBounds_toArray, List.set_cons_zero, List.set_cons_succ]
              refine wpAnyH_ready (rs := [4]) (by kernel_rfl) (by simp) ?_
              refine AllReadyH.cons (o := { dst := some 85, op := Op.call { callee := Callee.value (Operand.func 26), args := #[Operand.tmp 81, Operand.tmp 84], argTypes := #[26, 26] }, type := 4, pos := "law.go:268", after := #[{ on := 0, ground := Ground.data }, { on := 3, ground := Ground.data }, { on := 3, ground := Ground.chain }], guard := none }) rfl (fun K hK => ?_) AllReadyH.nil
              go_simp
              refine (same10_at qa q13 _ _ ca c13 A w13 (HAA.out.bel HB13.out) HA13.out (by omega) rfl rfl).mono ?_
              rintro r w14 ⟨rfl, hd⟩
              have HB14 := Lib.hid (HB9.out.trans (HB13.out.trans hd.bel))
              have hb14 := hb11.trans hd.bel
              dsimp only
              refine hK.out _ _ ⟨cells4z hb14 HY.out, cells4z hb14 HX11.out⟩ (fun hHeld => ?_)
              clear hK K hd hb14 hb11
              try simp only [Act.put, List.setIfInBounds_toArray, List.set_cons_zero, List.set_cons_succ]
              refine tk (oi := { dst := some 86, op := Op.move (Operand.tmp 85), type := 4, pos := "law.go:268", after := #[{ on := 4, ground := Ground.data }, { on := 4, ground := Ground.chain }], guard := none }) (v := ?_) 5 rfl ?_ ?_
              rotate_left
              · (intro w hSw; (try dsimp only at hSw); first | (go_simp; done) | (go_simp; with_reducible rfl))
              try simp only [Act.put, List.setIfInBounds_toArray, List.set_cons_zero, List.set_cons_succ]
              refine tk (oi := { dst := some 87, op := Op.move (Operand.tmp 15), type := 4, pos := "law.go:268", after := #[{ on := 5, ground := Ground.guard }], guard := some (5, true) }) (v := ?_) 6 rfl ?_ ?_
              rotate_left
              · (intro w hSw; (try dsimp only at hSw); first | (go_simp; done) | (go_simp; with_reducible rfl))
              try simp only [Act.put, List.setIfInBounds_toArray, List.set_cons_zero, List.set_cons_succ]
              refine tk (oi := { dst := some 88, op := Op.move (Operand.tmp 16), type := 26, pos := "law.go:268", after := #[{ on := 5, ground := Ground.guard }], guard := some (5, true) }) (v := ?_) 7 rfl ?_ ?_
              rotate_left
              · (intro w hSw; (try dsimp only at hSw); first | (go_simp; done) | (go_simp; with_reducible rfl))
              try simp only [Act.put, List.setIfInBounds_toArray, List.set_cons_zero, List.set_cons_succ]
              refine tk (oi := { dst := some 89, op := Op.call { callee := Callee.builtin Builtin.len, args := #[Operand.tmp 88], argTypes := #[26] }, type := 3, pos := "law.go:268", after := #[{ on := 7, ground := Ground.data }, { on := 5, ground := Ground.guard }], guard := some (5, true) }) (v := ?_) 8 rfl ?_ ?_
              rotate_left
              · (intro w hSw; (try dsimp only at hSw); first | (go_simp; done) | (go_simp; with_reducible rfl))
              try simp only [Act.put, List.setIfInBounds_toArray, List.set_cons_zero, List.set_cons_succ]
              refine tk (oi := { dst := some 90, op := Op.binOp BinOp.gtr 3 (Operand.tmp 89) (Operand.const (Value.int IntKind.i64 0)) 3, type := 4, pos := "law.go:268", after := #[{ on := 8, ground := Ground.data }, { on := 5, ground := Ground.guard }], guard := some (5, true) }) (v := ?_) 9 rfl ?_ ?_
              rotate_left
              · (intro w hSw; (try dsimp only at hSw); first | (go_simp; done) | (go_simp; with_reducible rfl))
              try simp only [Act.put, List.setIfInBounds_toArray, List.set_cons_zero, List.set_cons_succ]
              try simp only [hn1, decide_true]
              refine tk (oi := { dst := some 91, op := Op.binOp BinOp.eql 4 (Operand.tmp 87) (Operand.tmp 90) 4, type := 4, pos := "law.go:268", after := #[{ on := 6, ground := Ground.data }, { on := 9, ground := Ground.data }, { on := 5, ground := Ground.guard }], guard := some (5, true) }) (v := ?_) 10 rfl ?_ ?_
              rotate_left
              · (intro w hSw; (try dsimp only at hSw); first | (go_simp; done) | (go_simp; with_reducible rfl))
              try simp only [Act.put, List.setIfInBounds_toArray, List.set_cons_zero, List.set_cons_succ]
              refine tk (oi := { dst := some 92, op := Op.pick (Operand.tmp 86) (Operand.tmp 91) (Operand.const (Value.bool false)), type := 4, pos := "law.go:268", after := #[{ on := 5, ground := Ground.data }, { on := 10, ground := Ground.data }], guard := none }) (v := ?_) 11 rfl ?_ ?_
              rotate_left
              · (intro w hSw; (try dsimp only at hSw); first | (go_simp; done) | (go_simp; with_reducible rfl))
              try simp only [Act.put, List.setIfInBounds_toArray, List.set_cons_zero, List.set_cons_succ]
              refine tk (oi := { dst := some 93, op := Op.move (Operand.tmp 92), type := 4, pos := "law.go:268", after := #[{ on := 11, ground := Ground.data }, { on := 5, ground := Ground.chain }], guard := none }) (v := ?_) 12 rfl ?_ ?_
              rotate_left
              · (intro w hSw; (try dsimp only at hSw); first | (go_simp; done) | (go_simp; with_reducible rfl))
              try simp only [Act.put, List.setIfInBounds_toArray, List.set_cons_zero, List.set_cons_succ]
              refine tk (oi := { dst := some 94, op := Op.move (Operand.tmp 15), type := 4, pos := "law.go:268", after := #[{ on := 12, ground := Ground.guard }], guard := some (12, true) }) (v := ?_) 13 rfl ?_ ?_
              rotate_left
              · (intro w hSw; (try dsimp only at hSw); first | (go_simp; done) | (go_simp; with_reducible rfl))
              try simp only [Act.put, List.setIfInBounds_toArray, List.set_cons_zero, List.set_cons_succ]
              refine tk (oi := { dst := some 95, op := Op.unOp UnOp.not 4 (Operand.tmp 94), type := 4, pos := "law.go:268", after := #[{ on := 13, ground := Ground.data }, { on := 12, ground := Ground.guard }], guard := some (12, true) }) (v := ?_) 14 rfl ?_ ?_
              rotate_left
              · (intro w hSw; (try dsimp only at hSw); first | (go_simp; done) | (go_simp; with_reducible rfl))
              try simp only [Act.put, List.setIfInBounds_toArray, List.set_cons_zero, List.set_cons_succ]
              refine tk (oi := { dst := some 96, op := Op.move (Operand.tmp 95), type := 4, pos := "law.go:268", after := #[{ on := 14, ground := Ground.data }, { on := 12, ground := Ground.chain }, { on := 12, ground := Ground.guard }], guard := some (12, true) }) (v := ?_) 15 rfl ?_ ?_
              rotate_left
              · (intro w hSw; (try dsimp only at hSw); first | (go_simp; done) | (go_simp; with_reducible rfl))
              try simp only [Act.put, List.setIfInBounds_toArray, List.set_cons_zero, List.set_cons_succ]
              refine tk (oi := { dst := some 97, op := Op.move (Operand.tmp 16), type := 26, pos := "law.go:268", after := #[{ on := 15, ground := Ground.guard }], guard := some (15, false) }) (v := ?_) 16 rfl ?_ ?_
              rotate_left
              · (intro w hSw; (try dsimp only at hSw); first | (go_simp; done) | (go_simp; with_reducible rfl))
              try simp only [Act.put, List.setIfInBounds_toArray, List.set_cons_zero, List.set_cons_succ]
              refine tk (oi := { dst := some 98, op := Op.indexAddr 26 (Operand.tmp 97) (Operand.const (Value.int IntKind.i64 0)), type := 0, pos := "law.go:268", after := #[{ on := 16, ground := Ground.data }, { on := 15, ground := Ground.guard }], guard := some (15, false) }) (v := ?_) 17 rfl ?_ ?_
              rotate_left
              · (intro w hSw; (try dsimp only at hSw); first | (go_simp; done) | (go_simp; with_reducible rfl))
              try simp only [Act.put, List.setIfInBounds_toArray, List.set_cons_zero, List.set_cons_succ]
              refine tk (oi := { dst := some 99, op := Op.load 23 (Operand.tmp 98), type := 23, pos := "law.go:268", after := #[{ on := 17, ground := Ground.data }, { on := 15, ground := Ground.guard }], guard := some (15, false) }) (v := ?_) 18 rfl ?_ ?_
              rotate_left
              · (intro w hSw; (try dsimp only at hSw); first | (go_simp; done) | (go_simp; with_reducible rfl))
              try simp only [Act.put, List.setIfInBounds_toArray, List.set_cons_zero, List.set_cons_succ]
              refine tk (oi := { dst := some 100, op := Op.load 23 (Operand.tmp 14), type := 23, pos := "law.go:268", after := #[{ on := 15, ground := Ground.guard }], guard := some (15, false) }) (v := ?_) 19 rfl ?_ ?_
              rotate_left
              · (intro w hSw; (try dsimp only at hSw); first | (go_simp; done) | (go_simp; with_reducible rfl))
              try simp only [Act.put, List.setIfInBounds_toArray, List.set_cons_zero, List.set_cons_succ]
              refine tk (oi := { dst := some 101, op := Op.binOp BinOp.eql 23 (Operand.tmp 99) (Operand.tmp 100) 23, type := 4, pos := "law.go:268", after := #[{ on := 18, ground := Ground.data }, { on := 19, ground := Ground.data }, { on := 15, ground := Ground.guard }], guard := some (15, false) }) (v := ?_) 20 rfl ?_ ?_
              rotate_left
              · (intro w hSw; (try dsimp only at hSw); first | (go_simp; done) | (go_simp; with_reducible rfl))
              try simp only [Act.put, List.setIfInBounds_toArray, List.set_cons_zero, List.set_cons_succ]
              refine tk (oi := { dst := some 102, op := Op.pick (Operand.tmp 96) (Operand.const (Value.bool true)) (Operand.tmp 101), type := 4, pos := "law.go:268", after := #[{ on := 15, ground := Ground.data }, { on := 20, ground := Ground.data }, { on := 12, ground := Ground.guard }], guard := some (12, true) }) (v := ?_) 21 rfl ?_ ?_
              rotate_left
              · (intro w hSw; (try dsimp only at hSw); first | (go_simp; done) | (go_simp; with_reducible rfl))
              try simp only [Act.put, List.setIfInBounds_toArray, List.set_cons_zero, List.set_cons_succ]
              refine tk (oi := { dst := some 103, op := Op.pick (Operand.tmp 93) (Operand.tmp 102) (Operand.const (Value.bool false)), type := 4, pos := "law.go:268", after := #[{ on := 12, ground := Ground.data }, { on := 21, ground := Ground.data }], guard := none }) (v := ?_) 22 rfl ?_ ?_
              rotate_left
              · (intro w hSw; (try dsimp only at hSw); first | (go_simp; done) | (go_simp; with_reducible rfl))
              try simp only [Act.put, List.setIfInBounds_toArray, List.set_cons_zero, List.set_cons_succ]
              refine tk (oi := { dst := some 6, op := Op.assign (Operand.tmp 103), type := 4, pos := "law.go:268", after := #[{ on := 22, ground := Ground.data }, { on := 15, ground := Ground.chain }, { on := 0, ground := Ground.phase }, { on := 1, ground := Ground.phase }, { on := 2, ground := Ground.phase }, { on := 3, ground := Ground.phase }, { on := 4, ground := Ground.phase }, { on := 5, ground := Ground.phase }, { on := 6, ground := Ground.phase }, { on := 7, ground := Ground.phase }, { on := 8, ground := Ground.phase }, { on := 9, ground := Ground.phase }, { on := 10, ground := Ground.phase }, { on := 11, ground := Ground.phase }, { on := 12, ground := Ground.phase }, { on := 13, ground := Ground.phase }, { on := 14, ground := Ground.phase }, { on := 15, ground := Ground.phase }, { on := 16, ground := Ground.phase }, { on := 17, ground := Ground.phase }, { on := 18, ground := Ground.phase }, { on := 19, ground := Ground.phase }, { on := 20, ground := Ground.phase }, { on := 21, ground := Ground.phase }, { on := 22, ground := Ground.phase }], guard := none }) (v := ?_) 23 rfl ?_ ?_
              rotate_left
              · (intro w hSw; (try dsimp only at hSw); first | (go_simp; done) | (go_simp; with_reducible rfl))
              try simp only [Act.put, List.setIfInBounds_toArray, List.set_cons_zero, List.set_cons_succ]
              refine wpAnyH_done (by kernel_rfl) ?_ _
              go_wp2_with (fail)
              go_ret
              exact ⟨rfl, HB14.out⟩
        · have hz' : (1500 : Int) < s2.size := by omega
          clear hgt
          go_wp2_with (fail)
          go_ret
          exact ⟨rfl, HB2.out⟩
  · go_wp2_with (fail)
    go_ret
    exact ⟨rfl, HB2.out⟩
end Go.Proofs.YtllcdhbchcpdoaaGreatDoor
