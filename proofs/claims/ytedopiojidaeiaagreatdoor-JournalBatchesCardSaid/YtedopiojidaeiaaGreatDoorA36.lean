/- JSame, JShown, laid together. -/
import Derived.Test.YtedopiojidaeiaaGreatDoorA35
import Derived.Test.YtedopiojidaeiaaGreatDoorA20
/- moultlaw7's pick, same, sameAll, sameInts. -/
set_option linter.unusedSimpArgs false
set_option linter.unusedVariables false
namespace Go.Proofs.YtedopiojidaeiaaGreatDoor
open Go.RowKit Go.Deep Go.Maps

theorem jpick_same (c : Int) (n : Nat) (w : World) (hc : in64 c) (hn : 0 < n) (hn2 : n ≤ 1000000) :
    Calls Tryz.prog 16 #[.int .i64 c, .int .i64 n] w fun e w' => e = .returned (.int .i64 (pickN c n : Nat)) ∧ w' = w := by
  obtain ⟨h1, h2⟩ := hc
  by_cases h : c < 0
  · obtain ⟨m, rfl⟩ : ∃ m : Nat, c = -(m : Int) - 1 := ⟨(-(c + 1)).toNat, by omega⟩
    have HP := Lib.hid (show ((pickN (-(m : Int) - 1) n : Nat) : Int) = (m : Int) % (n : Int) by
      unfold pickN
      rw [if_pos h, show (-(-(m : Int) - 1 + 1)).toNat = m by omega, Int.natCast_emod])
    go_enter Tryz.func16, Tryz.ntmps16
    go_wp2
    go_ret
    exact ⟨ret_int (by rw [HP.out]), rfl⟩
  · obtain ⟨m, rfl⟩ : ∃ m : Nat, c = m := ⟨c.toNat, by omega⟩
    have HP := Lib.hid (show ((pickN m n : Nat) : Int) = (m : Int) % (n : Int) by
      unfold pickN
      rw [if_neg h, Int.toNat_natCast, Int.natCast_emod])
    go_enter Tryz.func16, Tryz.ntmps16
    go_wp2
    go_ret
    exact ⟨ret_int (by rw [HP.out]), rfl⟩
theorem jpick_at (c x : Int) (n : Nat) (w : World) (hc : in64 c) (hn : 0 < n) (hn2 : n ≤ 1000000) (hx : x = n) :
    Calls Tryz.prog 16 #[.int .i64 c, .int .i64 x] w fun e w' => e = .returned (.int .i64 (pickN c n : Nat)) ∧ w' = w := by
  subst hx; exact jpick_same c n w hc hn hn2

theorem take_ext {α : Type} [Inhabited α] {l m : List α} {k : Nat} (hk : k < l.length) (hk' : k < m.length) (h : l.take k = m.take k) (he : l[k] = m[k]) : l.take (k + 1) = m.take (k + 1) := by
  rw [List.take_add_one, List.take_add_one, List.getElem?_eq_getElem hk, List.getElem?_eq_getElem hk', h, he]
def SeRel {α : Type} (l m : List α) (i : Value) : Prop := ∃ k : Nat, i = .int .i64 k ∧ k ≤ l.length ∧ l.take k = m.take k
theorem ne_at {α : Type} {l m : List α} {k : Nat} (hk : k < l.length) (hk' : k < m.length) (h : l[k] ≠ m[k]) : l ≠ m := by
  rintro rfl; exact h rfl
set_option maxHeartbeats 4000000 in
theorem jsame_any (w : World) (p q : Option Addr) (cap cap' : Nat) (l m : List (List UInt8)) (h : StrsAt w p l) (h' : StrsAt w q m) (hl : l.length ≤ 1000000) (hm : m.length ≤ 1000000) :
    Calls Tryz.prog 15 #[.slice p l.length cap, .slice q m.length cap'] w fun e w' => e = .returned (.bool (decide (l = m))) ∧ Drw w w' := by
  have H := Lib.hid h; clear h
  have H' := Lib.hid h'; clear h'
  by_cases hlen : l.length = m.length
  · have HLN := Lib.hid hlen
    go_enter Tryz.func15, Tryz.ntmps15
    go_wp2_with (fail)
    go_loopw [5] (fun i x => SeRel l m i ∧ Drw w x) (fun i _ => l.length - (intOf i).toNat)
    case atStart => exact ⟨⟨0, rfl, Nat.zero_le _, by simp⟩, Drw.refl w⟩
    case round =>
      obtain ⟨⟨k, rfl, hk, htk⟩, hw⟩ := hrel
      have HW := Lib.hid hw; clear hw
      have HT := Lib.hid htk; clear htk
      by_cases hlt : k < l.length
      · have hlt' : k < m.length := by omega
        obtain ⟨a, rfl, hc⟩ := (H.out.bel HW.out.bel) k hlt
        obtain ⟨b, rfl, hd⟩ := (H'.out.bel HW.out.bel) k hlt'
        by_cases he : l[k] = m[k]
        · have HN := Lib.hid (take_ext hlt hlt' HT.out he)
          rw [← he] at hd
          obtain ⟨x, hx⟩ : ∃ x, x = l[k] := ⟨_, rfl⟩
          rw [← hx] at hc hd
          clear hx he
          go_wp2_with (fail)
          go_quiet (fail)
          go_wp2_with (fail)
          go_roundw
          case rel => exact ⟨⟨k + 1, by go_num, by omega, HN.out⟩, HW.out.drewN _⟩
          case measure => simp [intOf]; omega
        · have HE := Lib.hid (show decide (l = m) = false from decide_eq_false (ne_at hlt hlt' he))
          obtain ⟨x, hx⟩ : ∃ x, x = l[k] := ⟨_, rfl⟩
          obtain ⟨y, hy⟩ : ∃ y, y = m[k] := ⟨_, rfl⟩
          rw [← hx] at hc he
          rw [← hy] at hd he
          clear hx hy
          have q1 : (x == y) = false := by rw [beq_eq_false_iff_ne]; exact he
          have q2 : ((⟨x.toArray⟩ : ByteArray).toList == (⟨y.toArray⟩ : ByteArray).toList) = false := by rw [beq_eq_false_iff_ne, ByteArray.toList_eq, ByteArray.toList_eq, str_list, str_list]; exact he
          have q3 : ((⟨x.toArray⟩ : ByteArray).toList != (⟨y.toArray⟩ : ByteArray).toList) = true := by rw [bne, q2]; rfl
          have q4 : (x != y) = true := by rw [bne, q1]; rfl
          go_wp2_with (fail)
          go_quiet (fail)
          go_wp2_with (fail)
          go_ret
          exact ⟨by rw [HE.out]; rfl, HW.out.drewN _⟩
      · obtain rfl : k = l.length := by omega
        have HE := Lib.hid (show decide (l = m) = true by
          have := HT.out
          rw [List.take_length, HLN.out, List.take_length] at this
          exact decide_eq_true this)
        go_wp2_with (fail)
        go_ret
        exact ⟨by rw [HE.out]; rfl, HW.out⟩
  · have HE := Lib.hid (show decide (l = m) = false from decide_eq_false (fun e => hlen (by rw [e])))
    have hz : ((l.length : Int) == (m.length : Int)) = false := by rw [beq_eq_false_iff_ne]; omega
    have hz2 : ((l.length : Int) != (m.length : Int)) = true := by rw [bne, hz]; rfl
    go_enter Tryz.func15, Tryz.ntmps15
    go_wp2_with (fail)
    go_ret
    exact ⟨by rw [HE.out]; rfl, Drw.refl w⟩
set_option maxHeartbeats 4000000 in
theorem jints_any (w : World) (va vb : Value) (l m : List Nat) (B B' : Nat) (h : OwnG intEl B w va (l.map fun n : Nat => (n : Int))) (h' : OwnG intEl B' w vb (m.map fun n : Nat => (n : Int))) (hl : l.length ≤ 1000000) (hm : m.length ≤ 1000000) :
    Calls Tryz.prog 35 #[va, vb] w fun e w' => e = .returned (.bool (decide (l = m))) ∧ Drw w w' := by
  obtain ⟨p, cap, hva⟩ := ownG_len h
  rw [List.length_map] at hva
  obtain ⟨q, cap', hvb⟩ := ownG_len h'
  rw [List.length_map] at hvb
  subst hva hvb
  have H := Lib.hid h; clear h
  have H' := Lib.hid h'; clear h'
  by_cases hlen : l.length = m.length
  · have HLN := Lib.hid hlen
    go_enter Tryz.func35, Tryz.ntmps35
    go_wp2_with (fail)
    go_loopw [5] (fun i x => SeRel l m i ∧ Drw w x) (fun i _ => l.length - (intOf i).toNat)
    case atStart => exact ⟨⟨0, rfl, Nat.zero_le _, by simp⟩, Drw.refl w⟩
    case round =>
      obtain ⟨⟨k, rfl, hk, htk⟩, hw⟩ := hrel
      have HW := Lib.hid hw; clear hw
      have HT := Lib.hid htk; clear htk
      by_cases hlt : k < l.length
      · have hlt' : k < m.length := by omega
        obtain ⟨g, c1, hv, _, _, hc⟩ := int_at (H.out.bel HW.out.bel) k hlt
        simp only [Value.slice.injEq, true_and] at hv
        obtain ⟨rfl, rfl⟩ := hv
        obtain ⟨g2, c2, hv, _, _, hd⟩ := int_at (H'.out.bel HW.out.bel) k hlt'
        simp only [Value.slice.injEq, true_and] at hv
        obtain ⟨rfl, rfl⟩ := hv
        by_cases he : l[k] = m[k]
        · have HN := Lib.hid (take_ext hlt hlt' HT.out he)
          rw [← he] at hd
          obtain ⟨x, hx⟩ : ∃ x, x = l[k] := ⟨_, rfl⟩
          rw [← hx] at hc hd
          clear hx he
          go_wp2_with (fail)
          go_quiet (fail)
          go_wp2_with (fail)
          go_roundw
          case rel => exact ⟨⟨k + 1, by go_num, by omega, HN.out⟩, HW.out.drewN _⟩
          case measure => simp [intOf]; omega
        · have HE := Lib.hid (show decide (l = m) = false from decide_eq_false (ne_at hlt hlt' he))
          obtain ⟨x, hx⟩ : ∃ x, x = l[k] := ⟨_, rfl⟩
          obtain ⟨y, hy⟩ : ∃ y, y = m[k] := ⟨_, rfl⟩
          rw [← hx] at hc he
          rw [← hy] at hd he
          clear hx hy
          have q1 : ((x : Int) == (y : Int)) = false := by rw [beq_eq_false_iff_ne]; omega
          have q4 : ((x : Int) != (y : Int)) = true := by rw [bne, q1]; rfl
          go_wp2_with (fail)
          go_quiet (fail)
          go_wp2_with (fail)
          go_ret
          exact ⟨by rw [HE.out]; rfl, HW.out.drewN _⟩
      · obtain rfl : k = l.length := by omega
        have HE := Lib.hid (show decide (l = m) = true by
          have := HT.out
          rw [List.take_length, HLN.out, List.take_length] at this
          exact decide_eq_true this)
        go_wp2_with (fail)
        go_ret
        exact ⟨by rw [HE.out]; rfl, HW.out⟩
  · have HE := Lib.hid (show decide (l = m) = false from decide_eq_false (fun e => hlen (by rw [e])))
    have hz : ((l.length : Int) == (m.length : Int)) = false := by rw [beq_eq_false_iff_ne]; omega
    have hz2 : ((l.length : Int) != (m.length : Int)) = true := by rw [bne, hz]; rfl
    go_enter Tryz.func35, Tryz.ntmps35
    go_wp2_with (fail)
    go_ret
    exact ⟨by rw [HE.out]; rfl, Drw.refl w⟩
theorem row_at {P : Nat → Prop} {x : World} {p : Option Addr} {L : List (List (List UInt8))} (h : RowL P x p L) (k : Nat) (hk : k < L.length) : ∃ a sp sc, p = some a ∧ x.cell? (a.add k) = some (.slice sp L[k].length sc) ∧ StrsAt x sp L[k] := by
  obtain ⟨H, h1, h2, h3⟩ := h.ex
  obtain ⟨a, ha, _, hc⟩ := h2 k H[k] (List.getElem?_eq_getElem (by omega))
  have q := h3 k H[k] L[k] (List.getElem?_eq_getElem (by omega)) (List.getElem?_eq_getElem hk)
  refine ⟨a, H[k].p, H[k].cap, ha, ?_, q.at_⟩
  rw [hc, SL.val, q.len]
set_option maxHeartbeats 4000000 in
theorem jall_any (w : World) (P Q : Nat → Prop) (p q : Option Addr) (cap cap' : Nat) (L M : List (List (List UInt8))) (h : RowL P w p L) (h' : RowL Q w q M) (hl : L.length ≤ 1000000000) (hm : M.length ≤ 1000000000) (hL : ∀ l ∈ L, l.length ≤ 1000000) (hM : ∀ l ∈ M, l.length ≤ 1000000) :
    Calls Tryz.prog 21 #[.slice p L.length cap, .slice q M.length cap'] w fun e w' => e = .returned (.bool (decide (L = M))) ∧ Bel w w' := by
  have H := Lib.hid h; clear h
  have H' := Lib.hid h'; clear h'
  have HL := Lib.hid hL
  have HM := Lib.hid hM
  clear hL hM
  by_cases hlen : L.length = M.length
  · have HLN := Lib.hid hlen
    have hzz : ((L.length : Int) == (M.length : Int)) = true := by rw [beq_iff_eq]; omega
    have hzb : ((L.length : Int) != (M.length : Int)) = false := by rw [bne, hzz]; rfl
    clear hlen
    go_enter Tryz.func21, Tryz.ntmps21
    go_wp2_with (fail)
    go_loopw [5] (fun i x => SeRel L M i ∧ Bel w x) (fun i _ => L.length - (intOf i).toNat)
    case atStart => exact ⟨⟨0, rfl, Nat.zero_le _, by simp⟩, Bel.refl w⟩
    case round =>
      obtain ⟨⟨k, rfl, hk, htk⟩, hw⟩ := hrel
      have HW := Lib.hid hw; clear hw
      have HT := Lib.hid htk; clear htk
      by_cases hlt : k < L.length
      · have hlt' : k < M.length := by rw [← HLN.out]; exact hlt
        obtain ⟨a, sp, sc, rfl, hc, ha⟩ := row_at (H.out.bel HW.out) k hlt
        obtain ⟨b, sq, sd, rfl, hd, hb⟩ := row_at (H'.out.bel HW.out) k hlt'
        have hx1 := HL.out _ (List.getElem_mem hlt)
        have hx2 := HM.out _ (List.getElem_mem hlt')
        have HN := Lib.hid (take_ext (l := L) (m := M) hlt hlt' HT.out)
        have HE := Lib.hid (show L[k] ≠ M[k] → decide (L = M) = false from fun he => decide_eq_false (ne_at hlt hlt' he))
        obtain ⟨x, hx⟩ : ∃ x, x = L[k] := ⟨_, rfl⟩
        obtain ⟨y, hy⟩ : ∃ y, y = M[k] := ⟨_, rfl⟩
        rw [← hx] at hc ha hx1 HN HE
        rw [← hy] at hd hb hx2 HN HE
        have HC := Lib.hid (fun z (hz : Bel _ z) => jsame_any z sp sq sc sd x y (ha.bel hz) (hb.bel hz) hx1 hx2)
        clear hx hy
        go_wp2_with (fail)
        refine wp_region_held_drew (S := fun z => z.cell? (a.add k) = some (.slice sp x.length sc) ∧ z.cell? (b.add k) = some (.slice sq y.length sd)) (by kernel_rfl) ⟨hc, hd⟩ (fun hHeld => ?_)
        refine wpAnyH_take (i := 0) (oi := { dst := some 17, op := Op.move (Operand.tmp 0), type := 41, pos := "law.go:38", after := #[], guard := none }) (v := ?_) rfl (by kernel_rfl) (by kernel_rfl) (by kernel_rfl) (fun _ _ _ h => h) (Or.inl ⟨by rfl, ?_⟩) (by assumption) ?_
        rotate_left
        · (intro w hSw; (try dsimp only at hSw); first | (go_simp; done) | (go_simp; with_reducible rfl))
        try simp only [Act.put, List.setIfInBounds_toArray, List.set_cons_zero, List.set_cons_succ]
        refine wpAnyH_take (i := 1) (oi := { dst := some 18, op := Op.move (Operand.tmp 5), type := 3, pos := "law.go:38", after := #[], guard := none }) (v := ?_) rfl (by kernel_rfl) (by kernel_rfl) (by kernel_rfl) (fun _ _ _ h => h) (Or.inl ⟨by rfl, ?_⟩) (by assumption) ?_
        rotate_left
        · (intro w hSw; (try dsimp only at hSw); first | (go_simp; done) | (go_simp; with_reducible rfl))
        try simp only [Act.put, List.setIfInBounds_toArray, List.set_cons_zero, List.set_cons_succ]
        refine wpAnyH_take (i := 2) (oi := { dst := some 19, op := Op.indexAddr 41 (Operand.tmp 17) (Operand.tmp 18), type := 0, pos := "law.go:38", after := #[{ on := 0, ground := Ground.data }, { on := 1, ground := Ground.data }], guard := none }) (v := ?_) rfl (by kernel_rfl) (by kernel_rfl) (by kernel_rfl) (fun _ _ _ h => h) (Or.inl ⟨by rfl, ?_⟩) (by assumption) ?_
        rotate_left
        · (intro w hSw; (try dsimp only at hSw); first | (go_simp; done) | (go_simp; with_reducible rfl))
        try simp only [Act.put, List.setIfInBounds_toArray, List.set_cons_zero, List.set_cons_succ]
        refine wpAnyH_take (i := 3) (oi := { dst := some 20, op := Op.load 22 (Operand.tmp 19), type := 22, pos := "law.go:38", after := #[{ on := 2, ground := Ground.data }], guard := none }) (v := ?_) rfl (by kernel_rfl) (by kernel_rfl) (by kernel_rfl) (fun _ _ _ h => h) (Or.inl ⟨by rfl, ?_⟩) (by assumption) ?_
        rotate_left
        · (intro w hSw; (try dsimp only at hSw); first | (go_simp; done) | (go_simp; with_reducible rfl))
        try simp only [Act.put, List.setIfInBounds_toArray, List.set_cons_zero, List.set_cons_succ]
        refine wpAnyH_take (i := 4) (oi := { dst := some 21, op := Op.move (Operand.tmp 1), type := 41, pos := "law.go:38", after := #[], guard := none }) (v := ?_) rfl (by kernel_rfl) (by kernel_rfl) (by kernel_rfl) (fun _ _ _ h => h) (Or.inl ⟨by rfl, ?_⟩) (by assumption) ?_
        rotate_left
        · (intro w hSw; (try dsimp only at hSw); first | (go_simp; done) | (go_simp; with_reducible rfl))
        try simp only [Act.put, List.setIfInBounds_toArray, List.set_cons_zero, List.set_cons_succ]
        refine wpAnyH_take (i := 5) (oi := { dst := some 22, op := Op.move (Operand.tmp 5), type := 3, pos := "law.go:38", after := #[], guard := none }) (v := ?_) rfl (by kernel_rfl) (by kernel_rfl) (by kernel_rfl) (fun _ _ _ h => h) (Or.inl ⟨by rfl, ?_⟩) (by assumption) ?_
        rotate_left
        · (intro w hSw; (try dsimp only at hSw); first | (go_simp; done) | (go_simp; with_reducible rfl))
        try simp only [Act.put, List.setIfInBounds_toArray, List.set_cons_zero, List.set_cons_succ]
        refine wpAnyH_take (i := 6) (oi := { dst := some 23, op := Op.indexAddr 41 (Operand.tmp 21) (Operand.tmp 22), type := 0, pos := "law.go:38", after := #[{ on := 4, ground := Ground.data }, { on := 5, ground := Ground.data }], guard := none }) (v := ?_) rfl (by kernel_rfl) (by kernel_rfl) (by kernel_rfl) (fun _ _ _ h => h) (Or.inl ⟨by rfl, ?_⟩) (by assumption) ?_
        rotate_left
        · (intro w hSw; (try dsimp only at hSw); first | (go_simp; done) | (go_simp; with_reducible rfl))
        try simp only [Act.put, List.setIfInBounds_toArray, List.set_cons_zero, List.set_cons_succ]
        refine wpAnyH_take (i := 7) (oi := { dst := some 24, op := Op.load 22 (Operand.tmp 23), type := 22, pos := "law.go:38", after := #[{ on := 6, ground := Ground.data }], guard := none }) (v := ?_) rfl (by kernel_rfl) (by kernel_rfl) (by kernel_rfl) (fun _ _ _ h => h) (Or.inl ⟨by rfl, ?_⟩) (by assumption) ?_
        rotate_left
        · (intro w hSw; (try dsimp only at hSw); first | (go_simp; done) | (go_simp; with_reducible rfl))
        try simp only [Act.put, List.setIfInBounds_toArray, List.set_cons_zero, List.set_cons_succ]
        refine wpAnyH_ready (rs := [8]) (by kernel_rfl) (by simp) ?_
        refine AllReadyH.cons (o := { dst := some 25, op := Op.call { callee := Callee.value (Operand.func 15), args := #[Operand.tmp 20, Operand.tmp 24], argTypes := #[22, 22] }, type := 4, pos := "law.go:38", after := #[{ on := 3, ground := Ground.data }, { on := 7, ground := Ground.data }], guard := none }) rfl (fun K hK => ?_) AllReadyH.nil
        go_simp
        refine (HC.out _ (Bel.refl _).drew).mono ?_
        rintro e z ⟨rfl, hdz⟩
        have HZ := Lib.hid (HW.out.drew.trans hdz.bel)
        have hc' := cell_later hdz.bel (show _ = _ from hc)
        have hd' := cell_later hdz.bel (show _ = _ from hd)
        clear hdz
        dsimp only
        refine hK.out _ _ ⟨hc', hd'⟩ (fun hHeld => ?_)
        clear hK K
        try simp only [Act.put, List.setIfInBounds_toArray, List.set_cons_zero, List.set_cons_succ]
        by_cases he : x = y
        · have HN2 := Lib.hid (HN.out he)
          have hdx : decide (x = y) = true := decide_eq_true he
          rw [hdx]
          clear he
          refine wpAnyH_take (i := 9) (oi := { dst := some 26, op := Op.unOp UnOp.not 4 (Operand.tmp 25), type := 4, pos := "law.go:38", after := #[{ on := 8, ground := Ground.data }], guard := none }) (v := ?_) rfl (by kernel_rfl) (by kernel_rfl) (by kernel_rfl) (fun _ _ _ h => h) (Or.inl ⟨by rfl, ?_⟩) (by assumption) ?_
          rotate_left
          · (intro w hSw; (try dsimp only at hSw); first | (go_simp; done) | (go_simp; with_reducible rfl))
          try simp only [Act.put, List.setIfInBounds_toArray, List.set_cons_zero, List.set_cons_succ]
          refine wpAnyH_done (by kernel_rfl) ?_ _
          go_wp2_with (fail)
          go_roundw
          case rel => exact ⟨⟨k + 1, by go_num, by omega, HN2.out⟩, HZ.out⟩
          case measure => simp [intOf]; omega
        · have HE2 := Lib.hid (HE.out he)
          have hdx : decide (x = y) = false := decide_eq_false he
          rw [hdx]
          clear he
          refine wpAnyH_take (i := 9) (oi := { dst := some 26, op := Op.unOp UnOp.not 4 (Operand.tmp 25), type := 4, pos := "law.go:38", after := #[{ on := 8, ground := Ground.data }], guard := none }) (v := ?_) rfl (by kernel_rfl) (by kernel_rfl) (by kernel_rfl) (fun _ _ _ h => h) (Or.inl ⟨by rfl, ?_⟩) (by assumption) ?_
          rotate_left
          · (intro w hSw; (try dsimp only at hSw); first | (go_simp; done) | (go_simp; with_reducible rfl))
          try simp only [Act.put, List.setIfInBounds_toArray, List.set_cons_zero, List.set_cons_succ]
          refine wpAnyH_done (by kernel_rfl) ?_ _
          go_wp2_with (fail)
          go_ret
          exact ⟨by rw [HE2.out]; rfl, HZ.out⟩
      · obtain rfl : k = L.length := by omega
        have HE := Lib.hid (show decide (L = M) = true by
          have := HT.out
          rw [List.take_length, HLN.out, List.take_length] at this
          exact decide_eq_true this)
        go_wp2_with (fail)
        go_ret
        exact ⟨by rw [HE.out]; rfl, HW.out⟩
  · have HE := Lib.hid (show decide (L = M) = false from decide_eq_false (fun e => hlen (by rw [e])))
    have hz : ((L.length : Int) == (M.length : Int)) = false := by rw [beq_eq_false_iff_ne]; omega
    have hz2 : ((L.length : Int) != (M.length : Int)) = true := by rw [bne, hz]; rfl
    go_enter Tryz.func21, Tryz.ntmps21
    go_wp2_with (fail)
    go_ret
    exact ⟨by rw [HE.out]; rfl, Bel.refl w⟩
end Go.Proofs.YtedopiojidaeiaaGreatDoor
/- moultlaw7's shown. -/
set_option linter.unusedSimpArgs false
set_option linter.unusedVariables false
namespace Go.Proofs.YtedopiojidaeiaaGreatDoor
open Go.RowKit Go.Deep Go.Maps

/-- A journal and its files in blocks that were laid since w; of what lay in w nothing has turned. -/
def JSB (w x : World) (b : Nat) (M : RS) (jb : Nat) (p : ByteArray) (most : Int) : Prop := ∃ F, JS w.heap.size x b M F jb p most ∧ Bel w x
section
variable {w x y : World} {b jb : Nat} {M M1 : RS} {F : List Nat} {p : ByteArray} {most : Int}
theorem js_of (hs : Std w) (hb : Bel w x) (hp : ProgAt w.heap.size x b M F) (hM : M.ok) (hj : JAt x jb b p most) (ho : jb ∉ F) : JS w.heap.size x b M F jb p most :=
  ⟨hp, hM, hj, ho, fun z hz => hs.bel (((Keep.of_bel hb F).trans hz (fun k hk => Or.inl hk)).bel (fun k hk => (hp.within k hk).1))⟩
theorem JSB.bel (h : JSB w x b M jb p most) (hb : Bel x y) : JSB w y b M jb p most := by
  obtain ⟨F, h1, h2⟩ := h
  exact ⟨F, h1.bel hb, h2.trans hb⟩
theorem jsb_of (h : JS w.heap.size x b M F jb p most) (hb : Bel w x) (hT : ProgTo w.heap.size x y b M1 F) (hM : M1.ok) : JSB w y b M1 jb p most := by
  obtain ⟨F1, q1, q2, q3⟩ := h.step hT hM
  exact ⟨F1, q1, ((Keep.of_bel hb F).trans q2 (fun k hk => Or.inl hk)).bel (fun k hk => (h.prog.within k hk).1)⟩
theorem JSB.low (h : JSB w x b M jb p most) : Bel w x := by obtain ⟨F, _, h2⟩ := h; exact h2
theorem JSB.good (h : JSB w x b M jb p most) : M.ok := by obtain ⟨F, h1, _⟩ := h; exact h1.ok
theorem jsb_write (h : JSB w x b M jb p most) (hp : p.size ≤ 100) (lp : Option Addr) (lc : Nat) (L : List (List UInt8)) (h0 : lastN p.data.toList M.L ≠ 0) (h9 : lastN p.data.toList M.L < 9999999) (hmost : in64 most) {z : World} (hz : Bel x z)
    (hl : StrsAt z lp L) (hL : L.length ≤ maxLen) (ht : ∀ t ∈ L, t.length ≤ 1000000) :
    Calls Tryz.prog 30 #[.pointer (some ⟨jb, 0, none⟩), .slice lp L.length lc] z fun e y => e = .returned (.int .i64 (jwrite p.data.toList most L M).1) ∧ JSB w y b (jwrite p.data.toList most L M).2 jb p most := by
  obtain ⟨F, h1, h2⟩ := h.bel hz
  exact (write_any _ z b M F jb p most lp lc L h1 hp h0 h9 hmost hl hL ht).mono fun e y hq => ⟨hq.1, jsb_of h1 h2 hq.2 (jwrite_ok h1.ok _ _ _)⟩
theorem jsb_turn (h : JSB w x b M jb p most) (hp : p.size ≤ 100) (h9 : lastN p.data.toList M.L < 9999999) :
    Calls Tryz.prog 32 #[.pointer (some ⟨jb, 0, none⟩)] x fun e y => e = .returned (.int .i64 (jturn p.data.toList M).1) ∧ JSB w y b (jturn p.data.toList M).2 jb p most := by
  obtain ⟨F, h1, h2⟩ := h
  exact (jturn_any _ x b M F jb p most h1 hp h9).mono fun e y hq => ⟨hq.1, jsb_of h1 h2 hq.2 (jturn_ok h1.ok _)⟩
theorem jsb_num (h : JSB w x b M jb p most) (hp : p.size ≤ 100) :
    Calls Tryz.prog 33 #[.pointer (some ⟨jb, 0, none⟩)] x fun e y => e = .returned (.int .i64 (lastN p.data.toList M.L : Nat)) ∧ JSB w y b M jb p most ∧ Bel x y := by
  have h0 := h
  obtain ⟨F, h1, h2⟩ := h
  exact (num_any _ x jb b p most M F h1.prog h1.ok h1.j hp h1.std0).mono fun e y hq => ⟨hq.1, h0.bel hq.2, hq.2⟩
end
/-- A journal is opened over files of one's own. -/
theorem open_st {w x : World} {b : Nat} {M : RS} {F : List Nat} (hs : Std w) (hb : Bel w x) (hp : ProgAt w.heap.size x b M F) (hM : M.ok) (nm : ByteArray) (most : Int) (hnm : nm.size ≤ 100) (hr : M.room ≤ 1000000) {err : Int} {L : List (List (List UInt8))} {M' : RS} (hj : jopen nm.data.toList M = (err, L, M')) :
    Calls Tryz.prog 26 #[.pointer (some ⟨b, 0, none⟩), .string nm, .int .i64 most] x fun e y => ∃ jv v F', e = .returned (.tuple #[jv, v, .int .i64 err]) ∧ ProgAt w.heap.size y b M' F' ∧ Keep F x y ∧ (∀ k ∈ F', k ∈ F ∨ x.heap.size ≤ k) ∧ OwnQ x y F' v L ∧ Bel w y ∧ M'.ok ∧
      (err = 0 → ∃ jb, jv = .pointer (some ⟨jb, 0, none⟩) ∧ JS w.heap.size y b M' F' jb nm most ∧ Qb x y F' jb) ∧ (err ≠ 0 → jv = .pointer none) := by
  have hstd : ∀ z, Keep F x z → Std z := fun z hz => hs.bel (((Keep.of_bel hb F).trans hz (fun k hk => Or.inl hk)).bel (fun k hk => (hp.within k hk).1))
  refine (open_any _ x b M F nm most hp hM hstd hnm hr).mono ?_
  rintro e y ⟨jv, v, F', rfl, h1, h2, h3, h4, h5, h6⟩
  have hok := jopen_ok nm.data.toList hM
  rw [hj] at h1 h4 h5 h6 hok ⊢
  have hbl : Bel w y := ((Keep.of_bel hb F).trans h2 (fun k hk => Or.inl hk)).bel (fun k hk => (hp.within k hk).1)
  refine ⟨jv, v, F', rfl, h1, h2, h3, h4, hbl, hok, fun he => ?_, h6⟩
  obtain ⟨jb, q1, q2, q3⟩ := h5 he
  exact ⟨jb, q1, js_of hs hbl h1 hok q2 q3.2.2, q3⟩

def logP : List UInt8 := [108, 111, 103]
def fl1 : List UInt8 := [108, 111, 103, 46, 49]
def fl2 : List UInt8 := [108, 111, 103, 46, 50]
theorem file1 : fileN logP 1 = fl1 := by unfold fileN; rw [itoa_nat, digits_one 1 (by omega)]; rfl
theorem file2 : fileN logP 2 = fl2 := by unfold fileN; rw [itoa_nat, digits_one 2 (by omega)]; rfl
theorem seg1 : segN logP fl1 = 1 := by rw [← file1]; exact seg_file _ 1 (by omega) (by omega)
theorem seg2 : segN logP fl2 = 2 := by rw [← file2]; exact seg_file _ 2 (by omega) (by omega)
theorem segs1 (b : List UInt8) (s : Nat) : segsL logP [⟨fl1, b, s⟩] = [1] := by
  show (if segN logP fl1 = 0 then [] else insN (segN logP fl1) []) = _
  rw [seg1]; rfl
theorem last1 (b : List UInt8) (s : Nat) : lastN logP [⟨fl1, b, s⟩] = 1 := by unfold lastN; rw [segs1]; rfl
theorem last2 (b : List UInt8) (s : Nat) : lastN logP [⟨fl1, b, s⟩, ⟨fl2, [], 0⟩] = 2 := by
  have : segsL logP [⟨fl1, b, s⟩, ⟨fl2, [], 0⟩] = [1, 2] := by
    show (if segN logP fl2 = 0 then _ else insN (segN logP fl2) (if segN logP fl1 = 0 then [] else insN (segN logP fl1) [])) = _
    rw [seg1, seg2]; rfl
  unfold lastN; rw [this]; rfl
def fr1 : List UInt8 := frameL (encL [[97], [98]])
def fr2 : List UInt8 := frameL (encL [])
def sM1 : RS := ⟨[⟨fl1, [], 0⟩], 10000, -1, false⟩
def sM2 : RS := ⟨[⟨fl1, fr1, fr1.length⟩], 10000, -1, false⟩
def sM3 : RS := ⟨[⟨fl1, fr1 ++ fr2, fr1.length + fr2.length⟩], 10000, -1, false⟩
def sM4 : RS := ⟨[⟨fl1, fr1 ++ fr2, fr1.length + fr2.length⟩, ⟨fl2, [], 0⟩], 10000, -1, false⟩
theorem sh_open : jopen logP (newS 10000) = (0, [], sM1) := by
  unfold jopen
  rw [if_neg (by decide), if_neg (by decide), if_pos (by rfl)]
  unfold jturn
  rw [show lastN logP (newS 10000).L + 1 = 1 from rfl, file1]
  kernel_rfl
theorem sh_w1 : jwrite logP 100 [[97], [98]] sM1 = (0, sM2) := by
  have hr : jroom logP 100 sM1 = (0, sM1) := by
    unfold jroom
    rw [show lastN logP sM1.L = 1 from last1 _ _, file1]
    kernel_rfl
  unfold jwrite
  have hb : batchS [[97], [98]] = (encL [[97], [98]], 0) := by kernel_rfl
  have hp : jput fl1 fr1 sM1 = (0, sM2) := by kernel_rfl
  rw [hr, show lastN logP (0, sM1).2.L = 1 from last1 _ _, file1, hb]
  exact hp
theorem sh_w2 : jwrite logP 100 [] sM2 = (0, sM3) := by
  have hr : jroom logP 100 sM2 = (0, sM2) := by
    unfold jroom
    rw [show lastN logP sM2.L = 1 from last1 _ _, file1]
    kernel_rfl
  unfold jwrite
  have hb : batchS [] = (encL [], 0) := by kernel_rfl
  have hp : jput fl1 fr2 sM2 = (0, sM3) := by kernel_rfl
  rw [hr, show lastN logP (0, sM2).2.L = 1 from last1 _ _, file1, hb]
  exact hp
theorem sh_open2 : jopen logP sM3 = (0, [[[97], [98]], []], sM3) := by
  have hr : readL (fr1 ++ fr2) = ([[[97], [98]], []], (fr1 ++ fr2).length, 0) := by
    have := read_frames [[[97], [98]], []] [] (fun l hl => by
      simp only [List.mem_cons, List.not_mem_nil, or_false] at hl
      rcases hl with rfl | rfl <;> decide)
    simpa [fr1, fr2, read_nil] using this
  unfold jopen
  rw [if_neg (by decide), if_neg (by decide), show segsL logP sM3.L = [1] from segs1 _ _, if_neg (by simp)]
  have hb : bytesOf (fileN logP 1) sM3 = fr1 ++ fr2 := by rw [file1]; exact bytesOf_get (y := ⟨fl1, fr1 ++ fr2, fr1.length + fr2.length⟩) (by rfl)
  simp only [readSegs, hb, hr]
  simp
theorem sh_turn : jturn logP sM3 = (0, sM4) := by
  unfold jturn
  rw [show lastN logP sM3.L = 1 from last1 _ _, file2]
  kernel_rfl
theorem lit_strs (W : World) (arr : Array Value) (l : List (List UInt8)) (h : arr.toList = l.map fun t => .string ⟨t.toArray⟩) : StrsAt (W.alloc (.cells arr 9)) (some ⟨W.heap.size, 0, none⟩) l := by
  intro i hi
  refine ⟨_, rfl, ?_⟩
  have := cellsG_new (E := strEl) W arr 9 l (by rw [h]; induction l with
    | nil => rfl
    | cons x l ih => simp [El.all, strEl, List.flatMap_cons, List.map_eq_flatMap]) i (.string ⟨l[i].toArray⟩) (by
      have e : strEl.all l = l.map fun t => .string ⟨t.toArray⟩ := by
        simp [El.all, strEl, List.map_eq_flatMap]
      rw [e, List.getElem?_map, List.getElem?_eq_getElem hi]; rfl)
  exact this
theorem strs_nil (x : World) (p : Option Addr) : StrsAt x p [] := fun i hi => by simp at hi
theorem lit_row (W : World) : RowL (fun _ => True) ((W.alloc (.cells #[.string ⟨#[97]⟩, .string ⟨#[98]⟩] 9)).alloc (.cells #[.slice (some ⟨W.heap.size, 0, none⟩) 2 2, .slice none 0 0] 22)) (some ⟨W.heap.size + 1, 0, none⟩) [[[97], [98]], []] := by
  refine ⟨[⟨some ⟨W.heap.size, 0, none⟩, 2, 2⟩, ⟨none, 0, 0⟩], rfl, fun i s hs => ⟨_, rfl, trivial, ?_⟩, fun i s l hs hl => ?_⟩
  · match i, hs with
    | 0, hs => simp at hs; subst hs; go_simp; rfl
    | 1, hs => simp at hs; subst hs; go_simp; rfl
    | i + 2, hs => simp at hs
  · match i, hs, hl with
    | 0, hs, hl =>
      simp at hs hl; subst hs hl
      exact ⟨rfl, (lit_strs W #[.string ⟨#[97]⟩, .string ⟨#[98]⟩] [[97], [98]] rfl).bel ((Bel.refl _).alloc _), fun _ _ _ => trivial⟩
    | 1, hs, hl => simp at hs hl; subst hs hl; exact ⟨rfl, strs_nil _ _, fun _ _ _ => trivial⟩
    | i + 2, hs, hl => simp at hs
set_option maxHeartbeats 4000000 in
theorem jshown_any (w : World) (hstd : Std w) : Calls Tryz.prog 9 #[] w fun e w' => e = .returned (.bool true) ∧ Bel w w' := by
  have HS := Lib.hid hstd; clear hstd
  go_enter Tryz.func9, Tryz.ntmps9
  go_wp2_with (fail)
  refine (pnew_any 10000 w (by omega)).mono ?_
  rintro e w1 ⟨rfl, hp1, hb1⟩
  obtain ⟨b, hb⟩ : ∃ b, b = w.heap.size := ⟨_, rfl⟩
  have HP1 := Lib.hid (show ProgAt w.heap.size w1 b (newS 10000) [w.heap.size] by rw [hb]; exact hp1)
  have HB1 := Lib.hid hb1
  rw [← hb]
  clear hp1 hb1 hb
  go_wp2_with (fail)
  refine (open_st HS.out HB1.out HP1.out (new_ok 10000 (by omega)) ⟨#[108, 111, 103]⟩ 100 (by decide) (by decide) sh_open).mono ?_
  rintro e w2 ⟨jv, v, F2, rfl, hp2, hk2, hf2, hq2, hb2, hm2, hj2, -⟩
  obtain ⟨jb, rfl, hjs, -⟩ := hj2 rfl
  obtain ⟨vp, vc, rfl⟩ := hq2.own.len
  have HJ2 := Lib.hid (show JSB w w2 b sM1 jb ⟨#[108, 111, 103]⟩ 100 from ⟨F2, hjs, hb2⟩)
  clear hp2 hk2 hf2 hq2 hb2 hm2 hj2 hjs
  go_wp2_with (fail)
  refine (jsb_write HJ2.out (by decide) (some ⟨w2.heap.size, 0, none⟩) 2 [[97], [98]] (by rw [show lastN (⟨#[108, 111, 103]⟩ : ByteArray).data.toList sM1.L = 1 from last1 _ _]; omega) (by rw [show lastN (⟨#[108, 111, 103]⟩ : ByteArray).data.toList sM1.L = 1 from last1 _ _]; omega) ⟨by decide, by decide⟩ ((Bel.refl w2).alloc _) (lit_strs w2 _ _ rfl) (by unfold maxLen; decide) (by decide)).mono ?_
  rintro e w3 ⟨rfl, hj3⟩
  rw [show jwrite (⟨#[108, 111, 103]⟩ : ByteArray).data.toList 100 [[97], [98]] sM1 = (0, sM2) from sh_w1] at hj3 ⊢
  have HJ3 := Lib.hid hj3; clear hj3
  go_wp2_with (fail)
  refine (jsb_write HJ3.out (by decide) none 0 [] (by rw [show lastN (⟨#[108, 111, 103]⟩ : ByteArray).data.toList sM2.L = 1 from last1 _ _]; omega) (by rw [show lastN (⟨#[108, 111, 103]⟩ : ByteArray).data.toList sM2.L = 1 from last1 _ _]; omega) ⟨by decide, by decide⟩ (Bel.refl w3) (strs_nil _ _) (by unfold maxLen; decide) (by decide)).mono ?_
  rintro e w4 ⟨rfl, hj4⟩
  rw [show jwrite (⟨#[108, 111, 103]⟩ : ByteArray).data.toList 100 [] sM2 = (0, sM3) from sh_w2] at hj4 ⊢
  obtain ⟨F4, hj4, hb4⟩ := hj4
  have HJ4 := Lib.hid hj4
  have HB4 := Lib.hid hb4
  clear hj4 hb4
  go_wp2_with (fail)
  refine (open_st HS.out HB4.out HJ4.out.prog HJ4.out.ok ⟨#[108, 111, 103]⟩ 100 (by decide) (by decide) sh_open2).mono ?_
  rintro e w5 ⟨jv2, v2, F5, rfl, hp5, hk5, hf5, hq5, hb5, hm5, hj5, -⟩
  obtain ⟨jb2, rfl, -, -⟩ := hj5 rfl
  have HJ5 := Lib.hid (jsb_of HJ4.out HB4.out ⟨F5, hp5, hk5, hf5⟩ hm5)
  obtain ⟨vp5, vc5, rfl, hrow⟩ := hq5.own.row
  have HRW := Lib.hid hrow
  clear hp5 hk5 hf5 hq5 hb5 hm5 hj5 hrow
  go_wp2_with (fail)
  refine (batch_any _ (some ⟨w5.heap.size, 0, none⟩) 1 [[97]] (lit_strs w5 _ _ rfl) (by unfold maxLen; decide) (by decide)).mono ?_
  rintro e w6 ⟨rfl, hb6⟩
  rw [show batchV [[97]] = .tuple #[.string ⟨#[1, 1, 97]⟩, .int .i64 0] by kernel_rfl]
  have HB6 := Lib.hid (((Bel.refl w5).alloc _).trans hb6); clear hb6
  go_wp2_with (fail)
  refine (unbatch_any ⟨#[1]⟩ w6 (by decide)).mono ?_
  rintro e w7 ⟨uv, rfl, -, hb7⟩
  rw [show (unbS (⟨#[1]⟩ : ByteArray).data.toList).2 = 8 by kernel_rfl]
  have HB7 := Lib.hid (HB6.out.trans hb7); clear hb7
  go_wp2_with (fail)
  refine (jall_any _ _ _ vp5 (some ⟨w7.heap.size + 1, 0, none⟩) vc5 2 [[[97], [98]], []] [[[97], [98]], []] (HRW.out.bel (HB7.out.trans (((Bel.refl w7).alloc _).alloc _))) (lit_row w7) (by decide) (by decide) (by decide) (by decide)).mono ?_
  rintro e w8 ⟨rfl, hb8⟩
  rw [show decide (([[[97], [98]], []] : List (List (List UInt8))) = [[[97], [98]], []]) = true from decide_eq_true rfl]
  have HB8 := Lib.hid (HB7.out.trans ((((Bel.refl w7).alloc _).alloc _).trans hb8)); clear hb8
  have HJ8 := Lib.hid (HJ5.out.bel HB8.out)
  go_wp2_with (fail)
  refine (jsb_num HJ8.out (by decide)).mono ?_
  rintro e w9 ⟨rfl, hj9, -⟩
  rw [show lastN (⟨#[108, 111, 103]⟩ : ByteArray).data.toList sM3.L = 1 from last1 _ _]
  have HJ9 := Lib.hid hj9; clear hj9
  go_wp2_with (fail)
  refine (jsb_turn HJ9.out (by decide) (by rw [show lastN (⟨#[108, 111, 103]⟩ : ByteArray).data.toList sM3.L = 1 from last1 _ _]; omega)).mono ?_
  rintro e w10 ⟨rfl, hj10⟩
  rw [show jturn (⟨#[108, 111, 103]⟩ : ByteArray).data.toList sM3 = (0, sM4) from sh_turn] at hj10 ⊢
  have HJ10 := Lib.hid hj10; clear hj10
  go_wp2_with (fail)
  refine (jsb_num HJ10.out (by decide)).mono ?_
  rintro e w11 ⟨rfl, hj11, -⟩
  rw [show lastN (⟨#[108, 111, 103]⟩ : ByteArray).data.toList sM4.L = 2 from last2 _ _]
  have HJ11 := Lib.hid hj11; clear hj11
  go_wp2_with (fail)
  go_ret
  exact ⟨rfl, HJ11.out.low⟩
end Go.Proofs.YtedopiojidaeiaaGreatDoor
