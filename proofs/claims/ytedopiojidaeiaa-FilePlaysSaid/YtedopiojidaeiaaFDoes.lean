/- moultlaw6's pick, small, does. -/
import Derived.Test.YtedopiojidaeiaaFWf
set_option linter.unusedSimpArgs false
set_option linter.unusedVariables false
namespace Go.Proofs.Ytedopiojidaeiaa
open Go.RowKit Go.Deep Go.Maps

theorem pick_same (c : Int) (n : Nat) (w : World) (hc : -9223372036854775808 ≤ c ∧ c ≤ 9223372036854775807) (hn : 0 < n) (hn2 : n ≤ 1000000) :
    Calls Try.prog 8 #[.int .i64 c, .int .i64 n] w fun e w' => e = .returned (.int .i64 (pickN c n : Nat)) ∧ w' = w := by
  obtain ⟨hc1, hc2⟩ := hc
  have hz : ((n : Int) == 0) = false := by rw [beq_eq_false_iff_ne]; omega
  have hz2 : ¬ n = 0 := by omega
  by_cases h : c < 0
  · obtain ⟨m, hm⟩ : ∃ m : Nat, -(c + 1) = m := ⟨(-(c + 1)).toNat, by omega⟩
    have HP := Lib.hid (show ((pickN c n : Nat) : Int) = -((c + 1).tmod (n : Int)) by
      unfold pickN
      rw [if_pos h, ← Int.neg_tmod, hm, Int.toNat_natCast, Int.tmod_eq_emod_of_nonneg (by omega), Int.natCast_emod])
    clear hm
    go_enter Try.func8, Try.ntmps8
    go_wp2
    go_ret
    exact ⟨ret_int (by rw [HP.out]), rfl⟩
  · obtain ⟨m, rfl⟩ : ∃ m : Nat, c = m := ⟨c.toNat, by omega⟩
    have HP := Lib.hid (show ((pickN m n : Nat) : Int) = (m : Int) % (n : Int) by
      unfold pickN
      rw [if_neg h, Int.toNat_natCast, Int.natCast_emod])
    go_enter Try.func8, Try.ntmps8
    go_wp2
    go_ret
    exact ⟨ret_int (by rw [HP.out]), rfl⟩
theorem pick_at (c x : Int) (n : Nat) (w : World) (hc : in64 c) (hn : 0 < n) (hn2 : n ≤ 1000000) (hx : x = n) :
    Calls Try.prog 8 #[.int .i64 c, .int .i64 x] w fun e w' => e = .returned (.int .i64 (pickN c n : Nat)) ∧ w' = w := by
  subst hx; exact pick_same c n w hc hn hn2

theorem act_cells {w : World} {p : Option Addr} {L : List AV} (h : ActsAt w p L) {k : Nat} (hk : k < L.length) : ∃ B O sp, p.map (fun a => a.add (k * 7)) = some ⟨B, O, sp⟩ ∧
    w.cell? ⟨B, O, sp⟩ = some (.int .i64 L[k].op) ∧ w.cell? ⟨B, O + 1, none⟩ = some (.int .i64 L[k].n) ∧ w.cell? ⟨B, O + 2, none⟩ = some (.string L[k].name) ∧ w.cell? ⟨B, O + 3, none⟩ = some (.string L[k].to) ∧
    w.cell? ⟨B, O + 4, none⟩ = some (.string L[k].data) ∧ w.cell? ⟨B, O + 5, none⟩ = some L[k].left.val ∧ w.cell? ⟨B, O + 6, none⟩ = some L[k].spoil.val ∧ AV.ok w L[k] := by
  obtain ⟨B, O, sp, hp, hc, ho⟩ := h k hk
  refine ⟨B, O, sp, hp, ?_, ?_, ?_, ?_, ?_, ?_, ?_, ho⟩
  · simpa [Addr.add] using hc 0 _ rfl
  · simpa [Addr.add] using hc 1 _ rfl
  · simpa [Addr.add] using hc 2 _ rfl
  · simpa [Addr.add] using hc 3 _ rfl
  · simpa [Addr.add] using hc 4 _ rfl
  · simpa [Addr.add] using hc 5 _ rfl
  · simpa [Addr.add] using hc 6 _ rfl
def SmRel (L : List AV) (i : Value) : Prop := ∃ k : Nat, i = .int .i64 k ∧ k ≤ L.length ∧ (L.take k).all AV.small = true
set_option maxHeartbeats 4000000 in
theorem small_any (w : World) (p : Option Addr) (cap : Nat) (L : List AV) (h : ActsAt w p L) (hL : L.length ≤ maxLen) :
    Calls Try.prog 5 #[.slice p L.length cap] w fun e w' => e = .returned (.bool (smallB L)) ∧ Drw w w' := by
  unfold maxLen at hL
  have H := Lib.hid h; clear h
  by_cases h150 : 150 < L.length
  · have HB := Lib.hid (show smallB L = false by unfold smallB; rw [decide_eq_false (by omega)]; rfl)
    go_enter Try.func5, Try.ntmps5
    go_wp2_with (fail)
    go_ret
    exact ⟨ret_bool (by rw [HB.out]), Drw.refl w⟩
  have h150' : L.length ≤ 150 := by omega
  go_enter Try.func5, Try.ntmps5
  go_wp2_with (fail)
  go_loopw [3] (fun i x => SmRel L i ∧ Drw w x) (fun i _ => L.length - (intOf i).toNat)
  case atStart => exact ⟨⟨0, rfl, Nat.zero_le _, rfl⟩, Drw.refl w⟩
  case round =>
    obtain ⟨⟨k, rfl, hk, hall⟩, hw⟩ := hrel
    have HW := Lib.hid hw; clear hw
    have HA := Lib.hid hall; clear hall
    by_cases hlt : k < L.length
    · obtain ⟨B, O, sp, hp, c0, c1, c2, c3, c4, c5, c6, hok⟩ := act_cells (H.out.bel HW.out.bel) hlt
      cases p with
      | none => cases hp
      | some a =>
      simp only [Option.map_some, Option.some.injEq] at hp
      obtain ⟨y, hy⟩ : ∃ y, y = L[k] := ⟨_, rfl⟩
      have HT := Lib.hid (show (L.take (k + 1)).all AV.small = AV.small y by
        rw [List.take_add_one, List.getElem?_eq_getElem hlt, List.all_append, HA.out, hy]; simp)
      have HF := Lib.hid (show AV.small y = false → smallB L = false by
        intro hs
        unfold smallB
        have : L.all AV.small = false := by rw [List.all_eq_false]; exact ⟨L[k], List.getElem_mem hlt, by rw [← hy, hs]; simp⟩
        rw [this, Bool.and_false])
      have HE := Lib.hid (show AV.small y = (decide (y.data.size ≤ 500) && decide (y.name.size ≤ 100) && decide (y.to.size ≤ 100) && decide (y.left.L.length ≤ 80) && decide (y.spoil.L.length ≤ 80)) from rfl)
      rw [← hy] at c0 c1 c2 c3 c4 c5 c6 hok
      have k1 := hok.data
      have k2 := hok.name
      have k3 := hok.to
      have k4 := hok.left.2.1
      have k5 := hok.spoil.2.1
      unfold SI.val at c5 c6
      unfold maxLen at k1 k2 k3 k4 k5
      clear hok hy
      by_cases q1 : y.data.size ≤ 500
      · by_cases q2 : y.name.size ≤ 100
        · by_cases q3 : y.to.size ≤ 100
          · by_cases q4 : y.left.L.length ≤ 80
            · by_cases q5 : y.spoil.L.length ≤ 80
              · have HS := Lib.hid (show AV.small y = true by rw [HE.out]; simp; omega)
                go_wp2_with (fail)
                go_roundw
                case rel => exact ⟨⟨k + 1, by go_num, by omega, by rw [HT.out, HS.out]⟩, HW.out⟩
                case measure => simp [intOf]; omega
              · have HS := Lib.hid (HF.out (by rw [HE.out]; simp; omega))
                go_wp2_with (fail)
                go_ret
                exact ⟨ret_bool (by rw [HS.out]), HW.out⟩
            · have HS := Lib.hid (HF.out (by rw [HE.out]; simp; omega))
              go_wp2_with (fail)
              go_ret
              exact ⟨ret_bool (by rw [HS.out]), HW.out⟩
          · have HS := Lib.hid (HF.out (by rw [HE.out]; simp; omega))
            go_wp2_with (fail)
            go_ret
            exact ⟨ret_bool (by rw [HS.out]), HW.out⟩
        · have HS := Lib.hid (HF.out (by rw [HE.out]; simp; omega))
          go_wp2_with (fail)
          go_ret
          exact ⟨ret_bool (by rw [HS.out]), HW.out⟩
      · have HS := Lib.hid (HF.out (by rw [HE.out]; simp; omega))
        go_wp2_with (fail)
        go_ret
        exact ⟨ret_bool (by rw [HS.out]), HW.out⟩
    · obtain rfl : k = L.length := by omega
      have HS := Lib.hid (show smallB L = true by
        have := HA.out
        rw [List.take_length] at this
        unfold smallB
        rw [this]; simp; omega)
      go_wp2_with (fail)
      go_ret
      exact ⟨ret_bool (by rw [HS.out]), HW.out⟩

def actV (a : AV) : Value := .agg #[.int .i64 a.op, .int .i64 a.n, .string a.name, .string a.to, .string a.data, a.left.val, a.spoil.val]
structure ArgOut (F : List Nat) (a : AV) : Prop where
  left : ∀ d, a.left.p = some d → a.left.L ≠ [] → d.block ∉ F
  spoil : ∀ d, a.spoil.p = some d → a.spoil.L ≠ [] → d.block ∉ F
theorem len_ok {x : ByteArray} {k : Nat} (h : x.size ≤ k) (hk : k ≤ 1000000) : x.size ≤ maxLen := by unfold maxLen; omega
theorem len_k {x : ByteArray} {k : Nat} (h : x.size ≤ k) (hk : k ≤ 1000000 := by omega) : x.size ≤ 1000000 := Nat.le_trans h hk
theorem each_ok {M : RS} (h : M.ok) : ∀ x ∈ M.L, x.bytes.length ≤ 1000000000 ∧ x.safe ≤ x.bytes.length ∧ x.name.length ≤ 1000 := fun x hx =>
  ⟨Nat.le_trans (bytes_mem hx) (by have := h.fits; have := h.room; omega), (h.each x hx).2, Nat.le_trans (name_len (h.each x hx).1) (by omega)⟩
theorem ProgTo.before {n₀ : Nat} {w y x : World} {b : Nat} {M : RS} {F : List Nat} (h : ProgTo n₀ y x b M F) (hb : Bel w y) : ProgTo n₀ w x b M F := by
  obtain ⟨G, h1, h2, h3⟩ := h
  exact ⟨G, h1, (Keep.of_bel hb F).trans h2 (fun x hx => Or.inl hx), fun k hk => (h3 k hk).imp id (fun h => Nat.le_trans hb.size h)⟩
theorem small_of {a : AV} (h : AV.small a = true) : a.data.size ≤ 500 ∧ a.name.size ≤ 100 ∧ a.to.size ≤ 100 ∧ a.left.L.length ≤ 80 ∧ a.spoil.L.length ≤ 80 := by
  unfold AV.small at h
  simp at h
  omega
set_option maxHeartbeats 4000000 in
theorem does_any (n₀ : Nat) (w : World) (b : Nat) (M : RS) (F : List Nat) (a : AV) (h : ProgAt n₀ w b M F) (hM : M.ok) (ha : AV.ok w a) (hs : AV.small a = true) (hout : ArgOut F a) :
    Calls Try.prog 11 #[.pointer (some ⟨b, 0, none⟩), actV a] w fun e w' => e = .returned (.tuple #[.string ⟨(doS a M).1.1.toArray⟩, .int .i64 (doS a M).1.2]) ∧ ProgTo n₀ w w' b (doS a M).2 F := by
  obtain ⟨s1, s2, s3, s4, s5⟩ := small_of hs
  have HP := Lib.hid h
  have HM := Lib.hid hM
  have HA := Lib.hid ha
  have HO := Lib.hid hout
  have W1 := Lib.hid ((Bel.refl w).alloc (.cells #[.int .i64 a.op, .int .i64 a.n, .string a.name, .string a.to, .string a.data, a.left.val, a.spoil.val] 39))
  have hlt := pickN_lt a.op (n := 10) (by omega)
  clear h hM ha hout hs
  unfold actV
  rcases (show pickN a.op 10 = 3 ∨ pickN a.op 10 = 4 ∨ pickN a.op 10 = 5 ∨ pickN a.op 10 = 6 ∨ pickN a.op 10 = 7 ∨ pickN a.op 10 = 8 ∨ pickN a.op 10 = 9 ∨ pickN a.op 10 = 0 ∨ pickN a.op 10 = 1 ∨ pickN a.op 10 = 2 by omega) with hp | hp | hp | hp | hp | hp | hp | hp | hp | hp
  · have HD := Lib.hid (show doS a M = (([], (flushS a.name.data.toList M).1), (flushS a.name.data.toList M).2) by unfold doS; rw [if_pos hp])
    have HK := Lib.hid hp
    clear hp hlt
    unfold SI.val at *
    go_enter Try.func11, Try.ntmps11
    go_wp2_with (first
      | (go_at_call 8; refine (pick_at _ _ 10 _ HA.out.op (by omega) (by omega) rfl).mono ?_; rintro e w' ⟨rfl, rfl⟩; rw [HK.out])
      | (go_at_call 14; refine (pflush_any n₀ _ b M F a.name (HP.out.bel W1.out) (len_ok s2 (by omega)) HM.out.srt (Nat.le_trans HM.out.len (by omega))).mono ?_; rintro e w' ⟨rfl, hq⟩; have HQ := Lib.hid hq; clear hq))
    go_ret2
    rw [HD.out]
    exact ⟨rfl, HQ.out.before W1.out⟩
  · have HD := Lib.hid (show doS a M = (([], (cutS a.name.data.toList a.n M).1), (cutS a.name.data.toList a.n M).2) by unfold doS; rw [if_neg (by omega)]; rw [if_pos hp])
    have HK := Lib.hid hp
    clear hp hlt
    unfold SI.val at *
    go_enter Try.func11, Try.ntmps11
    go_wp2_with (first
      | (go_at_call 8; refine (pick_at _ _ 10 _ HA.out.op (by omega) (by omega) rfl).mono ?_; rintro e w' ⟨rfl, rfl⟩; rw [HK.out])
      | (go_at_call 28; refine (pcut_any n₀ _ b M F a.name a.n HA.out.n (fun x hx => Nat.le_trans (bytes_mem hx) (by have := HM.out.fits; have := HM.out.room; omega)) (HP.out.bel W1.out) (len_ok s2 (by omega)) HM.out.srt (Nat.le_trans HM.out.len (by omega))).mono ?_; rintro e w' ⟨rfl, hq⟩; have HQ := Lib.hid hq; clear hq))
    go_ret2
    rw [HD.out]
    exact ⟨rfl, HQ.out.before W1.out⟩
  · have HD := Lib.hid (show doS a M = (([], (moveS a.name.data.toList a.to.data.toList M).1), (moveS a.name.data.toList a.to.data.toList M).2) by unfold doS; rw [if_neg (by omega)]; rw [if_neg (by omega)]; rw [if_pos hp])
    have HK := Lib.hid hp
    clear hp hlt
    unfold SI.val at *
    go_enter Try.func11, Try.ntmps11
    go_wp2_with (first
      | (go_at_call 8; refine (pick_at _ _ 10 _ HA.out.op (by omega) (by omega) rfl).mono ?_; rintro e w' ⟨rfl, rfl⟩; rw [HK.out])
      | (go_at_call 29; refine (pmove_any n₀ _ b M F a.name a.to (len_ok s3 (by omega)) (HP.out.bel W1.out) (len_ok s2 (by omega)) HM.out.srt (Nat.le_trans HM.out.len (by omega))).mono ?_; rintro e w' ⟨rfl, hq⟩; have HQ := Lib.hid hq; clear hq))
    go_ret2
    rw [HD.out]
    exact ⟨rfl, HQ.out.before W1.out⟩
  · have HD := Lib.hid (show doS a M = (([], (dropS a.name.data.toList M).1), (dropS a.name.data.toList M).2) by unfold doS; rw [if_neg (by omega)]; rw [if_neg (by omega)]; rw [if_neg (by omega)]; rw [if_pos hp])
    have HK := Lib.hid hp
    clear hp hlt
    unfold SI.val at *
    go_enter Try.func11, Try.ntmps11
    go_wp2_with (first
      | (go_at_call 8; refine (pick_at _ _ 10 _ HA.out.op (by omega) (by omega) rfl).mono ?_; rintro e w' ⟨rfl, rfl⟩; rw [HK.out])
      | (go_at_call 30; refine (pdrop_any n₀ _ b M F a.name (HP.out.bel W1.out) (len_ok s2 (by omega)) HM.out.srt (Nat.le_trans HM.out.len (by omega))).mono ?_; rintro e w' ⟨rfl, hq⟩; have HQ := Lib.hid hq; clear hq))
    go_ret2
    rw [HD.out]
    exact ⟨rfl, HQ.out.before W1.out⟩
  · have HD := Lib.hid (show doS a M = (getS a.name.data.toList M, M) by unfold doS; rw [if_neg (by omega)]; rw [if_neg (by omega)]; rw [if_neg (by omega)]; rw [if_neg (by omega)]; rw [if_pos hp])
    have HK := Lib.hid hp
    clear hp hlt
    unfold SI.val at *
    go_enter Try.func11, Try.ntmps11
    go_wp2_with (first
      | (go_at_call 8; refine (pick_at _ _ 10 _ HA.out.op (by omega) (by omega) rfl).mono ?_; rintro e w' ⟨rfl, rfl⟩; rw [HK.out])
      | (go_at_call 16; refine (pget_any n₀ _ b M F a.name (HP.out.bel W1.out) (len_ok s2 (by omega))).mono ?_; rintro e w' ⟨rfl, hq⟩; have HQ := Lib.hid hq; clear hq))
    go_ret2
    rw [HD.out]
    exact ⟨rfl, HP.out.to (W1.out.trans HQ.out)⟩
  · have HD := Lib.hid (show doS a M = (([], 0), limS a.n M) by unfold doS; rw [if_neg (by omega)]; rw [if_neg (by omega)]; rw [if_neg (by omega)]; rw [if_neg (by omega)]; rw [if_neg (by omega)]; rw [if_pos hp])
    have HK := Lib.hid hp
    clear hp hlt
    unfold SI.val at *
    go_enter Try.func11, Try.ntmps11
    go_wp2_with (first
      | (go_at_call 8; refine (pick_at _ _ 10 _ HA.out.op (by omega) (by omega) rfl).mono ?_; rintro e w' ⟨rfl, rfl⟩; rw [HK.out])
      | (go_at_call 17; refine (plimit_any n₀ _ b M F a.n (HP.out.bel W1.out) HA.out.n).mono ?_; rintro e w' ⟨⟨u, rfl⟩, hq⟩; have HQ := Lib.hid hq; clear hq))
    go_ret2
    rw [HD.out]
    exact ⟨rfl, HQ.out.before W1.out⟩
  · have HD := Lib.hid (show doS a M = (([], 0), crashS a.left.L a.spoil.L M) by unfold doS; rw [if_neg (by omega)]; rw [if_neg (by omega)]; rw [if_neg (by omega)]; rw [if_neg (by omega)]; rw [if_neg (by omega)]; rw [if_neg (by omega)]; rw [if_pos hp])
    have HK := Lib.hid hp
    clear hp hlt
    unfold SI.val at *
    go_enter Try.func11, Try.ntmps11
    go_wp2_with (first
      | (go_at_call 8; refine (pick_at _ _ 10 _ HA.out.op (by omega) (by omega) rfl).mono ?_; rintro e w' ⟨rfl, rfl⟩; rw [HK.out])
      | (go_at_call 15; refine (pcrash_any n₀ _ b M F a.left a.spoil (HP.out.bel W1.out) HM.out.srt (Nat.le_trans HM.out.len (by omega)) (each_ok HM.out) (HA.out.left.bel W1.out) (HA.out.spoil.bel W1.out) HO.out.left HO.out.spoil).mono ?_; rintro e w' ⟨⟨u, rfl⟩, hq⟩; have HQ := Lib.hid hq; clear hq))
    go_ret2
    rw [HD.out]
    exact ⟨rfl, HQ.out.before W1.out⟩
  · have HD := Lib.hid (show doS a M = (([], (addS a.name.data.toList a.data.data.toList M).1), (addS a.name.data.toList a.data.data.toList M).2) by unfold doS; rw [if_neg (by omega)]; rw [if_neg (by omega)]; rw [if_neg (by omega)]; rw [if_neg (by omega)]; rw [if_neg (by omega)]; rw [if_neg (by omega)]; rw [if_neg (by omega)]; skip)
    have HK := Lib.hid hp
    clear hp hlt
    unfold SI.val at *
    go_enter Try.func11, Try.ntmps11
    go_wp2_with (first
      | (go_at_call 8; refine (pick_at _ _ 10 _ HA.out.op (by omega) (by omega) rfl).mono ?_; rintro e w' ⟨rfl, rfl⟩; rw [HK.out])
      | (go_at_call 9; refine (padd_any n₀ _ b M F a.name a.data (HP.out.bel W1.out) (len_k s2) (len_k s1) HM.out.srt (Nat.le_trans HM.out.len (by omega)) (by have := HM.out.fits; have := HM.out.room; omega) HM.out.room).mono ?_; rintro e w' ⟨rfl, hq⟩; have HQ := Lib.hid hq; clear hq))
    go_ret2
    rw [HD.out]
    exact ⟨rfl, HQ.out.before W1.out⟩
  · have HD := Lib.hid (show doS a M = (([], (addS a.name.data.toList a.data.data.toList M).1), (addS a.name.data.toList a.data.data.toList M).2) by unfold doS; rw [if_neg (by omega)]; rw [if_neg (by omega)]; rw [if_neg (by omega)]; rw [if_neg (by omega)]; rw [if_neg (by omega)]; rw [if_neg (by omega)]; rw [if_neg (by omega)]; skip)
    have HK := Lib.hid hp
    clear hp hlt
    unfold SI.val at *
    go_enter Try.func11, Try.ntmps11
    go_wp2_with (first
      | (go_at_call 8; refine (pick_at _ _ 10 _ HA.out.op (by omega) (by omega) rfl).mono ?_; rintro e w' ⟨rfl, rfl⟩; rw [HK.out])
      | (go_at_call 9; refine (padd_any n₀ _ b M F a.name a.data (HP.out.bel W1.out) (len_k s2) (len_k s1) HM.out.srt (Nat.le_trans HM.out.len (by omega)) (by have := HM.out.fits; have := HM.out.room; omega) HM.out.room).mono ?_; rintro e w' ⟨rfl, hq⟩; have HQ := Lib.hid hq; clear hq))
    go_ret2
    rw [HD.out]
    exact ⟨rfl, HQ.out.before W1.out⟩
  · have HD := Lib.hid (show doS a M = (([], (addS a.name.data.toList a.data.data.toList M).1), (addS a.name.data.toList a.data.data.toList M).2) by unfold doS; rw [if_neg (by omega)]; rw [if_neg (by omega)]; rw [if_neg (by omega)]; rw [if_neg (by omega)]; rw [if_neg (by omega)]; rw [if_neg (by omega)]; rw [if_neg (by omega)]; skip)
    have HK := Lib.hid hp
    clear hp hlt
    unfold SI.val at *
    go_enter Try.func11, Try.ntmps11
    go_wp2_with (first
      | (go_at_call 8; refine (pick_at _ _ 10 _ HA.out.op (by omega) (by omega) rfl).mono ?_; rintro e w' ⟨rfl, rfl⟩; rw [HK.out])
      | (go_at_call 9; refine (padd_any n₀ _ b M F a.name a.data (HP.out.bel W1.out) (len_k s2) (len_k s1) HM.out.srt (Nat.le_trans HM.out.len (by omega)) (by have := HM.out.fits; have := HM.out.room; omega) HM.out.room).mono ?_; rintro e w' ⟨rfl, hq⟩; have HQ := Lib.hid hq; clear hq))
    go_ret2
    rw [HD.out]
    exact ⟨rfl, HQ.out.before W1.out⟩
end Go.Proofs.Ytedopiojidaeiaa
