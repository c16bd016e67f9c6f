/- The walks of three more laws of chapter 1: ValueOrders, ValueRights, ValueBack. -/
import Derived.Test.YtndknolblfdcdaaDoorLaws
import Derived.Deep.RegionWith
set_option linter.unusedSimpArgs false
set_option linter.unusedVariables false
namespace Go.Proofs.YtndknolblfdcdaaDoor
open Go.RowKit

theorem Bel.past3 {a w : World} {o o' o'' : Obj} (h : Bel (((a.alloc o).alloc o').alloc o'') w) : a.heap.size + 1 + 1 < w.heap.size := by have := h.size; simp at this; omega

set_option maxHeartbeats 2000000 in
theorem orders_law (k n : Int) (s : ByteArray) (k' n' : Int) (s' : ByteArray) (k'' n'' : Int) (s'' : ByteArray) (w : World) (hs : s.size ≤ maxLen) (hs' : s'.size ≤ maxLen) (hs'' : s''.size ≤ maxLen) (hstd : Std w) :
    Calls Tryd.prog 8 #[.agg #[.int .i64 k, .int .i64 n, .string s], .agg #[.int .i64 k', .int .i64 n', .string s'], .agg #[.int .i64 k'', .int .i64 n'', .string s'']] w fun e w' => e = .returned (.bool true) ∧ Bel w w' := by
  have HS := Lib.hid hstd; clear hstd
  go_enter Tryd.func8, Tryd.ntmps8
  go_wp2_with (fail)
  refine (shown_any _ (((HS.out.alloc _).alloc _).alloc _)).mono ?_
  rintro e w1 ⟨rfl, hb1⟩
  have c0 : w1.cell? ⟨w.heap.size, 0, none⟩ = some (.int .i64 k) := cell_later hb1 (by go_simp)
  have c1 : w1.cell? ⟨w.heap.size, 1, none⟩ = some (.int .i64 n) := cell_later hb1 (by go_simp)
  have c2 : w1.cell? ⟨w.heap.size, 2, none⟩ = some (.string s) := cell_later hb1 (by go_simp)
  have d0 : w1.cell? ⟨w.heap.size + 1, 0, none⟩ = some (.int .i64 k') := cell_later hb1 (by go_simp)
  have d1 : w1.cell? ⟨w.heap.size + 1, 1, none⟩ = some (.int .i64 n') := cell_later hb1 (by go_simp)
  have d2 : w1.cell? ⟨w.heap.size + 1, 2, none⟩ = some (.string s') := cell_later hb1 (by go_simp)
  have e0 : w1.cell? ⟨w.heap.size + 1 + 1, 0, none⟩ = some (.int .i64 k'') := cell_later hb1 (by go_simp)
  have e1 : w1.cell? ⟨w.heap.size + 1 + 1, 1, none⟩ = some (.int .i64 n'') := cell_later hb1 (by go_simp)
  have e2 : w1.cell? ⟨w.heap.size + 1 + 1, 2, none⟩ = some (.string s'') := cell_later hb1 (by go_simp)
  have HB := Lib.hid (((((Bel.refl w).alloc _).alloc _).alloc _).trans hb1)
  clear hb1
  by_cases hl1 : 3000 < s.size
  · go_wp2_with (fail)
    go_ret
    exact ⟨rfl, HB.out⟩
  by_cases hl2 : 3000 < s'.size
  · go_wp2_with (fail)
    go_ret
    exact ⟨rfl, HB.out⟩
  by_cases hl3 : 3000 < s''.size
  · go_wp2_with (fail)
    go_ret
    exact ⟨rfl, HB.out⟩
  obtain ⟨x, hx⟩ : ∃ x, x = cmpV k n s.data.toList k' n' s'.data.toList := ⟨_, rfl⟩
  obtain ⟨y, hy⟩ : ∃ y, y = cmpV k' n' s'.data.toList k'' n'' s''.data.toList := ⟨_, rfl⟩
  have x1 : -1 ≤ x := by rw [hx]; exact (cmpV_range _ _ _ _ _ _).1
  have x2 : x ≤ 1 := by rw [hx]; exact (cmpV_range _ _ _ _ _ _).2
  have hz0 := cmpV_zero k n s.data.toList k' n' s'.data.toList
  rw [← hx] at hz0
  have C1 := Lib.hid (compare_any k n s k' n' s')
  have C2 := Lib.hid (compare_any k' n' s' k'' n'' s'')
  have C3 := Lib.hid (compare_any k' n' s' k n s)
  have C4 := Lib.hid (compare_any k n s k'' n'' s'')
  have hxs : cmpV k' n' s'.data.toList k n s.data.toList = -x := by rw [hx]; exact cmpV_neg _ _ _ _ _ _
  have htr : x ≤ 0 → y ≤ 0 → cmpV k n s.data.toList k'' n'' s''.data.toList ≤ 0 := by rw [hx, hy]; exact cmpV_trans
  rw [← hx] at C1
  rw [← hy] at C2
  rw [hxs] at C3
  clear hxs
  obtain ⟨z, hz⟩ : ∃ z, z = cmpV k n s.data.toList k'' n'' s''.data.toList := ⟨_, rfl⟩
  rw [← hz] at C4 htr
  have HT := Lib.hid htr
  clear hz htr hx hy
  go_wp2_with (fail)
  refine (C1.out _).mono ?_
  rintro e w2 ⟨rfl, hb2⟩
  replace c0 := cell_later hb2 c0
  replace c1 := cell_later hb2 c1
  replace c2 := cell_later hb2 c2
  replace d0 := cell_later hb2 d0
  replace d1 := cell_later hb2 d1
  replace d2 := cell_later hb2 d2
  replace e0 := cell_later hb2 e0
  replace e1 := cell_later hb2 e1
  replace e2 := cell_later hb2 e2
  have HB2 := Lib.hid (HB.out.trans hb2); clear hb2
  go_wp2_with (fail)
  refine (C2.out _).mono ?_
  rintro e w3 ⟨rfl, hb3⟩
  replace c0 := cell_later hb3 c0
  replace c1 := cell_later hb3 c1
  replace c2 := cell_later hb3 c2
  replace d0 := cell_later hb3 d0
  replace d1 := cell_later hb3 d1
  replace d2 := cell_later hb3 d2
  replace e0 := cell_later hb3 e0
  replace e1 := cell_later hb3 e1
  replace e2 := cell_later hb3 e2
  have HB3 := Lib.hid (HB2.out.trans hb3); clear hb3
  go_wp2_with (fail)
  refine (C3.out _).mono ?_
  rintro e w4 ⟨rfl, hb4⟩
  replace c0 := cell_later hb4 c0
  replace c1 := cell_later hb4 c1
  replace c2 := cell_later hb4 c2
  replace d0 := cell_later hb4 d0
  replace d1 := cell_later hb4 d1
  replace d2 := cell_later hb4 d2
  replace e0 := cell_later hb4 e0
  replace e1 := cell_later hb4 e1
  replace e2 := cell_later hb4 e2
  have HB4 := Lib.hid (HB3.out.trans hb4); clear hb4
  clear C1 C2 C3
  have hnn : IntKind.i64.wrap (- -x) = x := by rw [Int.neg_neg]; exact IntWalk.i64_in _ (by omega)
  by_cases ek : k = k'
  · subst ek
    by_cases en : n = n'
    · subst en
      by_cases es : s = s'
      · subst es
        have hxn : (x == 0) = true := by simp only [beq_iff_eq]; exact hz0.2 ⟨rfl, rfl, rfl⟩
        clear hz0
        by_cases sx : 0 < x
        · go_wp2_with (fail)
          go_ret
          exact ⟨ret_bool (by simp), HB4.out⟩
        · by_cases sy : 0 < y
          · go_wp2_with (fail)
            go_ret
            exact ⟨ret_bool (by simp), HB4.out⟩
          · have z0 : z ≤ 0 := HT.out (by omega) (by omega)
            go_wp2_with (fail)
            refine (C4.out _).mono ?_
            rintro e w5 ⟨rfl, hb5⟩
            have HB5 := Lib.hid (HB4.out.trans hb5); clear hb5
            go_wp2
            go_ret
            exact ⟨ret_bool (by simp; try omega), HB5.out⟩
      · have hxn : (x == 0) = false := by
          simp only [beq_eq_false_iff_ne, ne_eq]
          exact fun h => es (ByteArray.ext (Array.toList_inj.1 (hz0.1 h).2.2))
        have es' : (s.toList == s'.toList) = false := by
          rw [ByteArray.toList_eq, ByteArray.toList_eq]
          simpa using fun h => es (ByteArray.ext (Array.toList_inj.1 h))
        clear hz0 es
        by_cases sx : 0 < x
        · go_wp2_with (fail)
          go_ret
          exact ⟨ret_bool (by simp), HB4.out⟩
        · by_cases sy : 0 < y
          · go_wp2_with (fail)
            go_ret
            exact ⟨ret_bool (by simp), HB4.out⟩
          · have z0 : z ≤ 0 := HT.out (by omega) (by omega)
            go_wp2_with (fail)
            refine (C4.out _).mono ?_
            rintro e w5 ⟨rfl, hb5⟩
            have HB5 := Lib.hid (HB4.out.trans hb5); clear hb5
            go_wp2
            go_ret
            exact ⟨ret_bool (by simp; try omega), HB5.out⟩
    · have hxn : (x == 0) = false := by
        simp only [beq_eq_false_iff_ne, ne_eq]
        exact fun h => en (hz0.1 h).2.1
      have en' : (n == n') = false := by simpa using en
      clear hz0 en
      by_cases sx : 0 < x
      · go_wp2_with (fail)
        go_ret
        exact ⟨ret_bool (by simp), HB4.out⟩
      · by_cases sy : 0 < y
        · go_wp2_with (fail)
          go_ret
          exact ⟨ret_bool (by simp), HB4.out⟩
        · have z0 : z ≤ 0 := HT.out (by omega) (by omega)
          go_wp2_with (fail)
          refine (C4.out _).mono ?_
          rintro e w5 ⟨rfl, hb5⟩
          have HB5 := Lib.hid (HB4.out.trans hb5); clear hb5
          go_wp2
          go_ret
          exact ⟨ret_bool (by simp; try omega), HB5.out⟩
  · have hxn : (x == 0) = false := by
      simp only [beq_eq_false_iff_ne, ne_eq]
      exact fun h => ek (hz0.1 h).1
    have ek' : (k == k') = false := by simpa using ek
    clear hz0 ek
    by_cases sx : 0 < x
    · go_wp2_with (fail)
      go_ret
      exact ⟨ret_bool (by simp), HB4.out⟩
    · by_cases sy : 0 < y
      · go_wp2_with (fail)
        go_ret
        exact ⟨ret_bool (by simp), HB4.out⟩
      · have z0 : z ≤ 0 := HT.out (by omega) (by omega)
        go_wp2_with (fail)
        refine (C4.out _).mono ?_
        rintro e w5 ⟨rfl, hb5⟩
        have HB5 := Lib.hid (HB4.out.trans hb5); clear hb5
        go_wp2
        go_ret
        exact ⟨ret_bool (by simp; try omega), HB5.out⟩

theorem heldb_next {w x y : World} {b1 b2 : Nat} {k n k' n' : Int} {s s' : ByteArray} (hb : Bel x y)
    (h : (x.cell? ⟨b1, 0, none⟩ = some (.int .i64 k) ∧ x.cell? ⟨b1, 1, none⟩ = some (.int .i64 n) ∧ x.cell? ⟨b1, 2, none⟩ = some (.string s)) ∧ (x.cell? ⟨b2, 0, none⟩ = some (.int .i64 k') ∧ x.cell? ⟨b2, 1, none⟩ = some (.int .i64 n') ∧ x.cell? ⟨b2, 2, none⟩ = some (.string s')) ∧ b1 < x.heap.size ∧ b2 < x.heap.size ∧ Keeps w x) :
    (y.cell? ⟨b1, 0, none⟩ = some (.int .i64 k) ∧ y.cell? ⟨b1, 1, none⟩ = some (.int .i64 n) ∧ y.cell? ⟨b1, 2, none⟩ = some (.string s)) ∧ (y.cell? ⟨b2, 0, none⟩ = some (.int .i64 k') ∧ y.cell? ⟨b2, 1, none⟩ = some (.int .i64 n') ∧ y.cell? ⟨b2, 2, none⟩ = some (.string s')) ∧ b1 < y.heap.size ∧ b2 < y.heap.size ∧ Keeps w y := by
  obtain ⟨⟨h0, h1, h2⟩, ⟨h3, h4, h5⟩, h6, h7, h8⟩ := h
  exact ⟨⟨cell_later hb h0, cell_later hb h1, cell_later hb h2⟩, ⟨cell_later hb h3, cell_later hb h4, cell_later hb h5⟩, Nat.lt_of_lt_of_le h6 hb.size, Nat.lt_of_lt_of_le h7 hb.size, h8.bel hb⟩
theorem heldb_keeps {w x : World} {b1 b2 : Nat} {k n k' n' : Int} {s s' : ByteArray}
    (h : (x.cell? ⟨b1, 0, none⟩ = some (.int .i64 k) ∧ x.cell? ⟨b1, 1, none⟩ = some (.int .i64 n) ∧ x.cell? ⟨b1, 2, none⟩ = some (.string s)) ∧ (x.cell? ⟨b2, 0, none⟩ = some (.int .i64 k') ∧ x.cell? ⟨b2, 1, none⟩ = some (.int .i64 n') ∧ x.cell? ⟨b2, 2, none⟩ = some (.string s')) ∧ b1 < x.heap.size ∧ b2 < x.heap.size ∧ Keeps w x) : Keeps w x := h.2.2.2.2

set_option maxHeartbeats 2000000 in
theorem rights_law (k n : Int) (s : ByteArray) (kind : Int) (w : World) (hs : s.size ≤ maxLen) (hstd : Std w) :
    Calls Tryd.prog 3 #[.agg #[.int .i64 k, .int .i64 n, .string s], .int .i64 kind] w fun e w' => e = .returned (.bool true) ∧ Bel w w' := by
  have HS := Lib.hid hstd; clear hstd
  go_enter Tryd.func3, Tryd.ntmps3
  go_wp2_with (fail)
  refine (shown_any _ (HS.out.alloc _)).mono ?_
  rintro e w1 ⟨rfl, hb1⟩
  have c0 : w1.cell? ⟨w.heap.size, 0, none⟩ = some (.int .i64 k) := cell_later hb1 (by go_simp)
  have c1 : w1.cell? ⟨w.heap.size, 1, none⟩ = some (.int .i64 n) := cell_later hb1 (by go_simp)
  have c2 : w1.cell? ⟨w.heap.size, 2, none⟩ = some (.string s) := cell_later hb1 (by go_simp)
  have HB := Lib.hid (((Bel.refl w).alloc _).trans hb1)
  have hz := hb1.past
  clear hb1
  have HK := Lib.hid (show Keeps w w1 from ⟨HB.out, HS.out.bel HB.out⟩)
  by_cases hl1 : 3000 < s.size
  · go_wp2_with (fail)
    go_ret
    exact ⟨rfl, HB.out⟩
  have HRz := Lib.hid (right_any kind 0 ⟨#[]⟩)
  by_cases hk : 1 ≤ kind ∧ kind ≤ 6
  · obtain ⟨hk1, hk2⟩ := hk
    have hrz : rightB kind 0 [] = true := by rw [rightB_zero]; exact decide_eq_true ⟨hk1, hk2⟩
    rw [show (ByteArray.mk #[]).data.toList = [] from rfl, hrz] at HRz
    clear hrz
    go_wp2_with (fail)
    refine (zero_yes kind _ hk1 hk2).mono ?_
    rintro e w2 ⟨rfl, hb2⟩
    replace c0 := cell_later hb2 c0
    replace c1 := cell_later hb2 c1
    replace c2 := cell_later hb2 c2
    replace hz := Nat.lt_of_lt_of_le hz hb2.size
    have HK2 := Lib.hid (HK.out.bel hb2); clear hb2
    go_wp2_with (fail)
    have z0 : (w2.alloc (.cells #[.int .i64 kind, .int .i64 0, .string ⟨#[]⟩] 23)).cell? ⟨w2.heap.size, 0, none⟩ = some (.int .i64 kind) := by go_simp
    have z1 : (w2.alloc (.cells #[.int .i64 kind, .int .i64 0, .string ⟨#[]⟩] 23)).cell? ⟨w2.heap.size, 1, none⟩ = some (.int .i64 0) := by go_simp
    have z2 : (w2.alloc (.cells #[.int .i64 kind, .int .i64 0, .string ⟨#[]⟩] 23)).cell? ⟨w2.heap.size, 2, none⟩ = some (.string ⟨#[]⟩) := by go_simp
    have HA := Lib.hid (show Bel w2 (w2.alloc (.cells #[.int .i64 kind, .int .i64 0, .string ⟨#[]⟩] 23)) from (Bel.refl w2).alloc _)
    have zz : w2.heap.size < (w2.alloc (.cells #[.int .i64 kind, .int .i64 0, .string ⟨#[]⟩] 23)).heap.size := by simp
    generalize w2.alloc (.cells #[.int .i64 kind, .int .i64 0, .string ⟨#[]⟩] 23) = w3 at z0 z1 z2 HA zz ⊢
    replace c0 := cell_later HA.out c0
    replace c1 := cell_later HA.out c1
    replace c2 := cell_later HA.out c2
    replace hz := Nat.lt_of_lt_of_le hz HA.out.size
    have hkd := (HK2.out.bel HA.out).drew
    go_region_held3 (fun x => (x.cell? ⟨w.heap.size, 0, none⟩ = some (.int .i64 k) ∧ x.cell? ⟨w.heap.size, 1, none⟩ = some (.int .i64 n) ∧ x.cell? ⟨w.heap.size, 2, none⟩ = some (.string s)) ∧ (x.cell? ⟨w2.heap.size, 0, none⟩ = some (.int .i64 kind) ∧ x.cell? ⟨w2.heap.size, 1, none⟩ = some (.int .i64 0) ∧ x.cell? ⟨w2.heap.size, 2, none⟩ = some (.string ⟨#[]⟩)) ∧ w.heap.size < x.heap.size ∧ w2.heap.size < x.heap.size ∧ Keeps w x)
      (first | exact ⟨⟨c0, c1, c2⟩, ⟨z0, z1, z2⟩, hz, zz, hkd⟩ | exact heldb_next hb (by assumption))
      (first
        | (go_at_call_of 12 (Value.agg #[.int .i64 k, .int .i64 n, .string s]); refine (right_any k n s _ hs).mono ?_; rintro e w' ⟨rfl, hb⟩)
        | (go_at_call_of 12 (Value.agg #[.int .i64 kind, .int .i64 0, .string ⟨#[]⟩]); refine (HRz.out _ (by unfold maxLen; decide)).mono ?_; rintro e w' ⟨rfl, hb⟩)
        | (go_at_call 13; refine (ref_right_any k n s _ hs).mono ?_; rintro e w' ⟨rfl, hb⟩))
    have hk := heldb_keeps (by assumption)
    go_wp2
    go_ret
    exact ⟨ret_bool (by simp), hk.1⟩
  · have hk6 : ¬ ((1 : Int) ≤ kind ∧ kind ≤ 6) := hk
    go_wp2_with (fail)
    refine (zero_no kind _ hk).mono ?_
    rintro e w2 ⟨rfl, hb2⟩
    replace c0 := cell_later hb2 c0
    replace c1 := cell_later hb2 c1
    replace c2 := cell_later hb2 c2
    replace hz := Nat.lt_of_lt_of_le hz hb2.size
    have HK2 := Lib.hid (HK.out.bel hb2); clear hb2
    by_cases hlow : 1 ≤ kind
    · have hhi : 6 < kind := by omega
      clear hk hk6
      go_wp2_with (fail)
      have z0 : (w2.alloc (.cells #[.int .i64 0, .int .i64 0, .string ⟨#[]⟩] 23)).cell? ⟨w2.heap.size, 0, none⟩ = some (.int .i64 0) := by go_simp
      have z1 : (w2.alloc (.cells #[.int .i64 0, .int .i64 0, .string ⟨#[]⟩] 23)).cell? ⟨w2.heap.size, 1, none⟩ = some (.int .i64 0) := by go_simp
      have z2 : (w2.alloc (.cells #[.int .i64 0, .int .i64 0, .string ⟨#[]⟩] 23)).cell? ⟨w2.heap.size, 2, none⟩ = some (.string ⟨#[]⟩) := by go_simp
      have HA := Lib.hid (show Bel w2 (w2.alloc (.cells #[.int .i64 0, .int .i64 0, .string ⟨#[]⟩] 23)) from (Bel.refl w2).alloc _)
      have zz : w2.heap.size < (w2.alloc (.cells #[.int .i64 0, .int .i64 0, .string ⟨#[]⟩] 23)).heap.size := by simp
      generalize w2.alloc (.cells #[.int .i64 0, .int .i64 0, .string ⟨#[]⟩] 23) = w3 at z0 z1 z2 HA zz ⊢
      replace c0 := cell_later HA.out c0
      replace c1 := cell_later HA.out c1
      replace c2 := cell_later HA.out c2
      replace hz := Nat.lt_of_lt_of_le hz HA.out.size
      have hkd := (HK2.out.bel HA.out).drew
      have hk3 := Lib.hid hkd; clear hkd
      go_region_with (first
        | (go_at_call 12; refine (right_any k n s _ hs).mono ?_; rintro e wa ⟨rfl, hba⟩; have ca0 := cell_later hba c0; have ca1 := cell_later hba c1; have ca2 := cell_later hba c2; have hka := Lib.hid (hk3.out.bel hba); clear hba)
        | (go_at_call 13; refine (ref_right_any k n s _ hs).mono ?_; rintro e wb ⟨rfl, hbb⟩; have hkb := Lib.hid (hka.out.bel hbb); clear hbb))
      all_goals go_wp2
      all_goals go_ret
      all_goals exact ⟨ret_bool (by simp), hkb.out.1⟩
    · clear hk hk6
      go_wp2_with (fail)
      have z0 : (w2.alloc (.cells #[.int .i64 0, .int .i64 0, .string ⟨#[]⟩] 23)).cell? ⟨w2.heap.size, 0, none⟩ = some (.int .i64 0) := by go_simp
      have z1 : (w2.alloc (.cells #[.int .i64 0, .int .i64 0, .string ⟨#[]⟩] 23)).cell? ⟨w2.heap.size, 1, none⟩ = some (.int .i64 0) := by go_simp
      have z2 : (w2.alloc (.cells #[.int .i64 0, .int .i64 0, .string ⟨#[]⟩] 23)).cell? ⟨w2.heap.size, 2, none⟩ = some (.string ⟨#[]⟩) := by go_simp
      have HA := Lib.hid (show Bel w2 (w2.alloc (.cells #[.int .i64 0, .int .i64 0, .string ⟨#[]⟩] 23)) from (Bel.refl w2).alloc _)
      have zz : w2.heap.size < (w2.alloc (.cells #[.int .i64 0, .int .i64 0, .string ⟨#[]⟩] 23)).heap.size := by simp
      generalize w2.alloc (.cells #[.int .i64 0, .int .i64 0, .string ⟨#[]⟩] 23) = w3 at z0 z1 z2 HA zz ⊢
      replace c0 := cell_later HA.out c0
      replace c1 := cell_later HA.out c1
      replace c2 := cell_later HA.out c2
      replace hz := Nat.lt_of_lt_of_le hz HA.out.size
      have hkd := (HK2.out.bel HA.out).drew
      have hk3 := Lib.hid hkd; clear hkd
      go_region_with (first
        | (go_at_call 12; refine (right_any k n s _ hs).mono ?_; rintro e wa ⟨rfl, hba⟩; have ca0 := cell_later hba c0; have ca1 := cell_later hba c1; have ca2 := cell_later hba c2; have hka := Lib.hid (hk3.out.bel hba); clear hba)
        | (go_at_call 13; refine (ref_right_any k n s _ hs).mono ?_; rintro e wb ⟨rfl, hbb⟩; have hkb := Lib.hid (hka.out.bel hbb); clear hbb))
      all_goals go_wp2
      all_goals go_ret
      all_goals exact ⟨ret_bool (by simp), hkb.out.1⟩
end Go.Proofs.YtndknolblfdcdaaDoor
