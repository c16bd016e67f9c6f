/- The walks of the laws of chapter 1: each answers true, whatever it is given. -/
import Derived.Test.YtndknolblfdcdaaDoorShown
import Derived.Test.YtndknolblfdcdaaDoorCmp2
import Derived.Test.YtndknolblfdcdaaDoorPrint2
import Derived.Test.YtndknolblfdcdaaDoorOrd
import Derived.Deep.RegionHeld3
set_option linter.unusedSimpArgs false
set_option linter.unusedVariables false
namespace Go.Proofs.YtndknolblfdcdaaDoor
open Go.RowKit

/-- What a world has that comes of w by calls alone. -/
def Keeps (w x : World) : Prop := Bel w x ∧ Std x
theorem Keeps.bel {w x y : World} (h : Keeps w x) (hb : Bel x y) : Keeps w y := ⟨h.1.trans hb, h.2.bel hb⟩
theorem Keeps.drew {w x : World} (h : Keeps w x) : Keeps w x.drew := h.bel (Bel.refl x).drew

theorem held1_next {w x y : World} {k n : Int} {s : ByteArray} (hb : Bel x y)
    (h : x.cell? ⟨w.heap.size, 0, none⟩ = some (.int .i64 k) ∧ x.cell? ⟨w.heap.size, 1, none⟩ = some (.int .i64 n) ∧ x.cell? ⟨w.heap.size, 2, none⟩ = some (.string s) ∧ w.heap.size < x.heap.size ∧ Keeps w x) :
    y.cell? ⟨w.heap.size, 0, none⟩ = some (.int .i64 k) ∧ y.cell? ⟨w.heap.size, 1, none⟩ = some (.int .i64 n) ∧ y.cell? ⟨w.heap.size, 2, none⟩ = some (.string s) ∧ w.heap.size < y.heap.size ∧ Keeps w y := by
  obtain ⟨h0, h1, h2, h3, h4⟩ := h
  exact ⟨cell_later hb h0, cell_later hb h1, cell_later hb h2, Nat.lt_of_lt_of_le h3 hb.size, h4.bel hb⟩
theorem held1_keeps {w x : World} {k n : Int} {s : ByteArray}
    (h : x.cell? ⟨w.heap.size, 0, none⟩ = some (.int .i64 k) ∧ x.cell? ⟨w.heap.size, 1, none⟩ = some (.int .i64 n) ∧ x.cell? ⟨w.heap.size, 2, none⟩ = some (.string s) ∧ w.heap.size < x.heap.size ∧ Keeps w x) : Keeps w x := h.2.2.2.2
theorem held1_std {w x : World} {k n : Int} {s : ByteArray}
    (h : x.cell? ⟨w.heap.size, 0, none⟩ = some (.int .i64 k) ∧ x.cell? ⟨w.heap.size, 1, none⟩ = some (.int .i64 n) ∧ x.cell? ⟨w.heap.size, 2, none⟩ = some (.string s) ∧ w.heap.size < x.heap.size ∧ Keeps w x) : Std x := h.2.2.2.2.2

set_option maxHeartbeats 1000000 in
theorem prints_law (k n : Int) (s : ByteArray) (w : World) (hs : s.size ≤ maxLen) (h0 : -9223372036854775808 ≤ n) (h1 : n ≤ 9223372036854775807) (hstd : Std w) :
    Calls Tryd.prog 5 #[.agg #[.int .i64 k, .int .i64 n, .string s]] w fun e w' => e = .returned (.bool true) ∧ Bel w w' := by
  have HS := Lib.hid hstd; clear hstd
  go_enter Tryd.func5, Tryd.ntmps5
  go_wp2_with (fail)
  refine (shown_any _ (HS.out.alloc _)).mono ?_
  rintro e w1 ⟨rfl, hb1⟩
  have c0 : w1.cell? ⟨w.heap.size, 0, none⟩ = some (.int .i64 k) := cell_later hb1 (by go_simp)
  have c1 : w1.cell? ⟨w.heap.size, 1, none⟩ = some (.int .i64 n) := cell_later hb1 (by go_simp)
  have c2 : w1.cell? ⟨w.heap.size, 2, none⟩ = some (.string s) := cell_later hb1 (by go_simp)
  have HB := Lib.hid (((Bel.refl w).alloc _).trans hb1)
  have hz := hb1.past
  clear hb1
  have HK := Lib.hid (show Keeps w w1 from ⟨HB.out, HS.out.bel HB.out⟩)
  by_cases hlong : 3000 < s.size
  · go_wp2_with (fail)
    go_ret
    exact ⟨rfl, HB.out⟩
  · go_wp2_with (fail)
    have hkd := HK.out.drew
    go_region_held3 (fun x => x.cell? ⟨w.heap.size, 0, none⟩ = some (.int .i64 k) ∧ x.cell? ⟨w.heap.size, 1, none⟩ = some (.int .i64 n) ∧ x.cell? ⟨w.heap.size, 2, none⟩ = some (.string s) ∧ w.heap.size < x.heap.size ∧ Keeps w x)
      (first | exact ⟨c0, c1, c2, hz, hkd⟩ | exact held1_next hb (by assumption))
      (first
        | (go_at_call 16; refine (print_any k n s _ hs h0 h1 (held1_std (by assumption))).mono ?_; rintro e w' ⟨rfl, hb⟩)
        | (go_at_call 17; refine (ref_print_any k n s _ hs h0 h1).mono ?_; rintro e w' ⟨rfl, hb⟩))
    have hk := held1_keeps (by assumption)
    go_wp2
    go_ret
    exact ⟨rfl, hk.1⟩

theorem Bel.past2 {a w : World} {o o' : Obj} (h : Bel ((a.alloc o).alloc o') w) : a.heap.size + 1 < w.heap.size := by have := h.size; simp at this; omega
theorem held2_next {w x y : World} {k n k' n' : Int} {s s' : ByteArray} (hb : Bel x y)
    (h : x.cell? ⟨w.heap.size, 0, none⟩ = some (.int .i64 k) ∧ x.cell? ⟨w.heap.size, 1, none⟩ = some (.int .i64 n) ∧ x.cell? ⟨w.heap.size, 2, none⟩ = some (.string s) ∧ x.cell? ⟨w.heap.size + 1, 0, none⟩ = some (.int .i64 k') ∧ x.cell? ⟨w.heap.size + 1, 1, none⟩ = some (.int .i64 n') ∧ x.cell? ⟨w.heap.size + 1, 2, none⟩ = some (.string s') ∧ w.heap.size + 1 < x.heap.size ∧ Keeps w x) :
    y.cell? ⟨w.heap.size, 0, none⟩ = some (.int .i64 k) ∧ y.cell? ⟨w.heap.size, 1, none⟩ = some (.int .i64 n) ∧ y.cell? ⟨w.heap.size, 2, none⟩ = some (.string s) ∧ y.cell? ⟨w.heap.size + 1, 0, none⟩ = some (.int .i64 k') ∧ y.cell? ⟨w.heap.size + 1, 1, none⟩ = some (.int .i64 n') ∧ y.cell? ⟨w.heap.size + 1, 2, none⟩ = some (.string s') ∧ w.heap.size + 1 < y.heap.size ∧ Keeps w y := by
  obtain ⟨h0, h1, h2, h3, h4, h5, h6, h7⟩ := h
  exact ⟨cell_later hb h0, cell_later hb h1, cell_later hb h2, cell_later hb h3, cell_later hb h4, cell_later hb h5, Nat.lt_of_lt_of_le h6 hb.size, h7.bel hb⟩
theorem held2_keeps {w x : World} {k n k' n' : Int} {s s' : ByteArray} (h : x.cell? ⟨w.heap.size, 0, none⟩ = some (.int .i64 k) ∧ x.cell? ⟨w.heap.size, 1, none⟩ = some (.int .i64 n) ∧ x.cell? ⟨w.heap.size, 2, none⟩ = some (.string s) ∧ x.cell? ⟨w.heap.size + 1, 0, none⟩ = some (.int .i64 k') ∧ x.cell? ⟨w.heap.size + 1, 1, none⟩ = some (.int .i64 n') ∧ x.cell? ⟨w.heap.size + 1, 2, none⟩ = some (.string s') ∧ w.heap.size + 1 < x.heap.size ∧ Keeps w x) : Keeps w x := h.2.2.2.2.2.2.2
theorem held2_std {w x : World} {k n k' n' : Int} {s s' : ByteArray} (h : x.cell? ⟨w.heap.size, 0, none⟩ = some (.int .i64 k) ∧ x.cell? ⟨w.heap.size, 1, none⟩ = some (.int .i64 n) ∧ x.cell? ⟨w.heap.size, 2, none⟩ = some (.string s) ∧ x.cell? ⟨w.heap.size + 1, 0, none⟩ = some (.int .i64 k') ∧ x.cell? ⟨w.heap.size + 1, 1, none⟩ = some (.int .i64 n') ∧ x.cell? ⟨w.heap.size + 1, 2, none⟩ = some (.string s') ∧ w.heap.size + 1 < x.heap.size ∧ Keeps w x) : Std x := (held2_keeps h).2

set_option maxHeartbeats 1000000 in
theorem compares_law (k n : Int) (s : ByteArray) (k' n' : Int) (s' : ByteArray) (w : World) (hs : s.size ≤ maxLen) (hs' : s'.size ≤ maxLen) (hstd : Std w) :
    Calls Tryd.prog 4 #[.agg #[.int .i64 k, .int .i64 n, .string s], .agg #[.int .i64 k', .int .i64 n', .string s']] w fun e w' => e = .returned (.bool true) ∧ Bel w w' := by
  have HS := Lib.hid hstd; clear hstd
  go_enter Tryd.func4, Tryd.ntmps4
  go_wp2_with (fail)
  refine (shown_any _ ((HS.out.alloc _).alloc _)).mono ?_
  rintro e w1 ⟨rfl, hb1⟩
  have c0 : w1.cell? ⟨w.heap.size, 0, none⟩ = some (.int .i64 k) := cell_later hb1 (by go_simp)
  have c1 : w1.cell? ⟨w.heap.size, 1, none⟩ = some (.int .i64 n) := cell_later hb1 (by go_simp)
  have c2 : w1.cell? ⟨w.heap.size, 2, none⟩ = some (.string s) := cell_later hb1 (by go_simp)
  have d0 : w1.cell? ⟨w.heap.size + 1, 0, none⟩ = some (.int .i64 k') := cell_later hb1 (by go_simp)
  have d1 : w1.cell? ⟨w.heap.size + 1, 1, none⟩ = some (.int .i64 n') := cell_later hb1 (by go_simp)
  have d2 : w1.cell? ⟨w.heap.size + 1, 2, none⟩ = some (.string s') := cell_later hb1 (by go_simp)
  have HB := Lib.hid ((((Bel.refl w).alloc _).alloc _).trans hb1)
  have hz := hb1.past2
  clear hb1
  have HK := Lib.hid (show Keeps w w1 from ⟨HB.out, HS.out.bel HB.out⟩)
  by_cases hl1 : 3000 < s.size
  · go_wp2_with (fail)
    go_ret
    exact ⟨rfl, HB.out⟩
  by_cases hl2 : 3000 < s'.size
  · go_wp2_with (fail)
    go_ret
    exact ⟨rfl, HB.out⟩
  · go_wp2_with (fail)
    have hkd := HK.out.drew
    go_region_held3 (fun x => x.cell? ⟨w.heap.size, 0, none⟩ = some (.int .i64 k) ∧ x.cell? ⟨w.heap.size, 1, none⟩ = some (.int .i64 n) ∧ x.cell? ⟨w.heap.size, 2, none⟩ = some (.string s) ∧ x.cell? ⟨w.heap.size + 1, 0, none⟩ = some (.int .i64 k') ∧ x.cell? ⟨w.heap.size + 1, 1, none⟩ = some (.int .i64 n') ∧ x.cell? ⟨w.heap.size + 1, 2, none⟩ = some (.string s') ∧ w.heap.size + 1 < x.heap.size ∧ Keeps w x)
      (first | exact ⟨c0, c1, c2, d0, d1, d2, hz, hkd⟩ | exact held2_next hb (by assumption))
      (first
        | (go_at_call 14; refine (compare_any k n s k' n' s' _).mono ?_; rintro e w' ⟨rfl, hb⟩)
        | (go_at_call 15; refine (ref_compare_any k n s k' n' s' _ hs hs').mono ?_; rintro e w' ⟨rfl, hb⟩))
    have hk := held2_keeps (by assumption)
    go_wp2
    go_ret
    exact ⟨rfl, hk.1⟩

set_option maxHeartbeats 1000000 in
theorem apart_law (k n : Int) (s : ByteArray) (k' n' : Int) (s' : ByteArray) (w : World) (hs : s.size ≤ maxLen) (hs' : s'.size ≤ maxLen) (hn : intIn n) (hn' : intIn n') (hstd : Std w) :
    Calls Tryd.prog 9 #[.agg #[.int .i64 k, .int .i64 n, .string s], .agg #[.int .i64 k', .int .i64 n', .string s']] w fun e w' => e = .returned (.bool true) ∧ Bel w w' := by
  have HS := Lib.hid hstd; clear hstd
  go_enter Tryd.func9, Tryd.ntmps9
  go_wp2_with (fail)
  refine (shown_any _ ((HS.out.alloc _).alloc _)).mono ?_
  rintro e w1 ⟨rfl, hb1⟩
  have c0 : w1.cell? ⟨w.heap.size, 0, none⟩ = some (.int .i64 k) := cell_later hb1 (by go_simp)
  have c1 : w1.cell? ⟨w.heap.size, 1, none⟩ = some (.int .i64 n) := cell_later hb1 (by go_simp)
  have c2 : w1.cell? ⟨w.heap.size, 2, none⟩ = some (.string s) := cell_later hb1 (by go_simp)
  have d0 : w1.cell? ⟨w.heap.size + 1, 0, none⟩ = some (.int .i64 k') := cell_later hb1 (by go_simp)
  have d1 : w1.cell? ⟨w.heap.size + 1, 1, none⟩ = some (.int .i64 n') := cell_later hb1 (by go_simp)
  have d2 : w1.cell? ⟨w.heap.size + 1, 2, none⟩ = some (.string s') := cell_later hb1 (by go_simp)
  have HB := Lib.hid ((((Bel.refl w).alloc _).alloc _).trans hb1)
  have hz := hb1.past2
  clear hb1
  have HK := Lib.hid (show Keeps w w1 from ⟨HB.out, HS.out.bel HB.out⟩)
  by_cases hl1 : 3000 < s.size
  · go_wp2_with (fail)
    go_ret
    exact ⟨rfl, HB.out⟩
  by_cases hl2 : 3000 < s'.size
  · go_wp2_with (fail)
    go_ret
    exact ⟨rfl, HB.out⟩
  have HR := Lib.hid (right_any k n s)
  have HR' := Lib.hid (right_any k' n' s')
  cases hr : rightB k n s.data.toList
  · have H1 := Lib.hid hr; clear hr
    go_wp2_with (fail)
    refine (HR.out _ hs).mono ?_
    rintro e w2 ⟨rfl, hb2⟩
    rw [H1.out]
    have HK2 := Lib.hid (HK.out.bel hb2); clear hb2
    go_wp2
    go_ret
    exact ⟨rfl, HK2.out.1⟩
  · have H1 := Lib.hid hr; clear hr
    go_wp2_with (fail)
    refine (HR.out _ hs).mono ?_
    rintro e w2 ⟨rfl, hb2⟩
    rw [H1.out]
    have HH := held2_next hb2 ⟨c0, c1, c2, d0, d1, d2, hz, HK.out⟩
    clear c0 c1 c2 d0 d1 d2 hz hb2
    obtain ⟨c0, c1, c2, d0, d1, d2, hz, hK2⟩ := HH
    have HK2 := Lib.hid hK2; clear hK2
    go_wp2_with (fail)
    refine (HR'.out _ hs').mono ?_
    rintro e w3 ⟨rfl, hb3⟩
    have HH := held2_next hb3 ⟨c0, c1, c2, d0, d1, d2, hz, HK2.out⟩
    clear c0 c1 c2 d0 d1 d2 hz hb3
    obtain ⟨c0, c1, c2, d0, d1, d2, hz, hK3⟩ := HH
    have HK3 := Lib.hid hK3; clear hK3
    cases hr' : rightB k' n' s'.data.toList
    · go_wp2
      go_ret
      exact ⟨rfl, HK3.out.1⟩
    · have H2 := Lib.hid hr'; clear hr'
      by_cases ek : k = k'
      · subst ek
        by_cases en : n = n'
        · subst en
          by_cases es : s = s'
          · subst es
            go_wp2_with (fail)
            have hkd := HK3.out.drew
            go_region_held3 (fun x => x.cell? ⟨w.heap.size, 0, none⟩ = some (.int .i64 k) ∧ x.cell? ⟨w.heap.size, 1, none⟩ = some (.int .i64 n) ∧ x.cell? ⟨w.heap.size, 2, none⟩ = some (.string s) ∧ x.cell? ⟨w.heap.size + 1, 0, none⟩ = some (.int .i64 k) ∧ x.cell? ⟨w.heap.size + 1, 1, none⟩ = some (.int .i64 n) ∧ x.cell? ⟨w.heap.size + 1, 2, none⟩ = some (.string s) ∧ w.heap.size + 1 < x.heap.size ∧ Keeps w x)
              (first | exact ⟨c0, c1, c2, d0, d1, d2, hz, hkd⟩ | exact held2_next hb (by assumption))
              (first | (go_at_call 16; refine (print_any k n s _ hs hn.1 hn.2 (held2_std (by assumption))).mono ?_; rintro e w' ⟨rfl, hb⟩))
            have hk := held2_keeps (by assumption)
            go_wp2
            go_ret
            exact ⟨ret_bool (by simp), hk.1⟩
          · have HP := Lib.hid (show printL k n s.data.toList ≠ printL k n s'.data.toList from fun h => es (ByteArray.ext (Array.toList_inj.1 (print_inj hn hn' H1.out H2.out h).2.2)))
            have es' : (s.toList == s'.toList) = false := by
              rw [ByteArray.toList_eq, ByteArray.toList_eq]
              simpa using fun h => es (ByteArray.ext (Array.toList_inj.1 h))
            clear es
            go_wp2_with (fail)
            have hkd := HK3.out.drew
            go_region_held3 (fun x => x.cell? ⟨w.heap.size, 0, none⟩ = some (.int .i64 k) ∧ x.cell? ⟨w.heap.size, 1, none⟩ = some (.int .i64 n) ∧ x.cell? ⟨w.heap.size, 2, none⟩ = some (.string s) ∧ x.cell? ⟨w.heap.size + 1, 0, none⟩ = some (.int .i64 k) ∧ x.cell? ⟨w.heap.size + 1, 1, none⟩ = some (.int .i64 n) ∧ x.cell? ⟨w.heap.size + 1, 2, none⟩ = some (.string s') ∧ w.heap.size + 1 < x.heap.size ∧ Keeps w x)
              (first | exact ⟨c0, c1, c2, d0, d1, d2, hz, hkd⟩ | exact held2_next hb (by assumption))
              (first | (go_at_call_of 16 (Value.agg #[.int .i64 k, .int .i64 n, .string s]); refine (print_any k n s _ hs hn.1 hn.2 (held2_std (by assumption))).mono ?_; rintro e w' ⟨rfl, hb⟩) | (go_at_call_of 16 (Value.agg #[.int .i64 k, .int .i64 n, .string s']); refine (print_any k n s' _ hs' hn'.1 hn'.2 (held2_std (by assumption))).mono ?_; rintro e w' ⟨rfl, hb⟩))
            have hk := held2_keeps (by assumption)
            go_wp2
            go_ret
            exact ⟨ret_bool (by simp [HP.out]), hk.1⟩
        · have HP := Lib.hid (show printL k n s.data.toList ≠ printL k n' s'.data.toList from fun h => en (print_inj hn hn' H1.out H2.out h).2.1)
          have en' : (n == n') = false := by simpa using en
          clear en
          go_wp2_with (fail)
          have hkd := HK3.out.drew
          go_region_held3 (fun x => x.cell? ⟨w.heap.size, 0, none⟩ = some (.int .i64 k) ∧ x.cell? ⟨w.heap.size, 1, none⟩ = some (.int .i64 n) ∧ x.cell? ⟨w.heap.size, 2, none⟩ = some (.string s) ∧ x.cell? ⟨w.heap.size + 1, 0, none⟩ = some (.int .i64 k) ∧ x.cell? ⟨w.heap.size + 1, 1, none⟩ = some (.int .i64 n') ∧ x.cell? ⟨w.heap.size + 1, 2, none⟩ = some (.string s') ∧ w.heap.size + 1 < x.heap.size ∧ Keeps w x)
            (first | exact ⟨c0, c1, c2, d0, d1, d2, hz, hkd⟩ | exact held2_next hb (by assumption))
            (first | (go_at_call_of 16 (Value.agg #[.int .i64 k, .int .i64 n, .string s]); refine (print_any k n s _ hs hn.1 hn.2 (held2_std (by assumption))).mono ?_; rintro e w' ⟨rfl, hb⟩) | (go_at_call_of 16 (Value.agg #[.int .i64 k, .int .i64 n', .string s']); refine (print_any k n' s' _ hs' hn'.1 hn'.2 (held2_std (by assumption))).mono ?_; rintro e w' ⟨rfl, hb⟩))
          have hk := held2_keeps (by assumption)
          go_wp2
          go_ret
          exact ⟨ret_bool (by simp [HP.out]), hk.1⟩
      · have HP := Lib.hid (show printL k n s.data.toList ≠ printL k' n' s'.data.toList from fun h => ek (print_inj hn hn' H1.out H2.out h).1)
        have ek' : (k == k') = false := by simpa using ek
        clear ek
        go_wp2_with (fail)
        have hkd := HK3.out.drew
        go_region_held3 (fun x => x.cell? ⟨w.heap.size, 0, none⟩ = some (.int .i64 k) ∧ x.cell? ⟨w.heap.size, 1, none⟩ = some (.int .i64 n) ∧ x.cell? ⟨w.heap.size, 2, none⟩ = some (.string s) ∧ x.cell? ⟨w.heap.size + 1, 0, none⟩ = some (.int .i64 k') ∧ x.cell? ⟨w.heap.size + 1, 1, none⟩ = some (.int .i64 n') ∧ x.cell? ⟨w.heap.size + 1, 2, none⟩ = some (.string s') ∧ w.heap.size + 1 < x.heap.size ∧ Keeps w x)
          (first | exact ⟨c0, c1, c2, d0, d1, d2, hz, hkd⟩ | exact held2_next hb (by assumption))
          (first | (go_at_call_of 16 (Value.agg #[.int .i64 k, .int .i64 n, .string s]); refine (print_any k n s _ hs hn.1 hn.2 (held2_std (by assumption))).mono ?_; rintro e w' ⟨rfl, hb⟩) | (go_at_call_of 16 (Value.agg #[.int .i64 k', .int .i64 n', .string s']); refine (print_any k' n' s' _ hs' hn'.1 hn'.2 (held2_std (by assumption))).mono ?_; rintro e w' ⟨rfl, hb⟩))
        have hk := held2_keeps (by assumption)
        go_wp2
        go_ret
        exact ⟨ret_bool (by simp [HP.out]), hk.1⟩
end Go.Proofs.YtndknolblfdcdaaDoor
