/- The other ways of moultref1.Read: texts of length 0, 1, and of 24 bytes and more. Made by wip/genrefread.py. -/
import Derived.Test.YtndknolblfdcdaaDoorRefRd6
set_option linter.unusedSimpArgs false
set_option linter.unusedVariables false
namespace Go.Proofs.YtndknolblfdcdaaDoor
open Go.RowKit

theorem rowsB_good {s : ByteArray} (j : Nat) (r : Int × Int × ByteArray) (h : rowsB[j]? = some r) : intIn r.2.1 ∧ r.2.2.size ≤ s.size := by
  have hm := List.mem_of_getElem? h
  have e0 : (ByteArray.mk #[]).size = 0 := rfl
  simp at hm
  rcases hm with rfl | rfl
  all_goals exact ⟨⟨by simp, by simp⟩, by simp only [e0]; omega⟩
theorem rowsN_good {s : ByteArray} {N : Int} (hN : intIn N) (j : Nat) (r : Int × Int × ByteArray) (h : (rowsB ++ rowsN N)[j]? = some r) : intIn r.2.1 ∧ r.2.2.size ≤ s.size := by
  have hm := List.mem_of_getElem? h
  have e0 : (ByteArray.mk #[]).size = 0 := rfl
  simp at hm
  rcases hm with rfl | rfl | rfl | rfl | rfl
  all_goals first
    | exact ⟨hN, by simp only [e0]; omega⟩
    | exact ⟨⟨by simp, by simp⟩, by simp only [e0]; omega⟩
theorem rowsT_good {s : ByteArray} {u : ByteArray} (hu : u.size ≤ s.size) (j : Nat) (r : Int × Int × ByteArray) (h : (rowsB ++ rowsT u)[j]? = some r) : intIn r.2.1 ∧ r.2.2.size ≤ s.size := by
  have hm := List.mem_of_getElem? h
  have e0 : (ByteArray.mk #[]).size = 0 := rfl
  simp at hm
  rcases hm with rfl | rfl | rfl | rfl
  all_goals first
    | exact ⟨⟨by simp, by simp⟩, hu⟩
    | exact ⟨⟨by simp, by simp⟩, by simp only [e0]; omega⟩
theorem rows_none {s : ByteArray} (h : s.size = 0) (k n : Int) (t : List UInt8) (hn : intIn n) (hr : rightB k n t = true) (hp : printL k n t = s.data.toList) : ∃ j : Nat, rowsB[j]? = some (k, n, ⟨t.toArray⟩) := by
  have := (form_len hn (form_of hr hp)).1
  have e : s.data.toList.length = s.size := rfl
  omega
theorem rows_one {s : ByteArray} (h1 : s.size = 1) (k n : Int) (t : List UInt8) (hn : intIn n) (hr : rightB k n t = true) (hp : printL k n t = s.data.toList) :
    ∃ j : Nat, (rowsB ++ rowsN (numV (negB s.data.toList) s.data.toList))[j]? = some (k, n, ⟨t.toArray⟩) := by
  have e : s.data.toList.length = s.size := rfl
  rcases form_of hr hp with ⟨rfl, rfl, rfl, _⟩ | ⟨rfl, rfl, rfl, _⟩ | ⟨rfl, rfl, h⟩ | ⟨rfl, rfl, h⟩ | ⟨rfl, rfl, h⟩ | ⟨rfl, rfl, h, _⟩ | ⟨rfl, rfl, h, _⟩
  · exact ⟨0, rfl⟩
  · exact ⟨1, rfl⟩
  · have := numV_itoa n hn [115] (by simp)
    rw [← h] at this
    exact ⟨4, by rw [this]; rfl⟩
  · have := numV_itoa n hn [105] (by simp)
    rw [← h] at this
    exact ⟨3, by rw [this]; rfl⟩
  · have := numV_itoa n hn [] (by simp)
    rw [List.append_nil, ← h] at this
    exact ⟨2, by rw [this]; rfl⟩
  · rw [h] at e; simp at e; omega
  · rw [h] at e; simp at e; omega
theorem rows_long {s : ByteArray} (h1 : 24 ≤ s.size) {l : List UInt8} (hu : ∀ m L, mk m → (s.extract 1 (s.size - 1)).data.toList = escL m L → l = L) (k n : Int) (t : List UInt8) (hn : intIn n) (hr : rightB k n t = true) (hp : printL k n t = s.data.toList) :
    ∃ j : Nat, (rowsB ++ rowsT ⟨l.toArray⟩)[j]? = some (k, n, ⟨t.toArray⟩) := by
  have e : s.data.toList.length = s.size := rfl
  have hl := itoa_len n hn.1 hn.2
  have hq : ∀ m, s.data.toList = m :: (escL m t ++ [m]) → (s.extract 1 (s.size - 1)).data.toList = escL m t := by
    intro m h
    have e : s.size = (escL m t).length + 2 := by
      have e1 : s.data.toList.length = s.size := rfl
      rw [← e1, h]; simp
    rw [ext_list, h, e]
    simp
  rcases form_of hr hp with ⟨rfl, rfl, rfl, _⟩ | ⟨rfl, rfl, rfl, _⟩ | ⟨rfl, rfl, h⟩ | ⟨rfl, rfl, h⟩ | ⟨rfl, rfl, h⟩ | ⟨rfl, rfl, h, _⟩ | ⟨rfl, rfl, h, _⟩
  · exact ⟨0, rfl⟩
  · exact ⟨1, rfl⟩
  · rw [h] at e; simp at e; omega
  · rw [h] at e; simp at e; omega
  · rw [h] at e; omega
  · have := hu 39 t (Or.inl rfl) (hq 39 h)
    subst this
    exact ⟨2, rfl⟩
  · have := hu 34 t (Or.inr rfl) (hq 34 h)
    subst this
    exact ⟨3, rfl⟩


set_option maxHeartbeats 1000000 in
set_option maxRecDepth 100000 in
theorem ref_read_one (s : ByteArray) (h1 : s.size = 1) (w : World) (hstd : Std w) :
    Calls Tryd.prog 19 #[.string s] w (ReadPost s.data.toList w) := by
  have HS := Lib.hid hstd; clear hstd
  have hn := Lib.hid (ref_number_any s (by omega) (by omega))
  generalize hN : numV (negB s.data.toList) s.data.toList = N at hn
  have p0 : (0 : Int) < (s.size : Int) := by omega
  have p1 : (s.size : Int) < 24 := by omega
  have p2 : ¬ (2 : Int) ≤ (s.size : Int) := by omega
  go_enter Tryd.func19, Tryd.ntmps19
  go_wp2_with (fail)
  obtain ⟨x0, hx0⟩ : ∃ x, x = (w.alloc (.cells #[.int .i64 0, .int .i64 0, .string ⟨#[]⟩] 23)).alloc (.cells #[.int .i64 1, .int .i64 0, .string ⟨#[]⟩, .int .i64 1, .int .i64 1, .string ⟨#[]⟩] 23) := ⟨_, rfl⟩
  rw [← hx0]
  have HO : Hid (OwnV (w.heap.size + 1) x0 (.slice (some ⟨w.heap.size + 1, 0, none⟩) 2 2) rowsB) := start_own hx0
  have HB : Hid (Start w x0) := start_start hx0 HS.out
  have hz : w.heap.size + 1 ≤ x0.heap.size := HB.out.1
  clear hx0
  refine (hn.out _).mono ?_
  rintro e w' ⟨rfl, rfl⟩
  go_wp2_with (fail)
  refine (hn.out _).mono ?_
  rintro e w' ⟨rfl, rfl⟩
  go_wp2_with (fail)
  refine (hn.out _).mono ?_
  rintro e w' ⟨rfl, rfl⟩
  go_wp2_with (at_builtin; refine stop_here ?_)
  refine go_on ?_
  refine append_vlit rfl _ _ rfl (w.heap.size + 1) _ rowsB rfl HO.out _ _ _ (rowsN N) rfl rfl rfl (by simp) hz (Or.inl rfl) ?_
  intro v3 w3 hown3 hbel3 hZ3
  have HB3 := Lib.hid (HB.out.below hbel3)
  obtain ⟨L, hL⟩ : ∃ L, L = rowsB ++ rowsN N := ⟨_, rfl⟩
  rw [← hL] at hown3
  have hl0 : L ≠ [] := by rw [hL]; simp
  have hl9 : L.length ≤ 9 := by rw [hL]; simp
  have HG : Hid (∀ (j : Nat) r, L[j]? = some r → intIn r.2.1 ∧ r.2.2.size ≤ s.size) := by
    rw [hL]
    exact rowsN_good (hN ▸ numV_in _ _)
  have HF : Hid (∀ k n t, intIn n → rightB k n t = true → printL k n t = s.data.toList → ∃ j : Nat, L[j]? = some (k, n, ⟨t.toArray⟩)) := by
    rw [hL]
    rw [← hN]
    exact rows_one h1
  have hs9 : s.size ≤ 1000000 := by omega
  have hs0 : s.data.toList ≠ [] := by intro h; have e : s.data.toList.length = s.size := rfl; rw [h] at e; simp at e; omega
  have t0 : ¬ s.toList = [] := by rw [ByteArray.toList_eq]; exact hs0
  have t2 : (!s.toList.isEmpty) = true := by simp [t0]
  clear hL
  obtain ⟨g, cap, rfl, hg0, hg1, hcap, hcells⟩ := ownV_cells hown3 hl0
  have HC := Lib.hid hcells
  clear hown3 hbel3 HO HB hcells hz
  go_wp2_with (fail)
  go_loopw [6] (fun i x => LRel s.data.toList L w3 i x) (fun i _ => L.length - (intOf i).toNat)
  case atStart => exact ⟨0, Nat.zero_le _, rfl, Bel.refl _, fun j r h _ => absurd h (Nat.not_lt_zero _)⟩
  case round =>
    obtain ⟨k, hk, rfl, hb, hm⟩ := hrel
    have HB := Lib.hid hb
    have HM := Lib.hid hm; clear hm
    by_cases hlt : k < L.length
    · obtain ⟨⟨kk, nn, tt⟩, hr⟩ : ∃ r, L[k]? = some r := ⟨L[k], by simp [hlt]⟩
      obtain ⟨c0, c1, c2⟩ := HC.out k _ hr
      replace c0 := cell_later hb c0
      replace c1 := cell_later hb c1
      replace c2 := cell_later hb c2
      clear hb
      obtain ⟨hnn, htt⟩ := HG.out k _ hr
      have HP := Lib.hid (ref_print_any kk nn tt wr (Nat.le_trans htt (by unfold maxLen; omega)) hnn.1 hnn.2)
      by_cases hps : printL kk nn tt.data.toList = s.data.toList
      · have HOk := Lib.hid (ref_found (n := nn) (k := kk) (t := tt.data.toList) hs0 hps)
        have t1 : (printL kk nn tt.data.toList == s.toList) = true := by rw [ByteArray.toList_eq, hps]; simp
        go_wp2_with (fail)
        refine HP.out.mono ?_
        rintro e w5 ⟨rfl, hb5⟩
        replace c0 := cell_later hb5 c0
        replace c1 := cell_later hb5 c1
        replace c2 := cell_later hb5 c2
        have HB5 := Lib.hid ((HB3.out.bel HB.out).bel hb5)
        obtain ⟨q1, -, -, r0, r1, r2, fz⟩ := HB5.out
        clear hb5
        go_wp2_with (fail)
        refine bodyPost_ret (v := .tuple #[.agg #[.int .i64 kk, .int .i64 nn, .string tt], .int .i64 0]) (by simp [results, Tryd.results19, go_sem, r0, r1, r2]) rfl
          ⟨kk, nn, tt.data.toList, 0, by rw [show (ByteArray.mk tt.data.toList.toArray) = tt by apply ByteArray.ext; simp], hnn, htt, HOk.out, ?_⟩
        exact (((HB5.out.2.2.1).setCell (Nat.le_refl _) _).setCell (Nat.le_refl _) _).setCell (Nat.le_refl _) _
      · have HNx := Lib.hid (miss_next HM.out hr (Or.inr hps))
        have t1 : (printL kk nn tt.data.toList == s.toList) = false := by rw [ByteArray.toList_eq]; simpa using hps
        go_wp2_with (fail)
        refine HP.out.mono ?_
        rintro e w5 ⟨rfl, hb5⟩
        have HB5 := Lib.hid (HB.out.trans hb5)
        clear hb5
        go_wp2_with (fail)
        all_goals go_roundw
        all_goals first
          | exact ⟨k + 1, hlt, by go_num, HB5.out, HNx.out⟩
          | (simp [intOf]; omega)
    · clear hb
      have e : k = L.length := by omega
      have HNo := Lib.hid (ref_none HF.out (e ▸ HM.out))
      obtain ⟨q1, -, -, r0, r1, r2, fz⟩ := (HB3.out.bel HB.out)
      go_wp2_with (fail)
      refine bodyPost_ret (v := .tuple #[.agg #[.int .i64 0, .int .i64 0, .string ⟨#[]⟩], .int .i64 8]) (by simp [results, Tryd.results19, go_sem, r0, r1, r2]) rfl
        ⟨0, 0, [], 8, rfl, ⟨by omega, by omega⟩, Nat.zero_le _, HNo.out, ?_⟩
      exact (((HB3.out.bel HB.out).2.2.1.setCell (Nat.le_refl _) _).setCell (Nat.le_refl _) _).setCell (Nat.le_refl _) _

set_option maxHeartbeats 1000000 in
set_option maxRecDepth 100000 in
theorem ref_read_long (s : ByteArray) (h1 : 24 ≤ s.size) (h2 : s.size ≤ 5000) (w : World) (hstd : Std w) :
    Calls Tryd.prog 19 #[.string s] w (ReadPost s.data.toList w) := by
  have HS := Lib.hid hstd; clear hstd
  have p0 : (0 : Int) < (s.size : Int) := by omega
  have p1 : ¬ (s.size : Int) < 24 := by omega
  have p2 : (2 : Int) ≤ (s.size : Int) := by omega
  go_enter Tryd.func19, Tryd.ntmps19
  go_wp2_with (fail)
  obtain ⟨x0, hx0⟩ : ∃ x, x = (w.alloc (.cells #[.int .i64 0, .int .i64 0, .string ⟨#[]⟩] 23)).alloc (.cells #[.int .i64 1, .int .i64 0, .string ⟨#[]⟩, .int .i64 1, .int .i64 1, .string ⟨#[]⟩] 23) := ⟨_, rfl⟩
  rw [← hx0]
  have HO : Hid (OwnV (w.heap.size + 1) x0 (.slice (some ⟨w.heap.size + 1, 0, none⟩) 2 2) rowsB) := start_own hx0
  have HB : Hid (Start w x0) := start_start hx0 HS.out
  have hz : w.heap.size + 1 ≤ x0.heap.size := HB.out.1
  clear hx0
  refine (ref_unquoted_any _ x0 (by have : (s.extract 1 (s.size - 1)).size ≤ s.size := by simp [ByteArray.size_extract]; omega
                                    omega)).mono ?_
  rintro e w2 ⟨l, rfl, hl, hu, hb⟩
  have HO2 := Lib.hid (HO.out.bel hb)
  have HB2 := Lib.hid (HB.out.bel hb)
  have HU := Lib.hid hu
  have hZ2 : w.heap.size + 1 ≤ w2.heap.size := HB2.out.1
  clear hb hu HO HB
  go_wp2_with (at_builtin; refine stop_here ?_)
  refine go_on ?_
  refine append_vlit rfl _ _ rfl (w.heap.size + 1) _ rowsB rfl HO2.out _ _ _ (rowsT ⟨l.toArray⟩) rfl rfl rfl (by simp) hZ2 (Or.inl rfl) ?_
  intro v3 w3 hown3 hbel3 hZ3
  have HB3 := Lib.hid (HB2.out.below hbel3)
  obtain ⟨L, hL⟩ : ∃ L, L = rowsB ++ rowsT ⟨l.toArray⟩ := ⟨_, rfl⟩
  rw [← hL] at hown3
  have hl0 : L ≠ [] := by rw [hL]; simp
  have hl9 : L.length ≤ 9 := by rw [hL]; simp
  have HG : Hid (∀ (j : Nat) r, L[j]? = some r → intIn r.2.1 ∧ r.2.2.size ≤ s.size) := by
    rw [hL]
    have hlx : l.length ≤ s.size := Nat.le_trans hl (by simp [ByteArray.size_extract]; omega)
    have e2 : (ByteArray.mk l.toArray).size = l.length := by simp [ByteArray.size]
    exact rowsT_good (by omega)
  have HF : Hid (∀ k n t, intIn n → rightB k n t = true → printL k n t = s.data.toList → ∃ j : Nat, L[j]? = some (k, n, ⟨t.toArray⟩)) := by
    rw [hL]
    exact rows_long h1 HU.out
  have hs9 : s.size ≤ 1000000 := by omega
  have hs0 : s.data.toList ≠ [] := by intro h; have e : s.data.toList.length = s.size := rfl; rw [h] at e; simp at e; omega
  have t0 : ¬ s.toList = [] := by rw [ByteArray.toList_eq]; exact hs0
  have t2 : (!s.toList.isEmpty) = true := by simp [t0]
  clear hL
  obtain ⟨g, cap, rfl, hg0, hg1, hcap, hcells⟩ := ownV_cells hown3 hl0
  have HC := Lib.hid hcells
  clear hown3 hbel3 HO2 HB2 hcells
  go_wp2_with (fail)
  go_loopw [6] (fun i x => LRel s.data.toList L w3 i x) (fun i _ => L.length - (intOf i).toNat)
  case atStart => exact ⟨0, Nat.zero_le _, rfl, Bel.refl _, fun j r h _ => absurd h (Nat.not_lt_zero _)⟩
  case round =>
    obtain ⟨k, hk, rfl, hb, hm⟩ := hrel
    have HB := Lib.hid hb
    have HM := Lib.hid hm; clear hm
    by_cases hlt : k < L.length
    · obtain ⟨⟨kk, nn, tt⟩, hr⟩ : ∃ r, L[k]? = some r := ⟨L[k], by simp [hlt]⟩
      obtain ⟨c0, c1, c2⟩ := HC.out k _ hr
      replace c0 := cell_later hb c0
      replace c1 := cell_later hb c1
      replace c2 := cell_later hb c2
      clear hb
      obtain ⟨hnn, htt⟩ := HG.out k _ hr
      have HP := Lib.hid (ref_print_any kk nn tt wr (Nat.le_trans htt (by unfold maxLen; omega)) hnn.1 hnn.2)
      by_cases hps : printL kk nn tt.data.toList = s.data.toList
      · have HOk := Lib.hid (ref_found (n := nn) (k := kk) (t := tt.data.toList) hs0 hps)
        have t1 : (printL kk nn tt.data.toList == s.toList) = true := by rw [ByteArray.toList_eq, hps]; simp
        go_wp2_with (fail)
        refine HP.out.mono ?_
        rintro e w5 ⟨rfl, hb5⟩
        replace c0 := cell_later hb5 c0
        replace c1 := cell_later hb5 c1
        replace c2 := cell_later hb5 c2
        have HB5 := Lib.hid ((HB3.out.bel HB.out).bel hb5)
        obtain ⟨q1, -, -, r0, r1, r2, fz⟩ := HB5.out
        clear hb5
        go_wp2_with (fail)
        refine bodyPost_ret (v := .tuple #[.agg #[.int .i64 kk, .int .i64 nn, .string tt], .int .i64 0]) (by simp [results, Tryd.results19, go_sem, r0, r1, r2]) rfl
          ⟨kk, nn, tt.data.toList, 0, by rw [show (ByteArray.mk tt.data.toList.toArray) = tt by apply ByteArray.ext; simp], hnn, htt, HOk.out, ?_⟩
        exact (((HB5.out.2.2.1).setCell (Nat.le_refl _) _).setCell (Nat.le_refl _) _).setCell (Nat.le_refl _) _
      · have HNx := Lib.hid (miss_next HM.out hr (Or.inr hps))
        have t1 : (printL kk nn tt.data.toList == s.toList) = false := by rw [ByteArray.toList_eq]; simpa using hps
        go_wp2_with (fail)
        refine HP.out.mono ?_
        rintro e w5 ⟨rfl, hb5⟩
        have HB5 := Lib.hid (HB.out.trans hb5)
        clear hb5
        go_wp2_with (fail)
        all_goals go_roundw
        all_goals first
          | exact ⟨k + 1, hlt, by go_num, HB5.out, HNx.out⟩
          | (simp [intOf]; omega)
    · clear hb
      have e : k = L.length := by omega
      have HNo := Lib.hid (ref_none HF.out (e ▸ HM.out))
      obtain ⟨q1, -, -, r0, r1, r2, fz⟩ := (HB3.out.bel HB.out)
      go_wp2_with (fail)
      refine bodyPost_ret (v := .tuple #[.agg #[.int .i64 0, .int .i64 0, .string ⟨#[]⟩], .int .i64 8]) (by simp [results, Tryd.results19, go_sem, r0, r1, r2]) rfl
        ⟨0, 0, [], 8, rfl, ⟨by omega, by omega⟩, Nat.zero_le _, HNo.out, ?_⟩
      exact (((HB3.out.bel HB.out).2.2.1.setCell (Nat.le_refl _) _).setCell (Nat.le_refl _) _).setCell (Nat.le_refl _) _

set_option maxHeartbeats 1000000 in
set_option maxRecDepth 100000 in
theorem ref_read_zero (s : ByteArray) (h1 : s.size = 0) (w : World) (hstd : Std w) :
    Calls Tryd.prog 19 #[.string s] w (ReadPost s.data.toList w) := by
  have HS := Lib.hid hstd; clear hstd
  have p0 : ¬ (0 : Int) < (s.size : Int) := by omega
  have p2 : ¬ (2 : Int) ≤ (s.size : Int) := by omega
  go_enter Tryd.func19, Tryd.ntmps19
  go_wp2_with (fail)
  obtain ⟨x0, hx0⟩ : ∃ x, x = (w.alloc (.cells #[.int .i64 0, .int .i64 0, .string ⟨#[]⟩] 23)).alloc (.cells #[.int .i64 1, .int .i64 0, .string ⟨#[]⟩, .int .i64 1, .int .i64 1, .string ⟨#[]⟩] 23) := ⟨_, rfl⟩
  rw [← hx0]
  have HO : Hid (OwnV (w.heap.size + 1) x0 (.slice (some ⟨w.heap.size + 1, 0, none⟩) 2 2) rowsB) := start_own hx0
  have HB : Hid (Start w x0) := start_start hx0 HS.out
  have hz : w.heap.size + 1 ≤ x0.heap.size := HB.out.1
  clear hx0
  obtain ⟨v3, hv⟩ : ∃ v, v = Value.slice (some ⟨w.heap.size + 1, 0, none⟩) 2 2 := ⟨_, rfl⟩
  rw [← hv] at HO ⊢
  clear hv
  have hown3 := HO.out
  obtain ⟨w3, rfl⟩ : ∃ y, y = x0 := ⟨_, rfl⟩
  have HB3 := HB
  obtain ⟨L, hL⟩ : ∃ L, L = rowsB := ⟨_, rfl⟩
  rw [← hL] at hown3
  have hl0 : L ≠ [] := by rw [hL]; simp
  have hl9 : L.length ≤ 9 := by rw [hL]; simp
  have HG : Hid (∀ (j : Nat) r, L[j]? = some r → intIn r.2.1 ∧ r.2.2.size ≤ s.size) := by
    rw [hL]
    exact rowsB_good
  have HF : Hid (∀ k n t, intIn n → rightB k n t = true → printL k n t = s.data.toList → ∃ j : Nat, L[j]? = some (k, n, ⟨t.toArray⟩)) := by
    rw [hL]
    exact rows_none h1
  have hs9 : s.size ≤ 1000000 := by omega
  have hs0 : s.data.toList = [] := by have e : s.data.toList.length = s.size := rfl; exact List.length_eq_zero_iff.1 (by omega)
  have t0 : s.toList = [] := by rw [ByteArray.toList_eq]; exact hs0
  clear hL
  obtain ⟨g, cap, rfl, hg0, hg1, hcap, hcells⟩ := ownV_cells hown3 hl0
  have HC := Lib.hid hcells
  clear hown3 HO HB hcells hz
  go_wp2_with (fail)
  go_loopw [6] (fun i x => LRel s.data.toList L w3 i x) (fun i _ => L.length - (intOf i).toNat)
  case atStart => exact ⟨0, Nat.zero_le _, rfl, Bel.refl _, fun j r h _ => absurd h (Nat.not_lt_zero _)⟩
  case round =>
    obtain ⟨k, hk, rfl, hb, hm⟩ := hrel
    have HB := Lib.hid hb
    have HM := Lib.hid hm; clear hm
    by_cases hlt : k < L.length
    · obtain ⟨⟨kk, nn, tt⟩, hr⟩ : ∃ r, L[k]? = some r := ⟨L[k], by simp [hlt]⟩
      obtain ⟨c0, c1, c2⟩ := HC.out k _ hr
      replace c0 := cell_later hb c0
      replace c1 := cell_later hb c1
      replace c2 := cell_later hb c2
      clear hb
      have HNx := Lib.hid (miss_next HM.out hr (Or.inl hs0))
      go_wp2_with (fail)
      all_goals go_roundw
      all_goals first
        | exact ⟨k + 1, hlt, by go_num, HB.out, HNx.out⟩
        | (simp [intOf]; omega)
    · clear hb
      have e : k = L.length := by omega
      have HNo := Lib.hid (ref_none HF.out (e ▸ HM.out))
      obtain ⟨q1, -, -, r0, r1, r2, fz⟩ := (HB3.out.bel HB.out)
      go_wp2_with (fail)
      refine bodyPost_ret (v := .tuple #[.agg #[.int .i64 0, .int .i64 0, .string ⟨#[]⟩], .int .i64 8]) (by simp [results, Tryd.results19, go_sem, r0, r1, r2]) rfl
        ⟨0, 0, [], 8, rfl, ⟨by omega, by omega⟩, Nat.zero_le _, HNo.out, ?_⟩
      exact (((HB3.out.bel HB.out).2.2.1.setCell (Nat.le_refl _) _).setCell (Nat.le_refl _) _).setCell (Nat.le_refl _) _

theorem ref_read_any (s : ByteArray) (w : World) (hs : s.size ≤ 5000) (hstd : Std w) :
    Calls Tryd.prog 19 #[.string s] w (ReadPost s.data.toList w) := by
  by_cases h0 : s.size = 0
  · exact ref_read_zero s h0 w hstd
  · by_cases h1 : s.size = 1
    · exact ref_read_one s h1 w hstd
    · by_cases h2 : s.size < 24
      · exact ref_read_some s (by omega) h2 w hstd
      · exact ref_read_long s (by omega) hs w hstd
end Go.Proofs.YtndknolblfdcdaaDoor
