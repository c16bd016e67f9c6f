/- The walk of moultref1.Read. -/
import Derived.Test.YtndknolblfdcdaaDoorRefRd5
import Derived.Test.YtndknolblfdcdaaDoorPrint2
set_option linter.unusedSimpArgs false
set_option linter.unusedVariables false
namespace Go.Proofs.YtndknolblfdcdaaDoor
open Go.RowKit

abbrev rowsB : List (Int × Int × ByteArray) := [(1, 0, ⟨#[]⟩), (1, 1, ⟨#[]⟩)]
abbrev rowsN (n : Int) : List (Int × Int × ByteArray) := [(4, n, ⟨#[]⟩), (3, n, ⟨#[]⟩), (2, n, ⟨#[]⟩)]
abbrev rowsT (t : ByteArray) : List (Int × Int × ByteArray) := [(5, 0, t), (6, 0, t)]
/-- Row j does not answer s. -/
def Miss (s : List UInt8) (r : Int × Int × ByteArray) : Prop := s = [] ∨ printL r.1 r.2.1 r.2.2.data.toList ≠ s
def LRel (s : List UInt8) (L : List (Int × Int × ByteArray)) (x0 : World) (i : Value) (x : World) : Prop :=
  ∃ k : Nat, k ≤ L.length ∧ i = .int .i64 k ∧ Bel x0 x ∧ ∀ j r, j < k → L[j]? = some r → Miss s r

/-- What the worlds of the walk have: the answer's cells, and all that lay there. -/
def Start (w x : World) : Prop := w.heap.size + 1 ≤ x.heap.size ∧ Std w ∧ Bel w x ∧ x.cell? ⟨w.heap.size, 0, none⟩ = some (.int .i64 0) ∧ x.cell? ⟨w.heap.size, 1, none⟩ = some (.int .i64 0) ∧ x.cell? ⟨w.heap.size, 2, none⟩ = some (.string ⟨#[]⟩) ∧ ∀ o, x.frozen? ⟨w.heap.size, o, none⟩ = false
theorem Start.below {w x y : World} (h : Start w x) (hb : Below (w.heap.size + 1) x y) : Start w y := by
  obtain ⟨h1, h2, h3, h4, h5, h6, h7⟩ := h
  refine ⟨Nat.le_trans h1 hb.size, h2, Below.trans h3 (Below.mono hb (Nat.le_succ _)), ?_, ?_, ?_, fun o => ?_⟩
  · rw [Below.cell (p := ⟨w.heap.size, 0, none⟩) hb (Nat.lt_succ_self _)]; exact h4
  · rw [Below.cell (p := ⟨w.heap.size, 1, none⟩) hb (Nat.lt_succ_self _)]; exact h5
  · rw [Below.cell (p := ⟨w.heap.size, 2, none⟩) hb (Nat.lt_succ_self _)]; exact h6
  · rw [Below.frozen (p := ⟨w.heap.size, o, none⟩) hb (Nat.lt_succ_self _)]; exact h7 o
theorem Start.std {w x : World} (h : Start w x) : Std x := h.2.1.bel h.2.2.1
theorem Start.bel {w x y : World} (h : Start w x) (hb : Bel x y) : Start w y := h.below (Below.mono hb h.1)
theorem start_own {w x0 : World} (h : x0 = (w.alloc (.cells #[.int .i64 0, .int .i64 0, .string ⟨#[]⟩] 23)).alloc (.cells #[.int .i64 1, .int .i64 0, .string ⟨#[]⟩, .int .i64 1, .int .i64 1, .string ⟨#[]⟩] 23)) :
    OwnV (w.heap.size + 1) x0 (.slice (some ⟨w.heap.size + 1, 0, none⟩) 2 2) rowsB := by
  subst h
  have h := ownV_new (w.heap.size + 1) (w.alloc (.cells #[.int .i64 0, .int .i64 0, .string ⟨#[]⟩] 23)) #[.int .i64 1, .int .i64 0, .string ⟨#[]⟩, .int .i64 1, .int .i64 1, .string ⟨#[]⟩] rowsB rfl (by simp) (by decide)
  have e : (w.alloc (.cells #[.int .i64 0, .int .i64 0, .string ⟨#[]⟩] 23)).heap.size = w.heap.size + 1 := by simp
  rw [e] at h
  exact h
theorem start_start {w x0 : World} (h : x0 = (w.alloc (.cells #[.int .i64 0, .int .i64 0, .string ⟨#[]⟩] 23)).alloc (.cells #[.int .i64 1, .int .i64 0, .string ⟨#[]⟩, .int .i64 1, .int .i64 1, .string ⟨#[]⟩] 23)) (hs : Std w) : Start w x0 := by
  subst h
  have hB : Bel w ((w.alloc (.cells #[.int .i64 0, .int .i64 0, .string ⟨#[]⟩] 23)).alloc (.cells #[.int .i64 1, .int .i64 0, .string ⟨#[]⟩, .int .i64 1, .int .i64 1, .string ⟨#[]⟩] 23)) := ((Bel.refl w).alloc _).alloc _
  exact ⟨by simp, hs, hB, by go_simp, by go_simp, by go_simp, fun o => by go_simp⟩

theorem rows_good {s : ByteArray} {N : Int} {u : ByteArray} (hN : intIn N) (hu : u.size ≤ s.size) (j : Nat) (r : Int × Int × ByteArray) (h : (rowsB ++ rowsN N ++ rowsT u)[j]? = some r) : intIn r.2.1 ∧ r.2.2.size ≤ s.size := by
  have hm := List.mem_of_getElem? h
  have e0 : (ByteArray.mk #[]).size = 0 := rfl
  simp at hm
  rcases hm with rfl | rfl | rfl | rfl | rfl | rfl | rfl
  all_goals first
    | exact ⟨hN, by simp only [e0]; omega⟩
    | exact ⟨⟨by simp, by simp⟩, hu⟩
    | exact ⟨⟨by simp, by simp⟩, by simp only [e0]; omega⟩
theorem ext_list (s : ByteArray) (i j : Nat) : (s.extract i j).data.toList = (s.data.toList.take j).drop i := by
  simp [ByteArray.data_extract, List.extract_eq_take_drop]
  rw [List.drop_take]
theorem rows_all {s : ByteArray} (h1 : 2 ≤ s.size) {l : List UInt8} (hu : ∀ m L, mk m → (s.extract 1 (s.size - 1)).data.toList = escL m L → l = L) (k n : Int) (t : List UInt8) (hn : intIn n) (hr : rightB k n t = true) (hp : printL k n t = s.data.toList) :
    ∃ j : Nat, (rowsB ++ rowsN (numV (negB s.data.toList) s.data.toList) ++ rowsT ⟨l.toArray⟩)[j]? = some (k, n, ⟨t.toArray⟩) := by
  have hq : ∀ m, s.data.toList = m :: (escL m t ++ [m]) → (s.extract 1 (s.size - 1)).data.toList = escL m t := by
    intro m h
    have e : s.size = (escL m t).length + 2 := by
      have e1 : s.data.toList.length = s.size := rfl
      rw [← e1, h]; simp
    rw [ext_list, h, e]
    simp
  rcases form_of hr hp with ⟨rfl, rfl, rfl, _⟩ | ⟨rfl, rfl, rfl, _⟩ | ⟨rfl, rfl, h⟩ | ⟨rfl, rfl, h⟩ | ⟨rfl, rfl, h⟩ | ⟨rfl, rfl, h, _⟩ | ⟨rfl, rfl, h, _⟩
  · exact ⟨0, rfl⟩
  · exact ⟨1, rfl⟩
  · have := numV_itoa n hn [115] (by simp)
    rw [← h] at this
    exact ⟨4, by rw [this]; rfl⟩
  · have := numV_itoa n hn [105] (by simp)
    rw [← h] at this
    exact ⟨3, by rw [this]; rfl⟩
  · have := numV_itoa n hn [] (by simp)
    rw [List.append_nil, ← h] at this
    exact ⟨2, by rw [this]; rfl⟩
  · have := hu 39 t (Or.inl rfl) (hq 39 h)
    subst this
    exact ⟨5, rfl⟩
  · have := hu 34 t (Or.inr rfl) (hq 34 h)
    subst this
    exact ⟨6, rfl⟩
theorem miss_next {s : List UInt8} {L : List (Int × Int × ByteArray)} {k : Nat} (h : ∀ j r, j < k → L[j]? = some r → Miss s r) {r : Int × Int × ByteArray} (hr : L[k]? = some r) (hm : Miss s r) : ∀ j r, j < k + 1 → L[j]? = some r → Miss s r := by
  intro j r' hj hr'
  rcases Nat.lt_or_ge j k with h1 | h1
  · exact h j r' h1 hr'
  · have : j = k := by omega
    subst this
    rw [hr] at hr'; injection hr' with hr'; subst hr'; exact hm
theorem ref_found {s t : List UInt8} {k n : Int} (hs : s ≠ []) (hp : printL k n t = s) : ReadOk s k n t 0 := by
  refine Or.inl ⟨rfl, ?_, hp⟩
  cases h : rightB k n t
  · exact absurd (hp.symm.trans (by simp [printL, h])) hs
  · rfl
theorem ref_none {s : List UInt8} {L : List (Int × Int × ByteArray)} (ha : ∀ k n t, intIn n → rightB k n t = true → printL k n t = s → ∃ j : Nat, L[j]? = some (k, n, ⟨t.toArray⟩)) (h : ∀ j r, j < L.length → L[j]? = some r → Miss s r) : ReadOk s 0 0 [] 8 := by
  refine Or.inr ⟨rfl, rfl, rfl, rfl, fun k n t hn hr hp => ?_⟩
  obtain ⟨j, hj⟩ := ha k n t hn hr hp
  have hlt : j < L.length := by
    rcases Nat.lt_or_ge j L.length with h | h
    · exact h
    · rw [List.getElem?_eq_none h] at hj; cases hj
  rcases h j _ hlt hj with h | h
  · have := (form_len hn (form_of hr hp)).1
    rw [h] at this; simp at this
  · exact h (by simpa using hp)

set_option maxHeartbeats 1000000 in
set_option maxRecDepth 100000 in
theorem ref_read_some (s : ByteArray) (h1 : 2 ≤ s.size) (h2 : s.size < 24) (w : World) (hstd : Std w) :
    Calls Tryd.prog 19 #[.string s] w (ReadPost s.data.toList w) := by
  have HS := Lib.hid hstd; clear hstd
  have hn := Lib.hid (ref_number_any s (by omega) (by omega))
  generalize hN : numV (negB s.data.toList) s.data.toList = N at hn
  have p0 : (0 : Int) < (s.size : Int) := by omega
  have p1 : (s.size : Int) < 24 := by omega
  have p2 : (2 : Int) ≤ (s.size : Int) := by omega
  go_enter Tryd.func19, Tryd.ntmps19
  go_wp2_with (fail)
  obtain ⟨x0, hx0⟩ : ∃ x, x = (w.alloc (.cells #[.int .i64 0, .int .i64 0, .string ⟨#[]⟩] 23)).alloc (.cells #[.int .i64 1, .int .i64 0, .string ⟨#[]⟩, .int .i64 1, .int .i64 1, .string ⟨#[]⟩] 23) := ⟨_, rfl⟩
  rw [← hx0]
  have HO : Hid (OwnV (w.heap.size + 1) x0 (.slice (some ⟨w.heap.size + 1, 0, none⟩) 2 2) rowsB) := start_own hx0
  have HB : Hid (Start w x0) := start_start hx0 HS.out
  have hz : w.heap.size + 1 ≤ x0.heap.size := HB.out.1
  clear hx0
  refine (hn.out _).mono ?_
  rintro e w' ⟨rfl, rfl⟩
  go_wp2_with (fail)
  refine (hn.out _).mono ?_
  rintro e w' ⟨rfl, rfl⟩
  go_wp2_with (fail)
  refine (hn.out _).mono ?_
  rintro e w' ⟨rfl, rfl⟩
  go_wp2_with (at_builtin; refine stop_here ?_)
  refine go_on ?_
  refine append_vlit rfl _ _ rfl (w.heap.size + 1) _ rowsB rfl HO.out _ _ _ (rowsN N) rfl rfl rfl (by simp) hz (Or.inl rfl) ?_
  intro v1 w1 hown1 hbel1 hZ1
  have HO1 := Lib.hid hown1
  have HB1 := Lib.hid (HB.out.below hbel1)
  clear hown1 hbel1 HO HB hz
  go_wp2_with (fail)
  refine (ref_unquoted_any _ w1 (by have : (s.extract 1 (s.size - 1)).size ≤ s.size := by simp [ByteArray.size_extract]; omega
                                    omega)).mono ?_
  rintro e w2 ⟨l, rfl, hl, hu, hb⟩
  have HO2 := Lib.hid (HO1.out.bel hb)
  have HB2 := Lib.hid (HB1.out.bel hb)
  have HU := Lib.hid hu
  have hZ2 : w.heap.size + 1 ≤ w2.heap.size := HB2.out.1
  clear hb hu HO1 HB1
  go_wp2_with (at_builtin; refine stop_here ?_)
  refine go_on ?_
  refine append_vlit rfl _ _ rfl (w.heap.size + 1) _ (rowsB ++ rowsN N) rfl HO2.out _ _ _ (rowsT ⟨l.toArray⟩) rfl rfl rfl (by simp) hZ2 (Or.inl rfl) ?_
  intro v3 w3 hown3 hbel3 hZ3
  have HB3 := Lib.hid (HB2.out.below hbel3)
  obtain ⟨L, hL⟩ : ∃ L, L = rowsB ++ rowsN N ++ rowsT ⟨l.toArray⟩ := ⟨_, rfl⟩
  rw [← hL] at hown3
  have hl0 : L ≠ [] := by rw [hL]; simp
  have hl9 : L.length ≤ 9 := by rw [hL]; simp
  have HG : Hid (∀ (j : Nat) r, L[j]? = some r → intIn r.2.1 ∧ r.2.2.size ≤ s.size) := by
    rw [hL]
    have hlx : l.length ≤ s.size := Nat.le_trans hl (by simp [ByteArray.size_extract]; omega)
    refine rows_good (hN ▸ numV_in _ _) ?_
    have e2 : (ByteArray.mk l.toArray).size = l.length := by simp [ByteArray.size]
    omega
  have HF : Hid (∀ k n t, intIn n → rightB k n t = true → printL k n t = s.data.toList → ∃ j : Nat, L[j]? = some (k, n, ⟨t.toArray⟩)) := by
    rw [hL, ← hN]
    exact rows_all h1 HU.out
  have hs9 : s.size ≤ 1000000 := by omega
  have hs0 : s.data.toList ≠ [] := by intro h; have e : s.data.toList.length = s.size := rfl; rw [h] at e; simp at e; omega
  have t0 : ¬ s.toList = [] := by rw [ByteArray.toList_eq]; exact hs0
  have t2 : (!s.toList.isEmpty) = true := by simp [t0]
  clear hL
  obtain ⟨g, cap, rfl, hg0, hg1, hcap, hcells⟩ := ownV_cells hown3 hl0
  have HC := Lib.hid hcells
  clear hown3 hbel3 HO2 HB2 hcells
  go_wp2_with (fail)
  go_loopw [6] (fun i x => LRel s.data.toList L w3 i x) (fun i _ => L.length - (intOf i).toNat)
  case atStart => exact ⟨0, Nat.zero_le _, rfl, Bel.refl _, fun j r h _ => absurd h (Nat.not_lt_zero _)⟩
  case round =>
    obtain ⟨k, hk, rfl, hb, hm⟩ := hrel
    have HB := Lib.hid hb
    have HM := Lib.hid hm; clear hm
    by_cases hlt : k < L.length
    · obtain ⟨⟨kk, nn, tt⟩, hr⟩ : ∃ r, L[k]? = some r := ⟨L[k], by simp [hlt]⟩
      obtain ⟨c0, c1, c2⟩ := HC.out k _ hr
      replace c0 := cell_later hb c0
      replace c1 := cell_later hb c1
      replace c2 := cell_later hb c2
      clear hb
      obtain ⟨hnn, htt⟩ := HG.out k _ hr
      have HP := Lib.hid (ref_print_any kk nn tt wr (Nat.le_trans htt (by unfold maxLen; omega)) hnn.1 hnn.2)
      by_cases hps : printL kk nn tt.data.toList = s.data.toList
      · have HOk := Lib.hid (ref_found (n := nn) (k := kk) (t := tt.data.toList) hs0 hps)
        have t1 : (printL kk nn tt.data.toList == s.toList) = true := by rw [ByteArray.toList_eq, hps]; simp
        go_wp2_with (fail)
        refine HP.out.mono ?_
        rintro e w5 ⟨rfl, hb5⟩
        replace c0 := cell_later hb5 c0
        replace c1 := cell_later hb5 c1
        replace c2 := cell_later hb5 c2
        have HB5 := Lib.hid ((HB3.out.bel HB.out).bel hb5)
        obtain ⟨q1, -, -, r0, r1, r2, fz⟩ := HB5.out
        clear hb5
        go_wp2_with (fail)
        refine bodyPost_ret (v := .tuple #[.agg #[.int .i64 kk, .int .i64 nn, .string tt], .int .i64 0]) (by simp [results, Tryd.results19, go_sem, r0, r1, r2]) rfl
          ⟨kk, nn, tt.data.toList, 0, by rw [show (ByteArray.mk tt.data.toList.toArray) = tt by apply ByteArray.ext; simp], hnn, htt, HOk.out, ?_⟩
        exact (((HB5.out.2.2.1).setCell (Nat.le_refl _) _).setCell (Nat.le_refl _) _).setCell (Nat.le_refl _) _
      · have HNx := Lib.hid (miss_next HM.out hr (Or.inr hps))
        have t1 : (printL kk nn tt.data.toList == s.toList) = false := by rw [ByteArray.toList_eq]; simpa using hps
        go_wp2_with (fail)
        refine HP.out.mono ?_
        rintro e w5 ⟨rfl, hb5⟩
        have HB5 := Lib.hid (HB.out.trans hb5)
        clear hb5
        go_wp2_with (fail)
        all_goals go_roundw
        all_goals first
          | exact ⟨k + 1, hlt, by go_num, HB5.out, HNx.out⟩
          | (simp [intOf]; omega)
    · clear hb
      have e : k = L.length := by omega
      have HNo := Lib.hid (ref_none HF.out (e ▸ HM.out))
      obtain ⟨q1, -, -, r0, r1, r2, fz⟩ := (HB3.out.bel HB.out)
      go_wp2_with (fail)
      refine bodyPost_ret (v := .tuple #[.agg #[.int .i64 0, .int .i64 0, .string ⟨#[]⟩], .int .i64 8]) (by simp [results, Tryd.results19, go_sem, r0, r1, r2]) rfl
        ⟨0, 0, [], 8, rfl, ⟨by omega, by omega⟩, Nat.zero_le _, HNo.out, ?_⟩
      exact (((HB3.out.bel HB.out).2.2.1.setCell (Nat.le_refl _) _).setCell (Nat.le_refl _) _).setCell (Nat.le_refl _) _
end Go.Proofs.YtndknolblfdcdaaDoor
