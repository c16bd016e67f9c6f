/- moultref4.Take: the document's answer for the value that stands ahead of some bytes. -/
import Derived.Test.YtggmeggfibblhaaDoorKRVal
set_option linter.unusedSimpArgs false
set_option linter.unusedVariables false
namespace Go.Proofs.YtggmeggfibblhaaDoor
open Go.RowKit Go.Deep

theorem ret_take {a e : Value} {x y : ByteArray} (h : x = y) : Ending.returned (.tuple #[a, .string x, e]) = Ending.returned (.tuple #[a, .string y, e]) := by rw [h]
theorem lenL_len : ∀ (l : List UInt8) (p : UInt8), (lenL p l).length ≤ l.length
  | [], p => by simp [lenL]
  | b :: l, p => by
    have := lenL_len l b
    rw [lenL]
    split <;> simp <;> omega
theorem ext_first (s : ByteArray) (n : Nat) (h1 : 1 ≤ n) (h : n ≤ s.size) : ∃ h' : 0 < (s.extract 0 n).size, (s.extract 0 n)[0] = s[0]'(by omega) ∧ (s.extract 0 n).size = n := by
  have hz : (s.extract 0 n).size = n := by simp [ByteArray.size_extract]; omega
  refine ⟨by omega, ?_, hz⟩
  have e := list_head (s.extract 0 n) (by omega)
  have e1 : (s.extract 0 n).data.toList = s.data.toList.take n := by rw [ext_data, List.drop_zero]
  rw [list_head s (by omega)] at e1
  obtain ⟨j, rfl⟩ : ∃ j, n = j + 1 := ⟨n - 1, by omega⟩
  rw [List.take_succ_cons] at e1
  exact (List.cons.inj (e.symm.trans e1)).1

set_option maxHeartbeats 8000000 in
theorem rtake_any (s : ByteArray) (w : World) (hs : s.size ≤ 1000000) :
    Calls Tryd.prog 16 #[.string s] w fun e w' => e = .returned (takeV (readL s.data.toList)) ∧ Bel w w' := by
  by_cases h0 : s.size = 0
  · obtain rfl : s = ⟨#[]⟩ := by apply ByteArray.ext; exact Array.eq_empty_of_size_eq_zero h0
    go_enter Tryd.func16, Tryd.ntmps16
    go_wp2_with (fail)
    exact bodyPost_ret (v := .tuple #[.agg #[.int .i64 0, .int .i64 0, .string ⟨#[]⟩], .string ⟨#[]⟩, .int .i64 8]) (by simp [results, Tryd.results16, go_sem]) rfl
      ⟨rfl, (Bel.refl w).alloc _⟩
  have h0' : 0 < s.size := by omega
  have hsl : s.data.toList.length = s.size := rfl
  have hl := list_head s h0'
  have HL := Lib.hid hl
  have hne : s.toList.isEmpty = false := by rw [ByteArray.toList_eq, hl]; rfl
  clear hl
  have hkb := s[0].toNat_lt
  have hw64 : wrap64 (s[0].toNat : Int) = s[0].toNat := by unfold wrap64; omega
  have i0 : (0 : Int) < (s.size : Int) := by omega
  obtain ⟨k, hk⟩ : ∃ k : Nat, s[0].toNat = k := ⟨_, rfl⟩
  obtain ⟨d, hd⟩ : ∃ d, widK k = d := ⟨_, rfl⟩
  have hd8 : d ≤ 8 := by rw [← hd]; exact widK_le _
  have HK := Lib.hid hk
  have HD := Lib.hid hd
  rw [hk] at hw64
  have HB0 := Lib.hid ((Bel.refl w).alloc (.cells #[.int .i64 0, .int .i64 0, .string ⟨#[]⟩] 23))
  go_enter Tryd.func16, Tryd.ntmps16
  go_wp2_with (fail)
  refine (width_any k _).mono ?_
  rintro e w0 ⟨rfl, rfl⟩
  rw [hd]
  by_cases hd0 : d = 0
  · subst hd0
    obtain ⟨o, ho⟩ : ∃ o, endL (s.data.toList.drop 1) = o := ⟨_, rfl⟩
    have HO := Lib.hid ho
    go_wp2_with (fail)
    refine (end_any s o ho _ hs h0').mono ?_
    rintro e w0 ⟨rfl, rfl⟩
    clear ho
    cases o with
    | none =>
      have HR := Lib.hid (show readL s.data.toList = none by rw [HL.out]; exact text_none _ _ (by rw [HK.out]; exact HD.out) HO.out)
      have he : endI none = -1 := rfl
      rw [he]
      go_wp2_with (fail)
      exact bodyPost_ret (v := .tuple #[.agg #[.int .i64 0, .int .i64 0, .string ⟨#[]⟩], .string ⟨#[]⟩, .int .i64 8]) (by simp [results, Tryd.results16, go_sem]) rfl
        ⟨by rw [HR.out]; rfl, (Bel.refl w).alloc _⟩
    | some m =>
      obtain ⟨hm2, hml⟩ := end_len _ _ HO.out
      rw [List.length_drop, hsl] at hml
      have he : endI (some m) = ((m + 1 : Nat) : Int) := rfl
      rw [he]
      obtain ⟨hx0, hx1, hx2⟩ := ext_first s (m + 1) (by omega) (by omega)
      obtain ⟨b, hb⟩ : ∃ b, lenL 1 ((s.data.toList.drop 1).take (m - 2)) = b := ⟨_, rfl⟩
      have hvv : valueV (s.extract 0 (m + 1)) k 0 = .agg #[.int .i64 k, .int .i64 0, .string ⟨b.toArray⟩] := by
        unfold valueV
        have e1 : ((s.extract 0 (m + 1)).data.toList.drop 1).take ((s.extract 0 (m + 1)).size - 3) = (s.data.toList.drop 1).take (m - 2) := by
          rw [hx2, ext_data, List.drop_zero, List.drop_take, List.take_take]; congr 1; omega
        rw [if_pos rfl, e1, hb]
      have hval : ∀ W, Calls Tryd.prog 35 #[.string (s.extract 0 (m + 1))] W fun e w' => e = .returned (.agg #[.int .i64 k, .int .i64 0, .string ⟨b.toArray⟩]) ∧ Bel W w' := by
        intro W
        rw [← hvv]
        exact value_any _ k 0 W hx0 (by omega) (by rw [hx1]; exact HK.out) HD.out (Or.inl rfl)
      have HUS := Lib.hid (show (KV.mk k 0 ⟨b.toArray⟩).s.size ≤ maxLen by
        have : b.length ≤ m := by rw [← hb]; exact Nat.le_trans (lenL_len _ _) (by rw [List.length_take]; omega)
        show b.toArray.size ≤ _; rw [List.size_toArray]; unfold maxLen; omega)
      have HUI := Lib.hid (show (KV.mk k 0 ⟨b.toArray⟩).in64 from ⟨by simp, by simp⟩)
      have hxe : (s.extract 0 (m + 1)).data.toList = UInt8.ofNat ((k : Int).toNat) :: (s.data.toList.drop 1).take m := by
        rw [ext_data, List.drop_zero]
        conv => lhs; rw [HL.out, List.take_succ_cons]
        rw [← HK.out]; simp
      have hen : encL ⟨k, 0, ⟨b.toArray⟩⟩ = UInt8.ofNat ((k : Int).toNat) :: (escL b ++ [0, 0]) := by unfold encL bodyL; rw [if_pos HD.out]; rfl
      have HYES := Lib.hid (show KV.right ⟨k, 0, ⟨b.toArray⟩⟩ = true → encL ⟨k, 0, ⟨b.toArray⟩⟩ = (s.extract 0 (m + 1)).data.toList → readL s.data.toList = some (⟨k, 0, ⟨b.toArray⟩⟩, s.data.toList.drop (m + 1)) by
        intro h1 h2
        rw [hxe, hen] at h2
        have := text_yes s[0] (s.data.toList.drop 1) b m (by rw [HK.out]; exact HD.out) HO.out (by rw [HK.out]; exact h1) (List.cons.inj h2).2
        rw [← HL.out, List.drop_drop, HK.out, show 1 + m = m + 1 by omega] at this
        exact this)
      have HNO := Lib.hid (show (KV.right ⟨k, 0, ⟨b.toArray⟩⟩ = false ∨ encL ⟨k, 0, ⟨b.toArray⟩⟩ ≠ (s.extract 0 (m + 1)).data.toList) → readL s.data.toList = none by
        intro h
        rw [hxe, hen] at h
        rw [HL.out]
        refine text_no s[0] (s.data.toList.drop 1) m (by rw [HK.out]; exact HD.out) HO.out ?_
        rw [hb, HK.out]
        rcases h with h | h
        · exact Or.inl h
        · exact Or.inr fun hh => h (by rw [hh]))
      clear hvv hxe hen hb hx0 hx1 hx2 he
      have c1 : ((m + 1 : Nat) : Int) ≤ (s.size : Int) := by omega
      have c2 : ¬ ((m + 1 : Nat) : Int) < 0 := by omega
      go_wp2_with (fail)
      refine (hval _).mono ?_
      rintro e w1 ⟨rfl, hb⟩
      have HB := Lib.hid (HB0.out.trans hb)
      have q0 : w1.cell? ⟨w.heap.size, 0, none⟩ = some (.int .i64 0) := cell_later hb (by go_simp)
      have q1 : w1.cell? ⟨w.heap.size, 1, none⟩ = some (.int .i64 0) := cell_later hb (by go_simp)
      have q2 : w1.cell? ⟨w.heap.size, 2, none⟩ = some (.string ⟨#[]⟩) := cell_later hb (by go_simp)
      have f0 : w1.frozen? ⟨w.heap.size, 0, none⟩ = false := (hb.frozen _ _ (by simp)).trans (by go_simp)
      have f1 : w1.frozen? ⟨w.heap.size, 1, none⟩ = false := (hb.frozen _ _ (by simp)).trans (by go_simp)
      have f2 : w1.frozen? ⟨w.heap.size, 2, none⟩ = false := (hb.frozen _ _ (by simp)).trans (by go_simp)
      have hlt1 : w.heap.size < w1.heap.size := hb.past
      clear hb hval
      go_wp2_with (fail)
      refine (rput_any ⟨k, 0, ⟨b.toArray⟩⟩ _ HUS.out HUI.out).mono ?_
      rintro e w2 ⟨rfl, hb⟩
      have hlt2 : w.heap.size < w2.heap.size := by have := hb.past; omega
      have hlt3 : w1.heap.size < w2.heap.size := hb.past
      have p0 : w2.cell? ⟨w.heap.size, 0, none⟩ = some (.int .i64 0) := cell_later hb (by go_simp)
      have p1 : w2.cell? ⟨w.heap.size, 1, none⟩ = some (.int .i64 0) := cell_later hb (by go_simp)
      have p2 : w2.cell? ⟨w.heap.size, 2, none⟩ = some (.string ⟨#[]⟩) := cell_later hb (by go_simp)
      have e0 : w2.frozen? ⟨w.heap.size, 0, none⟩ = false := (hb.frozen _ _ (by simp; omega)).trans (by go_simp)
      have e1 : w2.frozen? ⟨w.heap.size, 1, none⟩ = false := (hb.frozen _ _ (by simp; omega)).trans (by go_simp)
      have e2 : w2.frozen? ⟨w.heap.size, 2, none⟩ = false := (hb.frozen _ _ (by simp; omega)).trans (by go_simp)
      have r0 : w2.cell? ⟨w1.heap.size, 0, none⟩ = some (.int .i64 k) := cell_later hb (by go_simp)
      have r1 : w2.cell? ⟨w1.heap.size, 1, none⟩ = some (.int .i64 0) := cell_later hb (by go_simp)
      have r2 : w2.cell? ⟨w1.heap.size, 2, none⟩ = some (.string ⟨b.toArray⟩) := cell_later hb (by go_simp)
      replace HB := Lib.hid ((HB.out.alloc _).trans hb)
      clear hb
      clear q0 q1 q2 f0 f1 f2
      cases hr : KV.right ⟨k, 0, ⟨b.toArray⟩⟩ with
      | false =>
        have HR := Lib.hid (HNO.out (Or.inl hr))
        have hv : putV ⟨k, 0, ⟨b.toArray⟩⟩ = .tuple #[.string ⟨#[]⟩, .int .i64 1] := by unfold putV; rw [hr]; rfl
        rw [hv]
        clear hv hr
        go_wp2_with (fail)
        exact bodyPost_ret (v := .tuple #[.agg #[.int .i64 0, .int .i64 0, .string ⟨#[]⟩], .string ⟨#[]⟩, .int .i64 8]) (by simp [results, Tryd.results16, go_sem, p0, p1, p2]) rfl
          ⟨by rw [HR.out]; rfl, by first | exact ((HB.out.setCell (Nat.le_refl _) _).setCell (Nat.le_refl _) _).setCell (Nat.le_refl _) _ | exact HB.out⟩
      | true =>
        have hv : putV ⟨k, 0, ⟨b.toArray⟩⟩ = .tuple #[.string ⟨(encL ⟨k, 0, ⟨b.toArray⟩⟩).toArray⟩, .int .i64 0] := by unfold putV; rw [if_pos hr]
        rw [hv]
        clear hv
        by_cases heq : encL ⟨k, 0, ⟨b.toArray⟩⟩ = (s.extract 0 (m + 1)).data.toList
        · have HR := Lib.hid (HYES.out hr heq)
          have hbq : (encL ⟨k, 0, ⟨b.toArray⟩⟩ == (s.extract 0 (m + 1)).toList) = true := by rw [ByteArray.toList_eq, heq]; simp
          have hbq2 : (encL ⟨k, 0, ⟨b.toArray⟩⟩ != (s.extract 0 (m + 1)).toList) = false := by rw [ByteArray.toList_eq, heq]; simp
          clear hr heq
          generalize encL ⟨k, 0, ⟨b.toArray⟩⟩ = E at *
          go_wp2_with (fail)
          go_region
          go_wp2_with (fail)
          exact bodyPost_ret (v := .tuple #[.agg #[.int .i64 k, .int .i64 0, .string ⟨b.toArray⟩], .string (s.extract (m + 1) s.size), .int .i64 0]) (by simp [results, Tryd.results16, go_sem, p0, p1, p2]) rfl
            ⟨by rw [HR.out]; exact ret_take (ba_eq (ext_end s (m + 1))), (((HB.out.setCell (Nat.le_refl _) _).setCell (Nat.le_refl _) _).setCell (Nat.le_refl _) _).drew⟩
        · have HR := Lib.hid (HNO.out (Or.inr heq))
          have hbq : (encL ⟨k, 0, ⟨b.toArray⟩⟩ == (s.extract 0 (m + 1)).toList) = false := by rw [ByteArray.toList_eq]; exact beq_eq_false_iff_ne.2 heq
          have hbq2 : (encL ⟨k, 0, ⟨b.toArray⟩⟩ != (s.extract 0 (m + 1)).toList) = true := by rw [ByteArray.toList_eq]; simpa using heq
          clear hr heq
          generalize encL ⟨k, 0, ⟨b.toArray⟩⟩ = E at *
          go_wp2_with (fail)
          exact bodyPost_ret (v := .tuple #[.agg #[.int .i64 0, .int .i64 0, .string ⟨#[]⟩], .string ⟨#[]⟩, .int .i64 8]) (by simp [results, Tryd.results16, go_sem, p0, p1, p2]) rfl
            ⟨by rw [HR.out]; rfl, by first | exact ((HB.out.setCell (Nat.le_refl _) _).setCell (Nat.le_refl _) _).setCell (Nat.le_refl _) _ | exact HB.out⟩
  · have hk4 : 1 ≤ k ∧ k ≤ 4 := by
      rcases wid_cases k d hd with h | h | h | h | h
      all_goals first | omega | skip
      all_goals (unfold widK at hd; (repeat' split at hd) <;> omega)
    have hrn := read_num s[0] (s.data.toList.drop 1) (by rw [hk]; exact hk4)
    rw [← HL.out, hk, hd] at hrn
    have HRN := Lib.hid hrn; clear hrn
    by_cases hsz : s.size < 1 + d
    · have HR := Lib.hid (HRN.out.trans (if_pos (by rw [List.length_drop, hsl]; omega)))
      have i5 : (s.size : Int) < 1 + (d : Int) := by omega
      have i6 : ¬ 1 + (d : Int) = 1 := by omega
      go_wp2_with (fail)
      exact bodyPost_ret (v := .tuple #[.agg #[.int .i64 0, .int .i64 0, .string ⟨#[]⟩], .string ⟨#[]⟩, .int .i64 8]) (by simp [results, Tryd.results16, go_sem]) rfl
        ⟨by rw [HR.out]; rfl, (Bel.refl w).alloc _⟩
    · have hr2 := HRN.out.trans (if_neg (by rw [List.length_drop, hsl]; omega))
      obtain ⟨hx0, hx1, hx2⟩ := ext_first s (1 + d) (by omega) (by omega)
      have hxd : (s.extract 0 (1 + d)).data.toList.drop 1 = (s.data.toList.drop 1).take d := by
        rw [ext_data, List.drop_zero, List.drop_take]; congr 1; omega
      have hin := num_in k ((s.data.toList.drop 1).take d) (by rw [hd]; exact List.length_take_le _ _)
      obtain ⟨N, hN⟩ : ∃ N : Int, (sumL ((s.data.toList.drop 1).take d) : Int) - biasK k = N := ⟨_, rfl⟩
      rw [hN] at hin hr2
      have hvv : valueV (s.extract 0 (1 + d)) k d = .agg #[.int .i64 k, .int .i64 N, .string ⟨#[]⟩] := by
        unfold valueV
        rw [if_neg hd0, hxd, hN]
      have hval : ∀ W, Calls Tryd.prog 35 #[.string (s.extract 0 (1 + d))] W fun e w' => e = .returned (.agg #[.int .i64 k, .int .i64 N, .string ⟨#[]⟩]) ∧ Bel W w' := by
        intro W
        rw [← hvv]
        exact value_any _ k d W hx0 (by omega) (by rw [hx1]; exact HK.out) HD.out (Or.inr hx2)
      have HUS := Lib.hid (show (KV.mk k N ⟨#[]⟩).s.size ≤ maxLen from Nat.zero_le _)
      have HUI := Lib.hid (show (KV.mk k N ⟨#[]⟩).in64 from hin)
      have hxe : (s.extract 0 (1 + d)).data.toList = s.data.toList.take (1 + d) := by rw [ext_data, List.drop_zero]
      have hdd : (s.data.toList.drop 1).drop d = s.data.toList.drop (1 + d) := List.drop_drop
      rw [hdd] at hr2
      have HYES := Lib.hid (show KV.right ⟨k, N, ⟨#[]⟩⟩ = true → encL ⟨k, N, ⟨#[]⟩⟩ = (s.extract 0 (1 + d)).data.toList → readL s.data.toList = some (⟨k, N, ⟨#[]⟩⟩, s.data.toList.drop (1 + d)) by
        intro h1 _
        exact hr2.trans (if_pos h1))
      have HNO := Lib.hid (show (KV.right ⟨k, N, ⟨#[]⟩⟩ = false ∨ encL ⟨k, N, ⟨#[]⟩⟩ ≠ (s.extract 0 (1 + d)).data.toList) → readL s.data.toList = none by
        intro h
        by_cases h1 : KV.right ⟨k, N, ⟨#[]⟩⟩ = true
        · rcases h with h | h
          · rw [h1] at h; cases h
          · exfalso
            obtain ⟨_, _, h3⟩ := read_some _ _ _ (hr2.trans (if_pos h1))
            apply h
            rw [hxe]
            conv => rhs; rw [← h3]
            have hel : (encL ⟨k, N, ⟨#[]⟩⟩).length = 1 + d := by
              have := congrArg List.length h3
              rw [List.length_append, List.length_drop, hsl] at this
              omega
            rw [← hel, List.take_left]
        · exact hr2.trans (if_neg h1))
      clear hvv hxe hx0 hx1 hx2 hxd hr2 hN hdd hin hd
      have c1 : ¬ (s.size : Int) < 1 + (d : Int) := by omega
      have c2 : ¬ 1 + (d : Int) < 0 := by omega
      have i6 : ¬ 1 + (d : Int) = 1 := by omega
      go_wp2_with (fail)
      refine (hval _).mono ?_
      rintro e w1 ⟨rfl, hb⟩
      have HB := Lib.hid (HB0.out.trans hb)
      have q0 : w1.cell? ⟨w.heap.size, 0, none⟩ = some (.int .i64 0) := cell_later hb (by go_simp)
      have q1 : w1.cell? ⟨w.heap.size, 1, none⟩ = some (.int .i64 0) := cell_later hb (by go_simp)
      have q2 : w1.cell? ⟨w.heap.size, 2, none⟩ = some (.string ⟨#[]⟩) := cell_later hb (by go_simp)
      have f0 : w1.frozen? ⟨w.heap.size, 0, none⟩ = false := (hb.frozen _ _ (by simp)).trans (by go_simp)
      have f1 : w1.frozen? ⟨w.heap.size, 1, none⟩ = false := (hb.frozen _ _ (by simp)).trans (by go_simp)
      have f2 : w1.frozen? ⟨w.heap.size, 2, none⟩ = false := (hb.frozen _ _ (by simp)).trans (by go_simp)
      have hlt1 : w.heap.size < w1.heap.size := hb.past
      clear hb hval
      go_wp2_with (fail)
      refine (rput_any ⟨k, N, ⟨#[]⟩⟩ _ HUS.out HUI.out).mono ?_
      rintro e w2 ⟨rfl, hb⟩
      have hlt2 : w.heap.size < w2.heap.size := by have := hb.past; omega
      have hlt3 : w1.heap.size < w2.heap.size := hb.past
      have p0 : w2.cell? ⟨w.heap.size, 0, none⟩ = some (.int .i64 0) := cell_later hb (by go_simp)
      have p1 : w2.cell? ⟨w.heap.size, 1, none⟩ = some (.int .i64 0) := cell_later hb (by go_simp)
      have p2 : w2.cell? ⟨w.heap.size, 2, none⟩ = some (.string ⟨#[]⟩) := cell_later hb (by go_simp)
      have e0 : w2.frozen? ⟨w.heap.size, 0, none⟩ = false := (hb.frozen _ _ (by simp; omega)).trans (by go_simp)
      have e1 : w2.frozen? ⟨w.heap.size, 1, none⟩ = false := (hb.frozen _ _ (by simp; omega)).trans (by go_simp)
      have e2 : w2.frozen? ⟨w.heap.size, 2, none⟩ = false := (hb.frozen _ _ (by simp; omega)).trans (by go_simp)
      have r0 : w2.cell? ⟨w1.heap.size, 0, none⟩ = some (.int .i64 k) := cell_later hb (by go_simp)
      have r1 : w2.cell? ⟨w1.heap.size, 1, none⟩ = some (.int .i64 N) := cell_later hb (by go_simp)
      have r2 : w2.cell? ⟨w1.heap.size, 2, none⟩ = some (.string ⟨#[]⟩) := cell_later hb (by go_simp)
      replace HB := Lib.hid ((HB.out.alloc _).trans hb)
      clear hb
      clear q0 q1 q2 f0 f1 f2
      cases hr : KV.right ⟨k, N, ⟨#[]⟩⟩ with
      | false =>
        have HR := Lib.hid (HNO.out (Or.inl hr))
        have hv : putV ⟨k, N, ⟨#[]⟩⟩ = .tuple #[.string ⟨#[]⟩, .int .i64 1] := by unfold putV; rw [hr]; rfl
        rw [hv]
        clear hv hr
        go_wp2_with (fail)
        exact bodyPost_ret (v := .tuple #[.agg #[.int .i64 0, .int .i64 0, .string ⟨#[]⟩], .string ⟨#[]⟩, .int .i64 8]) (by simp [results, Tryd.results16, go_sem, p0, p1, p2]) rfl
          ⟨by rw [HR.out]; rfl, by first | exact ((HB.out.setCell (Nat.le_refl _) _).setCell (Nat.le_refl _) _).setCell (Nat.le_refl _) _ | exact HB.out⟩
      | true =>
        have hv : putV ⟨k, N, ⟨#[]⟩⟩ = .tuple #[.string ⟨(encL ⟨k, N, ⟨#[]⟩⟩).toArray⟩, .int .i64 0] := by unfold putV; rw [if_pos hr]
        rw [hv]
        clear hv
        by_cases heq : encL ⟨k, N, ⟨#[]⟩⟩ = (s.extract 0 (1 + d)).data.toList
        · have HR := Lib.hid (HYES.out hr heq)
          have hbq : (encL ⟨k, N, ⟨#[]⟩⟩ == (s.extract 0 (1 + d)).toList) = true := by rw [ByteArray.toList_eq, heq]; simp
          have hbq2 : (encL ⟨k, N, ⟨#[]⟩⟩ != (s.extract 0 (1 + d)).toList) = false := by rw [ByteArray.toList_eq, heq]; simp
          clear hr heq
          generalize encL ⟨k, N, ⟨#[]⟩⟩ = E at *
          go_wp2_with (fail)
          go_region
          go_wp2_with (fail)
          exact bodyPost_ret (v := .tuple #[.agg #[.int .i64 k, .int .i64 N, .string ⟨#[]⟩], .string (s.extract (1 + d) s.size), .int .i64 0]) (by simp [results, Tryd.results16, go_sem, p0, p1, p2]) rfl
            ⟨by rw [HR.out]; exact ret_take (ba_eq (ext_end s (1 + d))), (((HB.out.setCell (Nat.le_refl _) _).setCell (Nat.le_refl _) _).setCell (Nat.le_refl _) _).drew⟩
        · have HR := Lib.hid (HNO.out (Or.inr heq))
          have hbq : (encL ⟨k, N, ⟨#[]⟩⟩ == (s.extract 0 (1 + d)).toList) = false := by rw [ByteArray.toList_eq]; exact beq_eq_false_iff_ne.2 heq
          have hbq2 : (encL ⟨k, N, ⟨#[]⟩⟩ != (s.extract 0 (1 + d)).toList) = true := by rw [ByteArray.toList_eq]; simpa using heq
          clear hr heq
          generalize encL ⟨k, N, ⟨#[]⟩⟩ = E at *
          go_wp2_with (fail)
          exact bodyPost_ret (v := .tuple #[.agg #[.int .i64 0, .int .i64 0, .string ⟨#[]⟩], .string ⟨#[]⟩, .int .i64 8]) (by simp [results, Tryd.results16, go_sem, p0, p1, p2]) rfl
            ⟨by rw [HR.out]; rfl, by first | exact ((HB.out.setCell (Nat.le_refl _) _).setCell (Nat.le_refl _) _).setCell (Nat.le_refl _) _ | exact HB.out⟩
end Go.Proofs.YtggmeggfibblhaaDoor
