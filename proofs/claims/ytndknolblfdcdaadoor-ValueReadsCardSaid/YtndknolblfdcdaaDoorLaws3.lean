/- The walk of ValueBack. -/
import Derived.Test.YtndknolblfdcdaaDoorLaws
set_option linter.unusedSimpArgs false
set_option linter.unusedVariables false
namespace Go.Proofs.YtndknolblfdcdaaDoor
open Go.RowKit

theorem print_len (k n : Int) (t : List UInt8) (hn : intIn n) : (printL k n t).length ≤ 4002 := by
  by_cases h : rightB k n t = true
  · exact (form_len hn (form_of h rfl)).2
  · simp [printL, h]
theorem read_self {k n : Int} {t : List UInt8} (hn : intIn n) (h : rightB k n t = true) {k' n' : Int} {t' : List UInt8} {er : Int} (hn' : intIn n') (hr : ReadOk (printL k n t) k' n' t' er) : er = 0 ∧ k' = k ∧ n' = n ∧ t' = t := by
  rcases hr with ⟨h1, h2, h3⟩ | ⟨_, _, _, _, h1⟩
  · obtain ⟨a, b, c⟩ := print_inj hn' hn h2 h h3
    exact ⟨h1, a, b, c⟩
  · exact absurd rfl (h1 k n t hn h)
theorem read_wrong {k n : Int} {t : List UInt8} (h : rightB k n t = false) {k' n' : Int} {t' : List UInt8} {er : Int} (hn' : intIn n') (hr : ReadOk (printL k n t) k' n' t' er) : er = 8 := by
  have e : printL k n t = [] := by simp [printL, h]
  rw [e] at hr
  rcases hr with ⟨h1, h2, h3⟩ | ⟨h1, _⟩
  · have := (form_len hn' (form_of h2 h3)).1
    simp at this
  · exact h1
theorem bytes_back (s : ByteArray) : (ByteArray.mk s.data.toList.toArray) = s := by apply ByteArray.ext; simp

set_option maxHeartbeats 2000000 in
theorem back_law (k n : Int) (s : ByteArray) (u : ByteArray) (w : World) (hs : s.size ≤ maxLen) (hu : u.size ≤ maxLen) (hn : intIn n) (hstd : Std w) :
    Calls Tryd.prog 7 #[.agg #[.int .i64 k, .int .i64 n, .string s], .string u] w fun e w' => e = .returned (.bool true) ∧ Bel w w' := by
  have HS := Lib.hid hstd; clear hstd
  go_enter Tryd.func7, Tryd.ntmps7
  go_wp2_with (fail)
  refine (shown_any _ (HS.out.alloc _)).mono ?_
  rintro e w1 ⟨rfl, hb1⟩
  have c0 : w1.cell? ⟨w.heap.size, 0, none⟩ = some (.int .i64 k) := cell_later hb1 (by go_simp)
  have c1 : w1.cell? ⟨w.heap.size, 1, none⟩ = some (.int .i64 n) := cell_later hb1 (by go_simp)
  have c2 : w1.cell? ⟨w.heap.size, 2, none⟩ = some (.string s) := cell_later hb1 (by go_simp)
  have hz := hb1.past
  have HK := Lib.hid (show Keeps w w1 from ⟨((Bel.refl w).alloc _).trans hb1, (HS.out.alloc _).bel hb1⟩)
  clear hb1
  by_cases hl1 : 3000 < s.size
  · go_wp2_with (fail)
    go_ret
    exact ⟨rfl, HK.out.1⟩
  by_cases hl2 : 5000 < u.size
  · go_wp2_with (fail)
    go_ret
    exact ⟨rfl, HK.out.1⟩
  go_wp2_with (fail)
  refine (right_any k n s _ hs).mono ?_
  rintro e w2 ⟨rfl, hb2⟩
  replace c0 := cell_later hb2 c0
  replace c1 := cell_later hb2 c1
  replace c2 := cell_later hb2 c2
  replace hz := Nat.lt_of_lt_of_le hz hb2.size
  have HK2 := Lib.hid (HK.out.bel hb2); clear hb2 HK
  go_wp2_with (fail)
  refine (print_any k n s _ hs hn.1 hn.2 HK2.out.2).mono ?_
  rintro e w3 ⟨rfl, hb3⟩
  replace c0 := cell_later hb3 c0
  replace c1 := cell_later hb3 c1
  replace c2 := cell_later hb3 c2
  replace hz := Nat.lt_of_lt_of_le hz hb3.size
  have HK3 := Lib.hid (HK2.out.bel hb3); clear hb3 HK2
  have hpl := print_len k n s.data.toList hn
  have HRd := Lib.hid (read_any ⟨(printL k n s.data.toList).toArray⟩)
  rw [show (ByteArray.mk (printL k n s.data.toList).toArray).data.toList = printL k n s.data.toList by simp] at HRd
  have hpz : (ByteArray.mk (printL k n s.data.toList).toArray).size ≤ maxLen := by
    have e2 : (ByteArray.mk (printL k n s.data.toList).toArray).size = (printL k n s.data.toList).length := by simp [ByteArray.size]
    unfold maxLen; omega
  have HPZ := Lib.hid hpz; clear hpz hpl
  go_wp2_with (fail)
  refine (HRd.out _ HPZ.out HK3.out.2).mono ?_
  rintro e w4 ⟨k', n', t', er, rfl, hin', -, hok, hb4⟩
  replace c0 := cell_later hb4 c0
  replace c1 := cell_later hb4 c1
  replace c2 := cell_later hb4 c2
  replace hz := Nat.lt_of_lt_of_le hz hb4.size
  have HK4 := Lib.hid (HK3.out.bel hb4); clear hb4 HK3
  have HU := Lib.hid (read_any u)
  obtain ⟨r, hr⟩ : ∃ r, rightB k n s.data.toList = r := ⟨_, rfl⟩
  rw [hr]
  cases r
  · obtain rfl := read_wrong hr hin' hok
    clear hok hr
    go_wp2_with (fail)
    refine (HU.out _ hu (HK4.out.2.alloc _)).mono ?_
    rintro e w5 ⟨k2, n2, t2, er2, rfl, hin2, htl2, hok2, hb5⟩
    have HK5 := Lib.hid ((HK4.out.bel ((Bel.refl w4).alloc _)).bel hb5); clear hb5
    rcases hok2 with ⟨rfl, h1, h2⟩ | ⟨rfl, rfl, rfl, rfl, -⟩
    · have H1 := Lib.hid h1
      have H2 := Lib.hid h2
      have hR2 := right_any k2 n2 ⟨t2.toArray⟩
      have hP2 := print_any k2 n2 ⟨t2.toArray⟩
      rw [show (ByteArray.mk t2.toArray).data.toList = t2 by simp] at hR2 hP2
      rw [h1] at hR2
      rw [h2] at hP2
      have htz : (ByteArray.mk t2.toArray).size ≤ maxLen := by
        have e1 : u.data.toList.length = u.size := rfl
        have e2 : (ByteArray.mk t2.toArray).size = t2.length := by simp [ByteArray.size]
        omega
      have HR2 := Lib.hid hR2
      have HP2 := Lib.hid hP2
      clear hR2 hP2 h1 h2
      go_wp2_with (fail)
      refine (HR2.out _ htz).mono ?_
      rintro e w6 ⟨rfl, hb6⟩
      have q0 : w6.cell? ⟨w5.heap.size, 0, none⟩ = some (.int .i64 k2) := cell_later hb6 (by go_simp)
      have q1 : w6.cell? ⟨w5.heap.size, 1, none⟩ = some (.int .i64 n2) := cell_later hb6 (by go_simp)
      have q2 : w6.cell? ⟨w5.heap.size, 2, none⟩ = some (.string ⟨t2.toArray⟩) := cell_later hb6 (by go_simp)
      have HK6 := Lib.hid ((HK5.out.bel ((Bel.refl w5).alloc _)).bel hb6); clear hb6
      go_wp2_with (fail)
      refine (HP2.out _ htz hin2.1 hin2.2 HK6.out.2).mono ?_
      rintro e w7 ⟨rfl, hb7⟩
      rw [bytes_back]
      have HK7 := Lib.hid (HK6.out.bel hb7); clear hb7
      go_wp2
      go_ret
      exact ⟨ret_bool (by simp), HK7.out.1⟩
    · go_wp2
      go_ret
      exact ⟨ret_bool (by simp), (HK5.out.bel ((Bel.refl w5).alloc _)).1⟩
  · obtain ⟨rfl, rfl, rfl, rfl⟩ := read_self hn hr hin' hok
    clear hok hr
    rw [bytes_back]
    go_wp2_with (fail)
    refine (HU.out _ hu (HK4.out.2.alloc _)).mono ?_
    rintro e w5 ⟨k2, n2, t2, er2, rfl, hin2, htl2, hok2, hb5⟩
    have HK5 := Lib.hid ((HK4.out.bel ((Bel.refl w4).alloc _)).bel hb5); clear hb5
    rcases hok2 with ⟨rfl, h1, h2⟩ | ⟨rfl, rfl, rfl, rfl, -⟩
    · have H1 := Lib.hid h1
      have H2 := Lib.hid h2
      have hR2 := right_any k2 n2 ⟨t2.toArray⟩
      have hP2 := print_any k2 n2 ⟨t2.toArray⟩
      rw [show (ByteArray.mk t2.toArray).data.toList = t2 by simp] at hR2 hP2
      rw [h1] at hR2
      rw [h2] at hP2
      have htz : (ByteArray.mk t2.toArray).size ≤ maxLen := by
        have e1 : u.data.toList.length = u.size := rfl
        have e2 : (ByteArray.mk t2.toArray).size = t2.length := by simp [ByteArray.size]
        omega
      have HR2 := Lib.hid hR2
      have HP2 := Lib.hid hP2
      clear hR2 hP2 h1 h2
      go_wp2_with (fail)
      refine (HR2.out _ htz).mono ?_
      rintro e w6 ⟨rfl, hb6⟩
      have q0 : w6.cell? ⟨w5.heap.size, 0, none⟩ = some (.int .i64 k2) := cell_later hb6 (by go_simp)
      have q1 : w6.cell? ⟨w5.heap.size, 1, none⟩ = some (.int .i64 n2) := cell_later hb6 (by go_simp)
      have q2 : w6.cell? ⟨w5.heap.size, 2, none⟩ = some (.string ⟨t2.toArray⟩) := cell_later hb6 (by go_simp)
      have HK6 := Lib.hid ((HK5.out.bel ((Bel.refl w5).alloc _)).bel hb6); clear hb6
      go_wp2_with (fail)
      refine (HP2.out _ htz hin2.1 hin2.2 HK6.out.2).mono ?_
      rintro e w7 ⟨rfl, hb7⟩
      rw [bytes_back]
      have HK7 := Lib.hid (HK6.out.bel hb7); clear hb7
      go_wp2
      go_ret
      exact ⟨ret_bool (by simp), HK7.out.1⟩
    · go_wp2
      go_ret
      exact ⟨ret_bool (by simp), (HK5.out.bel ((Bel.refl w5).alloc _)).1⟩
end Go.Proofs.YtndknolblfdcdaaDoor
