/- TPIn, laid together. -/
import Derived.Test.YteimllgoelleeaaGreatDoorZ14
import Derived.Test.YteimllgoelleeaaGreatDoorZ8
set_option linter.unusedSimpArgs false
set_option linter.unusedVariables false
/- table.Inner, table.Outer. -/
namespace Go.Proofs.YteimllgoelleeaaGreatDoor
open Go.RowKit Go.Deep

theorem ba_app10 (a b : List UInt8) : (⟨a.toArray⟩ ++ ⟨b.toArray⟩ : ByteArray) = ⟨(a ++ b).toArray⟩ := by apply ByteArray.ext; simp
set_option maxHeartbeats 2000000 in
theorem pinner_any (s : ByteArray) (q : Nat) (w : World) (hs : s.size ≤ 100000) (hq : q ≤ 9223372036854775807) :
    Calls Tryz.prog 71 #[.string s, .int .i64 q] w fun e w' => e = .returned (.string ⟨(innerL s.data.toList q).toArray⟩) ∧ Bel w w' := by
  have hq' : (q : Int) ≤ 9223372036854775807 := by omega
  go_enter Tryz.func71, Tryz.ntmps71
  go_wp2_with (fail)
  refine (repall_any s w hs).mono ?_
  rintro e w1 ⟨rfl, hb⟩
  have HB := Lib.hid hb; clear hb
  obtain ⟨E, hE⟩ : ∃ E : ByteArray, E = ⟨(escL s.data.toList).toArray⟩ := ⟨_, rfl⟩
  have hEz : E.size ≤ 200000 := by
    have h1 := (esc_len s.data.toList).2
    have h2 : s.data.toList.length = s.size := rfl
    rw [hE, mk_size10]; omega
  rw [← hE]
  have HE := Lib.hid hE; clear hE
  go_wp2_with (fail)
  refine (big8_at (9223372036854775807 - q) (9223372036854775807 - (q : Int)) w1 (by omega) (by omega)).mono ?_
  rintro e w2 ⟨rfl, hb⟩
  have HB2 := Lib.hid (HB.out.trans hb); clear hb
  obtain ⟨F, hF⟩ : ∃ F : ByteArray, F = ⟨(bigL (9223372036854775807 - q) 8).toArray⟩ := ⟨_, rfl⟩
  have hFz : F.size ≤ 8 := by rw [hF, mk_size10, bigL_len]; exact Nat.le_refl _
  rw [← hF]
  have HF := Lib.hid hF; clear hF
  go_wp2_with (fail)
  go_ret
  exact ⟨ret_string (by
    rw [HE.out, HF.out, show (⟨#[0, 0]⟩ : ByteArray) = ⟨([0, 0] : List UInt8).toArray⟩ from rfl, ba_app10, ba_app10]
    unfold innerL
    simp only [List.append_assoc, List.cons_append, List.nil_append]), HB2.out⟩
theorem pinner_at (s : ByteArray) (q : Nat) (x : Int) (w : World) (hs : s.size ≤ 100000) (hq : q ≤ 9223372036854775807) (hx : x = q) :
    Calls Tryz.prog 71 #[.string s, .int .i64 x] w fun e w' => e = .returned (.string ⟨(innerL s.data.toList q).toArray⟩) ∧ Bel w w' := by
  subst hx; exact pinner_any s q w hs hq

theorem outer_un {s k : List UInt8} {q : Nat} (h : OuterIs s k q) : k = unL (s.take (s.length - 10)) ∧ (sumL (s.drop (s.length - 8)) : Int) = 9223372036854775807 - (q : Int) := by
  obtain ⟨h1, h2, h3⟩ := outer_parts h
  have hq := h.1
  exact ⟨by rw [h2, unz_esc], by omega⟩
set_option maxHeartbeats 1000000 in
set_option maxRecDepth 20000 in
theorem pouter_any (s : ByteArray) (w : World) (hs : s.size ≤ 100000) (hM : MaxOk w) :
    Calls Tryz.prog 90 #[.string s] w fun e w' => OuterPost s.data.toList e ∧ Bel w w' := by
  have hsl : s.data.toList.length = s.size := rfl
  have HSL := Lib.hid hsl; clear hsl
  have HM := Lib.hid hM; clear hM
  by_cases h10 : s.size < 10
  · have h10' : (s.size : Int) - 2 - 8 < 0 := by omega
    have HNO := Lib.hid (show ¬ ∃ k q, OuterIs s.data.toList k q from by
      rintro ⟨k, q, h⟩
      have := (outer_parts h).1
      rw [HSL.out] at this
      omega)
    go_enter Tryz.func90, Tryz.ntmps90
    go_wp2_with (fail)
    go_ret3
    exact ⟨Or.inr ⟨HNO.out, rfl⟩, Bel.refl w⟩
  · obtain ⟨k, hk⟩ : ∃ k, s.size = k + 10 := ⟨s.size - 10, by omega⟩
    have hk1 : (s.size : Int) - 2 - 8 = (k : Int) := by omega
    have hk2 : (s.size : Int) - 8 = ((k + 2 : Nat) : Int) := by omega
    have hez : (s.extract 0 k).size ≤ 100000 := by rw [ByteArray.size_extract]; omega
    have hed : (s.extract 0 k).data.toList = s.data.toList.take k := by
      rw [ByteArray.data_extract, Array.toList_extract, List.extract_eq_take_drop, List.drop_zero, Nat.sub_zero]
    have hfz : (s.extract (k + 2) s.size).size ≤ 8 := by rw [ByteArray.size_extract]; omega
    have hfd : (s.extract (k + 2) s.size).data.toList = s.data.toList.drop (k + 2) := by
      rw [ByteArray.data_extract, Array.toList_extract, List.extract_eq_take_drop, List.take_of_length_le (by rw [List.length_drop, HSL.out]; omega)]
    obtain ⟨U, hU⟩ : ∃ U : ByteArray, U = ⟨(unL (s.data.toList.take k)).toArray⟩ := ⟨_, rfl⟩
    have hUd : U.data.toList = unL (s.data.toList.take k) := by rw [hU]
    have hUz : U.size ≤ 100000 := by
      have h1 : U.size = U.data.toList.length := rfl
      have h2 := unz_len (s.data.toList.take k)
      rw [List.length_take] at h2
      rw [h1, hUd]; omega
    obtain ⟨c, hc⟩ : ∃ c, c = sumL (s.data.toList.drop (k + 2)) := ⟨_, rfl⟩
    have hc64 : c < 18446744073709551616 := by
      have := sumL_lt (s.data.toList.drop (k + 2))
      rw [List.length_drop, HSL.out, show s.size - (k + 2) = 8 by omega, pow8_256, ← hc] at this
      exact this
    have HONLY := Lib.hid (show ∀ m r, OuterIs s.data.toList m r → m = U.data.toList ∧ (c : Int) = 9223372036854775807 - (r : Int) from fun m r h => by
      obtain ⟨h1, h2⟩ := outer_un h
      rw [HSL.out, show s.size - 10 = k by omega] at h1
      rw [HSL.out, show s.size - 8 = k + 2 by omega, ← hc] at h2
      exact ⟨by rw [hUd]; exact h1, h2⟩)
    have HED := Lib.hid hed; have HFD := Lib.hid hfd; have HU := Lib.hid hU; have HUD := Lib.hid hUd; have HC := Lib.hid hc
    have hk3 : (0 : Int) ≤ (k : Int) := by omega
    have hk4 : (k : Int) ≤ (s.size : Int) := by omega
    have hk5 : ((k + 2 : Nat) : Int) ≤ (s.size : Int) := by omega
    have hk6 : (0 : Int) ≤ ((k + 2 : Nat) : Int) := by omega
    have hk7 : ¬ (k : Int) < 0 := by omega
    have HK := Lib.hid hk
    clear hed hfd hU hUd hc h10 hk
    generalize hkk : k + 2 = k2 at *
    clear hkk
    go_enter Tryz.func90, Tryz.ntmps90
    go_wp2_with (fail)
    refine (repall2_any (s.extract 0 k) w hez HM.out).mono ?_
    rw [HED.out, ← HU.out]
    rintro e w1 ⟨rfl, hb⟩
    have HB := Lib.hid hb; clear hb
    go_wp2_with (fail)
    refine (sum8_any (s.extract k2 s.size) w1 hfz).mono ?_
    rw [HFD.out, ← HC.out]
    rintro e w2 ⟨rfl, hb⟩
    have HB2 := Lib.hid (HB.out.trans hb.bel); clear hb
    by_cases hneg : c < 9223372036854775808
    · obtain ⟨N, hN⟩ : ∃ N : Nat, N = 9223372036854775807 - c := ⟨_, rfl⟩
      have hNv : wrap64 (9223372036854775807 - sgn c) = (N : Int) := by unfold sgn wrap64; rw [if_pos hneg]; omega
      have hNv2 : IntKind.i64.wrap (9223372036854775807 - sgn c) = (N : Int) := by rw [IntWalk.i64_left]; exact hNv
      have hNc : (c : Int) = 9223372036854775807 - (N : Int) := by omega
      have hN0 : ¬ (N : Int) < 0 := by omega
      have HNC := Lib.hid hNc
      generalize sgn c = sc at *
      clear hN hNc
      by_cases hbig : N ≤ 1099511627776
      · have hbig' : ¬ (1099511627776 : Int) < (N : Int) := by omega
        by_cases hE : innerL U.data.toList N = s.data.toList
        · have HIS := Lib.hid (show OuterIs s.data.toList U.data.toList N from ⟨hbig, hE⟩)
          have HE := Lib.hid (show (⟨(innerL U.data.toList N).toArray⟩ : ByteArray) = s by rw [hE])
          have hself : (s.toList == s.toList) = true := beq_self_eq_true _
          clear hE
          go_wp2_with (fail)
          refine (pinner_at U N _ w2 hUz (by omega) (by omega)).mono ?_
          rw [HE.out]
          rintro e w3 ⟨rfl, hb⟩
          have HB3 := Lib.hid (HB2.out.trans hb); clear hb
          go_wp2_with (fail)
          go_ret3
          exact ⟨Or.inl ⟨U.data.toList, N, HIS.out, rfl⟩, HB3.out⟩
        · have HNO := Lib.hid (show ¬ ∃ m r, OuterIs s.data.toList m r from by
            rintro ⟨m, r, h⟩
            obtain ⟨rfl, h2⟩ := HONLY.out m r h
            obtain rfl : r = N := by have := HNC.out; omega
            exact hE h.2)
          obtain ⟨T, hT⟩ : ∃ T : ByteArray, T = ⟨(innerL U.data.toList N).toArray⟩ := ⟨_, rfl⟩
          have hcmp : (T.toList == s.toList) = false := by rw [ByteArray.toList_eq, ByteArray.toList_eq, beq_eq_false_iff_ne, hT]; exact hE
          have HT := Lib.hid hT
          clear hE hT
          go_wp2_with (fail)
          refine (pinner_at U N _ w2 hUz (by omega) (by omega)).mono ?_
          rw [← HT.out]
          rintro e w3 ⟨rfl, hb⟩
          have HB3 := Lib.hid (HB2.out.trans hb); clear hb
          go_wp2_with (fail)
          go_ret3
          exact ⟨Or.inr ⟨HNO.out, rfl⟩, HB3.out⟩
      · have hbig' : (1099511627776 : Int) < (N : Int) := by omega
        have HNO := Lib.hid (show ¬ ∃ m r, OuterIs s.data.toList m r from by
          rintro ⟨m, r, h⟩
          obtain ⟨-, h2⟩ := HONLY.out m r h
          obtain rfl : r = N := by have := HNC.out; omega
          exact hbig h.1)
        go_wp2_with (fail)
        go_ret3
        exact ⟨Or.inr ⟨HNO.out, rfl⟩, HB2.out⟩
    · have hNv : wrap64 (9223372036854775807 - sgn c) = 9223372036854775807 - (c : Int) := by unfold sgn wrap64; rw [if_neg hneg]; omega
      have hNv2 : IntKind.i64.wrap (9223372036854775807 - sgn c) = 9223372036854775807 - (c : Int) := by rw [IntWalk.i64_left]; exact hNv
      have hN0 : 9223372036854775807 - (c : Int) < 0 := by omega
      have HNO := Lib.hid (show ¬ ∃ m r, OuterIs s.data.toList m r from by
        rintro ⟨m, r, h⟩
        obtain ⟨-, h2⟩ := HONLY.out m r h
        have := h.1
        omega)
      generalize sgn c = sc at *
      obtain ⟨y, hy⟩ : ∃ y, y = 9223372036854775807 - (c : Int) := ⟨_, rfl⟩
      rw [← hy] at hNv hNv2 hN0
      clear hy hneg
      go_wp2_with (fail)
      go_ret3
      exact ⟨Or.inr ⟨HNO.out, rfl⟩, HB2.out⟩
end Go.Proofs.YteimllgoelleeaaGreatDoor
