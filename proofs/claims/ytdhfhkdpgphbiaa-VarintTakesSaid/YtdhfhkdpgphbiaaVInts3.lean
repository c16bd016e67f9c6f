/- moultref3.ToInts; VarintInts: true for every argument. -/
import Derived.Test.YtdhfhkdpgphbiaaVInts2
set_option linter.unusedSimpArgs false
set_option linter.unusedVariables false
namespace Go.Proofs.Ytdhfhkdpgphbiaa
open Go.RowKit Go.Deep

set_option maxHeartbeats 4000000 in
theorem rtoints_any (s : ByteArray) (many : Int) (w : World) (hs : s.size ≤ 1000000) (hm : -9223372036854775808 ≤ many ∧ many ≤ 9223372036854775807) :
    Calls Try.prog 22 #[.string s, .int .i64 many] w (ToPost (toRes many s.data.toList) w) := by
  obtain ⟨hm1, hm2⟩ := hm
  by_cases c1 : many < 0
  · rw [toRes, if_pos (Or.inl c1)]
    go_enter Try.func22, Try.ntmps22
    go_wp2_with (fail)
    go_ret3
    exact ToPost.none (Bel.refl w)
  by_cases c2 : 1000 < many
  · rw [toRes, if_pos (Or.inr c2)]
    go_enter Try.func22, Try.ntmps22
    go_wp2_with (fail)
    go_ret3
    exact ToPost.none (Bel.refl w)
  obtain ⟨m, rfl⟩ : ∃ m : Nat, many = m := ⟨many.toNat, by omega⟩
  rw [toRes, if_neg (by omega), Int.toNat_natCast]
  have hsl : s.data.toList.length = s.size := rfl
  go_enter Try.func22, Try.ntmps22
  go_wp2_with (fail)
  go_loopw [7, 8, 9] (fun lv sv i x => TRel m s.data.toList w sv lv i x) (fun _ _ i _ => m - (intOf i).toNat)
  case atStart => exact ⟨0, [], s, Nat.zero_le _, rfl, rfl, rfl, Nat.le_refl _, OwnG.nil _ _ _, rfl, Bel.refl w⟩
  case round =>
    obtain ⟨k, acc, r, hk, rfl, hacc, rfl, hrs, hown, hto, hb⟩ := hrel
    have HT := Lib.hid hto; clear hto
    have HV := Lib.hid hown; clear hown
    have HB := Lib.hid hb; clear hb
    rw [hsl] at hrs
    by_cases hlt : k < m
    · go_wp2_with (fail)
      refine (rtake_any r _ (by omega)).mono ?_
      rintro e w1 ⟨rfl, hb⟩
      replace HB := Lib.hid (HB.out.trans hb)
      replace HV := Lib.hid (HV.out.bel hb); clear hb
      unfold takeV
      have hu := take_lt r.data.toList
      have hrest := take_rest r.data.toList
      obtain ⟨j, hj⟩ : ∃ j, m - k = j + 1 := ⟨m - k - 1, by omega⟩
      have hj2 : m - (k + 1) = j := by omega
      have HJ := Lib.hid hj2
      have hrl : r.data.toList.length = r.size := rfl
      rcases hok : (takeL r.data.toList).2.2 with _ | _
      · have HN := Lib.hid (show toL m [] s.data.toList = none from HT.out.symm.trans (by rw [hj]; exact toL_stop j acc _ hok))
        clear hj hj2
        go_wp2_with (fail)
        go_ret3
        rw [HN.out]
        exact ToPost.none HB.out
      · have HN := Lib.hid (show toL j (acc ++ [unfoldZ (takeL r.data.toList).1]) (takeL r.data.toList).2.1 = toL m [] s.data.toList from (toL_step j acc _ hok).symm.trans (by rw [← hj]; exact HT.out))
        clear hj hj2 hok
        generalize takeL r.data.toList = q at *
        obtain ⟨u, rest, ok⟩ := q
        simp only at hu hrest
        go_wp2_with (fail)
        refine (runfold_any u _ hu).mono ?_
        rintro e w2 ⟨rfl, hb⟩
        replace HB := Lib.hid (HB.out.trans hb.bel)
        replace HV := Lib.hid (HV.out.bel hb.bel); clear hb
        go_wp2_with (at_builtin; refine stop_here ?_)
        refine go_on ?_
        refine append_glit intOk rfl _ _ rfl rfl HV.out _ _ _ [unfoldZ u] rfl rfl rfl (by simp [maxLen]; omega) (by simp; omega) HB.out.size (Or.inl rfl) ?_
        intro v3 w3 hown3 hbel3 hZ3
        have HV3 := Lib.hid hown3
        have HB3 := Lib.hid (HB.out.trans_below hbel3)
        clear hown3 hbel3
        go_wp2_with (fail)
        go_roundw
        case rel =>
          refine ⟨k + 1, acc ++ [unfoldZ u], ⟨rest.toArray⟩, hlt, by go_num, by simp [hacc], rfl, ?_, HV3.out, by rw [HJ.out]; exact HN.out, HB3.out⟩
          show rest.toArray.size ≤ _
          simp only [List.size_toArray]; omega
        case measure => simp [intOf]; omega
    · obtain rfl : k = m := by omega
      have HN := Lib.hid (HT.out.symm.trans (by rw [Nat.sub_self]; rfl : toL (k - k) acc r.data.toList = some (acc, r.data.toList)))
      go_wp2_with (fail)
      go_ret3
      rw [HN.out]
      exact ⟨_, by rw [left]; simp [ba_list], HV.out, HB.out⟩

theorem ToPost.out {r : Option (List Int × List UInt8)} {w w' : World} {e : Ending} (h : ToPost r w e w') :
    ∃ p cap, e = .returned (.tuple #[.slice p (elems r).length cap, .string ⟨(left r).toArray⟩, .bool r.isSome]) ∧ IntsAt w' p (elems r) ∧ Bel w w' := by
  obtain ⟨v, rfl, hv, hb⟩ := h
  obtain ⟨p, cap, rfl, hp⟩ := ownG_ints hv
  exact ⟨p, cap, rfl, hp, hb⟩
theorem toL_len : ∀ (k : Nat) (acc : List Int) (s : List UInt8) (l : List Int) (r : List UInt8), toL k acc s = some (l, r) → l.length = acc.length + k
  | 0, acc, s, l, r, h => by simp [toL] at h; rw [← h.1]; rfl
  | k + 1, acc, s, l, r, h => by
    rw [toL] at h
    split at h
    · have := toL_len k _ _ _ _ h
      simp at this; omega
    · simp at h
theorem elems_len (many : Int) (s : List UInt8) : (elems (toRes many s)).length ≤ 1000 := by
  unfold toRes
  split
  · simp [elems]
  · next h =>
    cases hr : toL many.toNat [] s with
    | none => simp [elems]
    | some x =>
      obtain ⟨l, r⟩ := x
      have := toL_len _ _ _ _ _ hr
      simp [elems]; simp at this; omega
theorem toRes_ints (L : List Int) (s : List UInt8) (hL : L.length ≤ 300) (hin : allIn L) : toRes L.length (intsL L ++ s) = some (L, s) := by
  rw [toRes, if_neg (by omega), Int.toNat_natCast, toL_ints L [] s hin]; simp

set_option maxHeartbeats 4000000 in
theorem law_ints_any (p : Option Addr) (cap : Nat) (L : List Int) (s : ByteArray) (many : Int) (w : World) (h : IntsAt w p L) (hl : L.length ≤ maxLen) (hin : allIn L) (hs : s.size ≤ maxLen)
    (hm : -9223372036854775808 ≤ many ∧ many ≤ 9223372036854775807) :
    Calls Try.prog 8 #[.slice p L.length cap, .string s, .int .i64 many] w fun e w' => e = .returned (.bool true) ∧ Bel w w' := by
  unfold maxLen at hs hl
  have HM := Lib.hid hm; clear hm
  have HI := Lib.hid hin; clear hin
  have H := Lib.hid h; clear h
  go_enter Try.func8, Try.ntmps8
  go_wp2_with (fail)
  refine (shown_any w).mono ?_
  rintro e w1 ⟨rfl, hb⟩
  have HB := Lib.hid hb; clear hb
  by_cases c1 : (300 : Int) < (L.length : Int)
  · go_wp2_with (fail)
    go_ret
    exact ⟨rfl, HB.out⟩
  by_cases c2 : (3000 : Int) < (s.size : Int)
  · go_wp2_with (fail)
    go_ret
    exact ⟨rfl, HB.out⟩
  have hlen := intsL_len L
  have hsl : (⟨(intsL L).toArray⟩ : ByteArray).size = (intsL L).length := by show (intsL L).toArray.size = _; simp
  go_wp2_with (fail)
  refine (ints_any p cap L _ (H.out.bel HB.out) (by omega) HI.out).mono ?_
  rintro e w2 ⟨rfl, hb⟩
  replace HB := Lib.hid (HB.out.trans hb); clear hb
  go_wp2_with (fail)
  refine (toints_any _ _ _ (by rw [ByteArray.size_append]; omega) (by omega)).mono ?_
  intro e w3 hp
  have e1 : (⟨(intsL L).toArray⟩ ++ s : ByteArray).data.toList = intsL L ++ s.data.toList := by simp
  rw [e1, toRes_ints L _ (by omega) HI.out] at hp
  obtain ⟨p3, cap3, rfl, hp3, hb⟩ := hp.out
  have H3 := Lib.hid hp3
  replace HB := Lib.hid (HB.out.trans hb); clear hb hp hp3 e1
  have x1 : elems (some (L, s.data.toList)) = L := rfl
  have x2 : (⟨(left (some (L, s.data.toList))).toArray⟩ : ByteArray) = s := ba_list s
  rw [x1] at H3 ⊢
  rw [x2]
  clear x1 x2
  simp only [Option.isSome_some]
  go_wp2_with (fail)
  have hel := elems_len many s.data.toList
  refine (toints_any s many _ (by omega) HM.out).mono ?_
  intro e w4 hp
  obtain ⟨p4, cap4, rfl, hp4, hb⟩ := hp.out
  have H4 := Lib.hid hp4
  replace H3 := Lib.hid (H3.out.bel hb)
  replace HB := Lib.hid (HB.out.trans hb); clear hb hp hp4
  go_wp2_with (fail)
  refine (rtoints_any s many _ (by omega) HM.out).mono ?_
  intro e w5 hp
  obtain ⟨p5, cap5, rfl, hp5, hb⟩ := hp.out
  have H5 := Lib.hid hp5
  replace H4 := Lib.hid (H4.out.bel hb)
  replace H3 := Lib.hid (H3.out.bel hb)
  replace HB := Lib.hid (HB.out.trans hb); clear hb hp hp5
  generalize toRes many s.data.toList = q at *
  go_wp2_with (fail)
  refine (rints_any p cap L _ (H.out.bel HB.out) (by omega) HI.out).mono ?_
  rintro e w6 ⟨rfl, hb⟩
  replace H5 := Lib.hid (H5.out.bel hb)
  replace H4 := Lib.hid (H4.out.bel hb)
  replace H3 := Lib.hid (H3.out.bel hb)
  replace HB := Lib.hid (HB.out.trans hb); clear hb
  go_wp2_with (fail)
  refine (same_any p3 p cap3 cap L _ H3.out (H.out.bel HB.out) (by omega)).mono ?_
  rintro e w7 ⟨rfl, hb⟩
  replace H5 := Lib.hid (H5.out.bel hb.bel)
  replace H4 := Lib.hid (H4.out.bel hb.bel)
  replace HB := Lib.hid (HB.out.trans hb.bel); clear hb
  go_wp2_with (fail)
  refine (same_any p4 p5 cap4 cap5 (elems q) _ H4.out H5.out hel).mono ?_
  rintro e w8 ⟨rfl, hb⟩
  replace HB := Lib.hid (HB.out.trans hb.bel); clear hb
  go_wp2_with (fail)
  go_ret
  exact ⟨ret_bool (by simp), HB.out⟩
end Go.Proofs.Ytdhfhkdpgphbiaa
