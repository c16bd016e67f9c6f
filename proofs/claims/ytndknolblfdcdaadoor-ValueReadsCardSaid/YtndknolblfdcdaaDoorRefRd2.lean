/- The contract of moultref1.unquoted. -/
import Derived.Test.YtndknolblfdcdaaDoorRefRd1
set_option linter.unusedSimpArgs false
set_option linter.unusedVariables false
namespace Go.Proofs.YtndknolblfdcdaaDoor
open Go.RowKit

theorem wrapB_all : ∀ n : Fin 256, IntKind.u8.wrap (n.val : Int) = (n.val : Int) := by decide +kernel
theorem wrapB (y : UInt8) : IntKind.u8.wrap (y.toNat : Int) = (y.toNat : Int) := wrapB_all ⟨y.toNat, y.toNat_lt⟩
theorem cells_one {v : Int} {y : UInt8} (h : v = (y.toNat : Int)) : #[Value.int .u8 v].toList = Lib.byteCells [y] := by subst h; rfl
theorem byte_of {v : Int} (h0 : 0 ≤ v) (h1 : v < 256) : ∃ y : UInt8, v = (y.toNat : Int) := ⟨UInt8.ofNat v.toNat, by simp [UInt8.toNat_ofNat]; omega⟩

set_option maxHeartbeats 2000000 in
set_option maxRecDepth 100000 in
theorem ref_unquoted_any (s : ByteArray) (w : World) (hs : s.size ≤ 1000000) :
    Calls Tryd.prog 30 #[.string s] w (UnqPost s w) := by
  go_enter Tryd.func30, Tryd.ntmps30
  go_wp2
  go_loopw [3, 4] (fun v i x => UnqRel s w.heap.size w v i x) (fun _ i _ => s.size - (intOf i).toNat)
  case atStart => exact ⟨0, [], Nat.zero_le _, rfl, Nat.le_refl _, Own.nil _ _, Below.refl _ _, URel.start _⟩
  case round =>
    obtain ⟨k, l, hk, rfl, hl, hown, hbel, hu⟩ := hrel
    have HO := Lib.hid hown; clear hown
    have HB := Lib.hid hbel
    have HU := Lib.hid hu; clear hu
    have hZ := hbel.size; clear hbel
    by_cases hlt : k < s.size
    · have hd1 := Lib.hid (drop1 s k hlt)
      by_cases hc : s[k].toNat = 92 ∧ k + 1 < s.size
      · obtain ⟨h92, hk1⟩ := hc
        have hd2 := Lib.hid (drop1 s (k + 1) hk1)
        have e92 := Lib.hid (show s[k] = 92 from UInt8.toNat_inj.1 h92)
        have t1 : ((s[k].toNat : Int) != 92) = false := by simp [h92]
        have t2 : (k : Int) + 1 < (s.size : Int) := by omega
        clear h92
        by_cases hx : s[k + 1].toNat = 120 ∧ k + 3 < s.size
        · obtain ⟨h120, hk3⟩ := hx
          have e120 := Lib.hid (show s[k + 1] = 120 from UInt8.toNat_inj.1 h120)
          have t3 : ((s[k + 1].toNat : Int) != 120) = false := by simp [h120]
          have t4 : (k : Int) + 3 < (s.size : Int) := by omega
          clear h120
          have hd3 := Lib.hid (drop1 s (k + 2) (by omega))
          have hd4 := Lib.hid (drop1 s (k + 3) hk3)
          have hk2 : k + 2 < s.size := by omega
          have X0 := Lib.hid (ref_hex_any s[k + 2])
          have X1 := Lib.hid (ref_hex_any s[k + 3])
          have r0 := hv_range s[k + 2]
          have r1 := hv_range s[k + 3]
          obtain ⟨p, hp⟩ : ∃ p, p = hv s[k + 2] := ⟨_, rfl⟩
          obtain ⟨q, hq⟩ : ∃ q, q = hv s[k + 3] := ⟨_, rfl⟩
          rw [← hp] at X0 r0
          rw [← hq] at X1 r1
          have HP0 := Lib.hid hp; have HQ0 := Lib.hid hq; clear hp hq
          obtain ⟨p0, p1⟩ := r0
          obtain ⟨q0, q1⟩ := r1
          by_cases hpn : p < 0
          · have HP := Lib.hid (show URel s.data.toList (k + 2) (l ++ [s[k + 1]]) from HU.out.bad (r := s.data.toList.drop (k + 4)) (by rw [hd1.out, hd2.out, e92.out, hd3.out, e120.out, hd4.out]) (Or.inl (by rw [← HP0.out]; exact hpn)))
            go_wp2_with (fail)
            refine (X0.out _).mono ?_
            rintro e w1 ⟨rfl, rfl⟩
            go_wp2_with (at_builtin; refine stop_here ?_)
            refine go_on ?_
            refine append_lit rfl _ _ rfl w.heap.size _ l rfl HO.out _ _ _ [s[k + 1]] rfl rfl rfl (by simp only [List.length_cons, List.length_nil]; omega) hZ (Or.inl rfl) ?_
            intro v2 w2 hown2 hbel2 hZ2
            have HO2 := Lib.hid hown2
            have HB2 := Lib.hid hbel2
            clear hown2 hbel2
            go_wp2
            go_roundw
            case rel => exact ⟨k + 2, l ++ [s[k + 1]], by omega, by go_num, by simp only [List.length_append, List.length_cons, List.length_nil]; omega, HO2.out, HB.out.trans HB2.out, HP.out⟩
            case measure => simp [intOf]; omega
          by_cases hqn : q < 0
          · have HP := Lib.hid (show URel s.data.toList (k + 2) (l ++ [s[k + 1]]) from HU.out.bad (r := s.data.toList.drop (k + 4)) (by rw [hd1.out, hd2.out, e92.out, hd3.out, e120.out, hd4.out]) (Or.inr (by rw [← HQ0.out]; exact hqn)))
            go_wp2_with (fail)
            refine (X0.out _).mono ?_
            rintro e w1 ⟨rfl, rfl⟩
            go_wp2_with (fail)
            refine (X1.out _).mono ?_
            rintro e w1 ⟨rfl, rfl⟩
            go_wp2_with (at_builtin; refine stop_here ?_)
            refine go_on ?_
            refine append_lit rfl _ _ rfl w.heap.size _ l rfl HO.out _ _ _ [s[k + 1]] rfl rfl rfl (by simp only [List.length_cons, List.length_nil]; omega) hZ (Or.inl rfl) ?_
            intro v2 w2 hown2 hbel2 hZ2
            have HO2 := Lib.hid hown2
            have HB2 := Lib.hid hbel2
            clear hown2 hbel2
            go_wp2
            go_roundw
            case rel => exact ⟨k + 2, l ++ [s[k + 1]], by omega, by go_num, by simp only [List.length_append, List.length_cons, List.length_nil]; omega, HO2.out, HB.out.trans HB2.out, HP.out⟩
            case measure => simp [intOf]; omega
          · go_wp2_with (fail)
            refine (X0.out _).mono ?_
            rintro e w1 ⟨rfl, rfl⟩
            go_wp2_with (fail)
            refine (X1.out _).mono ?_
            rintro e w1 ⟨rfl, rfl⟩
            obtain ⟨y, hy⟩ := byte_of (v := 16 * p + q) (by omega) (by omega)
            have HY := Lib.hid hy; clear hy
            have hp : URel s.data.toList (k + 4) (l ++ [y]) := by
              have hx2 : Hex2 s[k + 2] s[k + 3] (16 * p + q) := Or.inl ⟨p.toNat, q.toNat, by rw [HP0.out]; exact hv_dig _ (by rw [← HP0.out]; omega), by rw [HQ0.out]; exact hv_dig _ (by rw [← HQ0.out]; omega), by omega, by omega, by omega⟩
              have := HU.out.hex (r := s.data.toList.drop (k + 4)) (by rw [hd1.out, hd2.out, e92.out, hd3.out, e120.out, hd4.out]) hx2 rfl
              rw [HY.out] at this
              simpa using this
            have HP := Lib.hid hp; clear hp
            have m1 : IntKind.i64.wrap (16 * p) = 16 * p := IntWalk.i64_in _ (by omega)
            have m2 : IntKind.i64.wrap (16 * p + q) = 16 * p + q := IntWalk.i64_in _ (by omega)
            have m3 : IntKind.i64.wrap ((k : Int) + 2) = (k : Int) + 2 := IntWalk.i64_in _ (by omega)
            have m4 : IntKind.i64.wrap ((k : Int) + 3) = (k : Int) + 3 := IntWalk.i64_in _ (by omega)
            have m5 : ((k : Int) + 2).toNat = k + 2 := by omega
            have m6 : ((k : Int) + 3).toNat = k + 3 := by omega
            have m7 : (0 : Int) ≤ (k : Int) + 2 := by omega
            have m8 : (0 : Int) ≤ (k : Int) + 3 := by omega
            have m9 : (k : Int) + 2 < (s.size : Int) := by omega
            have m10 : IntKind.u8.wrap (16 * p + q) = 16 * p + q := by rw [HY.out]; exact wrapB y
            go_wp2_with (fail)
            go_region_law (first | (refine step_append_lit rfl (.tmp 65) (.tmp 79) rfl w.heap.size _ l rfl HO.out _ _ _ [y] rfl rfl (cells_one HY.out) (by simp only [List.length_cons, List.length_nil]; omega) hZ (Or.inr rfl) ?_; intro v2 w2 hown2 hbel2 hZ2; have HO2 := Lib.hid hown2; have HB2 := Lib.hid hbel2; clear hown2 hbel2) | (go_simp; go_at_call 37; ((with_reducible refine (X0.out _).mono ?_); rintro e w' ⟨rfl, rfl⟩)) | (go_simp; go_at_call 37; ((with_reducible refine (X1.out _).mono ?_); rintro e w' ⟨rfl, rfl⟩)))
            all_goals go_wp2
            all_goals go_roundw
            all_goals first
              | exact ⟨k + 4, l ++ [y], by omega, by go_num, by simp only [List.length_append, List.length_cons, List.length_nil]; omega, HO2.out, HB.out.trans HB2.out, HP.out⟩
              | (simp [intOf]; omega)
        · have hp : URel s.data.toList (k + 2) (l ++ [s[k + 1]]) := by
            refine HU.out.pair (c2 := s[k + 1]) (r := s.data.toList.drop (k + 2)) (by rw [hd1.out, hd2.out, e92.out]) ?_ rfl
            rw [drop_len]
            by_cases h : s[k + 1].toNat = 120
            · right; omega
            · left; exact h
          have HP := Lib.hid hp; clear hp
          by_cases h120 : s[k + 1].toNat = 120
          · have t3 : ((s[k + 1].toNat : Int) != 120) = false := by simp [h120]
            have t4 : ¬ ((k : Int) + 3 < (s.size : Int)) := by omega
            clear h120 hx
            go_wp2_with (at_builtin; refine stop_here ?_)
            refine go_on ?_
            refine append_lit rfl _ _ rfl w.heap.size _ l rfl HO.out _ _ _ [s[k + 1]] rfl rfl rfl (by simp only [List.length_cons, List.length_nil]; omega) hZ (Or.inl rfl) ?_
            intro v2 w2 hown2 hbel2 hZ2
            have HO2 := Lib.hid hown2
            have HB2 := Lib.hid hbel2
            clear hown2 hbel2
            go_wp2
            go_roundw
            case rel => exact ⟨k + 2, l ++ [s[k + 1]], by omega, by go_num, by simp only [List.length_append, List.length_cons, List.length_nil]; omega, HO2.out, HB.out.trans HB2.out, HP.out⟩
            case measure => simp [intOf]; omega
          · have t3 : ((s[k + 1].toNat : Int) != 120) = true := by simp; omega
            clear h120 hx
            go_wp2_with (at_builtin; refine stop_here ?_)
            refine go_on ?_
            refine append_lit rfl _ _ rfl w.heap.size _ l rfl HO.out _ _ _ [s[k + 1]] rfl rfl rfl (by simp only [List.length_cons, List.length_nil]; omega) hZ (Or.inl rfl) ?_
            intro v2 w2 hown2 hbel2 hZ2
            have HO2 := Lib.hid hown2
            have HB2 := Lib.hid hbel2
            clear hown2 hbel2
            go_wp2
            go_roundw
            case rel => exact ⟨k + 2, l ++ [s[k + 1]], by omega, by go_num, by simp only [List.length_append, List.length_cons, List.length_nil]; omega, HO2.out, HB.out.trans HB2.out, HP.out⟩
            case measure => simp [intOf]; omega
      · have hp : URel s.data.toList (k + 1) (l ++ [s[k]]) := by
          refine HU.out.plain (c := s[k]) (r := s.data.toList.drop (k + 1)) hd1.out ?_ rfl
          by_cases h : s[k].toNat = 92
          · right; exact drop_end s (k + 1) (by omega)
          · left; exact h
        have HP := Lib.hid hp; clear hp
        by_cases h92 : s[k].toNat = 92
        · have t1 : ((s[k].toNat : Int) != 92) = false := by simp [h92]
          have t2 : ¬ ((k : Int) + 1 < (s.size : Int)) := by omega
          clear h92 hc
          go_wp2_with (at_builtin; refine stop_here ?_)
          refine go_on ?_
          refine append_lit rfl _ _ rfl w.heap.size _ l rfl HO.out _ _ _ [s[k]] rfl rfl rfl (by simp only [List.length_cons, List.length_nil]; omega) hZ (Or.inl rfl) ?_
          intro v2 w2 hown2 hbel2 hZ2
          have HO2 := Lib.hid hown2
          have HB2 := Lib.hid hbel2
          clear hown2 hbel2
          go_wp2
          go_roundw
          case rel => exact ⟨k + 1, l ++ [s[k]], by omega, by go_num, by simp only [List.length_append, List.length_cons, List.length_nil]; omega, HO2.out, HB.out.trans HB2.out, HP.out⟩
          case measure => simp [intOf]; omega
        · have t1 : ((s[k].toNat : Int) != 92) = true := by simp; omega
          clear h92 hc
          go_wp2_with (at_builtin; refine stop_here ?_)
          refine go_on ?_
          refine append_lit rfl _ _ rfl w.heap.size _ l rfl HO.out _ _ _ [s[k]] rfl rfl rfl (by simp only [List.length_cons, List.length_nil]; omega) hZ (Or.inl rfl) ?_
          intro v2 w2 hown2 hbel2 hZ2
          have HO2 := Lib.hid hown2
          have HB2 := Lib.hid hbel2
          clear hown2 hbel2
          go_wp2
          go_roundw
          case rel => exact ⟨k + 1, l ++ [s[k]], by omega, by go_num, by simp only [List.length_append, List.length_cons, List.length_nil]; omega, HO2.out, HB.out.trans HB2.out, HP.out⟩
          case measure => simp [intOf]; omega
    · have hcv := own_string HO.out
      go_wp2
      go_ret
      exact ⟨l, rfl, by omega, fun m L hm hL => HU.out.done (by rw [show s.data.toList.length = s.size from rfl]; omega) hm hL, HB.out⟩
end Go.Proofs.YtndknolblfdcdaaDoor
