/- The contract of value.unquote. -/
import Derived.Test.YtndknolblfdcdaaDoorMath1
set_option linter.unusedSimpArgs false
set_option linter.unusedVariables false
namespace Go.Proofs.YtndknolblfdcdaaDoor
open Go.RowKit

def UnqRel (s : ByteArray) (B : Nat) (w : World) (v i : Value) (x : World) : Prop :=
  ∃ (k : Nat) (l : List UInt8), k ≤ s.size ∧ i = .int .i64 k ∧ l.length ≤ k ∧ Own B x v l ∧ Below B w x ∧ URel s.data.toList k l
def UnqPost (s : ByteArray) (w : World) (e : Ending) (w' : World) : Prop :=
  ∃ l : List UInt8, e = .returned (.string ⟨l.toArray⟩) ∧ l.length ≤ s.size ∧ (∀ m L, mk m → s.data.toList = escL m L → l = L) ∧ Bel w w'

theorem drop1 (s : ByteArray) (k : Nat) (h : k < s.size) : s.data.toList.drop k = s[k] :: s.data.toList.drop (k + 1) := by
  rw [List.drop_eq_getElem_cons (by simpa using h)]; rfl
theorem drop_len (s : ByteArray) (k : Nat) : (s.data.toList.drop k).length = s.size - k := by rw [List.length_drop]; rfl
theorem drop_end (s : ByteArray) (k : Nat) (h : s.size ≤ k) : s.data.toList.drop k = [] := List.drop_of_length_le h

theorem extract_two (s : ByteArray) (k : Nat) (h : k + 3 < s.size) : s.extract (k + 1 + 1) (k + 1 + 3) = ⟨#[s[k + 2], s[k + 3]]⟩ := by
  apply ByteArray.ext
  apply Array.ext
  · have h' : k + 3 < s.data.size := h
    simp [ByteArray.data_extract, Array.size_extract]; omega
  · intro i h1 h2
    have h' : k + 3 < s.data.size := h
    have hi : i = 0 ∨ i = 1 := by simp at h2; omega
    rcases hi with rfl | rfl
    · simp [ByteArray.data_extract]; rfl
    · simp [ByteArray.data_extract]; rfl
theorem hex2_byte {x0 x1 : UInt8} {v : Int} (h : Hex2 x0 x1 v) : ∃ y : UInt8, v = (y.toNat : Int) := by
  have hv : 0 ≤ v ∧ v < 256 := by rcases h with ⟨p, q, _, _, h1, h2, rfl⟩ | ⟨rfl, _⟩ <;> omega
  exact ⟨UInt8.ofNat v.toNat, by simp [UInt8.toNat_ofNat]; omega⟩

set_option maxHeartbeats 1000000 in
theorem unquote_any (s : ByteArray) (w : World) (hs : s.size ≤ 1000000) (hstd : Std w) :
    Calls Tryd.prog 41 #[.string s] w (UnqPost s w) := by
  have HS := Lib.hid hstd; clear hstd
  go_enter Tryd.func41, Tryd.ntmps41
  go_wp2
  go_loopw [3, 4] (fun v i x => UnqRel s w.heap.size w v i x) (fun _ i _ => s.size - (intOf i).toNat)
  case atStart => exact ⟨0, [], Nat.zero_le _, rfl, Nat.le_refl _, Own.nil _ _, Below.refl _ _, URel.start _⟩
  case round =>
    obtain ⟨k, l, hk, rfl, hl, hown, hbel, hu⟩ := hrel
    have HO := Lib.hid hown; clear hown
    have HB := Lib.hid hbel
    have HU := Lib.hid hu; clear hu
    have hZ := hbel.size; clear hbel
    by_cases hlt : k < s.size
    · have hd1 := Lib.hid (drop1 s k hlt)
      by_cases hc : s[k].toNat = 92 ∧ k + 1 < s.size
      · obtain ⟨h92, hk1⟩ := hc
        have hd2 := Lib.hid (drop1 s (k + 1) hk1)
        have e92 := Lib.hid (show s[k] = 92 from UInt8.toNat_inj.1 h92)
        have t1 : ((s[k].toNat : Int) == 92) = true := by simp [h92]
        have t2 : (k : Int) + 1 < (s.size : Int) := by omega
        clear h92
        by_cases hx : s[k + 1].toNat = 120 ∧ k + 3 < s.size
        · obtain ⟨h120, hk3⟩ := hx
          have e120 := Lib.hid (show s[k + 1] = 120 from UInt8.toNat_inj.1 h120)
          have t3 : ((s[k + 1].toNat : Int) == 120) = true := by simp [h120]
          have t4 : (k : Int) + 1 + 2 < (s.size : Int) := by omega
          clear h120
          have hd3 := Lib.hid (drop1 s (k + 2) (by omega))
          have hd4 := Lib.hid (drop1 s (k + 3) hk3)
          have hex := extract_two s k hk3
          generalize hx0 : s[k + 2] = x0 at hex hd3
          generalize hx1 : s[k + 3] = x1 at hex hd4
          clear hx0 hx1
          go_wp2_with (fail)
          refine (parse16 x0 x1 _ (HS.out.bel ?_)).mono ?_
          · exact HB.out
          rintro e w1 ⟨v, err, rfl, hv, hb1⟩
          have HB1 := Lib.hid (show Below w.heap.size wr w1 from Below.mono hb1 hZ)
          have HO3 := Lib.hid (HO.out.bel hb1)
          have hZ3 : w.heap.size ≤ w1.heap.size := by have := hb1.size; omega
          clear hb1
          obtain ⟨y, rfl⟩ := hex2_byte hv
          have hp : URel s.data.toList (k + 4) (l ++ [y]) := by
            have := HU.out.hex (r := s.data.toList.drop (k + 4)) (by rw [hd1.out, hd2.out, e92.out, hd3.out, e120.out, hd4.out]) hv rfl
            simpa using this
          have HP := Lib.hid hp; clear hp hv
          have y256 := y.toNat_lt
          go_wp2_with (at_builtin; refine stop_here ?_)
          refine go_on ?_
          refine append_lit rfl _ _ rfl w.heap.size _ l rfl HO3.out _ _ _ [y] rfl rfl rfl (by simp only [List.length_cons, List.length_nil]; omega) hZ3 (Or.inl rfl) ?_
          intro v2 w2 hown2 hbel2 hZ2
          have HO2 := Lib.hid hown2
          have HB2 := Lib.hid hbel2
          clear hown2 hbel2
          go_wp2
          go_roundw
          case rel => exact ⟨k + 4, l ++ [y], by omega, by go_num, by simp only [List.length_append, List.length_cons, List.length_nil]; omega, HO2.out, (HB.out.trans HB1.out).trans HB2.out, HP.out⟩
          case measure => simp [intOf]; omega
        · have hp : URel s.data.toList (k + 2) (l ++ [s[k + 1]]) := by
            refine HU.out.pair (c2 := s[k + 1]) (r := s.data.toList.drop (k + 2)) (by rw [hd1.out, hd2.out, e92.out]) ?_ rfl
            rw [drop_len]
            by_cases h : s[k + 1].toNat = 120
            · right; omega
            · left; exact h
          have HP := Lib.hid hp; clear hp
          by_cases h120 : s[k + 1].toNat = 120
          · have t3 : ((s[k + 1].toNat : Int) == 120) = true := by simp [h120]
            have t4 : ¬ ((k : Int) + 1 + 2 < (s.size : Int)) := by omega
            clear h120 hx
            go_wp2_with (at_builtin; refine stop_here ?_)
            refine go_on ?_
            refine append_lit rfl _ _ rfl w.heap.size _ l rfl HO.out _ _ _ [s[k + 1]] rfl rfl rfl (by simp only [List.length_cons, List.length_nil]; omega) hZ (Or.inl rfl) ?_
            intro v2 w2 hown2 hbel2 hZ2
            have HO2 := Lib.hid hown2
            have HB2 := Lib.hid hbel2
            clear hown2 hbel2
            go_wp2
            go_roundw
            case rel => exact ⟨k + 2, l ++ [s[k + 1]], by omega, by go_num, by simp only [List.length_append, List.length_cons, List.length_nil]; omega, HO2.out, HB.out.trans HB2.out, HP.out⟩
            case measure => simp [intOf]; omega
          · have t3 : ((s[k + 1].toNat : Int) == 120) = false := by simp; omega
            clear h120 hx
            go_wp2_with (at_builtin; refine stop_here ?_)
            refine go_on ?_
            refine append_lit rfl _ _ rfl w.heap.size _ l rfl HO.out _ _ _ [s[k + 1]] rfl rfl rfl (by simp only [List.length_cons, List.length_nil]; omega) hZ (Or.inl rfl) ?_
            intro v2 w2 hown2 hbel2 hZ2
            have HO2 := Lib.hid hown2
            have HB2 := Lib.hid hbel2
            clear hown2 hbel2
            go_wp2
            go_roundw
            case rel => exact ⟨k + 2, l ++ [s[k + 1]], by omega, by go_num, by simp only [List.length_append, List.length_cons, List.length_nil]; omega, HO2.out, HB.out.trans HB2.out, HP.out⟩
            case measure => simp [intOf]; omega
      · have hp : URel s.data.toList (k + 1) (l ++ [s[k]]) := by
          refine HU.out.plain (c := s[k]) (r := s.data.toList.drop (k + 1)) hd1.out ?_ rfl
          by_cases h : s[k].toNat = 92
          · right; exact drop_end s (k + 1) (by omega)
          · left; exact h
        have HP := Lib.hid hp; clear hp
        by_cases h92 : s[k].toNat = 92
        · have t1 : ((s[k].toNat : Int) == 92) = true := by simp [h92]
          have t2 : ¬ ((k : Int) + 1 < (s.size : Int)) := by omega
          clear h92 hc
          go_wp2_with (at_builtin; refine stop_here ?_)
          refine go_on ?_
          refine append_lit rfl _ _ rfl w.heap.size _ l rfl HO.out _ _ _ [s[k]] rfl rfl rfl (by simp only [List.length_cons, List.length_nil]; omega) hZ (Or.inl rfl) ?_
          intro v2 w2 hown2 hbel2 hZ2
          have HO2 := Lib.hid hown2
          have HB2 := Lib.hid hbel2
          clear hown2 hbel2
          go_wp2
          go_roundw
          case rel => exact ⟨k + 1, l ++ [s[k]], by omega, by go_num, by simp only [List.length_append, List.length_cons, List.length_nil]; omega, HO2.out, HB.out.trans HB2.out, HP.out⟩
          case measure => simp [intOf]; omega
        · have t1 : ((s[k].toNat : Int) == 92) = false := by simp; omega
          clear h92 hc
          go_wp2_with (at_builtin; refine stop_here ?_)
          refine go_on ?_
          refine append_lit rfl _ _ rfl w.heap.size _ l rfl HO.out _ _ _ [s[k]] rfl rfl rfl (by simp only [List.length_cons, List.length_nil]; omega) hZ (Or.inl rfl) ?_
          intro v2 w2 hown2 hbel2 hZ2
          have HO2 := Lib.hid hown2
          have HB2 := Lib.hid hbel2
          clear hown2 hbel2
          go_wp2
          go_roundw
          case rel => exact ⟨k + 1, l ++ [s[k]], by omega, by go_num, by simp only [List.length_append, List.length_cons, List.length_nil]; omega, HO2.out, HB.out.trans HB2.out, HP.out⟩
          case measure => simp [intOf]; omega
    · have hcv := own_string HO.out
      go_wp2
      go_ret
      exact ⟨l, rfl, by omega, fun m L hm hL => HU.out.done (by rw [show s.data.toList.length = s.size from rfl]; omega) hm hL, HB.out⟩
end Go.Proofs.YtndknolblfdcdaaDoor
