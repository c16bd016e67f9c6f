/- The walks of the laws of chapter 2, the first four: kinds alone. -/
import Derived.Test.YtdlbihkollicfaaLatS
set_option linter.unusedSimpArgs false
set_option linter.unusedVariables false
namespace Go.Proofs.Ytdlbihkollicfaa
open Go.RowKit

set_option maxHeartbeats 4000000 in
theorem tells_law (a b : Int) (w : World) :
    Calls Try.prog 3 #[.int .i64 a, .int .i64 b] w fun e w' => e = .returned (.bool true) ∧ Bel w w' := by
  obtain ⟨J1, J2, J3, J4, J5, J6, J7, J8⟩ := joins a b
  have K1 := Lib.hid (J5.trans J1.symm)
  have K2 := Lib.hid (J6.trans J2.symm)
  have K3 := Lib.hid (J7.trans J3.symm)
  have K4 := Lib.hid (J8.trans J4.symm)
  clear J1 J2 J3 J4 J5 J6 J7 J8
  go_enter Try.func3, Try.ntmps3
  go_wp2_with (fail)
  refine (shown_any _).mono ?_
  rintro e w1 ⟨rfl, hb⟩
  have HB1 := Lib.hid (show Bel w w1 from hb); clear hb
  go_wp2_with (fail)
  refine (Join_any a b _).mono ?_
  rintro e w2 ⟨rfl, hb⟩
  have HB2 := Lib.hid (HB1.out.trans hb); clear hb
  go_wp2_with (fail)
  refine (ref_Join_any a b _).mono ?_
  rintro e w3 ⟨rfl, rfl⟩
  rw [K1.out, K2.out]
  go_wp2_with (fail)
  refine (Meet_any a b _).mono ?_
  rintro e w4 ⟨rfl, hb⟩
  have HB4 := Lib.hid (HB2.out.trans hb); clear hb
  go_wp2_with (fail)
  refine (ref_Meet_any a b _).mono ?_
  rintro e w5 ⟨rfl, rfl⟩
  rw [K3.out, K4.out]
  go_wp2_with (fail)
  refine (Below_any a b _).mono ?_
  rintro e w6 ⟨rfl, hb⟩
  have HB6 := Lib.hid (HB4.out.trans hb); clear hb
  go_wp2_with (fail)
  refine (ref_Below_any a b _).mono ?_
  rintro e w7 ⟨rfl, rfl⟩
  go_wp2_with (fail)
  refine (Above_any a _).mono ?_
  rintro e w8 ⟨v, rfl, hown, hb⟩
  have HB8 := Lib.hid (HB6.out.trans hb); clear hb
  have HO := Lib.hid hown; clear hown
  go_wp2_with (fail)
  refine (ref_Above_any a _).mono ?_
  rintro e w9 ⟨v', rfl, hown, hb⟩
  have HO1 := Lib.hid (HO.out.bel hb)
  have HB9 := Lib.hid (HB8.out.trans hb); clear hb
  have HO2 := Lib.hid hown; clear hown
  have hl : (els.filter (upB a)).length ≤ 1000 := Nat.le_trans (List.length_filter_le _ _) (by decide)
  go_wp2_with (fail)
  refine (same_any _ HO1.out HO2.out hl hl).mono ?_
  rintro e w10 ⟨rfl, hd⟩
  have HB10 := Lib.hid (HB9.out.trans hd.bel); clear hd
  rw [show (decide (els.filter (upB a) = els.filter (upB a))) = true by simp]
  go_wp2_with (fail)
  go_ret
  exact ⟨rfl, HB10.out⟩

theorem up_anti {a b : Int} (h : upB a b = true) (k : upB b a = true) : a = b := by
  unfold upB at h k; simp at h k; omega
theorem up_trans {a b c : Int} (h : upB a b = true) (k : upB b c = true) : upB a c = true := by
  unfold upB at *; simp at *; omega
theorem filt_any (R : Int → Bool) (b : Int) (h : R b = true → 1 ≤ b ∧ b ≤ 6) : ((els.filter R).any fun x => x == b) = R b := by
  rw [Bool.eq_iff_iff]
  simp only [List.any_eq_true, List.mem_filter, beq_iff_eq]
  constructor
  · rintro ⟨x, ⟨_, hx⟩, rfl⟩; exact hx
  · intro hb
    refine ⟨b, ⟨?_, hb⟩, rfl⟩
    rcases six (h hb) with rfl | rfl | rfl | rfl | rfl | rfl <;> decide

def ORel (L : List Int) (b : Int) (w : World) (f i : Value) (x : World) : Prop := ∃ k : Nat, k ≤ L.length ∧ i = .int .i64 k ∧ f = .bool ((L.take k).any fun x => x == b) ∧ Bel w x

set_option maxHeartbeats 8000000 in
theorem orders_law (a b c : Int) (w : World) :
    Calls Try.prog 5 #[.int .i64 a, .int .i64 b, .int .i64 c] w fun e w' => e = .returned (.bool true) ∧ Bel w w' := by
  go_enter Try.func5, Try.ntmps5
  go_wp2_with (fail)
  refine (shown_any _).mono ?_
  rintro e w1 ⟨rfl, hb⟩
  have HB1 := Lib.hid (show Bel w w1 from hb); clear hb
  go_wp2_with (fail)
  refine (Below_any a b _).mono ?_
  rintro e w2 ⟨rfl, hb⟩
  have HB2 := Lib.hid (HB1.out.trans hb); clear hb
  go_wp2_with (fail)
  refine (Below_any b c _).mono ?_
  rintro e w3 ⟨rfl, hb⟩
  have HB3 := Lib.hid (HB2.out.trans hb); clear hb
  by_cases h1 : 1 ≤ a ∧ a ≤ 6
  · obtain ⟨h1, h2⟩ := h1
    have hka : kindB a = true := by unfold kindB; simp; omega
    have HKA := Lib.hid hka; clear hka
    rcases hab : upB a b with _ | _
    · have HAB := Lib.hid hab; clear hab
      go_wp2_with (fail)
      refine (Below_any a a _).mono ?_
      rintro e w4 ⟨rfl, hb⟩
      have HB := Lib.hid (HB3.out.trans hb); clear hb
      rw [up_ord.self, HKA.out]
      go_wp2_with (fail)
      refine (Above_any a _).mono ?_
      rintro e w8 ⟨v, rfl, hown, hb⟩
      have HB8 := Lib.hid (HB.out.trans hb); clear hb HB
      obtain ⟨L, hL⟩ : ∃ L, els.filter (upB a) = L := ⟨_, rfl⟩
      rw [hL] at hown
      have HL := Lib.hid hL; clear hL
      have hL6 := Lib.hid (show L.length ≤ 6 by rw [← HL.out]; exact List.length_filter_le _ _)
      obtain ⟨p, cap, rfl, hcs⟩ := own_ints hown
      have HC := Lib.hid hcs; clear hcs hown
      go_wp2_with (fail)
      go_loopw [12, 13] (fun f i x => ORel L b w8 f i x) (fun _ i _ => L.length - (intOf i).toNat)
      case atStart => exact ⟨0, by omega, rfl, rfl, Bel.refl _⟩
      case round =>
        obtain ⟨k, hk, rfl, rfl, hb⟩ := hrel
        by_cases hlt : k < L.length
        · obtain ⟨y, hy⟩ : ∃ y, L[k]? = some y := ⟨L[k], List.getElem?_eq_getElem hlt⟩
          obtain ⟨g, rfl, -, hg, hgc⟩ := HC.out k y hy
          have hgc := (hb.cell g k hg).trans hgc
          have HW := Lib.hid hb; clear hb
          have hlen := hL6.out
          rcases hf : (L.take k).any fun x => x == b with _ | _
          · have HX := Lib.hid (show (L.take (k + 1)).any (fun x => x == b) = (y == b) by
              rw [List.take_add_one, hy, List.any_append, hf]; simp)
            clear hf hy
            go_wp2_with (fail)
            go_roundw
            case rel => exact ⟨k + 1, by omega, by go_num, by rw [HX.out], HW.out⟩
            case measure => simp [intOf]; omega
          · have HX := Lib.hid (show (L.take (k + 1)).any (fun x => x == b) = true by
              rw [List.take_add_one, hy, List.any_append, hf]; simp)
            clear hf hy
            go_wp2_with (fail)
            go_roundw
            case rel => exact ⟨k + 1, by omega, by go_num, by rw [HX.out], HW.out⟩
            case measure => simp [intOf]; omega
        · have HX := Lib.hid (show ((L.take k).any fun x => x == b) = upB a b by
            rw [List.take_of_length_le (by omega), ← HL.out]
            exact filt_any _ _ fun h => by unfold upB at h; simp at h; omega)
          have HW := Lib.hid hb; clear hb
          rw [HX.out, HAB.out]
          go_wp2_with (fail)
          go_ret
          exact ⟨rfl, HB8.out.trans HW.out⟩
    · have HAB := Lib.hid hab; clear hab
      go_wp2_with (fail)
      refine (Below_any a a _).mono ?_
      rintro e w4 ⟨rfl, hb⟩
      have HB4 := Lib.hid (HB3.out.trans hb); clear hb
      rw [up_ord.self, HKA.out]
      go_wp2_with (fail)
      refine (Below_any b a _).mono ?_
      rintro e w5 ⟨rfl, hb⟩
      have HB5 := Lib.hid (HB4.out.trans hb); clear hb
      rcases hba : upB b a with _ | _
      · clear hba
        rcases hbc : upB b c with _ | _
        · clear hbc
          have HB := HB5
          go_wp2_with (fail)
          refine (Above_any a _).mono ?_
          rintro e w8 ⟨v, rfl, hown, hb⟩
          have HB8 := Lib.hid (HB.out.trans hb); clear hb HB
          obtain ⟨L, hL⟩ : ∃ L, els.filter (upB a) = L := ⟨_, rfl⟩
          rw [hL] at hown
          have HL := Lib.hid hL; clear hL
          have hL6 := Lib.hid (show L.length ≤ 6 by rw [← HL.out]; exact List.length_filter_le _ _)
          obtain ⟨p, cap, rfl, hcs⟩ := own_ints hown
          have HC := Lib.hid hcs; clear hcs hown
          go_wp2_with (fail)
          go_loopw [12, 13] (fun f i x => ORel L b w8 f i x) (fun _ i _ => L.length - (intOf i).toNat)
          case atStart => exact ⟨0, by omega, rfl, rfl, Bel.refl _⟩
          case round =>
            obtain ⟨k, hk, rfl, rfl, hb⟩ := hrel
            by_cases hlt : k < L.length
            · obtain ⟨y, hy⟩ : ∃ y, L[k]? = some y := ⟨L[k], List.getElem?_eq_getElem hlt⟩
              obtain ⟨g, rfl, -, hg, hgc⟩ := HC.out k y hy
              have hgc := (hb.cell g k hg).trans hgc
              have HW := Lib.hid hb; clear hb
              have hlen := hL6.out
              rcases hf : (L.take k).any fun x => x == b with _ | _
              · have HX := Lib.hid (show (L.take (k + 1)).any (fun x => x == b) = (y == b) by
                  rw [List.take_add_one, hy, List.any_append, hf]; simp)
                clear hf hy
                go_wp2_with (fail)
                go_roundw
                case rel => exact ⟨k + 1, by omega, by go_num, by rw [HX.out], HW.out⟩
                case measure => simp [intOf]; omega
              · have HX := Lib.hid (show (L.take (k + 1)).any (fun x => x == b) = true by
                  rw [List.take_add_one, hy, List.any_append, hf]; simp)
                clear hf hy
                go_wp2_with (fail)
                go_roundw
                case rel => exact ⟨k + 1, by omega, by go_num, by rw [HX.out], HW.out⟩
                case measure => simp [intOf]; omega
            · have HX := Lib.hid (show ((L.take k).any fun x => x == b) = upB a b by
                rw [List.take_of_length_le (by omega), ← HL.out]
                exact filt_any _ _ fun h => by unfold upB at h; simp at h; omega)
              have HW := Lib.hid hb; clear hb
              rw [HX.out, HAB.out]
              go_wp2_with (fail)
              go_ret
              exact ⟨rfl, HB8.out.trans HW.out⟩
        · have HAC := Lib.hid (up_trans HAB.out hbc); clear hbc
          go_wp2_with (fail)
          refine (Below_any a c _).mono ?_
          rintro e w6 ⟨rfl, hb⟩
          have HB := Lib.hid (HB5.out.trans hb); clear hb
          rw [HAC.out]
          go_wp2_with (fail)
          refine (Above_any a _).mono ?_
          rintro e w8 ⟨v, rfl, hown, hb⟩
          have HB8 := Lib.hid (HB.out.trans hb); clear hb HB
          obtain ⟨L, hL⟩ : ∃ L, els.filter (upB a) = L := ⟨_, rfl⟩
          rw [hL] at hown
          have HL := Lib.hid hL; clear hL
          have hL6 := Lib.hid (show L.length ≤ 6 by rw [← HL.out]; exact List.length_filter_le _ _)
          obtain ⟨p, cap, rfl, hcs⟩ := own_ints hown
          have HC := Lib.hid hcs; clear hcs hown
          go_wp2_with (fail)
          go_loopw [12, 13] (fun f i x => ORel L b w8 f i x) (fun _ i _ => L.length - (intOf i).toNat)
          case atStart => exact ⟨0, by omega, rfl, rfl, Bel.refl _⟩
          case round =>
            obtain ⟨k, hk, rfl, rfl, hb⟩ := hrel
            by_cases hlt : k < L.length
            · obtain ⟨y, hy⟩ : ∃ y, L[k]? = some y := ⟨L[k], List.getElem?_eq_getElem hlt⟩
              obtain ⟨g, rfl, -, hg, hgc⟩ := HC.out k y hy
              have hgc := (hb.cell g k hg).trans hgc
              have HW := Lib.hid hb; clear hb
              have hlen := hL6.out
              rcases hf : (L.take k).any fun x => x == b with _ | _
              · have HX := Lib.hid (show (L.take (k + 1)).any (fun x => x == b) = (y == b) by
                  rw [List.take_add_one, hy, List.any_append, hf]; simp)
                clear hf hy
                go_wp2_with (fail)
                go_roundw
                case rel => exact ⟨k + 1, by omega, by go_num, by rw [HX.out], HW.out⟩
                case measure => simp [intOf]; omega
              · have HX := Lib.hid (show (L.take (k + 1)).any (fun x => x == b) = true by
                  rw [List.take_add_one, hy, List.any_append, hf]; simp)
                clear hf hy
                go_wp2_with (fail)
                go_roundw
                case rel => exact ⟨k + 1, by omega, by go_num, by rw [HX.out], HW.out⟩
                case measure => simp [intOf]; omega
            · have HX := Lib.hid (show ((L.take k).any fun x => x == b) = upB a b by
                rw [List.take_of_length_le (by omega), ← HL.out]
                exact filt_any _ _ fun h => by unfold upB at h; simp at h; omega)
              have HW := Lib.hid hb; clear hb
              rw [HX.out, HAB.out]
              go_wp2_with (fail)
              go_ret
              exact ⟨rfl, HB8.out.trans HW.out⟩
      · have hne : (a != b) = false := by simpa using up_anti HAB.out hba
        clear hba
        rcases hbc : upB b c with _ | _
        · clear hbc
          have HB := HB5
          go_wp2_with (fail)
          refine (Above_any a _).mono ?_
          rintro e w8 ⟨v, rfl, hown, hb⟩
          have HB8 := Lib.hid (HB.out.trans hb); clear hb HB
          obtain ⟨L, hL⟩ : ∃ L, els.filter (upB a) = L := ⟨_, rfl⟩
          rw [hL] at hown
          have HL := Lib.hid hL; clear hL
          have hL6 := Lib.hid (show L.length ≤ 6 by rw [← HL.out]; exact List.length_filter_le _ _)
          obtain ⟨p, cap, rfl, hcs⟩ := own_ints hown
          have HC := Lib.hid hcs; clear hcs hown
          go_wp2_with (fail)
          go_loopw [12, 13] (fun f i x => ORel L b w8 f i x) (fun _ i _ => L.length - (intOf i).toNat)
          case atStart => exact ⟨0, by omega, rfl, rfl, Bel.refl _⟩
          case round =>
            obtain ⟨k, hk, rfl, rfl, hb⟩ := hrel
            by_cases hlt : k < L.length
            · obtain ⟨y, hy⟩ : ∃ y, L[k]? = some y := ⟨L[k], List.getElem?_eq_getElem hlt⟩
              obtain ⟨g, rfl, -, hg, hgc⟩ := HC.out k y hy
              have hgc := (hb.cell g k hg).trans hgc
              have HW := Lib.hid hb; clear hb
              have hlen := hL6.out
              rcases hf : (L.take k).any fun x => x == b with _ | _
              · have HX := Lib.hid (show (L.take (k + 1)).any (fun x => x == b) = (y == b) by
                  rw [List.take_add_one, hy, List.any_append, hf]; simp)
                clear hf hy
                go_wp2_with (fail)
                go_roundw
                case rel => exact ⟨k + 1, by omega, by go_num, by rw [HX.out], HW.out⟩
                case measure => simp [intOf]; omega
              · have HX := Lib.hid (show (L.take (k + 1)).any (fun x => x == b) = true by
                  rw [List.take_add_one, hy, List.any_append, hf]; simp)
                clear hf hy
                go_wp2_with (fail)
                go_roundw
                case rel => exact ⟨k + 1, by omega, by go_num, by rw [HX.out], HW.out⟩
                case measure => simp [intOf]; omega
            · have HX := Lib.hid (show ((L.take k).any fun x => x == b) = upB a b by
                rw [List.take_of_length_le (by omega), ← HL.out]
                exact filt_any _ _ fun h => by unfold upB at h; simp at h; omega)
              have HW := Lib.hid hb; clear hb
              rw [HX.out, HAB.out]
              go_wp2_with (fail)
              go_ret
              exact ⟨rfl, HB8.out.trans HW.out⟩
        · have HAC := Lib.hid (up_trans HAB.out hbc); clear hbc
          go_wp2_with (fail)
          refine (Below_any a c _).mono ?_
          rintro e w6 ⟨rfl, hb⟩
          have HB := Lib.hid (HB5.out.trans hb); clear hb
          rw [HAC.out]
          go_wp2_with (fail)
          refine (Above_any a _).mono ?_
          rintro e w8 ⟨v, rfl, hown, hb⟩
          have HB8 := Lib.hid (HB.out.trans hb); clear hb HB
          obtain ⟨L, hL⟩ : ∃ L, els.filter (upB a) = L := ⟨_, rfl⟩
          rw [hL] at hown
          have HL := Lib.hid hL; clear hL
          have hL6 := Lib.hid (show L.length ≤ 6 by rw [← HL.out]; exact List.length_filter_le _ _)
          obtain ⟨p, cap, rfl, hcs⟩ := own_ints hown
          have HC := Lib.hid hcs; clear hcs hown
          go_wp2_with (fail)
          go_loopw [12, 13] (fun f i x => ORel L b w8 f i x) (fun _ i _ => L.length - (intOf i).toNat)
          case atStart => exact ⟨0, by omega, rfl, rfl, Bel.refl _⟩
          case round =>
            obtain ⟨k, hk, rfl, rfl, hb⟩ := hrel
            by_cases hlt : k < L.length
            · obtain ⟨y, hy⟩ : ∃ y, L[k]? = some y := ⟨L[k], List.getElem?_eq_getElem hlt⟩
              obtain ⟨g, rfl, -, hg, hgc⟩ := HC.out k y hy
              have hgc := (hb.cell g k hg).trans hgc
              have HW := Lib.hid hb; clear hb
              have hlen := hL6.out
              rcases hf : (L.take k).any fun x => x == b with _ | _
              · have HX := Lib.hid (show (L.take (k + 1)).any (fun x => x == b) = (y == b) by
                  rw [List.take_add_one, hy, List.any_append, hf]; simp)
                clear hf hy
                go_wp2_with (fail)
                go_roundw
                case rel => exact ⟨k + 1, by omega, by go_num, by rw [HX.out], HW.out⟩
                case measure => simp [intOf]; omega
              · have HX := Lib.hid (show (L.take (k + 1)).any (fun x => x == b) = true by
                  rw [List.take_add_one, hy, List.any_append, hf]; simp)
                clear hf hy
                go_wp2_with (fail)
                go_roundw
                case rel => exact ⟨k + 1, by omega, by go_num, by rw [HX.out], HW.out⟩
                case measure => simp [intOf]; omega
            · have HX := Lib.hid (show ((L.take k).any fun x => x == b) = upB a b by
                rw [List.take_of_length_le (by omega), ← HL.out]
                exact filt_any _ _ fun h => by unfold upB at h; simp at h; omega)
              have HW := Lib.hid hb; clear hb
              rw [HX.out, HAB.out]
              go_wp2_with (fail)
              go_ret
              exact ⟨rfl, HB8.out.trans HW.out⟩
  · have hka : kindB a = false := by unfold kindB; simp; omega
    have HKA := Lib.hid hka; clear hka
    have hab : upB a b = false := up_out (Or.inl h1)
    have HAB := Lib.hid hab
    rw [hab]
    clear hab
    by_cases h2 : 1 ≤ a
    · have h3 : ¬ a ≤ 6 := fun h => h1 ⟨h2, h⟩
      clear h1
      go_wp2_with (fail)
      refine (Below_any a a _).mono ?_
      rintro e w4 ⟨rfl, hb⟩
      have HB := Lib.hid (HB3.out.trans hb); clear hb
      rw [up_ord.self, HKA.out]
      go_wp2_with (fail)
      refine (Above_any a _).mono ?_
      rintro e w8 ⟨v, rfl, hown, hb⟩
      have HB8 := Lib.hid (HB.out.trans hb); clear hb HB
      obtain ⟨L, hL⟩ : ∃ L, els.filter (upB a) = L := ⟨_, rfl⟩
      rw [hL] at hown
      have HL := Lib.hid hL; clear hL
      have hL6 := Lib.hid (show L.length ≤ 6 by rw [← HL.out]; exact List.length_filter_le _ _)
      obtain ⟨p, cap, rfl, hcs⟩ := own_ints hown
      have HC := Lib.hid hcs; clear hcs hown
      go_wp2_with (fail)
      go_loopw [12, 13] (fun f i x => ORel L b w8 f i x) (fun _ i _ => L.length - (intOf i).toNat)
      case atStart => exact ⟨0, by omega, rfl, rfl, Bel.refl _⟩
      case round =>
        obtain ⟨k, hk, rfl, rfl, hb⟩ := hrel
        by_cases hlt : k < L.length
        · obtain ⟨y, hy⟩ : ∃ y, L[k]? = some y := ⟨L[k], List.getElem?_eq_getElem hlt⟩
          obtain ⟨g, rfl, -, hg, hgc⟩ := HC.out k y hy
          have hgc := (hb.cell g k hg).trans hgc
          have HW := Lib.hid hb; clear hb
          have hlen := hL6.out
          rcases hf : (L.take k).any fun x => x == b with _ | _
          · have HX := Lib.hid (show (L.take (k + 1)).any (fun x => x == b) = (y == b) by
              rw [List.take_add_one, hy, List.any_append, hf]; simp)
            clear hf hy
            go_wp2_with (fail)
            go_roundw
            case rel => exact ⟨k + 1, by omega, by go_num, by rw [HX.out], HW.out⟩
            case measure => simp [intOf]; omega
          · have HX := Lib.hid (show (L.take (k + 1)).any (fun x => x == b) = true by
              rw [List.take_add_one, hy, List.any_append, hf]; simp)
            clear hf hy
            go_wp2_with (fail)
            go_roundw
            case rel => exact ⟨k + 1, by omega, by go_num, by rw [HX.out], HW.out⟩
            case measure => simp [intOf]; omega
        · have HX := Lib.hid (show ((L.take k).any fun x => x == b) = upB a b by
            rw [List.take_of_length_le (by omega), ← HL.out]
            exact filt_any _ _ fun h => by unfold upB at h; simp at h; omega)
          have HW := Lib.hid hb; clear hb
          rw [HX.out, HAB.out]
          go_wp2_with (fail)
          go_ret
          exact ⟨rfl, HB8.out.trans HW.out⟩
    · clear h1
      go_wp2_with (fail)
      refine (Below_any a a _).mono ?_
      rintro e w4 ⟨rfl, hb⟩
      have HB := Lib.hid (HB3.out.trans hb); clear hb
      rw [up_ord.self, HKA.out]
      go_wp2_with (fail)
      refine (Above_any a _).mono ?_
      rintro e w8 ⟨v, rfl, hown, hb⟩
      have HB8 := Lib.hid (HB.out.trans hb); clear hb HB
      obtain ⟨L, hL⟩ : ∃ L, els.filter (upB a) = L := ⟨_, rfl⟩
      rw [hL] at hown
      have HL := Lib.hid hL; clear hL
      have hL6 := Lib.hid (show L.length ≤ 6 by rw [← HL.out]; exact List.length_filter_le _ _)
      obtain ⟨p, cap, rfl, hcs⟩ := own_ints hown
      have HC := Lib.hid hcs; clear hcs hown
      go_wp2_with (fail)
      go_loopw [12, 13] (fun f i x => ORel L b w8 f i x) (fun _ i _ => L.length - (intOf i).toNat)
      case atStart => exact ⟨0, by omega, rfl, rfl, Bel.refl _⟩
      case round =>
        obtain ⟨k, hk, rfl, rfl, hb⟩ := hrel
        by_cases hlt : k < L.length
        · obtain ⟨y, hy⟩ : ∃ y, L[k]? = some y := ⟨L[k], List.getElem?_eq_getElem hlt⟩
          obtain ⟨g, rfl, -, hg, hgc⟩ := HC.out k y hy
          have hgc := (hb.cell g k hg).trans hgc
          have HW := Lib.hid hb; clear hb
          have hlen := hL6.out
          rcases hf : (L.take k).any fun x => x == b with _ | _
          · have HX := Lib.hid (show (L.take (k + 1)).any (fun x => x == b) = (y == b) by
              rw [List.take_add_one, hy, List.any_append, hf]; simp)
            clear hf hy
            go_wp2_with (fail)
            go_roundw
            case rel => exact ⟨k + 1, by omega, by go_num, by rw [HX.out], HW.out⟩
            case measure => simp [intOf]; omega
          · have HX := Lib.hid (show (L.take (k + 1)).any (fun x => x == b) = true by
              rw [List.take_add_one, hy, List.any_append, hf]; simp)
            clear hf hy
            go_wp2_with (fail)
            go_roundw
            case rel => exact ⟨k + 1, by omega, by go_num, by rw [HX.out], HW.out⟩
            case measure => simp [intOf]; omega
        · have HX := Lib.hid (show ((L.take k).any fun x => x == b) = upB a b by
            rw [List.take_of_length_le (by omega), ← HL.out]
            exact filt_any _ _ fun h => by unfold upB at h; simp at h; omega)
          have HW := Lib.hid hb; clear hb
          rw [HX.out, HAB.out]
          go_wp2_with (fail)
          go_ret
          exact ⟨rfl, HB8.out.trans HW.out⟩
end Go.Proofs.Ytdlbihkollicfaa
