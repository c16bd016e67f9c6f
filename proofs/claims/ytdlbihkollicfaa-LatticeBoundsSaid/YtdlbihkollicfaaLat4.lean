/- The contracts of isJoin, join and meet. -/
import Derived.Test.YtdlbihkollicfaaLat3
set_option linter.unusedSimpArgs false
set_option linter.unusedVariables false
namespace Go.Proofs.Ytdlbihkollicfaa
open Go.RowKit

/-- A slice of ints: its value, and each of its cells. -/
theorem own_ints {B : Nat} {w : World} {v : Value} {L : List Int} (h : OwnG intEl B w v L) :
    ∃ p cap, v = .slice p L.length cap ∧ ∀ (k : Nat) r, L[k]? = some r → ∃ g, p = some ⟨g, 0, none⟩ ∧ B ≤ g ∧ g < w.heap.size ∧ w.cell? ⟨g, k, none⟩ = some (.int .i64 r) := by
  by_cases hL : L = []
  · subst hL
    obtain ⟨p, cap, rfl⟩ := ownG_len h
    exact ⟨p, cap, rfl, fun k r h => by simp at h⟩
  · obtain ⟨g, cap, rfl, hg, hgl, _, hcs⟩ := ownG_cells intOk h hL
    exact ⟨_, cap, rfl, fun k r hk => ⟨g, rfl, hg, hgl, by simpa [intEl] using hcs k r hk 0 _ rfl⟩⟩

def isJ (R : Int → Int → Bool) (x a b : Int) : Bool := R a x && R b x && (els.filter (R a)).all fun y => !(R b y && !R x y)

def JRel (f : Int → Bool) (L : List Int) (w0 : World) (i : Value) (x : World) : Prop :=
  ∃ k : Nat, k ≤ L.length ∧ i = .int .i64 k ∧ ((L.take k).all f) = true ∧ Bel w0 x
theorem all_snoc {α : Type} {l : List α} {k : Nat} {p : α} (f : α → Bool) (h : l[k]? = some p) (h0 : (l.take k).all f = true) (h1 : f p = true) : (l.take (k + 1)).all f = true := by
  rw [List.take_add_one, h, List.all_append, h0]; simp [h1]
theorem all_miss {α : Type} {l : List α} {k : Nat} {p : α} (f : α → Bool) (h : l[k]? = some p) (h1 : f p = false) : l.all f = false := by
  rw [List.all_eq_false]
  exact ⟨p, List.mem_of_getElem? h, by simp [h1]⟩

set_option maxHeartbeats 2000000 in
theorem isJoin_at {l : List (Int × Int)} {R : Int → Int → Bool} {rank : Int → Nat} (hR : OrdR l R rank) (x a b : Int) (be bs ce cs : Nat) (w : World) (hw : OrdAt w be bs l) :
    Calls Try.prog 35 #[.agg #[.slice (some ⟨be, 0, none⟩) 6 ce, .slice (some ⟨bs, 0, none⟩) 4 cs], .int .i64 x, .int .i64 a, .int .i64 b] w fun e w' => e = .returned (.bool (isJ R x a b)) ∧ Bel w w' := by
  have HW := Lib.hid hw; clear hw
  go_enter Try.func35, Try.ntmps35
  go_wp2_with (fail)
  refine (below_at hR a x _ _ _ _ _ (HW.out.alloc _)).mono ?_
  rintro e w1 ⟨rfl, hb1⟩
  have b0 : w1.cell? ⟨w.heap.size, 0, none⟩ = some (.slice (some ⟨be, 0, none⟩) 6 ce) := cell_later hb1 (by go_simp)
  have b1 : w1.cell? ⟨w.heap.size, 1, none⟩ = some (.slice (some ⟨bs, 0, none⟩) 4 cs) := cell_later hb1 (by go_simp)
  have hz := hb1.past
  have HB1 := Lib.hid (((Bel.refl w).alloc _).trans hb1); clear hb1
  rcases hr : R a x with _ | _
  · have HJ := Lib.hid (show isJ R x a b = false by simp [isJ, hr])
    clear hr
    go_wp2_with (fail)
    go_ret
    exact ⟨ret_bool HJ.out.symm, HB1.out⟩
  have HR1 := Lib.hid hr; clear hr
  go_wp2_with (fail)
  refine (below_at hR b x _ _ _ _ _ (HW.out.bel HB1.out)).mono ?_
  rintro e w2 ⟨rfl, hb2⟩
  replace b0 := cell_later hb2 b0
  replace b1 := cell_later hb2 b1
  replace hz := Nat.lt_of_lt_of_le hz hb2.size
  have HB2 := Lib.hid (HB1.out.trans hb2); clear hb2 HB1
  rcases hr : R b x with _ | _
  · have HJ := Lib.hid (show isJ R x a b = false by simp [isJ, hr])
    clear hr
    go_wp2_with (fail)
    go_ret
    exact ⟨ret_bool HJ.out.symm, HB2.out⟩
  have HR2 := Lib.hid hr; clear hr
  go_wp2_with (fail)
  refine (above_at hR a _ _ _ _ _ (HW.out.bel HB2.out)).mono ?_
  rintro e w3 ⟨v, rfl, hown, hb3⟩
  replace b0 := cell_later hb3 b0
  replace b1 := cell_later hb3 b1
  replace hz := Nat.lt_of_lt_of_le hz hb3.size
  have HB3 := Lib.hid (HB2.out.trans hb3); clear hb3 HB2
  have hL6 : (els.filter (R a)).length ≤ 6 := List.length_filter_le _ _
  obtain ⟨L, hL⟩ : ∃ L, els.filter (R a) = L := ⟨_, rfl⟩
  rw [hL] at hown hL6
  have HL := Lib.hid hL; clear hL
  obtain ⟨p, cap, rfl, hcs⟩ := own_ints hown
  have HC := Lib.hid hcs; clear hcs hown
  go_wp2_with (fail)
  go_loopw [27] (fun i x' => JRel (fun y => !(R b y && !R x y)) L w3 i x') (fun i _ => L.length - (intOf i).toNat)
  case atStart => exact ⟨0, by omega, rfl, by simp, Bel.refl _⟩
  case round =>
    obtain ⟨k, hk, rfl, hno, hb⟩ := hrel
    have HNO := Lib.hid hno; clear hno
    replace b0 := cell_later hb b0
    replace b1 := cell_later hb b1
    replace hz := Nat.lt_of_lt_of_le hz hb.size
    by_cases hlt : k < L.length
    · obtain ⟨y, hy⟩ : ∃ y, L[k]? = some y := ⟨L[k], List.getElem?_eq_getElem hlt⟩
      obtain ⟨g, rfl, -, hg, hgc⟩ := HC.out k y hy
      have hgc := (hb.cell g k hg).trans hgc
      have HB := Lib.hid hb; clear hb
      have HY := Lib.hid hy; clear hy
      go_wp2_with (fail)
      refine (below_at hR b y _ _ _ _ _ (HW.out.bel (HB3.out.trans HB.out))).mono ?_
      rintro e w4 ⟨rfl, hb4⟩
      replace b0 := cell_later hb4 b0
      replace b1 := cell_later hb4 b1
      have HB4 := Lib.hid (HB.out.trans hb4); clear hb4 HB
      rcases hr : R b y with _ | _
      · have HX := Lib.hid (all_snoc (fun y => !(R b y && !R x y)) HY.out HNO.out (by simp [hr]))
        clear hr
        go_wp2_with (fail)
        go_roundw
        case rel => exact ⟨k + 1, by omega, by go_num, HX.out, HB4.out⟩
        case measure => simp [intOf]; omega
      · have HR3 := Lib.hid hr; clear hr
        go_wp2_with (fail)
        refine (below_at hR x y _ _ _ _ _ (HW.out.bel (HB3.out.trans HB4.out))).mono ?_
        rintro e w5 ⟨rfl, hb5⟩
        have HB5 := Lib.hid (HB4.out.trans hb5); clear hb5 HB4
        rcases hr : R x y with _ | _
        · have HX := Lib.hid (show isJ R x a b = false by
            unfold isJ
            rw [HL.out, all_miss _ HY.out (by simp [hr, HR3.out])]
            simp)
          clear hr
          go_wp2_with (fail)
          go_ret
          exact ⟨ret_bool HX.out.symm, HB3.out.trans HB5.out⟩
        · have HX := Lib.hid (all_snoc (fun y => !(R b y && !R x y)) HY.out HNO.out (by simp [hr]))
          clear hr
          go_wp2_with (fail)
          go_roundw
          case rel => exact ⟨k + 1, by omega, by go_num, HX.out, HB5.out⟩
          case measure => simp [intOf]; omega
    · have HX := Lib.hid (show isJ R x a b = true by
        unfold isJ
        rw [HL.out, HR1.out, HR2.out]
        have := HNO.out
        rw [List.take_of_length_le (by omega)] at this
        rw [this]; rfl)
      have HB := Lib.hid hb; clear hb
      go_wp2_with (fail)
      go_ret
      exact ⟨ret_bool HX.out.symm, HB3.out.trans HB.out⟩
end Go.Proofs.Ytdlbihkollicfaa
