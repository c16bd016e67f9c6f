/- The contracts of join, meet, and the exported Join, Meet and Above. -/
import Derived.Test.YtdlbihkollicfaaLat4
set_option linter.unusedSimpArgs false
set_option linter.unusedVariables false
namespace Go.Proofs.Ytdlbihkollicfaa
open Go.RowKit

def joinI (R : Int → Int → Bool) (a b : Int) : Int := ((els.find? fun x => isJ R x a b).map id).getD 0
def joinB (R : Int → Int → Bool) (a b : Int) : Bool := (els.find? fun x => isJ R x a b).isSome

def FRel (f : Int → Bool) (w0 : World) (i : Value) (x : World) : Prop :=
  ∃ k : Nat, k ≤ 6 ∧ i = .int .i64 k ∧ (∀ j, j < k → f ((j : Int) + 1) = false) ∧ Bel w0 x
theorem ret_ib {a b : Int} {p q : Bool} (h : a = b) (k : p = q) : Ending.returned (.tuple #[.int .i64 a, .bool p]) = Ending.returned (.tuple #[.int .i64 b, .bool q]) := by rw [h, k]
theorem find_hit (f : Int → Bool) (k : Nat) (hk : k < 6) (h0 : ∀ j : Nat, j < k → f ((j : Int) + 1) = false) (h1 : f ((k : Int) + 1) = true) : els.find? f = some ((k : Int) + 1) := by
  match k, hk with
  | 0, _ => simp at h1; simp [els, h1]
  | 1, _ => have g0 := h0 0 (by omega); simp at h1 g0; simp [els, h1, g0]
  | 2, _ => have g0 := h0 0 (by omega); have g1 := h0 1 (by omega); simp at h1 g0 g1; simp [els, h1, g0, g1]
  | 3, _ => have g0 := h0 0 (by omega); have g1 := h0 1 (by omega); have g2 := h0 2 (by omega); simp at h1 g0 g1 g2; simp [els, h1, g0, g1, g2]
  | 4, _ => have g0 := h0 0 (by omega); have g1 := h0 1 (by omega); have g2 := h0 2 (by omega); have g3 := h0 3 (by omega); simp at h1 g0 g1 g2 g3; simp [els, h1, g0, g1, g2, g3]
  | 5, _ => have g0 := h0 0 (by omega); have g1 := h0 1 (by omega); have g2 := h0 2 (by omega); have g3 := h0 3 (by omega); have g4 := h0 4 (by omega); simp at h1 g0 g1 g2 g3 g4; simp [els, h1, g0, g1, g2, g3, g4]
theorem find_miss (f : Int → Bool) (h0 : ∀ j : Nat, j < 6 → f ((j : Int) + 1) = false) : els.find? f = none := by
  have g0 := h0 0 (by omega); have g1 := h0 1 (by omega); have g2 := h0 2 (by omega); have g3 := h0 3 (by omega); have g4 := h0 4 (by omega); have g5 := h0 5 (by omega)
  simp at g0 g1 g2 g3 g4 g5
  simp [els, g0, g1, g2, g3, g4, g5]

set_option maxHeartbeats 2000000 in
theorem join_at {l : List (Int × Int)} {R : Int → Int → Bool} {rank : Int → Nat} (hR : OrdR l R rank) (a b : Int) (be bs ce cs : Nat) (w : World) (hw : OrdAt w be bs l) :
    Calls Try.prog 27 #[.agg #[.slice (some ⟨be, 0, none⟩) 6 ce, .slice (some ⟨bs, 0, none⟩) 4 cs], .int .i64 a, .int .i64 b] w fun e w' => e = .returned (.tuple #[.int .i64 (joinI R a b), .bool (joinB R a b)]) ∧ Bel w w' := by
  have HW := Lib.hid hw; clear hw
  go_enter Try.func27, Try.ntmps27
  go_wp2_with (fail)
  go_loopw [14] (fun i x' => FRel (fun x => isJ R x a b) (w.alloc (.cells #[.slice (some ⟨be, 0, none⟩) 6 ce, .slice (some ⟨bs, 0, none⟩) 4 cs] 42)) i x') (fun i _ => 6 - (intOf i).toNat)
  case atStart => exact ⟨0, by omega, rfl, fun j h => absurd h (Nat.not_lt_zero _), Bel.refl _⟩
  case round =>
    obtain ⟨k, hk, rfl, hno, hb⟩ := hrel
    have HNO := Lib.hid hno; clear hno
    have HO := Lib.hid ((HW.out.alloc _).bel hb)
    have b0 : wr.cell? ⟨w.heap.size, 0, none⟩ = some (.slice (some ⟨be, 0, none⟩) 6 ce) := cell_later hb (by go_simp)
    have b1 : wr.cell? ⟨w.heap.size, 1, none⟩ = some (.slice (some ⟨bs, 0, none⟩) 4 cs) := cell_later hb (by go_simp)
    have hz : w.heap.size < wr.heap.size := hb.past
    have HB := Lib.hid hb; clear hb
    by_cases hlt : k < 6
    · have c0 := HO.out.els k hlt
      go_wp2_with (fail)
      refine (isJoin_at hR ((k : Int) + 1) a b _ _ _ _ _ HO.out).mono ?_
      rintro e w1 ⟨rfl, hb1⟩
      have HB1 := Lib.hid (HB.out.trans hb1)
      clear hb1 HB
      rcases hr : isJ R ((k : Int) + 1) a b with _ | _
      · have HX := Lib.hid (show ∀ j : Nat, j < k + 1 → isJ R ((j : Int) + 1) a b = false by
          intro j hj
          by_cases e : j = k
          · subst e; exact hr
          · exact HNO.out j (by omega))
        clear hr
        go_wp2_with (fail)
        go_roundw
        case rel => exact ⟨k + 1, by omega, by go_num, HX.out, HB1.out⟩
        case measure => simp [intOf]; omega
      · have HX := Lib.hid (find_hit (fun x => isJ R x a b) k hlt HNO.out hr)
        clear hr
        go_wp2_with (fail)
        go_ret2
        exact ⟨ret_ib (by simp only [joinI, HX.out, Option.map_some, Option.getD_some, id]) (by simp only [joinB, HX.out, Option.isSome_some]), ((Bel.refl w).alloc _).trans HB1.out⟩
    · have HX := Lib.hid (find_miss (fun x => isJ R x a b) fun j hj => HNO.out j (by omega))
      go_wp2_with (fail)
      go_ret2
      exact ⟨ret_ib (by simp only [joinI, HX.out, Option.map_none, Option.getD_none]) (by simp only [joinB, HX.out, Option.isSome_none]), ((Bel.refl w).alloc _).trans HB.out⟩

set_option maxHeartbeats 1000000 in
theorem meet_at (a b : Int) (be bs ce cs : Nat) (w : World) (hw : OrdAt w be bs upL) :
    Calls Try.prog 28 #[.agg #[.slice (some ⟨be, 0, none⟩) 6 ce, .slice (some ⟨bs, 0, none⟩) 4 cs], .int .i64 a, .int .i64 b] w fun e w' => e = .returned (.tuple #[.int .i64 (joinI dnB a b), .bool (joinB dnB a b)]) ∧ Bel w w' := by
  have HW := Lib.hid hw; clear hw
  go_enter Try.func28, Try.ntmps28
  go_wp2_with (fail)
  refine (turned_at be bs ce cs _ (HW.out.alloc _)).mono ?_
  rintro e w1 ⟨g, cap, rfl, hb1, ho1⟩
  have HB1 := Lib.hid (((Bel.refl w).alloc _).trans hb1); clear hb1
  have HO1 := Lib.hid ho1; clear ho1
  go_wp2_with (fail)
  refine (join_at dn_ord a b _ _ _ _ _ HO1.out).mono ?_
  rintro e w2 ⟨rfl, hb2⟩
  have HB2 := Lib.hid (HB1.out.trans hb2); clear hb2
  go_wp2_with (fail)
  go_ret2
  exact ⟨rfl, HB2.out⟩

set_option maxHeartbeats 400000 in
theorem Join_any (a b : Int) (w : World) :
    Calls Try.prog 11 #[.int .i64 a, .int .i64 b] w fun e w' => e = .returned (.tuple #[.int .i64 (joinI upB a b), .bool (joinB upB a b)]) ∧ Bel w w' := by
  go_enter Try.func11, Try.ntmps11
  go_wp2_with (fail)
  refine (kinds_any _).mono ?_
  rintro e w1 ⟨rfl, hb, ho⟩
  have HB := Lib.hid hb; clear hb
  have HO := Lib.hid ho; clear ho
  go_wp2_with (fail)
  refine (join_at up_ord a b _ _ _ _ _ HO.out).mono ?_
  rintro e w2 ⟨rfl, hb2⟩
  have HB2 := Lib.hid (HB.out.trans hb2); clear hb2
  go_wp2_with (fail)
  go_ret2
  exact ⟨rfl, HB2.out⟩

set_option maxHeartbeats 400000 in
theorem Meet_any (a b : Int) (w : World) :
    Calls Try.prog 13 #[.int .i64 a, .int .i64 b] w fun e w' => e = .returned (.tuple #[.int .i64 (joinI dnB a b), .bool (joinB dnB a b)]) ∧ Bel w w' := by
  go_enter Try.func13, Try.ntmps13
  go_wp2_with (fail)
  refine (kinds_any _).mono ?_
  rintro e w1 ⟨rfl, hb, ho⟩
  have HB := Lib.hid hb; clear hb
  have HO := Lib.hid ho; clear ho
  go_wp2_with (fail)
  refine (meet_at a b _ _ _ _ _ HO.out).mono ?_
  rintro e w2 ⟨rfl, hb2⟩
  have HB2 := Lib.hid (HB.out.trans hb2); clear hb2
  go_wp2_with (fail)
  go_ret2
  exact ⟨rfl, HB2.out⟩

set_option maxHeartbeats 400000 in
theorem Above_any (a : Int) (w : World) :
    Calls Try.prog 18 #[.int .i64 a] w (Gives intEl w (els.filter (upB a))) := by
  go_enter Try.func18, Try.ntmps18
  go_wp2_with (fail)
  refine (kinds_any _).mono ?_
  rintro e w1 ⟨rfl, hb, ho⟩
  have HB := Lib.hid hb; clear hb
  have HO := Lib.hid ho; clear ho
  go_wp2_with (fail)
  refine (above_at up_ord a _ _ _ _ _ HO.out).mono ?_
  rintro e w2 ⟨v, rfl, hown, hb2⟩
  have HB2 := Lib.hid (HB.out.trans hb2); clear hb2
  have HV := Lib.hid (hown.low HB.out.size); clear hown
  go_wp2_with (fail)
  go_ret
  exact ⟨_, rfl, HV.out, HB2.out⟩
end Go.Proofs.Ytdlbihkollicfaa
