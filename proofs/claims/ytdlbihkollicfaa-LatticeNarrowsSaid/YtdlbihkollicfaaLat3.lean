/- The contracts of above and turned. -/
import Derived.Test.YtdlbihkollicfaaLat2
import Derived.Test.YtdlbihkollicfaaOwnG
import Derived.Deep.RegionHeld3
set_option linter.unusedSimpArgs false
set_option linter.unusedVariables false
namespace Go.Proofs.Ytdlbihkollicfaa
open Go.RowKit

def intEl : El Int := ⟨3, 27, 1, fun i => [.int .i64 i]⟩
theorem intOk : ElOk intEl 8 := ⟨fun _ => rfl, fun a u hu => by simp [intEl] at hu; subst hu; rfl, by kernel_rfl, ⟨.int .i64 0, by kernel_rfl, rfl⟩, by decide⟩
def stepEl : El (Int × Int) := ⟨48, 40, 2, fun p => [.int .i64 p.1, .int .i64 p.2]⟩
theorem stepOk : ElOk stepEl 16 := ⟨fun _ => rfl, fun a u hu => by simp [stepEl] at hu; rcases hu with rfl | rfl <;> rfl, by kernel_rfl, ⟨.agg #[.int .i64 0, .int .i64 0], by kernel_rfl, rfl⟩, by decide⟩

def els : List Int := [1, 2, 3, 4, 5, 6]
theorem els_at {k : Nat} (h : k < 6) : els[k]? = some ((k : Int) + 1) := by
  match k, h with
  | 0, _ => rfl
  | 1, _ => rfl
  | 2, _ => rfl
  | 3, _ => rfl
  | 4, _ => rfl
  | 5, _ => rfl
theorem filt_yes {α : Type} {l : List α} {k : Nat} {x : α} (f : α → Bool) (h : l[k]? = some x) (h1 : f x = true) : (l.take (k + 1)).filter f = (l.take k).filter f ++ [x] := by
  rw [List.take_add_one, h, List.filter_append]; simp [h1]
theorem filt_no {α : Type} {l : List α} {k : Nat} {x : α} (f : α → Bool) (h : l[k]? = some x) (h1 : f x = false) : (l.take (k + 1)).filter f = (l.take k).filter f := by
  rw [List.take_add_one, h, List.filter_append]; simp [h1]
theorem filt_len {α : Type} (l : List α) (k : Nat) (f : α → Bool) : ((l.take k).filter f).length ≤ k := Nat.le_trans (List.length_filter_le _ _) (List.length_take_le _ _)

/-- The call hands out a new slice that holds L. -/
def Gives {α : Type} (E : El α) (w : World) (L : List α) (e : Ending) (w' : World) : Prop := ∃ v, e = .returned v ∧ OwnG E w.heap.size w' v L ∧ Bel w w'

def ARel (R : Int → Bool) (w0 : World) (v i : Value) (x : World) : Prop :=
  ∃ k : Nat, k ≤ 6 ∧ i = .int .i64 k ∧ OwnG intEl w0.heap.size x v ((els.take k).filter R) ∧ Bel w0 x

set_option maxHeartbeats 1000000 in
theorem above_at {l : List (Int × Int)} {R : Int → Int → Bool} {rank : Int → Nat} (hR : OrdR l R rank) (a : Int) (be bs ce cs : Nat) (w : World) (hw : OrdAt w be bs l) :
    Calls Try.prog 31 #[.agg #[.slice (some ⟨be, 0, none⟩) 6 ce, .slice (some ⟨bs, 0, none⟩) 4 cs], .int .i64 a] w (Gives intEl w (els.filter (R a))) := by
  have HW := Lib.hid hw; clear hw
  go_enter Try.func31, Try.ntmps31
  go_wp2_with (fail)
  go_loopw [5, 11] (fun v i x => ARel (R a) (w.alloc (.cells #[.slice (some ⟨be, 0, none⟩) 6 ce, .slice (some ⟨bs, 0, none⟩) 4 cs] 42)) v i x) (fun _ i _ => 6 - (intOf i).toNat)
  case atStart => exact ⟨0, by omega, rfl, OwnG.nil _ _ _, Bel.refl _⟩
  case round =>
    obtain ⟨k, hk, rfl, hown, hb⟩ := hrel
    have HO := Lib.hid ((HW.out.alloc _).bel hb)
    have HV := Lib.hid hown; clear hown
    have b0 : wr.cell? ⟨w.heap.size, 0, none⟩ = some (.slice (some ⟨be, 0, none⟩) 6 ce) := cell_later hb (by go_simp)
    have b1 : wr.cell? ⟨w.heap.size, 1, none⟩ = some (.slice (some ⟨bs, 0, none⟩) 4 cs) := cell_later hb (by go_simp)
    have hz : w.heap.size < wr.heap.size := hb.past
    have HB := Lib.hid hb; clear hb
    by_cases hlt : k < 6
    · have c0 := HO.out.els k hlt
      go_wp2_with (fail)
      refine (below_at hR a ((k : Int) + 1) _ _ _ _ _ HO.out).mono ?_
      rintro e w1 ⟨rfl, hb1⟩
      have HB1 := Lib.hid (HB.out.trans hb1)
      have HV1 := Lib.hid (HV.out.bel hb1)
      clear hb1 HB HV
      have hlen := filt_len els k (R a)
      rcases hr : R a ((k : Int) + 1) with _ | _
      · have HX := Lib.hid (filt_no (R a) (els_at hlt) hr)
        clear hr
        go_wp2_with (fail)
        go_roundw
        case rel => exact ⟨k + 1, by omega, by go_num, by rw [HX.out]; exact HV1.out, HB1.out⟩
        case measure => simp [intOf]; omega
      · have HX := Lib.hid (filt_yes (R a) (els_at hlt) hr)
        clear hr
        go_wp2_with (at_builtin; refine stop_here ?_)
        refine go_on ?_
        refine append_glit intOk rfl _ _ rfl rfl HV1.out _ _ _ [(k : Int) + 1] rfl rfl rfl (by simp [maxLen]; omega) (by simp; omega) HB1.out.size (Or.inl rfl) ?_
        intro v2 w2 hown2 hbel2 hZ2
        have HV2 := Lib.hid hown2
        have HB2 := Lib.hid (HB1.out.trans_below hbel2)
        clear hown2 hbel2
        go_wp2_with (fail)
        go_roundw
        case rel => exact ⟨k + 1, by omega, by go_num, by rw [HX.out]; exact HV2.out, HB2.out⟩
        case measure => simp [intOf]; omega
    · have HX := Lib.hid (show els.take k = els from List.take_of_length_le (by simp [els]; omega))
      go_wp2
      go_ret
      refine ⟨_, rfl, ?_, ((Bel.refl w).alloc _).trans HB.out⟩
      rw [← HX.out]
      exact HV.out.low (by simp)

/-- The order upside down: the same elements, steps of its own. -/
def Turned (w : World) (be ce : Nat) (e : Ending) (w' : World) : Prop := ∃ g cap, e = .returned (.agg #[.slice (some ⟨be, 0, none⟩) 6 ce, .slice (some ⟨g, 0, none⟩) 4 cap]) ∧ Bel w w' ∧ OrdAt w' be g dnL

def TRel (w : World) (be ce bs cs : Nat) (i : Value) (x : World) : Prop :=
  ∃ (k : Nat) (v : Value), k ≤ 4 ∧ i = .int .i64 k ∧ OwnG stepEl (w.heap.size + 3) x v (dnL.take k) ∧ x.cell? ⟨w.heap.size, 0, none⟩ = some (.slice (some ⟨be, 0, none⟩) 6 ce) ∧ x.cell? ⟨w.heap.size, 1, none⟩ = some (.slice (some ⟨bs, 0, none⟩) 4 cs) ∧ x.cell? ⟨w.heap.size + 1 + 1, 0, none⟩ = some (.slice (some ⟨be, 0, none⟩) 6 ce) ∧ x.cell? ⟨w.heap.size + 1 + 1, 1, none⟩ = some v ∧ Bel w x ∧ w.heap.size + 3 ≤ x.heap.size ∧
    x.cell? ⟨w.heap.size + 1, 0, none⟩ = some (.slice none 0 0) ∧ x.cell? ⟨w.heap.size + 1, 1, none⟩ = some (.slice none 0 0) ∧
    x.frozen? ⟨w.heap.size + 1, 0, none⟩ = false ∧ x.frozen? ⟨w.heap.size + 1, 1, none⟩ = false ∧ x.frozen? ⟨w.heap.size + 1 + 1, 1, none⟩ = false

set_option maxHeartbeats 1000000 in
theorem turned_at (be bs ce cs : Nat) (w : World) (hw : OrdAt w be bs upL) :
    Calls Try.prog 36 #[.agg #[.slice (some ⟨be, 0, none⟩) 6 ce, .slice (some ⟨bs, 0, none⟩) 4 cs]] w (Turned w be ce) := by
  have HW := Lib.hid hw; clear hw
  go_enter Try.func36, Try.ntmps36
  go_wp2_with (fail)
  go_loopw [12] (fun i x => TRel w be ce bs cs i x) (fun i _ => 4 - (intOf i).toNat)
  case atStart => exact ⟨0, _, by omega, rfl, OwnG.nil _ _ _, by go_simp, by go_simp, by go_simp, by go_simp, ((((Bel.refl w).alloc _).alloc _).alloc _), by simp, by go_simp, by go_simp, by go_simp, by go_simp, by go_simp⟩
  case round =>
    obtain ⟨k, v, hk, rfl, hown, b0, b1, t0, t1, hb, hz, r0, r1, f0, f1, f2⟩ := hrel
    have HO := Lib.hid (HW.out.bel hb)
    have HV := Lib.hid hown; clear hown
    have HB := Lib.hid hb; clear hb
    have z0 : w.heap.size < wr.heap.size := by omega
    have z2 : w.heap.size + 1 + 1 < wr.heap.size := by omega
    by_cases hlt : k < 4
    · obtain ⟨⟨lo, hi⟩, hp⟩ : ∃ p, upL[k]? = some p := ⟨upL[k]'(show k < upL.length from hlt), List.getElem?_eq_getElem _⟩
      obtain ⟨c0, c1⟩ := HO.out.steps k _ hp
      simp only at c0 c1
      have HP := Lib.hid (show dnL.take (k + 1) = dnL.take k ++ [(hi, lo)] by
        match k, hlt, hp with
        | 0, _, hp => simp [upL] at hp; obtain ⟨rfl, rfl⟩ := hp; rfl
        | 1, _, hp => simp [upL] at hp; obtain ⟨rfl, rfl⟩ := hp; rfl
        | 2, _, hp => simp [upL] at hp; obtain ⟨rfl, rfl⟩ := hp; rfl
        | 3, _, hp => simp [upL] at hp; obtain ⟨rfl, rfl⟩ := hp; rfl)
      clear hp
      have hlen : (dnL.take k).length ≤ k := List.length_take_le _ _
      go_wp2_with (at_builtin; refine stop_here ?_)
      refine go_on ?_
      refine append_glit stepOk rfl _ _ rfl rfl (HV.out.alloc _) _ _ _ [(hi, lo)] (by simp [Act.eval]; first | rfl | exact ⟨rfl, rfl⟩) rfl rfl (by simp [maxLen]; omega) (by simp; omega) (by simp; omega) (Or.inl rfl) ?_
      intro v2 w2 hown2 hbel2 hZ2
      obtain ⟨p2, cap2, hv2⟩ := ownG_len hown2
      rw [show (dnL.take k ++ [(hi, lo)]).length = k + 1 by simp [dnL]; omega] at hv2
      subst hv2
      rw [← HP.out] at hown2
      have hu : ∀ b o, b < w.heap.size + 3 → w2.cell? ⟨b, o, none⟩ = wr.cell? ⟨b, o, none⟩ := fun b o h => (hbel2.cell (p := ⟨b, o, none⟩) h).trans (World.cell?_alloc_past _ b o (by omega))
      have hfu : ∀ b o, b < w.heap.size + 3 → w2.frozen? ⟨b, o, none⟩ = wr.frozen? ⟨b, o, none⟩ := fun b o h => (hbel2.frozen (p := ⟨b, o, none⟩) h).trans (World.frozen?_alloc_past _ b o (by omega))
      have b0' := (hu _ 0 (by omega)).trans b0
      have b1' := (hu _ 1 (by omega)).trans b1
      have t0' := (hu _ 0 (by omega)).trans t0
      have t1' := (hu _ 1 (by omega)).trans t1
      have r0' := (hu _ 0 (by omega)).trans r0
      have r1' := (hu _ 1 (by omega)).trans r1
      have f0' := (hfu _ 0 (by omega)).trans f0
      have f1' := (hfu _ 1 (by omega)).trans f1
      have f2' := (hfu _ 1 (by omega)).trans f2
      have HB2 := Lib.hid (show Bel w w2 from Below.trans (HB.out.alloc _) (Below.mono hbel2 (by omega)))
      have HV2 := Lib.hid hown2
      clear hu hfu hown2 hbel2 b0 b1 t0 t1 r0 r1 f0 f1 f2 HV HB
      go_wp2_with (fail)
      go_roundw
      case rel =>
        refine ⟨k + 1, _, by omega, by go_num, HV2.out.setCell (by simp) _, by go_simp, by go_simp, by go_simp, by go_simp, HB2.out.setCell (by simp; omega) _, by go_simp, by go_simp, by go_simp, by go_simp, by go_simp, by go_simp⟩
      case measure => simp [intOf]; omega
    · have e : k = 4 := by omega
      subst e
      obtain ⟨g, cap, rfl, hg, hgl, _, hcs⟩ := ownG_cells stepOk HV.out (by decide)
      have HC := Lib.hid hcs
      clear hcs HV
      have e4 : (List.take 4 dnL).length = 4 := rfl
      rw [e4] at t1
      go_wp2_with (fail)
      obtain ⟨X, hX⟩ : ∃ X, X = ((wr.setCell ⟨w.heap.size + 1, 0, none⟩ (.slice (some ⟨be, 0, none⟩) 6 ce)).setCell ⟨w.heap.size + 1, 1, none⟩ (.slice (some ⟨g, 0, none⟩) 4 cap)) := ⟨_, rfl⟩
      have q0 : X.cell? ⟨w.heap.size + 1, 0, none⟩ = some (.slice (some ⟨be, 0, none⟩) 6 ce) := by rw [hX]; go_simp
      have q1 : X.cell? ⟨w.heap.size + 1, 1, none⟩ = some (.slice (some ⟨g, 0, none⟩) 4 cap) := by rw [hX]; go_simp
      have HX := Lib.hid (show Bel w X by rw [hX]; exact (HB.out.setCell (by simp) _).setCell (by simp) _)
      have hfar : ∀ o, X.cell? ⟨g, o, none⟩ = wr.cell? ⟨g, o, none⟩ := by
        intro o
        rw [hX, World.cell?_setCell_far _ _ _ _ (by simp; omega), World.cell?_setCell_far _ _ _ _ (by simp; omega)]
      have HXC := Lib.hid (show OrdAt X be g dnL by
        have h1 := HW.out.bel HX.out
        refine ⟨h1.els, fun j p hp => ⟨?_, ?_⟩, h1.hbe, by rw [hX]; simpa using hgl⟩
        · rw [hfar]; exact HC.out j p hp 0 _ rfl
        · rw [hfar]; exact HC.out j p hp 1 _ rfl)
      clear hfar
      rw [← hX]
      clear hX
      refine bodyPost_ret (v := .agg #[.slice (some ⟨be, 0, none⟩) 6 ce, .slice (some ⟨g, 0, none⟩) 4 cap]) (by simp [results, Try.results36, go_sem, q0, q1]) rfl ⟨g, cap, rfl, HX.out, HXC.out⟩
end Go.Proofs.Ytdlbihkollicfaa
