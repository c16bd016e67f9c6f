/- The contracts of moultref2's kind, Below, Join, Meet and Above. -/
import Derived.Test.YtdlbihkollicfaaLat5
set_option linter.unusedSimpArgs false
set_option linter.unusedVariables false
namespace Go.Proofs.Ytdlbihkollicfaa
open Go.RowKit

set_option maxHeartbeats 400000 in
theorem ref_kind_any (a : Int) (w : World) :
    Calls Try.prog 30 #[.int .i64 a] w fun e w' => e = .returned (.bool (kindB a)) ∧ w = w' := by
  by_cases h1 : 1 ≤ a
  · by_cases h2 : a ≤ 6
    · have HX := Lib.hid (show kindB a = true by simp [kindB]; omega)
      go_enter Try.func30, Try.ntmps30
      go_wp2
      go_ret
      exact ⟨ret_bool (by rw [HX.out]), rfl⟩
    · have HX := Lib.hid (show kindB a = false by simp [kindB]; omega)
      go_enter Try.func30, Try.ntmps30
      go_wp2
      go_ret
      exact ⟨ret_bool (by rw [HX.out]), rfl⟩
  · have HX := Lib.hid (show kindB a = false by simp [kindB]; omega)
    go_enter Try.func30, Try.ntmps30
    go_wp2
    go_ret
    exact ⟨ret_bool (by rw [HX.out]), rfl⟩

set_option maxHeartbeats 1000000 in
theorem ref_Below_any (a b : Int) (w : World) :
    Calls Try.prog 16 #[.int .i64 a, .int .i64 b] w fun e w' => e = .returned (.bool (upB a b)) ∧ w = w' := by
  rcases ha : kindB a with _ | _
  · have HA := Lib.hid ha; clear ha
    have HX := Lib.hid (show upB a b = false by have := HA.out; simp [kindB] at this; simp [upB]; omega)
    go_enter Try.func16, Try.ntmps16
    go_wp2_with (fail)
    refine (ref_kind_any a _).mono ?_
    rintro e w1 ⟨rfl, rfl⟩
    rw [HA.out]
    go_wp2_with (fail)
    go_ret
    exact ⟨ret_bool HX.out.symm, rfl⟩
  rcases hb : kindB b with _ | _
  · have HA := Lib.hid ha; clear ha
    have HB := Lib.hid hb; clear hb
    have HX := Lib.hid (show upB a b = false by have := HB.out; simp [kindB] at this; simp [upB]; omega)
    go_enter Try.func16, Try.ntmps16
    go_wp2_with (fail)
    refine (ref_kind_any a _).mono ?_
    rintro e w1 ⟨rfl, rfl⟩
    rw [HA.out]
    go_wp2_with (fail)
    refine (ref_kind_any b _).mono ?_
    rintro e w1 ⟨rfl, rfl⟩
    rw [HB.out]
    go_wp2_with (fail)
    go_ret
    exact ⟨ret_bool HX.out.symm, rfl⟩
  have HA := Lib.hid ha; clear ha
  have HB := Lib.hid hb; clear hb
  have HX := Lib.hid (show upB a b = (decide (a ≤ 4) == decide (b ≤ 4) && decide (a ≤ b)) by
    have h1 := HA.out; have h2 := HB.out; simp [kindB] at h1 h2
    rw [Bool.eq_iff_iff]; simp [upB]; omega)
  by_cases hc : decide (a ≤ 4) = decide (b ≤ 4)
  · have hc' : (decide (a ≤ 4) == decide (b ≤ 4)) = true := by simpa using hc
    have HC := Lib.hid hc; clear hc
    go_enter Try.func16, Try.ntmps16
    go_wp2_with (fail)
    refine (ref_kind_any a _).mono ?_
    rintro e w1 ⟨rfl, rfl⟩
    rw [HA.out]
    go_wp2_with (fail)
    refine (ref_kind_any b _).mono ?_
    rintro e w1 ⟨rfl, rfl⟩
    rw [HB.out]
    go_wp2_with (fail)
    go_ret
    refine ⟨ret_bool ?_, rfl⟩
    rw [HX.out, hc']; simp
  · have hc' : (decide (a ≤ 4) == decide (b ≤ 4)) = false := by simpa using hc
    have HC := Lib.hid hc; clear hc
    go_enter Try.func16, Try.ntmps16
    go_wp2_with (fail)
    refine (ref_kind_any a _).mono ?_
    rintro e w1 ⟨rfl, rfl⟩
    rw [HA.out]
    go_wp2_with (fail)
    refine (ref_kind_any b _).mono ?_
    rintro e w1 ⟨rfl, rfl⟩
    rw [HB.out]
    go_wp2_with (fail)
    go_ret
    refine ⟨ret_bool ?_, rfl⟩
    rw [HX.out, hc']; simp

/-- The first of 1 to 6 that holds, and the last one. -/
def loI (f : Int → Bool) : Int := (els.find? f).getD 0
def hiI (f : Int → Bool) : Int := (els.reverse.find? f).getD 0
theorem findr_hit (f : Int → Bool) (k : Nat) (hk : k < 6) (h0 : ∀ j : Nat, j < k → f (6 - (j : Int)) = false) (h1 : f (6 - (k : Int)) = true) : els.reverse.find? f = some (6 - (k : Int)) := by
  match k, hk with
  | 0, _ => simp at h1; simp [els, h1]
  | 1, _ => have g0 := h0 0 (by omega); simp at h1 g0; simp [els, h1, g0]
  | 2, _ => have g0 := h0 0 (by omega); have g1 := h0 1 (by omega); simp at h1 g0 g1; simp [els, h1, g0, g1]
  | 3, _ => have g0 := h0 0 (by omega); have g1 := h0 1 (by omega); have g2 := h0 2 (by omega); simp at h1 g0 g1 g2; simp [els, h1, g0, g1, g2]
  | 4, _ => have g0 := h0 0 (by omega); have g1 := h0 1 (by omega); have g2 := h0 2 (by omega); have g3 := h0 3 (by omega); simp at h1 g0 g1 g2 g3; simp [els, h1, g0, g1, g2, g3]
  | 5, _ => have g0 := h0 0 (by omega); have g1 := h0 1 (by omega); have g2 := h0 2 (by omega); have g3 := h0 3 (by omega); have g4 := h0 4 (by omega); simp at h1 g0 g1 g2 g3 g4; simp [els, h1, g0, g1, g2, g3, g4]
theorem findr_miss (f : Int → Bool) (h0 : ∀ j : Nat, j < 6 → f (6 - (j : Int)) = false) : els.reverse.find? f = none := by
  have g0 := h0 0 (by omega); have g1 := h0 1 (by omega); have g2 := h0 2 (by omega); have g3 := h0 3 (by omega); have g4 := h0 4 (by omega); have g5 := h0 5 (by omega)
  simp at g0 g1 g2 g3 g4 g5
  simp [els, g0, g1, g2, g3, g4, g5]

def LoRel (f : Int → Bool) (i : Value) : Prop := ∃ k : Nat, k ≤ 6 ∧ i = .int .i64 ((k : Int) + 1) ∧ (∀ j : Nat, j < k → f ((j : Int) + 1) = false)
def HiRel (f : Int → Bool) (i : Value) : Prop := ∃ k : Nat, k ≤ 6 ∧ i = .int .i64 (6 - (k : Int)) ∧ (∀ j : Nat, j < k → f (6 - (j : Int)) = false)

set_option maxHeartbeats 1000000 in
theorem ref_Join_any (a b : Int) (w : World) :
    Calls Try.prog 12 #[.int .i64 a, .int .i64 b] w fun e w' => e = .returned (.tuple #[.int .i64 (loI fun i => upB a i && upB b i), .bool (els.find? fun i => upB a i && upB b i).isSome]) ∧ w = w' := by
  go_enter Try.func12, Try.ntmps12
  go_wp2_with (fail)
  go_loop [6] (fun i => LoRel (fun i => upB a i && upB b i) i) (fun i => 8 - (intOf i).toNat)
  case atStart => exact ⟨0, by omega, rfl, fun j h => absurd h (Nat.not_lt_zero _)⟩
  case round =>
    obtain ⟨k, hk, rfl, hno⟩ := hrel
    have HNO := Lib.hid hno; clear hno
    by_cases hlt : k < 6
    · go_wp2_with (fail)
      refine (ref_Below_any a _ _).mono ?_
      rintro e w1 ⟨rfl, rfl⟩
      go_wp2_with (fail)
      refine (ref_Below_any b _ _).mono ?_
      rintro e w1 ⟨rfl, rfl⟩
      rcases h1 : upB a ((k : Int) + 1) with _ | _
      · have HX := Lib.hid (show ∀ j : Nat, j < k + 1 → (upB a ((j : Int) + 1) && upB b ((j : Int) + 1)) = false by
          intro j hj
          by_cases e : j = k
          · subst e; simp [h1]
          · exact HNO.out j (by omega))
        clear h1
        go_wp2_with (fail)
        go_round
        case rel => exact ⟨k + 1, by omega, by go_num, HX.out⟩
        case measure => simp [intOf]; omega
      · rcases h2 : upB b ((k : Int) + 1) with _ | _
        · have HX := Lib.hid (show ∀ j : Nat, j < k + 1 → (upB a ((j : Int) + 1) && upB b ((j : Int) + 1)) = false by
            intro j hj
            by_cases e : j = k
            · subst e; simp [h2]
            · exact HNO.out j (by omega))
          clear h1 h2
          go_wp2_with (fail)
          go_round
          case rel => exact ⟨k + 1, by omega, by go_num, HX.out⟩
          case measure => simp [intOf]; omega
        · have HX := Lib.hid (find_hit (fun x => upB a x && upB b x) k hlt HNO.out (by simp [h1, h2]))
          clear h1 h2
          go_wp2_with (fail)
          go_ret2
          exact ⟨ret_ib (by simp only [loI, HX.out, Option.getD_some]) (by simp only [HX.out, Option.isSome_some]), rfl⟩
    · have HX := Lib.hid (find_miss (fun x => upB a x && upB b x) fun j hj => HNO.out j (by omega))
      have e : k = 6 := by omega
      subst e
      go_wp2_with (fail)
      go_ret2
      exact ⟨ret_ib (by simp only [loI, HX.out, Option.getD_none]) (by simp only [HX.out, Option.isSome_none]), rfl⟩

set_option maxHeartbeats 1000000 in
theorem ref_Meet_any (a b : Int) (w : World) :
    Calls Try.prog 14 #[.int .i64 a, .int .i64 b] w fun e w' => e = .returned (.tuple #[.int .i64 (hiI fun i => upB i a && upB i b), .bool (els.reverse.find? fun i => upB i a && upB i b).isSome]) ∧ w = w' := by
  go_enter Try.func14, Try.ntmps14
  go_wp2_with (fail)
  go_loop [6] (fun i => HiRel (fun i => upB i a && upB i b) i) (fun i => (intOf i).toNat)
  case atStart => exact ⟨0, by omega, rfl, fun j h => absurd h (Nat.not_lt_zero _)⟩
  case round =>
    obtain ⟨k, hk, rfl, hno⟩ := hrel
    have HNO := Lib.hid hno; clear hno
    by_cases hlt : k < 6
    · have hi1 : (1 : Int) ≤ 6 - (k : Int) := by omega
      go_wp2_with (fail)
      refine (ref_Below_any _ a _).mono ?_
      rintro e w1 ⟨rfl, rfl⟩
      go_wp2_with (fail)
      refine (ref_Below_any _ b _).mono ?_
      rintro e w1 ⟨rfl, rfl⟩
      rcases h1 : upB (6 - (k : Int)) a with _ | _
      · have HX := Lib.hid (show ∀ j : Nat, j < k + 1 → (upB (6 - (j : Int)) a && upB (6 - (j : Int)) b) = false by
          intro j hj
          by_cases e : j = k
          · subst e; simp [h1]
          · exact HNO.out j (by omega))
        clear h1
        go_wp2_with (fail)
        go_round
        case rel => exact ⟨k + 1, by omega, by go_num, HX.out⟩
        case measure => simp [intOf]; omega
      · rcases h2 : upB (6 - (k : Int)) b with _ | _
        · have HX := Lib.hid (show ∀ j : Nat, j < k + 1 → (upB (6 - (j : Int)) a && upB (6 - (j : Int)) b) = false by
            intro j hj
            by_cases e : j = k
            · subst e; simp [h2]
            · exact HNO.out j (by omega))
          clear h1 h2
          go_wp2_with (fail)
          go_round
          case rel => exact ⟨k + 1, by omega, by go_num, HX.out⟩
          case measure => simp [intOf]; omega
        · have HX := Lib.hid (findr_hit (fun x => upB x a && upB x b) k hlt HNO.out (by simp [h1, h2]))
          clear h1 h2
          go_wp2_with (fail)
          go_ret2
          exact ⟨ret_ib (by simp only [hiI, HX.out, Option.getD_some]) (by simp only [HX.out, Option.isSome_some]), rfl⟩
    · have HX := Lib.hid (findr_miss (fun x => upB x a && upB x b) fun j hj => HNO.out j (by omega))
      have e : k = 6 := by omega
      subst e
      go_wp2_with (fail)
      go_ret2
      exact ⟨ret_ib (by simp only [hiI, HX.out, Option.getD_none]) (by simp only [HX.out, Option.isSome_none]), rfl⟩

def RARel (R : Int → Bool) (w : World) (v i : Value) (x : World) : Prop :=
  ∃ k : Nat, k ≤ 6 ∧ i = .int .i64 ((k : Int) + 1) ∧ OwnG intEl w.heap.size x v ((els.take k).filter R) ∧ Bel w x

set_option maxHeartbeats 1000000 in
theorem ref_Above_any (a : Int) (w : World) :
    Calls Try.prog 19 #[.int .i64 a] w (Gives intEl w (els.filter (upB a))) := by
  go_enter Try.func19, Try.ntmps19
  go_wp2_with (fail)
  go_loopw [3, 4] (fun v i x => RARel (upB a) w v i x) (fun _ i _ => 8 - (intOf i).toNat)
  case atStart => exact ⟨0, by omega, rfl, OwnG.nil _ _ _, Bel.refl _⟩
  case round =>
    obtain ⟨k, hk, rfl, hown, hb⟩ := hrel
    have HV := Lib.hid hown; clear hown
    have HB := Lib.hid hb; clear hb
    have hlen := filt_len els k (upB a)
    by_cases hlt : k < 6
    · go_wp2_with (fail)
      refine (ref_Below_any a _ _).mono ?_
      rintro e w1 ⟨rfl, rfl⟩
      rcases hr : upB a ((k : Int) + 1) with _ | _
      · have HX := Lib.hid (filt_no (upB a) (els_at hlt) hr)
        clear hr
        go_wp2_with (fail)
        go_roundw
        case rel => exact ⟨k + 1, by omega, by go_num, by rw [HX.out]; exact HV.out, HB.out⟩
        case measure => simp [intOf]; omega
      · have HX := Lib.hid (filt_yes (upB a) (els_at hlt) hr)
        clear hr
        go_wp2_with (at_builtin; refine stop_here ?_)
        refine go_on ?_
        refine append_glit intOk rfl _ _ rfl rfl HV.out _ _ _ [(k : Int) + 1] rfl rfl rfl (by simp [maxLen]; omega) (by simp; omega) HB.out.size (Or.inl rfl) ?_
        intro v2 w2 hown2 hbel2 hZ2
        have HV2 := Lib.hid hown2
        have HB2 := Lib.hid (HB.out.trans_below hbel2)
        clear hown2 hbel2
        go_wp2_with (fail)
        go_roundw
        case rel => exact ⟨k + 1, by omega, by go_num, by rw [HX.out]; exact HV2.out, HB2.out⟩
        case measure => simp [intOf]; omega
    · have HX := Lib.hid (show els.take k = els from List.take_of_length_le (by simp [els]; omega))
      have e : k = 6 := by omega
      subst e
      go_wp2_with (fail)
      go_ret
      refine ⟨_, rfl, ?_, HB.out⟩
      rw [← HX.out]
      exact HV.out
end Go.Proofs.Ytdlbihkollicfaa
