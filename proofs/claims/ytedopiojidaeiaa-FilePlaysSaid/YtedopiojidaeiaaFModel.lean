/- moultlaw6's model: does, with the reference's files. -/
import Derived.Test.YtedopiojidaeiaaFTwo
set_option linter.unusedSimpArgs false
set_option linter.unusedVariables false
namespace Go.Proofs.Ytedopiojidaeiaa
open Go.RowKit Go.Deep Go.Maps

set_option maxHeartbeats 4000000 in
theorem model_any (n₀ : Nat) (w : World) (b : Nat) (M : RS) (F : List Nat) (a : AV) (h : RefP n₀ w b M F) (hM : M.ok) (ha : AV.ok w a) (hs : AV.small a = true) (hout : ArgOut F a) :
    Calls Try.prog 12 #[.pointer (some ⟨b, 0, none⟩), actV a] w fun e w' => e = .returned (.tuple #[.string ⟨(doS a M).1.1.toArray⟩, .int .i64 (doS a M).1.2]) ∧ RefTo n₀ w w' b (doS a M).2 F := by
  obtain ⟨s1, s2, s3, s4, s5⟩ := small_of hs
  have HP := Lib.hid h
  have HM := Lib.hid hM
  have HA := Lib.hid ha
  have HO := Lib.hid hout
  have W1 := Lib.hid ((Bel.refl w).alloc (.cells #[.int .i64 a.op, .int .i64 a.n, .string a.name, .string a.to, .string a.data, a.left.val, a.spoil.val] 39))
  have hlt := pickN_lt a.op (n := 10) (by omega)
  clear h hM ha hout hs
  unfold actV
  rcases (show pickN a.op 10 = 3 ∨ pickN a.op 10 = 4 ∨ pickN a.op 10 = 5 ∨ pickN a.op 10 = 6 ∨ pickN a.op 10 = 7 ∨ pickN a.op 10 = 8 ∨ pickN a.op 10 = 9 ∨ pickN a.op 10 = 0 ∨ pickN a.op 10 = 1 ∨ pickN a.op 10 = 2 by omega) with hp | hp | hp | hp | hp | hp | hp | hp | hp | hp
  · have HD := Lib.hid (show doS a M = (([], (flushS a.name.data.toList M).1), (flushS a.name.data.toList M).2) by unfold doS; rw [if_pos hp])
    have HK := Lib.hid hp
    clear hp hlt
    unfold SI.val at *
    go_enter Try.func12, Try.ntmps12
    go_wp2_with (first
      | (go_at_call 8; refine (pick_at _ _ 10 _ HA.out.op (by omega) (by omega) rfl).mono ?_; rintro e w' ⟨rfl, rfl⟩; rw [HK.out])
      | (go_at_call 31; refine (rflush_any n₀ _ b M F a.name (HP.out.bel W1.out) HM.out).mono ?_; rintro e w' ⟨rfl, hq⟩; have HQ := Lib.hid hq; clear hq))
    go_ret2
    rw [HD.out]
    exact ⟨rfl, HQ.out.before W1.out⟩
  · have HD := Lib.hid (show doS a M = (([], (cutS a.name.data.toList a.n M).1), (cutS a.name.data.toList a.n M).2) by unfold doS; rw [if_neg (by omega)]; rw [if_pos hp])
    have HK := Lib.hid hp
    clear hp hlt
    unfold SI.val at *
    go_enter Try.func12, Try.ntmps12
    go_wp2_with (first
      | (go_at_call 8; refine (pick_at _ _ 10 _ HA.out.op (by omega) (by omega) rfl).mono ?_; rintro e w' ⟨rfl, rfl⟩; rw [HK.out])
      | (go_at_call 32; refine (rcut_any n₀ _ b M F a.name a.n HA.out.n (HP.out.bel W1.out) HM.out).mono ?_; rintro e w' ⟨rfl, hq⟩; have HQ := Lib.hid hq; clear hq))
    go_ret2
    rw [HD.out]
    exact ⟨rfl, HQ.out.before W1.out⟩
  · have HD := Lib.hid (show doS a M = (([], (moveS a.name.data.toList a.to.data.toList M).1), (moveS a.name.data.toList a.to.data.toList M).2) by unfold doS; rw [if_neg (by omega)]; rw [if_neg (by omega)]; rw [if_pos hp])
    have HK := Lib.hid hp
    clear hp hlt
    unfold SI.val at *
    go_enter Try.func12, Try.ntmps12
    go_wp2_with (first
      | (go_at_call 8; refine (pick_at _ _ 10 _ HA.out.op (by omega) (by omega) rfl).mono ?_; rintro e w' ⟨rfl, rfl⟩; rw [HK.out])
      | (go_at_call 33; refine (rmove_any n₀ _ b M F a.name a.to (len_ok s3 (by omega)) (HP.out.bel W1.out) HM.out).mono ?_; rintro e w' ⟨rfl, hq⟩; have HQ := Lib.hid hq; clear hq))
    go_ret2
    rw [HD.out]
    exact ⟨rfl, HQ.out.before W1.out⟩
  · have HD := Lib.hid (show doS a M = (([], (dropS a.name.data.toList M).1), (dropS a.name.data.toList M).2) by unfold doS; rw [if_neg (by omega)]; rw [if_neg (by omega)]; rw [if_neg (by omega)]; rw [if_pos hp])
    have HK := Lib.hid hp
    clear hp hlt
    unfold SI.val at *
    go_enter Try.func12, Try.ntmps12
    go_wp2_with (first
      | (go_at_call 8; refine (pick_at _ _ 10 _ HA.out.op (by omega) (by omega) rfl).mono ?_; rintro e w' ⟨rfl, rfl⟩; rw [HK.out])
      | (go_at_call 34; refine (rdrop_any n₀ _ b M F a.name (HP.out.bel W1.out) HM.out).mono ?_; rintro e w' ⟨rfl, hq⟩; have HQ := Lib.hid hq; clear hq))
    go_ret2
    rw [HD.out]
    exact ⟨rfl, HQ.out.before W1.out⟩
  · have HD := Lib.hid (show doS a M = (getS a.name.data.toList M, M) by unfold doS; rw [if_neg (by omega)]; rw [if_neg (by omega)]; rw [if_neg (by omega)]; rw [if_neg (by omega)]; rw [if_pos hp])
    have HK := Lib.hid hp
    clear hp hlt
    unfold SI.val at *
    go_enter Try.func12, Try.ntmps12
    go_wp2_with (first
      | (go_at_call 8; refine (pick_at _ _ 10 _ HA.out.op (by omega) (by omega) rfl).mono ?_; rintro e w' ⟨rfl, rfl⟩; rw [HK.out])
      | (go_at_call 35; refine (rget_ref (HP.out.bel W1.out) HM.out a.name).mono ?_; rintro e w' ⟨rfl, hq⟩; have HQ := Lib.hid hq; clear hq))
    go_ret2
    rw [HD.out]
    exact ⟨rfl, HP.out.to (W1.out.trans HQ.out)⟩
  · have HD := Lib.hid (show doS a M = (([], 0), limS a.n M) by unfold doS; rw [if_neg (by omega)]; rw [if_neg (by omega)]; rw [if_neg (by omega)]; rw [if_neg (by omega)]; rw [if_neg (by omega)]; rw [if_pos hp])
    have HK := Lib.hid hp
    clear hp hlt
    unfold SI.val at *
    go_enter Try.func12, Try.ntmps12
    go_wp2_with (first
      | (go_at_call 8; refine (pick_at _ _ 10 _ HA.out.op (by omega) (by omega) rfl).mono ?_; rintro e w' ⟨rfl, rfl⟩; rw [HK.out])
      | (go_at_call 36; refine (rlimit_ref (HP.out.bel W1.out) a.n).mono ?_; rintro e w' ⟨⟨u, rfl⟩, hq⟩; have HQ := Lib.hid hq; clear hq))
    go_ret2
    rw [HD.out]
    exact ⟨rfl, HQ.out.before W1.out⟩
  · have HD := Lib.hid (show doS a M = (([], 0), crashS a.left.L a.spoil.L M) by unfold doS; rw [if_neg (by omega)]; rw [if_neg (by omega)]; rw [if_neg (by omega)]; rw [if_neg (by omega)]; rw [if_neg (by omega)]; rw [if_neg (by omega)]; rw [if_pos hp])
    have HK := Lib.hid hp
    clear hp hlt
    unfold SI.val at *
    go_enter Try.func12, Try.ntmps12
    go_wp2_with (first
      | (go_at_call 8; refine (pick_at _ _ 10 _ HA.out.op (by omega) (by omega) rfl).mono ?_; rintro e w' ⟨rfl, rfl⟩; rw [HK.out])
      | (go_at_call 37; refine (rcrash_any n₀ _ b M F a.left a.spoil (HP.out.bel W1.out) HM.out (HA.out.left.bel W1.out) (HA.out.spoil.bel W1.out) HO.out.left HO.out.spoil).mono ?_; rintro e w' ⟨⟨u, rfl⟩, hq⟩; have HQ := Lib.hid hq; clear hq))
    go_ret2
    rw [HD.out]
    exact ⟨rfl, HQ.out.before W1.out⟩
  · have HD := Lib.hid (show doS a M = (([], (addS a.name.data.toList a.data.data.toList M).1), (addS a.name.data.toList a.data.data.toList M).2) by unfold doS; rw [if_neg (by omega)]; rw [if_neg (by omega)]; rw [if_neg (by omega)]; rw [if_neg (by omega)]; rw [if_neg (by omega)]; rw [if_neg (by omega)]; rw [if_neg (by omega)]; skip)
    have HK := Lib.hid hp
    clear hp hlt
    unfold SI.val at *
    go_enter Try.func12, Try.ntmps12
    go_wp2_with (first
      | (go_at_call 8; refine (pick_at _ _ 10 _ HA.out.op (by omega) (by omega) rfl).mono ?_; rintro e w' ⟨rfl, rfl⟩; rw [HK.out])
      | (go_at_call 10; refine (radd_any n₀ _ b M F a.name a.data (len_k s2) (len_k s1) (HP.out.bel W1.out) HM.out).mono ?_; rintro e w' ⟨rfl, hq⟩; have HQ := Lib.hid hq; clear hq))
    go_ret2
    rw [HD.out]
    exact ⟨rfl, HQ.out.before W1.out⟩
  · have HD := Lib.hid (show doS a M = (([], (addS a.name.data.toList a.data.data.toList M).1), (addS a.name.data.toList a.data.data.toList M).2) by unfold doS; rw [if_neg (by omega)]; rw [if_neg (by omega)]; rw [if_neg (by omega)]; rw [if_neg (by omega)]; rw [if_neg (by omega)]; rw [if_neg (by omega)]; rw [if_neg (by omega)]; skip)
    have HK := Lib.hid hp
    clear hp hlt
    unfold SI.val at *
    go_enter Try.func12, Try.ntmps12
    go_wp2_with (first
      | (go_at_call 8; refine (pick_at _ _ 10 _ HA.out.op (by omega) (by omega) rfl).mono ?_; rintro e w' ⟨rfl, rfl⟩; rw [HK.out])
      | (go_at_call 10; refine (radd_any n₀ _ b M F a.name a.data (len_k s2) (len_k s1) (HP.out.bel W1.out) HM.out).mono ?_; rintro e w' ⟨rfl, hq⟩; have HQ := Lib.hid hq; clear hq))
    go_ret2
    rw [HD.out]
    exact ⟨rfl, HQ.out.before W1.out⟩
  · have HD := Lib.hid (show doS a M = (([], (addS a.name.data.toList a.data.data.toList M).1), (addS a.name.data.toList a.data.data.toList M).2) by unfold doS; rw [if_neg (by omega)]; rw [if_neg (by omega)]; rw [if_neg (by omega)]; rw [if_neg (by omega)]; rw [if_neg (by omega)]; rw [if_neg (by omega)]; rw [if_neg (by omega)]; skip)
    have HK := Lib.hid hp
    clear hp hlt
    unfold SI.val at *
    go_enter Try.func12, Try.ntmps12
    go_wp2_with (first
      | (go_at_call 8; refine (pick_at _ _ 10 _ HA.out.op (by omega) (by omega) rfl).mono ?_; rintro e w' ⟨rfl, rfl⟩; rw [HK.out])
      | (go_at_call 10; refine (radd_any n₀ _ b M F a.name a.data (len_k s2) (len_k s1) (HP.out.bel W1.out) HM.out).mono ?_; rintro e w' ⟨rfl, hq⟩; have HQ := Lib.hid hq; clear hq))
    go_ret2
    rw [HD.out]
    exact ⟨rfl, HQ.out.before W1.out⟩
end Go.Proofs.Ytedopiojidaeiaa
