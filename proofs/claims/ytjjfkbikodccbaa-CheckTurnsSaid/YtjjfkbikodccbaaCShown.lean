/- moultlaw5's pick and same; shown: chapter 5's examples come out as they should. -/
import Derived.Test.YtjjfkbikodccbaaCScan
set_option linter.unusedSimpArgs false
set_option linter.unusedVariables false
namespace Go.Proofs.Ytjjfkbikodccbaa
open Go.RowKit Go.Deep

/-- Which of n things the raw number c speaks of. -/
def pickN (c : Int) (n : Nat) : Nat := if c < 0 then (-(c + 1)).toNat % n else c.toNat % n
theorem pickN_lt (c : Int) {n : Nat} (h : 0 < n) : pickN c n < n := by unfold pickN; split <;> exact Nat.mod_lt _ h
theorem pick_same (c : Int) (n : Nat) (w : World) (hc : -9223372036854775808 ≤ c ∧ c ≤ 9223372036854775807) (hn : 0 < n) (hn2 : n ≤ 1000000) :
    Calls Try.prog 14 #[.int .i64 c, .int .i64 n] w fun e w' => e = .returned (.int .i64 (pickN c n : Nat)) ∧ w' = w := by
  obtain ⟨hc1, hc2⟩ := hc
  have hz : ((n : Int) == 0) = false := by rw [beq_eq_false_iff_ne]; omega
  have hz2 : ¬ n = 0 := by omega
  by_cases h : c < 0
  · obtain ⟨m, hm⟩ : ∃ m : Nat, -(c + 1) = m := ⟨(-(c + 1)).toNat, by omega⟩
    have HP := Lib.hid (show ((pickN c n : Nat) : Int) = -((c + 1).tmod (n : Int)) by
      unfold pickN
      rw [if_pos h, ← Int.neg_tmod, hm, Int.toNat_natCast, Int.tmod_eq_emod_of_nonneg (by omega), Int.natCast_emod])
    clear hm
    go_enter Try.func14, Try.ntmps14
    go_wp2
    go_ret
    exact ⟨ret_int (by rw [HP.out]), rfl⟩
  · obtain ⟨m, rfl⟩ : ∃ m : Nat, c = m := ⟨c.toNat, by omega⟩
    have HP := Lib.hid (show ((pickN m n : Nat) : Int) = (m : Int) % (n : Int) by
      unfold pickN
      rw [if_neg h, Int.toNat_natCast, Int.natCast_emod])
    go_enter Try.func14, Try.ntmps14
    go_wp2
    go_ret
    exact ⟨ret_int (by rw [HP.out]), rfl⟩
theorem pick_any (c : Int) (n : Nat) (w : World) (hc : -9223372036854775808 ≤ c ∧ c ≤ 9223372036854775807) (hn : 0 < n) (hn2 : n ≤ 1000000) :
    Calls Try.prog 14 #[.int .i64 c, .int .i64 n] w fun e w' => e = .returned (.int .i64 (pickN c n : Nat)) ∧ Drw w w' :=
  (pick_same c n w hc hn hn2).mono fun _ _ h => ⟨h.1, by rw [h.2]; exact Drw.refl w⟩
theorem pick_at (c x : Int) (n : Nat) (w : World) (hc : -9223372036854775808 ≤ c ∧ c ≤ 9223372036854775807) (hn : 0 < n) (hn2 : n ≤ 1000000) (hx : x = n) :
    Calls Try.prog 14 #[.int .i64 c, .int .i64 x] w fun e w' => e = .returned (.int .i64 (pickN c n : Nat)) ∧ Drw w w' := by
  subst hx; exact pick_any c n w hc hn hn2

def SameRel (L : List (List UInt8)) (i : Value) : Prop := ∃ k : Nat, k ≤ L.length ∧ i = .int .i64 k
set_option maxHeartbeats 2000000 in
theorem same_any (p q : Option Addr) (cap cap' : Nat) (L : List (List UInt8)) (w : World) (h : StrsAt w p L) (h' : StrsAt w q L) (hL : L.length ≤ 1000000) :
    Calls Try.prog 19 #[.slice p L.length cap, .slice q L.length cap'] w fun e w' => e = .returned (.bool true) ∧ Drw w w' := by
  have H := Lib.hid h; clear h
  have H' := Lib.hid h'; clear h'
  go_enter Try.func19, Try.ntmps19
  go_wp2_with (fail)
  go_loopw [5] (fun i x => SameRel L i ∧ Drw w x) (fun i _ => L.length - (intOf i).toNat)
  case atStart => exact ⟨⟨0, Nat.zero_le _, rfl⟩, Drw.refl w⟩
  case round =>
    obtain ⟨⟨k, hk, rfl⟩, hw⟩ := hrel
    have HW := Lib.hid hw; clear hw
    by_cases hlt : k < L.length
    · obtain ⟨a, rfl, hc⟩ := (H.out.bel HW.out.bel) k hlt
      obtain ⟨b, rfl, hd⟩ := (H'.out.bel HW.out.bel) k hlt
      go_wp2_with (fail)
      go_quiet (fail)
      go_wp2_with (fail)
      go_roundw
      case rel => exact ⟨⟨k + 1, hlt, by go_num⟩, HW.out.drewN _⟩
      case measure => simp [intOf]; omega
    · go_wp2_with (fail)
      go_ret
      exact ⟨rfl, HW.out⟩

theorem frame_const (a : Array UInt8) (r : Array UInt8) (w : World) (ha : a.size ≤ 40000) (h : (frameL a.toList).toArray = r) :
    Calls Try.prog 10 #[.string ⟨a⟩] w fun e w' => e = .returned (.tuple #[.string ⟨r⟩, .int .i64 0]) ∧ Bel w w' := by
  rw [← h]; exact frame_ok ⟨a⟩ w ha
theorem sum_const (a : Array UInt8) (n : Int) (w : World) (ha : a.size ≤ 40000) (h : ((crcN a.toList : Nat) : Int) = n) :
    Calls Try.prog 12 #[.string ⟨a⟩] w fun e w' => e = .returned (.int .u32 n) ∧ Drw w w' := by
  rw [← h]; exact sum5_any ⟨a⟩ w (by show a.size ≤ _; unfold maxLen; omega)
theorem scan_shown : scanL [1, 97, 232, 183, 190, 67, 1, 97, 232, 183, 190, 67, 1] = ([[97], [97]], 12, 8) := by decide +kernel
/-- Scan at bytes that are told of. -/
theorem scan_at (s : ByteArray) (l : List UInt8) (L : List (List UInt8)) (n : Nat) (e : Int) (w : World) (hs : s.size ≤ 1000000) (h : s.data.toList = l) (hsc : scanL l = (L, n, e)) :
    Calls Try.prog 17 #[.string s] w fun en w' => ∃ p cap, en = .returned (.tuple #[.slice p L.length cap, .int .i64 n, .int .i64 e]) ∧ StrsAt w' p L ∧ Bel w w' := by
  subst h
  refine (scan_any s w hs).mono ?_
  rintro en w' ⟨v, rfl, hown, hb⟩
  rw [hsc] at hown ⊢
  obtain ⟨p, cap, rfl, hat⟩ := ownG_strs hown
  exact ⟨p, cap, rfl, hat, hb⟩
theorem rscan_at (s : ByteArray) (l : List UInt8) (L : List (List UInt8)) (n : Nat) (e : Int) (w : World) (hs : s.size ≤ 1000000) (h : s.data.toList = l) (hsc : scanL l = (L, n, e)) :
    Calls Try.prog 18 #[.string s] w fun en w' => ∃ p cap, en = .returned (.tuple #[.slice p L.length cap, .int .i64 n, .int .i64 e]) ∧ StrsAt w' p L ∧ Bel w w' := by
  subst h
  refine (rscan_any s w hs).mono ?_
  rintro en w' ⟨v, rfl, hown, hb⟩
  rw [hsc] at hown ⊢
  obtain ⟨p, cap, rfl, hat⟩ := ownG_strs hown
  exact ⟨p, cap, rfl, hat, hb⟩
theorem same_at (p q : Option Addr) (n m : Int) (cap cap' : Nat) (L : List (List UInt8)) (w : World) (h : StrsAt w p L) (h' : StrsAt w q L) (hL : L.length ≤ 1000000) (k k' : Nat) (hk : k = L.length) (hk' : k' = L.length) :
    Calls Try.prog 19 #[.slice p k cap, .slice q k' cap'] w fun e w' => e = .returned (.bool true) ∧ Drw w w' := by
  subst hk hk'; exact same_any p q cap cap' L w h h' hL

set_option maxHeartbeats 4000000 in
set_option maxRecDepth 20000 in
theorem shown_any (w : World) : Calls Try.prog 9 #[] w fun e w' => e = .returned (.bool true) ∧ Bel w w' := by
  go_enter Try.func9, Try.ntmps9
  have HB := Lib.hid (Bel.refl w)
  go_wp2_with (fail)
  refine (frame_const _ #[1, 97, 232, 183, 190, 67] _ (by decide) (by decide +kernel)).mono ?_
  rintro e w1 ⟨rfl, hb⟩
  replace HB := Lib.hid (HB.out.trans hb); clear hb
  go_wp2_with (fail)
  refine (scan_at _ [1, 97, 232, 183, 190, 67, 1, 97, 232, 183, 190, 67, 1] _ _ _ _ (by decide) rfl scan_shown).mono ?_
  rintro e w2 ⟨p, cap, rfl, hat, hb⟩
  replace HB := Lib.hid (HB.out.trans hb); clear hb
  have HA := Lib.hid hat; clear hat
  go_wp2_with (fail)
  refine (sum_const _ 0 _ (by decide) (by decide +kernel)).mono ?_
  rintro e w3 ⟨rfl, hb⟩
  replace HB := Lib.hid (HB.out.trans hb.bel)
  replace HA := Lib.hid (HA.out.bel hb.bel); clear hb
  go_wp2_with (fail)
  refine (sum_const _ 3421780262 _ (by decide) (by decide +kernel)).mono ?_
  rintro e w4 ⟨rfl, hb⟩
  replace HB := Lib.hid (HB.out.trans hb.bel)
  replace HA := Lib.hid (HA.out.bel hb.bel); clear hb
  go_wp2_with (fail)
  have h2 : StrsAt (w4.alloc (.cells #[.string ⟨#[97]⟩, .string ⟨#[97]⟩] 9)) (some ⟨w4.heap.size, 0, none⟩) [[97], [97]] := by
    obtain ⟨p', cap', he, hs⟩ := ownG_strs (ownG_new strOk 0 w4 #[.string ⟨#[97]⟩, .string ⟨#[97]⟩] [[97], [97]] rfl (Nat.zero_le _) (by decide))
    cases he; exact hs
  refine (same_any p _ cap 2 [[97], [97]] _ (HA.out.bel ((Bel.refl _).alloc _)) h2 (by decide)).mono ?_
  rintro e w5 ⟨rfl, hb⟩
  replace HB := Lib.hid ((HB.out.alloc _).trans hb.bel); clear hb
  go_wp2_with (fail)
  go_ret
  exact ⟨rfl, HB.out⟩
end Go.Proofs.Ytjjfkbikodccbaa
