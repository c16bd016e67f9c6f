/- moultref3's bytes, count and Put: the document's answer for a number's bytes. -/
import Derived.Test.YtldkpomkgmilbaaVPut
import Derived.StillTailTactics
set_option linter.unusedSimpArgs false
set_option linter.unusedVariables false
namespace Go.Proofs.Ytldkpomkgmilbaa
open Go.RowKit Go.Deep

theorem ba_snoc (a : List UInt8) (x : UInt8) : (⟨a.toArray⟩ ++ ⟨#[x]⟩ : ByteArray) = ⟨(a ++ [x]).toArray⟩ := by apply ByteArray.ext; simp
/-- string([]byte{b}), the literal's block anywhere. -/
theorem conv_one {W : World} (g n : Nat) (h : W.cell? ⟨g, 0, none⟩ = some (.int .u8 ((n : Int) % 256))) :
    (convert 57 9 (.slice (some ⟨g, 0, none⟩) 1 1)).run Try.prog W = .ok (.string ⟨#[UInt8.ofNat (n % 256)]⟩) W :=
  run_convert_bytes_back W 57 9 5 ⟨g, 0, none⟩ 1 [UInt8.ofNat (n % 256)] Try.underlying57 Try.underlying5 Try.underlying9 (fun j hj => by
    simp at hj; subst hj
    have e : (⟨g, 0, none⟩ : Addr).add 0 = ⟨g, 0, none⟩ := by simp [Addr.add]
    rw [e, h]; simp)
theorem conv_later2 {w w1 : World} {n : Nat} (hb : Bel (w.drew.alloc (.cells #[.int .u8 ((n : Int) % 256)] 5)) w1) :
    (convert 57 9 (.slice (some ⟨w.heap.size, 0, none⟩) 1 1)).run Try.prog w1 = .ok (.string ⟨#[UInt8.ofNat (n % 256)]⟩) w1 :=
  conv_one _ n (by rw [hb.cell _ _ (by show _ < (w.heap.push _).size; simp)]; exact (World.cell?_alloc_new ..).trans (by simp))
theorem conv_later3 {w w1 : World} {n : Nat} (hb : Bel ((w.alloc (.cells #[.int .u8 ((n : Int) % 256)] 5)).drew) w1) :
    (convert 57 9 (.slice (some ⟨w.heap.size, 0, none⟩) 1 1)).run Try.prog w1 = .ok (.string ⟨#[UInt8.ofNat (n % 256)]⟩) w1 :=
  conv_one _ n (by rw [hb.cell _ _ (by show _ < (w.heap.push _).size; simp)]; exact (World.cell?_alloc_new ..).trans (by simp))

set_option maxRecDepth 20000 in
set_option maxHeartbeats 2000000 in
theorem rbytes_any : ∀ (k n : Nat) (w : World) (hk : k ≤ 9) (hn : n < 18446744073709551616),
    Calls Try.prog 48 #[.int .u64 n, .int .i64 k] w fun e w' => e = .returned (.string ⟨(bigL n k).toArray⟩) ∧ Bel w w' := by
  intro k
  induction k with
  | zero =>
    intro n w hk hn
    go_enter Try.func48, Try.ntmps48
    go_wp2_with (fail)
    go_ret
    exact ⟨rfl, Bel.refl w⟩
  | succ k ih =>
    intro n w hk hn
    have IH := Lib.hid ih; clear ih
    have hl := bigL_len k (n / 256)
    have X : Hid (∀ (a b : Int) (w : World), a = ((n / 256 : Nat) : Int) → b = (k : Int) → Calls Try.prog 48 #[.int .u64 a, .int .i64 b] w fun e w' => e = .returned (.string ⟨(bigL (n / 256) k).toArray⟩) ∧ Bel w w') :=
      Lib.hid fun a b w ha hb => by subst ha hb; exact IH.out _ _ (by omega) (by omega)
    have v1 : IntKind.u64.wrap ((n : Int) / 256) = (n : Int) / 256 := u64_in _ (by omega) (by omega)
    have v2 : IntKind.i64.wrap (k : Int) = (k : Int) := IntWalk.i64_in _ (by omega)
    have v3 : IntKind.u8.wrap ((n : Int).tmod 256) = ((UInt8.ofNat (n % 256)).toNat : Int) := by
      rw [Int.tmod_eq_emod_of_nonneg (by omega)]; simp [IntKind.wrap, IntKind.bits, IntKind.signed]
    have hcv : ∀ w1 : World, (convert 57 9 (.slice (some ⟨w1.heap.size, 0, none⟩) 1 1)).run Try.prog (w1.alloc (.cells #[.int .u8 ((n : Int) % 256)] 5)) = .ok (.string ⟨#[UInt8.ofNat (n % 256)]⟩) (w1.alloc (.cells #[.int .u8 ((n : Int) % 256)] 5)) :=
      fun w1 => conv_one _ n (by simp)
    have hcw : ∀ w1 : World, (convert 57 9 (.slice (some ⟨w1.heap.size, 0, none⟩) 1 1)).run Try.prog (w1.alloc (.cells #[.int .u8 ((n : Int) % 256)] 5)).drew = .ok (.string ⟨#[UInt8.ofNat (n % 256)]⟩) (w1.alloc (.cells #[.int .u8 ((n : Int) % 256)] 5)).drew :=
      fun w1 => conv_one _ n ((World.cell?_alloc_new ..).trans (by simp))
    go_enter Try.func48, Try.ntmps48
    go_wp2_with (fail)
    go_region_with (go_at_call 48; refine (X.out _ _ _ (by omega) (by omega)).mono ?_; rintro e w1 ⟨rfl, hb⟩; (first | (have hcb := conv_later2 hb) | (have hcb := conv_later3 hb) | skip); have HB := Lib.hid hb; clear hb)
    all_goals go_wp2
    all_goals go_ret
    · exact ⟨ret_string (by rw [bigL, ← ba_snoc]), ((Bel.refl w).drew.trans HB.out).alloc _⟩
    · exact ⟨ret_string (by rw [bigL, ← ba_snoc]), ((Bel.refl w).alloc _).drew.trans HB.out⟩
    · exact ⟨ret_string (by rw [bigL, ← ba_snoc]), ((Bel.refl w).alloc _).drew.trans HB.out⟩

def CntRel (n : Nat) (x i : Value) : Prop := ∃ k : Nat, k ≤ 8 ∧ x = .int .u64 ((n / 256 ^ k : Nat) : Int) ∧ i = .int .i64 k ∧ (k = 0 ∨ 256 ^ (k - 1) ≤ n)
theorem cnt_end (n k : Nat) (h0 : ¬ n < 67824) (hk : k ≤ 8) (h1 : n / 256 ^ k = 0) (h2 : k = 0 ∨ 256 ^ (k - 1) ≤ n) : 3 ≤ k ∧ szN n = k + 1 := by
  rw [Nat.div_eq_zero_iff] at h1
  have e : k = 0 ∨ k = 1 ∨ k = 2 ∨ k = 3 ∨ k = 4 ∨ k = 5 ∨ k = 6 ∨ k = 7 ∨ k = 8 := by omega
  rcases e with rfl | rfl | rfl | rfl | rfl | rfl | rfl | rfl | rfl <;> simp at h1 h2 <;> try omega
  all_goals refine ⟨by omega, ?_⟩
  all_goals unfold szN
  all_goals (repeat' split) <;> omega
theorem cnt_more (n k : Nat) (hn : n < 18446744073709551616) (hk : k ≤ 8) (h : ¬ n / 256 ^ k = 0) : k < 8 ∧ 256 ^ k ≤ n := by
  rw [Nat.div_eq_zero_iff] at h
  refine ⟨?_, by omega⟩
  rcases Nat.lt_or_ge k 8 with h8 | h8
  · exact h8
  · obtain rfl : k = 8 := by omega
    simp at h; omega

set_option maxHeartbeats 1000000 in
theorem rcount_any (n : Nat) (w : World) (h0 : ¬ n < 67824) (hn : n < 18446744073709551616) :
    Calls Try.prog 49 #[.int .u64 n] w fun e w' => e = .returned (.int .i64 ((szN n : Int) - 1)) ∧ Drw w w' := by
  go_enter Try.func49, Try.ntmps49
  go_wp2
  go_loopw [0, 3] (fun x i y => CntRel n x i ∧ Drw w y) (fun _ i _ => 8 - (intOf i).toNat)
  case atStart => exact ⟨⟨0, Nat.zero_le _, by simp, rfl, Or.inl rfl⟩, Drw.refl _⟩
  case round =>
    obtain ⟨⟨k, hk, rfl, rfl, h2⟩, hw⟩ := hrel
    have HW := Lib.hid hw; clear hw
    have H2 := Lib.hid h2; clear h2
    by_cases hz : n / 256 ^ k = 0
    · obtain ⟨h3, hs⟩ := cnt_end n k h0 hk hz H2.out
      have HS := Lib.hid hs; clear hs
      generalize hm : n / 256 ^ k = m at *
      subst hz
      go_wp2
      go_ret
      exact ⟨ret_int (by rw [HS.out]; omega), HW.out⟩
    · obtain ⟨h8, h5⟩ := cnt_more n k hn hk hz
      have H5 := Lib.hid h5; clear h5
      have HM := Lib.hid (show n / 256 ^ (k + 1) = n / 256 ^ k / 256 from by rw [Nat.pow_succ, Nat.div_div_eq_div_mul])
      have hb : n / 256 ^ k ≤ n := Nat.div_le_self _ _
      generalize n / 256 ^ k = m at *
      have i1 : 0 < (m : Int) := by omega
      go_wp2
      go_roundw
      case rel => exact ⟨⟨k + 1, by omega, by rw [HM.out]; simp, by go_num, Or.inr (by simpa using H5.out)⟩, HW.out⟩
      case measure => simp [intOf]; omega

theorem rbytes_at (x y : Int) (n k : Nat) (w : World) (hx : x = n) (hy : y = k) (hk : k ≤ 9) (hn : n < 18446744073709551616) :
    Calls Try.prog 48 #[.int .u64 x, .int .i64 y] w fun e w' => e = .returned (.string ⟨(bigL n k).toArray⟩) ∧ Bel w w' := by
  subst hx hy; exact rbytes_any k n w hk hn

set_option maxHeartbeats 2000000 in
theorem rput_any (n : Nat) (w : World) (hn : n < 18446744073709551616) :
    Calls Try.prog 42 #[.int .u64 n] w fun e w' => e = .returned (.string ⟨(putL n).toArray⟩) ∧ Bel w w' := by
  have h9 := szN_le n
  obtain ⟨z1, z2, z3, z4⟩ := sz_cases n
  go_enter Try.func42, Try.ntmps42
  by_cases h1 : n < 241
  · clear z1 z2 z3 z4 h9
    have i1 : (n : Int) ≤ 240 := by omega
    go_wp2_with (fail)
    refine (rbytes_at _ _ n 1 w (by rfl) (by rfl) (by omega) hn).mono ?_
    rintro e w2 ⟨rfl, hb⟩
    go_wp2_with (fail)
    go_ret
    exact ⟨ret_string (by rw [putL_one n h1]), hb⟩
  have i1 : ¬ (n : Int) ≤ 240 := by omega
  by_cases h2 : n < 2288
  · clear z1 z2 z3 z4 h9
    have i2 : (n : Int) ≤ 2287 := by omega
    have v1 : IntKind.u64.wrap (((n : Int) - 240) / 256) = ((n : Int) - 240) / 256 := u64_in _ (by omega) (by omega)
    have v2 : IntKind.u64.wrap (241 + ((n : Int) - 240) / 256) = 241 + ((n : Int) - 240) / 256 := u64_in _ (by omega) (by omega)
    go_wp2_with (fail)
    refine (rbytes_at _ _ (241 + (n - 240) / 256) 1 w (by omega) (by rfl) (by omega) (by omega)).mono ?_
    rintro e w2 ⟨rfl, hb⟩
    have HB := Lib.hid hb; clear hb
    have hl1 := bigL_len 1 (241 + (n - 240) / 256)
    have hl2 := bigL_len 1 ((n - 240) % 256)
    go_wp2_with (fail)
    refine (rbytes_at _ _ ((n - 240) % 256) 1 w2 (by omega) (by rfl) (by omega) (by omega)).mono ?_
    rintro e w3 ⟨rfl, hb⟩
    go_wp2_with (fail)
    go_ret
    exact ⟨ret_string (by rw [putL_two n h1 h2, ← two_bytes n (by omega) h2, ba_append]), HB.out.trans hb⟩
  have i2 : ¬ (n : Int) ≤ 2287 := by omega
  by_cases h3 : n < 67824
  · clear z1 z2 z3 z4 h9
    have i3 : (n : Int) ≤ 67823 := by omega
    have hl1 := bigL_len 1 249
    have hl2 := bigL_len 2 (n - 2288)
    go_wp2_with (fail)
    refine (rbytes_at _ _ 249 1 w (by rfl) (by rfl) (by omega) (by omega)).mono ?_
    rintro e w2 ⟨rfl, hb⟩
    have HB := Lib.hid hb; clear hb
    go_wp2_with (fail)
    refine (rbytes_at _ _ (n - 2288) 2 w2 (by omega) (by rfl) (by omega) (by omega)).mono ?_
    rintro e w3 ⟨rfl, hb⟩
    go_wp2_with (fail)
    go_ret
    exact ⟨ret_string (by rw [putL_three n h2 h3, ← three_bytes n (by omega) h3, ba_append]), HB.out.trans hb⟩
  · have hz := z4 h3
    clear z1 z2 z3 z4
    have i3 : ¬ (n : Int) ≤ 67823 := by omega
    have hl1 := bigL_len 1 (246 + szN n)
    have hl2 := bigL_len (szN n - 1) n
    go_wp2_with (fail)
    refine (rcount_any n w h3 hn).mono ?_
    rintro e w1 ⟨rfl, hw1⟩
    have HW := Lib.hid hw1.bel; clear hw1
    go_wp2_with (fail)
    refine (rbytes_at _ _ (246 + szN n) 1 w1 (by omega) (by rfl) (by omega) (by omega)).mono ?_
    rintro e w2 ⟨rfl, hb⟩
    have HB := Lib.hid hb; clear hb
    go_wp2_with (fail)
    refine (rbytes_at _ _ n (szN n - 1) w2 (by rfl) (by omega) (by omega) (by omega)).mono ?_
    rintro e w3 ⟨rfl, hb⟩
    go_wp2_with (fail)
    go_ret
    exact ⟨ret_string (by rw [putL_more n h3, ba_append]), (HW.out.trans HB.out).trans hb⟩
end Go.Proofs.Ytldkpomkgmilbaa
