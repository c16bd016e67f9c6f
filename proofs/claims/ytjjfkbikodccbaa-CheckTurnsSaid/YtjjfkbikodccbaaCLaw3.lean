/- CheckTurns: true for every argument. -/
import Derived.Test.YtjjfkbikodccbaaCBytes
set_option linter.unusedSimpArgs false
set_option linter.unusedVariables false
namespace Go.Proofs.Ytjjfkbikodccbaa
open Go.RowKit Go.Deep

/-- A byte with one bit turned. -/
def turnB (x : UInt8) (p : Nat) : UInt8 := UInt8.ofNat (x.toNat ^^^ 2 ^ p)
theorem pow8 {p : Nat} (hp : p < 8) : 1 ≤ 2 ^ p ∧ 2 ^ p < 256 := by
  have : p = 0 ∨ p = 1 ∨ p = 2 ∨ p = 3 ∨ p = 4 ∨ p = 5 ∨ p = 6 ∨ p = 7 := by omega
  rcases this with rfl | rfl | rfl | rfl | rfl | rfl | rfl | rfl <;> decide
theorem turnB_nat (x : UInt8) {p : Nat} (hp : p < 8) : (turnB x p).toNat = x.toNat ^^^ 2 ^ p := by
  have h1 := x.toNat_lt
  have h2 := pow8 hp
  have h3 : x.toNat ^^^ 2 ^ p < 256 := Nat.xor_lt_two_pow (n := 8) (by omega) (by omega)
  unfold turnB
  rw [UInt8.toNat_ofNat', Nat.mod_eq_of_lt h3]
theorem turnB_ne (x : UInt8) {p : Nat} (hp : p < 8) : turnB x p ≠ x := by
  intro h
  have h1 := turnB_nat x hp
  rw [h] at h1
  have h2 := pow8 hp
  have h3 : x.toNat ^^^ x.toNat = x.toNat ^^^ (x.toNat ^^^ 2 ^ p) := by rw [← h1]
  rw [Nat.xor_self, ← Nat.xor_assoc, Nat.xor_self, Nat.zero_xor] at h3
  omega

theorem turn_bits (x : UInt8) {p : Nat} (hp : p < 8) : bits .xor .u8 (x.toNat : Int) (IntKind.u8.wrap (2 ^ p)) = ((turnB x p).toNat : Int) := by
  have h2 := pow8 hp
  have e : IntKind.u8.wrap ((2 : Int) ^ p) = ((2 ^ p : Nat) : Int) := by
    rw [IntKind.wrap_u8']
    have : (2 : Int) ^ p = ((2 ^ p : Nat) : Int) := by simp
    omega
  rw [e, turnB_nat x hp]
  exact u8_xor_nat _ _ x.toNat_lt h2.2
set_option maxHeartbeats 4000000 in
theorem law_turns_any (s : ByteArray) (at_ bit : Int) (w : World) (hs : s.size ≤ maxLen) (hm : -9223372036854775808 ≤ at_ ∧ at_ ≤ 9223372036854775807) (hm2 : -9223372036854775808 ≤ bit ∧ bit ≤ 9223372036854775807) :
    Calls Try.prog 7 #[.string s, .int .i64 at_, .int .i64 bit] w fun e w' => e = .returned (.bool true) ∧ Bel w w' := by
  unfold maxLen at hs
  have HM := Lib.hid hm; clear hm
  have HM2 := Lib.hid hm2; clear hm2
  go_enter Try.func7, Try.ntmps7
  go_wp2_with (fail)
  refine (shown_any w).mono ?_
  rintro e w1 ⟨rfl, hb⟩
  have HB := Lib.hid hb; clear hb
  by_cases hl : (2000 : Int) < (s.size : Int)
  · go_wp2_with (fail)
    go_ret
    exact ⟨rfl, HB.out⟩
  · have hfl := frame_len s.data.toList
    have hsl : s.data.toList.length = s.size := rfl
    have hz1 := szN_pos s.size
    have hz9 := szN_le s.size
    rw [hsl] at hfl
    obtain ⟨f, hf⟩ : ∃ f : ByteArray, f = ⟨(frameL s.data.toList).toArray⟩ := ⟨_, rfl⟩
    have hfs : f.size = szN s.size + s.size + 4 := by rw [hf]; show (frameL s.data.toList).toArray.size = _; rw [List.size_toArray, hfl]
    have hfd : f.data.toList = frameL s.data.toList := by rw [hf]
    have HV := Lib.hid (show frameV s.data.toList = .tuple #[.string f, .int .i64 0] by rw [frameV, hf])
    obtain ⟨z, hz⟩ : ∃ z, z = szN s.size := ⟨_, rfl⟩
    obtain ⟨j, hj⟩ : ∃ j, j = pickN at_ (s.size + 4) := ⟨_, rfl⟩
    obtain ⟨p, hp⟩ : ∃ p, p = pickN bit 8 := ⟨_, rfl⟩
    have hjl : j < s.size + 4 := by rw [hj]; exact pickN_lt at_ (by omega)
    have hp8 : p < 8 := by rw [hp]; exact pickN_lt bit (by omega)
    obtain ⟨kk, hkk⟩ : ∃ kk, kk = z + j := ⟨_, rfl⟩
    have hkl : kk < f.data.toList.length := by rw [hfd, hfl, hkk, hz]; omega
    obtain ⟨x0, hx0⟩ : ∃ x0, x0 = f.data.toList[kk] := ⟨_, rfl⟩
    have HT := Lib.hid (show unV (f.data.toList.set kk (turnB x0 p)) = .tuple #[.string ⟨#[]⟩, .string ⟨#[]⟩, .int .i64 9] by
      have e : f.data.toList.set kk (turnB x0 p) = putL s.data.toList.length ++ (s.data.toList ++ bigL (crcN s.data.toList) 4).set j (turnB x0 p) := by
        rw [hkk, hz, hfd]; exact frame_set s.data.toList j _
      rw [e, unV, unframe_turn s.data.toList (by omega) j (by omega) _ (fun h => ?_)]
      have e3 : ∀ (k : Nat) (h1 : k < f.data.toList.length), k = szN s.data.toList.length + j → f.data.toList[k] = (s.data.toList ++ bigL (crcN s.data.toList) 4)[j] := by
        rintro k h1 rfl
        simp only [hfd, frameL]
        rw [List.getElem_append_right (by rw [putL_len]; omega)]
        congr 1
        rw [putL_len]; omega
      rw [hx0, e3 kk hkl (by rw [hkk, hz, hsl])]
      exact turnB_ne _ hp8)
    have hki : (z : Int) + j = kk := by omega
    have HKL := Lib.hid hkl
    have hkz : kk < f.size := hkl
    have HX0 := Lib.hid (show f.data.toList[kk]? = some x0 by rw [List.getElem?_eq_getElem hkl, hx0]); clear hx0
    have HPJ := Lib.hid hj; have HPP := Lib.hid hp
    rw [← hz] at hfs hz1 hz9
    clear hf hfd hfl hz hj hp hkk hkl
    rw [hfs] at hkz
    go_wp2_with (fail)
    refine (frame_ok s _ (by omega)).mono ?_
    rintro e w2 ⟨rfl, hb⟩
    rw [HV.out]
    replace HB := Lib.hid (HB.out.trans hb); clear hb
    obtain ⟨w3, cap, hcv, hb, hrow, hgr⟩ := conv_bytes w2 f
    have hw2 : w.heap.size ≤ w2.heap.size := HB.out.size
    replace HB := Lib.hid (HB.out.trans hb); clear hb
    have HR := Lib.hid hrow; clear hrow
    have hk1 : (z : Int) + s.size + 4 - s.size - 4 = z := by omega
    go_wp2_with (fail)
    refine (pick_at at_ _ (s.size + 4) _ HM.out (by omega) (by omega) (by omega)).mono ?_
    rintro e w4 ⟨rfl, hb⟩
    rw [← HPJ.out]
    have hgr4 : w2.heap.size < w4.heap.size := by have := hb.bel.size; omega
    replace HB := Lib.hid (HB.out.trans hb.bel)
    replace HR := Lib.hid (HR.out.bel hb.bel); clear hb hgr hcv
    generalize w2.heap.size = b at *
    have hfr := (HR.out kk HKL.out).2
    have hc : w4.cell? ⟨b, kk, none⟩ = some (.int .u8 (x0.toNat : Int)) := by
      have h := (HR.out kk HKL.out).1
      have h' := HX0.out
      rw [List.getElem?_eq_getElem HKL.out] at h'
      rw [Option.some.inj h'] at h
      exact h
    have hkzi : (kk : Int) < (z : Int) + (s.size : Int) + 4 := by omega
    have HXL := Lib.hid x0.toNat_lt
    have HPW := Lib.hid (pow8 hp8)
    go_wp2_with (fail)
    refine wp_region_still_tail 11 (by kernel_rfl) (by kernel_rfl) ?_
    change wpStill _ _ (World.drew _) _ _ _
    simp only [List.take_succ_cons, List.take_zero, List.drop_succ_cons, List.drop_zero]
    still_step
    still_step
    still_step
    still_step
    still_step
    still_step
    still_step
    still_call ((pick_same bit 8 _ HM2.out (by omega) (by omega)).mono fun _ _ h => ⟨h.1, h.2⟩)
    rw [← HPP.out]
    refine wpStill_step (fun K hK => ?_)
    go_simp
    refine hK _ ?_
    clear hK K
    refine wpStill_step (fun K hK => ?_)
    go_simp
    refine hK _ ?_
    clear hK K
    rw [turn_bits x0 hp8]
    still_step
    refine wpStill_nil ?_
    change wpList _ _ _ _ _ (World.drew _)
    have hrow2 := (HR.out.set kk HKL.out (turnB x0 p)).bel (Bel.refl _).drew
    have hll : (f.data.toList.set kk (turnB x0 p)).length = z + s.size + 4 := by rw [List.length_set, ← hfs]; rfl
    have hcv2 := hrow2.conv cap
    rw [hll] at hcv2
    have hls : (⟨(f.data.toList.set kk (turnB x0 p)).toArray⟩ : ByteArray).size ≤ 1000000 := by
      show (f.data.toList.set kk (turnB x0 p)).toArray.size ≤ _
      rw [List.size_toArray, hll]; omega
    have hls2 : (⟨(f.data.toList.set kk (turnB x0 p)).toArray⟩ : ByteArray).data.toList = f.data.toList.set kk (turnB x0 p) := by simp
    have HB5 := Lib.hid (HB.out.setCell (p := ⟨b, kk, none⟩) hw2 (.int .u8 ((turnB x0 p).toNat : Int))).drew
    rw [← hls2] at HT
    have HLS := Lib.hid hls; clear hls hls2 hll hrow2
    go_wp2_with (fail)
    refine (unframe_any _ _ HLS.out).mono ?_
    rintro e w6 ⟨rfl, hb⟩
    rw [HT.out]
    replace HB := Lib.hid (HB5.out.trans hb); clear hb
    go_wp2_with (fail)
    go_ret
    exact ⟨rfl, HB.out⟩
end Go.Proofs.Ytjjfkbikodccbaa
