/- The laws FilterPlaces and FilterBuilds walked. -/
import Derived.Test.YtaabaphpllnieaaIShown
set_option linter.unusedSimpArgs false
set_option linter.unusedVariables false
namespace Go.Proofs.Ytaabaphpllnieaa
open Go.RowKit Go.Deep

set_option maxHeartbeats 4000000 in
theorem law_places_any (w : World) (s : ByteArray) (n : Int) (hs : s.size ≤ maxLen) (hn : -9223372036854775808 ≤ n ∧ n ≤ 9223372036854775807) :
    Calls Try.prog 3 #[.string s, .int .i64 n] w fun e w' => e = .returned (.bool true) ∧ Bel w w' := by
  have HS := Lib.hid hs
  have HN := Lib.hid hn; clear hn
  unfold maxLen at hs
  go_enter Try.func3, Try.ntmps3
  go_wp2_with (fail)
  refine (shown_any w).mono ?_
  rintro e w1 ⟨rfl, hb⟩
  have HB := Lib.hid hb; clear hb
  by_cases h1 : s.size ≤ 2000
  · have h1' : (s.size : Int) ≤ 2000 := by omega
    go_wp2_with (fail)
    refine (hash_any s w1 HS.out).mono ?_
    rintro e w2 ⟨rfl, hb⟩
    replace HB := Lib.hid (HB.out.trans hb.bel); clear hb
    go_wp2_with (fail)
    refine (rhash_any s w2 HS.out).mono ?_
    rintro e w3 ⟨rfl, hb⟩
    replace HB := Lib.hid (HB.out.trans hb.bel); clear hb
    obtain ⟨h, hh⟩ : ∃ h, h = hashN s.data.toList := ⟨_, rfl⟩
    rw [← hh]
    go_wp2_with (fail)
    refine (places_any s n w3 HS.out HN.out).mono ?_
    unfold PlacesPost
    have hl4 : (placesL (hashN s.data.toList) n.toNat).length ≤ 4 := by unfold placesL; split <;> simp
    generalize hL : placesL (hashN s.data.toList) n.toNat = L at *
    rintro e w4 ⟨p, cap, rfl, hat, -, hb⟩
    replace HB := Lib.hid (HB.out.trans hb); clear hb
    have HA := Lib.hid hat; clear hat
    go_wp2_with (fail)
    refine (rplaces_any s n w4 HS.out HN.out).mono ?_
    unfold PlacesPost
    rw [hL]
    rintro e w5 ⟨p', cap', rfl, hat', -, hb⟩
    replace HB := Lib.hid (HB.out.trans hb)
    have HA' := Lib.hid hat'
    replace HA := Lib.hid (HA.out.bel hb); clear hat' hb hL hh
    go_wp2_with (fail)
    refine (same_any p p' cap cap' L w5 HA.out HA'.out (by omega)).mono ?_
    rintro e w6 ⟨rfl, hb⟩
    replace HB := Lib.hid (HB.out.trans hb.bel); clear hb
    go_wp2_with (fail)
    go_ret
    exact ⟨rfl, HB.out⟩
  · have h1' : ¬ (s.size : Int) ≤ 2000 := by omega
    go_wp2_with (fail)
    go_ret
    exact ⟨rfl, HB.out⟩

theorem rmay_at (f key : ByteArray) (b : Bool) (w : World) (hf : f.size ≤ 1000000) (hk : key.size ≤ maxLen) (h : mayF f.data.toList key.data.toList = b) :
    Calls Try.prog 21 #[.string f, .string key] w fun e w' => e = .returned (.bool b) ∧ Bel w w' := by subst h; exact rmay_any f key w hf hk
theorem small_mono {L : List (List UInt8)} (h : SmallOk L) : L.length ≤ 100000 ∧ strSmall maxLen L := ⟨by have := h.1; omega, fun i hi => by have := h.2 i hi; unfold maxLen; omega⟩
theorem build_size {L : List (List UInt8)} (h : SmallOk L) : (⟨(buildF L).toArray⟩ : ByteArray).size ≤ 1000 := by
  rw [size_mk]
  by_cases h0 : L = []
  · subst h0; simp [buildF]
  · rw [build_len h0]
    have := h.1
    unfold sizeF
    omega
set_option maxHeartbeats 4000000 in
theorem law_builds_any (w : World) (p : Option Addr) (cap : Nat) (L : List (List UInt8)) (f key : ByteArray) (h : StrsAt w p L) (hL : L.length ≤ maxLen) (hs : strSmall maxLen L) (hf : f.size ≤ maxLen) (hk : key.size ≤ maxLen) :
    Calls Try.prog 4 #[.slice p L.length cap, .string f, .string key] w fun e w' => e = .returned (.bool true) ∧ Bel w w' := by
  have H := Lib.hid h; clear h
  have HL := Lib.hid hL
  have HSM := Lib.hid hs; clear hs
  have HK := Lib.hid hk
  unfold maxLen at hL hf hk
  go_enter Try.func4, Try.ntmps4
  go_wp2_with (fail)
  refine (shown_any w).mono ?_
  rintro e w1 ⟨rfl, hb⟩
  have HB := Lib.hid hb; clear hb
  go_wp2_with (fail)
  refine (small_any p cap L w1 (H.out.bel HB.out) HL.out HSM.out).mono ?_
  rintro e w2 ⟨hb, (⟨hok, rfl⟩ | rfl)⟩
  · replace HB := Lib.hid (HB.out.trans hb.bel); clear hb
    have HOK := Lib.hid hok
    have h200 := hok.1
    clear hok hL
    by_cases h1 : f.size ≤ 1000
    · have h1' : (f.size : Int) ≤ 1000 := by omega
      by_cases h2 : key.size ≤ 300
      · have h2' : (key.size : Int) ≤ 300 := by omega
        have HF := Lib.hid (show f.size ≤ 1000000 by omega)
        obtain ⟨c1, c2, hV⟩ : ∃ c1 c2 : Nat, fullV f.data.toList = .tuple #[.int .i64 c1, .int .i64 c2] := ⟨_, _, rfl⟩
        have HV := Lib.hid hV
        obtain ⟨b, hbb⟩ : ∃ b : ByteArray, b = ⟨(buildF L).toArray⟩ := ⟨_, rfl⟩
        have HBB := Lib.hid hbb
        have HBS := Lib.hid (show b.size ≤ 1000000 by rw [hbb]; have := build_size HOK.out; omega)
        obtain ⟨m1, hm1⟩ : ∃ m, mayF b.data.toList key.data.toList = m := ⟨_, rfl⟩
        obtain ⟨m2, hm2⟩ : ∃ m, mayF f.data.toList key.data.toList = m := ⟨_, rfl⟩
        have HM1 := Lib.hid hm1; have HM2 := Lib.hid hm2
        clear hf hk hV hbb hm1 hm2
        go_wp2_with (fail)
        refine (build_any p cap L w2 (H.out.bel HB.out) (small_mono HOK.out).1 (small_mono HOK.out).2).mono ?_
        rw [← HBB.out]
        rintro e w3 ⟨rfl, hb⟩
        replace HB := Lib.hid (HB.out.trans hb); clear hb
        go_wp2_with (fail)
        refine (full_any f w3 HF.out).mono ?_
        rw [HV.out]
        rintro e w4 ⟨rfl, hb⟩
        replace HB := Lib.hid (HB.out.trans hb.bel); clear hb
        go_wp2_with (fail)
        refine (rfull_any f w4 HF.out).mono ?_
        rw [HV.out]
        rintro e w5 ⟨rfl, hb⟩
        replace HB := Lib.hid (HB.out.trans hb.bel); clear hb
        go_wp2_with (fail)
        refine (rbuild_any p cap L w5 (H.out.bel HB.out) (small_mono HOK.out).1 (small_mono HOK.out).2).mono ?_
        rw [← HBB.out]
        rintro e w6 ⟨rfl, hb⟩
        replace HB := Lib.hid (HB.out.trans hb); clear hb
        go_wp2_with (fail)
        refine (may_at b key m1 w6 HBS.out HK.out HM1.out).mono ?_
        rintro e w7 ⟨rfl, hb⟩
        replace HB := Lib.hid (HB.out.trans hb); clear hb
        go_wp2_with (fail)
        refine (rmay_at b key m1 w7 HBS.out HK.out HM1.out).mono ?_
        rintro e w8 ⟨rfl, hb⟩
        replace HB := Lib.hid (HB.out.trans hb); clear hb
        go_wp2_with (fail)
        refine (may_at f key m2 w8 HF.out HK.out HM2.out).mono ?_
        rintro e w9 ⟨rfl, hb⟩
        replace HB := Lib.hid (HB.out.trans hb); clear hb
        go_wp2_with (fail)
        refine (rmay_at f key m2 w9 HF.out HK.out HM2.out).mono ?_
        rintro e w10 ⟨rfl, hb⟩
        replace HB := Lib.hid (HB.out.trans hb); clear hb
        go_wp2_with (fail)
        go_ret
        exact ⟨rfl, HB.out⟩
      · have h2' : ¬ (key.size : Int) ≤ 300 := by omega
        go_wp2_with (fail)
        go_ret
        exact ⟨rfl, HB.out⟩
    · have h1' : ¬ (f.size : Int) ≤ 1000 := by omega
      go_wp2_with (fail)
      go_ret
      exact ⟨rfl, HB.out⟩
  · replace HB := Lib.hid (HB.out.trans hb.bel); clear hb
    go_wp2_with (fail)
    go_ret
    exact ⟨rfl, HB.out⟩
end Go.Proofs.Ytaabaphpllnieaa
