/- The law FilterWithin walked. -/
import Derived.Test.YtaabaphpllnieaaILaw1
set_option linter.unusedSimpArgs false
set_option linter.unusedVariables false
namespace Go.Proofs.Ytaabaphpllnieaa
open Go.RowKit Go.Deep

theorem ba_eta (s : ByteArray) : (⟨s.data.toList.toArray⟩ : ByteArray) = s := by cases s; simp
theorem bit_walk3 (L : List UInt8) (i : Nat) : ((((byteN L (i / 8) : Nat) : Int) / 2 ^ (i % 8)).tmod 2 == 0) = !bitN L i := by
  have hp : (0 : Int) ≤ ((byteN L (i / 8) : Nat) : Int) / 2 ^ (i % 8) := by
    have e2 : (2 : Int) ^ (i % 8) = ((2 ^ (i % 8) : Nat) : Int) := by simp
    rw [e2]
    exact Int.ediv_nonneg (Int.natCast_nonneg _) (Int.natCast_nonneg _)
  rw [Int.tmod_eq_emod_of_nonneg hp]
  exact bit_walk L i
theorem small_sing {s : ByteArray} (h : s.size ≤ maxLen) : strSmall maxLen [s.data.toList] := by
  intro i hi
  have h0 : i = 0 := by simpa using hi
  subst h0
  exact h
theorem four_of {M : List Nat} (h : M.length = 4) : ∃ a b c d, M = [a, b, c, d] := by
  match M, h with
  | [a, b, c, d], _ => exact ⟨a, b, c, d, rfl⟩
theorem cnt_bit (L : List UInt8) (i : Nat) (b : Bool) (h : bitN L i = b) : cntTo L (i + 1) = cntTo L i + if b then 1 else 0 := by rw [cnt_succ, h]
set_option maxHeartbeats 4000000 in
theorem law_within_any (w : World) (s : ByteArray) (n : Int) (hs : s.size ≤ maxLen) (hn : -9223372036854775808 ≤ n ∧ n ≤ 9223372036854775807) :
    Calls Try.prog 8 #[.string s, .int .i64 n] w fun e w' => e = .returned (.bool true) ∧ Bel w w' := by
  have HS := Lib.hid hs
  have HN := Lib.hid hn; clear hn
  unfold maxLen at hs
  go_enter Try.func8, Try.ntmps8
  go_wp2_with (fail)
  refine (shown_any w).mono ?_
  rintro e w1 ⟨rfl, hb⟩
  have HB := Lib.hid hb; clear hb
  by_cases h1 : s.size ≤ 2000
  · have h1' : (s.size : Int) ≤ 2000 := by omega
    go_wp2_with (fail)
    obtain ⟨L, hL⟩ : ∃ L, placesL (hashN s.data.toList) n.toNat = L := ⟨_, rfl⟩
    have hl4 : L.length ≤ 4 := by rw [← hL]; unfold placesL; split <;> simp
    refine (places_at s n L.length L w1 HS.out HN.out hL rfl).mono ?_
    rintro e w2 ⟨p, cap, rfl, hat, -, hb⟩
    replace HB := Lib.hid (HB.out.trans hb); clear hb
    have HA := Lib.hid hat; clear hat
    by_cases h2 : n < 1
    · have hl0 : L.length = 0 := by rw [← hL, show n.toNat = 0 by omega, places_zero]; rfl
      clear hL
      rw [hl0]
      go_wp2_with (fail)
      go_ret
      exact ⟨rfl, HB.out⟩
    · have hl4e : L.length = 4 := by rw [← hL]; exact places_len (by omega)
      have HLT := Lib.hid (show ∀ k (h : k < L.length), (L[k] : Int) < n from fun k h => by
        have h3 : L[k] ∈ placesL (hashN s.data.toList) n.toNat := by rw [hL]; exact List.getElem_mem h
        have := places_lt h3
        omega)
      have HL := Lib.hid hL
      have HL4 := Lib.hid hl4e
      clear hL hl4e
      go_wp2_with (fail)
      go_loopw [7] (fun iv x => (∃ k : Nat, k ≤ L.length ∧ iv = .int .i64 k) ∧ Drw w2 x) (fun iv _ => L.length - (intOf iv).toNat)
      case atStart => exact ⟨⟨0, Nat.zero_le _, rfl⟩, Drw.refl w2⟩
      case round =>
        obtain ⟨⟨k, hk, rfl⟩, hw⟩ := hrel
        have HW := Lib.hid hw; clear hw
        by_cases hlt : k < L.length
        · obtain ⟨a, rfl, hc⟩ := (HA.out.bel HW.out.bel) k hlt
          have hkn := HLT.out k hlt
          go_wp2_with (fail)
          go_roundw
          case rel => exact ⟨⟨k + 1, hlt, by go_num⟩, HW.out⟩
          case measure => simp [intOf]; omega
        · obtain rfl : k = L.length := by omega
          have HB2 := Lib.hid (HB.out.trans HW.out.bel)
          have HLI := Lib.hid (strs_lit (L := [s.data.toList]) (heap_alloc_new wr (.cells #[.string s] 9)) (by rw [List.map_singleton, ba_eta]))
          have hbw := (Bel.refl wr).alloc (.cells #[.string s] 9)
          replace HB2 := Lib.hid (HB2.out.trans hbw)
          clear hbw
          have hne : [s.data.toList] ≠ [] := by simp
          have hbl := build_len hne
          have hbt := build_bit hne
          rw [show sizeF [s.data.toList].length = 8 by unfold sizeF; simp] at hbl hbt
          rw [show bitsF [s.data.toList] 8 = placesL (hashN s.data.toList) 64 by unfold bitsF; simp] at hbt
          have hp4 := places_len (h := hashN s.data.toList) (bits := 64) (by decide)
          obtain ⟨M, hM⟩ : ∃ M, placesL (hashN s.data.toList) 64 = M := ⟨_, rfl⟩
          rw [hM] at hbt hp4
          obtain ⟨m0, m1, m2, m3, rfl⟩ := four_of hp4
          obtain ⟨f, hf⟩ : ∃ f : ByteArray, f = ⟨(buildF [s.data.toList]).toArray⟩ := ⟨_, rfl⟩
          have hfd : f.data.toList = buildF [s.data.toList] := by rw [hf]
          have hfs : f.size = 8 := by rw [hf, size_mk, hbl]
          rw [← hfd] at hbt
          have HBT := Lib.hid hbt
          have HFF := Lib.hid hf
          have HM := Lib.hid hM
          clear hbt hf hfd hbl hne hM
          go_wp2_with (fail)
          refine (build_at _ 1 1 [s.data.toList] _ HLI.out (by simp) (small_sing HS.out) rfl).mono ?_
          rw [← HFF.out]
          rintro e w3 ⟨rfl, hb⟩
          replace HB2 := Lib.hid (HB2.out.trans hb); clear hb
          go_wp2_with (fail)
          refine (places_at s 64 4 [m0, m1, m2, m3] w3 HS.out (by decide) HM.out rfl).mono ?_
          rintro e w4 ⟨q, qcap, rfl, hat, -, hb⟩
          replace HB2 := Lib.hid (HB2.out.trans hb); clear hb
          have HQ := Lib.hid hat; clear hat
          go_wp2_with (fail)
          refine (full_at f (cntTo f.data.toList 64 : Nat) 64 w4 (by omega) (by rw [show cntL f.data.toList = cntTo f.data.toList (8 * f.data.toList.length) from rfl, show f.data.toList.length = f.size from rfl, hfs]) (by rw [hfs]; rfl)).mono ?_
          rintro e w5 ⟨rfl, hb⟩
          replace HB2 := Lib.hid (HB2.out.trans hb.bel)
          replace HQ := Lib.hid (HQ.out.bel hb.bel); clear hb
          obtain ⟨ct, hct⟩ : ∃ ct, ct = cntTo f.data.toList 64 := ⟨_, rfl⟩
          have hct64 := cnt_to_le f.data.toList 64
          rw [← hct] at hct64 ⊢
          have HCT := Lib.hid hct; clear hct
          go_wp2_with (fail)
          go_loopw [12, 13] (fun cv iv x => (∃ i : Nat, i ≤ 64 ∧ iv = .int .i64 i ∧ cv = .int .i64 (cntTo f.data.toList i : Nat)) ∧ Drw w5 x) (fun _ iv _ => 64 - (intOf iv).toNat)
          case atStart => exact ⟨⟨0, by omega, rfl, rfl⟩, Drw.refl w5⟩
          case round =>
            obtain ⟨⟨i, hi, rfl, rfl⟩, hw⟩ := hrel
            have HW5 := Lib.hid hw; clear hw
            have hci := cnt_to_le f.data.toList i
            by_cases hlt : i < 64
            · have hBW := bit_walk3 f.data.toList i
              have HBI := Lib.hid (HBT.out i)
              have HCN := Lib.hid (fun b => cnt_bit f.data.toList i b)
              have hqi : (i : Int) / 8 = ((i / 8 : Nat) : Int) := by omega
              have hri : (i : Int) % 8 = ((i % 8 : Nat) : Int) := by omega
              have hql : i / 8 < f.size := by omega
              have hr8 : i % 8 < 8 := by omega
              generalize bitN f.data.toList i = t at *
              generalize i / 8 = z at *
              generalize i % 8 = r at *
              have hx : byteN f.data.toList z = f[z].toNat := by rw [byte_get (show z < f.data.toList.length from hql)]; rfl
              rw [hx] at hBW
              have hzli : (z : Int) < (f.size : Int) := by omega
              clear hx
              have hQ := HQ.out.bel HW5.out.bel
              obtain ⟨a, rfl, hq0⟩ := hQ 0 (by simp)
              obtain ⟨_, hq, hq1⟩ := hQ 1 (by simp); cases hq
              obtain ⟨_, hq, hq2⟩ := hQ 2 (by simp); cases hq
              obtain ⟨_, hq, hq3⟩ := hQ 3 (by simp); cases hq
              simp only [List.getElem_cons_zero, List.getElem_cons_succ] at hq0 hq1 hq2 hq3
              replace hq0 : wr.cell? a = some (.int .i64 (m0 : Int)) := hq0
              replace hq1 : wr.cell? ⟨a.block, a.off + 1, none⟩ = some (.int .i64 (m1 : Int)) := hq1
              replace hq2 : wr.cell? ⟨a.block, a.off + 2, none⟩ = some (.int .i64 (m2 : Int)) := hq2
              replace hq3 : wr.cell? ⟨a.block, a.off + 3, none⟩ = some (.int .i64 (m3 : Int)) := hq3
              clear hQ
              generalize cntTo f.data.toList i = c0 at *
              have HC1 := Lib.hid (HCN.out t rfl)
              clear HCN
              cases t with
              | false =>
                go_wp2_with (fail)
                go_roundw
                case rel => exact ⟨⟨i + 1, by omega, by go_num, by rw [HC1.out]; rfl⟩, HW5.out⟩
                case measure => simp [intOf]; omega
              | true =>
                have hmem := HBI.out.symm
                rw [decide_eq_true_iff] at hmem
                clear HBI
                have hor : (i : Int) = m0 ∨ (i : Int) = m1 ∨ (i : Int) = m2 ∨ (i : Int) = m3 := by
                  simp only [List.mem_cons, List.not_mem_nil, or_false] at hmem
                  omega
                clear hmem
                by_cases e0 : (i : Int) = m0
                · clear hor
                  obtain rfl : m0 = i := by omega
                  clear e0
                  go_wp2_with (fail)
                  go_roundw
                  case rel => exact ⟨⟨m0 + 1, by omega, by go_num, by rw [HC1.out]; rfl⟩, HW5.out⟩
                  case measure => simp [intOf]; omega
                by_cases e1 : (i : Int) = m1
                · clear hor
                  obtain rfl : m1 = i := by omega
                  clear e1
                  go_wp2_with (fail)
                  go_roundw
                  case rel => exact ⟨⟨m1 + 1, by omega, by go_num, by rw [HC1.out]; rfl⟩, HW5.out⟩
                  case measure => simp [intOf]; omega
                by_cases e2 : (i : Int) = m2
                · clear hor
                  obtain rfl : m2 = i := by omega
                  clear e2
                  go_wp2_with (fail)
                  go_roundw
                  case rel => exact ⟨⟨m2 + 1, by omega, by go_num, by rw [HC1.out]; rfl⟩, HW5.out⟩
                  case measure => simp [intOf]; omega
                have e3 : (i : Int) = m3 := by omega
                · clear hor
                  obtain rfl : m3 = i := by omega
                  clear e3
                  go_wp2_with (fail)
                  go_roundw
                  case rel => exact ⟨⟨m3 + 1, by omega, by go_num, by rw [HC1.out]; rfl⟩, HW5.out⟩
                  case measure => simp [intOf]; omega
            · obtain rfl : i = 64 := by omega
              have hl4i : (L.length : Int) = 4 := by rw [HL4.out]; rfl
              have HBE := Lib.hid (HB2.out.trans HW5.out.bel)
              rw [← HCT.out] at hci ⊢
              go_wp2_with (fail)
              go_ret
              exact ⟨rfl, HBE.out⟩
  · have h1' : ¬ (s.size : Int) ≤ 2000 := by omega
    go_wp2_with (fail)
    go_ret
    exact ⟨rfl, HB.out⟩
end Go.Proofs.Ytaabaphpllnieaa
