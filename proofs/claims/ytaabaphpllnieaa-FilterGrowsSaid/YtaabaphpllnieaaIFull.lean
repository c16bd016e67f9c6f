/- filter.Full, moultref9.Full. -/
import Derived.Test.YtaabaphpllnieaaIMake
import Derived.Lib.BitFns
set_option linter.unusedSimpArgs false
set_option linter.unusedVariables false
namespace Go.Proofs.Ytaabaphpllnieaa
open Go.RowKit Go.Deep

theorem pop8_popN (b : UInt8) : Lib.pop8 (b.toNat : Int) = (popN b.toNat : Nat) := by
  rw [pop_bits 8 b.toNat b.toNat_lt]
  have h : ∀ n : Fin 256, Lib.pop8 (n.val : Int) = (((List.range 8).filter (fun i => n.val.testBit i)).length : Nat) := by decide +kernel
  exact h ⟨b.toNat, b.toNat_lt⟩
theorem pop_end (b : UInt8) (h : b.toNat < Lib.pop8tab.size) : wrap64 ((Lib.pop8tab[b.toNat]).toNat : Int) = (popN b.toNat : Nat) := by
  have h1 := pop8_popN b
  have h3 := (Lib.pop8tab[b.toNat]).toNat_lt
  have h2 : Lib.pop8 (b.toNat : Int) = ((Lib.pop8tab[b.toNat]).toNat : Int) := by
    unfold Lib.pop8
    rw [Int.toNat_natCast, ByteArray.getElem?_lt' _ _ h, Option.getD_some]
  rw [← h1, h2]
  unfold wrap64
  omega
set_option maxHeartbeats 1000000 in
set_option maxRecDepth 100000 in
theorem ones_any (b : UInt8) (w : World) :
    Calls Try.prog 24 #[.int .u8 (b.toNat : Int)] w fun e w' => e = .returned (.int .i64 (popN b.toNat : Nat)) ∧ Drw w w' := by
  have hb := b.toNat_lt
  go_enter Try.func24, Try.ntmps24
  go_wp2_with (fail)
  go_ret
  exact ⟨ret_int (pop_end b _), Drw.refl w⟩

theorem cnt_next (L : List UInt8) (k : Nat) : cntTo L (8 * (k + 1)) = cntTo L (8 * k) + popN (byteN L k) := by
  rw [cnt_bytes, cnt_bytes, List.range_succ, List.map_append, List.sum_append]
  simp
theorem cnt_to_le (L : List UInt8) (n : Nat) : cntTo L n ≤ n := by
  unfold cntTo
  refine Nat.le_trans (List.length_filter_le _ _) ?_
  simp
theorem byte_ba (f : ByteArray) (k : Nat) (h : k < f.size) : byteN f.data.toList k = f[k].toNat := by rw [byte_get (show k < f.data.toList.length from h)]; rfl
/-- What Full answers. -/
def fullV (f : List UInt8) : Value := .tuple #[.int .i64 (cntL f : Nat), .int .i64 ((8 * f.length : Nat) : Int)]
set_option maxHeartbeats 1000000 in
theorem full_any (f : ByteArray) (w : World) (hf : f.size ≤ 1000000) :
    Calls Try.prog 17 #[.string f] w fun e w' => e = .returned (fullV f.data.toList) ∧ Drw w w' := by
  have hfl : f.data.toList.length = f.size := rfl
  have HV := Lib.hid (show fullV f.data.toList = .tuple #[.int .i64 (cntTo f.data.toList (8 * f.size) : Nat), .int .i64 (8 * (f.size : Int))] by unfold fullV; rw [hfl]; rfl)
  clear hfl
  go_enter Try.func17, Try.ntmps17
  go_wp2_with (fail)
  go_loopw [4, 8] (fun nv iv x => (∃ k : Nat, k ≤ f.size ∧ iv = .int .i64 k ∧ nv = .int .i64 (cntTo f.data.toList (8 * k) : Nat)) ∧ Drw w x) (fun _ iv _ => f.size - (intOf iv).toNat)
  case atStart => exact ⟨⟨0, Nat.zero_le _, rfl, rfl⟩, Drw.refl w⟩
  case round =>
    obtain ⟨⟨k, hk, rfl, rfl⟩, hw⟩ := hrel
    have HW := Lib.hid hw; clear hw
    have hcl := cnt_to_le f.data.toList (8 * k)
    by_cases hlt : k < f.size
    · have HX := Lib.hid (cnt_next f.data.toList k)
      rw [byte_ba f k hlt] at HX
      have hcl2 := cnt_to_le f.data.toList (8 * (k + 1))
      have hcx := HX.out
      obtain ⟨c1, hc1⟩ : ∃ c, c = cntTo f.data.toList (8 * (k + 1)) := ⟨_, rfl⟩
      rw [← hc1] at HX hcl2 hcx
      have HC1 := Lib.hid hc1; clear hc1
      generalize cntTo f.data.toList (8 * k) = c0 at *
      go_wp2_with (fail)
      refine (ones_any f[k] wr).mono ?_
      rintro e w1 ⟨rfl, hd⟩
      have HD := Lib.hid (HW.out.trans hd); clear hd
      generalize popN f[k].toNat = pc at *
      go_wp2_with (fail)
      go_roundw
      case rel => exact ⟨⟨k + 1, hlt, by go_num, by rw [← HC1.out, hcx]; go_num⟩, HD.out⟩
      case measure => simp [intOf]; omega
    · obtain rfl : k = f.size := by omega
      generalize cntTo f.data.toList (8 * f.size) = c0 at *
      go_wp2_with (fail)
      go_ret2
      exact ⟨by rw [HV.out]; rfl, HW.out⟩
theorem pop_zero : popN 0 = 0 := by unfold popN; rfl
theorem pop_step {c : Nat} (h : c ≠ 0) : popN c = c % 2 + popN (c / 2) := by rw [popN]; rw [dif_neg h]
set_option maxHeartbeats 1000000 in
theorem rfull_any (f : ByteArray) (w : World) (hf : f.size ≤ 1000000) :
    Calls Try.prog 18 #[.string f] w fun e w' => e = .returned (fullV f.data.toList) ∧ Drw w w' := by
  have hfl : f.data.toList.length = f.size := rfl
  have HV := Lib.hid (show fullV f.data.toList = .tuple #[.int .i64 (cntTo f.data.toList (8 * f.size) : Nat), .int .i64 (8 * (f.size : Int))] by unfold fullV; rw [hfl]; rfl)
  clear hfl
  go_enter Try.func18, Try.ntmps18
  go_wp2_with (fail)
  go_loopw [4, 5] (fun nv iv x => (∃ k : Nat, k ≤ f.size ∧ iv = .int .i64 k ∧ nv = .int .i64 (cntTo f.data.toList (8 * k) : Nat)) ∧ Drw w x) (fun _ iv _ => f.size - (intOf iv).toNat)
  case atStart => exact ⟨⟨0, Nat.zero_le _, rfl, rfl⟩, Drw.refl w⟩
  case round =>
    obtain ⟨⟨k, hk, rfl, rfl⟩, hw⟩ := hrel
    have HW := Lib.hid hw; clear hw
    have hcl := cnt_to_le f.data.toList (8 * k)
    by_cases hlt : k < f.size
    · have hcx := cnt_next f.data.toList k
      rw [byte_ba f k hlt] at hcx
      have hcl2 := cnt_to_le f.data.toList (8 * (k + 1))
      obtain ⟨c1, hc1⟩ : ∃ c, c = cntTo f.data.toList (8 * (k + 1)) := ⟨_, rfl⟩
      rw [← hc1] at hcl2 hcx
      have HC1 := Lib.hid hc1; clear hc1
      generalize cntTo f.data.toList (8 * k) = c0 at *
      have hxl := f[k].toNat_lt
      go_wp2_with (fail)
      obtain ⟨y, hy⟩ : ∃ y, y = wr := ⟨_, rfl⟩
      go_loopw [4, 6] (fun nv cv x => (∃ n c : Nat, nv = .int .i64 n ∧ cv = .int .i64 c ∧ c < 256 ∧ n + popN c = c1) ∧ Drw w x) (fun _ cv _ => (intOf cv).toNat)
      case atStart => exact ⟨⟨c0, f[k].toNat, rfl, rfl, hxl, hcx.symm⟩, HW.out⟩
      case round =>
        obtain ⟨⟨n, c, rfl, rfl, hc, hnc⟩, hw2⟩ := hrel
        have HW2 := Lib.hid hw2; clear hw2
        by_cases h0 : c = 0
        · subst h0
          rw [pop_zero] at hnc
          go_wp2_with (fail)
          go_roundw
          case rel => exact ⟨⟨k + 1, hlt, by go_num, by rw [← HC1.out, ← hnc]; rfl⟩, HW2.out⟩
          case measure => simp [intOf]; omega
        · rw [pop_step h0] at hnc
          obtain ⟨pc, hpc⟩ : ∃ p, p = popN (c / 2) := ⟨_, rfl⟩
          rw [← hpc] at hnc
          have HPC := Lib.hid hpc; clear hpc
          have h0' : 0 < c := by omega
          go_wp2_with (fail)
          go_roundw
          case rel => exact ⟨⟨n + c % 2, c / 2, by go_num, by go_num, by omega, by rw [← HPC.out]; omega⟩, HW2.out⟩
          case measure => simp [intOf]; omega
    · obtain rfl : k = f.size := by omega
      generalize cntTo f.data.toList (8 * f.size) = c0 at *
      go_wp2_with (fail)
      go_ret2
      exact ⟨by rw [HV.out]; rfl, HW.out⟩
end Go.Proofs.Ytaabaphpllnieaa
