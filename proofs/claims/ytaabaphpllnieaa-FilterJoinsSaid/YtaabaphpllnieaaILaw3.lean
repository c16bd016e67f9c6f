/- The law FilterJoins walked. -/
import Derived.Test.YtaabaphpllnieaaILaw1
set_option linter.unusedSimpArgs false
set_option linter.unusedVariables false
namespace Go.Proofs.Ytaabaphpllnieaa
open Go.RowKit Go.Deep

theorem ext_len (a : ByteArray) (n : Nat) (h : n ≤ a.size) : (a.extract 0 n).size = n := by simp; omega
theorem ext_get (a : ByteArray) (n : Nat) (h : n ≤ a.size) (j : Nat) (hj : j < n) : byteN (a.extract 0 n).data.toList j = (a[j]'(by omega)).toNat := by
  have h1 : j < (a.extract 0 n).size := by rw [ext_len a n h]; exact hj
  rw [byte_ba _ j h1, ByteArray.getElem_extract]
  congr 2
  omega
theorem or_u8 (x y : UInt8) : bits .or .u8 (x.toNat : Int) (y.toNat : Int) = ((x ||| y).toNat : Int) := by
  rw [u8_or_nat _ _ x.toNat_lt y.toNat_lt, UInt8.toNat_or]
/-- The bytes laid over one another. -/
def OrTo (a b : ByteArray) (k : Nat) (l : List UInt8) : Prop := ∀ j (h : j < l.length) (ha : j < a.size) (hb : j < b.size), j < k → l[j] = a[j] ||| b[j]
theorem or_bits {a b : ByteArray} {n : Nat} {l : List UInt8} (ha : n ≤ a.size) (hb : n ≤ b.size) (hl : l.length = n) (h : OrTo a b n l) (j : Nat) (hj : j < 8 * l.length) :
    bitN l j = (bitN (a.extract 0 n).data.toList j || bitN (b.extract 0 n).data.toList j) := by
  have h8 : j / 8 < n := by omega
  unfold bitN
  rw [ext_get a n ha _ h8, ext_get b n hb _ h8, byte_get (by rw [hl]; exact h8), h _ (by rw [hl]; exact h8) (by omega) (by omega) h8, UInt8.toNat_or, Nat.testBit_or]
set_option maxHeartbeats 4000000 in
theorem law_joins_any (w : World) (a b key : ByteArray) (ha : a.size ≤ maxLen) (hb : b.size ≤ maxLen) (hk : key.size ≤ maxLen) :
    Calls Try.prog 7 #[.string a, .string b, .string key] w fun e w' => e = .returned (.bool true) ∧ Bel w w' := by
  have HK := Lib.hid hk
  unfold maxLen at ha hb hk
  obtain ⟨n, hn⟩ : ∃ n, n = min a.size b.size := ⟨_, rfl⟩
  have hna : n ≤ a.size := by omega
  have hnb : n ≤ b.size := by omega
  have hmn : (if b.size < a.size then (b.size : Int) else (a.size : Int)) = (n : Nat) := by split <;> omega
  have hn1 : n ≤ 9223372036854775807 := by omega
  clear hn
  go_enter Try.func7, Try.ntmps7
  go_wp2_with (fail)
  refine (shown_any w).mono ?_
  rintro e w1 ⟨rfl, hb⟩
  have HB := Lib.hid hb; clear hb
  by_cases h1 : n ≤ 1000
  · have h1' : (n : Int) ≤ 1000 := by omega
    by_cases h2 : key.size ≤ 300
    · have h2' : (key.size : Int) ≤ 300 := by omega
      have hmk := run_make_row' (P := Try.prog) 37 5 (.int .u8 0) 1 Try.underlying37 infoByte9 rfl .i64 .i64 n (by omega) (by omega)
      have HR := Lib.hid (ByteRow.made w1 n)
      have HB1 := Lib.hid (HB.out.alloc (.cells (madeCells #[.int .u8 0] n) 5))
      have hw1 : w.heap.size ≤ w1.heap.size := HB.out.size
      have HW1 := Lib.hid hw1
      clear hw1
      go_wp2_with (fail)
      go_loopw [10] (fun iv x => (∃ (k : Nat) (l : List UInt8), k ≤ n ∧ iv = .int .i64 k ∧ l.length = n ∧ OrTo a b k l ∧ ByteRow x w1.heap.size l) ∧ Bel w x ∧ w1.heap.size < x.heap.size) (fun iv _ => n - (intOf iv).toNat)
      case atStart => exact ⟨⟨0, zeroL n, Nat.zero_le _, rfl, zero_len n, fun j _ _ _ h => by omega, HR.out⟩, HB1.out, by simp⟩
      case round =>
        obtain ⟨⟨k, l, hk, rfl, hl, ho, hrow⟩, hbx, hsz⟩ := hrel
        have HBX := Lib.hid hbx; clear hbx
        have HSZ := Lib.hid hsz; clear hsz
        have HRW := Lib.hid hrow
        have HO := Lib.hid ho; clear ho
        have HLN := Lib.hid hl
        by_cases hlt : k < n
        · have hla : k < a.size := by omega
          have hlb : k < b.size := by omega
          have hkl : k < l.length := by omega
          have hcb := (hrow k hkl).1
          have hfb := (hrow k hkl).2
          have hOR := or_u8 a[k] b[k]
          have HO2 := Lib.hid (show OrTo a b (k + 1) (l.set k (a[k] ||| b[k])) from fun j hj ja jb hjk => by
            by_cases e : j = k
            · subst e; rw [List.getElem_set_self]
            · rw [List.getElem_set_ne (fun h => e h.symm)]; exact HO.out j (by rw [List.length_set] at hj; exact hj) ja jb (by omega))
          have HRW2 := Lib.hid (HRW.out.set k hkl (a[k] ||| b[k]))
          have hlai : (k : Int) < (a.size : Int) := by omega
          have hlbi : (k : Int) < (b.size : Int) := by omega
          have hkni : (k : Int) < (n : Int) := by omega
          generalize l[k] = old at hcb
          clear hrow hl hkl
          go_wp2_with (fail)
          refine wp_region_still_tail 10 (by kernel_rfl) (by kernel_rfl) ?_
          change wpStill _ _ (World.drew _) _ _ _
          simp only [List.take_succ_cons, List.take_zero, List.drop_succ_cons, List.drop_zero]
          iterate 10 still_step
          refine wpStill_nil ?_
          change wpList _ _ _ _ _ (World.drew _)
          go_wp2_with (fail)
          go_roundw
          case rel => exact ⟨⟨k + 1, l.set k (a[k] ||| b[k]), hlt, by go_num, by rw [List.length_set]; exact HLN.out, HO2.out, HRW2.out.bel (Bel.refl _).drew⟩, (HBX.out.setCell HW1.out _).drew, by simpa using HSZ.out⟩
          case measure => simp [intOf]; omega
        · obtain rfl : k = n := by omega
          have hcv := hrow.conv k
          rw [hl] at hcv
          obtain ⟨A, hA⟩ : ∃ A, a.extract 0 k = A := ⟨_, rfl⟩
          obtain ⟨B, hB⟩ : ∃ B, b.extract 0 k = B := ⟨_, rfl⟩
          obtain ⟨C, hC⟩ : ∃ C : ByteArray, C = ⟨l.toArray⟩ := ⟨_, rfl⟩
          have hAs : A.size = k := by rw [← hA]; exact ext_len a k hna
          have hBs : B.size = k := by rw [← hB]; exact ext_len b k hnb
          have hCs : C.size = k := by rw [hC, size_mk]; exact hl
          have hCl : C.data.toList = l := by rw [hC]
          have hbits : ∀ j, j < 8 * C.data.toList.length → bitN C.data.toList j = (bitN A.data.toList j || bitN B.data.toList j) := by
            rw [hCl, ← hA, ← hB]; exact fun j hj => or_bits hna hnb hl HO.out j hj
          have hAC : A.data.toList.length = C.data.toList.length := by show A.size = C.size; omega
          have hBC : B.data.toList.length = C.data.toList.length := by show B.size = C.size; omega
          have hcnt := cnt_join hAC hBC hbits
          have hc8 := cnt_to_le C.data.toList (8 * C.data.toList.length)
          have hca := cnt_to_le A.data.toList (8 * A.data.toList.length)
          have hcb := cnt_to_le B.data.toList (8 * B.data.toList.length)
          have hm1 := fun h => may_join (key := key.data.toList) hAC (fun j hj h => by rw [hbits j hj, h, Bool.true_or]) h
          have hm2 := fun h => may_join (key := key.data.toList) hBC (fun j hj h => by rw [hbits j hj, h, Bool.or_true]) h
          rw [← hC] at hcv
          rw [show C.data.toList.length = C.size from rfl, hCs] at hc8
          rw [show A.data.toList.length = A.size from rfl, hAs] at hca
          rw [show B.data.toList.length = B.size from rfl, hBs] at hcb
          obtain ⟨one, h1o⟩ : ∃ m, mayF A.data.toList key.data.toList = m := ⟨_, rfl⟩
          obtain ⟨two, h2o⟩ : ∃ m, mayF B.data.toList key.data.toList = m := ⟨_, rfl⟩
          obtain ⟨thr, h3o⟩ : ∃ m, mayF C.data.toList key.data.toList = m := ⟨_, rfl⟩
          obtain ⟨x, hx⟩ : ∃ x : Nat, x = cntL A.data.toList := ⟨_, rfl⟩
          obtain ⟨y, hy⟩ : ∃ x : Nat, x = cntL B.data.toList := ⟨_, rfl⟩
          obtain ⟨z, hz⟩ : ∃ x : Nat, x = cntL C.data.toList := ⟨_, rfl⟩
          rw [← hx, ← hy, ← hz] at hcnt
          rw [show cntTo C.data.toList (8 * k) = cntL C.data.toList by unfold cntL cntTo; rw [show C.data.toList.length = C.size from rfl, hCs], ← hz] at hc8
          rw [show cntTo A.data.toList (8 * k) = cntL A.data.toList by unfold cntL cntTo; rw [show A.data.toList.length = A.size from rfl, hAs], ← hx] at hca
          rw [show cntTo B.data.toList (8 * k) = cntL B.data.toList by unfold cntL cntTo; rw [show B.data.toList.length = B.size from rfl, hBs], ← hy] at hcb
          rw [h1o, h3o] at hm1
          rw [h2o, h3o] at hm2
          have H1 := Lib.hid h1o; have H2 := Lib.hid h2o; have H3 := Lib.hid h3o
          have HX := Lib.hid hx; have HY := Lib.hid hy; have HZ := Lib.hid hz
          have HAS := Lib.hid (show A.size ≤ 1000000 by omega)
          have HBS := Lib.hid (show B.size ≤ 1000000 by omega)
          have HCS := Lib.hid (show C.size ≤ 1000000 by omega)
          have HM1 := Lib.hid hm1; have HM2 := Lib.hid hm2
          obtain ⟨hc1, hc2, hc3⟩ := hcnt
          have HC := Lib.hid hC
          obtain ⟨mx, hmx⟩ : ∃ m : Nat, m = max x y := ⟨_, rfl⟩
          have hmxe : (if x < y then (y : Int) else (x : Int)) = (mx : Nat) := by split <;> omega
          have hmxz : mx ≤ z := by omega
          clear hmx
          clear h1o h2o h3o hx hy hz hm1 hm2 hbits hAC hBC hCl hC hrow hl hlt
          go_wp2_with (fail)
          refine (may_at A key one _ HAS.out HK.out H1.out).mono ?_
          rintro e w2 ⟨rfl, hb⟩
          have HB2 := Lib.hid (HBX.out.trans hb)
          have HRX := Lib.hid (HRW.out.bel hb)
          clear hb
          go_wp2_with (fail)
          refine (may_at B key two _ HBS.out HK.out H2.out).mono ?_
          rintro e w3 ⟨rfl, hb⟩
          replace HB2 := Lib.hid (HB2.out.trans hb)
          replace HRX := Lib.hid (HRX.out.bel hb)
          clear hb
          go_wp2_with (fail)
          refine (full_at A x (8 * (k : Int)) _ HAS.out (by rw [HX.out]) (by rw [hAs]; omega)).mono ?_
          rintro e w4 ⟨rfl, hb⟩
          replace HB2 := Lib.hid (HB2.out.trans hb.bel)
          replace HRX := Lib.hid (HRX.out.bel hb.bel)
          clear hb
          go_wp2_with (fail)
          refine (full_at B y (8 * (k : Int)) _ HBS.out (by rw [HY.out]) (by rw [hBs]; omega)).mono ?_
          rintro e w5 ⟨rfl, hb⟩
          replace HB2 := Lib.hid (HB2.out.trans hb.bel)
          replace HRX := Lib.hid (HRX.out.bel hb.bel)
          clear hb
          have hcv5 := HRX.out.conv k
          rw [HLN.out, ← HC.out] at hcv5
          go_wp2_with (fail)
          refine (full_at C z (8 * (k : Int)) _ HCS.out (by rw [HZ.out]) (by rw [hCs]; omega)).mono ?_
          rintro e w6 ⟨rfl, hb⟩
          replace HB2 := Lib.hid (HB2.out.trans hb.bel)
          replace HRX := Lib.hid (HRX.out.bel hb.bel)
          clear hb
          have hcv6 := HRX.out.conv k
          rw [HLN.out, ← HC.out] at hcv6
          have hmxz' : (mx : Int) ≤ (z : Int) := by omega
          have hxyz' : (z : Int) ≤ (x : Int) + (y : Int) := by omega
          clear hcv hcv5
          cases one with
          | true =>
            obtain rfl := HM1.out rfl
            clear HM1 HM2
            go_wp2_with (fail)
            refine (may_at C key true _ HCS.out HK.out H3.out).mono ?_
            rintro e w7 ⟨rfl, hb⟩
            replace HB2 := Lib.hid (HB2.out.trans hb)
            clear hb
            go_wp2_with (fail)
            go_ret
            exact ⟨rfl, HB2.out⟩
          | false =>
            cases two with
            | true =>
              obtain rfl := HM2.out rfl
              clear HM1 HM2
              go_wp2_with (fail)
              refine (may_at C key true _ HCS.out HK.out H3.out).mono ?_
              rintro e w7 ⟨rfl, hb⟩
              replace HB2 := Lib.hid (HB2.out.trans hb)
              clear hb
              go_wp2_with (fail)
              go_ret
              exact ⟨rfl, HB2.out⟩
            | false =>
              clear HM1 HM2
              go_wp2_with (fail)
              go_ret
              exact ⟨rfl, HB2.out⟩
    · have h2' : ¬ (key.size : Int) ≤ 300 := by omega
      go_wp2_with (fail)
      go_ret
      exact ⟨rfl, HB.out⟩
  · have h1' : ¬ (n : Int) ≤ 1000 := by omega
    go_wp2_with (fail)
    go_ret
    exact ⟨rfl, HB.out⟩
end Go.Proofs.Ytaabaphpllnieaa
