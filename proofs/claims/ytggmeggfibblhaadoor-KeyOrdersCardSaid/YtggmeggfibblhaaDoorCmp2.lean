/- The contracts of moultref1's Bytes and Compare. -/
import Derived.Test.YtggmeggfibblhaaDoorCmp
set_option linter.unusedSimpArgs false
set_option linter.unusedVariables false
namespace Go.Proofs.YtggmeggfibblhaaDoor
open Go.RowKit

def CmpRel (a b : List UInt8) (k : Nat) : Prop := Lib.compareBytes (a.drop k) (b.drop k) = Lib.compareBytes a b

theorem drop_at (a : ByteArray) (k : Nat) (h : k < a.size) : a.data.toList.drop k = a[k] :: a.data.toList.drop (k + 1) := by
  rw [List.drop_eq_getElem_cons (by simpa using h)]
  rfl

theorem cmp_lt (a b : ByteArray) (k : Nat) (h : k < a.size) (h' : k < b.size) (hr : CmpRel a.data.toList b.data.toList k) (hl : a[k].toNat < b[k].toNat) : Lib.compareBytes a.data.toList b.data.toList = -1 := by
  rw [← hr, drop_at a k h, drop_at b k h', Lib.compareBytes, if_pos (UInt8.lt_iff_toNat_lt.2 hl)]
theorem cmp_gt (a b : ByteArray) (k : Nat) (h : k < a.size) (h' : k < b.size) (hr : CmpRel a.data.toList b.data.toList k) (hl : b[k].toNat < a[k].toNat) : Lib.compareBytes a.data.toList b.data.toList = 1 := by
  rw [← hr, drop_at a k h, drop_at b k h', Lib.compareBytes, if_neg (by rw [UInt8.lt_iff_toNat_lt]; omega), if_pos (UInt8.lt_iff_toNat_lt.2 hl)]
theorem cmp_eq (a b : ByteArray) (k : Nat) (h : k < a.size) (h' : k < b.size) (hr : CmpRel a.data.toList b.data.toList k) (hl : b[k].toNat = a[k].toNat) : CmpRel a.data.toList b.data.toList (k + 1) := by
  unfold CmpRel
  rw [← hr, drop_at a k h, drop_at b k h', Lib.compareBytes, if_neg (by rw [UInt8.lt_iff_toNat_lt]; omega), if_neg (by rw [UInt8.lt_iff_toNat_lt]; omega)]
theorem cmp_end (a b : ByteArray) (k : Nat) (h : k ≤ a.size) (h' : k ≤ b.size) (hr : CmpRel a.data.toList b.data.toList k) (hl : k = a.size ∨ k = b.size) : Lib.compareBytes a.data.toList b.data.toList = cmpI a.size b.size := by
  rw [← hr]
  have ha : (a.data.toList.drop k).length = a.size - k := by rw [List.length_drop]; rfl
  have hb : (b.data.toList.drop k).length = b.size - k := by rw [List.length_drop]; rfl
  generalize a.data.toList.drop k = l at *
  generalize b.data.toList.drop k = m at *
  cases l <;> cases m <;> simp [Lib.compareBytes, cmpI] at * <;> omega

def BytesRel (a b : ByteArray) (i : Value) : Prop := ∃ k : Nat, k ≤ a.size ∧ k ≤ b.size ∧ i = .int .i64 k ∧ CmpRel a.data.toList b.data.toList k

set_option maxHeartbeats 1000000 in
theorem ref_bytes_any (a b : ByteArray) (w : World) (ha : a.size ≤ maxLen) (hb : b.size ≤ maxLen) :
    Calls Tryd.prog 20 #[.string a, .string b] w fun e w' => e = .returned (.int .i64 (Lib.compareBytes a.data.toList b.data.toList)) ∧ Drw w w' := by
  unfold maxLen at ha hb
  go_enter Tryd.func20, Tryd.ntmps20
  go_wp2
  go_loopw [5] (fun i w' => BytesRel a b i ∧ Drw w w') (fun i _ => a.size - (intOf i).toNat)
  case atStart => exact ⟨⟨0, Nat.zero_le _, Nat.zero_le _, rfl, rfl⟩, Drw.refl _⟩
  case round =>
    obtain ⟨⟨k, hka, hkb, rfl, hr⟩, hw⟩ := hrel
    have HR := Lib.hid hr; clear hr
    have HW := Lib.hid hw; clear hw
    by_cases hla : k < a.size
    · by_cases hlb : k < b.size
      · have i1 : (k : Int) < (a.size : Int) := by omega
        have i2 : (k : Int) < (b.size : Int) := by omega
        by_cases h1 : a[k].toNat < b[k].toNat
        · go_wp2
          go_quiet (fail)
          go_wp2
          go_ret
          exact ⟨ret_int (by rw [cmp_lt a b k hla hlb HR.out h1]), HW.out.drewN _⟩
        · by_cases h2 : b[k].toNat < a[k].toNat
          · go_wp2
            go_quiet (fail)
            go_wp2
            go_quiet (fail)
            go_wp2
            go_ret
            exact ⟨ret_int (by rw [cmp_gt a b k hla hlb HR.out h2]), (HW.out.drewN _).drewN _⟩
          · go_wp2
            go_quiet (fail)
            go_wp2
            go_quiet (fail)
            go_wp2
            go_roundw
            case rel => exact ⟨⟨k + 1, hla, hlb, by go_num, cmp_eq a b k hla hlb HR.out (by omega)⟩, HW.out.drewN _⟩
            case measure => simp [intOf]; omega
      · go_wp2
        all_goals
          go_ret
          refine ⟨ret_int ?_, HW.out⟩
          rw [cmp_end a b k hka hkb HR.out (by omega)]
          go_light
          unfold cmpI
          try (simp; omega)
    · go_wp2
      all_goals
        go_ret
        refine ⟨ret_int ?_, HW.out⟩
        rw [cmp_end a b k hka hkb HR.out (by omega)]
        go_light
        unfold cmpI
        try (simp; omega)

def RefCmpRel (k n k' n' : Int) (i : Value) : Prop := i = .int .i64 0 ∨ (i = .int .i64 1 ∧ k = k') ∨ (i = .int .i64 2 ∧ k = k' ∧ n = n')

def RefCmpW (w : World) (k n : Int) (s : ByteArray) (k' n' : Int) (s' : ByteArray) (x : World) : Prop :=
  Bel w x ∧ x.cell? ⟨w.heap.size, 2, none⟩ = some (.string s) ∧ x.cell? ⟨w.heap.size + 1, 2, none⟩ = some (.string s') ∧
  x.cell? ⟨w.heap.size + 1 + 1, 0, none⟩ = some (.int .i64 k) ∧ x.cell? ⟨w.heap.size + 1 + 1, 1, none⟩ = some (.int .i64 n) ∧
  x.cell? ⟨w.heap.size + 1 + 1 + 1, 0, none⟩ = some (.int .i64 k') ∧ x.cell? ⟨w.heap.size + 1 + 1 + 1, 1, none⟩ = some (.int .i64 n')
theorem RefCmpW.drewN {w x : World} {k n k' n' : Int} {s s' : ByteArray} (h : RefCmpW w k n s k' n' s' x) (m : Nat) : RefCmpW w k n s k' n' s' (x.drewN m) :=
  ⟨h.1.drewN m, h.2⟩

set_option maxHeartbeats 1000000 in
theorem ref_compare_any (k n : Int) (s : ByteArray) (k' n' : Int) (s' : ByteArray) (w : World) (ha : s.size ≤ maxLen) (hb : s'.size ≤ maxLen) :
    Calls Tryd.prog 21 #[.agg #[.int .i64 k, .int .i64 n, .string s], .agg #[.int .i64 k', .int .i64 n', .string s']] w fun e w' => e = .returned (.int .i64 (cmpV k n s.data.toList k' n' s'.data.toList)) ∧ Bel w w' := by
  go_enter Tryd.func21, Tryd.ntmps21
  go_wp2
  go_loopw [7] (fun i x => RefCmpRel k n k' n' i ∧ RefCmpW w k n s k' n' s' x) (fun i _ => 2 - (intOf i).toNat)
  case atStart => exact ⟨Or.inl rfl, ((((Bel.refl w).alloc _).alloc _).alloc _).alloc _, by go_simp, by go_simp, by go_simp, by go_simp, by go_simp, by go_simp⟩
  case round =>
    obtain ⟨hi, hx⟩ := hrel
    obtain ⟨hbel, c2, c2', x0, x1, y0, y1⟩ := hx
    have HX : RefCmpW w k n s k' n' s' wr := ⟨hbel, c2, c2', x0, x1, y0, y1⟩
    have HB := Lib.hid HX; clear hbel HX
    rcases hi with rfl | ⟨rfl, hk⟩ | ⟨rfl, hk, hn⟩
    · by_cases h1 : k < k'
      · go_wp2
        go_quiet (fail)
        go_wp2
        go_ret
        refine ⟨ret_int ?_, by first | exact (HB.out.1.drewN _).drewN _ | exact HB.out.1.drewN _⟩
        go_light
        have h2 : cmpI k k' = -1 := by simp [cmpI, h1]
        simp [cmpV, or3, h2]
      · by_cases h2 : k' < k
        · go_wp2
          go_quiet (fail)
          go_wp2
          go_quiet (fail)
          go_wp2
          go_ret
          refine ⟨ret_int ?_, by first | exact (HB.out.1.drewN _).drewN _ | exact HB.out.1.drewN _⟩
          go_light
          have h3 : cmpI k k' = 1 := by simp [cmpI, h1, h2]
          simp [cmpV, or3, h3]
        · go_wp2
          go_quiet (fail)
          go_wp2
          go_quiet (fail)
          go_wp2
          go_roundw
          case rel => exact ⟨Or.inr (Or.inl ⟨rfl, by omega⟩), by first | exact HB.out.drewN _ | exact (HB.out.drewN _).drewN _⟩
          case measure => simp [intOf]
    · have HK := Lib.hid hk; clear hk
      have h0 := Lib.hid (show cmpI k k' = 0 by simp [cmpI, HK.out])
      by_cases h1 : n < n'
      · go_wp2
        go_quiet (fail)
        go_wp2
        go_ret
        refine ⟨ret_int ?_, by first | exact (HB.out.1.drewN _).drewN _ | exact HB.out.1.drewN _⟩
        go_light
        have h2 : cmpI n n' = -1 := by simp [cmpI, h1]
        simp [cmpV, or3, h2, h0.out]
      · by_cases h2 : n' < n
        · go_wp2
          go_quiet (fail)
          go_wp2
          go_quiet (fail)
          go_wp2
          go_ret
          refine ⟨ret_int ?_, by first | exact (HB.out.1.drewN _).drewN _ | exact HB.out.1.drewN _⟩
          go_light
          have h3 : cmpI n n' = 1 := by simp [cmpI, h1, h2]
          simp [cmpV, or3, h3, h0.out]
        · go_wp2
          go_quiet (fail)
          go_wp2
          go_quiet (fail)
          go_wp2
          go_roundw
          case rel => exact ⟨Or.inr (Or.inr ⟨rfl, HK.out, by omega⟩), by first | exact HB.out.drewN _ | exact (HB.out.drewN _).drewN _⟩
          case measure => simp [intOf]
    · have h0 := Lib.hid (show cmpI k k' = 0 by simp [cmpI, hk])
      have h1 := Lib.hid (show cmpI n n' = 0 by simp [cmpI, hn])
      clear hk hn
      go_wp2_with (go_at_call 20; refine (ref_bytes_any s s' _ ha hb).mono ?_; rintro e w1 ⟨rfl, hw1⟩)
      go_ret
      refine ⟨ret_int ?_, HB.out.1.trans hw1.bel⟩
      simp [cmpV, or3, h0.out, h1.out]
end Go.Proofs.YtggmeggfibblhaaDoor
