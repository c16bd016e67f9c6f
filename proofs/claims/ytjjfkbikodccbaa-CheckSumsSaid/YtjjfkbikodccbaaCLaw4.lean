/- CheckSums: true for every argument. -/
import Derived.Test.YtjjfkbikodccbaaCBytes
import Derived.Deep.RegionWith
set_option linter.unusedSimpArgs false
set_option linter.unusedVariables false
namespace Go.Proofs.Ytjjfkbikodccbaa
open Go.RowKit Go.Deep

theorem sum5_at (s : ByteArray) (l : List UInt8) (w : World) (hs : s.size ≤ 1000000) (h : s.data.toList = l) :
    Calls Try.prog 12 #[.string s] w fun e w' => e = .returned (.int .u32 ((crcN l : Nat) : Int)) ∧ Drw w w' := by
  subst h; exact sum5_any s w (by unfold maxLen; omega)
/-- A list, so many of whose bytes have been written. -/
def partL (X : List UInt8) (k : Nat) : List UInt8 := X.take k ++ List.replicate (X.length - k) 0
theorem part_len (X : List UInt8) (k : Nat) (h : k ≤ X.length) : (partL X k).length = X.length := by
  rw [partL, List.length_append, List.length_take, List.length_replicate]; omega
theorem part_zero (X : List UInt8) : partL X 0 = List.replicate X.length 0 := by simp [partL]
theorem part_all (X : List UInt8) : partL X X.length = X := by simp [partL]
theorem part_set (X : List UInt8) (k : Nat) (h : k < X.length) : (partL X k).set k X[k] = partL X (k + 1) := by
  obtain ⟨j, hj⟩ : ∃ j, X.length - k = j + 1 := ⟨X.length - k - 1, by omega⟩
  have hj2 : X.length - (k + 1) = j := by omega
  unfold partL
  rw [hj, hj2, List.set_append_right _ _ (by rw [List.length_take]; omega), List.length_take, Nat.min_eq_left (by omega), Nat.sub_self, List.replicate_succ, List.set_cons_zero,
    List.take_add_one, List.getElem?_eq_getElem h, List.append_assoc]
  rfl
theorem made_row (w : World) (n : Nat) : ByteRow (w.alloc (.cells (madeCells #[.int .u8 0] n) 5)) w.heap.size (List.replicate n 0) := by
  have h := World.rowIs_made w (.int .u8 0) n 5
  intro j hj
  rw [List.length_replicate] at hj
  refine ⟨?_, h.frozen j⟩
  rw [h.cell hj]
  simp
theorem byte_of_int (z : Int) : ((UInt8.ofNat (z % 256).toNat).toNat : Int) = IntKind.u8.wrap z := by
  rw [IntKind.wrap_u8', UInt8.toNat_ofNat']
  omega
theorem over3_get (A B C : List UInt8) (hb : A.length = B.length) (hc : A.length = C.length) (k : Nat) (hk : k < A.length) (h : k < (overL (overL A B) C).length) :
    (overL (overL A B) C)[k] = A[k] ^^^ B[k] ^^^ C[k] := by
  have h2 : (overL A B).length = C.length := by rw [over_len A B hb, hc]
  rw [over_get (overL A B) C h2 k h, over_get A B hb k (by rw [over_len A B hb]; exact hk)]
theorem ByteRow.other {w : World} {b : Nat} {l : List UInt8} (h : ByteRow w b l) {p : Addr} (hp : b ≠ p.block) (u : Value) : ByteRow (w.setCell p u) b l := by
  intro j hj
  obtain ⟨h1, h2⟩ := h j hj
  exact ⟨by rw [World.cell?_setCell_other _ _ _ _ (by intro e; rw [e] at hp; exact hp rfl)]; exact h1, by rw [World.frozen?_setCell]; exact h2⟩
def SmRel (X : List UInt8) (b : Nat) (w : World) (i : Value) (x : World) : Prop := ∃ k : Nat, k ≤ X.length ∧ i = .int .i64 k ∧ ByteRow x b (partL X k) ∧ b < x.heap.size ∧ Bel w x

set_option maxHeartbeats 4000000 in
theorem law_sums_any (a b c : ByteArray) (at_ to : Int) (w : World) (ha : a.size ≤ maxLen) (hb : b.size ≤ maxLen) (hc : c.size ≤ maxLen) (hm : -9223372036854775808 ≤ at_ ∧ at_ ≤ 9223372036854775807) (hm2 : -9223372036854775808 ≤ to ∧ to ≤ 9223372036854775807) :
    Calls Try.prog 8 #[.string a, .string b, .string c, .int .i64 at_, .int .i64 to] w fun e w' => e = .returned (.bool true) ∧ Bel w w' := by
  unfold maxLen at ha hb hc
  have HM := Lib.hid hm; clear hm
  have HM2 := Lib.hid hm2; clear hm2
  obtain ⟨n, hn, na, nb, nc⟩ : ∃ n : Nat, min a.size (min b.size c.size) = n ∧ n ≤ a.size ∧ n ≤ b.size ∧ n ≤ c.size := ⟨_, rfl, by omega, by omega, by omega⟩
  obtain ⟨m, hm1⟩ : ∃ m : Nat, min b.size c.size = m := ⟨_, rfl⟩
  have hi1 : (if c.size < b.size then (c.size : Int) else (b.size : Int)) = (m : Int) := by split <;> omega
  have hi2 : (if m < a.size then (m : Int) else (a.size : Int)) = (n : Int) := by split <;> omega
  clear hm1
  have HN := Lib.hid hn; clear hn
  go_enter Try.func8, Try.ntmps8
  go_wp2_with (fail)
  refine (shown_any w).mono ?_
  rintro e w1 ⟨rfl, hb⟩
  have HB := Lib.hid hb; clear hb
  by_cases hl : (2000 : Int) < (n : Int)
  · go_wp2_with (fail)
    go_ret
    exact ⟨rfl, HB.out⟩
  by_cases hz : n = 0
  · have hz2 : ((n : Int) == 0) = true := by rw [beq_iff_eq]; omega
    subst hz
    go_wp2_with (fail)
    go_ret
    exact ⟨rfl, HB.out⟩
  have hz2 : ((n : Int) == 0) = false := by rw [beq_eq_false_iff_ne]; omega
  obtain ⟨A, hA⟩ : ∃ A, A = a.data.toList.take n := ⟨_, rfl⟩
  obtain ⟨B, hBB⟩ : ∃ B, B = b.data.toList.take n := ⟨_, rfl⟩
  obtain ⟨C, hC⟩ : ∃ C, C = c.data.toList.take n := ⟨_, rfl⟩
  have sa : a.data.toList.length = a.size := rfl
  have sb : b.data.toList.length = b.size := rfl
  have sc : c.data.toList.length = c.size := rfl
  have lA : A.length = n := by rw [hA, List.length_take]; omega
  have lB : B.length = n := by rw [hBB, List.length_take]; omega
  have lC : C.length = n := by rw [hC, List.length_take]; omega
  have EA := Lib.hid (show (a.extract 0 n).data.toList = A by rw [ext_data, List.drop_zero, hA])
  have EB := Lib.hid (show (b.extract 0 n).data.toList = B by rw [ext_data, List.drop_zero, hBB])
  have EC := Lib.hid (show (c.extract 0 n).data.toList = C by rw [ext_data, List.drop_zero, hC])
  have GA := Lib.hid (show ∀ k (h : k < A.length) (h' : k < a.size), A[k] = a[k] from fun k h h' => by simp only [hA]; rw [List.getElem_take]; rfl)
  have GB := Lib.hid (show ∀ k (h : k < B.length) (h' : k < b.size), B[k] = b[k] from fun k h h' => by simp only [hBB]; rw [List.getElem_take]; rfl)
  have GC := Lib.hid (show ∀ k (h : k < C.length) (h' : k < c.size), C[k] = c[k] from fun k h h' => by simp only [hC]; rw [List.getElem_take]; rfl)
  obtain ⟨X, hX⟩ : ∃ X, X = overL (overL A B) C := ⟨_, rfl⟩
  have lX : X.length = n := by rw [hX, over_len _ _ (by rw [over_len A B (by omega)]; omega), over_len A B (by omega), lA]
  have GX := Lib.hid (show ∀ k (h : k < X.length) (h1 : k < a.size) (h2 : k < b.size) (h3 : k < c.size), X[k] = a[k] ^^^ b[k] ^^^ c[k] from fun k h h1 h2 h3 => by
    have := over3_get A B C (by omega) (by omega) k (by omega) (by rw [← hX]; exact h)
    simp only [hX]
    rw [this, GA.out k (by omega) h1, GB.out k (by omega) h2, GC.out k (by omega) h3])
  have SX := Lib.hid (show crcN X = crcN A ^^^ crcN B ^^^ crcN C by rw [hX]; exact crc_three A B C (by omega) (by omega))
  clear hA hBB hC hX sa sb sc
  have hmk := run_make_row' (P := Try.prog) 38 5 (.int .u8 0) 1 Try.underlying38 infoByte rfl .i64 .i64 n (by omega) (by omega)
  go_wp2_with (fail)
  obtain ⟨b0, hb0⟩ : ∃ b0, b0 = w1.heap.size := ⟨_, rfl⟩
  have hwb : w.heap.size ≤ b0 := by rw [hb0]; exact HB.out.size
  go_loopw [14] (fun i x => SmRel X b0 w i x) (fun i _ => n - (intOf i).toNat)
  case atStart =>
    refine ⟨0, Nat.zero_le _, rfl, ?_, by rw [hb0]; simp, HB.out.alloc _⟩
    rw [part_zero, lX, hb0]
    exact made_row w1 n
  case round =>
    clear HB hmk
    obtain ⟨k, hk, rfl, hrow, hbs, hbel⟩ := hrel
    rw [← hb0]
    have HB := Lib.hid hbel; clear hbel
    have HR := Lib.hid hrow; clear hrow
    rw [lX] at hk
    by_cases hlt : k < n
    · have k1 : k < a.size := by omega
      have k2 : k < b.size := by omega
      have k3 : k < c.size := by omega
      have hx1 : bits .xor .u8 (a[k].toNat : Int) (b[k].toNat : Int) = ((a[k].toNat ^^^ b[k].toNat : Nat) : Int) := u8_xor_nat _ _ a[k].toNat_lt b[k].toNat_lt
      have hx2 : bits .xor .u8 ((a[k].toNat ^^^ b[k].toNat : Nat) : Int) (c[k].toNat : Int) = ((a[k].toNat ^^^ b[k].toNat ^^^ c[k].toNat : Nat) : Int) := by
        have := (a[k] ^^^ b[k]).toNat_lt
        rw [UInt8.toNat_xor] at this
        exact u8_xor_nat _ _ this c[k].toNat_lt
      have HX3 := Lib.hid (show a[k].toNat ^^^ b[k].toNat ^^^ c[k].toNat = (a[k] ^^^ b[k] ^^^ c[k]).toNat by rw [UInt8.toNat_xor, UInt8.toNat_xor])
      have hkp : k < (partL X k).length := by rw [part_len X k (by omega), lX]; exact hlt
      obtain ⟨y0, hcc⟩ : ∃ y0 : UInt8, wr.cell? ⟨b0, k, none⟩ = some (.int .u8 (y0.toNat : Int)) := ⟨_, (HR.out k hkp).1⟩
      have hff := (HR.out k hkp).2
      have HKP := Lib.hid hkp
      clear hb0 hkp
      have GXK := Lib.hid (GX.out k (by omega) k1 k2 k3)
      have HPS := Lib.hid (part_set X k (by omega))
      go_wp2_with (fail)
      go_region
      all_goals go_wp2_with (fail)
      refine ⟨⟨k + 1, by omega, by go_num, ?_, by show b0 < (World.setCell _ _ _).heap.size; simpa using hbs, (HB.out.setCell (p := ⟨b0, k, none⟩) hwb _).drew⟩, by simp [intOf]; omega⟩
      rw [HX3.out, ← HPS.out, GXK.out]
      exact (HR.out.set k HKP.out _).bel (Bel.refl _).drew
    · obtain rfl : k = n := by omega
      rw [← lX, part_all] at HR
      obtain ⟨w2, cap, hcv, hb2, hrow2, hgr⟩ := conv_bytes wr (a.extract 0 k)
      have hw2 : w.heap.size ≤ wr.heap.size := HB.out.size
      have hza : (a.extract 0 k).size = k := by simp [ByteArray.size_extract]; omega
      have hzb : (b.extract 0 k).size = k := by simp [ByteArray.size_extract]; omega
      have hzc : (c.extract 0 k).size = k := by simp [ByteArray.size_extract]; omega
      rw [EA.out] at hrow2
      rw [hza] at hcv
      replace HR := Lib.hid (HR.out.bel hb2)
      replace HB := Lib.hid (HB.out.trans hb2)
      have HY := Lib.hid hrow2
      clear hb0 hb2 hrow2
      have hbs2 : b0 < wr.heap.size := hbs
      go_wp2_with (fail)
      refine (pick_at at_ _ k _ HM.out (by omega) (by omega) rfl).mono ?_
      rintro e w3 ⟨rfl, hd⟩
      have hw3 : wr.heap.size < w3.heap.size := by have := hd.bel.size; omega
      replace HB := Lib.hid (HB.out.trans hd.bel)
      replace HY := Lib.hid (HY.out.bel hd.bel)
      replace HR := Lib.hid (HR.out.bel hd.bel)
      obtain ⟨q, hq⟩ : ∃ q, q = pickN at_ k := ⟨_, rfl⟩
      have hqk : q < k := by rw [hq]; exact pickN_lt at_ (by omega)
      rw [← hq]
      clear hd hq hcv hgr
      generalize hy0 : wr.heap.size = y0 at *
      clear hy0
      have hqA : q < A.length := by omega
      have hqa : q < a.size := by omega
      obtain ⟨tb, htb⟩ : ∃ tb, tb = UInt8.ofNat (to % 256).toNat := ⟨_, rfl⟩
      have hbt := byte_of_int to
      rw [← htb, IntKind.wrap_u8'] at hbt
      have HBT := Lib.hid hbt
      clear htb hbt
      obtain ⟨v0, hcc⟩ : ∃ v0 : UInt8, w3.cell? ⟨y0, q, none⟩ = some (.int .u8 (v0.toNat : Int)) := ⟨_, (HY.out q hqA).1⟩
      have hff := (HY.out q hqA).2
      go_wp2_with (fail)
      obtain ⟨w4, hw4⟩ : ∃ x, x = w3.setCell ⟨y0, q, none⟩ (.int .u8 (to % 256)) := ⟨_, rfl⟩
      rw [← hw4]
      have HY4 := Lib.hid (show ByteRow w4 y0 (A.set q tb) by rw [hw4, ← HBT.out]; exact HY.out.set q hqA tb)
      have HR4 := Lib.hid (show ByteRow w4 b0 X by rw [hw4]; exact HR.out.other (by show b0 ≠ y0; omega) _)
      have HB4 := Lib.hid (show Bel w w4 by rw [hw4]; exact HB.out.setCell (p := ⟨y0, q, none⟩) hw2 _)
      clear hw4 hcc hff HY HR HB
      obtain ⟨yb, hyb⟩ : ∃ yb : ByteArray, yb = ⟨(A.set q tb).toArray⟩ := ⟨_, rfl⟩
      have HYB := Lib.hid (show yb.data.toList = A.set q tb by rw [hyb])
      have hys : yb.size = k := by rw [hyb]; show (A.set q tb).toArray.size = k; rw [List.size_toArray, List.length_set, lA]
      obtain ⟨xb, hxb⟩ : ∃ xb : ByteArray, xb = ⟨X.toArray⟩ := ⟨_, rfl⟩
      have HXB := Lib.hid (show xb.data.toList = X by rw [hxb])
      have hxs : xb.size = k := by rw [hxb]; show X.toArray.size = k; rw [List.size_toArray, lX]
      have hcy : ∀ n, (convert 38 9 (.slice (some ⟨y0, 0, none⟩) k cap)).run Try.prog (w4.drewN n) = .ok (.string yb) (w4.drewN n) := fun n => by
        have h := (HY4.out.bel ((Bel.refl w4).drewN n)).conv cap
        rw [List.length_set, lA] at h
        rw [hyb]; exact h
      have hcx : ∀ n, (convert 38 9 (.slice (some ⟨b0, 0, none⟩) k k)).run Try.prog (w4.drewN n) = .ok (.string xb) (w4.drewN n) := fun n => by
        have h := (HR4.out.bel ((Bel.refl w4).drewN n)).conv k
        rw [lX] at h
        rw [hxb]; exact h
      have hct : w4.cell? ⟨y0, q, none⟩ = some (.int .u8 (tb.toNat : Int)) := by
        have h := (HY4.out q (by rw [List.length_set]; exact hqA)).1
        rw [List.getElem_set_self] at h
        exact h
      have HEQ := Lib.hid (crc_set A q hqA tb)
      have HAQ := Lib.hid (GA.out q hqA hqa)
      clear hyb hxb
      have hy6 : yb.size ≤ 1000000 := by omega
      have hx6 : xb.size ≤ 1000000 := by omega
      have ha6 : (a.extract 0 k).size ≤ 1000000 := by omega
      have hb6 : (b.extract 0 k).size ≤ 1000000 := by omega
      have hc6 : (c.extract 0 k).size ≤ 1000000 := by omega
      go_quiet (first | (go_at_call_of 12 yb; exact Calls.quiet_of (sum5_at yb (A.set q tb) _ hy6 HYB.out)) | (go_at_call_of 12 (a.extract 0 k); exact Calls.quiet_of (sum5_at (a.extract 0 k) A _ ha6 EA.out)))
      have hone : ((((crcN (A.set q tb) : Nat) : Int) == ((crcN A : Nat) : Int)) == ((tb.toNat : Int) == (a[q].toNat : Int))) = true := by
        rw [← HAQ.out, beq_iff_eq, Bool.eq_iff_iff, beq_iff_eq, beq_iff_eq, Int.natCast_inj, Int.natCast_inj, HEQ.out, UInt8.toNat_inj]
      rw [hone]
      obtain ⟨w5, hw5⟩ : ∃ x, x = w4.drewN nq := ⟨_, rfl⟩
      rw [← hw5]
      have hcx5 : ∀ n, (convert 38 9 (.slice (some ⟨b0, 0, none⟩) k k)).run Try.prog (w5.drewN n) = .ok (.string xb) (w5.drewN n) := fun n => by
        have h := hcx (nq + n)
        rw [← World.drewN_drewN, ← hw5] at h
        exact h
      have HB5 := Lib.hid (show Bel w w5 by rw [hw5]; exact HB4.out.drewN _)
      clear hw5 hcx hcy hct hone HEQ HAQ
      have hx1 : bits .xor .u32 ((crcN A : Nat) : Int) ((crcN B : Nat) : Int) = ((crcN A ^^^ crcN B : Nat) : Int) := u32_xor_nat _ _ (crc_lt A) (crc_lt B)
      have hx2 : bits .xor .u32 ((crcN A ^^^ crcN B : Nat) : Int) ((crcN C : Nat) : Int) = ((crcN A ^^^ crcN B ^^^ crcN C : Nat) : Int) :=
        u32_xor_nat _ _ (Nat.xor_lt_two_pow (n := 32) (crc_lt A) (crc_lt B)) (crc_lt C)
      go_wp2_with (fail)
      go_quiet (first | (go_at_call_of 12 xb; exact Calls.quiet_of (sum5_at xb X _ hx6 HXB.out)) | (go_at_call_of 12 (a.extract 0 k); exact Calls.quiet_of (sum5_at (a.extract 0 k) A _ ha6 EA.out)) | (go_at_call_of 12 (b.extract 0 k); exact Calls.quiet_of (sum5_at (b.extract 0 k) B _ hb6 EB.out)) | (go_at_call_of 12 (c.extract 0 k); exact Calls.quiet_of (sum5_at (c.extract 0 k) C _ hc6 EC.out)))
      go_wp2_with (fail)
      go_ret
      exact ⟨ret_bool (by rw [SX.out]; simp), HB5.out.drewN _⟩
end Go.Proofs.Ytjjfkbikodccbaa
