/- key.Put: a value's bytes. -/
import Derived.Test.YtggmeggfibblhaaDoorKRep
import Derived.Test.YtggmeggfibblhaaDoorKRight
import Derived.Test.YtggmeggfibblhaaDoorKStd
set_option linter.unusedSimpArgs false
set_option linter.unusedVariables false
namespace Go.Proofs.YtggmeggfibblhaaDoor
open Go.RowKit Go.Deep

/-- What Put answers. -/
def putV (v : KV) : Value := if v.right = true then .tuple #[.string ⟨(encL v).toArray⟩, .int .i64 0] else .tuple #[.string ⟨#[]⟩, .int .i64 1]
def KV.val (v : KV) : Value := .agg #[.int .i64 v.k, .int .i64 v.n, .string v.s]
theorem conv_kind {W : World} (g : Nat) (k : Int) (hk : 1 ≤ k ∧ k ≤ 6) (h : W.cell? ⟨g, 0, none⟩ = some (.int .u8 k)) :
    (convert 46 9 (.slice (some ⟨g, 0, none⟩) 1 1)).run Tryd.prog W = .ok (.string ⟨#[UInt8.ofNat k.toNat]⟩) W :=
  run_convert_bytes_back W 46 9 5 ⟨g, 0, none⟩ 1 [UInt8.ofNat k.toNat] Tryd.underlying46 Tryd.underlying5 Tryd.underlying9 (fun j hj => by
    simp at hj; subst hj
    have e : (⟨g, 0, none⟩ : Addr).add 0 = ⟨g, 0, none⟩ := by simp [Addr.add]
    rw [e, h]; simp; omega)

set_option maxHeartbeats 2000000 in
theorem put_wrong (v : KV) (w : World) (hs : v.s.size ≤ maxLen) (h : v.right = false) :
    Calls Tryd.prog 11 #[v.val] w fun e w' => e = .returned (.tuple #[.string ⟨#[]⟩, .int .i64 1]) ∧ Bel w w' := by
  obtain ⟨k, n, s⟩ := v
  have H := Lib.hid (show rightB k n s.data.toList = false from h); clear h
  unfold KV.val
  go_enter Tryd.func11, Tryd.ntmps11
  go_wp2_with (fail)
  refine (right_any k n s _ hs).mono ?_
  rintro e w1 ⟨rfl, hb⟩
  rw [H.out]
  go_wp2_with (fail)
  go_ret2
  exact ⟨rfl, ((Bel.refl w).alloc _).trans hb⟩

theorem ret_put {x y : ByteArray} {e : Int} (h : x = y) : Ending.returned (.tuple #[.string x, .int .i64 e]) = Ending.returned (.tuple #[.string y, .int .i64 e]) := by rw [h]
theorem u64_put (n B : Int) (h : 0 ≤ n + B) (h' : n + B < 18446744073709551616) : IntKind.u64.wrap (IntKind.u64.wrap n + B) = ((n + B).toNat : Int) := by rw [wrap_u64, wrap_u64]; omega
theorem big_at (x y : Int) (n sz : Nat) (w : World) (hx : x = n) (hy : y = sz) (hs : sz ≤ 9) :
    Calls Tryd.prog 25 #[.int .u64 x, .int .i64 y] w fun e w' => e = .returned (.string ⟨(bigL n sz).toArray⟩) ∧ Bel w w' := by
  subst hx hy; exact big_any n sz w hs
def PutRel (k n : Int) (s : ByteArray) (w : World) (i : Value) (x : World) : Prop :=
  ∃ j : Nat, i = .int .i64 j ∧ j ≤ 4 ∧ (k ≤ 4 → (j : Int) + 1 ≤ k) ∧ Bel (w.alloc (.cells #[.int .i64 k, .int .i64 n, .string s] 23)) x

set_option maxHeartbeats 4000000 in
theorem put_right (v : KV) (w : World) (hs : v.s.size ≤ maxLen) (hi : v.in64) (hstd : Std w) (h : v.right = true) :
    Calls Tryd.prog 11 #[v.val] w fun e w' => e = .returned (.tuple #[.string ⟨(encL v).toArray⟩, .int .i64 0]) ∧ Bel w w' := by
  obtain ⟨hk0, hk1, hk6⟩ := kind_byte v h
  have hc := right_cases v h
  have hn := right_num v h hi
  obtain ⟨k, n, s⟩ := v
  simp only at hk1 hk6 hc hn
  have H := Lib.hid (show rightB k n s.data.toList = true from h); clear h hk0
  have HC := Lib.hid hc; clear hc
  have HN := Lib.hid hn; clear hn
  unfold KV.val
  go_enter Tryd.func11, Tryd.ntmps11
  go_wp2_with (fail)
  refine (right_any k n s _ hs).mono ?_
  rintro e w1 ⟨rfl, hb⟩
  rw [H.out]
  obtain ⟨g0, g1, g2, g3, g4, g5, g6, g7, g8, g9, g10, g11⟩ := ((hstd.bel ((Bel.refl w).alloc _)).bel hb).cells
  have q0 : w1.cell? ⟨w.heap.size, 0, none⟩ = some (.int .i64 k) := cell_later hb (by go_simp)
  have q1 : w1.cell? ⟨w.heap.size, 1, none⟩ = some (.int .i64 n) := cell_later hb (by go_simp)
  have q2 : w1.cell? ⟨w.heap.size, 2, none⟩ = some (.string s) := cell_later hb (by go_simp)
  have hlt : w.heap.size < w1.heap.size := hb.past
  have HB := Lib.hid hb; clear hb hstd
  have hcv : (convert 46 9 (.slice (some ⟨w1.heap.size, 0, none⟩) 1 1)).run Tryd.prog (w1.alloc (.cells #[.int .u8 k] 5)) = .ok (.string ⟨#[UInt8.ofNat k.toNat]⟩) (w1.alloc (.cells #[.int .u8 k] 5)) := conv_kind _ k ⟨hk1, hk6⟩ (World.cell?_alloc_new ..)
  have hpos : 0 < w1.heap.size := by omega
  go_wp2_with (fail)
  clear g0 g1 g2 g3 g4 g5 g6 g7 g8 g9 g10 g11
  go_loopw [16] (fun i x => PutRel k n s w i x) (fun i _ => 4 - (intOf i).toNat)
  case atStart => exact ⟨0, rfl, by omega, fun _ => by simp; omega, HB.out.alloc _⟩
  case round =>
    obtain ⟨j, rfl, hj4, hj, hb⟩ := hrel
    have q0 : wr.cell? ⟨w.heap.size, 0, none⟩ = some (.int .i64 k) := cell_later hb (by go_simp)
    have q1 : wr.cell? ⟨w.heap.size, 1, none⟩ = some (.int .i64 n) := cell_later hb (by go_simp)
    have q2 : wr.cell? ⟨w.heap.size, 2, none⟩ = some (.string s) := cell_later hb (by go_simp)
    have hlt : w.heap.size < wr.heap.size := hb.past
    have HB := Lib.hid hb; clear hb
    have HJ := Lib.hid hj; clear hj
    by_cases hlt : j < 4
    · obtain rfl | rfl | rfl | rfl : j = 0 ∨ j = 1 ∨ j = 2 ∨ j = 3 := by omega
      · have hix := run_width0
        by_cases hjk : (1 : Int) = k
        · subst hjk
          have hnn := HN.out (by decide)
          simp [biasK, widK] at hnn
          have HE := Lib.hid (show encL ⟨1, n, s⟩ = [1] ++ bigL n.toNat 1 by show _ :: bigL (n + ((0 : Nat) : Int)).toNat 1 = _; simp)
          go_wp2_with (fail)
          refine (big_at _ _ n.toNat 1 _ (by omega) (by rfl) (by omega)).mono ?_
          rintro e w3 ⟨rfl, hb⟩
          have hl1 := bigL_len 1 n.toNat
          replace HB := Lib.hid ((HB.out.alloc _).trans hb); clear hb
          go_wp2_with (fail)
          go_ret2
          exact ⟨ret_put (by rw [HE.out, ← ba_append]), (Bel.refl w).alloc _ |>.trans HB.out⟩
        · go_wp2_with (fail)
          go_roundw
          case rel => exact ⟨1, by go_num, by omega, fun h => by have := HJ.out h; omega, HB.out.alloc _⟩
          case measure => simp [intOf]
      · have hix := run_width1
        by_cases hjk : (2 : Int) = k
        · subst hjk
          have hnn := HN.out (by decide)
          simp [biasK, widK] at hnn
          have HE := Lib.hid (show encL ⟨2, n, s⟩ = [2] ++ bigL (n + 32768).toNat 2 from rfl)
          go_wp2_with (fail)
          refine (big_at _ _ (n + 32768).toNat 2 _ (u64_put n 32768 (by omega) (by omega)) (by rfl) (by omega)).mono ?_
          rintro e w3 ⟨rfl, hb⟩
          have hl1 := bigL_len 2 (n + 32768).toNat
          replace HB := Lib.hid ((HB.out.alloc _).trans hb); clear hb
          go_wp2_with (fail)
          go_ret2
          exact ⟨ret_put (by rw [HE.out, ← ba_append]), (Bel.refl w).alloc _ |>.trans HB.out⟩
        · go_wp2_with (fail)
          go_roundw
          case rel => exact ⟨2, by go_num, by omega, fun h => by have := HJ.out h; omega, HB.out.alloc _⟩
          case measure => simp [intOf]
      · have hix := run_width2
        by_cases hjk : (3 : Int) = k
        · subst hjk
          have hnn := HN.out (by decide)
          simp [biasK, widK] at hnn
          have HE := Lib.hid (show encL ⟨3, n, s⟩ = [3] ++ bigL (n + 2147483648).toNat 4 from rfl)
          go_wp2_with (fail)
          refine (big_at _ _ (n + 2147483648).toNat 4 _ (u64_put n 2147483648 (by omega) (by omega)) (by rfl) (by omega)).mono ?_
          rintro e w3 ⟨rfl, hb⟩
          have hl1 := bigL_len 4 (n + 2147483648).toNat
          replace HB := Lib.hid ((HB.out.alloc _).trans hb); clear hb
          go_wp2_with (fail)
          go_ret2
          exact ⟨ret_put (by rw [HE.out, ← ba_append]), (Bel.refl w).alloc _ |>.trans HB.out⟩
        · go_wp2_with (fail)
          go_roundw
          case rel => exact ⟨3, by go_num, by omega, fun h => by have := HJ.out h; omega, HB.out.alloc _⟩
          case measure => simp [intOf]
      · have hix := run_width3
        by_cases hjk : (4 : Int) = k
        · subst hjk
          have hnn := HN.out (by decide)
          simp [biasK, widK] at hnn
          have HE := Lib.hid (show encL ⟨4, n, s⟩ = [4] ++ bigL (n + 9223372036854775808).toNat 8 from rfl)
          go_wp2_with (fail)
          refine (big_at _ _ (n + 9223372036854775808).toNat 8 _ (u64_put n 9223372036854775808 (by omega) (by omega)) (by rfl) (by omega)).mono ?_
          rintro e w3 ⟨rfl, hb⟩
          have hl1 := bigL_len 8 (n + 9223372036854775808).toNat
          replace HB := Lib.hid ((HB.out.alloc _).trans hb); clear hb
          go_wp2_with (fail)
          go_ret2
          exact ⟨ret_put (by rw [HE.out, ← ba_append]), (Bel.refl w).alloc _ |>.trans HB.out⟩
        · go_wp2_with (fail)
          go_roundw
          case rel => exact ⟨4, by go_num, by omega, fun h => by have := HJ.out h; omega, HB.out.alloc _⟩
          case measure => simp [intOf]
    · obtain rfl : j = 4 := by omega
      have hc := HC.out
      have hw : widK k = 0 := by rcases hc with h | h; { have := HJ.out (by omega); omega }; { exact h.2.2.2.2 }
      have hsz : s.size ≤ 1000 := by rcases hc with h | h; { have := HJ.out (by omega); omega }; { exact h.2.2.2.1 }
      have HE := Lib.hid (show encL ⟨k, n, s⟩ = [UInt8.ofNat k.toNat] ++ escL s.data.toList ++ [0, 0] by unfold encL bodyL; rw [if_pos hw]; simp [KV.t])
      have hel := escL_len s.data.toList
      have hsl : s.data.toList.length = s.size := rfl
      clear hc hw
      go_wp2_with (fail)
      refine (repall_any s _ (by omega)).mono ?_
      rintro e w3 ⟨rfl, hb⟩
      replace HB := Lib.hid (HB.out.trans hb); clear hb
      go_wp2_with (fail)
      go_ret2
      exact ⟨ret_put (by rw [HE.out, ← ba_append, ← ba_append]), (Bel.refl w).alloc _ |>.trans HB.out⟩

theorem put_any (v : KV) (w : World) (hs : v.s.size ≤ maxLen) (hi : v.in64) (hstd : Std w) : Calls Tryd.prog 11 #[v.val] w fun e w' => e = .returned (putV v) ∧ Bel w w' := by
  unfold putV
  cases h : v.right with
  | false => simpa using put_wrong v w hs h
  | true => simpa using put_right v w hs hi hstd h
end Go.Proofs.YtggmeggfibblhaaDoor
