/- moultref4.Put. -/
import Derived.Test.YtggmeggfibblhaaDoorKRPut
set_option linter.unusedSimpArgs false
set_option linter.unusedVariables false
namespace Go.Proofs.YtggmeggfibblhaaDoor
open Go.RowKit Go.Deep

theorem half_eq (k n : Int) (m : Nat) (hw : 0 < widK k) (hm : IntKind.u64.wrap n = m) (hn : 0 ≤ n + biasK k ∧ n + biasK k < (256 : Int) ^ widK k) : halfL m (widK k) = bigL (n + biasK k).toNat (widK k) := by
  rw [wrap_u64] at hm
  have hk : k = 1 ∨ k = 2 ∨ k = 3 ∨ k = 4 := by
    unfold widK at hw
    by_cases h1 : k = 1
    · exact Or.inl h1
    by_cases h2 : k = 2
    · exact Or.inr (Or.inl h2)
    by_cases h3 : k = 3
    · exact Or.inr (Or.inr (Or.inl h3))
    by_cases h4 : k = 4
    · exact Or.inr (Or.inr (Or.inr h4))
    · rw [if_neg h1, if_neg h2, if_neg h3, if_neg h4] at hw; omega
  rcases hk with rfl | rfl | rfl | rfl
  · have e1 : widK 1 = 1 := rfl
    have e2 : biasK 1 = 0 := rfl
    rw [e1, e2] at hn ⊢
    have hp : (256 : Int) ^ 1 = 256 := by decide
    rw [hp] at hn
    have : (n + ((0 : Nat) : Int)).toNat = m := by omega
    rw [this]; rfl
  · have e1 : widK 2 = 2 := rfl
    have e2 : biasK 2 = 32768 := rfl
    rw [e1, e2] at hn ⊢
    have hp : (256 : Int) ^ 2 = 65536 := by decide
    rw [hp] at hn
    rw [halfL, if_pos (by omega), big_mod, big_mod 2 (n + ((32768 : Nat) : Int)).toNat]
    congr 1; simp; omega
  · have e1 : widK 3 = 4 := rfl
    have e2 : biasK 3 = 2147483648 := rfl
    rw [e1, e2] at hn ⊢
    have hp : (256 : Int) ^ 4 = 4294967296 := by decide
    rw [hp] at hn
    rw [halfL, if_pos (by omega), big_mod, big_mod 4 (n + ((2147483648 : Nat) : Int)).toNat]
    congr 1; simp; omega
  · have e1 : widK 4 = 8 := rfl
    have e2 : biasK 4 = 9223372036854775808 := rfl
    rw [e1, e2] at hn ⊢
    have hp : (256 : Int) ^ 8 = 18446744073709551616 := by decide
    rw [hp] at hn
    rw [halfL, if_pos (by omega), big_mod, big_mod 8 (n + ((9223372036854775808 : Nat) : Int)).toNat]
    congr 1; simp; omega

theorem rnumber_at (n y : Int) (sz : Nat) (w : World) (hy : y = sz) (hs : 1 ≤ sz) (hs8 : sz ≤ 8) :
    ∃ m : Nat, IntKind.u64.wrap n = m ∧ Calls Tryd.prog 29 #[.int .i64 n, .int .i64 y] w fun e w' => e = .returned (.string ⟨(halfL m sz).toArray⟩) ∧ Bel w w' := by
  subst hy
  have : 0 ≤ IntKind.u64.wrap n := by rw [wrap_u64]; omega
  exact ⟨(IntKind.u64.wrap n).toNat, by omega, rnumber_any n _ sz w (by omega) hs hs8⟩

set_option maxHeartbeats 2000000 in
theorem rput_wrong (v : KV) (w : World) (hs : v.s.size ≤ maxLen) (h : v.right = false) :
    Calls Tryd.prog 12 #[v.val] w fun e w' => e = .returned (.tuple #[.string ⟨#[]⟩, .int .i64 1]) ∧ Bel w w' := by
  obtain ⟨k, n, s⟩ := v
  have H := Lib.hid (show rightB k n s.data.toList = false from h); clear h
  unfold KV.val
  go_enter Tryd.func12, Tryd.ntmps12
  go_wp2_with (fail)
  refine (ref_right_any k n s _ hs).mono ?_
  rintro e w1 ⟨rfl, hb⟩
  rw [H.out]
  go_wp2_with (fail)
  go_ret2
  exact ⟨rfl, ((Bel.refl w).alloc _).trans hb⟩

set_option maxHeartbeats 4000000 in
theorem rput_right (v : KV) (w : World) (hs : v.s.size ≤ maxLen) (hi : v.in64) (h : v.right = true) :
    Calls Tryd.prog 12 #[v.val] w fun e w' => e = .returned (.tuple #[.string ⟨(encL v).toArray⟩, .int .i64 0]) ∧ Bel w w' := by
  obtain ⟨hk0, hk1, hk6⟩ := kind_byte v h
  have hc := right_cases v h
  have hn := right_num v h hi
  obtain ⟨k, n, s⟩ := v
  simp only at hk1 hk6 hc hn
  have H := Lib.hid (show rightB k n s.data.toList = true from h); clear h hk0
  have HC := Lib.hid hc; clear hc
  have HN := Lib.hid hn; clear hn
  unfold KV.val
  go_enter Tryd.func12, Tryd.ntmps12
  go_wp2_with (fail)
  refine (ref_right_any k n s _ hs).mono ?_
  rintro e w1 ⟨rfl, hb⟩
  rw [H.out]
  have q0 : w1.cell? ⟨w.heap.size, 0, none⟩ = some (.int .i64 k) := cell_later hb (by go_simp)
  have q1 : w1.cell? ⟨w.heap.size, 1, none⟩ = some (.int .i64 n) := cell_later hb (by go_simp)
  have q2 : w1.cell? ⟨w.heap.size, 2, none⟩ = some (.string s) := cell_later hb (by go_simp)
  have hlt : w.heap.size < w1.heap.size := hb.past
  have HB := Lib.hid hb; clear hb
  have hcv : (convert 46 9 (.slice (some ⟨w1.heap.size, 0, none⟩) 1 1)).run Tryd.prog (w1.alloc (.cells #[.int .u8 k] 5)) = .ok (.string ⟨#[UInt8.ofNat k.toNat]⟩) (w1.alloc (.cells #[.int .u8 k] 5)) := conv_kind _ k ⟨hk1, hk6⟩ (World.cell?_alloc_new ..)
  go_wp2_with (fail)
  refine (width_any k _).mono ?_
  rintro e w2 ⟨rfl, rfl⟩
  have h8 := widK_le k
  by_cases hw : widK k = 0
  · have hc := HC.out
    have hsz : s.size ≤ 1000 := by rcases hc with h | h; { omega }; { exact h.2.2.2.1 }
    have HE := Lib.hid (show encL ⟨k, n, s⟩ = [UInt8.ofNat k.toNat] ++ (escL s.data.toList ++ [0, 0]) by unfold encL bodyL; rw [if_pos hw]; simp [KV.t])
    have hel := escL_len s.data.toList
    have hsl : s.data.toList.length = s.size := rfl
    clear hc
    have i1 : ¬ (0 : Int) < ((widK k : Nat) : Int) := by omega
    go_wp2_with (fail)
    refine (rtext_any s _ (by omega)).mono ?_
    rintro e w3 ⟨rfl, hb⟩
    replace HB := Lib.hid ((HB.out.alloc _).trans hb); clear hb
    go_wp2_with (fail)
    go_ret2
    exact ⟨ret_put (by rw [HE.out]; apply ByteArray.ext; simp), (Bel.refl w).alloc _ |>.trans HB.out⟩
  · have i1 : (0 : Int) < ((widK k : Nat) : Int) := by omega
    go_wp2_with (fail)
    obtain ⟨m, hm, hcall⟩ := rnumber_at n (widK k) (widK k) (w1.alloc (.cells #[.int .u8 k] 5)) rfl (by omega) h8
    have HE := Lib.hid (show encL ⟨k, n, s⟩ = [UInt8.ofNat k.toNat] ++ halfL m (widK k) by
      unfold encL bodyL; rw [if_neg hw]; simp only; rw [half_eq k n m (by omega) hm (HN.out (by omega))]; rfl)
    have hl : (halfL m (widK k)).length ≤ 8 := by unfold halfL; split <;> rw [bigL_len] <;> omega
    refine hcall.mono ?_
    rintro e w3 ⟨rfl, hb⟩
    clear hm hcall
    replace HB := Lib.hid ((HB.out.alloc _).trans hb); clear hb
    go_wp2_with (fail)
    go_ret2
    exact ⟨ret_put (by rw [HE.out, ← ba_append]), (Bel.refl w).alloc _ |>.trans HB.out⟩

theorem rput_any (v : KV) (w : World) (hs : v.s.size ≤ maxLen) (hi : v.in64) : Calls Tryd.prog 12 #[v.val] w fun e w' => e = .returned (putV v) ∧ Bel w w' := by
  unfold putV
  cases h : v.right with
  | false => simpa using rput_wrong v w hs h
  | true => simpa using rput_right v w hs hi h
end Go.Proofs.YtggmeggfibblhaaDoor
