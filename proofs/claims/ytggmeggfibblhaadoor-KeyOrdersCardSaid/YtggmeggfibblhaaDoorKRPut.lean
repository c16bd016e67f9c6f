/- moultref4's width, number, text and Put: the document's answer for a value's bytes. -/
import Derived.Test.YtggmeggfibblhaaDoorKPut
import Derived.Test.YtggmeggfibblhaaDoorOwnG
set_option linter.unusedSimpArgs false
set_option linter.unusedVariables false
namespace Go.Proofs.YtggmeggfibblhaaDoor
open Go.RowKit Go.Deep

set_option maxHeartbeats 400000 in
theorem width_any (k : Int) (w : World) : Calls Tryd.prog 28 #[.int .i64 k] w fun e w' => e = .returned (.int .i64 (widK k)) ∧ w' = w := by
  go_enter Tryd.func28, Tryd.ntmps28
  go_wp2
  all_goals
    go_ret
    refine ⟨ret_int ?_, rfl⟩
    simp_all [widK]

theorem big_add (k : Nat) : ∀ (a m : Nat), bigL (a * 256 ^ k + m) k = bigL m k := by
  induction k with
  | zero => intro a m; rfl
  | succ k ihk =>
    intro a m
    rw [bigL, bigL, Nat.pow_succ, ← Nat.mul_assoc]
    have h1 : (a * 256 ^ k * 256 + m) / 256 = a * 256 ^ k + m / 256 := by omega
    have h2 : (a * 256 ^ k * 256 + m) % 256 = m % 256 := by omega
    rw [h1, h2, ihk]
theorem big_mod (k m : Nat) : bigL m k = bigL (m % 256 ^ k) k := by
  conv => lhs; rw [← Nat.div_add_mod m (256 ^ k), Nat.mul_comm]
  exact big_add k _ _
theorem xor_half : ∀ x : Fin 256, bits .xor .u8 ((x.val : Nat) : Int) 128 = (((x.val + 128) % 256 : Nat) : Int) := by decide +kernel
theorem big_half (m k : Nat) : UInt8.ofNat ((m / 256 ^ k % 256 + 128) % 256) :: bigL m k = bigL (128 * 256 ^ k + m) (k + 1) := by
  rw [bigL_cons, big_add]
  have : (128 * 256 ^ k + m) / 256 ^ k % 256 = (m / 256 ^ k % 256 + 128) % 256 := by
    rw [Nat.mul_comm, Nat.mul_add_div (Nat.pow_pos (by decide))]; omega
  rw [this]

theorem half_get (m c : Nat) (h1 : 1 ≤ c) (j : Nat) (hj : j < c) : (bigL (128 * 256 ^ (c - 1) + m) c)[j]? = some (UInt8.ofNat (if j = 0 then (m / 256 ^ (c - 1) % 256 + 128) % 256 else m / 256 ^ (c - 1 - j) % 256)) := by
  obtain ⟨d, rfl⟩ : ∃ d, c = d + 1 := ⟨c - 1, by omega⟩
  rw [Nat.add_sub_cancel, ← big_half]
  cases j with
  | zero => simp
  | succ i =>
    rw [List.getElem?_cons_succ, bigL_get d m i (by omega), if_neg (by omega)]
    have e2 : d - (i + 1) = d - 1 - i := by omega
    rw [e2]
def halfL (m sz : Nat) : List UInt8 := if 1 < sz then bigL (128 * 256 ^ (sz - 1) + m) sz else bigL m sz
def RNumRel (m sz : Nat) (w : World) (u i : Value) (x : World) : Prop := ∃ c : Nat, c ≤ sz ∧ u = .int .u64 ((m / 256 ^ c : Nat) : Int) ∧ i = .int .i64 ((sz : Int) - 1 - c) ∧
  x.rowIs w.heap.size 5 sz (fun j => if sz - c ≤ j then .int .u8 ((m / 256 ^ (sz - 1 - j) % 256 : Nat) : Int) else .int .u8 0) ∧ Bel w x

set_option maxHeartbeats 2000000 in
theorem rnumber_any (n : Int) (m sz : Nat) (w : World) (hm : IntKind.u64.wrap n = m) (hs : 1 ≤ sz) (hs8 : sz ≤ 8) :
    Calls Tryd.prog 29 #[.int .i64 n, .int .i64 sz] w fun e w' => e = .returned (.string ⟨(halfL m sz).toArray⟩) ∧ Bel w w' := by
  have hmk := run_make_row' (P := Tryd.prog) 46 5 (.int .u8 0) 1 Tryd.underlying46 infoByte rfl .i64 .i64 sz (by omega) (by omega)
  have hml : m < 18446744073709551616 := by rw [wrap_u64] at hm; omega
  go_enter Tryd.func29, Tryd.ntmps29
  go_wp2
  go_loopw [5, 7] (fun u i x => RNumRel m sz w u i x) (fun _ i _ => (intOf i + 1).toNat)
  case atStart => exact ⟨0, Nat.zero_le _, by simp, by simp, (World.rowIs_made w (.int .u8 0) sz 5).congr fun j hj => by rw [if_neg (by omega)], (Bel.refl w).alloc _⟩
  case round =>
    obtain ⟨c, hc, rfl, rfl, hrow, hb⟩ := hrel
    have HR := Lib.hid hrow; clear hrow
    have HB := Lib.hid hb; clear hb
    have hq : m / 256 ^ c ≤ m := Nat.div_le_self _ _
    by_cases hlt : c < sz
    · obtain ⟨j, rfl⟩ : ∃ j, sz = c + 1 + j := ⟨sz - (c + 1), by omega⟩
      have hce := HR.out.cell (i := j) (by omega)
      have hf := HR.out.frozen j
      have ei : ((c + 1 + j : Nat) : Int) - 1 - c = j := by omega
      rw [ei]
      have HN := Lib.hid (show m / 256 ^ (c + 1) = m / 256 ^ c / 256 by rw [Nat.pow_succ, Nat.div_div_eq_div_mul])
      obtain ⟨q, hqq⟩ : ∃ q, m / 256 ^ c = q := ⟨_, rfl⟩
      have HQ := Lib.hid hqq
      rw [hqq] at hq HN
      rw [hqq]
      clear hqq
      go_wp2
      go_roundw
      case rel =>
        refine ⟨c + 1, by omega, by rw [HN.out]; simp, by go_num, ?_, HB.out.setCell (Nat.le_refl _) _⟩
        refine (HR.out.set j _).congr fun i hi => ?_
        by_cases he : i = j
        · subst he
          rw [if_pos rfl, if_pos (by omega)]
          have e : c + 1 + i - 1 - i = c := by omega
          rw [e, HQ.out]; rfl
        · rw [if_neg he]
          by_cases hp : c + 1 + j - c ≤ i
          · rw [if_pos hp, if_pos (by omega)]
          · rw [if_neg hp, if_neg (by omega)]
      case measure => simp [intOf] <;> omega
    · obtain rfl : c = sz := by omega
      have ei : (c : Int) - 1 - c = -1 := by omega
      rw [ei]
      have hce := HR.out.cell (i := 0) (by omega)
      rw [if_pos (by omega)] at hce
      have hf := HR.out.frozen 0
      by_cases h1 : 1 < c
      · have hx := xor_half ⟨m / 256 ^ (c - 1 - 0) % 256, Nat.mod_lt _ (by decide)⟩
        simp only [Nat.sub_zero] at hx hce
        obtain ⟨z, hz⟩ : ∃ z, m / 256 ^ (c - 1) % 256 = z := ⟨_, rfl⟩
        have hzl : z < 256 := by rw [← hz]; exact Nat.mod_lt _ (by decide)
        have HZ := Lib.hid hz
        rw [hz] at hx hce
        clear hz
        have hcv : (convert 46 9 (.slice (some ⟨w.heap.size, 0, none⟩) c c)).run Tryd.prog (wr.setCell ⟨w.heap.size, 0, none⟩ (.int .u8 (((z + 128) % 256 : Nat) : Int))) = .ok (.string ⟨(bigL (128 * 256 ^ (c - 1) + m) c).toArray⟩) (wr.setCell ⟨w.heap.size, 0, none⟩ (.int .u8 (((z + 128) % 256 : Nat) : Int))) := by
          have hrow := HR.out.set 0 (.int .u8 (((z + 128) % 256 : Nat) : Int))
          have h0 := run_convert_bytes_back (wr.setCell ⟨w.heap.size, 0, none⟩ (.int .u8 (((z + 128) % 256 : Nat) : Int))) 46 9 5 ⟨w.heap.size, 0, none⟩ c (bigL (128 * 256 ^ (c - 1) + m) c) Tryd.underlying46 Tryd.underlying5 Tryd.underlying9 (fun j hj => by
            rw [bigL_len] at hj
            have e : (⟨w.heap.size, 0, none⟩ : Addr).add j = ⟨w.heap.size, j, none⟩ := by cases j <;> simp [Addr.add]
            rw [e, hrow.cell hj]
            have hg := half_get m c (by omega) j hj
            rw [HZ.out, List.getElem?_eq_getElem (by rw [bigL_len]; exact hj)] at hg
            rw [Option.some.inj hg]
            by_cases h0 : j = 0
            · rw [if_pos h0, if_pos h0]; simp
            · rw [if_neg h0, if_neg h0, if_pos (by omega)]; simp)
          rw [bigL_len] at h0
          exact h0
        have ez : (((z + 128) % 256 : Nat) : Int) = ((z : Int) + 128) % 256 := by simp
        rw [ez] at hcv
        go_wp2
        go_ret
        exact ⟨ret_string (by rw [halfL, if_pos h1]), HB.out.setCell (Nat.le_refl _) _⟩
      · obtain rfl : c = 1 := by omega
        have hcv : (convert 46 9 (.slice (some ⟨w.heap.size, 0, none⟩) 1 1)).run Tryd.prog wr = .ok (.string ⟨(bigL m 1).toArray⟩) wr := by
          have h0 := run_convert_bytes_back wr 46 9 5 ⟨w.heap.size, 0, none⟩ 1 (bigL m 1) Tryd.underlying46 Tryd.underlying5 Tryd.underlying9 (fun j hj => by
            rw [bigL_len] at hj
            obtain rfl : j = 0 := by omega
            have e : (⟨w.heap.size, 0, none⟩ : Addr).add 0 = ⟨w.heap.size, 0, none⟩ := by simp [Addr.add]
            rw [e, hce]
            simp [bigL])
          rw [bigL_len] at h0
          exact h0
        go_wp2
        go_ret
        exact ⟨ret_string (by rw [halfL, if_neg h1]), HB.out⟩

def TextRel (s : ByteArray) (w : World) (v i : Value) (x : World) : Prop := ∃ k : Nat, k ≤ s.size ∧ i = .int .i64 k ∧ Own w.heap.size x v (escL (s.data.toList.take k)) ∧ Bel w x
theorem esc_snoc (s : ByteArray) (k : Nat) (h : k < s.size) : escL (s.data.toList.take (k + 1)) = escL (s.data.toList.take k) ++ (if s[k] = 0 then [0, 255] else [s[k]]) := by
  rw [List.take_add_one]
  have e : s.data.toList[k]? = some s[k] := by rw [List.getElem?_eq_getElem (by simpa using h)]; rfl
  rw [e, escL_append]
  simp [escL]

set_option maxHeartbeats 4000000 in
theorem rtext_any (s : ByteArray) (w : World) (hs : s.size ≤ 4000) :
    Calls Tryd.prog 30 #[.string s] w fun e w' => e = .returned (.string ⟨(escL s.data.toList ++ [0, 0]).toArray⟩) ∧ Bel w w' := by
  have hsl : s.data.toList.length = s.size := rfl
  go_enter Tryd.func30, Tryd.ntmps30
  go_wp2_with (fail)
  go_loopw [3, 4] (fun v i x => TextRel s w v i x) (fun _ i _ => s.size - (intOf i).toNat)
  case atStart => exact ⟨0, Nat.zero_le _, rfl, Own.nil _ _, Bel.refl w⟩
  case round =>
    obtain ⟨k, hk, rfl, hown, hb⟩ := hrel
    have HV := Lib.hid hown; clear hown
    have HB := Lib.hid hb; clear hb
    have hel := escL_len (s.data.toList.take k)
    rw [List.length_take] at hel
    by_cases hlt : k < s.size
    · have HS := Lib.hid (esc_snoc s k hlt)
      go_wp2_with (at_builtin; refine stop_here ?_)
      refine go_on ?_
      refine append_lit rfl _ _ rfl w.heap.size _ _ rfl HV.out _ _ _ [s[k]] rfl rfl rfl (by simp; omega) HB.out.size (Or.inl rfl) ?_
      intro v1 w1 hown1 hbel1 hz1
      have HV1 := Lib.hid hown1
      replace HB := Lib.hid (HB.out.trans_below hbel1)
      clear hown1 hbel1 HV
      by_cases h0 : s[k] = 0
      · have hS := HS.out
        rw [if_pos h0] at hS
        replace HS := Lib.hid hS; clear hS
        rw [h0] at HV1
        have h0' : s[k].toNat = 0 := by rw [h0]; rfl
        go_wp2_with (at_builtin; refine stop_here ?_)
        refine go_on ?_
        refine append_lit rfl _ _ rfl w.heap.size _ _ rfl HV1.out _ _ _ [255] rfl rfl rfl (by simp; omega) HB.out.size (Or.inl rfl) ?_
        intro v2 w2 hown2 hbel2 hz2
        have HV2 := Lib.hid hown2
        replace HB := Lib.hid (HB.out.trans_below hbel2)
        clear hown2 hbel2 HV1
        go_wp2_with (fail)
        go_roundw
        case rel => exact ⟨k + 1, hlt, by go_num, by rw [HS.out]; simpa using HV2.out, HB.out⟩
        case measure => simp [intOf]; omega
      · have hS := HS.out
        rw [if_neg h0] at hS
        replace HS := Lib.hid hS; clear hS
        have h0' : ¬ s[k].toNat = 0 := fun h => h0 (UInt8.toNat_inj.1 h)
        go_wp2_with (fail)
        go_roundw
        case rel => exact ⟨k + 1, hlt, by go_num, by rw [HS.out]; exact HV1.out, HB.out⟩
        case measure => simp [intOf]; omega
    · obtain rfl : k = s.size := by omega
      have HX := Lib.hid (show s.data.toList.take s.size = s.data.toList from List.take_of_length_le (Nat.le_refl _))
      rw [HX.out] at HV
      go_wp2_with (at_builtin; refine stop_here ?_)
      refine go_on ?_
      refine append_lit rfl _ _ rfl w.heap.size _ _ rfl HV.out _ _ _ [0, 0] rfl rfl rfl (by rw [HX.out] at hel; simp; omega) HB.out.size (Or.inl rfl) ?_
      intro v1 w1 hown1 hbel1 hz1
      have hcv := own_string hown1
      replace HB := Lib.hid (HB.out.trans_below hbel1)
      clear hown1 hbel1 HV
      go_wp2_with (fail)
      go_ret
      exact ⟨rfl, HB.out⟩
end Go.Proofs.YtggmeggfibblhaaDoor
