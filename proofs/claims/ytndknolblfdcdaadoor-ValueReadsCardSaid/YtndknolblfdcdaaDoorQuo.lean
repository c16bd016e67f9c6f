/- The contracts of value.quote and moultref1.quoted. -/
import Derived.Test.YtndknolblfdcdaaDoorOwn
set_option linter.unusedSimpArgs false
set_option linter.unusedVariables false
namespace Go.Proofs.YtndknolblfdcdaaDoor
open Go.RowKit

def hexd (n : Nat) : UInt8 := UInt8.ofNat (if n < 10 then 48 + n else 87 + n)
def esc (m c : UInt8) : List UInt8 :=
  if c.toNat = m.toNat ∨ c.toNat = 92 then [92, c] else if 32 ≤ c.toNat ∧ c.toNat ≤ 126 then [c] else [92, 120, hexd (c.toNat / 16), hexd (c.toNat % 16)]
def escL (m : UInt8) (l : List UInt8) : List UInt8 := l.flatMap (esc m)
def quoteL (m : UInt8) (l : List UInt8) : List UInt8 := m :: (escL m l ++ [m])

theorem esc_len (m c : UInt8) : (esc m c).length ≤ 4 := by unfold esc; split <;> (try split) <;> simp
theorem escL_len (m : UInt8) (l : List UInt8) : (escL m l).length ≤ 4 * l.length := by
  induction l with
  | nil => simp [escL]
  | cons c l ih => have := esc_len m c; simp only [escL, List.flatMap_cons, List.length_append, List.length_cons] at *; omega
theorem escL_snoc (m : UInt8) (l : List UInt8) (c : UInt8) : escL m (l ++ [c]) = escL m l ++ esc m c := by simp [escL]
theorem take_all (s : ByteArray) : s.data.toList.take s.size = s.data.toList := List.take_of_length_le (Nat.le_refl _)
theorem take_snoc (s : ByteArray) (k : Nat) (h : k < s.size) : s.data.toList.take (k + 1) = s.data.toList.take k ++ [s[k]] := by
  rw [List.take_succ_eq_append_getElem (by simpa using h)]; rfl

theorem and15_all : ∀ n : Fin 256, bits BinOp.and IntKind.u8 (n.val : Int) 15 = (n.val : Int) % 16 := by decide +kernel
theorem and15 (c : UInt8) : bits BinOp.and IntKind.u8 (c.toNat : Int) 15 = (c.toNat : Int) % 16 := and15_all ⟨c.toNat, c.toNat_lt⟩
theorem wrap16_all : ∀ n : Fin 256, IntKind.u8.wrap ((n.val : Int) / 16) = (n.val : Int) / 16 := by decide +kernel
theorem wrap16 (c : UInt8) : IntKind.u8.wrap ((c.toNat : Int) / 16) = (c.toNat : Int) / 16 := wrap16_all ⟨c.toNat, c.toNat_lt⟩
theorem hex_all : ∀ n : Fin 16, ∀ h : n.val < (ByteArray.mk #[48, 49, 50, 51, 52, 53, 54, 55, 56, 57, 97, 98, 99, 100, 101, 102]).size, ((ByteArray.mk #[48, 49, 50, 51, 52, 53, 54, 55, 56, 57, 97, 98, 99, 100, 101, 102])[n.val]'h).toNat = (hexd n.val).toNat := by decide +kernel
theorem hex_at (n : Nat) (h : n < (ByteArray.mk #[48, 49, 50, 51, 52, 53, 54, 55, 56, 57, 97, 98, 99, 100, 101, 102]).size) : ((ByteArray.mk #[48, 49, 50, 51, 52, 53, 54, 55, 56, 57, 97, 98, 99, 100, 101, 102])[n]'h).toNat = (hexd n).toNat := hex_all ⟨n, h⟩ h

theorem hex_cells (c : UInt8) (h1 : ((c.toNat : Int) / 16).toNat < (ByteArray.mk #[48, 49, 50, 51, 52, 53, 54, 55, 56, 57, 97, 98, 99, 100, 101, 102]).size) (h2 : ((c.toNat : Int) % 16).toNat < (ByteArray.mk #[48, 49, 50, 51, 52, 53, 54, 55, 56, 57, 97, 98, 99, 100, 101, 102]).size) :
    #[Value.int .u8 92, .int .u8 120, .int .u8 (((ByteArray.mk #[48, 49, 50, 51, 52, 53, 54, 55, 56, 57, 97, 98, 99, 100, 101, 102])[((c.toNat : Int) / 16).toNat]'h1).toNat), .int .u8 (((ByteArray.mk #[48, 49, 50, 51, 52, 53, 54, 55, 56, 57, 97, 98, 99, 100, 101, 102])[((c.toNat : Int) % 16).toNat]'h2).toNat)].toList = Lib.byteCells [92, 120, hexd (c.toNat / 16), hexd (c.toNat % 16)] := by
  rw [hex_at _ h1, hex_at _ h2, show ((c.toNat : Int) / 16).toNat = c.toNat / 16 by omega, show ((c.toNat : Int) % 16).toNat = c.toNat % 16 by omega]
  rfl

def QRel (s : ByteArray) (m : UInt8) (B : Nat) (w : World) (v i : Value) (x : World) : Prop :=
  ∃ k : Nat, k ≤ s.size ∧ i = .int .i64 k ∧ Own B x v (m :: escL m (s.data.toList.take k)) ∧ Below B w x

set_option maxHeartbeats 1000000 in
theorem quote_any (s : ByteArray) (m : UInt8) (mi : Int) (hm : mi = m.toNat) (w : World) (hs : s.size ≤ 100000) :
    Calls Tryd.prog 25 #[.string s, .int .u8 mi] w fun e w' => e = .returned (.string ⟨(quoteL m s.data.toList).toArray⟩) ∧ Bel w w' := by
  subst hm
  go_enter Tryd.func25, Tryd.ntmps25
  go_wp2
  go_loopw [5, 12] (fun v i x => QRel s m w.heap.size w v i x) (fun _ i _ => s.size - (intOf i).toNat)
  case atStart => exact ⟨0, Nat.zero_le _, rfl, own_new _ w _ [m] rfl (Nat.le_refl _) (by simp), (Below.refl _ _).alloc (Nat.le_refl _) _⟩
  case round =>
    obtain ⟨k, hk, rfl, hown, hbel⟩ := hrel
    have HO := Lib.hid hown; clear hown
    have HB := Lib.hid hbel; clear hbel
    have hL : (m :: escL m (s.data.toList.take k)).length ≤ 400001 := by
      have := escL_len m (s.data.toList.take k)
      have h2 : (s.data.toList.take k).length ≤ k := List.length_take_le _ _
      simp only [List.length_cons]; omega
    have hZ := HB.out.size
    by_cases hlt : k < s.size
    · have hesc := escL_snoc m (s.data.toList.take k) s[k]
      rw [← take_snoc s k hlt] at hesc
      have HE := Lib.hid hesc; clear hesc
      by_cases h1 : s[k].toNat = m.toNat ∨ s[k].toNat = 92
      · have he : esc m s[k] = [92, s[k]] := by unfold esc; rw [if_pos h1]
        have HS := Lib.hid he; clear he
        by_cases h0 : s[k].toNat = m.toNat
        · have t1 : ((s[k].toNat : Int) == (m.toNat : Int)) = true := by simp [h0]
          clear h0 h1
          go_wp2_with (at_builtin; refine stop_here ?_)
          refine go_on ?_
          refine append_lit rfl _ _ rfl w.heap.size _ _ rfl HO.out _ _ _ [92] rfl rfl rfl (by simp only [List.length_cons, List.length_nil] at *; omega) hZ (Or.inl rfl) ?_
          intro v1 w1 hown1 hbel1 hZ1
          have HO1 := Lib.hid hown1
          have HB1 := Lib.hid hbel1
          clear hown1 hbel1
          go_wp2_with (at_builtin; refine stop_here ?_)
          refine go_on ?_
          refine append_lit rfl _ _ rfl w.heap.size _ _ rfl HO1.out _ _ _ [s[k]] rfl rfl rfl (by simp only [List.length_append, List.length_cons, List.length_nil] at *; omega) hZ1 (Or.inl rfl) ?_
          intro v2 w2 hown2 hbel2 hZ2
          have HO2 := Lib.hid hown2
          have HB2 := Lib.hid hbel2
          clear hown2 hbel2
          go_wp2
          go_roundw
          case rel => exact ⟨k + 1, hlt, by go_num, by rw [HE.out, HS.out]; simpa using HO2.out, (HB.out.trans HB1.out).trans HB2.out⟩
          case measure => simp [intOf]; omega
        · have t1 : ((s[k].toNat : Int) == (m.toNat : Int)) = false := by simp; omega
          have t2 : ((s[k].toNat : Int) == 92) = true := by simp; omega
          clear h0 h1
          go_wp2_with (at_builtin; refine stop_here ?_)
          refine go_on ?_
          refine append_lit rfl _ _ rfl w.heap.size _ _ rfl HO.out _ _ _ [92] rfl rfl rfl (by simp only [List.length_cons, List.length_nil] at *; omega) hZ (Or.inl rfl) ?_
          intro v1 w1 hown1 hbel1 hZ1
          have HO1 := Lib.hid hown1
          have HB1 := Lib.hid hbel1
          clear hown1 hbel1
          go_wp2_with (at_builtin; refine stop_here ?_)
          refine go_on ?_
          refine append_lit rfl _ _ rfl w.heap.size _ _ rfl HO1.out _ _ _ [s[k]] rfl rfl rfl (by simp only [List.length_append, List.length_cons, List.length_nil] at *; omega) hZ1 (Or.inl rfl) ?_
          intro v2 w2 hown2 hbel2 hZ2
          have HO2 := Lib.hid hown2
          have HB2 := Lib.hid hbel2
          clear hown2 hbel2
          go_wp2
          go_roundw
          case rel => exact ⟨k + 1, hlt, by go_num, by rw [HE.out, HS.out]; simpa using HO2.out, (HB.out.trans HB1.out).trans HB2.out⟩
          case measure => simp [intOf]; omega
      · by_cases h2 : 32 ≤ s[k].toNat ∧ s[k].toNat ≤ 126
        · have he : esc m s[k] = [s[k]] := by unfold esc; rw [if_neg h1, if_pos h2]
          have HS := Lib.hid he; clear he
          have n1 : ((s[k].toNat : Int) == (m.toNat : Int)) = false := by simp; omega
          have n2 : ((s[k].toNat : Int) == 92) = false := by simp; omega
          have n3 : (32 : Int) ≤ (s[k].toNat : Int) := by omega
          have n4 : (s[k].toNat : Int) ≤ 126 := by omega
          clear h1 h2
          go_wp2_with (at_builtin; refine stop_here ?_)
          refine go_on ?_
          refine append_lit rfl _ _ rfl w.heap.size _ _ rfl HO.out _ _ _ [s[k]] rfl rfl rfl (by simp only [List.length_append, List.length_cons, List.length_nil] at *; omega) hZ (Or.inl rfl) ?_
          intro v2 w2 hown2 hbel2 hZ2
          have HO2 := Lib.hid hown2
          have HB2 := Lib.hid hbel2
          clear hown2 hbel2
          go_wp2
          go_roundw
          case rel => exact ⟨k + 1, hlt, by go_num, by rw [HE.out, HS.out]; simpa using HO2.out, HB.out.trans HB2.out⟩
          case measure => simp [intOf]; omega
        · have he : esc m s[k] = [92, 120, hexd (s[k].toNat / 16), hexd (s[k].toNat % 16)] := by unfold esc; rw [if_neg h1, if_neg h2]
          have HS := Lib.hid he; clear he
          have n1 : ((s[k].toNat : Int) == (m.toNat : Int)) = false := by simp; omega
          have n2 : ((s[k].toNat : Int) == 92) = false := by simp; omega
          have n3 : ¬ ((32 : Int) ≤ (s[k].toNat : Int) ∧ (s[k].toNat : Int) ≤ 126) := by omega
          have n4 : (0 : Int) ≤ (s[k].toNat : Int) / 16 := by omega
          have n5 : (s[k].toNat : Int) / 16 < 16 := by have := s[k].toNat_lt; omega
          have n6 := and15 s[k]
          have n7 : (0 : Int) ≤ (s[k].toNat : Int) % 16 := by omega
          have n8 : (s[k].toNat : Int) % 16 < 16 := by omega
          clear h1 h2
          go_wp2_with (at_builtin; refine stop_here ?_)
          all_goals go_region_law (refine step_append_lit rfl (.tmp 40) (.tmp 47) rfl w.heap.size _ _ rfl HO.out _ _ _ [92, 120, hexd (s[k].toNat / 16), hexd (s[k].toNat % 16)] rfl rfl (hex_cells s[k] _ _) (by simp only [List.length_append, List.length_cons, List.length_nil] at *; omega) hZ (Or.inr rfl) ?_; intro v2 w2 hown2 hbel2 hZ2; have HO2 := Lib.hid hown2; have HB2 := Lib.hid hbel2; clear hown2 hbel2)
          all_goals go_wp2
          all_goals go_roundw
          all_goals first
            | exact ⟨k + 1, hlt, by go_num, by rw [HE.out, HS.out]; simpa using HO2.out, HB.out.trans HB2.out⟩
            | (simp [intOf]; omega)
    · have e : k = s.size := by omega
      subst e
      go_wp2_with (at_builtin; refine stop_here ?_)
      refine go_on ?_
      refine append_lit rfl _ _ rfl w.heap.size _ _ rfl HO.out _ _ _ [m] rfl rfl rfl (by simp only [List.length_append, List.length_cons, List.length_nil] at *; omega) hZ (Or.inl rfl) ?_
      intro v2 w2 hown2 hbel2 hZ2
      have HO2 := Lib.hid hown2
      have HB2 := Lib.hid hbel2
      clear hown2 hbel2
      have hcv := own_string HO2.out
      go_wp2
      go_ret
      refine ⟨ret_string ?_, HB.out.trans HB2.out⟩
      rw [take_all]
      rfl
set_option maxHeartbeats 1000000 in
theorem ref_quoted_any (s : ByteArray) (m : UInt8) (mi : Int) (hm : mi = m.toNat) (w : World) (hs : s.size ≤ 100000) :
    Calls Tryd.prog 27 #[.string s, .int .u8 mi] w fun e w' => e = .returned (.string ⟨(quoteL m s.data.toList).toArray⟩) ∧ Bel w w' := by
  subst hm
  go_enter Tryd.func27, Tryd.ntmps27
  go_wp2
  go_loopw [5, 6] (fun v i x => QRel s m w.heap.size w v i x) (fun _ i _ => s.size - (intOf i).toNat)
  case atStart => exact ⟨0, Nat.zero_le _, rfl, own_new _ w _ [m] rfl (Nat.le_refl _) (by simp), (Below.refl _ _).alloc (Nat.le_refl _) _⟩
  case round =>
    obtain ⟨k, hk, rfl, hown, hbel⟩ := hrel
    have HO := Lib.hid hown; clear hown
    have HB := Lib.hid hbel; clear hbel
    have hL : (m :: escL m (s.data.toList.take k)).length ≤ 400001 := by
      have := escL_len m (s.data.toList.take k)
      have h2 : (s.data.toList.take k).length ≤ k := List.length_take_le _ _
      simp only [List.length_cons]; omega
    have hZ := HB.out.size
    by_cases hlt : k < s.size
    · have hesc := escL_snoc m (s.data.toList.take k) s[k]
      rw [← take_snoc s k hlt] at hesc
      have HE := Lib.hid hesc; clear hesc
      by_cases h1 : s[k].toNat = m.toNat ∨ s[k].toNat = 92
      · have he : esc m s[k] = [92, s[k]] := by unfold esc; rw [if_pos h1]
        have HS := Lib.hid he; clear he
        by_cases h0 : s[k].toNat = m.toNat
        · have t1 : ((s[k].toNat : Int) == (m.toNat : Int)) = true := by simp [h0]
          clear h0 h1
          go_wp2_with (at_builtin; refine stop_here ?_)
          refine go_on ?_
          refine append_lit rfl _ _ rfl w.heap.size _ _ rfl HO.out _ _ _ [92, s[k]] rfl rfl rfl (by simp only [List.length_cons, List.length_nil] at *; omega) hZ (Or.inl rfl) ?_
          intro v2 w2 hown2 hbel2 hZ2
          have HO2 := Lib.hid hown2
          have HB2 := Lib.hid hbel2
          clear hown2 hbel2
          go_wp2
          go_roundw
          case rel => exact ⟨k + 1, hlt, by go_num, by rw [HE.out, HS.out]; simpa using HO2.out, HB.out.trans HB2.out⟩
          case measure => simp [intOf]; omega
        · have t1 : ((s[k].toNat : Int) == (m.toNat : Int)) = false := by simp; omega
          have t2 : ((s[k].toNat : Int) == 92) = true := by simp; omega
          clear h0 h1
          go_wp2_with (at_builtin; refine stop_here ?_)
          refine go_on ?_
          refine append_lit rfl _ _ rfl w.heap.size _ _ rfl HO.out _ _ _ [92, s[k]] rfl rfl rfl (by simp only [List.length_cons, List.length_nil] at *; omega) hZ (Or.inl rfl) ?_
          intro v2 w2 hown2 hbel2 hZ2
          have HO2 := Lib.hid hown2
          have HB2 := Lib.hid hbel2
          clear hown2 hbel2
          go_wp2
          go_roundw
          case rel => exact ⟨k + 1, hlt, by go_num, by rw [HE.out, HS.out]; simpa using HO2.out, HB.out.trans HB2.out⟩
          case measure => simp [intOf]; omega
      · by_cases h2 : 32 ≤ s[k].toNat ∧ s[k].toNat ≤ 126
        · have he : esc m s[k] = [s[k]] := by unfold esc; rw [if_neg h1, if_pos h2]
          have HS := Lib.hid he; clear he
          have n1 : ((s[k].toNat : Int) == (m.toNat : Int)) = false := by simp; omega
          have n2 : ((s[k].toNat : Int) == 92) = false := by simp; omega
          have n3 : (32 : Int) ≤ (s[k].toNat : Int) := by omega
          have n4 : (s[k].toNat : Int) ≤ 126 := by omega
          clear h1 h2
          go_wp2_with (at_builtin; refine stop_here ?_)
          refine go_on ?_
          refine append_lit rfl _ _ rfl w.heap.size _ _ rfl HO.out _ _ _ [s[k]] rfl rfl rfl (by simp only [List.length_append, List.length_cons, List.length_nil] at *; omega) hZ (Or.inl rfl) ?_
          intro v2 w2 hown2 hbel2 hZ2
          have HO2 := Lib.hid hown2
          have HB2 := Lib.hid hbel2
          clear hown2 hbel2
          go_wp2
          go_roundw
          case rel => exact ⟨k + 1, hlt, by go_num, by rw [HE.out, HS.out]; simpa using HO2.out, HB.out.trans HB2.out⟩
          case measure => simp [intOf]; omega
        · have he : esc m s[k] = [92, 120, hexd (s[k].toNat / 16), hexd (s[k].toNat % 16)] := by unfold esc; rw [if_neg h1, if_neg h2]
          have HS := Lib.hid he; clear he
          have n1 : ((s[k].toNat : Int) == (m.toNat : Int)) = false := by simp; omega
          have n2 : ((s[k].toNat : Int) == 92) = false := by simp; omega
          have n3 : ¬ ((32 : Int) ≤ (s[k].toNat : Int) ∧ (s[k].toNat : Int) ≤ 126) := by omega
          have n4 : (0 : Int) ≤ (s[k].toNat : Int) / 16 := by omega
          have n5 : (s[k].toNat : Int) / 16 < 16 := by have := s[k].toNat_lt; omega
          have n6 : IntKind.u8.wrap ((s[k].toNat : Int) / 16) = (s[k].toNat : Int) / 16 := wrap16 s[k]
          have n9 : ((s[k].toNat : Int)).tmod 16 = (s[k].toNat : Int) % 16 := Int.tmod_eq_emod_of_nonneg (Int.natCast_nonneg _)
          have n7 : (0 : Int) ≤ (s[k].toNat : Int) % 16 := by omega
          have n8 : (s[k].toNat : Int) % 16 < 16 := by omega
          clear h1 h2
          go_wp2_with (at_builtin; refine stop_here ?_)
          all_goals go_region_law (refine step_append_lit rfl (.tmp 19) (.tmp 26) rfl w.heap.size _ _ rfl HO.out _ _ _ [92, 120, hexd (s[k].toNat / 16), hexd (s[k].toNat % 16)] rfl rfl (hex_cells s[k] _ _) (by simp only [List.length_append, List.length_cons, List.length_nil] at *; omega) hZ (Or.inr rfl) ?_; intro v2 w2 hown2 hbel2 hZ2; have HO2 := Lib.hid hown2; have HB2 := Lib.hid hbel2; clear hown2 hbel2)
          all_goals go_wp2
          all_goals go_roundw
          all_goals first
            | exact ⟨k + 1, hlt, by go_num, by rw [HE.out, HS.out]; simpa using HO2.out, HB.out.trans HB2.out⟩
            | (simp [intOf]; omega)
    · have e : k = s.size := by omega
      subst e
      go_wp2_with (at_builtin; refine stop_here ?_)
      refine go_on ?_
      refine append_lit rfl _ _ rfl w.heap.size _ _ rfl HO.out _ _ _ [m] rfl rfl rfl (by simp only [List.length_append, List.length_cons, List.length_nil] at *; omega) hZ (Or.inl rfl) ?_
      intro v2 w2 hown2 hbel2 hZ2
      have HO2 := Lib.hid hown2
      have HB2 := Lib.hid hbel2
      clear hown2 hbel2
      have hcv := own_string HO2.out
      go_wp2
      go_ret
      refine ⟨ret_string ?_, HB.out.trans HB2.out⟩
      rw [take_all]
      rfl
end Go.Proofs.YtndknolblfdcdaaDoor
