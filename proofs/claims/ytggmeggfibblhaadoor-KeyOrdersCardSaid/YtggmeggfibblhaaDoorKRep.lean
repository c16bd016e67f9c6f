/- strings.ReplaceAll of a byte 0 by the bytes 0 and 255: a text's bytes. (Grow and Replace are walked here: this program's copyCheck is cut off at its panic.) -/
import Derived.Test.YtggmeggfibblhaaDoorVBld
import Derived.Test.YtggmeggfibblhaaDoorOwnG
import Derived.Test.YtggmeggfibblhaaDoorKMath
import Derived.Shelf.Strings.Builder2
import Derived.Shelf.Strings.Count
import Derived.Shelf.Strings.Search3
set_option linter.unusedSimpArgs false
set_option linter.unusedVariables false
namespace Go.Proofs.YtggmeggfibblhaaDoor
open Go.RowKit Go.Deep

theorem esc_none (l : List UInt8) (h : Lib.countByte l 0 = 0) : escL l = l := by
  induction l with
  | nil => rfl
  | cons b l ih =>
    unfold Lib.countByte at h ih
    rw [List.count_cons] at h
    by_cases hb : b = 0
    · subst hb; simp at h
    · rw [escL_other b l hb, ih (by omega)]
theorem idx_split : ∀ l : List UInt8, 0 < Lib.countByte l 0 → ∃ j : Nat, Lib.indexByte l 0 = j ∧ j < l.length ∧ Lib.countByte (l.drop (j + 1)) 0 + 1 = Lib.countByte l 0 ∧ escL (l.take (j + 1)) = l.take j ++ [0, 255]
  | [], h => by simp [Lib.countByte] at h
  | b :: l, h => by
    by_cases hb : b = 0
    · subst hb
      refine ⟨0, rfl, by simp, ?_, rfl⟩
      simp [Lib.countByte]
    · have hc : Lib.countByte (b :: l) 0 = Lib.countByte l 0 := by
        unfold Lib.countByte; rw [List.count_cons]; simp [hb]
      rw [hc] at h ⊢
      obtain ⟨j, h1, h2, h3, h4⟩ := idx_split l h
      refine ⟨j + 1, ?_, by simpa using h2, ?_, ?_⟩
      · unfold Lib.indexByte
        have e1 : (b == (0 : UInt8)) = false := beq_eq_false_iff_ne.2 hb
        have e2 : ((j : Int) == -1) = false := beq_eq_false_iff_ne.2 (by omega)
        rw [e1, h1, e2]; simp
      · rw [List.drop_succ_cons]; exact h3
      · rw [List.take_succ_cons, escL_other b _ hb, h4, List.take_succ_cons]; rfl

theorem bextra2 : Builder.Extra Tryd.prog Tryd.lays241_ren := ⟨⟨by kernel_rfl, by kernel_rfl⟩, Tryd.underlying5, Tryd.isAgg5, Tryd.sizeOf5, Tryd.zeroValue5, infoByte, by kernel_rfl, by kernel_rfl, by decide⟩
theorem grow_row (b n : Nat) (w : World) (hbk : w.heap[b]? = some (.cells #[.pointer (some ⟨b, 0, none⟩), .slice none 0 0] 58 (0, 0))) (hb : b ≤ w.heap.size) (hn : n ≤ 281474976710656) :
    Calls Tryd.prog 48 #[.pointer (some ⟨b, 0, none⟩), .int .i64 n] w fun e w' => e = .returned (.tuple #[]) ∧ (Lib.BuilderAt 58 5 b b (.pointer (some ⟨b, 0, none⟩)) [] w' ∧ Below b w w') :=
  Any.Builder_grow_fresh Tryd.lays241 bextra2 b b n w (Nat.le_refl _) hbk hb hn

theorem Below.drewN' {b : Nat} {a w : World} (h : Below b a w) (n : Nat) : Below b a (w.drewN n) := ⟨h.os, h.tape, h.output, h.size, h.block⟩
set_option maxHeartbeats 2000000 in
set_option maxRecDepth 100000 in
theorem grow_any (b n : Nat) (w : World) (hbk : w.heap[b]? = some (.cells #[.pointer none, .slice none 0 0] 58 (0, 0))) (hn : n ≤ 281474976710656) :
    Calls Tryd.prog 41 #[.pointer (some ⟨b, 0, none⟩), .int .i64 n] w fun e w' => e = .returned (.tuple #[]) ∧ BldW b [] w' ∧ Below b w w' := by
  have hlt : b < w.heap.size := by
    rcases Nat.lt_or_ge b w.heap.size with h' | h'
    · exact h'
    · simp [Array.getElem?_eq_none h'] at hbk
  have hbk1 : (w.setCell ⟨b, 0, none⟩ (.pointer (some ⟨b, 0, none⟩))).heap[b]? = some (.cells #[.pointer (some ⟨b, 0, none⟩), .slice none 0 0] 58 (0, 0)) := by
    simp [World.setCell, Array.getElem?_modify, hbk]
  have c1 : (w.setCell ⟨b, 0, none⟩ (.pointer (some ⟨b, 0, none⟩))).cell? ⟨b, 1, none⟩ = some (.slice none 0 0) := by simp [World.cell?, hbk1]
  have hb1 : Below b w (w.setCell ⟨b, 0, none⟩ (.pointer (some ⟨b, 0, none⟩))) := (Below.refl b w).setCell (p := ⟨b, 0, none⟩) (Nat.le_refl _) _
  have hz : (w.setCell ⟨b, 0, none⟩ (.pointer (some ⟨b, 0, none⟩))).heap.size = w.heap.size := by simp [World.setCell]
  go_enter Tryd.func41, Tryd.ntmps41
  go_wp2_with (fail)
  refine (check_fresh b w (by simp [World.cell?, hbk]) (by simp [World.shape?, hbk]) (by simp [World.frozen?, hbk])).mono ?_
  rintro e w1 ⟨rfl, hw1⟩
  rw [← hw1] at hbk1 c1 hb1 hz
  clear hw1
  have hU : Lib.BuilderAt 58 5 b b (.pointer (some ⟨b, 0, none⟩)) [] w1 := ⟨Nat.le_refl _, .slice none 0 0, hbk1, World.ownsRow_nil _ _ _ _, by simp [Value.ownBlock]⟩
  by_cases h0 : 0 < n
  · go_wp2_with (fail)
    go_quiet (fail)
    go_wp2_with (fail)
    refine (grow_row b n (w1.drewN _) hbk1 (by show b ≤ w1.heap.size; omega) hn).mono ?_
    rintro e w2 ⟨rfl, h1, h2⟩
    go_wp2_with (fail)
    go_end0
    exact ⟨rfl, Or.inr h1, Below.trans (Below.drewN' hb1 _) h2⟩
  · go_wp2_with (fail)
    go_quiet (fail)
    go_wp2_with (fail)
    go_end0
    exact ⟨rfl, Or.inr hU, Below.drewN' hb1 _⟩

set_option maxHeartbeats 1000000 in
theorem count_any (s : ByteArray) (w : World) : Calls Tryd.prog 40 #[.string s, .string ⟨#[0]⟩] w fun e w' => e = .returned (.int .i64 (Lib.countByte s.data.toList 0)) ∧ w' = w :=
  Any.strings_Count_one Tryd.lays138 s 0 w
theorem index_any (s : ByteArray) (w : World) : Calls Tryd.prog 42 #[.string s, .string ⟨#[0]⟩] w fun e w' => e = .returned (.int .i64 (Lib.indexByte s.data.toList 0)) ∧ w' = w :=
  Any.strings_Index_one Tryd.lays143 s 0 w

theorem grow_at (b n : Nat) (x : Int) {w : World} (hx : x = n) (hbk : w.heap[b]? = some (.cells #[.pointer none, .slice none 0 0] 58 (0, 0))) (hn : n ≤ 281474976710656) :
    Calls Tryd.prog 41 #[.pointer (some ⟨b, 0, none⟩), .int .i64 x] w fun e w' => e = .returned (.tuple #[]) ∧ BldW b [] w' ∧ Below b w w' := by
  subst hx; exact grow_any b n w hbk hn
/-- So many are replaced: what has been written, and how many are left. -/
def RepRel (s : ByteArray) (c : Nat) (w : World) (st i : Value) (x : World) : Prop :=
  ∃ k m : Nat, st = .int .i64 m ∧ i = .int .i64 k ∧ m ≤ s.size ∧ k + Lib.countByte (s.data.toList.drop m) 0 = c ∧ BldW w.heap.size (escL (s.data.toList.take m)) x ∧ Bel w x

set_option maxHeartbeats 4000000 in
set_option maxRecDepth 100000 in
theorem replace_any (s : ByteArray) (w : World) (hs : s.size ≤ 4000) :
    Calls Tryd.prog 36 #[.string s, .string ⟨#[0]⟩, .string ⟨#[0, 255]⟩, .int .i64 (-1)] w fun e w' => e = .returned (.string ⟨(escL s.data.toList).toArray⟩) ∧ Bel w w' := by
  obtain ⟨c, hc⟩ : ∃ c, Lib.countByte s.data.toList 0 = c := ⟨_, rfl⟩
  have hcl : c ≤ s.size := by rw [← hc]; exact List.count_le_length
  have HC := Lib.hid hc; clear hc
  go_enter Tryd.func36, Tryd.ntmps36
  by_cases h0 : c = 0
  · have HE := Lib.hid (esc_none s.data.toList (HC.out.trans h0))
    go_wp2_with (fail)
    refine (count_any s w).mono ?_
    rintro e w1 ⟨rfl, rfl⟩
    rw [HC.out]
    go_wp2_with (fail)
    go_ret
    exact ⟨ret_string (by rw [HE.out]), Bel.refl _⟩
  · go_wp2_with (fail)
    refine (count_any s w).mono ?_
    rintro e w1 ⟨rfl, rfl⟩
    rw [HC.out]
    have hcz : ((c : Int) == 0) = false := beq_eq_false_iff_ne.2 (by omega)
    go_wp2_with (fail)
    refine Calls.mono (R := fun e w' => e = .returned (.tuple #[]) ∧ BldW w1.heap.size [] w' ∧ Below w1.heap.size (w1.alloc (.cells #[.pointer none, .slice none 0 0] 58)) w') ?_ ?_
    · exact grow_at _ (s.size + c) _ (by omega) (heap_alloc_new w1 _) (by omega)
    rintro e w2 ⟨rfl, hl, hb⟩
    have HL := Lib.hid hl
    have HB := Lib.hid (Bel.trans_below ((Bel.refl w1).alloc _) hb)
    clear hl hb
    go_wp2_with (fail)
    go_loopw [11, 53] (fun st i x => RepRel s c w1 st i x) (fun _ i _ => c - (intOf i).toNat)
    case atStart => exact ⟨0, 0, rfl, rfl, Nat.zero_le _, by rw [List.drop_zero, HC.out, Nat.zero_add], HL.out, HB.out⟩
    case round =>
      obtain ⟨k, m, rfl, rfl, hm, hcnt, hl, hb⟩ := hrel
      have HL := Lib.hid hl; clear hl
      have HB := Lib.hid hb; clear hb
      have hsl : s.data.toList.length = s.size := rfl
      have c1 : (0 : Int) ≤ (m : Int) := by omega
      have c2 : (m : Int) ≤ (s.size : Int) := by omega
      have hel := escL_len (s.data.toList.take m)
      rw [List.length_take] at hel
      by_cases hlt : k < c
      · obtain ⟨j, hj, hj1, hj2, hj3⟩ := idx_split (s.data.toList.drop m) (by omega)
        rw [List.length_drop] at hj1
        have HS := Lib.hid (show escL (s.data.toList.take m) ++ (s.data.toList.drop m).take j ++ [0, 255] = escL (s.data.toList.take (m + j + 1)) by
          rw [show m + j + 1 = m + (j + 1) by omega, List.take_add, escL_append, hj3, List.append_assoc])
        rw [List.drop_drop] at hj2
        have HN := Lib.hid hj2; clear hj2 hj3
        have i1 : (k : Int) < (c : Int) := by omega
        go_wp2_with (fail)
        refine (index_any (s.extract m s.size) wr).mono ?_
        rintro e w3 ⟨rfl, rfl⟩
        rw [ext_end, hj]
        have c3 : (m : Int) ≤ (m : Int) + (j : Int) := by omega
        have c4 : (m : Int) + (j : Int) ≤ (s.size : Int) := by omega
        go_wp2_with (fail)
        refine (write_any w1.heap.size _ (s.extract m (m + j)) _ HL.out (by rw [ByteArray.size_extract]; omega)).mono ?_
        rintro e w4 ⟨rfl, hl, hb⟩
        rw [ext_mid] at hl
        have HL4 := Lib.hid hl
        replace HB := Lib.hid (Below.trans HB.out hb)
        clear hl hb HL
        go_wp2_with (fail)
        refine (write_any w1.heap.size _ ⟨#[0, 255]⟩ _ HL4.out (by rw [List.length_append, List.length_take]; show _ + 2 ≤ _; omega)).mono ?_
        rintro e w5 ⟨rfl, hl, hb⟩
        have HL5 := Lib.hid (show BldW w1.heap.size (escL (s.data.toList.take (m + j + 1))) w5 by rw [← HS.out]; exact hl)
        replace HB := Lib.hid (Below.trans HB.out hb)
        clear hl hb HL4
        go_wp2_with (fail)
        go_roundw
        case rel => exact ⟨k + 1, m + j + 1, by go_num, by go_num, by omega, by have := HN.out; rw [show m + j + 1 = m + (j + 1) by omega]; omega, HL5.out, HB.out⟩
        case measure => simp [intOf]; omega
      · have HE := Lib.hid (show escL (s.data.toList.take m) ++ s.data.toList.drop m = escL s.data.toList by
          have h1 := esc_none (s.data.toList.drop m) (by omega)
          conv => lhs; rw [← h1]
          rw [← escL_append, List.take_append_drop])
        have i1 : ¬ (k : Int) < (c : Int) := by omega
        go_wp2_with (fail)
        refine (write_any w1.heap.size _ (s.extract m s.size) _ HL.out (by rw [ByteArray.size_extract]; omega)).mono ?_
        rintro e w4 ⟨rfl, hl, hb⟩
        rw [ext_end, HE.out] at hl
        have HL4 := Lib.hid hl
        replace HB := Lib.hid (Below.trans HB.out hb)
        clear hl hb HL
        go_wp2_with (fail)
        refine (bstring_any w1.heap.size _ _ HL4.out).mono ?_
        rintro e w5 ⟨rfl, hb⟩
        replace HB := Lib.hid (Below.trans HB.out hb); clear hb
        go_wp2_with (fail)
        go_ret
        exact ⟨rfl, HB.out⟩

set_option maxHeartbeats 1000000 in
theorem repall_any (s : ByteArray) (w : World) (hs : s.size ≤ 4000) :
    Calls Tryd.prog 26 #[.string s, .string ⟨#[0]⟩, .string ⟨#[0, 255]⟩] w fun e w' => e = .returned (.string ⟨(escL s.data.toList).toArray⟩) ∧ Bel w w' := by
  go_enter Tryd.func26, Tryd.ntmps26
  go_wp2_with (fail)
  refine (replace_any s w hs).mono ?_
  rintro e w1 ⟨rfl, hb⟩
  go_wp2_with (fail)
  go_ret
  exact ⟨rfl, hb⟩
end Go.Proofs.YtggmeggfibblhaaDoor
