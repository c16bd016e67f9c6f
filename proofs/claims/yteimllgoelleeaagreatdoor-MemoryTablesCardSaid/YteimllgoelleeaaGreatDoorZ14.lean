/- TRep, TRep2, laid together. -/
import Derived.Test.YteimllgoelleeaaGreatDoorZ13
import Derived.Test.YteimllgoelleeaaGreatDoorZ6
import Derived.Test.YteimllgoelleeaaGreatDoorZ3
import Derived.Shelf.Strings.Builder2
import Derived.Shelf.Strings.Count
import Derived.Shelf.Strings.Search3
set_option linter.unusedSimpArgs false
set_option linter.unusedVariables false
/- strings.ReplaceAll of a byte 0 by the bytes 0 and 255, and back. (Grow and Replace are walked here: this program's copyCheck is cut off at its panic.) -/
namespace Go.Proofs.YteimllgoelleeaaGreatDoor
open Go.RowKit Go.Deep

theorem ext_end (s : ByteArray) (i : Nat) : (s.extract i s.size).data.toList = s.data.toList.drop i := by
  rw [ByteArray.data_extract, Array.toList_extract, List.extract_eq_take_drop]
  exact List.take_of_length_le (by rw [List.length_drop]; exact Nat.le_refl _)
theorem ext_mid (s : ByteArray) (i j : Nat) : (s.extract i (i + j)).data.toList = (s.data.toList.drop i).take j := by
  rw [ByteArray.data_extract, Array.toList_extract, List.extract_eq_take_drop]
  congr 1; omega
theorem esc_none (l : List UInt8) (h : Lib.countByte l 0 = 0) : escL l = l := by
  induction l with
  | nil => rfl
  | cons b l ih =>
    unfold Lib.countByte at h ih
    rw [List.count_cons] at h
    by_cases hb : b = 0
    · subst hb; simp at h
    · rw [esc_other hb l, ih (by omega)]
theorem idx_split : ∀ l : List UInt8, 0 < Lib.countByte l 0 → ∃ j : Nat, Lib.indexByte l 0 = j ∧ j < l.length ∧ Lib.countByte (l.drop (j + 1)) 0 + 1 = Lib.countByte l 0 ∧ escL (l.take (j + 1)) = l.take j ++ [0, 255]
  | [], h => by simp [Lib.countByte] at h
  | b :: l, h => by
    by_cases hb : b = 0
    · subst hb
      refine ⟨0, rfl, by simp, ?_, rfl⟩
      simp [Lib.countByte]
    · have hc : Lib.countByte (b :: l) 0 = Lib.countByte l 0 := by
        unfold Lib.countByte; rw [List.count_cons]; simp [hb]
      rw [hc] at h ⊢
      obtain ⟨j, h1, h2, h3, h4⟩ := idx_split l h
      refine ⟨j + 1, ?_, by simpa using h2, ?_, ?_⟩
      · unfold Lib.indexByte
        have e1 : (b == (0 : UInt8)) = false := beq_eq_false_iff_ne.2 hb
        have e2 : ((j : Int) == -1) = false := beq_eq_false_iff_ne.2 (by omega)
        rw [e1, h1, e2]; simp
      · rw [List.drop_succ_cons]; exact h3
      · rw [List.take_succ_cons, esc_other hb, h4, List.take_succ_cons]; rfl

def unL : List UInt8 → List UInt8
  | [] => []
  | [b] => [b]
  | b :: c :: l => if b = 0 ∧ c = 255 then 0 :: unL l else b :: unL (c :: l)
theorem unz_two (l : List UInt8) : unL (0 :: 255 :: l) = 0 :: unL l := by rw [unL, if_pos ⟨rfl, rfl⟩]
theorem unz_other {b : UInt8} (h : b ≠ 0) (l : List UInt8) : unL (b :: l) = b :: unL l := by
  cases l with
  | nil => rfl
  | cons c l => rw [unL, if_neg (fun e => h e.1)]
theorem unz_esc : ∀ k : List UInt8, unL (escL k) = k
  | [] => rfl
  | b :: k => by
    by_cases h : b = 0
    · subst h; rw [esc_zero, unz_two, unz_esc k]
    · rw [esc_other h, unz_other h, unz_esc k]
theorem unz_len : ∀ l : List UInt8, (unL l).length ≤ l.length
  | [] => Nat.le_refl _
  | [b] => Nat.le_refl _
  | b :: c :: l => by
    unfold unL
    split
    · have := unz_len l; simp only [List.length_cons]; omega
    · have := unz_len (c :: l); simp only [List.length_cons] at this ⊢; omega
def sepL : List UInt8 := [0, 255]
theorem sep_pre (b c : UInt8) (l : List UInt8) : sepL.isPrefixOf (b :: c :: l) = decide (b = 0 ∧ c = 255) := by
  unfold sepL
  rw [List.isPrefixOf, List.isPrefixOf, List.isPrefixOf]
  by_cases h1 : b = 0
  · subst h1
    by_cases h2 : c = 255
    · subst h2; rfl
    · have : ((255 : UInt8) == c) = false := beq_eq_false_iff_ne.2 (fun e => h2 e.symm)
      rw [this]; simp [h2]
  · have : ((0 : UInt8) == b) = false := beq_eq_false_iff_ne.2 (fun e => h1 e.symm)
    rw [this]; simp [h1]
theorem sep_one (b : UInt8) : sepL.isPrefixOf [b] = false := by
  unfold sepL
  cases h : ((0 : UInt8) == b) <;> simp [List.isPrefixOf, h]
theorem unz_none : ∀ l : List UInt8, Lib.index l sepL = -1 → unL l = l
  | [], _ => rfl
  | [b], _ => rfl
  | b :: c :: l, h => by
    unfold Lib.index at h
    rw [sep_pre] at h
    by_cases hp : b = 0 ∧ c = 255
    · rw [decide_eq_true hp] at h; simp at h
    · rw [decide_eq_false hp] at h
      have h2 : Lib.index (c :: l) sepL = -1 := by
        have := Lib.index_ge (c :: l) sepL
        by_cases e : Lib.index (c :: l) sepL = -1
        · exact e
        · rw [beq_eq_false_iff_ne.2 e] at h
          simp at h
          omega
      rw [unL, if_neg hp, unz_none (c :: l) h2]
theorem unz_some : ∀ (l : List UInt8) (j : Nat), Lib.index l sepL = j → j + 2 ≤ l.length ∧ unL l = l.take j ++ [0] ++ unL (l.drop (j + 2))
  | [], j, h => by unfold Lib.index at h; simp [sepL] at h; (try omega)
  | [b], j, h => by
    unfold Lib.index at h
    rw [sep_one] at h
    unfold Lib.index at h
    simp [sepL] at h
    (try omega)
  | b :: c :: l, j, h => by
    unfold Lib.index at h
    rw [sep_pre] at h
    by_cases hp : b = 0 ∧ c = 255
    · rw [decide_eq_true hp] at h
      simp at h
      obtain rfl : j = 0 := by omega
      obtain ⟨rfl, rfl⟩ := hp
      exact ⟨by simp, by rw [unz_two]; rfl⟩
    · rw [decide_eq_false hp] at h
      have := Lib.index_ge (c :: l) sepL
      by_cases e : Lib.index (c :: l) sepL = -1
      · rw [e] at h; simp at h; (try omega)
      · rw [beq_eq_false_iff_ne.2 e] at h
        simp at h
        obtain ⟨i, hi⟩ : ∃ i : Nat, Lib.index (c :: l) sepL = i := ⟨(Lib.index (c :: l) sepL).toNat, by omega⟩
        obtain rfl : j = i + 1 := by omega
        obtain ⟨h1, h2⟩ := unz_some (c :: l) i hi
        refine ⟨by simp only [List.length_cons] at h1 ⊢; omega, ?_⟩
        rw [unL, if_neg hp, h2]
        rfl
theorem cf_fuel : ∀ (f g : Nat) (l : List UInt8), l.length < f → l.length < g → Lib.countFrom sepL f l = Lib.countFrom sepL g l
  | 0, _, _, h, _ => by omega
  | _, 0, _, _, h => by omega
  | f + 1, g + 1, l, hf, hg => by
    unfold Lib.countFrom
    by_cases e : Lib.index l sepL = -1
    · rw [e]; rfl
    · have hge := Lib.index_ge l sepL
      have hr := Lib.index_room l sepL (by omega)
      have h2 : sepL.length = 2 := rfl
      rw [beq_eq_false_iff_ne.2 e]
      have hd : (l.drop ((Lib.index l sepL).toNat + sepL.length)).length < l.length := by rw [List.length_drop]; omega
      rw [cf_fuel f g _ (by omega) (by omega)]
theorem cnt_none0 {l : List UInt8} (h : Lib.count l sepL = 0) : Lib.index l sepL = -1 := by
  unfold Lib.count Lib.countFrom at h
  by_cases e : Lib.index l sepL = -1
  · exact e
  · rw [beq_eq_false_iff_ne.2 e] at h; simp at h
theorem cnt_some0 {l : List UInt8} (h : 0 < Lib.count l sepL) : ∃ j : Nat, Lib.index l sepL = j ∧ j + 2 ≤ l.length ∧ Lib.count (l.drop (j + 2)) sepL + 1 = Lib.count l sepL ∧ unL l = l.take j ++ [0] ++ unL (l.drop (j + 2)) := by
  have hge := Lib.index_ge l sepL
  by_cases e : Lib.index l sepL = -1
  · unfold Lib.count Lib.countFrom at h
    rw [e] at h; simp at h
  · obtain ⟨j, hj⟩ : ∃ j : Nat, Lib.index l sepL = j := ⟨(Lib.index l sepL).toNat, by omega⟩
    obtain ⟨h1, h2⟩ := unz_some l j hj
    refine ⟨j, hj, h1, ?_, h2⟩
    have e2 : Lib.count l sepL = 1 + Lib.countFrom sepL l.length (l.drop (j + 2)) := by
      unfold Lib.count
      rw [Lib.countFrom, hj, beq_eq_false_iff_ne.2 (by omega : (j : Int) ≠ -1)]
      rfl
    rw [e2]
    unfold Lib.count
    rw [cf_fuel ((l.drop (j + 2)).length + 1) l.length _ (by omega) (by rw [List.length_drop]; omega)]
    omega
theorem cnt_le0 : ∀ (n : Nat) (l : List UInt8), l.length ≤ n → 2 * Lib.count l sepL ≤ l.length
  | 0, l, h => by
    obtain rfl : l = [] := List.length_eq_zero_iff.1 (by omega)
    decide
  | n + 1, l, h => by
    by_cases h0 : 0 < Lib.count l sepL
    · obtain ⟨j, -, h1, h2, -⟩ := cnt_some0 h0
      have := cnt_le0 n (l.drop (j + 2)) (by rw [List.length_drop]; omega)
      rw [List.length_drop] at this
      omega
    · omega

theorem bextra2 : Builder.Extra Tryz.prog Tryz.lays241_ren := ⟨⟨by kernel_rfl, by kernel_rfl⟩, Tryz.underlying5, Tryz.isAgg5, Tryz.sizeOf5, Tryz.zeroValue5, infoByte, by kernel_rfl, by kernel_rfl, by decide⟩
theorem grow_row (b n : Nat) (w : World) (hbk : w.heap[b]? = some (.cells #[.pointer (some ⟨b, 0, none⟩), .slice none 0 0] 66 (0, 0))) (hb : b ≤ w.heap.size) (hn : n ≤ 281474976710656) :
    Calls Tryz.prog 137 #[.pointer (some ⟨b, 0, none⟩), .int .i64 n] w fun e w' => e = .returned (.tuple #[]) ∧ (Lib.BuilderAt 66 5 b b (.pointer (some ⟨b, 0, none⟩)) [] w' ∧ Below b w w') :=
  Any.Builder_grow_fresh Tryz.lays241 bextra2 b b n w (Nat.le_refl _) hbk hb hn

theorem Below.drewN' {b : Nat} {a w : World} (h : Below b a w) (n : Nat) : Below b a (w.drewN n) := ⟨h.os, h.tape, h.output, h.size, h.block⟩
set_option maxHeartbeats 2000000 in
set_option maxRecDepth 100000 in
theorem grow_any (b n : Nat) (w : World) (hbk : w.heap[b]? = some (.cells #[.pointer none, .slice none 0 0] 66 (0, 0))) (hn : n ≤ 281474976710656) :
    Calls Tryz.prog 131 #[.pointer (some ⟨b, 0, none⟩), .int .i64 n] w fun e w' => e = .returned (.tuple #[]) ∧ BldW b [] w' ∧ Below b w w' := by
  have hlt : b < w.heap.size := by
    rcases Nat.lt_or_ge b w.heap.size with h' | h'
    · exact h'
    · simp [Array.getElem?_eq_none h'] at hbk
  have hbk1 : (w.setCell ⟨b, 0, none⟩ (.pointer (some ⟨b, 0, none⟩))).heap[b]? = some (.cells #[.pointer (some ⟨b, 0, none⟩), .slice none 0 0] 66 (0, 0)) := by
    simp [World.setCell, Array.getElem?_modify, hbk]
  have c1 : (w.setCell ⟨b, 0, none⟩ (.pointer (some ⟨b, 0, none⟩))).cell? ⟨b, 1, none⟩ = some (.slice none 0 0) := by simp [World.cell?, hbk1]
  have hb1 : Below b w (w.setCell ⟨b, 0, none⟩ (.pointer (some ⟨b, 0, none⟩))) := (Below.refl b w).setCell (p := ⟨b, 0, none⟩) (Nat.le_refl _) _
  have hz : (w.setCell ⟨b, 0, none⟩ (.pointer (some ⟨b, 0, none⟩))).heap.size = w.heap.size := by simp [World.setCell]
  go_enter Tryz.func131, Tryz.ntmps131
  go_wp2_with (fail)
  refine (check_fresh b w (by simp [World.cell?, hbk]) (by simp [World.shape?, hbk]) (by simp [World.frozen?, hbk])).mono ?_
  rintro e w1 ⟨rfl, hw1⟩
  rw [← hw1] at hbk1 c1 hb1 hz
  clear hw1
  have hU : Lib.BuilderAt 66 5 b b (.pointer (some ⟨b, 0, none⟩)) [] w1 := ⟨Nat.le_refl _, .slice none 0 0, hbk1, World.ownsRow_nil _ _ _ _, by simp [Value.ownBlock]⟩
  by_cases h0 : 0 < n
  · go_wp2_with (fail)
    go_quiet (fail)
    go_wp2_with (fail)
    refine (grow_row b n (w1.drewN _) hbk1 (by show b ≤ w1.heap.size; omega) hn).mono ?_
    rintro e w2 ⟨rfl, h1, h2⟩
    go_wp2_with (fail)
    go_end0
    exact ⟨rfl, Or.inr h1, Below.trans (Below.drewN' hb1 _) h2⟩
  · go_wp2_with (fail)
    go_quiet (fail)
    go_wp2_with (fail)
    go_end0
    exact ⟨rfl, Or.inr hU, Below.drewN' hb1 _⟩
theorem grow_at (b n : Nat) (x : Int) {w : World} (hx : x = n) (hbk : w.heap[b]? = some (.cells #[.pointer none, .slice none 0 0] 66 (0, 0))) (hn : n ≤ 281474976710656) :
    Calls Tryz.prog 131 #[.pointer (some ⟨b, 0, none⟩), .int .i64 x] w fun e w' => e = .returned (.tuple #[]) ∧ BldW b [] w' ∧ Below b w w' := by
  subst hx; exact grow_any b n w hbk hn

theorem count_any (s : ByteArray) (w : World) : Calls Tryz.prog 130 #[.string s, .string ⟨#[0]⟩] w fun e w' => e = .returned (.int .i64 (Lib.countByte s.data.toList 0)) ∧ w' = w :=
  Any.strings_Count_one Tryz.lays138 s 0 w
theorem index_any (s : ByteArray) (w : World) : Calls Tryz.prog 132 #[.string s, .string ⟨#[0]⟩] w fun e w' => e = .returned (.int .i64 (Lib.indexByte s.data.toList 0)) ∧ w' = w :=
  Any.strings_Index_one Tryz.lays143 s 0 w
def RepRel (s : ByteArray) (c : Nat) (w : World) (st i : Value) (x : World) : Prop :=
  ∃ k m : Nat, st = .int .i64 m ∧ i = .int .i64 k ∧ m ≤ s.size ∧ k + Lib.countByte (s.data.toList.drop m) 0 = c ∧ BldW w.heap.size (escL (s.data.toList.take m)) x ∧ Bel w x

set_option maxHeartbeats 4000000 in
set_option maxRecDepth 100000 in
theorem replace_any (s : ByteArray) (w : World) (hs : s.size ≤ 100000) :
    Calls Tryz.prog 120 #[.string s, .string ⟨#[0]⟩, .string ⟨#[0, 255]⟩, .int .i64 (-1)] w fun e w' => e = .returned (.string ⟨(escL s.data.toList).toArray⟩) ∧ Bel w w' := by
  obtain ⟨c, hc⟩ : ∃ c, Lib.countByte s.data.toList 0 = c := ⟨_, rfl⟩
  have hcl : c ≤ s.size := by rw [← hc]; exact List.count_le_length
  have HC := Lib.hid hc; clear hc
  go_enter Tryz.func120, Tryz.ntmps120
  by_cases h0 : c = 0
  · have HE := Lib.hid (esc_none s.data.toList (HC.out.trans h0))
    go_wp2_with (fail)
    refine (count_any s w).mono ?_
    rintro e w1 ⟨rfl, rfl⟩
    rw [HC.out]
    go_wp2_with (fail)
    go_ret
    exact ⟨ret_string (by rw [HE.out]), Bel.refl _⟩
  · go_wp2_with (fail)
    refine (count_any s w).mono ?_
    rintro e w1 ⟨rfl, rfl⟩
    rw [HC.out]
    have hcz : ((c : Int) == 0) = false := beq_eq_false_iff_ne.2 (by omega)
    go_wp2_with (fail)
    refine Calls.mono (R := fun e w' => e = .returned (.tuple #[]) ∧ BldW w1.heap.size [] w' ∧ Below w1.heap.size (w1.alloc (.cells #[.pointer none, .slice none 0 0] 66)) w') ?_ ?_
    · exact grow_at _ (s.size + c) _ (by omega) (heap_alloc_new w1 _) (by omega)
    rintro e w2 ⟨rfl, hl, hb⟩
    have HL := Lib.hid hl
    have HB := Lib.hid (Bel.trans_below ((Bel.refl w1).alloc _) hb)
    clear hl hb
    go_wp2_with (fail)
    go_loopw [11, 53] (fun st i x => RepRel s c w1 st i x) (fun _ i _ => c - (intOf i).toNat)
    case atStart => exact ⟨0, 0, rfl, rfl, Nat.zero_le _, by rw [List.drop_zero, HC.out, Nat.zero_add], HL.out, HB.out⟩
    case round =>
      obtain ⟨k, m, rfl, rfl, hm, hcnt, hl, hb⟩ := hrel
      have HL := Lib.hid hl; clear hl
      have HB := Lib.hid hb; clear hb
      have hsl : s.data.toList.length = s.size := rfl
      have c1 : (0 : Int) ≤ (m : Int) := by omega
      have c2 : (m : Int) ≤ (s.size : Int) := by omega
      have hel := (esc_len (s.data.toList.take m)).2
      rw [List.length_take] at hel
      by_cases hlt : k < c
      · obtain ⟨j, hj, hj1, hj2, hj3⟩ := idx_split (s.data.toList.drop m) (by omega)
        rw [List.length_drop] at hj1
        have HS := Lib.hid (show escL (s.data.toList.take m) ++ (s.data.toList.drop m).take j ++ [0, 255] = escL (s.data.toList.take (m + j + 1)) by
          rw [show m + j + 1 = m + (j + 1) by omega, List.take_add, esc_app, hj3, List.append_assoc])
        rw [List.drop_drop] at hj2
        have HN := Lib.hid hj2; clear hj2 hj3
        have i1 : (k : Int) < (c : Int) := by omega
        go_wp2_with (fail)
        refine (index_any (s.extract m s.size) wr).mono ?_
        rintro e w3 ⟨rfl, rfl⟩
        rw [ext_end, hj]
        have c3 : (m : Int) ≤ (m : Int) + (j : Int) := by omega
        have c4 : (m : Int) + (j : Int) ≤ (s.size : Int) := by omega
        go_wp2_with (fail)
        refine (write_any w1.heap.size _ (s.extract m (m + j)) _ HL.out (by rw [ByteArray.size_extract]; omega)).mono ?_
        rintro e w4 ⟨rfl, hl, hb⟩
        rw [ext_mid] at hl
        have HL4 := Lib.hid hl
        replace HB := Lib.hid (Below.trans HB.out hb)
        clear hl hb HL
        go_wp2_with (fail)
        refine (write_any w1.heap.size _ ⟨#[0, 255]⟩ _ HL4.out (by rw [List.length_append, List.length_take]; show _ + 2 ≤ _; omega)).mono ?_
        rintro e w5 ⟨rfl, hl, hb⟩
        have HL5 := Lib.hid (show BldW w1.heap.size (escL (s.data.toList.take (m + j + 1))) w5 by rw [← HS.out]; exact hl)
        replace HB := Lib.hid (Below.trans HB.out hb)
        clear hl hb HL4
        go_wp2_with (fail)
        go_roundw
        case rel => exact ⟨k + 1, m + j + 1, by go_num, by go_num, by omega, by have := HN.out; rw [show m + j + 1 = m + (j + 1) by omega]; omega, HL5.out, HB.out⟩
        case measure => simp [intOf]; omega
      · have HE := Lib.hid (show escL (s.data.toList.take m) ++ s.data.toList.drop m = escL s.data.toList by
          have h1 := esc_none (s.data.toList.drop m) (by omega)
          conv => lhs; rw [← h1]
          rw [← esc_app, List.take_append_drop])
        have i1 : ¬ (k : Int) < (c : Int) := by omega
        go_wp2_with (fail)
        refine (write_any w1.heap.size _ (s.extract m s.size) _ HL.out (by rw [ByteArray.size_extract]; omega)).mono ?_
        rintro e w4 ⟨rfl, hl, hb⟩
        rw [ext_end, HE.out] at hl
        have HL4 := Lib.hid hl
        replace HB := Lib.hid (Below.trans HB.out hb)
        clear hl hb HL
        go_wp2_with (fail)
        refine (bstring_any w1.heap.size _ _ HL4.out).mono ?_
        rintro e w5 ⟨rfl, hb⟩
        replace HB := Lib.hid (Below.trans HB.out hb); clear hb
        go_wp2_with (fail)
        go_ret
        exact ⟨rfl, HB.out⟩

set_option maxHeartbeats 1000000 in
theorem repall_any (s : ByteArray) (w : World) (hs : s.size ≤ 100000) :
    Calls Tryz.prog 96 #[.string s, .string ⟨#[0]⟩, .string ⟨#[0, 255]⟩] w fun e w' => e = .returned (.string ⟨(escL s.data.toList).toArray⟩) ∧ Bel w w' := by
  go_enter Tryz.func96, Tryz.ntmps96
  go_wp2_with (fail)
  refine (replace_any s w hs).mono ?_
  rintro e w1 ⟨rfl, hb⟩
  go_wp2_with (fail)
  go_ret
  exact ⟨rfl, hb⟩
end Go.Proofs.YteimllgoelleeaaGreatDoor
/- strings.ReplaceAll of the bytes 0 and 255 by a byte 0. -/
namespace Go.Proofs.YteimllgoelleeaaGreatDoor
open Go.RowKit Go.Deep

def MaxOk (w : World) : Prop := ∃ m, w.cell? ⟨0, 0, none⟩ = some (.int .i64 m)
theorem MaxOk.bel {a w : World} (h : MaxOk a) (hb : Bel a w) : MaxOk w := by
  obtain ⟨m, hm⟩ := h
  exact ⟨m, (Below.cell hb (World.block_lt_of_cell? _ _ hm)).trans hm⟩
theorem count2_any (s : ByteArray) (w : World) (hs : s.size ≤ 100000) (h : MaxOk w) : Calls Tryz.prog 130 #[.string s, .string ⟨#[0, 255]⟩] w fun e w' => e = .returned (.int .i64 (Lib.count s.data.toList sepL : Nat)) ∧ w' = w := by
  obtain ⟨m, hm⟩ := h
  exact Any.strings_Count Tryz.lays138 s ⟨#[0, 255]⟩ m w (by omega) hm (by decide)
theorem index2_any (s : ByteArray) (w : World) (hs : s.size ≤ 100000) (h : MaxOk w) : Calls Tryz.prog 132 #[.string s, .string ⟨#[0, 255]⟩] w fun e w' => e = .returned (.int .i64 (Lib.index s.data.toList sepL)) ∧ w' = w := by
  obtain ⟨m, hm⟩ := h
  exact Any.strings_Index Tryz.lays143 s ⟨#[0, 255]⟩ m w (by omega) hm
def RepRel2 (s : ByteArray) (c : Nat) (w : World) (st i : Value) (x : World) : Prop :=
  ∃ (k m : Nat) (W : List UInt8), st = .int .i64 m ∧ i = .int .i64 k ∧ m ≤ s.size ∧ k + Lib.count (s.data.toList.drop m) sepL = c ∧ W.length ≤ m ∧ W ++ unL (s.data.toList.drop m) = unL s.data.toList ∧ BldW w.heap.size W x ∧ Bel w x

set_option maxHeartbeats 4000000 in
set_option maxRecDepth 100000 in
theorem replace2_any (s : ByteArray) (w : World) (hs : s.size ≤ 100000) (hM : MaxOk w) :
    Calls Tryz.prog 120 #[.string s, .string ⟨#[0, 255]⟩, .string ⟨#[0]⟩, .int .i64 (-1)] w fun e w' => e = .returned (.string ⟨(unL s.data.toList).toArray⟩) ∧ Bel w w' := by
  obtain ⟨c, hc⟩ : ∃ c, Lib.count s.data.toList sepL = c := ⟨_, rfl⟩
  have hcl : 2 * c ≤ s.size := by rw [← hc]; exact cnt_le0 _ _ (Nat.le_refl _)
  have HC := Lib.hid hc; clear hc
  have HM := Lib.hid hM; clear hM
  go_enter Tryz.func120, Tryz.ntmps120
  by_cases h0 : c = 0
  · have HE := Lib.hid (unz_none s.data.toList (cnt_none0 (HC.out.trans h0)))
    go_wp2_with (fail)
    refine (count2_any s w hs HM.out).mono ?_
    rintro e w1 ⟨rfl, rfl⟩
    rw [HC.out]
    go_wp2_with (fail)
    go_ret
    exact ⟨ret_string (by rw [HE.out]), Bel.refl _⟩
  · go_wp2_with (fail)
    refine (count2_any s w hs HM.out).mono ?_
    rintro e w1 ⟨rfl, rfl⟩
    rw [HC.out]
    have hcz : ((c : Int) == 0) = false := beq_eq_false_iff_ne.2 (by omega)
    go_wp2_with (fail)
    refine Calls.mono (R := fun e w' => e = .returned (.tuple #[]) ∧ BldW w1.heap.size [] w' ∧ Below w1.heap.size (w1.alloc (.cells #[.pointer none, .slice none 0 0] 66)) w') ?_ ?_
    · exact grow_at _ (s.size - c) _ (by omega) (heap_alloc_new w1 _) (by omega)
    rintro e w2 ⟨rfl, hl, hb⟩
    have HL := Lib.hid hl
    have HB := Lib.hid (Bel.trans_below ((Bel.refl w1).alloc _) hb)
    clear hl hb
    go_wp2_with (fail)
    go_loopw [11, 53] (fun st i x => RepRel2 s c w1 st i x) (fun _ i _ => c - (intOf i).toNat)
    case atStart => exact ⟨0, 0, [], rfl, rfl, Nat.zero_le _, by rw [List.drop_zero, HC.out, Nat.zero_add], Nat.le_refl _, by rw [List.drop_zero, List.nil_append], HL.out, HB.out⟩
    case round =>
      obtain ⟨k, m, W, rfl, rfl, hm, hcnt, hel, hun, hl, hb⟩ := hrel
      have HL := Lib.hid hl; clear hl
      have HB := Lib.hid hb; clear hb
      have HU := Lib.hid hun; clear hun
      have hsl : s.data.toList.length = s.size := rfl
      have c1 : (0 : Int) ≤ (m : Int) := by omega
      have c2 : (m : Int) ≤ (s.size : Int) := by omega
      by_cases hlt : k < c
      · obtain ⟨j, hj, hj1, hj2, hj3⟩ := cnt_some0 (l := s.data.toList.drop m) (by omega)
        rw [List.length_drop] at hj1
        have HS := Lib.hid (show (W ++ (s.data.toList.drop m).take j ++ [0]) ++ unL (s.data.toList.drop (m + j + 2)) = unL s.data.toList by
          rw [← HU.out, hj3, List.drop_drop, show m + j + 2 = m + (j + 2) by omega]
          simp only [List.append_assoc])
        rw [List.drop_drop] at hj2
        have HN := Lib.hid hj2; clear hj2 hj3
        have i1 : (k : Int) < (c : Int) := by omega
        go_wp2_with (fail)
        refine (index2_any (s.extract m s.size) wr (by rw [ByteArray.size_extract]; omega) (HM.out.bel HB.out)).mono ?_
        rintro e w3 ⟨rfl, rfl⟩
        rw [ext_end, hj]
        have c3 : (m : Int) ≤ (m : Int) + (j : Int) := by omega
        have c4 : (m : Int) + (j : Int) ≤ (s.size : Int) := by omega
        go_wp2_with (fail)
        refine (write_any w1.heap.size _ (s.extract m (m + j)) _ HL.out (by rw [ByteArray.size_extract]; omega)).mono ?_
        rintro e w4 ⟨rfl, hl, hb⟩
        rw [ext_mid] at hl
        have HL4 := Lib.hid hl
        replace HB := Lib.hid (Below.trans HB.out hb)
        clear hl hb HL
        go_wp2_with (fail)
        refine (write_any w1.heap.size _ ⟨#[0]⟩ _ HL4.out (by rw [List.length_append, List.length_take]; show _ + 1 ≤ _; omega)).mono ?_
        rintro e w5 ⟨rfl, hl, hb⟩
        have HL5 := Lib.hid (show BldW w1.heap.size (W ++ (s.data.toList.drop m).take j ++ [0]) w5 from hl)
        replace HB := Lib.hid (Below.trans HB.out hb)
        clear hl hb HL4
        have hWl : (W ++ (s.data.toList.drop m).take j ++ [0]).length ≤ m + j + 2 := by
          have := List.length_take_le j (s.data.toList.drop m)
          simp only [List.length_append, List.length_singleton]; omega
        obtain ⟨W', hW'⟩ : ∃ W', W ++ (s.data.toList.drop m).take j ++ [0] = W' := ⟨_, rfl⟩
        rw [hW'] at HS HL5 hWl
        clear hW'
        go_wp2_with (fail)
        go_roundw
        case rel => exact ⟨k + 1, m + j + 2, W', by go_num, by go_num, by omega, by have := HN.out; rw [show m + j + 2 = m + (j + 2) by omega]; omega, hWl, HS.out, HL5.out, HB.out⟩
        case measure => simp [intOf]; omega
      · have HE := Lib.hid (show W ++ s.data.toList.drop m = unL s.data.toList by
          rw [← HU.out, unz_none _ (cnt_none0 (by omega))])
        have i1 : ¬ (k : Int) < (c : Int) := by omega
        go_wp2_with (fail)
        refine (write_any w1.heap.size _ (s.extract m s.size) _ HL.out (by rw [ByteArray.size_extract]; omega)).mono ?_
        rintro e w4 ⟨rfl, hl, hb⟩
        rw [ext_end, HE.out] at hl
        have HL4 := Lib.hid hl
        replace HB := Lib.hid (Below.trans HB.out hb)
        clear hl hb HL
        go_wp2_with (fail)
        refine (bstring_any w1.heap.size _ _ HL4.out).mono ?_
        rintro e w5 ⟨rfl, hb⟩
        replace HB := Lib.hid (Below.trans HB.out hb); clear hb
        go_wp2_with (fail)
        go_ret
        exact ⟨rfl, HB.out⟩

set_option maxHeartbeats 1000000 in
theorem repall2_any (s : ByteArray) (w : World) (hs : s.size ≤ 100000) (hM : MaxOk w) :
    Calls Tryz.prog 96 #[.string s, .string ⟨#[0, 255]⟩, .string ⟨#[0]⟩] w fun e w' => e = .returned (.string ⟨(unL s.data.toList).toArray⟩) ∧ Bel w w' := by
  go_enter Tryz.func96, Tryz.ntmps96
  go_wp2_with (fail)
  refine (replace2_any s w hs hM).mono ?_
  rintro e w1 ⟨rfl, hb⟩
  go_wp2_with (fail)
  go_ret
  exact ⟨rfl, hb⟩
end Go.Proofs.YteimllgoelleeaaGreatDoor
