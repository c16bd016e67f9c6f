/- VBld, KRep, KPut, KRPut, KText, KTake, KTake2, KVals, QFld, QRef1, QRef2, KRPut2, KTup, KRTake, KRVal, KRTake2, KUnt, laid together. -/
import Derived.Test.YtbalkchphijehaaDoorQ4
import Derived.Test.YtbalkchphijehaaDoorQ5
import Derived.Lib.Builder
import Derived.Lib.AppendStr
import Derived.Lib.Hide
import Derived.Shelf.Strings.Builder1
import Derived.Test.YtbalkchphijehaaDoorQ2
import Derived.Test.YtbalkchphijehaaDoorQ7
import Derived.Shelf.Strings.Builder2
import Derived.Shelf.Strings.Count
import Derived.Shelf.Strings.Search3
import Derived.Test.YtbalkchphijehaaDoorQ8
import Derived.Test.YtbalkchphijehaaDoorQ9
import Derived.Deep.QuietTactic
import Derived.BigQuiet
import Derived.Laws.Bits64
set_option linter.unusedSimpArgs false
set_option linter.unusedVariables false
/- The builder that a call has made itself: WriteString, String. (The shelf's own WriteString does not fit this program's copyCheck: its branch that panics is cut off here.) -/
set_option maxRecDepth 20000
namespace Go.Proofs.YtbalkchphijehaaDoor
open Go.RowKit

/-- The builder in block b holds the bytes l; its row, if it has one, was laid behind it. -/
def BldW (b : Nat) (l : List UInt8) (w : World) : Prop := Lib.IsBuilder 89 5 b b (Lib.byteCells l) w
theorem bldAt_bel {b : Nat} {p : Value} {bs : List Value} {w x : World} (h : Lib.BuilderAt 89 5 b b p bs w) (hb : Bel w x) : Lib.BuilderAt 89 5 b b p bs x := by
  have hlt := h.lt
  obtain ⟨hB, v, hbk, hown, hne⟩ := h
  refine ⟨hB, v, (Below.block hb b hlt).trans hbk, ?_, hne⟩
  obtain ⟨h1, h2⟩ := hown
  refine ⟨h1, ?_⟩
  rcases h2 with h2 | ⟨g, cap, cur, hv, hg, hh, r⟩
  · exact Or.inl h2
  · refine Or.inr ⟨g, cap, cur, hv, hg, ?_, r⟩
    have hl : g < w.heap.size := by
      rcases Nat.lt_or_ge g w.heap.size with h | h
      · exact h
      · rw [Array.getElem?_eq_none h] at hh; cases hh
    rw [Below.block hb g hl]; exact hh
theorem BldW.bel {b : Nat} {l : List UInt8} {w x : World} (h : BldW b l w) (hb : Bel w x) : BldW b l x := h.elim (fun h => Or.inl (bldAt_bel h hb)) (fun h => Or.inr (bldAt_bel h hb))
theorem BldW.new (w : World) : BldW w.heap.size [] (w.alloc (.cells #[.pointer none, .slice none 0 0] 89)) :=
  Or.inl ⟨Nat.le_refl _, .slice none 0 0, heap_alloc_new w _, World.ownsRow_nil _ _ _ _, by simp [Value.ownBlock]⟩
theorem BldW.lt {b : Nat} {l : List UInt8} {w : World} (h : BldW b l w) : b < w.heap.size := h.elim (fun h => h.lt) (fun h => h.lt)

theorem bsize : (Tryd.prog.info? 89).map (·.size) = some 2 := by kernel_rfl
theorem blies : liesAt Tryd.prog Tryd.prog.depth 89 (2 / Tryd.prog.cellsOf 89) 0 89 1 = true := by kernel_rfl

set_option maxHeartbeats 1000000 in
set_option maxRecDepth 100000 in
theorem check_used (b : Nat) (w : World) (h0 : w.cell? ⟨b, 0, none⟩ = some (.pointer (some ⟨b, 0, none⟩))) :
    Calls Tryd.prog 72 #[.pointer (some ⟨b, 0, none⟩)] w fun e w' => e = .returned (.tuple #[]) ∧ w' = w := by
  obtain ⟨j, hj, _⟩ := Option.map_eq_some_iff.1 bsize
  go_enter Tryd.func72, Tryd.ntmps72
  go_wp2
  rw [Lib.run_neq_ptr_same w _ Tryd.underlying87 hj]
  go_wp2
  go_end0
  exact ⟨rfl, rfl⟩

set_option maxHeartbeats 1000000 in
set_option maxRecDepth 100000 in
theorem check_fresh (b : Nat) (w : World) (h0 : w.cell? ⟨b, 0, none⟩ = some (.pointer none)) (hsh : w.shape? b = some (89, 2)) (hfz : w.frozen? ⟨b, 0, none⟩ = false) :
    Calls Tryd.prog 72 #[.pointer (some ⟨b, 0, none⟩)] w fun e w' => e = .returned (.tuple #[]) ∧ w' = w.setCell ⟨b, 0, none⟩ (.pointer (some ⟨b, 0, none⟩)) := by
  obtain ⟨j, hj, hjs⟩ := Option.map_eq_some_iff.1 bsize
  go_enter Tryd.func72, Tryd.ntmps72
  go_wp2
  rw [Lib.run_to_unsafe w ⟨b, 0, none⟩ Tryd.underlying87 Tryd.underlying119 hj (by rw [hjs]; decide) hsh (Nat.zero_lt_succ 1)]
  simp only [Result.andThen]
  rw [Oper.upon_value]
  go_wp2
  rw [run_callFunc_extern Tryd.func83 (by kernel_rfl) (by kernel_rfl) (by kernel_rfl) (e := Extern.AbiNoEscape.same) (by kernel_rfl), Lib.run_noEscape]
  simp only [Result.andThen]
  rw [Oper.upon_value]
  go_wp2
  rw [Lib.run_from_unsafe w ⟨b, 0, none⟩ Tryd.underlying119 Tryd.underlying87 hj hsh blies]
  simp only [Result.andThen]
  rw [Oper.upon_value]
  go_wp2
  go_end0
  exact ⟨rfl, rfl⟩

/-- Behind copyCheck the builder's first cell holds its own address. -/
theorem check_any (b : Nat) (bs : List Value) (w : World) (h : Lib.IsBuilder 89 5 b b bs w) :
    Calls Tryd.prog 72 #[.pointer (some ⟨b, 0, none⟩)] w fun e w' => e = .returned (.tuple #[]) ∧ Lib.BuilderAt 89 5 b b (.pointer (some ⟨b, 0, none⟩)) bs w' ∧ Below b w w' := by
  rcases h with h | h
  · refine (check_fresh b w h.cell0 h.shape h.frozen0).mono ?_
    rintro e w' ⟨rfl, rfl⟩
    exact ⟨rfl, h.used _, (Below.refl b w).setCell (p := ⟨b, 0, none⟩) (Nat.le_refl _) _⟩
  · refine (check_used b w h.cell0).mono ?_
    rintro e w' ⟨rfl, rfl⟩
    exact ⟨rfl, h, Below.refl b _⟩

theorem strCells_eq (s : ByteArray) : Lib.strCells s = Lib.byteCells s.data.toList := rfl

set_option maxHeartbeats 1000000 in
set_option maxRecDepth 100000 in
theorem write_any (b : Nat) (l : List UInt8) (s : ByteArray) (w : World) (h : BldW b l w) (hlen : l.length + s.size ≤ 140737488355328) :
    Calls Tryd.prog 55 #[.pointer (some ⟨b, 0, none⟩), .string s] w fun e w' => e = .returned (.tuple #[.int .i64 s.size, .nilIface]) ∧ BldW b (l ++ s.data.toList) w' ∧ Below b w w' := by
  obtain ⟨i0, hi, hz0, hz1, hz2⟩ := info_parts infoByte
  have hbw := h.lt
  go_enter Tryd.func55, Tryd.ntmps55
  go_wp2_with (fail)
  refine (check_any b _ _ h).mono ?_
  rintro e w1 ⟨rfl, h1, hb1⟩
  have hz1s := hb1.size
  have hlt := h1.lt
  obtain ⟨_, v, hbk, hown, hne⟩ := h1
  have c0 : w1.cell? ⟨b, 0, none⟩ = some (.pointer (some ⟨b, 0, none⟩)) := by simp [World.cell?, hbk]
  have c1 : w1.cell? ⟨b, 1, none⟩ = some v := by simp [World.cell?, hbk]
  have HK := Lib.hid hbk
  have HO := Lib.hid hown
  have HN := Lib.hid hne
  have HB1 := Lib.hid hb1
  clear hbk hown hne hb1
  go_wp2_with (at_builtin; refine stop_here ?_)
  refine go_on ?_
  refine Lib.wpList_append_own_string _ rfl _ _ 49 9 rfl b 5 i0 Tryd.underlying49 Tryd.underlying9 hi hz0 hz1 hz2 _ _ _ rfl HO.out s rfl ?_ ?_ ?_ ?_
  · rw [Lib.byteCells_length]; unfold maxLen; omega
  · rw [Lib.byteCells_length]; omega
  · omega
  intro v' w2 hown' hgrow _
  have hb2 : w2.heap[b]? = some (.cells #[.pointer (some ⟨b, 0, none⟩), v] 89 (0, 0)) := by
    rw [hgrow.block b hlt (fun e => HN.out e.symm)]
    exact HK.out
  have d0 : w2.cell? ⟨b, 0, none⟩ = some (.pointer (some ⟨b, 0, none⟩)) := by simp [World.cell?, hb2]
  have d1 : w2.cell? ⟨b, 1, none⟩ = some v := by simp [World.cell?, hb2]
  have f1 : w2.frozen? ⟨b, 1, none⟩ = false := by simp [World.frozen?, hb2]
  obtain ⟨ao, n', cap, rfl⟩ : ∃ ao n' cap, v' = .slice ao n' cap := by
    rcases hown'.2 with ⟨hv, _⟩ | ⟨g, cap, cur, hv, _⟩
    · exact ⟨_, _, _, hv⟩
    · exact ⟨_, _, _, hv⟩
  have HB2 := Lib.hid (HB1.out.grown hgrow (by omega) (fun k hk => (HO.out.lt k hk).1))
  have HO2 := Lib.hid hown'
  have HK2 := Lib.hid hb2
  clear hown' hgrow hb2
  go_wp2
  go_ret2
  refine ⟨rfl, ?_, HB2.out.setCell (p := ⟨b, 1, none⟩) (Nat.le_refl _) _⟩
  refine Or.inr (Lib.BuilderAt.put (bs' := Lib.byteCells (l ++ s.data.toList)) (Nat.le_refl _) HK2.out ?_ (by decide))
  have e : (Lib.byteCells (l ++ s.data.toList)).length = (Lib.byteCells l).length + s.size := by simp [Lib.byteCells]
  rw [e, Lib.byteCells_append, ← strCells_eq]
  exact HO2.out

theorem bextra /- 89 -/ : Builder.Extra Tryd.prog Tryd.lays169_ren := ⟨⟨by kernel_rfl, by kernel_rfl⟩, Tryd.underlying5, Tryd.isAgg5, Tryd.sizeOf5, Tryd.zeroValue5, infoByte, by kernel_rfl, by kernel_rfl, by decide⟩
theorem bstring_any (b : Nat) (l : List UInt8) (w : World) (h : BldW b l w) :
    Calls Tryd.prog 56 #[.pointer (some ⟨b, 0, none⟩)] w fun e w' => e = .returned (.string ⟨l.toArray⟩) ∧ Below b w w' :=
  Any.Builder_String_any Tryd.lays169 bextra b b l w h (Nat.le_of_lt h.lt)
end Go.Proofs.YtbalkchphijehaaDoor
/- strings.ReplaceAll of a byte 0 by the bytes 0 and 255: a text's bytes. (Grow and Replace are walked here: this program's copyCheck is cut off at its panic.) -/
set_option maxRecDepth 20000
namespace Go.Proofs.YtbalkchphijehaaDoor
open Go.RowKit Go.Deep

theorem esc_none (l : List UInt8) (h : Lib.countByte l 0 = 0) : escL l = l := by
  induction l with
  | nil => rfl
  | cons b l ih =>
    unfold Lib.countByte at h ih
    rw [List.count_cons] at h
    by_cases hb : b = 0
    · subst hb; simp at h
    · rw [escL_other b l hb, ih (by omega)]
theorem idx_split : ∀ l : List UInt8, 0 < Lib.countByte l 0 → ∃ j : Nat, Lib.indexByte l 0 = j ∧ j < l.length ∧ Lib.countByte (l.drop (j + 1)) 0 + 1 = Lib.countByte l 0 ∧ escL (l.take (j + 1)) = l.take j ++ [0, 255]
  | [], h => by simp [Lib.countByte] at h
  | b :: l, h => by
    by_cases hb : b = 0
    · subst hb
      refine ⟨0, rfl, by simp, ?_, rfl⟩
      simp [Lib.countByte]
    · have hc : Lib.countByte (b :: l) 0 = Lib.countByte l 0 := by
        unfold Lib.countByte; rw [List.count_cons]; simp [hb]
      rw [hc] at h ⊢
      obtain ⟨j, h1, h2, h3, h4⟩ := idx_split l h
      refine ⟨j + 1, ?_, by simpa using h2, ?_, ?_⟩
      · unfold Lib.indexByte
        have e1 : (b == (0 : UInt8)) = false := beq_eq_false_iff_ne.2 hb
        have e2 : ((j : Int) == -1) = false := beq_eq_false_iff_ne.2 (by omega)
        rw [e1, h1, e2]; simp
      · rw [List.drop_succ_cons]; exact h3
      · rw [List.take_succ_cons, escL_other b _ hb, h4, List.take_succ_cons]; rfl

theorem bextra2 : Builder.Extra Tryd.prog Tryd.lays241_ren := ⟨⟨by kernel_rfl, by kernel_rfl⟩, Tryd.underlying5, Tryd.isAgg5, Tryd.sizeOf5, Tryd.zeroValue5, infoByte, by kernel_rfl, by kernel_rfl, by decide⟩
theorem grow_row (b n : Nat) (w : World) (hbk : w.heap[b]? = some (.cells #[.pointer (some ⟨b, 0, none⟩), .slice none 0 0] 89 (0, 0))) (hb : b ≤ w.heap.size) (hn : n ≤ 281474976710656) :
    Calls Tryd.prog 94 #[.pointer (some ⟨b, 0, none⟩), .int .i64 n] w fun e w' => e = .returned (.tuple #[]) ∧ (Lib.BuilderAt 89 5 b b (.pointer (some ⟨b, 0, none⟩)) [] w' ∧ Below b w w') :=
  Any.Builder_grow_fresh Tryd.lays241 bextra2 b b n w (Nat.le_refl _) hbk hb hn

theorem Below.drewN' {b : Nat} {a w : World} (h : Below b a w) (n : Nat) : Below b a (w.drewN n) := ⟨h.os, h.tape, h.output, h.size, h.block⟩
set_option maxHeartbeats 2000000 in
set_option maxRecDepth 100000 in
theorem grow_any (b n : Nat) (w : World) (hbk : w.heap[b]? = some (.cells #[.pointer none, .slice none 0 0] 89 (0, 0))) (hn : n ≤ 281474976710656) :
    Calls Tryd.prog 88 #[.pointer (some ⟨b, 0, none⟩), .int .i64 n] w fun e w' => e = .returned (.tuple #[]) ∧ BldW b [] w' ∧ Below b w w' := by
  have hlt : b < w.heap.size := by
    rcases Nat.lt_or_ge b w.heap.size with h' | h'
    · exact h'
    · simp [Array.getElem?_eq_none h'] at hbk
  have hbk1 : (w.setCell ⟨b, 0, none⟩ (.pointer (some ⟨b, 0, none⟩))).heap[b]? = some (.cells #[.pointer (some ⟨b, 0, none⟩), .slice none 0 0] 89 (0, 0)) := by
    simp [World.setCell, Array.getElem?_modify, hbk]
  have c1 : (w.setCell ⟨b, 0, none⟩ (.pointer (some ⟨b, 0, none⟩))).cell? ⟨b, 1, none⟩ = some (.slice none 0 0) := by simp [World.cell?, hbk1]
  have hb1 : Below b w (w.setCell ⟨b, 0, none⟩ (.pointer (some ⟨b, 0, none⟩))) := (Below.refl b w).setCell (p := ⟨b, 0, none⟩) (Nat.le_refl _) _
  have hz : (w.setCell ⟨b, 0, none⟩ (.pointer (some ⟨b, 0, none⟩))).heap.size = w.heap.size := by simp [World.setCell]
  go_enter Tryd.func88, Tryd.ntmps88
  go_wp2_with (fail)
  refine (check_fresh b w (by simp [World.cell?, hbk]) (by simp [World.shape?, hbk]) (by simp [World.frozen?, hbk])).mono ?_
  rintro e w1 ⟨rfl, hw1⟩
  rw [← hw1] at hbk1 c1 hb1 hz
  clear hw1
  have hU : Lib.BuilderAt 89 5 b b (.pointer (some ⟨b, 0, none⟩)) [] w1 := ⟨Nat.le_refl _, .slice none 0 0, hbk1, World.ownsRow_nil _ _ _ _, by simp [Value.ownBlock]⟩
  by_cases h0 : 0 < n
  · go_wp2_with (fail)
    go_quiet (fail)
    go_wp2_with (fail)
    refine (grow_row b n (w1.drewN _) hbk1 (by show b ≤ w1.heap.size; omega) hn).mono ?_
    rintro e w2 ⟨rfl, h1, h2⟩
    go_wp2_with (fail)
    go_end0
    exact ⟨rfl, Or.inr h1, Below.trans (Below.drewN' hb1 _) h2⟩
  · go_wp2_with (fail)
    go_quiet (fail)
    go_wp2_with (fail)
    go_end0
    exact ⟨rfl, Or.inr hU, Below.drewN' hb1 _⟩

set_option maxHeartbeats 1000000 in
theorem count_any (s : ByteArray) (w : World) : Calls Tryd.prog 87 #[.string s, .string ⟨#[0]⟩] w fun e w' => e = .returned (.int .i64 (Lib.countByte s.data.toList 0)) ∧ w' = w :=
  Any.strings_Count_one Tryd.lays138 s 0 w
theorem index_any (s : ByteArray) (w : World) : Calls Tryd.prog 89 #[.string s, .string ⟨#[0]⟩] w fun e w' => e = .returned (.int .i64 (Lib.indexByte s.data.toList 0)) ∧ w' = w :=
  Any.strings_Index_one Tryd.lays143 s 0 w

theorem grow_at (b n : Nat) (x : Int) {w : World} (hx : x = n) (hbk : w.heap[b]? = some (.cells #[.pointer none, .slice none 0 0] 89 (0, 0))) (hn : n ≤ 281474976710656) :
    Calls Tryd.prog 88 #[.pointer (some ⟨b, 0, none⟩), .int .i64 x] w fun e w' => e = .returned (.tuple #[]) ∧ BldW b [] w' ∧ Below b w w' := by
  subst hx; exact grow_any b n w hbk hn
/-- So many are replaced: what has been written, and how many are left. -/
def RepRel (s : ByteArray) (c : Nat) (w : World) (st i : Value) (x : World) : Prop :=
  ∃ k m : Nat, st = .int .i64 m ∧ i = .int .i64 k ∧ m ≤ s.size ∧ k + Lib.countByte (s.data.toList.drop m) 0 = c ∧ BldW w.heap.size (escL (s.data.toList.take m)) x ∧ Bel w x

set_option maxHeartbeats 4000000 in
set_option maxRecDepth 100000 in
theorem replace_any (s : ByteArray) (w : World) (hs : s.size ≤ 4000) :
    Calls Tryd.prog 80 #[.string s, .string ⟨#[0]⟩, .string ⟨#[0, 255]⟩, .int .i64 (-1)] w fun e w' => e = .returned (.string ⟨(escL s.data.toList).toArray⟩) ∧ Bel w w' := by
  obtain ⟨c, hc⟩ : ∃ c, Lib.countByte s.data.toList 0 = c := ⟨_, rfl⟩
  have hcl : c ≤ s.size := by rw [← hc]; exact List.count_le_length
  have HC := Lib.hid hc; clear hc
  go_enter Tryd.func80, Tryd.ntmps80
  by_cases h0 : c = 0
  · have HE := Lib.hid (esc_none s.data.toList (HC.out.trans h0))
    go_wp2_with (fail)
    refine (count_any s w).mono ?_
    rintro e w1 ⟨rfl, rfl⟩
    rw [HC.out]
    go_wp2_with (fail)
    go_ret
    exact ⟨ret_string (by rw [HE.out]), Bel.refl _⟩
  · go_wp2_with (fail)
    refine (count_any s w).mono ?_
    rintro e w1 ⟨rfl, rfl⟩
    rw [HC.out]
    have hcz : ((c : Int) == 0) = false := beq_eq_false_iff_ne.2 (by omega)
    go_wp2_with (fail)
    refine Calls.mono (R := fun e w' => e = .returned (.tuple #[]) ∧ BldW w1.heap.size [] w' ∧ Below w1.heap.size (w1.alloc (.cells #[.pointer none, .slice none 0 0] 89)) w') ?_ ?_
    · exact grow_at _ (s.size + c) _ (by omega) (heap_alloc_new w1 _) (by omega)
    rintro e w2 ⟨rfl, hl, hb⟩
    have HL := Lib.hid hl
    have HB := Lib.hid (Bel.trans_below ((Bel.refl w1).alloc _) hb)
    clear hl hb
    go_wp2_with (fail)
    go_loopw [11, 53] (fun st i x => RepRel s c w1 st i x) (fun _ i _ => c - (intOf i).toNat)
    case atStart => exact ⟨0, 0, rfl, rfl, Nat.zero_le _, by rw [List.drop_zero, HC.out, Nat.zero_add], HL.out, HB.out⟩
    case round =>
      obtain ⟨k, m, rfl, rfl, hm, hcnt, hl, hb⟩ := hrel
      have HL := Lib.hid hl; clear hl
      have HB := Lib.hid hb; clear hb
      have hsl : s.data.toList.length = s.size := rfl
      have c1 : (0 : Int) ≤ (m : Int) := by omega
      have c2 : (m : Int) ≤ (s.size : Int) := by omega
      have hel := escL_len (s.data.toList.take m)
      rw [List.length_take] at hel
      by_cases hlt : k < c
      · obtain ⟨j, hj, hj1, hj2, hj3⟩ := idx_split (s.data.toList.drop m) (by omega)
        rw [List.length_drop] at hj1
        have HS := Lib.hid (show escL (s.data.toList.take m) ++ (s.data.toList.drop m).take j ++ [0, 255] = escL (s.data.toList.take (m + j + 1)) by
          rw [show m + j + 1 = m + (j + 1) by omega, List.take_add, escL_append, hj3, List.append_assoc])
        rw [List.drop_drop] at hj2
        have HN := Lib.hid hj2; clear hj2 hj3
        have i1 : (k : Int) < (c : Int) := by omega
        go_wp2_with (fail)
        refine (index_any (s.extract m s.size) wr).mono ?_
        rintro e w3 ⟨rfl, rfl⟩
        rw [ext_end, hj]
        have c3 : (m : Int) ≤ (m : Int) + (j : Int) := by omega
        have c4 : (m : Int) + (j : Int) ≤ (s.size : Int) := by omega
        go_wp2_with (fail)
        refine (write_any w1.heap.size _ (s.extract m (m + j)) _ HL.out (by rw [ByteArray.size_extract]; omega)).mono ?_
        rintro e w4 ⟨rfl, hl, hb⟩
        rw [ext_mid] at hl
        have HL4 := Lib.hid hl
        replace HB := Lib.hid (Below.trans HB.out hb)
        clear hl hb HL
        go_wp2_with (fail)
        refine (write_any w1.heap.size _ ⟨#[0, 255]⟩ _ HL4.out (by rw [List.length_append, List.length_take]; show _ + 2 ≤ _; omega)).mono ?_
        rintro e w5 ⟨rfl, hl, hb⟩
        have HL5 := Lib.hid (show BldW w1.heap.size (escL (s.data.toList.take (m + j + 1))) w5 by rw [← HS.out]; exact hl)
        replace HB := Lib.hid (Below.trans HB.out hb)
        clear hl hb HL4
        go_wp2_with (fail)
        go_roundw
        case rel => exact ⟨k + 1, m + j + 1, by go_num, by go_num, by omega, by have := HN.out; rw [show m + j + 1 = m + (j + 1) by omega]; omega, HL5.out, HB.out⟩
        case measure => simp [intOf]; omega
      · have HE := Lib.hid (show escL (s.data.toList.take m) ++ s.data.toList.drop m = escL s.data.toList by
          have h1 := esc_none (s.data.toList.drop m) (by omega)
          conv => lhs; rw [← h1]
          rw [← escL_append, List.take_append_drop])
        have i1 : ¬ (k : Int) < (c : Int) := by omega
        go_wp2_with (fail)
        refine (write_any w1.heap.size _ (s.extract m s.size) _ HL.out (by rw [ByteArray.size_extract]; omega)).mono ?_
        rintro e w4 ⟨rfl, hl, hb⟩
        rw [ext_end, HE.out] at hl
        have HL4 := Lib.hid hl
        replace HB := Lib.hid (Below.trans HB.out hb)
        clear hl hb HL
        go_wp2_with (fail)
        refine (bstring_any w1.heap.size _ _ HL4.out).mono ?_
        rintro e w5 ⟨rfl, hb⟩
        replace HB := Lib.hid (Below.trans HB.out hb); clear hb
        go_wp2_with (fail)
        go_ret
        exact ⟨rfl, HB.out⟩

set_option maxHeartbeats 1000000 in
theorem repall_any (s : ByteArray) (w : World) (hs : s.size ≤ 4000) :
    Calls Tryd.prog 68 #[.string s, .string ⟨#[0]⟩, .string ⟨#[0, 255]⟩] w fun e w' => e = .returned (.string ⟨(escL s.data.toList).toArray⟩) ∧ Bel w w' := by
  go_enter Tryd.func68, Tryd.ntmps68
  go_wp2_with (fail)
  refine (replace_any s w hs).mono ?_
  rintro e w1 ⟨rfl, hb⟩
  go_wp2_with (fail)
  go_ret
  exact ⟨rfl, hb⟩
end Go.Proofs.YtbalkchphijehaaDoor
/- key.Put: a value's bytes. -/
set_option maxRecDepth 20000
namespace Go.Proofs.YtbalkchphijehaaDoor
open Go.RowKit Go.Deep

/-- What Put answers. -/
def putV (v : KV) : Value := if v.right = true then .tuple #[.string ⟨(encL v).toArray⟩, .int .i64 0] else .tuple #[.string ⟨#[]⟩, .int .i64 1]
def KV.val (v : KV) : Value := .agg #[.int .i64 v.k, .int .i64 v.n, .string v.s]
theorem conv_kind {W : World} (g : Nat) (k : Int) (hk : 1 ≤ k ∧ k ≤ 6) (h : W.cell? ⟨g, 0, none⟩ = some (.int .u8 k)) :
    (convert 49 9 (.slice (some ⟨g, 0, none⟩) 1 1)).run Tryd.prog W = .ok (.string ⟨#[UInt8.ofNat k.toNat]⟩) W :=
  run_convert_bytes_back W 49 9 5 ⟨g, 0, none⟩ 1 [UInt8.ofNat k.toNat] Tryd.underlying49 Tryd.underlying5 Tryd.underlying9 (fun j hj => by
    simp at hj; subst hj
    have e : (⟨g, 0, none⟩ : Addr).add 0 = ⟨g, 0, none⟩ := by simp [Addr.add]
    rw [e, h]; simp; omega)

set_option maxHeartbeats 2000000 in
theorem put_wrong (v : KV) (w : World) (hs : v.s.size ≤ maxLen) (h : v.right = false) :
    Calls Tryd.prog 49 #[v.val] w fun e w' => e = .returned (.tuple #[.string ⟨#[]⟩, .int .i64 1]) ∧ Bel w w' := by
  obtain ⟨k, n, s⟩ := v
  have H := Lib.hid (show rightB k n s.data.toList = false from h); clear h
  unfold KV.val
  go_enter Tryd.func49, Tryd.ntmps49
  go_wp2_with (fail)
  refine (right_any k n s _ hs).mono ?_
  rintro e w1 ⟨rfl, hb⟩
  rw [H.out]
  go_wp2_with (fail)
  go_ret2
  exact ⟨rfl, ((Bel.refl w).alloc _).trans hb⟩

theorem ret_put {x y : ByteArray} {e : Int} (h : x = y) : Ending.returned (.tuple #[.string x, .int .i64 e]) = Ending.returned (.tuple #[.string y, .int .i64 e]) := by rw [h]
theorem u64_put (n B : Int) (h : 0 ≤ n + B) (h' : n + B < 18446744073709551616) : IntKind.u64.wrap (IntKind.u64.wrap n + B) = ((n + B).toNat : Int) := by rw [wrap_u64, wrap_u64]; omega
theorem big_at (x y : Int) (n sz : Nat) (w : World) (hx : x = n) (hy : y = sz) (hs : sz ≤ 9) :
    Calls Tryd.prog 67 #[.int .u64 x, .int .i64 y] w fun e w' => e = .returned (.string ⟨(bigL n sz).toArray⟩) ∧ Bel w w' := by
  subst hx hy; exact big_any n sz w hs
def PutRel (k n : Int) (s : ByteArray) (w : World) (i : Value) (x : World) : Prop :=
  ∃ j : Nat, i = .int .i64 j ∧ j ≤ 4 ∧ (k ≤ 4 → (j : Int) + 1 ≤ k) ∧ Bel (w.alloc (.cells #[.int .i64 k, .int .i64 n, .string s] 29)) x

set_option maxHeartbeats 4000000 in
theorem put_right (v : KV) (w : World) (hs : v.s.size ≤ maxLen) (hi : v.in64) (hstd : Std w) (h : v.right = true) :
    Calls Tryd.prog 49 #[v.val] w fun e w' => e = .returned (.tuple #[.string ⟨(encL v).toArray⟩, .int .i64 0]) ∧ Bel w w' := by
  obtain ⟨hk0, hk1, hk6⟩ := kind_byte v h
  have hc := right_cases v h
  have hn := right_num v h hi
  obtain ⟨k, n, s⟩ := v
  simp only at hk1 hk6 hc hn
  have H := Lib.hid (show rightB k n s.data.toList = true from h); clear h hk0
  have HC := Lib.hid hc; clear hc
  have HN := Lib.hid hn; clear hn
  unfold KV.val
  go_enter Tryd.func49, Tryd.ntmps49
  go_wp2_with (fail)
  refine (right_any k n s _ hs).mono ?_
  rintro e w1 ⟨rfl, hb⟩
  rw [H.out]
  obtain ⟨g0, g1, g2, g3, g4, g5, g6, g7, g8, g9, g10, g11⟩ := ((hstd.bel ((Bel.refl w).alloc _)).bel hb).cells
  have q0 : w1.cell? ⟨w.heap.size, 0, none⟩ = some (.int .i64 k) := cell_later hb (by go_simp)
  have q1 : w1.cell? ⟨w.heap.size, 1, none⟩ = some (.int .i64 n) := cell_later hb (by go_simp)
  have q2 : w1.cell? ⟨w.heap.size, 2, none⟩ = some (.string s) := cell_later hb (by go_simp)
  have hlt : w.heap.size < w1.heap.size := hb.past
  have HB := Lib.hid hb; clear hb hstd
  have hcv : (convert 49 9 (.slice (some ⟨w1.heap.size, 0, none⟩) 1 1)).run Tryd.prog (w1.alloc (.cells #[.int .u8 k] 5)) = .ok (.string ⟨#[UInt8.ofNat k.toNat]⟩) (w1.alloc (.cells #[.int .u8 k] 5)) := conv_kind _ k ⟨hk1, hk6⟩ (World.cell?_alloc_new ..)
  have hpos : 0 < w1.heap.size := by omega
  go_wp2_with (fail)
  clear g0 g1 g2 g3 g4 g5 g6 g7 g8 g9 g10 g11
  go_loopw [16] (fun i x => PutRel k n s w i x) (fun i _ => 4 - (intOf i).toNat)
  case atStart => exact ⟨0, rfl, by omega, fun _ => by simp; omega, HB.out.alloc _⟩
  case round =>
    obtain ⟨j, rfl, hj4, hj, hb⟩ := hrel
    have q0 : wr.cell? ⟨w.heap.size, 0, none⟩ = some (.int .i64 k) := cell_later hb (by go_simp)
    have q1 : wr.cell? ⟨w.heap.size, 1, none⟩ = some (.int .i64 n) := cell_later hb (by go_simp)
    have q2 : wr.cell? ⟨w.heap.size, 2, none⟩ = some (.string s) := cell_later hb (by go_simp)
    have hlt : w.heap.size < wr.heap.size := hb.past
    have HB := Lib.hid hb; clear hb
    have HJ := Lib.hid hj; clear hj
    by_cases hlt : j < 4
    · obtain rfl | rfl | rfl | rfl : j = 0 ∨ j = 1 ∨ j = 2 ∨ j = 3 := by omega
      · have hix := run_width0
        by_cases hjk : (1 : Int) = k
        · subst hjk
          have hnn := HN.out (by decide)
          simp [biasK, widK] at hnn
          have HE := Lib.hid (show encL ⟨1, n, s⟩ = [1] ++ bigL n.toNat 1 by show _ :: bigL (n + ((0 : Nat) : Int)).toNat 1 = _; simp)
          go_wp2_with (fail)
          refine (big_at _ _ n.toNat 1 _ (by omega) (by rfl) (by omega)).mono ?_
          rintro e w3 ⟨rfl, hb⟩
          have hl1 := bigL_len 1 n.toNat
          replace HB := Lib.hid ((HB.out.alloc _).trans hb); clear hb
          go_wp2_with (fail)
          go_ret2
          exact ⟨ret_put (by rw [HE.out, ← ba_append]), (Bel.refl w).alloc _ |>.trans HB.out⟩
        · go_wp2_with (fail)
          go_roundw
          case rel => exact ⟨1, by go_num, by omega, fun h => by have := HJ.out h; omega, HB.out.alloc _⟩
          case measure => simp [intOf]
      · have hix := run_width1
        by_cases hjk : (2 : Int) = k
        · subst hjk
          have hnn := HN.out (by decide)
          simp [biasK, widK] at hnn
          have HE := Lib.hid (show encL ⟨2, n, s⟩ = [2] ++ bigL (n + 32768).toNat 2 from rfl)
          go_wp2_with (fail)
          refine (big_at _ _ (n + 32768).toNat 2 _ (u64_put n 32768 (by omega) (by omega)) (by rfl) (by omega)).mono ?_
          rintro e w3 ⟨rfl, hb⟩
          have hl1 := bigL_len 2 (n + 32768).toNat
          replace HB := Lib.hid ((HB.out.alloc _).trans hb); clear hb
          go_wp2_with (fail)
          go_ret2
          exact ⟨ret_put (by rw [HE.out, ← ba_append]), (Bel.refl w).alloc _ |>.trans HB.out⟩
        · go_wp2_with (fail)
          go_roundw
          case rel => exact ⟨2, by go_num, by omega, fun h => by have := HJ.out h; omega, HB.out.alloc _⟩
          case measure => simp [intOf]
      · have hix := run_width2
        by_cases hjk : (3 : Int) = k
        · subst hjk
          have hnn := HN.out (by decide)
          simp [biasK, widK] at hnn
          have HE := Lib.hid (show encL ⟨3, n, s⟩ = [3] ++ bigL (n + 2147483648).toNat 4 from rfl)
          go_wp2_with (fail)
          refine (big_at _ _ (n + 2147483648).toNat 4 _ (u64_put n 2147483648 (by omega) (by omega)) (by rfl) (by omega)).mono ?_
          rintro e w3 ⟨rfl, hb⟩
          have hl1 := bigL_len 4 (n + 2147483648).toNat
          replace HB := Lib.hid ((HB.out.alloc _).trans hb); clear hb
          go_wp2_with (fail)
          go_ret2
          exact ⟨ret_put (by rw [HE.out, ← ba_append]), (Bel.refl w).alloc _ |>.trans HB.out⟩
        · go_wp2_with (fail)
          go_roundw
          case rel => exact ⟨3, by go_num, by omega, fun h => by have := HJ.out h; omega, HB.out.alloc _⟩
          case measure => simp [intOf]
      · have hix := run_width3
        by_cases hjk : (4 : Int) = k
        · subst hjk
          have hnn := HN.out (by decide)
          simp [biasK, widK] at hnn
          have HE := Lib.hid (show encL ⟨4, n, s⟩ = [4] ++ bigL (n + 9223372036854775808).toNat 8 from rfl)
          go_wp2_with (fail)
          refine (big_at _ _ (n + 9223372036854775808).toNat 8 _ (u64_put n 9223372036854775808 (by omega) (by omega)) (by rfl) (by omega)).mono ?_
          rintro e w3 ⟨rfl, hb⟩
          have hl1 := bigL_len 8 (n + 9223372036854775808).toNat
          replace HB := Lib.hid ((HB.out.alloc _).trans hb); clear hb
          go_wp2_with (fail)
          go_ret2
          exact ⟨ret_put (by rw [HE.out, ← ba_append]), (Bel.refl w).alloc _ |>.trans HB.out⟩
        · go_wp2_with (fail)
          go_roundw
          case rel => exact ⟨4, by go_num, by omega, fun h => by have := HJ.out h; omega, HB.out.alloc _⟩
          case measure => simp [intOf]
    · obtain rfl : j = 4 := by omega
      have hc := HC.out
      have hw : widK k = 0 := by rcases hc with h | h; { have := HJ.out (by omega); omega }; { exact h.2.2.2.2 }
      have hsz : s.size ≤ 1000 := by rcases hc with h | h; { have := HJ.out (by omega); omega }; { exact h.2.2.2.1 }
      have HE := Lib.hid (show encL ⟨k, n, s⟩ = [UInt8.ofNat k.toNat] ++ escL s.data.toList ++ [0, 0] by unfold encL bodyL; rw [if_pos hw]; simp [KV.t])
      have hel := escL_len s.data.toList
      have hsl : s.data.toList.length = s.size := rfl
      clear hc hw
      go_wp2_with (fail)
      refine (repall_any s _ (by omega)).mono ?_
      rintro e w3 ⟨rfl, hb⟩
      replace HB := Lib.hid (HB.out.trans hb); clear hb
      go_wp2_with (fail)
      go_ret2
      exact ⟨ret_put (by rw [HE.out, ← ba_append, ← ba_append]), (Bel.refl w).alloc _ |>.trans HB.out⟩

theorem put_any (v : KV) (w : World) (hs : v.s.size ≤ maxLen) (hi : v.in64) (hstd : Std w) : Calls Tryd.prog 49 #[v.val] w fun e w' => e = .returned (putV v) ∧ Bel w w' := by
  unfold putV
  cases h : v.right with
  | false => simpa using put_wrong v w hs h
  | true => simpa using put_right v w hs hi hstd h
end Go.Proofs.YtbalkchphijehaaDoor
/- moultref4's width, number, text and Put: the document's answer for a value's bytes. -/
set_option maxRecDepth 20000
namespace Go.Proofs.YtbalkchphijehaaDoor
open Go.RowKit Go.Deep

end Go.Proofs.YtbalkchphijehaaDoor
/- key.text: the text that stands ahead of some bytes. -/
set_option maxRecDepth 20000
namespace Go.Proofs.YtbalkchphijehaaDoor
open Go.RowKit Go.Deep

theorem own_len {B : Nat} {w : World} {v : Value} {l : List UInt8} (h : Own B w v l) : ∃ p cap, v = .slice p l.length cap := by
  rcases h.2 with ⟨h1, h0⟩ | ⟨g, cap, cur, rfl, hg, hh, _⟩
  · exact ⟨none, 0, by rw [h1, h0]⟩
  · exact ⟨_, _, rfl⟩
def textR (l : List UInt8) : Option (List UInt8 × List UInt8) := match unescL l with
  | some p => if p.1.length ≤ 1000 then some p else none
  | none => none
def textV (o : Option (List UInt8 × List UInt8)) : Value := match o with
  | some p => .tuple #[.string ⟨p.1.toArray⟩, .string ⟨p.2.toArray⟩, .bool true]
  | none => .tuple #[.string ⟨#[]⟩, .string ⟨#[]⟩, .bool false]
theorem textR_none {l : List UInt8} (h : unescL l = none) : textR l = none := by unfold textR; rw [h]
theorem textR_long {l : List UInt8} (h : ∀ p, unescL l = some p → 1000 < p.1.length) : textR l = none := by
  unfold textR
  cases hu : unescL l with
  | none => rfl
  | some p => have := h p hu; simp only; rw [if_neg (by omega)]
theorem textR_some {l t r : List UInt8} (h : unescL l = some (t, r)) (h2 : t.length ≤ 1000) : textR l = some (t, r) := by
  unfold textR; rw [h]; simp only; rw [if_pos h2]
def pre (acc : List UInt8) (o : Option (List UInt8 × List UInt8)) : Option (List UInt8 × List UInt8) := o.map fun p => (acc ++ p.1, p.2)
theorem pre_nil (o : Option (List UInt8 × List UInt8)) : pre [] o = o := by cases o <;> rfl
theorem pre_cons (acc : List UInt8) (b : UInt8) (o : Option (List UInt8 × List UInt8)) : pre acc (o.map fun p => (b :: p.1, p.2)) = pre (acc ++ [b]) o := by cases o <;> simp [pre]
theorem drop_cons (s : ByteArray) (k : Nat) (h : k < s.size) : s.data.toList.drop k = s[k] :: s.data.toList.drop (k + 1) := by
  rw [List.drop_eq_getElem_cons (by simpa using h)]; rfl

theorem ret_text {x y x' y' : ByteArray} {b : Bool} (h : x = x') (h' : y = y') : Ending.returned (.tuple #[.string x, .string y, .bool b]) = Ending.returned (.tuple #[.string x', .string y', .bool b]) := by rw [h, h']
def TxtRel (s : ByteArray) (w : World) (v i : Value) (x : World) : Prop :=
  ∃ (k : Nat) (acc : List UInt8), k ≤ s.size ∧ i = .int .i64 k ∧ acc.length ≤ k ∧ Own w.heap.size x v acc ∧ pre acc (unescL (s.data.toList.drop k)) = unescL s.data.toList ∧ Bel w x

set_option maxHeartbeats 4000000 in
theorem text_any (s : ByteArray) (w : World) (hs : s.size ≤ 1000000) :
    Calls Tryd.prog 86 #[.string s] w fun e w' => e = .returned (textV (textR s.data.toList)) ∧ Bel w w' := by
  have hsl : s.data.toList.length = s.size := rfl
  go_enter Tryd.func86, Tryd.ntmps86
  go_wp2_with (fail)
  go_loopw [5, 6] (fun v i x => TxtRel s w v i x) (fun _ i _ => s.size - (intOf i).toNat)
  case atStart => exact ⟨0, [], Nat.zero_le _, rfl, Nat.le_refl _, Own.nil _ _, pre_nil _, Bel.refl w⟩
  case round =>
    obtain ⟨k, acc, hk, rfl, hak, hown, hp, hb⟩ := hrel
    obtain ⟨p, cap, rfl⟩ := own_len hown
    have HV := Lib.hid hown
    have HB := Lib.hid hb; clear hb
    have HP := Lib.hid hp; clear hp
    by_cases hlt : k + 1 < s.size
    · have i1 : (k : Int) + 1 < (s.size : Int) := by omega
      by_cases hal : acc.length ≤ 1000
      · by_cases h0 : s[k] = 0
        · have h0' : s[k].toNat = 0 := by rw [h0]; rfl
          have e0 : s.data.toList.drop k = 0 :: s[k + 1] :: s.data.toList.drop (k + 2) := by rw [drop_cons s k (by omega), drop_cons s (k + 1) (by omega), h0]
          by_cases h1 : s[k + 1] = 0
          · have h1' : s[k + 1].toNat = 0 := by rw [h1]; rfl
            have hX := HP.out
            rw [e0, h1, unesc_end] at hX
            have HX := Lib.hid (textR_some (t := acc) (r := s.data.toList.drop (k + 2)) (l := s.data.toList) (by rw [← hX]; simp [pre]) hal)
            clear hX e0
            have hcv : ∀ n, (convert 49 9 (.slice p acc.length cap)).run Tryd.prog (wr.drewN n) = .ok (.string ⟨acc.toArray⟩) (wr.drewN n) := fun n => own_string (hown.drewN n)
            have c1 : (k : Int) + 2 ≤ (s.size : Int) := by omega
            clear hown
            go_wp2_with (fail)
            go_quiet (fail)
            go_wp2_with (fail)
            go_ret3
            exact ⟨by rw [HX.out]; exact ret_text rfl (ba_eq (ext_end s (k + 2))), HB.out.drewN _⟩
          · have h1' : ¬ s[k + 1].toNat = 0 := fun h => h1 (UInt8.toNat_inj.1 h)
            by_cases h2 : s[k + 1] = 255
            · have h2' : s[k + 1].toNat = 255 := by rw [h2]; rfl
              have hX := HP.out
              rw [e0, h2, unesc_mark, pre_cons] at hX
              have HX := Lib.hid hX
              clear hX e0 hown
              go_wp2_with (at_builtin; refine stop_here ?_)
              refine go_on ?_
              refine append_lit rfl _ _ rfl w.heap.size _ _ rfl HV.out _ _ _ [0] rfl rfl rfl (by simp; omega) HB.out.size (Or.inl rfl) ?_
              intro v1 w1 hown1 hbel1 hz1
              have HV1 := Lib.hid hown1
              replace HB := Lib.hid (HB.out.trans_below hbel1)
              clear hown1 hbel1 HV
              go_wp2_with (fail)
              go_roundw
              case rel => exact ⟨k + 2, acc ++ [0], by omega, by go_num, by simp; omega, HV1.out, HX.out, HB.out⟩
              case measure => simp [intOf]; omega
            · have h2' : ¬ s[k + 1].toNat = 255 := fun h => h2 (UInt8.toNat_inj.1 h)
              have hX := HP.out
              rw [e0, unesc_bad _ _ h1 h2] at hX
              have HX := Lib.hid (textR_none hX.symm)
              clear hX e0 hown
              go_wp2_with (fail)
              go_ret3
              exact ⟨by rw [HX.out]; rfl, HB.out⟩
        · have h0' : ¬ s[k].toNat = 0 := fun h => h0 (UInt8.toNat_inj.1 h)
          have hX := HP.out
          rw [drop_cons s k (by omega), unesc_other _ _ h0, pre_cons] at hX
          have HX := Lib.hid hX
          clear hX hown
          go_wp2_with (at_builtin; refine stop_here ?_)
          refine go_on ?_
          refine append_lit rfl _ _ rfl w.heap.size _ _ rfl HV.out _ _ _ [s[k]] rfl rfl rfl (by simp; omega) HB.out.size (Or.inl rfl) ?_
          intro v1 w1 hown1 hbel1 hz1
          have HV1 := Lib.hid hown1
          replace HB := Lib.hid (HB.out.trans_below hbel1)
          clear hown1 hbel1 HV
          go_wp2_with (fail)
          go_roundw
          case rel => exact ⟨k + 1, acc ++ [s[k]], by omega, by go_num, by simp; omega, HV1.out, HX.out, HB.out⟩
          case measure => simp [intOf]; omega
      · have HX := Lib.hid (show textR s.data.toList = none from textR_long fun q hq => by
          rw [← HP.out] at hq
          obtain ⟨a, _, rfl⟩ := Option.map_eq_some_iff.1 hq
          simp; omega)
        have i2 : ¬ ((acc.length : Nat) : Int) ≤ 1000 := by omega
        clear hown
        go_wp2_with (fail)
        go_ret3
        exact ⟨by rw [HX.out]; rfl, HB.out⟩
    · have hX := HP.out
      rw [unesc_short _ (by rw [List.length_drop]; omega)] at hX
      have HX := Lib.hid (textR_none hX.symm)
      have i1 : ¬ (k : Int) + 1 < (s.size : Int) := by omega
      clear hown hX
      go_wp2_with (fail)
      go_ret3
      exact ⟨by rw [HX.out]; rfl, HB.out⟩
end Go.Proofs.YtbalkchphijehaaDoor
/- key.read and key.Take: the value that stands ahead of some bytes. -/
set_option maxRecDepth 20000
namespace Go.Proofs.YtbalkchphijehaaDoor
open Go.RowKit Go.Deep

/-- What read answers, as far as Take asks. -/
def RdPost (l : List UInt8) (w : World) (e : Ending) (w' : World) : Prop :=
  ∃ (u : KV) (rest : List UInt8) (ok : Bool), e = .returned (.tuple #[u.val, .string ⟨rest.toArray⟩, .bool ok]) ∧ Bel w w' ∧ u.s.size ≤ maxLen ∧ (ok = true → u.right = true → readL l = some (u, rest)) ∧ ((ok = false ∨ u.right = false) → readL l = none)
theorem ext_one (s : ByteArray) : (s.extract 1 s.size).data.toList = s.data.toList.drop 1 := ext_end s 1
theorem list_head (s : ByteArray) (h : 0 < s.size) : s.data.toList = s[0] :: s.data.toList.drop 1 := by
  have := drop_cons s 0 h
  rw [List.drop_zero] at this
  exact this

theorem read_kind (b : UInt8) (r : List UInt8) (h : ¬ (1 ≤ b.toNat ∧ b.toNat ≤ 6)) : readL (b :: r) = none := by
  have hw : widK b.toNat = 0 := by unfold widK; (repeat' split) <;> omega
  rw [readL, if_pos hw]
  cases unescL r with
  | none => rfl
  | some p =>
    obtain ⟨t, rest⟩ := p
    simp only
    rw [if_neg]
    unfold rightB
    have e1 : ¬ (b.toNat : Int) = 1 := by omega
    have e2 : ¬ (b.toNat : Int) = 2 := by omega
    have e3 : ¬ (b.toNat : Int) = 3 := by omega
    have e4 : ¬ (b.toNat : Int) = 4 := by omega
    have e5 : ¬ (b.toNat : Int) = 5 := by omega
    have e6 : ¬ (b.toNat : Int) = 6 := by omega
    rw [if_neg e1, if_neg e2, if_neg e3, if_neg e4, if_neg e5, if_neg e6]; simp
theorem read_num (b : UInt8) (r : List UInt8) (h : 1 ≤ b.toNat ∧ b.toNat ≤ 4) : readL (b :: r) = if r.length < widK b.toNat then none else
    if rightB b.toNat ((sumL (r.take (widK b.toNat)) : Int) - biasK b.toNat) [] = true then some (⟨b.toNat, (sumL (r.take (widK b.toNat)) : Int) - biasK b.toNat, ⟨#[]⟩⟩, r.drop (widK b.toNat)) else none := by
  have hw : ¬ widK b.toNat = 0 := by unfold widK; (repeat' split) <;> omega
  rw [readL, if_neg hw]
theorem read_textN (b : UInt8) (r : List UInt8) (h : b.toNat = 5 ∨ b.toNat = 6) (ht : textR r = none) : readL (b :: r) = none := by
  have hw : widK b.toNat = 0 := by unfold widK; (repeat' split) <;> omega
  rw [readL, if_pos hw]
  unfold textR at ht
  cases hu : unescL r with
  | none => rfl
  | some p =>
    obtain ⟨t, rest⟩ := p
    rw [hu] at ht
    simp only at ht ⊢
    by_cases hl : t.length ≤ 1000
    · rw [if_pos hl] at ht; cases ht
    · rw [if_neg]
      rcases h with h | h <;> rw [h] <;> simp [rightB] <;> omega
theorem read_textS (b : UInt8) (r t rest : List UInt8) (h : b.toNat = 5 ∨ b.toNat = 6) (ht : textR r = some (t, rest)) : readL (b :: r) = if rightB b.toNat 0 t = true then some (⟨b.toNat, 0, ⟨t.toArray⟩⟩, rest) else none := by
  have hw : widK b.toNat = 0 := by unfold widK; (repeat' split) <;> omega
  rw [readL, if_pos hw]
  unfold textR at ht
  cases hu : unescL r with
  | none => rw [hu] at ht; cases ht
  | some p =>
    rw [hu] at ht
    simp only at ht
    split at ht
    · cases ht; rfl
    · cases ht

theorem not_right (v : KV) (h : true = false ∨ v.right = false) : ¬ v.right = true := by rcases h with h | h; { cases h }; { rw [h]; simp }
theorem textR_len {l t r : List UInt8} (h : textR l = some (t, r)) : t.length ≤ 1000 := by
  unfold textR at h
  cases hu : unescL l with
  | none => rw [hu] at h; cases h
  | some p =>
    rw [hu] at h
    simp only at h
    split at h
    · next hl => cases h; exact hl
    · cases h

set_option maxHeartbeats 4000000 in
theorem read_any (s : ByteArray) (w : World) (hs : s.size ≤ 1000000) (hstd : Std w) :
    Calls Tryd.prog 79 #[.string s] w (RdPost s.data.toList w) := by
  by_cases h0 : s.size = 0
  · obtain rfl : s = ⟨#[]⟩ := by apply ByteArray.ext; exact Array.eq_empty_of_size_eq_zero h0
    go_enter Tryd.func79, Tryd.ntmps79
    go_wp2_with (fail)
    exact bodyPost_ret (v := .tuple #[.agg #[.int .i64 0, .int .i64 0, .string ⟨#[]⟩], .string ⟨#[]⟩, .bool false]) (by simp [results, Tryd.results79, go_sem]) rfl
      ⟨⟨0, 0, ⟨#[]⟩⟩, [], false, rfl, (Bel.refl w).alloc _, by decide, fun h => (by cases h), fun _ => rfl⟩
  have h0' : 0 < s.size := by omega
  have hl := list_head s h0'
  have HL := Lib.hid hl
  have hne : s.toList.isEmpty = false := by rw [ByteArray.toList_eq, hl]; rfl
  clear hl
  have i1 : (0 : Int) < (s.size : Int) := by omega
  have i2 : (1 : Int) ≤ (s.size : Int) := by omega
  go_enter Tryd.func79, Tryd.ntmps79
  go_wp2_with (fail)
  go_region
  have hb8 := s[0].toNat_lt
  have hw64 : wrap64 (s[0].toNat : Int) = s[0].toNat := by unfold wrap64; omega
  rw [hw64]
  obtain ⟨k, hk⟩ : ∃ k : Nat, s[0].toNat = k := ⟨_, rfl⟩
  have HK := Lib.hid hk
  rw [hk] at hb8 ⊢
  clear hk hw64
  have hB0 : Bel w ((w.alloc (.cells #[.int .i64 k, .int .i64 0, .string ⟨#[]⟩] 29)).drew) := ((Bel.refl w).alloc _).drew
  have hS0 := hstd.bel hB0
  have HB0 := Lib.hid hB0
  clear hstd hB0
  have hz1 : (s.extract 1 s.size).size = s.size - 1 := by rw [ByteArray.size_extract]; omega
  have hd1 := Lib.hid (ext_one s)
  by_cases hk1 : 1 ≤ k ∧ k ≤ 4
  · have hr := read_num s[0] (s.data.toList.drop 1) (by rw [HK.out]; exact hk1)
    rw [← HL.out, HK.out] at hr
    have HR := Lib.hid hr; clear hr
    have hcall := number_any k (s.extract 1 s.size) _ (by omega) (by omega) hS0
    have hlen : (s.data.toList.drop 1).length = (s.extract 1 s.size).size := by rw [List.length_drop, hz1]; rfl
    have HLEN := Lib.hid hlen; clear hlen
    have HCALL := Lib.hid hcall
    clear hcall
    obtain rfl | rfl | rfl | rfl : k = 1 ∨ k = 2 ∨ k = 3 ∨ k = 4 := by omega
    · have HC : Calls Tryd.prog 85 #[.int .i64 1, .string (s.extract 1 s.size)] _ fun e w' => e = .returned (numV 1 (s.extract 1 s.size)) ∧ Bel _ w' := HCALL.out
      clear HCALL
      go_wp2_with (fail)
      refine HC.mono ?_
      rintro e w1 ⟨rfl, hb⟩
      clear HC
      have hlt1 : w.heap.size < w1.heap.size := by have := hb.size; simp [World.drew] at this; omega
      have q0 : w1.cell? ⟨w.heap.size, 0, none⟩ = some (.int .i64 1) := cell_later hb (by go_simp)
      have q1 : w1.cell? ⟨w.heap.size, 1, none⟩ = some (.int .i64 0) := cell_later hb (by go_simp)
      have q2 : w1.cell? ⟨w.heap.size, 2, none⟩ = some (.string ⟨#[]⟩) := cell_later hb (by go_simp)
      have f0 : w1.frozen? ⟨w.heap.size, 0, none⟩ = false := (hb.frozen _ _ (by simp [World.drew])).trans (by go_simp)
      have f1 : w1.frozen? ⟨w.heap.size, 1, none⟩ = false := (hb.frozen _ _ (by simp [World.drew])).trans (by go_simp)
      have f2 : w1.frozen? ⟨w.heap.size, 2, none⟩ = false := (hb.frozen _ _ (by simp [World.drew])).trans (by go_simp)
      replace HB0 := Lib.hid (HB0.out.trans hb)
      clear hb
      by_cases hl : (s.extract 1 s.size).size < 1
      · have HR2 := Lib.hid (HR.out.trans (if_pos (by rw [HLEN.out]; exact hl)))
        have hv : numV 1 (s.extract 1 s.size) = .tuple #[.int .i64 0, .string ⟨#[]⟩, .bool false] := if_pos hl
        rw [hv]
        clear hv HR
        go_wp2_with (fail)
        exact bodyPost_ret (v := .tuple #[.agg #[.int .i64 1, .int .i64 0, .string ⟨#[]⟩], .string ⟨#[]⟩, .bool false]) (by simp [results, Tryd.results79, go_sem, q0, q1, q2]) rfl
          ⟨⟨1, 0, ⟨#[]⟩⟩, [], false, rfl, by first | exact HB0.out | exact HB0.out.setCell (Nat.le_refl _) _ | exact (((HB0.out.setCell (Nat.le_refl _) _).setCell (Nat.le_refl _) _).setCell (Nat.le_refl _) _).setCell (Nat.le_refl _) _, by decide, fun h => (by cases h), fun _ => HR2.out⟩
      · obtain ⟨N, hN⟩ : ∃ N : Int, ((sumL ((s.extract 1 s.size).data.toList.take 1) : Nat) : Int) - ((biasK 1 : Nat) : Int) = N := ⟨_, rfl⟩
        obtain ⟨R, hR⟩ : ∃ R : List UInt8, (s.extract 1 s.size).data.toList.drop 1 = R := ⟨_, rfl⟩
        have hr2 : readL s.data.toList = if rightB 1 (((sumL ((s.data.toList.drop 1).take 1) : Nat) : Int) - ((biasK 1 : Nat) : Int)) [] = true then some (⟨1, ((sumL ((s.data.toList.drop 1).take 1) : Nat) : Int) - ((biasK 1 : Nat) : Int), ⟨#[]⟩⟩, (s.data.toList.drop 1).drop 1) else none := HR.out.trans (if_neg (by rw [HLEN.out]; exact hl))
        have hv : numV 1 (s.extract 1 s.size) = .tuple #[.int .i64 N, .string ⟨R.toArray⟩, .bool true] := by rw [← hN, ← hR]; exact if_neg hl
        rw [hv]
        rw [hd1.out] at hN hR
        rw [hN, hR] at hr2
        have HR2 := Lib.hid hr2
        clear hv HR hr2 hN hR
        go_wp2_with (fail)
        exact bodyPost_ret (v := .tuple #[.agg #[.int .i64 1, .int .i64 N, .string ⟨#[]⟩], .string ⟨R.toArray⟩, .bool true]) (by simp [results, Tryd.results79, go_sem, q0, q1, q2]) rfl
          ⟨⟨1, N, ⟨#[]⟩⟩, R, true, rfl, by first | exact (((HB0.out.setCell (Nat.le_refl _) _).setCell (Nat.le_refl _) _).setCell (Nat.le_refl _) _).setCell (Nat.le_refl _) _ | exact HB0.out.setCell (Nat.le_refl _) _, Nat.zero_le _, fun _ hr => HR2.out.trans (if_pos hr), fun h => HR2.out.trans (if_neg (not_right _ h))⟩
    · have HC : Calls Tryd.prog 85 #[.int .i64 2, .string (s.extract 1 s.size)] _ fun e w' => e = .returned (numV 2 (s.extract 1 s.size)) ∧ Bel _ w' := HCALL.out
      clear HCALL
      go_wp2_with (fail)
      refine HC.mono ?_
      rintro e w1 ⟨rfl, hb⟩
      clear HC
      have hlt1 : w.heap.size < w1.heap.size := by have := hb.size; simp [World.drew] at this; omega
      have q0 : w1.cell? ⟨w.heap.size, 0, none⟩ = some (.int .i64 2) := cell_later hb (by go_simp)
      have q1 : w1.cell? ⟨w.heap.size, 1, none⟩ = some (.int .i64 0) := cell_later hb (by go_simp)
      have q2 : w1.cell? ⟨w.heap.size, 2, none⟩ = some (.string ⟨#[]⟩) := cell_later hb (by go_simp)
      have f0 : w1.frozen? ⟨w.heap.size, 0, none⟩ = false := (hb.frozen _ _ (by simp [World.drew])).trans (by go_simp)
      have f1 : w1.frozen? ⟨w.heap.size, 1, none⟩ = false := (hb.frozen _ _ (by simp [World.drew])).trans (by go_simp)
      have f2 : w1.frozen? ⟨w.heap.size, 2, none⟩ = false := (hb.frozen _ _ (by simp [World.drew])).trans (by go_simp)
      replace HB0 := Lib.hid (HB0.out.trans hb)
      clear hb
      by_cases hl : (s.extract 1 s.size).size < 2
      · have HR2 := Lib.hid (HR.out.trans (if_pos (by rw [HLEN.out]; exact hl)))
        have hv : numV 2 (s.extract 1 s.size) = .tuple #[.int .i64 0, .string ⟨#[]⟩, .bool false] := if_pos hl
        rw [hv]
        clear hv HR
        go_wp2_with (fail)
        exact bodyPost_ret (v := .tuple #[.agg #[.int .i64 2, .int .i64 0, .string ⟨#[]⟩], .string ⟨#[]⟩, .bool false]) (by simp [results, Tryd.results79, go_sem, q0, q1, q2]) rfl
          ⟨⟨2, 0, ⟨#[]⟩⟩, [], false, rfl, by first | exact HB0.out | exact HB0.out.setCell (Nat.le_refl _) _ | exact (((HB0.out.setCell (Nat.le_refl _) _).setCell (Nat.le_refl _) _).setCell (Nat.le_refl _) _).setCell (Nat.le_refl _) _, by decide, fun h => (by cases h), fun _ => HR2.out⟩
      · obtain ⟨N, hN⟩ : ∃ N : Int, ((sumL ((s.extract 1 s.size).data.toList.take 2) : Nat) : Int) - ((biasK 2 : Nat) : Int) = N := ⟨_, rfl⟩
        obtain ⟨R, hR⟩ : ∃ R : List UInt8, (s.extract 1 s.size).data.toList.drop 2 = R := ⟨_, rfl⟩
        have hr2 : readL s.data.toList = if rightB 2 (((sumL ((s.data.toList.drop 1).take 2) : Nat) : Int) - ((biasK 2 : Nat) : Int)) [] = true then some (⟨2, ((sumL ((s.data.toList.drop 1).take 2) : Nat) : Int) - ((biasK 2 : Nat) : Int), ⟨#[]⟩⟩, (s.data.toList.drop 1).drop 2) else none := HR.out.trans (if_neg (by rw [HLEN.out]; exact hl))
        have hv : numV 2 (s.extract 1 s.size) = .tuple #[.int .i64 N, .string ⟨R.toArray⟩, .bool true] := by rw [← hN, ← hR]; exact if_neg hl
        rw [hv]
        rw [hd1.out] at hN hR
        rw [hN, hR] at hr2
        have HR2 := Lib.hid hr2
        clear hv HR hr2 hN hR
        go_wp2_with (fail)
        exact bodyPost_ret (v := .tuple #[.agg #[.int .i64 2, .int .i64 N, .string ⟨#[]⟩], .string ⟨R.toArray⟩, .bool true]) (by simp [results, Tryd.results79, go_sem, q0, q1, q2]) rfl
          ⟨⟨2, N, ⟨#[]⟩⟩, R, true, rfl, by first | exact (((HB0.out.setCell (Nat.le_refl _) _).setCell (Nat.le_refl _) _).setCell (Nat.le_refl _) _).setCell (Nat.le_refl _) _ | exact HB0.out.setCell (Nat.le_refl _) _, Nat.zero_le _, fun _ hr => HR2.out.trans (if_pos hr), fun h => HR2.out.trans (if_neg (not_right _ h))⟩
    · have HC : Calls Tryd.prog 85 #[.int .i64 3, .string (s.extract 1 s.size)] _ fun e w' => e = .returned (numV 3 (s.extract 1 s.size)) ∧ Bel _ w' := HCALL.out
      clear HCALL
      go_wp2_with (fail)
      refine HC.mono ?_
      rintro e w1 ⟨rfl, hb⟩
      clear HC
      have hlt1 : w.heap.size < w1.heap.size := by have := hb.size; simp [World.drew] at this; omega
      have q0 : w1.cell? ⟨w.heap.size, 0, none⟩ = some (.int .i64 3) := cell_later hb (by go_simp)
      have q1 : w1.cell? ⟨w.heap.size, 1, none⟩ = some (.int .i64 0) := cell_later hb (by go_simp)
      have q2 : w1.cell? ⟨w.heap.size, 2, none⟩ = some (.string ⟨#[]⟩) := cell_later hb (by go_simp)
      have f0 : w1.frozen? ⟨w.heap.size, 0, none⟩ = false := (hb.frozen _ _ (by simp [World.drew])).trans (by go_simp)
      have f1 : w1.frozen? ⟨w.heap.size, 1, none⟩ = false := (hb.frozen _ _ (by simp [World.drew])).trans (by go_simp)
      have f2 : w1.frozen? ⟨w.heap.size, 2, none⟩ = false := (hb.frozen _ _ (by simp [World.drew])).trans (by go_simp)
      replace HB0 := Lib.hid (HB0.out.trans hb)
      clear hb
      by_cases hl : (s.extract 1 s.size).size < 4
      · have HR2 := Lib.hid (HR.out.trans (if_pos (by rw [HLEN.out]; exact hl)))
        have hv : numV 3 (s.extract 1 s.size) = .tuple #[.int .i64 0, .string ⟨#[]⟩, .bool false] := if_pos hl
        rw [hv]
        clear hv HR
        go_wp2_with (fail)
        exact bodyPost_ret (v := .tuple #[.agg #[.int .i64 3, .int .i64 0, .string ⟨#[]⟩], .string ⟨#[]⟩, .bool false]) (by simp [results, Tryd.results79, go_sem, q0, q1, q2]) rfl
          ⟨⟨3, 0, ⟨#[]⟩⟩, [], false, rfl, by first | exact HB0.out | exact HB0.out.setCell (Nat.le_refl _) _ | exact (((HB0.out.setCell (Nat.le_refl _) _).setCell (Nat.le_refl _) _).setCell (Nat.le_refl _) _).setCell (Nat.le_refl _) _, by decide, fun h => (by cases h), fun _ => HR2.out⟩
      · obtain ⟨N, hN⟩ : ∃ N : Int, ((sumL ((s.extract 1 s.size).data.toList.take 4) : Nat) : Int) - ((biasK 3 : Nat) : Int) = N := ⟨_, rfl⟩
        obtain ⟨R, hR⟩ : ∃ R : List UInt8, (s.extract 1 s.size).data.toList.drop 4 = R := ⟨_, rfl⟩
        have hr2 : readL s.data.toList = if rightB 3 (((sumL ((s.data.toList.drop 1).take 4) : Nat) : Int) - ((biasK 3 : Nat) : Int)) [] = true then some (⟨3, ((sumL ((s.data.toList.drop 1).take 4) : Nat) : Int) - ((biasK 3 : Nat) : Int), ⟨#[]⟩⟩, (s.data.toList.drop 1).drop 4) else none := HR.out.trans (if_neg (by rw [HLEN.out]; exact hl))
        have hv : numV 3 (s.extract 1 s.size) = .tuple #[.int .i64 N, .string ⟨R.toArray⟩, .bool true] := by rw [← hN, ← hR]; exact if_neg hl
        rw [hv]
        rw [hd1.out] at hN hR
        rw [hN, hR] at hr2
        have HR2 := Lib.hid hr2
        clear hv HR hr2 hN hR
        go_wp2_with (fail)
        exact bodyPost_ret (v := .tuple #[.agg #[.int .i64 3, .int .i64 N, .string ⟨#[]⟩], .string ⟨R.toArray⟩, .bool true]) (by simp [results, Tryd.results79, go_sem, q0, q1, q2]) rfl
          ⟨⟨3, N, ⟨#[]⟩⟩, R, true, rfl, by first | exact (((HB0.out.setCell (Nat.le_refl _) _).setCell (Nat.le_refl _) _).setCell (Nat.le_refl _) _).setCell (Nat.le_refl _) _ | exact HB0.out.setCell (Nat.le_refl _) _, Nat.zero_le _, fun _ hr => HR2.out.trans (if_pos hr), fun h => HR2.out.trans (if_neg (not_right _ h))⟩
    · have HC : Calls Tryd.prog 85 #[.int .i64 4, .string (s.extract 1 s.size)] _ fun e w' => e = .returned (numV 4 (s.extract 1 s.size)) ∧ Bel _ w' := HCALL.out
      clear HCALL
      go_wp2_with (fail)
      refine HC.mono ?_
      rintro e w1 ⟨rfl, hb⟩
      clear HC
      have hlt1 : w.heap.size < w1.heap.size := by have := hb.size; simp [World.drew] at this; omega
      have q0 : w1.cell? ⟨w.heap.size, 0, none⟩ = some (.int .i64 4) := cell_later hb (by go_simp)
      have q1 : w1.cell? ⟨w.heap.size, 1, none⟩ = some (.int .i64 0) := cell_later hb (by go_simp)
      have q2 : w1.cell? ⟨w.heap.size, 2, none⟩ = some (.string ⟨#[]⟩) := cell_later hb (by go_simp)
      have f0 : w1.frozen? ⟨w.heap.size, 0, none⟩ = false := (hb.frozen _ _ (by simp [World.drew])).trans (by go_simp)
      have f1 : w1.frozen? ⟨w.heap.size, 1, none⟩ = false := (hb.frozen _ _ (by simp [World.drew])).trans (by go_simp)
      have f2 : w1.frozen? ⟨w.heap.size, 2, none⟩ = false := (hb.frozen _ _ (by simp [World.drew])).trans (by go_simp)
      replace HB0 := Lib.hid (HB0.out.trans hb)
      clear hb
      by_cases hl : (s.extract 1 s.size).size < 8
      · have HR2 := Lib.hid (HR.out.trans (if_pos (by rw [HLEN.out]; exact hl)))
        have hv : numV 4 (s.extract 1 s.size) = .tuple #[.int .i64 0, .string ⟨#[]⟩, .bool false] := if_pos hl
        rw [hv]
        clear hv HR
        go_wp2_with (fail)
        exact bodyPost_ret (v := .tuple #[.agg #[.int .i64 4, .int .i64 0, .string ⟨#[]⟩], .string ⟨#[]⟩, .bool false]) (by simp [results, Tryd.results79, go_sem, q0, q1, q2]) rfl
          ⟨⟨4, 0, ⟨#[]⟩⟩, [], false, rfl, by first | exact HB0.out | exact HB0.out.setCell (Nat.le_refl _) _ | exact (((HB0.out.setCell (Nat.le_refl _) _).setCell (Nat.le_refl _) _).setCell (Nat.le_refl _) _).setCell (Nat.le_refl _) _, by decide, fun h => (by cases h), fun _ => HR2.out⟩
      · obtain ⟨N, hN⟩ : ∃ N : Int, ((sumL ((s.extract 1 s.size).data.toList.take 8) : Nat) : Int) - ((biasK 4 : Nat) : Int) = N := ⟨_, rfl⟩
        obtain ⟨R, hR⟩ : ∃ R : List UInt8, (s.extract 1 s.size).data.toList.drop 8 = R := ⟨_, rfl⟩
        have hr2 : readL s.data.toList = if rightB 4 (((sumL ((s.data.toList.drop 1).take 8) : Nat) : Int) - ((biasK 4 : Nat) : Int)) [] = true then some (⟨4, ((sumL ((s.data.toList.drop 1).take 8) : Nat) : Int) - ((biasK 4 : Nat) : Int), ⟨#[]⟩⟩, (s.data.toList.drop 1).drop 8) else none := HR.out.trans (if_neg (by rw [HLEN.out]; exact hl))
        have hv : numV 4 (s.extract 1 s.size) = .tuple #[.int .i64 N, .string ⟨R.toArray⟩, .bool true] := by rw [← hN, ← hR]; exact if_neg hl
        rw [hv]
        rw [hd1.out] at hN hR
        rw [hN, hR] at hr2
        have HR2 := Lib.hid hr2
        clear hv HR hr2 hN hR
        go_wp2_with (fail)
        exact bodyPost_ret (v := .tuple #[.agg #[.int .i64 4, .int .i64 N, .string ⟨#[]⟩], .string ⟨R.toArray⟩, .bool true]) (by simp [results, Tryd.results79, go_sem, q0, q1, q2]) rfl
          ⟨⟨4, N, ⟨#[]⟩⟩, R, true, rfl, by first | exact (((HB0.out.setCell (Nat.le_refl _) _).setCell (Nat.le_refl _) _).setCell (Nat.le_refl _) _).setCell (Nat.le_refl _) _ | exact HB0.out.setCell (Nat.le_refl _) _, Nat.zero_le _, fun _ hr => HR2.out.trans (if_pos hr), fun h => HR2.out.trans (if_neg (not_right _ h))⟩
  by_cases hk5 : k = 5 ∨ k = 6
  · have hcall := text_any (s.extract 1 s.size) ((w.alloc (.cells #[.int .i64 k, .int .i64 0, .string ⟨#[]⟩] 29)).drew) (by omega)
    rw [hd1.out] at hcall
    have hrn := fun ht => read_textN s[0] (s.data.toList.drop 1) (by rw [HK.out]; exact hk5) ht
    have hrs := fun t rest ht => read_textS s[0] (s.data.toList.drop 1) t rest (by rw [HK.out]; exact hk5) ht
    rw [← HL.out, HK.out] at hrs
    rw [← HL.out] at hrn
    have HRN := Lib.hid hrn; clear hrn
    have HRS := Lib.hid hrs; clear hrs
    obtain ⟨o, ho⟩ : ∃ o, textR (s.data.toList.drop 1) = o := ⟨_, rfl⟩
    rw [ho] at hcall
    have HO := Lib.hid ho; clear ho
    have HCALL := Lib.hid hcall
    clear hcall
    obtain rfl | rfl := hk5
    · have HC : Calls Tryd.prog 86 #[.string (s.extract 1 s.size)] _ fun e w' => e = .returned (textV o) ∧ Bel _ w' := HCALL.out
      clear HCALL
      go_wp2_with (fail)
      refine HC.mono ?_
      rintro e w1 ⟨rfl, hb⟩
      clear HC
      have hlt1 : w.heap.size < w1.heap.size := by have := hb.size; simp [World.drew] at this; omega
      have q0 : w1.cell? ⟨w.heap.size, 0, none⟩ = some (.int .i64 5) := cell_later hb (by go_simp)
      have q1 : w1.cell? ⟨w.heap.size, 1, none⟩ = some (.int .i64 0) := cell_later hb (by go_simp)
      have q2 : w1.cell? ⟨w.heap.size, 2, none⟩ = some (.string ⟨#[]⟩) := cell_later hb (by go_simp)
      have f0 : w1.frozen? ⟨w.heap.size, 0, none⟩ = false := (hb.frozen _ _ (by simp [World.drew])).trans (by go_simp)
      have f1 : w1.frozen? ⟨w.heap.size, 1, none⟩ = false := (hb.frozen _ _ (by simp [World.drew])).trans (by go_simp)
      have f2 : w1.frozen? ⟨w.heap.size, 2, none⟩ = false := (hb.frozen _ _ (by simp [World.drew])).trans (by go_simp)
      replace HB0 := Lib.hid (HB0.out.trans hb)
      clear hb
      cases o with
      | none =>
        have HR2 := Lib.hid (HRN.out HO.out)
        have hv : textV none = .tuple #[.string ⟨#[]⟩, .string ⟨#[]⟩, .bool false] := rfl
        rw [hv]
        clear hv
        go_wp2_with (fail)
        exact bodyPost_ret (v := .tuple #[.agg #[.int .i64 5, .int .i64 0, .string ⟨#[]⟩], .string ⟨#[]⟩, .bool false]) (by simp [results, Tryd.results79, go_sem, q0, q1, q2]) rfl
          ⟨⟨5, 0, ⟨#[]⟩⟩, [], false, rfl, by first | exact HB0.out | exact HB0.out.setCell (Nat.le_refl _) _ | exact (((HB0.out.setCell (Nat.le_refl _) _).setCell (Nat.le_refl _) _).setCell (Nat.le_refl _) _).setCell (Nat.le_refl _) _, Nat.zero_le _, fun h => (by cases h), fun _ => HR2.out⟩
      | some p =>
        obtain ⟨t, R⟩ := p
        have HR2 := Lib.hid (HRS.out t R HO.out)
        have htl := Lib.hid (textR_len HO.out)
        have hv : textV (some (t, R)) = .tuple #[.string ⟨t.toArray⟩, .string ⟨R.toArray⟩, .bool true] := rfl
        rw [hv]
        clear hv
        go_wp2_with (fail)
        exact bodyPost_ret (v := .tuple #[.agg #[.int .i64 5, .int .i64 0, .string ⟨t.toArray⟩], .string ⟨R.toArray⟩, .bool true]) (by simp [results, Tryd.results79, go_sem, q0, q1, q2]) rfl
          ⟨⟨5, 0, ⟨t.toArray⟩⟩, R, true, rfl, by first | exact (((HB0.out.setCell (Nat.le_refl _) _).setCell (Nat.le_refl _) _).setCell (Nat.le_refl _) _).setCell (Nat.le_refl _) _ | exact HB0.out.setCell (Nat.le_refl _) _, by have := htl.out; show t.toArray.size ≤ _; rw [List.size_toArray]; unfold maxLen; omega, fun _ hr => HR2.out.trans (if_pos hr), fun h => HR2.out.trans (if_neg (not_right _ h))⟩
    · have HC : Calls Tryd.prog 86 #[.string (s.extract 1 s.size)] _ fun e w' => e = .returned (textV o) ∧ Bel _ w' := HCALL.out
      clear HCALL
      go_wp2_with (fail)
      refine HC.mono ?_
      rintro e w1 ⟨rfl, hb⟩
      clear HC
      have hlt1 : w.heap.size < w1.heap.size := by have := hb.size; simp [World.drew] at this; omega
      have q0 : w1.cell? ⟨w.heap.size, 0, none⟩ = some (.int .i64 6) := cell_later hb (by go_simp)
      have q1 : w1.cell? ⟨w.heap.size, 1, none⟩ = some (.int .i64 0) := cell_later hb (by go_simp)
      have q2 : w1.cell? ⟨w.heap.size, 2, none⟩ = some (.string ⟨#[]⟩) := cell_later hb (by go_simp)
      have f0 : w1.frozen? ⟨w.heap.size, 0, none⟩ = false := (hb.frozen _ _ (by simp [World.drew])).trans (by go_simp)
      have f1 : w1.frozen? ⟨w.heap.size, 1, none⟩ = false := (hb.frozen _ _ (by simp [World.drew])).trans (by go_simp)
      have f2 : w1.frozen? ⟨w.heap.size, 2, none⟩ = false := (hb.frozen _ _ (by simp [World.drew])).trans (by go_simp)
      replace HB0 := Lib.hid (HB0.out.trans hb)
      clear hb
      cases o with
      | none =>
        have HR2 := Lib.hid (HRN.out HO.out)
        have hv : textV none = .tuple #[.string ⟨#[]⟩, .string ⟨#[]⟩, .bool false] := rfl
        rw [hv]
        clear hv
        go_wp2_with (fail)
        exact bodyPost_ret (v := .tuple #[.agg #[.int .i64 6, .int .i64 0, .string ⟨#[]⟩], .string ⟨#[]⟩, .bool false]) (by simp [results, Tryd.results79, go_sem, q0, q1, q2]) rfl
          ⟨⟨6, 0, ⟨#[]⟩⟩, [], false, rfl, by first | exact HB0.out | exact HB0.out.setCell (Nat.le_refl _) _ | exact (((HB0.out.setCell (Nat.le_refl _) _).setCell (Nat.le_refl _) _).setCell (Nat.le_refl _) _).setCell (Nat.le_refl _) _, Nat.zero_le _, fun h => (by cases h), fun _ => HR2.out⟩
      | some p =>
        obtain ⟨t, R⟩ := p
        have HR2 := Lib.hid (HRS.out t R HO.out)
        have htl := Lib.hid (textR_len HO.out)
        have hv : textV (some (t, R)) = .tuple #[.string ⟨t.toArray⟩, .string ⟨R.toArray⟩, .bool true] := rfl
        rw [hv]
        clear hv
        go_wp2_with (fail)
        exact bodyPost_ret (v := .tuple #[.agg #[.int .i64 6, .int .i64 0, .string ⟨t.toArray⟩], .string ⟨R.toArray⟩, .bool true]) (by simp [results, Tryd.results79, go_sem, q0, q1, q2]) rfl
          ⟨⟨6, 0, ⟨t.toArray⟩⟩, R, true, rfl, by first | exact (((HB0.out.setCell (Nat.le_refl _) _).setCell (Nat.le_refl _) _).setCell (Nat.le_refl _) _).setCell (Nat.le_refl _) _ | exact HB0.out.setCell (Nat.le_refl _) _, by have := htl.out; show t.toArray.size ≤ _; rw [List.size_toArray]; unfold maxLen; omega, fun _ hr => HR2.out.trans (if_pos hr), fun h => HR2.out.trans (if_neg (not_right _ h))⟩
  · have n1 : ¬ (k : Int) = 1 := by omega
    have n2 : ¬ (k : Int) = 2 := by omega
    have n3 : ¬ (k : Int) = 3 := by omega
    have n4 : ¬ (k : Int) = 4 := by omega
    have n5 : ¬ (k : Int) = 5 := by omega
    have n6 : ¬ (k : Int) = 6 := by omega
    have HR := Lib.hid (show readL s.data.toList = none by rw [HL.out]; exact read_kind _ _ (by rw [HK.out]; omega))
    go_wp2_with (fail)
    exact bodyPost_ret (v := .tuple #[.agg #[.int .i64 k, .int .i64 0, .string ⟨#[]⟩], .string ⟨#[]⟩, .bool false]) (by simp [results, Tryd.results79, go_sem]) rfl
      ⟨⟨k, 0, ⟨#[]⟩⟩, [], false, rfl, HB0.out, Nat.zero_le _, fun h => (by cases h), fun _ => HR.out⟩
end Go.Proofs.YtbalkchphijehaaDoor
/- key.Take. -/
set_option maxRecDepth 20000
namespace Go.Proofs.YtbalkchphijehaaDoor
open Go.RowKit Go.Deep

/-- What Take answers. -/
def takeV (o : Option (KV × List UInt8)) : Value := match o with
  | some p => .tuple #[p.1.val, .string ⟨p.2.toArray⟩, .int .i64 0]
  | none => .tuple #[.agg #[.int .i64 0, .int .i64 0, .string ⟨#[]⟩], .string ⟨#[]⟩, .int .i64 8]

set_option maxHeartbeats 4000000 in
theorem take_any (s : ByteArray) (w : World) (hs : s.size ≤ 1000000) (hstd : Std w) :
    Calls Tryd.prog 63 #[.string s] w fun e w' => e = .returned (takeV (readL s.data.toList)) ∧ Bel w w' := by
  have hS0 := hstd.bel ((Bel.refl w).alloc (.cells #[.int .i64 0, .int .i64 0, .string ⟨#[]⟩] 29))
  go_enter Tryd.func63, Tryd.ntmps63
  go_wp2_with (fail)
  refine (read_any s _ hs hS0).mono ?_
  rintro e w1 ⟨u, rest, ok, rfl, hb, hz, hy, hn⟩
  obtain ⟨k, n, t⟩ := u
  have HY := Lib.hid hy; clear hy
  have HN := Lib.hid hn; clear hn
  have hlt1 : w.heap.size < w1.heap.size := hb.past
  have q0 : w1.cell? ⟨w.heap.size, 0, none⟩ = some (.int .i64 0) := cell_later hb (by go_simp)
  have q1 : w1.cell? ⟨w.heap.size, 1, none⟩ = some (.int .i64 0) := cell_later hb (by go_simp)
  have q2 : w1.cell? ⟨w.heap.size, 2, none⟩ = some (.string ⟨#[]⟩) := cell_later hb (by go_simp)
  have f0 : w1.frozen? ⟨w.heap.size, 0, none⟩ = false := (hb.frozen _ _ (by simp)).trans (by go_simp)
  have f1 : w1.frozen? ⟨w.heap.size, 1, none⟩ = false := (hb.frozen _ _ (by simp)).trans (by go_simp)
  have f2 : w1.frozen? ⟨w.heap.size, 2, none⟩ = false := (hb.frozen _ _ (by simp)).trans (by go_simp)
  have HB := Lib.hid (((Bel.refl w).alloc _).trans hb)
  have HZ := Lib.hid hz
  clear hb hz hstd hS0
  unfold KV.val
  cases ok with
  | false =>
    have HR := Lib.hid (HN.out (Or.inl rfl))
    go_wp2_with (fail)
    exact bodyPost_ret (v := .tuple #[.agg #[.int .i64 0, .int .i64 0, .string ⟨#[]⟩], .string ⟨#[]⟩, .int .i64 8]) (by simp [results, Tryd.results63, go_sem, q0, q1, q2, hlt1]) rfl
      ⟨by rw [HR.out]; rfl, by first | exact (((HB.out.setCell (Nat.le_refl _) _).setCell (Nat.le_refl _) _).setCell (Nat.le_refl _) _).alloc _ | exact HB.out.alloc _⟩
  | true =>
    go_wp2_with (fail)
    refine (right_any k n t _ HZ.out).mono ?_
    rintro e w2 ⟨rfl, hb⟩
    have hlt2 : w.heap.size < w2.heap.size := by have := hb.past; omega
    have hlt3 : w1.heap.size < w2.heap.size := hb.past
    have p0 : w2.cell? ⟨w.heap.size, 0, none⟩ = some (.int .i64 0) := cell_later hb (by go_simp)
    have p1 : w2.cell? ⟨w.heap.size, 1, none⟩ = some (.int .i64 0) := cell_later hb (by go_simp)
    have p2 : w2.cell? ⟨w.heap.size, 2, none⟩ = some (.string ⟨#[]⟩) := cell_later hb (by go_simp)
    have e0 : w2.frozen? ⟨w.heap.size, 0, none⟩ = false := (hb.frozen _ _ (by simp; omega)).trans (by go_simp)
    have e1 : w2.frozen? ⟨w.heap.size, 1, none⟩ = false := (hb.frozen _ _ (by simp; omega)).trans (by go_simp)
    have e2 : w2.frozen? ⟨w.heap.size, 2, none⟩ = false := (hb.frozen _ _ (by simp; omega)).trans (by go_simp)
    have r0 : w2.cell? ⟨w1.heap.size, 0, none⟩ = some (.int .i64 k) := cell_later hb (by go_simp)
    have r1 : w2.cell? ⟨w1.heap.size, 1, none⟩ = some (.int .i64 n) := cell_later hb (by go_simp)
    have r2 : w2.cell? ⟨w1.heap.size, 2, none⟩ = some (.string t) := cell_later hb (by go_simp)
    replace HB := Lib.hid ((HB.out.alloc _).trans hb)
    clear hb
    cases hr : rightB k n t.data.toList with
    | false =>
      have HR := Lib.hid (HN.out (Or.inr hr))
      go_wp2_with (fail)
      exact bodyPost_ret (v := .tuple #[.agg #[.int .i64 0, .int .i64 0, .string ⟨#[]⟩], .string ⟨#[]⟩, .int .i64 8]) (by simp [results, Tryd.results63, go_sem, p0, p1, p2]) rfl
        ⟨by rw [HR.out]; rfl, by first | exact ((HB.out.setCell (Nat.le_refl _) _).setCell (Nat.le_refl _) _).setCell (Nat.le_refl _) _ | exact HB.out⟩
    | true =>
      have HR := Lib.hid (HY.out (by simp) hr)
      go_wp2_with (fail)
      exact bodyPost_ret (v := .tuple #[.agg #[.int .i64 k, .int .i64 n, .string t], .string ⟨rest.toArray⟩, .int .i64 0]) (by simp [results, Tryd.results63, go_sem, p0, p1, p2]) rfl
        ⟨by rw [HR.out]; rfl, by first | exact ((HB.out.setCell (Nat.le_refl _) _).setCell (Nat.le_refl _) _).setCell (Nat.le_refl _) _ | exact HB.out⟩
end Go.Proofs.YtbalkchphijehaaDoor
/- Slices of values, that came in or that a call has made: what they hold; moultlaw4.small and same. -/
set_option maxRecDepth 20000
namespace Go.Proofs.YtbalkchphijehaaDoor
open Go.RowKit Go.Deep

def valEl : El KV := ⟨29, 25, 3, fun v => [.int .i64 v.k, .int .i64 v.n, .string v.s]⟩
theorem valOk : ElOk valEl 32 := ⟨fun _ => rfl, fun a u hu => by simp [valEl] at hu; rcases hu with rfl | rfl | rfl <;> rfl, by kernel_rfl, ⟨.agg #[.int .i64 0, .int .i64 0, .string ⟨#[]⟩], by kernel_rfl, rfl⟩, by decide⟩
/-- The slice at p holds L. -/
def ValsAt (w : World) (p : Option Addr) (L : List KV) : Prop := ∀ i (h : i < L.length), ∃ a B O sp, p = some a ∧ a.add (i * 3) = ⟨B, O, sp⟩ ∧ w.cell? ⟨B, O, sp⟩ = some (.int .i64 L[i].k) ∧ w.cell? ⟨B, O + 1, none⟩ = some (.int .i64 L[i].n) ∧ w.cell? ⟨B, O + 2, none⟩ = some (.string L[i].s)
theorem block_of_cell {w : World} {a : Addr} {v : Value} (h : w.cell? a = some v) : a.block < w.heap.size := World.block_lt_of_cell? _ _ h
theorem ValsAt.bel {w x : World} {p : Option Addr} {L : List KV} (h : ValsAt w p L) (hb : Bel w x) : ValsAt x p L := by
  intro i hi
  obtain ⟨a, B, O, sp, h1, h2, c0, c1, c2⟩ := h i hi
  exact ⟨a, B, O, sp, h1, h2, (Below.cell hb (block_of_cell c0)).trans c0, (Below.cell hb (block_of_cell c1)).trans c1, (Below.cell hb (block_of_cell c2)).trans c2⟩
def allV (L : List KV) : Prop := ∀ v ∈ L, v.in64 ∧ v.s.size ≤ maxLen

theorem ownG_vals {B : Nat} {w : World} {v : Value} {L : List KV} (h : OwnG valEl B w v L) : ∃ p cap, v = .slice p L.length cap ∧ ValsAt w p L := by
  by_cases hL : L = []
  · subst hL
    obtain ⟨p, cap, hv⟩ := ownG_len h
    exact ⟨p, cap, hv, fun i hi => by simp at hi⟩
  · obtain ⟨g, cap, hv, _, _, _, hc⟩ := ownG_cells valOk h hL
    refine ⟨_, cap, hv, fun i hi => ⟨_, g, i * 3, none, rfl, ?_, ?_, ?_, ?_⟩⟩
    · by_cases h0 : i * 3 = 0
      · rw [h0]; rfl
      · simp [Addr.add, h0]
    · exact hc i L[i] (List.getElem?_eq_getElem hi) 0 _ rfl
    · exact hc i L[i] (List.getElem?_eq_getElem hi) 1 _ rfl
    · exact hc i L[i] (List.getElem?_eq_getElem hi) 2 _ rfl
end Go.Proofs.YtbalkchphijehaaDoor
/- Slices of fields, that came in or that a call has made: what they hold. -/
namespace Go.Proofs.YtbalkchphijehaaDoor
open Go.RowKit Go.Deep

theorem clQ {w x : World} {a : Addr} {v : Value} (hb : Bel w x) (h : w.cell? a = some v) : x.cell? a = some v := (Below.cell hb (World.block_lt_of_cell? _ _ h)).trans h
def FV.cells (f : FV) : List Value := [.int .i64 f.id, .int .i64 f.kind, .string f.name, .int .i64 f.d.k, .int .i64 f.d.n, .string f.d.s]
def fldEl : El FV := ⟨31, 22, 6, FV.cells⟩
theorem fldOk : ElOk fldEl 64 := ⟨fun _ => rfl, fun a u hu => by simp [fldEl, FV.cells] at hu; rcases hu with rfl | rfl | rfl | rfl | rfl | rfl <;> rfl, by kernel_rfl, ⟨.agg #[.int .i64 0, .int .i64 0, .string ⟨#[]⟩, .int .i64 0, .int .i64 0, .string ⟨#[]⟩], by kernel_rfl, rfl⟩, by decide⟩
/-- The slice at p holds L. -/
def FldsAt (w : World) (p : Option Addr) (L : List FV) : Prop := ∀ i (h : i < L.length), ∃ a B O sp, p = some a ∧ a.add (i * 6) = ⟨B, O, sp⟩ ∧
  w.cell? ⟨B, O, sp⟩ = some (.int .i64 L[i].id) ∧ w.cell? ⟨B, O + 1, none⟩ = some (.int .i64 L[i].kind) ∧ w.cell? ⟨B, O + 2, none⟩ = some (.string L[i].name) ∧
  w.cell? ⟨B, O + 3, none⟩ = some (.int .i64 L[i].d.k) ∧ w.cell? ⟨B, O + 4, none⟩ = some (.int .i64 L[i].d.n) ∧ w.cell? ⟨B, O + 5, none⟩ = some (.string L[i].d.s)
theorem FldsAt.bel {w x : World} {p : Option Addr} {L : List FV} (h : FldsAt w p L) (hb : Bel w x) : FldsAt x p L := fun i hi => by
  obtain ⟨a, B, O, sp, h1, h2, c0, c1, c2, c3, c4, c5⟩ := h i hi
  exact ⟨a, B, O, sp, h1, h2, clQ hb c0, clQ hb c1, clQ hb c2, clQ hb c3, clQ hb c4, clQ hb c5⟩
def FV.okay (f : FV) : Prop := f.fits ∧ f.name.size ≤ maxLen ∧ f.d.s.size ≤ maxLen
def allF (L : List FV) : Prop := ∀ f ∈ L, f.okay
theorem ownG_flds {B : Nat} {w : World} {v : Value} {L : List FV} (h : OwnG fldEl B w v L) : ∃ p cap, v = .slice p L.length cap ∧ FldsAt w p L := by
  by_cases hL : L = []
  · subst hL
    obtain ⟨p, cap, hv⟩ := ownG_len h
    exact ⟨p, cap, hv, fun i hi => by simp at hi⟩
  · obtain ⟨g, cap, hv, _, _, _, hc⟩ := ownG_cells fldOk h hL
    refine ⟨_, cap, hv, fun i hi => ⟨_, g, i * 6, none, rfl, ?_, ?_, ?_, ?_, ?_, ?_, ?_⟩⟩
    · by_cases h0 : i * 6 = 0
      · rw [h0]; rfl
      · simp [Addr.add, h0]
    · exact hc i L[i] (List.getElem?_eq_getElem hi) 0 _ rfl
    · exact hc i L[i] (List.getElem?_eq_getElem hi) 1 _ rfl
    · exact hc i L[i] (List.getElem?_eq_getElem hi) 2 _ rfl
    · exact hc i L[i] (List.getElem?_eq_getElem hi) 3 _ rfl
    · exact hc i L[i] (List.getElem?_eq_getElem hi) 4 _ rfl
    · exact hc i L[i] (List.getElem?_eq_getElem hi) 5 _ rfl
end Go.Proofs.YtbalkchphijehaaDoor
/- moultref14.field, Find, ByID. -/
set_option maxRecDepth 20000
namespace Go.Proofs.YtbalkchphijehaaDoor
open Go.RowKit Go.Deep

theorem cells6 {w : World} {b : Nat} {T : TypeId} {a0 a1 a2 a3 a4 a5 : Value} (h : w.heap[b]? = some (.cells #[a0, a1, a2, a3, a4, a5] T (0, 0))) : w.cell? ⟨b, 0, none⟩ = some a0 ∧ w.cell? ⟨b, 1, none⟩ = some a1 ∧ w.cell? ⟨b, 2, none⟩ = some a2 ∧ w.cell? ⟨b, 3, none⟩ = some a3 ∧ w.cell? ⟨b, 4, none⟩ = some a4 ∧ w.cell? ⟨b, 5, none⟩ = some a5 := by
  simp [World.cell?, h]
theorem boxB {w x : World} {b : Nat} {arr : Array Value} {T : TypeId} (h : w.heap[b]? = some (.cells arr T (0, 0))) (hb : Bel w x) : x.heap[b]? = some (.cells arr T (0, 0)) := (Below.block hb b (Array.getElem?_eq_some_iff.1 h).1).trans h
end Go.Proofs.YtbalkchphijehaaDoor
/- moultref14.Fits. -/
set_option maxRecDepth 20000
namespace Go.Proofs.YtbalkchphijehaaDoor
open Go.RowKit Go.Deep

end Go.Proofs.YtbalkchphijehaaDoor
/- moultref4.Put. -/
set_option maxRecDepth 20000
namespace Go.Proofs.YtbalkchphijehaaDoor
open Go.RowKit Go.Deep

end Go.Proofs.YtbalkchphijehaaDoor
/- key.Tuple and moultref4.Tuple: the bytes of some values. -/
set_option maxRecDepth 20000
namespace Go.Proofs.YtbalkchphijehaaDoor
open Go.RowKit Go.Deep

def catL (L : List KV) : List UInt8 := L.flatMap encL
theorem catL_snoc (L : List KV) (v : KV) : catL (L ++ [v]) = catL L ++ encL v := by simp [catL]
theorem catL_cons (L : List KV) (v : KV) : catL (v :: L) = encL v ++ catL L := rfl
def tupB (L : List KV) : Bool := decide (L.length ≤ 20) && L.all KV.right
/-- What Tuple answers. -/
def tupV (L : List KV) : Value := if tupB L = true then .tuple #[.string ⟨(catL L).toArray⟩, .int .i64 0] else .tuple #[.string ⟨#[]⟩, .int .i64 1]
theorem tup_many {L : List KV} (h : ¬ L.length ≤ 20) : tupV L = .tuple #[.string ⟨#[]⟩, .int .i64 1] := by unfold tupV tupB; rw [decide_eq_false h]; rfl
theorem tup_wrong {L : List KV} (k : Nat) (h : k < L.length) (hr : L[k].right = false) : tupV L = .tuple #[.string ⟨#[]⟩, .int .i64 1] := by
  unfold tupV tupB
  rw [if_neg]
  rw [Bool.and_eq_true, List.all_eq_true]
  intro hh
  have := hh.2 L[k] (List.getElem_mem h)
  rw [hr] at this; cases this
theorem tup_yes {L : List KV} (h : L.length ≤ 20) (hr : ∀ i (hi : i < L.length), L[i].right = true) : tupV L = .tuple #[.string ⟨(catL L).toArray⟩, .int .i64 0] := by
  unfold tupV tupB
  rw [if_pos]
  rw [decide_eq_true h, Bool.true_and, List.all_eq_true]
  intro v hv
  obtain ⟨i, hi, rfl⟩ := List.getElem_of_mem hv
  exact hr i hi
theorem take_snoc {α : Type} (L : List α) (k : Nat) (h : k < L.length) : L.take (k + 1) = L.take k ++ [L[k]] := by rw [List.take_add_one, List.getElem?_eq_getElem h]; rfl
theorem cat_len (L : List KV) (hr : ∀ v ∈ L, v.right = true) : (catL L).length ≤ 2003 * L.length := by
  induction L with
  | nil => simp [catL]
  | cons v L ih =>
    rw [catL_cons, List.length_append, List.length_cons]
    have := enc_len v (hr v (by simp))
    have := ih fun u hu => hr u (by simp [hu])
    omega
theorem take_right {L : List KV} {k : Nat} (hj : ∀ j (hj : j < L.length), j < k → L[j].right = true) : ∀ v ∈ L.take k, v.right = true := by
  intro v hv
  obtain ⟨i, hi, rfl⟩ := List.getElem_of_mem hv
  rw [List.length_take] at hi
  rw [List.getElem_take]
  exact hj i (by omega) (by omega)
theorem right_next {L : List KV} {k : Nat} (h : k < L.length) (hj : ∀ j (hj : j < L.length), j < k → L[j].right = true) (hr : L[k].right = true) : ∀ j (hj : j < L.length), j < k + 1 → L[j].right = true := by
  intro j hjl hjk
  by_cases e : j = k
  · subst e; exact hr
  · exact hj j hjl (by omega)

def TupRel (L : List KV) (w : World) (i : Value) (x : World) : Prop := ∃ k : Nat, k ≤ L.length ∧ i = .int .i64 k ∧ (∀ j (hj : j < L.length), j < k → L[j].right = true) ∧ BldW w.heap.size (catL (L.take k)) x ∧ Bel w x

set_option maxHeartbeats 4000000 in
theorem tuple_any (p : Option Addr) (cap : Nat) (L : List KV) (w : World) (h : ValsAt w p L) (hL : L.length ≤ maxLen) (hin : allV L) (hstd : Std w) :
    Calls Tryd.prog 41 #[.slice p L.length cap] w fun e w' => e = .returned (tupV L) ∧ Bel w w' := by
  have H := Lib.hid h; clear h
  have HI := Lib.hid hin; clear hin
  have HS := Lib.hid hstd; clear hstd
  unfold maxLen at hL
  go_enter Tryd.func41, Tryd.ntmps41
  by_cases hm : L.length ≤ 20
  · go_wp2_with (fail)
    go_loopw [14] (fun i x => TupRel L w i x) (fun i _ => L.length - (intOf i).toNat)
    case atStart => exact ⟨0, Nat.zero_le _, rfl, fun _ _ h => by omega, BldW.new w, (Bel.refl w).alloc _⟩
    case round =>
      obtain ⟨k, hk, rfl, hj, hbl, hb⟩ := hrel
      have HJ := Lib.hid hj; clear hj
      have HL := Lib.hid hbl; clear hbl
      have HB := Lib.hid hb; clear hb
      have hlen := cat_len (L.take k) (take_right HJ.out)
      rw [List.length_take] at hlen
      by_cases hlt : k < L.length
      · obtain ⟨a, B, O, sp, rfl, ha, c0, c1, c2⟩ := (H.out.bel HB.out) k hlt
        have hv := Lib.hid (HI.out L[k] (List.getElem_mem hlt))
        have HC := Lib.hid (show catL (L.take (k + 1)) = catL (L.take k) ++ encL L[k] by rw [take_snoc L k hlt, catL_snoc])
        cases hr : L[k].right with
        | false =>
          have HR := Lib.hid (tup_wrong k hlt hr)
          have HV := Lib.hid (show putV L[k] = .tuple #[.string ⟨#[]⟩, .int .i64 1] by unfold putV; rw [hr]; rfl)
          clear hr
          go_wp2_with (fail)
          refine (put_any L[k] _ hv.out.2 hv.out.1 (HS.out.bel (HB.out.alloc _))).mono ?_
          rintro e w1 ⟨rfl, hb⟩
          rw [HV.out]
          replace HB := Lib.hid ((HB.out.alloc _).trans hb); clear hb
          go_wp2_with (fail)
          go_ret2
          exact ⟨by rw [HR.out]; rfl, HB.out⟩
        | true =>
          have HJ2 := Lib.hid (right_next hlt HJ.out hr)
          have HV := Lib.hid (show putV L[k] = .tuple #[.string ⟨(encL L[k]).toArray⟩, .int .i64 0] by unfold putV; rw [if_pos hr])
          have hel := enc_len L[k] hr
          clear hr
          go_wp2_with (fail)
          refine (put_any L[k] _ hv.out.2 hv.out.1 (HS.out.bel (HB.out.alloc _))).mono ?_
          rintro e w1 ⟨rfl, hb⟩
          rw [HV.out]
          replace HB := Lib.hid ((HB.out.alloc _).trans hb)
          replace HL := Lib.hid ((HL.out.bel ((Bel.refl _).alloc _)).bel hb); clear hb
          generalize encL L[k] = E at *
          go_wp2_with (fail)
          refine (write_any w.heap.size _ ⟨E.toArray⟩ _ HL.out (by show _ + E.toArray.size ≤ _; rw [List.size_toArray]; omega)).mono ?_
          rintro e w3 ⟨rfl, hbl, hb⟩
          replace HB := Lib.hid (Below.trans HB.out hb)
          have HL3 := Lib.hid hbl
          clear hb hbl HL
          go_wp2_with (fail)
          go_roundw
          case rel => exact ⟨k + 1, hlt, by go_num, HJ2.out, by rw [HC.out]; exact HL3.out, HB.out⟩
          case measure => simp [intOf]; omega
      · have HX := Lib.hid (show L.take k = L from List.take_of_length_le (by omega))
        have HR := Lib.hid (tup_yes hm fun i hi => HJ.out i hi (by omega))
        go_wp2_with (fail)
        refine (bstring_any w.heap.size _ _ HL.out).mono ?_
        rintro e w3 ⟨rfl, hb⟩
        replace HB := Lib.hid (Below.trans HB.out hb); clear hb
        go_wp2_with (fail)
        go_ret2
        exact ⟨by rw [HR.out, HX.out]; rfl, HB.out⟩
  · have HR := Lib.hid (tup_many hm)
    have hm' : ¬ ((L.length : Nat) : Int) ≤ 20 := by omega
    go_wp2_with (fail)
    go_ret2
    exact ⟨by rw [HR.out]; rfl, Bel.refl w⟩

end Go.Proofs.YtbalkchphijehaaDoor
/- moultref4.end: where a text ends; and what the document's Take comes to. -/
set_option maxRecDepth 20000
namespace Go.Proofs.YtbalkchphijehaaDoor
open Go.RowKit Go.Deep

end Go.Proofs.YtbalkchphijehaaDoor
/- moultref4.value: some bytes read as a value, as far as they can be. -/
set_option maxRecDepth 20000
namespace Go.Proofs.YtbalkchphijehaaDoor
open Go.RowKit Go.Deep

end Go.Proofs.YtbalkchphijehaaDoor
/- moultref4.Take: the document's answer for the value that stands ahead of some bytes. -/
set_option maxRecDepth 20000
namespace Go.Proofs.YtbalkchphijehaaDoor
open Go.RowKit Go.Deep

end Go.Proofs.YtbalkchphijehaaDoor
/- key.Untuple and moultref4.Untuple: the values that some bytes are. -/
set_option maxRecDepth 20000
namespace Go.Proofs.YtbalkchphijehaaDoor
open Go.RowKit Go.Deep

/-- The values, at most so many, of which some bytes are the Tuple. -/
def untL : Nat → List UInt8 → Option (List KV)
  | 0, s => if s = [] then some [] else none
  | j + 1, s => if s = [] then some [] else match readL s with
    | none => none
    | some p => (untL j p.2).map (p.1 :: ·)
theorem unt_nil (j : Nat) : untL j [] = some [] := by cases j <;> rfl
theorem unt_none (j : Nat) (s : List UInt8) (h : s ≠ []) (hr : readL s = none) : untL j s = none := by
  cases j with
  | zero => rw [untL, if_neg h]
  | succ j => rw [untL, if_neg h, hr]
theorem unt_full (s : List UInt8) (h : s ≠ []) : untL 0 s = none := by rw [untL, if_neg h]
theorem unt_step (j : Nat) (s r : List UInt8) (v : KV) (h : s ≠ []) (hr : readL s = some (v, r)) : untL (j + 1) s = (untL j r).map (v :: ·) := by rw [untL, if_neg h, hr]
theorem unt_cat : ∀ (L : List KV) (j : Nat), L.length ≤ j → (∀ v ∈ L, v.right = true) → (∀ v ∈ L, v.in64) → untL j (catL L) = some L
  | [], j, _, _, _ => unt_nil j
  | v :: L, 0, h, _, _ => by simp at h
  | v :: L, j + 1, h, hr, hi => by
    rw [catL_cons, unt_step j _ (catL L) v (by simp [encL]) (read_enc v (hr v (by simp)) (hi v (by simp)) _), unt_cat L j (by simpa using h) (fun u hu => hr u (by simp [hu])) (fun u hu => hi u (by simp [hu]))]
    rfl
def pref (acc : List KV) (o : Option (List KV)) : Option (List KV) := o.map (acc ++ ·)
theorem pref_nil (o : Option (List KV)) : pref [] o = o := by cases o <;> rfl
theorem pref_cons (acc : List KV) (v : KV) (o : Option (List KV)) : pref acc (o.map (v :: ·)) = pref (acc ++ [v]) o := by cases o <;> simp [pref]
theorem read_rest (l r : List UInt8) (v : KV) (h : readL l = some (v, r)) : r.length < l.length := by
  obtain ⟨_, _, h3⟩ := read_some l r v h
  rw [← h3, List.length_append]
  simp [encL]

def sliceLen : Value → Nat
  | .slice _ n _ => n
  | _ => 0
def unErr (o : Option (List KV)) : Int := if o.isSome then 0 else 8
/-- What Untuple answers: a slice of its own. -/
def UnPost (o : Option (List KV)) (w : World) (e : Ending) (w' : World) : Prop :=
  ∃ v, e = .returned (.tuple #[v, .int .i64 (unErr o)]) ∧ OwnG valEl w.heap.size w' v (o.getD []) ∧ Bel w w'
theorem UnPost.none {w w' : World} (hb : Bel w w') : UnPost none w (.returned (.tuple #[.slice Option.none 0 0, .int .i64 8])) w' := ⟨_, rfl, OwnG.nil _ _ _, hb⟩
def UnRel (s0 : List UInt8) (w : World) (sv lv : Value) (x : World) : Prop :=
  ∃ (acc : List KV) (r : ByteArray), acc.length ≤ 20 ∧ sv = .string r ∧ r.size ≤ s0.length ∧ OwnG valEl w.heap.size x lv acc ∧ pref acc (untL (20 - acc.length) r.data.toList) = untL 20 s0 ∧ Bel w x
theorem ne_nil (r : ByteArray) (h : r.size ≠ 0) : r.data.toList ≠ [] := by
  intro e
  have : r.data.toList.length = 0 := by rw [e]; rfl
  exact h this

set_option maxHeartbeats 4000000 in
theorem untuple_any (s : ByteArray) (w : World) (hs : s.size ≤ 1000000) (hstd : Std w) :
    Calls Tryd.prog 46 #[.string s] w (UnPost (untL 20 s.data.toList) w) := by
  have hsl : s.data.toList.length = s.size := rfl
  have HS := Lib.hid hstd; clear hstd
  go_enter Tryd.func46, Tryd.ntmps46
  go_wp2_with (fail)
  go_loopw [0, 4] (fun sv lv x => UnRel s.data.toList w sv lv x) (fun _ lv _ => 20 - sliceLen lv)
  case atStart => exact ⟨[], s, Nat.zero_le _, rfl, Nat.le_refl _, OwnG.nil _ _ _, pref_nil _, Bel.refl w⟩
  case round =>
    obtain ⟨acc, r, hacc, rfl, hrs, hown, hu, hb⟩ := hrel
    rw [hsl] at hrs
    obtain ⟨pp, cap, rfl⟩ := ownG_len hown
    have HU := Lib.hid hu; clear hu
    have HV := Lib.hid hown; clear hown
    have HB := Lib.hid hb; clear hb
    by_cases hr0 : r.size = 0
    · obtain rfl : r = ⟨#[]⟩ := by apply ByteArray.ext; exact Array.eq_empty_of_size_eq_zero hr0
      have hX := HU.out
      have e0 : (⟨#[]⟩ : ByteArray).data.toList = [] := rfl
      rw [e0, unt_nil] at hX
      have HX := Lib.hid (show untL 20 s.data.toList = some acc by rw [← hX]; simp [pref])
      clear hX
      go_wp2_with (fail)
      go_ret2
      rw [HX.out]
      exact ⟨_, rfl, HV.out, HB.out⟩
    · have hnl := ne_nil r hr0
      have hne : r.toList.isEmpty = false := by rw [ByteArray.toList_eq]; cases h : r.data.toList with | nil => exact absurd h hnl | cons a l => rfl
      cases hrd : readL r.data.toList with
      | none =>
        have hX := HU.out
        rw [unt_none _ _ hnl hrd] at hX
        have HX := Lib.hid (show untL 20 s.data.toList = none from hX.symm)
        have HT := Lib.hid (show takeV (readL r.data.toList) = .tuple #[.agg #[.int .i64 0, .int .i64 0, .string ⟨#[]⟩], .string ⟨#[]⟩, .int .i64 8] by rw [hrd]; rfl)
        clear hX hrd hnl
        go_wp2_with (fail)
        refine (take_any r _ (by omega) (HS.out.bel HB.out)).mono ?_
        rintro e w1 ⟨rfl, hb⟩
        rw [HT.out]
        replace HB := Lib.hid (HB.out.trans hb); clear hb
        go_wp2_with (fail)
        go_ret2
        rw [HX.out]
        exact UnPost.none (HB.out.alloc _)
      | some q =>
        obtain ⟨v, rest⟩ := q
        have hlt := read_rest _ _ _ hrd
        have hrl : r.data.toList.length = r.size := rfl
        have HT := Lib.hid (show takeV (readL r.data.toList) = .tuple #[.agg #[.int .i64 v.k, .int .i64 v.n, .string v.s], .string ⟨rest.toArray⟩, .int .i64 0] by rw [hrd]; rfl)
        by_cases hf : acc.length = 20
        · have hX := HU.out
          rw [hf, Nat.sub_self, unt_full _ hnl] at hX
          have HX := Lib.hid (show untL 20 s.data.toList = none from hX.symm)
          have hf1 : ((acc.length : Nat) : Int) = 20 := by omega
          have hf2 : (((acc.length : Nat) : Int) == 20) = true := by rw [hf1]; rfl
          have hf3 : (20 : Int) ≤ ((acc.length : Nat) : Int) := by omega
          clear hX hrd hnl hf
          go_wp2_with (fail)
          refine (take_any r _ (by omega) (HS.out.bel HB.out)).mono ?_
          rintro e w1 ⟨rfl, hb⟩
          rw [HT.out]
          replace HB := Lib.hid (HB.out.trans hb); clear hb
          go_wp2_with (fail)
          go_ret2
          rw [HX.out]
          exact UnPost.none (HB.out.alloc _)
        · obtain ⟨j, hj⟩ : ∃ j, 20 - acc.length = j + 1 := ⟨20 - acc.length - 1, by omega⟩
          have hj2 : 20 - (acc ++ [v]).length = j := by simp; omega
          have hX := HU.out
          rw [hj, unt_step j _ _ _ hnl hrd, pref_cons, ← hj2] at hX
          have HX := Lib.hid hX
          have hf1 : ¬ ((acc.length : Nat) : Int) = 20 := by omega
          have hf2 : (((acc.length : Nat) : Int) == 20) = false := beq_eq_false_iff_ne.2 hf1
          have hf3 : ¬ (20 : Int) ≤ ((acc.length : Nat) : Int) := by omega
          clear hX hrd hnl hj hj2
          go_wp2_with (fail)
          refine (take_any r _ (by omega) (HS.out.bel HB.out)).mono ?_
          rintro e w1 ⟨rfl, hb⟩
          rw [HT.out]
          replace HB := Lib.hid (HB.out.trans hb)
          replace HV := Lib.hid (HV.out.bel hb); clear hb
          go_wp2_with (at_builtin; refine stop_here ?_)
          refine go_on ?_
          obtain ⟨x0, hx0⟩ : ∃ x, x = w1.alloc (.cells #[.int .i64 v.k, .int .i64 v.n, .string v.s] 29) := ⟨_, rfl⟩
          have hz0 : w1.heap.size + 1 = x0.heap.size := by rw [hx0]; simp
          have HV0 := Lib.hid (show OwnG valEl w.heap.size x0 (.slice pp acc.length cap) acc by rw [hx0]; exact HV.out.alloc _)
          have HB0 := Lib.hid (show Bel w x0 by rw [hx0]; exact HB.out.alloc _)
          rw [← hx0, hz0]
          clear hx0 hz0
          refine append_glit valOk rfl _ _ rfl rfl HV0.out _ _ _ [v] rfl rfl rfl (by simp [maxLen]; omega) (by simp; omega) HB0.out.size (Or.inl rfl) ?_
          intro v3 w3 hown3 hbel3 hZ3
          obtain ⟨pp3, cap3, rfl⟩ := ownG_len hown3
          have HV3 := Lib.hid hown3
          have HB3 := Lib.hid (HB0.out.trans_below hbel3)
          clear hown3 hbel3 HV
          go_wp2_with (fail)
          go_roundw
          case rel => exact ⟨acc ++ [v], ⟨rest.toArray⟩, by simp; omega, rfl, by show rest.toArray.size ≤ _; rw [List.size_toArray, hsl]; omega, by simpa using HV3.out, HX.out, HB3.out⟩
          case measure => simp [sliceLen]; omega

end Go.Proofs.YtbalkchphijehaaDoor
