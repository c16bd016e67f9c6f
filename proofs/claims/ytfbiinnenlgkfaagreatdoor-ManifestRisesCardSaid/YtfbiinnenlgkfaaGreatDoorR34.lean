/- NBld, laid together. -/
import Derived.Test.YtfbiinnenlgkfaaGreatDoorR13
import Derived.Test.YtfbiinnenlgkfaaGreatDoorR23
import Derived.Lib.Builder
import Derived.Lib.AppendStr
import Derived.Lib.Hide
import Derived.Shelf.Strings.Builder1
set_option linter.unusedSimpArgs false
set_option linter.unusedVariables false
namespace Go.Proofs.YtfbiinnenlgkfaaGreatDoor
open Go.RowKit

def BldW (b : Nat) (l : List UInt8) (w : World) : Prop := Lib.IsBuilder 141 5 b b (Lib.byteCells l) w
theorem bldAt_bel {b : Nat} {p : Value} {bs : List Value} {w x : World} (h : Lib.BuilderAt 141 5 b b p bs w) (hb : Bel w x) : Lib.BuilderAt 141 5 b b p bs x := by
 have hlt := h.lt
 obtain ⟨hB, v, hbk, hown, hne⟩ := h
 refine ⟨hB, v, (Below.block hb b hlt).trans hbk, ?_, hne⟩
 obtain ⟨h1, h2⟩ := hown
 refine ⟨h1, ?_⟩
 rcases h2 with h2 | ⟨g, cap, cur, hv, hg, hh, r⟩
 ·exact Or.inl h2
 ·refine Or.inr ⟨g, cap, cur, hv, hg, ?_, r⟩
  have hl : g < w.heap.size := by
   rcases Nat.lt_or_ge g w.heap.size with h | h
   ·exact h
   ·rw [Array.getElem?_eq_none h] at hh; cases hh
  rw [Below.block hb g hl]; exact hh
theorem BldW.bel {b : Nat} {l : List UInt8} {w x : World} (h : BldW b l w) (hb : Bel w x) : BldW b l x := h.elim (fun h => Or.inl (bldAt_bel h hb)) (fun h => Or.inr (bldAt_bel h hb))
theorem BldW.new (w : World) : BldW w.heap.size [] (w.alloc (.cells #[.pointer none, .slice none 0 0] 141)) :=
 Or.inl ⟨Nat.le_refl _, .slice none 0 0, heap_alloc_new w _, World.ownsRow_nil _ _ _ _, by simp [Value.ownBlock]⟩
theorem BldW.lt {b : Nat} {l : List UInt8} {w : World} (h : BldW b l w) : b < w.heap.size := h.elim (fun h => h.lt) (fun h => h.lt)

theorem bsize : (Tryz.prog.info? 141).map (·.size) = some 2 := by kernel_rfl
theorem blies : liesAt Tryz.prog Tryz.prog.depth 141 (2 / Tryz.prog.cellsOf 141) 0 141 1 = true := by kernel_rfl

set_option maxHeartbeats 1000000 in
set_option maxRecDepth 100000 in
theorem check_used (b : Nat) (w : World) (h0 : w.cell? ⟨b, 0, none⟩ = some (.pointer (some ⟨b, 0, none⟩))) :
  Calls Tryz.prog 105 #[.pointer (some ⟨b, 0, none⟩)] w fun e w' => e = .returned (.tuple #[]) ∧ w' = w := by
 obtain ⟨j, hj, _⟩ := Option.map_eq_some_iff.1 bsize
 go_enter Tryz.func105, Tryz.ntmps105
 go_wp2
 rw [Lib.run_neq_ptr_same w _ Tryz.underlying139 hj]
 go_wp2
 go_end0
 exact ⟨rfl, rfl⟩

set_option maxHeartbeats 1000000 in
set_option maxRecDepth 100000 in
theorem check_fresh (b : Nat) (w : World) (h0 : w.cell? ⟨b, 0, none⟩ = some (.pointer none)) (hsh : w.shape? b = some (141, 2)) (hfz : w.frozen? ⟨b, 0, none⟩ = false) :
  Calls Tryz.prog 105 #[.pointer (some ⟨b, 0, none⟩)] w fun e w' => e = .returned (.tuple #[]) ∧ w' = w.setCell ⟨b, 0, none⟩ (.pointer (some ⟨b, 0, none⟩)) := by
 obtain ⟨j, hj, hjs⟩ := Option.map_eq_some_iff.1 bsize
 go_enter Tryz.func105, Tryz.ntmps105
 go_wp2
 rw [Lib.run_to_unsafe w ⟨b, 0, none⟩ Tryz.underlying139 Tryz.underlying193 hj (by rw [hjs]; decide) hsh (Nat.zero_lt_succ 1)]
 simp only [Result.andThen]
 rw [Oper.upon_value]
 go_wp2
 rw [run_callFunc_extern Tryz.func131 (by kernel_rfl) (by kernel_rfl) (by kernel_rfl) (e := Extern.AbiNoEscape.same) (by kernel_rfl), Lib.run_noEscape]
 simp only [Result.andThen]
 rw [Oper.upon_value]
 go_wp2
 rw [Lib.run_from_unsafe w ⟨b, 0, none⟩ Tryz.underlying193 Tryz.underlying139 hj hsh blies]
 simp only [Result.andThen]
 rw [Oper.upon_value]
 go_wp2
 go_end0
 exact ⟨rfl, rfl⟩

theorem check_any (b : Nat) (bs : List Value) (w : World) (h : Lib.IsBuilder 141 5 b b bs w) :
  Calls Tryz.prog 105 #[.pointer (some ⟨b, 0, none⟩)] w fun e w' => e = .returned (.tuple #[]) ∧ Lib.BuilderAt 141 5 b b (.pointer (some ⟨b, 0, none⟩)) bs w' ∧ Below b w w' := by
 rcases h with h | h
 ·refine (check_fresh b w h.cell0 h.shape h.frozen0).mono ?_
  rintro e w' ⟨rfl, rfl⟩
  exact ⟨rfl, h.used _, (Below.refl b w).setCell (p := ⟨b, 0, none⟩) (Nat.le_refl _) _⟩
 ·refine (check_used b w h.cell0).mono ?_
  rintro e w' ⟨rfl, rfl⟩
  exact ⟨rfl, h, Below.refl b _⟩

theorem strCells_eq (s : ByteArray) : Lib.strCells s = Lib.byteCells s.data.toList := rfl

set_option maxHeartbeats 1000000 in
set_option maxRecDepth 100000 in
theorem bwrite13_any (b : Nat) (l : List UInt8) (s : ByteArray) (w : World) (h : BldW b l w) (hlen : l.length + s.size ≤ 140737488355328) :
  Calls Tryz.prog 69 #[.pointer (some ⟨b, 0, none⟩), .string s] w fun e w' => e = .returned (.tuple #[.int .i64 s.size, .nilIface]) ∧ BldW b (l ++ s.data.toList) w' ∧ Below b w w' := by
 obtain ⟨i0, hi, hz0, hz1, hz2⟩ := info_parts infoByte
 have hbw := h.lt
 go_enter Tryz.func69, Tryz.ntmps69
 go_wp2_with (fail)
 refine (check_any b _ _ h).mono ?_
 rintro e w1 ⟨rfl, h1, hb1⟩
 have hz1s := hb1.size
 have hlt := h1.lt
 obtain ⟨_, v, hbk, hown, hne⟩ := h1
 have c0 : w1.cell? ⟨b, 0, none⟩ = some (.pointer (some ⟨b, 0, none⟩)) := by simp [World.cell?, hbk]
 have c1 : w1.cell? ⟨b, 1, none⟩ = some v := by simp [World.cell?, hbk]
 have HK := Lib.hid hbk
 have HO := Lib.hid hown
 have HN := Lib.hid hne
 have HB1 := Lib.hid hb1
 clear hbk hown hne hb1
 go_wp2_with (at_builtin; refine stop_here ?_)
 refine go_on ?_
 refine Lib.wpList_append_own_string _ rfl _ _ 114 9 rfl b 5 i0 Tryz.underlying114 Tryz.underlying9 hi hz0 hz1 hz2 _ _ _ rfl HO.out s rfl ?_ ?_ ?_ ?_
 ·rw [Lib.byteCells_length]; unfold maxLen; omega
 ·rw [Lib.byteCells_length]; omega
 ·omega
 intro v' w2 hown' hgrow _
 have hb2 : w2.heap[b]? = some (.cells #[.pointer (some ⟨b, 0, none⟩), v] 141 (0, 0)) := by
  rw [hgrow.block b hlt (fun e => HN.out e.symm)]
  exact HK.out
 have d0 : w2.cell? ⟨b, 0, none⟩ = some (.pointer (some ⟨b, 0, none⟩)) := by simp [World.cell?, hb2]
 have d1 : w2.cell? ⟨b, 1, none⟩ = some v := by simp [World.cell?, hb2]
 have f1 : w2.frozen? ⟨b, 1, none⟩ = false := by simp [World.frozen?, hb2]
 obtain ⟨ao, n', cap, rfl⟩ : ∃ ao n' cap, v' = .slice ao n' cap := by
  rcases hown'.2 with ⟨hv, _⟩ | ⟨g, cap, cur, hv, _⟩
  ·exact ⟨_, _, _, hv⟩
  ·exact ⟨_, _, _, hv⟩
 have HB2 := Lib.hid (HB1.out.grown hgrow (by omega) (fun k hk => (HO.out.lt k hk).1))
 have HO2 := Lib.hid hown'
 have HK2 := Lib.hid hb2
 clear hown' hgrow hb2
 go_wp2
 go_ret2
 refine ⟨rfl, ?_, HB2.out.setCell (p := ⟨b, 1, none⟩) (Nat.le_refl _) _⟩
 refine Or.inr (Lib.BuilderAt.put (bs' := Lib.byteCells (l ++ s.data.toList)) (Nat.le_refl _) HK2.out ?_ (by decide))
 have e : (Lib.byteCells (l ++ s.data.toList)).length = (Lib.byteCells l).length + s.size := by simp [Lib.byteCells]
 rw [e, Lib.byteCells_append, ← strCells_eq]
 exact HO2.out

theorem bextra /- 141 -/ : Builder.Extra Tryz.prog Tryz.lays169_ren := ⟨⟨by kernel_rfl, by kernel_rfl⟩, Tryz.underlying5, Tryz.isAgg5, Tryz.sizeOf5, Tryz.zeroValue5, infoByte, by kernel_rfl, by kernel_rfl, by decide⟩
theorem bstring_any (b : Nat) (l : List UInt8) (w : World) (h : BldW b l w) :
  Calls Tryz.prog 71 #[.pointer (some ⟨b, 0, none⟩)] w fun e w' => e = .returned (.string ⟨l.toArray⟩) ∧ Below b w w' :=
 Any.Builder_String_any Tryz.lays169 bextra b b l w h (Nat.le_of_lt h.lt)
end Go.Proofs.YtfbiinnenlgkfaaGreatDoor
