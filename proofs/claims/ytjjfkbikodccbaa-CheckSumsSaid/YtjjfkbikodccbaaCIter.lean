/- check.frames, an iterator, and what it tells: each frame in its order, or an error at last. -/
import Derived.RangeFuncNested
import Derived.RangeFuncBound
import Derived.RangeFuncCalls
import Derived.RangeFuncLeaves
import Derived.Shelf.Abstract
import Derived.Shelf.RegionOpen
import Derived.WalkKit
import Derived.OwnWalkIn
import Derived.TacticsInMore
import Derived.LoopNIn
import Derived.LoopIn
import Derived.Maps.AppendAt
import Derived.Test.YtjjfkbikodccbaaCSeq
set_option linter.unusedSimpArgs false
set_option linter.unusedVariables false
namespace Go.Proofs.Ytjjfkbikodccbaa
open Go.RowKit Go.Shelf

attribute [local go_sem] Oper.semAt_some

def encF (x : CF) : Array Value := #[.agg #[.string ⟨x.t.toArray⟩, .int .i64 (x.k : Nat)], .int .i64 x.e]
def ItRel (s : ByteArray) (J : List CF → World → Prop) (v : Value) (wr : World) : Prop :=
  ∃ (pre : List CF) (r : ByteArray), v = .string r ∧ r.size ≤ s.size ∧ seqL s.data.toList = pre ++ seqL r.data.toList ∧ J pre wr

def ItPost (L : List CF) (J Jx : List CF → World → Prop) (e : Ending) (W' : World) : Prop :=
  (∃ v, e = .returned v) ∧ ((∃ ys, ys = L ∧ J ys W') ∨ (∃ pre, pre <+: L ∧ Jx pre W'))

set_option maxRecDepth 100000 in
set_option maxHeartbeats 4000000 in
theorem frames1_in (n : Nat) (hn : 1 ≤ n) (l Bn n₀ : Nat) (s : ByteArray) (hs : s.size ≤ 1000000) (J Jx : List CF → World → Prop)
    (hJ : ∀ pre W W', J pre W → Bel W W' → J pre W')
    (hY : ∀ pre x W, J pre W → pre.length < (seqL s.data.toList).length → YieldAt Fence.wide (n - 1) Try.prog l (encF x) W fun e W' =>
      (e = .returned (.bool true) ∧ J (pre ++ [x]) W' ∧ Below n₀ W W') ∨ (e = .returned (.bool false) ∧ Jx (pre ++ [x]) W'))
    (W : World) (hBn : W.cell? ⟨Bn, 0, none⟩ = some (.string s)) (h0 : J [] W) :
    CallsIn Fence.wide n Try.prog 36 #[.func (.yield l) #[] #[], .pointer (some ⟨Bn, 0, none⟩)] W (ItPost (seqL s.data.toList) J Jx) := by
  have HJ := Lib.hid hJ; clear hJ
  have HY := Lib.hid hY; clear hY
  refine callsIn_of_wp Try.func36 rfl trivial ?_ rfl
  simp only [Try.ntmps36, List.size_toArray, List.length_cons, List.length_nil, Nat.reduceAdd, Nat.reduceSub, Array.replicate_succ, Array.replicate_zero, List.push_toArray, List.append_toArray, List.nil_append, List.cons_append]
  gi_wp2
  gi_loopw [3] (fun v wr => ItRel s J v wr) (fun v _ => strLen v)
  case atStart => exact ⟨[], s, rfl, Nat.le_refl _, rfl, h0⟩
  case round =>
    obtain ⟨pre, r, rfl, hrs, hx, hj⟩ := hrel
    have HX := Lib.hid hx; clear hx
    have HK := Lib.hid hj; clear hj
    by_cases hr0 : r.size = 0
    · obtain rfl : r = ⟨#[]⟩ := by apply ByteArray.ext; exact Array.eq_empty_of_size_eq_zero hr0
      have hX := HX.out
      have e0 : (⟨#[]⟩ : ByteArray).data.toList = [] := rfl
      rw [e0, seq_nil, List.append_nil] at hX
      have HX2 := Lib.hid hX; clear hX
      gi_wp2
      go_end0
      exact ⟨⟨_, rfl⟩, .inl ⟨pre, HX2.out.symm, HK.out⟩⟩
    · have hnl := ne_nil r hr0
      have hne : r.toList.isEmpty = false := by rw [ByteArray.toList_eq]; cases h : r.data.toList with | nil => exact absurd h hnl | cons a l => rfl
      obtain ⟨t, rest, e, hT⟩ : ∃ t rest e, unframeL r.data.toList = (t, rest, e) := ⟨_, _, _, rfl⟩
      have hrl : r.data.toList.length = r.size := rfl
      have HT := Lib.hid (show unV r.data.toList = .tuple #[.string ⟨t.toArray⟩, .string ⟨rest.toArray⟩, .int .i64 e] by rw [unV, hT])
      gi_wp2
      refine ⟨trivial, ?_⟩
      refine (callsIn_wide.2 (unframe_any r _ (by omega))).mono ?_
      rintro e1 w1 ⟨rfl, hb⟩
      rw [HT.out]
      replace HK := Lib.hid (HJ.out _ _ _ HK.out hb); clear hb
      by_cases he : e = 0
      · subst he
        have hlt := unframe_rest hT
        have hX := HX.out
        rw [seq_next hT, hrl] at hX
        have HX2 := Lib.hid hX; clear hX
        have hsub : ((r.size - rest.length : Nat) : Int) = (r.size : Int) - (rest.length : Int) := by omega
        obtain ⟨fn, tmps, assign, body, hy, hR⟩ := HY.out pre ⟨t, r.size - rest.length, 0⟩ w1 HK.out (by rw [HX2.out]; simp)
        rw [encF] at hy
        dsimp only at hy
        rw [hsub] at hy
        clear hT hnl hsub
        have HSZ := Lib.hid (show (⟨rest.toArray⟩ : ByteArray).size = rest.length from by show rest.toArray.size = _; simp)
        gi_wp2
        refine hR.mono ?_
        rintro e3 W3 (⟨rfl, hJ3, hk3⟩ | ⟨rfl, hJx3⟩)
        · gi_wp2
          go_roundw
          case rel => exact ⟨pre ++ [⟨t, r.size - rest.length, 0⟩], ⟨rest.toArray⟩, rfl, by rw [HSZ.out]; omega, by rw [HX2.out]; simp, hJ3⟩
          case measure => simp [strLen]; rw [HSZ.out]; omega
        · gi_wp2
          refine bodyPost_ret (results_none rfl _ _ _) rfl ?_
          exact ⟨⟨_, rfl⟩, .inr ⟨pre ++ [⟨t, r.size - rest.length, 0⟩], ⟨seqL rest, by rw [HX2.out]; simp⟩, hJx3⟩⟩
      · have hX := HX.out
        rw [seq_end hnl hT he] at hX
        have HX2 := Lib.hid hX; clear hX
        have he2 : (e == 0) = false := by rw [beq_eq_false_iff_ne]; exact he
        obtain ⟨fn, tmps, assign, body, hy, hR⟩ := HY.out pre ⟨[], 0, e⟩ w1 HK.out (by rw [HX2.out]; simp)
        rw [encF] at hy
        change Sem.run Try.prog (Instr.yield l #[Value.agg #[.string ⟨#[]⟩, .int .i64 0], .int .i64 e]) w1 = _ at hy
        clear hT hnl
        gi_wp2
        refine hR.mono ?_
        rintro e3 W3 (⟨rfl, hJ3, hk3⟩ | ⟨rfl, hJx3⟩)
        · gi_wp2
          refine bodyPost_ret (results_none rfl _ _ _) rfl ?_
          exact ⟨⟨_, rfl⟩, .inl ⟨_, HX2.out.symm, hJ3⟩⟩
        · gi_wp2
          refine bodyPost_ret (results_none rfl _ _ _) rfl ?_
          exact ⟨⟨_, rfl⟩, .inr ⟨_, ⟨[], by rw [HX2.out]; simp⟩, hJx3⟩⟩

set_option maxHeartbeats 1000000 in
theorem frames_in (n : Nat) (s : ByteArray) (w : World) :
    CallsIn Fence.wide n Try.prog 28 #[.string s] w fun e w' => e = .returned (.func (.func 36) #[] #[.pointer (some ⟨w.heap.size, 0, none⟩)]) ∧ w' = w.alloc (.cells #[.string s] 9) := by
  refine callsIn_of_wp Try.func28 rfl trivial ?_ rfl
  simp only [Try.ntmps28, List.size_toArray, List.length_cons, List.length_nil, Nat.reduceAdd, Nat.reduceSub, Array.replicate_succ, Array.replicate_zero, List.push_toArray, List.append_toArray, List.nil_append, List.cons_append]
  gi_wp2
  go_ret
  exact ⟨rfl, rfl⟩

theorem grown_of_bel {W W' : World} (h : Bel W W') : W.grownBy W' none := ⟨h.os, h.tape, h.output, h.size, fun k hk _ => h.block k hk⟩
/-- frames(s) hands back a value that tells just what there is, or a beginning of it, where a round has said 'no more'. -/
theorem frames_stops (n : Nat) (hn : 1 ≤ n) (Bn n₀ : Nat) (s : ByteArray) (hs : s.size ≤ 1000000) (w : World) (hBn : Bn < w.heap.size) (hc : w.cell? ⟨Bn, 0, none⟩ = some (.string s)) :
    SeqStopsK Fence.wide n Try.prog 36 #[.pointer (some ⟨Bn, 0, none⟩)] encF (Below n₀) (fun ys => ys = seqL s.data.toList) (fun pre => pre <+: seqL s.data.toList) (seqL s.data.toList).length w := fun l J Jx W hW hJ _ hY h0 =>
  frames1_in n hn l Bn n₀ s hs J Jx (fun pre A B h hb => hJ pre A B none h (grown_of_bel hb) (fun r e => by cases e)) hY W ((hW.cell (p := ⟨Bn, 0, none⟩) hBn).trans hc) h0
end Go.Proofs.Ytjjfkbikodccbaa
