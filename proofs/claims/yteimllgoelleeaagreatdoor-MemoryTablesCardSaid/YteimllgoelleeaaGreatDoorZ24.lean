/- CIter, CScan, laid together. -/
import Derived.RangeFuncNested
import Derived.RangeFuncBound
import Derived.RangeFuncCalls
import Derived.RangeFuncLeaves
import Derived.Shelf.Abstract
import Derived.Shelf.RegionOpen
import Derived.WalkKit
import Derived.OwnWalkIn
import Derived.TacticsInMore
import Derived.LoopNIn
import Derived.LoopIn
import Derived.Maps.AppendAt
import Derived.Test.YteimllgoelleeaaGreatDoorZ8
set_option linter.unusedSimpArgs false
set_option linter.unusedVariables false
/- check.frames, an iterator, and what it tells: each frame in its order, or an error at last. -/
namespace Go.Proofs.YteimllgoelleeaaGreatDoor
open Go.RowKit Go.Shelf

attribute [local go_sem] Oper.semAt_some

def encF (x : CF) : Array Value := #[.agg #[.string ⟨x.t.toArray⟩, .int .i64 (x.k : Nat)], .int .i64 x.e]
def ItRel (s : ByteArray) (J : List CF → World → Prop) (v : Value) (wr : World) : Prop :=
  ∃ (pre : List CF) (r : ByteArray), v = .string r ∧ r.size ≤ s.size ∧ seqL s.data.toList = pre ++ seqL r.data.toList ∧ J pre wr

def ItPost (L : List CF) (J Jx : List CF → World → Prop) (e : Ending) (W' : World) : Prop :=
  (∃ v, e = .returned v) ∧ ((∃ ys, ys = L ∧ J ys W') ∨ (∃ pre, pre <+: L ∧ Jx pre W'))

set_option maxRecDepth 100000 in
set_option maxHeartbeats 4000000 in
theorem frames1_in (n : Nat) (hn : 1 ≤ n) (l Bn n₀ : Nat) (s : ByteArray) (hs : s.size ≤ 1000000) (J Jx : List CF → World → Prop)
    (hJ : ∀ pre W W', J pre W → Bel W W' → J pre W')
    (hY : ∀ pre x W, J pre W → pre.length < (seqL s.data.toList).length → YieldAt Fence.wide (n - 1) Tryz.prog l (encF x) W fun e W' =>
      (e = .returned (.bool true) ∧ J (pre ++ [x]) W' ∧ Below n₀ W W') ∨ (e = .returned (.bool false) ∧ Jx (pre ++ [x]) W'))
    (W : World) (hBn : W.cell? ⟨Bn, 0, none⟩ = some (.string s)) (h0 : J [] W) :
    CallsIn Fence.wide n Tryz.prog 86 #[.func (.yield l) #[] #[], .pointer (some ⟨Bn, 0, none⟩)] W (ItPost (seqL s.data.toList) J Jx) := by
  have HJ := Lib.hid hJ; clear hJ
  have HY := Lib.hid hY; clear hY
  refine callsIn_of_wp Tryz.func86 rfl trivial ?_ rfl
  simp only [Tryz.ntmps86, List.size_toArray, List.length_cons, List.length_nil, Nat.reduceAdd, Nat.reduceSub, Array.replicate_succ, Array.replicate_zero, List.push_toArray, List.append_toArray, List.nil_append, List.cons_append]
  gi_wp2
  gi_loopw [3] (fun v wr => ItRel s J v wr) (fun v _ => strLen v)
  case atStart => exact ⟨[], s, rfl, Nat.le_refl _, rfl, h0⟩
  case round =>
    obtain ⟨pre, r, rfl, hrs, hx, hj⟩ := hrel
    have HX := Lib.hid hx; clear hx
    have HK := Lib.hid hj; clear hj
    by_cases hr0 : r.size = 0
    · obtain rfl : r = ⟨#[]⟩ := by apply ByteArray.ext; exact Array.eq_empty_of_size_eq_zero hr0
      have hX := HX.out
      have e0 : (⟨#[]⟩ : ByteArray).data.toList = [] := rfl
      rw [e0, seq_nil, List.append_nil] at hX
      have HX2 := Lib.hid hX; clear hX
      gi_wp2
      go_end0
      exact ⟨⟨_, rfl⟩, .inl ⟨pre, HX2.out.symm, HK.out⟩⟩
    · have hnl := ne_nil r hr0
      have hne : r.toList.isEmpty = false := by rw [ByteArray.toList_eq]; cases h : r.data.toList with | nil => exact absurd h hnl | cons a l => rfl
      obtain ⟨t, rest, e, hT⟩ : ∃ t rest e, unframeL r.data.toList = (t, rest, e) := ⟨_, _, _, rfl⟩
      have hrl : r.data.toList.length = r.size := rfl
      have HT := Lib.hid (show unV r.data.toList = .tuple #[.string ⟨t.toArray⟩, .string ⟨rest.toArray⟩, .int .i64 e] by rw [unV, hT])
      gi_wp2
      refine ⟨trivial, ?_⟩
      refine (callsIn_wide.2 (unframe_any r _ (by omega))).mono ?_
      rintro e1 w1 ⟨rfl, hb⟩
      rw [HT.out]
      replace HK := Lib.hid (HJ.out _ _ _ HK.out hb); clear hb
      by_cases he : e = 0
      · subst he
        have hlt := unframe_rest hT
        have hX := HX.out
        rw [seq_next hT, hrl] at hX
        have HX2 := Lib.hid hX; clear hX
        have hsub : ((r.size - rest.length : Nat) : Int) = (r.size : Int) - (rest.length : Int) := by omega
        obtain ⟨fn, tmps, assign, body, hy, hR⟩ := HY.out pre ⟨t, r.size - rest.length, 0⟩ w1 HK.out (by rw [HX2.out]; simp)
        rw [encF] at hy
        dsimp only at hy
        rw [hsub] at hy
        clear hT hnl hsub
        have HSZ := Lib.hid (show (⟨rest.toArray⟩ : ByteArray).size = rest.length from by show rest.toArray.size = _; simp)
        gi_wp2
        refine hR.mono ?_
        rintro e3 W3 (⟨rfl, hJ3, hk3⟩ | ⟨rfl, hJx3⟩)
        · gi_wp2
          go_roundw
          case rel => exact ⟨pre ++ [⟨t, r.size - rest.length, 0⟩], ⟨rest.toArray⟩, rfl, by rw [HSZ.out]; omega, by rw [HX2.out]; simp, hJ3⟩
          case measure => simp [strLen]; rw [HSZ.out]; omega
        · gi_wp2
          refine bodyPost_ret (results_none rfl _ _ _) rfl ?_
          exact ⟨⟨_, rfl⟩, .inr ⟨pre ++ [⟨t, r.size - rest.length, 0⟩], ⟨seqL rest, by rw [HX2.out]; simp⟩, hJx3⟩⟩
      · have hX := HX.out
        rw [seq_end hnl hT he] at hX
        have HX2 := Lib.hid hX; clear hX
        have he2 : (e == 0) = false := by rw [beq_eq_false_iff_ne]; exact he
        obtain ⟨fn, tmps, assign, body, hy, hR⟩ := HY.out pre ⟨[], 0, e⟩ w1 HK.out (by rw [HX2.out]; simp)
        rw [encF] at hy
        change Sem.run Tryz.prog (Instr.yield l #[Value.agg #[.string ⟨#[]⟩, .int .i64 0], .int .i64 e]) w1 = _ at hy
        clear hT hnl
        gi_wp2
        refine hR.mono ?_
        rintro e3 W3 (⟨rfl, hJ3, hk3⟩ | ⟨rfl, hJx3⟩)
        · gi_wp2
          refine bodyPost_ret (results_none rfl _ _ _) rfl ?_
          exact ⟨⟨_, rfl⟩, .inl ⟨_, HX2.out.symm, hJ3⟩⟩
        · gi_wp2
          refine bodyPost_ret (results_none rfl _ _ _) rfl ?_
          exact ⟨⟨_, rfl⟩, .inr ⟨_, ⟨[], by rw [HX2.out]; simp⟩, hJx3⟩⟩

set_option maxHeartbeats 1000000 in
theorem frames_in (n : Nat) (s : ByteArray) (w : World) :
    CallsIn Fence.wide n Tryz.prog 60 #[.string s] w fun e w' => e = .returned (.func (.func 86) #[] #[.pointer (some ⟨w.heap.size, 0, none⟩)]) ∧ w' = w.alloc (.cells #[.string s] 9) := by
  refine callsIn_of_wp Tryz.func60 rfl trivial ?_ rfl
  simp only [Tryz.ntmps60, List.size_toArray, List.length_cons, List.length_nil, Nat.reduceAdd, Nat.reduceSub, Array.replicate_succ, Array.replicate_zero, List.push_toArray, List.append_toArray, List.nil_append, List.cons_append]
  gi_wp2
  go_ret
  exact ⟨rfl, rfl⟩

theorem grown_of_bel {W W' : World} (h : Bel W W') : W.grownBy W' none := ⟨h.os, h.tape, h.output, h.size, fun k hk _ => h.block k hk⟩
theorem frames_stops (n : Nat) (hn : 1 ≤ n) (Bn n₀ : Nat) (s : ByteArray) (hs : s.size ≤ 1000000) (w : World) (hBn : Bn < w.heap.size) (hc : w.cell? ⟨Bn, 0, none⟩ = some (.string s)) :
    SeqStopsK Fence.wide n Tryz.prog 86 #[.pointer (some ⟨Bn, 0, none⟩)] encF (Below n₀) (fun ys => ys = seqL s.data.toList) (fun pre => pre <+: seqL s.data.toList) (seqL s.data.toList).length w := fun l J Jx W hW hJ _ hY h0 =>
  frames1_in n hn l Bn n₀ s hs J Jx (fun pre A B h hb => hJ pre A B none h (grown_of_bel hb) (fun r e => by cases e)) hY W ((hW.cell (p := ⟨Bn, 0, none⟩) hBn).trans hc) h0
end Go.Proofs.YteimllgoelleeaaGreatDoor
/- check.Scan: the frames one behind the other, by a range over a function. -/
namespace Go.Proofs.YteimllgoelleeaaGreatDoor
open Go.RowKit Go.Shelf

attribute [local go_sem] Oper.semAt_some

def Boxed2 (W : World) (B : Nat) (t : TypeId) (u v : Value) : Prop := W.heap[B]? = some (.cells #[u, v] t (0, 0))
theorem Boxed2.lt {W : World} {B : Nat} {t : TypeId} {u v : Value} (h : Boxed2 W B t u v) : B < W.heap.size := (Array.getElem?_eq_some_iff.1 h).1
theorem Boxed2.cell0 {W : World} {B : Nat} {t : TypeId} {u v : Value} (h : Boxed2 W B t u v) : W.cell? ⟨B, 0, none⟩ = some u := by simp [World.cell?, show W.heap[B]? = _ from h]
theorem Boxed2.cell1 {W : World} {B : Nat} {t : TypeId} {u v : Value} (h : Boxed2 W B t u v) : W.cell? ⟨B, 1, none⟩ = some v := by simp [World.cell?, show W.heap[B]? = _ from h]
theorem Boxed2.new (W : World) (t : TypeId) (u v : Value) : Boxed2 (W.alloc (.cells #[u, v] t)) W.heap.size t u v := World.alloc_heap_new W _
theorem Boxed2.kept {W W' : World} {row : Option Nat} {B : Nat} {t : TypeId} {u v : Value} (h : Boxed2 W B t u v) (hg : W.grownBy W' row) (hne : some B ≠ row) : Boxed2 W' B t u v := (hg.block B h.lt hne).trans h
theorem Boxed2.alloc {W : World} {B : Nat} {t : TypeId} {u v : Value} (h : Boxed2 W B t u v) (o : Obj) : Boxed2 (W.alloc o) B t u v := h.kept (World.grownBy_alloc W o none) (by simp)
theorem Boxed2.not_row {W : World} {B : Nat} {t e : TypeId} {a b : Value} (h : Boxed2 W B t a b) (hte : t ≠ e) {base size k : Nat} {v : Value} {xs : List Value} (hr : W.ownsRow base e size v k xs) : some B ≠ v.ownBlock := by
  rcases hr.2 with ⟨rfl, _⟩ | ⟨g, cap, cur, rfl, _, hgb, _⟩
  · simp [Value.ownBlock]
  · intro e'
    obtain rfl : B = g := by simpa [Value.ownBlock] using e'
    have := (show W.heap[B]? = _ from h).symm.trans hgb
    simp at this
    exact hte this.2
theorem boxed2_own {β : Type} (B : Nat) (t : TypeId) (f g : β → Value) : Go.Own (fun s W => Boxed2 W B t (f s) (g s)) := fun s X Y row hs hg hrow =>
  hs.kept hg (fun e' => by obtain ⟨o, ho, hc⟩ := hrow B e'.symm; rw [show X.heap[B]? = _ from hs] at ho; cases ho; cases hc)

def RowAt (n₀ B : Nat) (L : List (List UInt8)) (W : World) : Prop := ∃ v, Boxed W B 60 v ∧ W.ownsRow n₀ 9 1 v L.length (strEl.all L) ∧ True
theorem rowAt_own (n₀ B : Nat) (L : List (List UInt8)) : Go.Own (fun (_ : Unit) W => RowAt n₀ B L W) := fun s X Y row hs hg hr =>
  holdsRow_own n₀ B 60 9 1 (fun (_ : Unit) => L.length) (fun _ => strEl.all L) (fun _ _ => True) s X Y row hs hg hr
def ScI (n₀ b1 b2 b3 b4 : Nat) (pre : List CF) (W : World) : Prop :=
  RowAt n₀ b3 (payl pre) W ∧ Boxed W b4 3 (.int .i64 (wrap64 ((sizes pre : Nat) : Int))) ∧ Boxed W n₀ 60 (.slice none 0 0) ∧ Boxed W b1 3 (.int .i64 0) ∧ Boxed W b2 27 (.int .i64 0) ∧ fine pre
theorem scI_own (n₀ b1 b2 b3 b4 : Nat) : Go.Own (ScI n₀ b1 b2 b3 b4) := fun s X Y row ⟨h1, h2, h3, h4, h5, h6⟩ hg hr =>
  ⟨rowAt_own n₀ b3 (payl s) () X Y row h1 hg hr, boxed_own b4 _ (fun (_ : Unit) => Value.int .i64 (wrap64 ((sizes s : Nat) : Int))) () X Y row h2 hg hr, boxed_own n₀ _ (fun (_ : Unit) => Value.slice none 0 0) () X Y row h3 hg hr,
    boxed_own b1 _ (fun (_ : Unit) => Value.int .i64 0) () X Y row h4 hg hr, boxed_own b2 _ (fun (_ : Unit) => Value.int .i64 0) () X Y row h5 hg hr, h6⟩
def ScX (n₀ b1 b2 : Nat) (c : Code) (pre : List CF) (W : World) : Prop :=
  c = .ret ∧ ∃ p x, pre = p ++ [x] ∧ fine p ∧ x.e ≠ 0 ∧ RowAt n₀ n₀ (payl p) W ∧ Boxed W b1 3 (.int .i64 (wrap64 ((sizes p : Nat) : Int))) ∧ Boxed W b2 27 (.int .i64 x.e)
theorem scX_own (n₀ b1 b2 : Nat) (c : Code) : Go.Own (ScX n₀ b1 b2 c) := fun s X Y row ⟨h0, p, x, h1, h2, h3, h4, h5, h6⟩ hg hr =>
  ⟨h0, p, x, h1, h2, h3, rowAt_own n₀ n₀ (payl p) () X Y row h4 hg hr, boxed_own b1 _ (fun (_ : Unit) => Value.int .i64 (wrap64 ((sizes p : Nat) : Int))) () X Y row h5 hg hr, boxed_own b2 _ (fun (_ : Unit) => Value.int .i64 x.e) () X Y row h6 hg hr⟩
theorem RowAt.alloc {n₀ B : Nat} {L : List (List UInt8)} {W : World} (h : RowAt n₀ B L W) (o : Obj) : RowAt n₀ B L (W.alloc o) := by
  obtain ⟨v, h1, h2, _⟩ := h; exact ⟨v, h1.alloc o, World.ownsRow.alloc h2 o, trivial⟩
theorem set3 {W : World} {n₀ b1 b2 : Nat} {u0 u1 u2 v : Value} {L : List (List UInt8)} (h0 : Boxed W n₀ 60 u0) (h1 : Boxed W b1 3 u1) (h2 : Boxed W b2 27 u2)
    (hrow : W.ownsRow n₀ 9 1 v L.length (strEl.all L)) (q1 : n₀ < b1) (q2 : b1 < b2) (x e : Value) :
    RowAt n₀ n₀ L (((W.setCell ⟨n₀, 0, none⟩ v).setCell ⟨b1, 0, none⟩ x).setCell ⟨b2, 0, none⟩ e) ∧ Boxed (((W.setCell ⟨n₀, 0, none⟩ v).setCell ⟨b1, 0, none⟩ x).setCell ⟨b2, 0, none⟩ e) b1 3 x ∧
      Boxed (((W.setCell ⟨n₀, 0, none⟩ v).setCell ⟨b1, 0, none⟩ x).setCell ⟨b2, 0, none⟩ e) b2 27 e ∧
      KeepsOthers W (((W.setCell ⟨n₀, 0, none⟩ v).setCell ⟨b1, 0, none⟩ x).setCell ⟨b2, 0, none⟩ e) ∧ Below n₀ W (((W.setCell ⟨n₀, 0, none⟩ v).setCell ⟨b1, 0, none⟩ x).setCell ⟨b2, 0, none⟩ e) :=
  ⟨⟨v, ((h0.set v).other (by omega) x).other (by omega) e,
    ((hrow.kept (grownBy_setCell' W n₀ v) (.inr (h0.not_row (by decide) hrow).symm)).kept (grownBy_setCell' _ b1 x) (.inr (h1.not_row (by decide) hrow).symm)).kept (grownBy_setCell' _ b2 e) (.inr (h2.not_row (by decide) hrow).symm), trivial⟩,
   ((h1.other (by omega) v).set x).other (by omega) e, ((h2.other (by omega) v).other (by omega) x).set e,
   ((KeepsOthers.setCell _ _ _).trans (KeepsOthers.setCell _ _ _)).trans (KeepsOthers.setCell _ _ _),
   (((Below.refl n₀ W).setCell (p := ⟨n₀, 0, none⟩) (Nat.le_refl _) _).setCell (p := ⟨b1, 0, none⟩) (by show n₀ ≤ b1; omega) _).setCell (p := ⟨b2, 0, none⟩) (by show n₀ ≤ b2; omega) _⟩
theorem boxed_drew {W : World} {B : Nat} {t : TypeId} {v : Value} (h : Boxed W B t v) : Boxed W.drew B t v := h
theorem row_drew {W : World} {n₀ T k : Nat} {v : Value} {n : Nat} {xs : List Value} (h : W.ownsRow n₀ T k v n xs) : W.drew.ownsRow n₀ T k v n xs := h
theorem wrap_sum (a b : Int) : wrap64 (wrap64 a + b) = wrap64 (a + b) := by
  unfold wrap64
  have e : ∀ x : Int, x % 18446744073709551616 - 9223372036854775808 + b + 9223372036854775808 = x % 18446744073709551616 + b := fun x => by omega
  rw [e, Int.emod_add_emod]
  have e2 : a + 9223372036854775808 + b = a + b + 9223372036854775808 := by omega
  rw [e2]
theorem infoStr : (Tryz.prog.info? 9).map (fun i => (i.zero, i.size, i.bytes)) = some (some (.string ⟨#[]⟩), 1, 16) := by kernel_rfl

set_option maxRecDepth 100000 in
set_option maxHeartbeats 4000000 in
theorem scan_any (s : ByteArray) (w : World) (hs : s.size ≤ 1000000) :
    Calls Tryz.prog 32 #[.string s] w (ScanPost s.data.toList w) := by
  refine (callsIn_wide (n := 9)).1 ?_
  refine callsIn_of_wp_marks Tryz.func32 rfl trivial ?_ rfl
  simp only [Tryz.ntmps32, List.size_toArray, List.length_cons, List.length_nil, Nat.reduceAdd, Nat.reduceSub, Array.replicate_succ, Array.replicate_zero, List.push_toArray, List.append_toArray, List.nil_append, List.cons_append]
  gi_wp2
  refine ⟨trivial, ?_⟩
  refine (frames_in _ s _).mono ?_
  rintro e1 w1 ⟨rfl, hw1⟩
  have x0 := (((((Boxed.new w 60 (.slice none 0 0)).alloc (.cells #[.int .i64 0] 3)).alloc (.cells #[.int .i64 0] 27)).alloc (.cells #[.slice none 0 0] 60)).alloc (.cells #[.int .i64 0] 3)).alloc (.cells #[.string s] 9)
  have x1 := ((((Boxed.new (w.alloc (.cells #[.slice none 0 0] 60)) 3 (.int .i64 0)).alloc (.cells #[.int .i64 0] 27)).alloc (.cells #[.slice none 0 0] 60)).alloc (.cells #[.int .i64 0] 3)).alloc (.cells #[.string s] 9)
  have x2 := (((Boxed.new ((w.alloc (.cells #[.slice none 0 0] 60)).alloc (.cells #[.int .i64 0] 3)) 27 (.int .i64 0)).alloc (.cells #[.slice none 0 0] 60)).alloc (.cells #[.int .i64 0] 3)).alloc (.cells #[.string s] 9)
  have x3 := ((Boxed.new (((w.alloc (.cells #[.slice none 0 0] 60)).alloc (.cells #[.int .i64 0] 3)).alloc (.cells #[.int .i64 0] 27)) 60 (.slice none 0 0)).alloc (.cells #[.int .i64 0] 3)).alloc (.cells #[.string s] 9)
  have x4 := (Boxed.new ((((w.alloc (.cells #[.slice none 0 0] 60)).alloc (.cells #[.int .i64 0] 3)).alloc (.cells #[.int .i64 0] 27)).alloc (.cells #[.slice none 0 0] 60)) 3 (.int .i64 0)).alloc (.cells #[.string s] 9)
  have x5 := Boxed.new (((((w.alloc (.cells #[.slice none 0 0] 60)).alloc (.cells #[.int .i64 0] 3)).alloc (.cells #[.int .i64 0] 27)).alloc (.cells #[.slice none 0 0] 60)).alloc (.cells #[.int .i64 0] 3)) 9 (.string s)
  rw [← hw1] at x0 x1 x2 x3 x4 x5
  have hB0 : Below w.heap.size w w1 := by
    rw [hw1]
    exact ((((((Below.refl _ w).alloc (Nat.le_refl _) _).alloc (by simp) _).alloc (by simp; omega) _).alloc (by simp; omega) _).alloc (by simp; omega) _).alloc (by simp; omega) _
  have hsz : w1.heap.size = w.heap.size + 1 + 1 + 1 + 1 + 1 + 1 := by rw [hw1]; simp
  clear hw1
  simp only [World.size_alloc] at x1 x2 x3 x4 x5 ⊢
  obtain ⟨b1, hb1⟩ : ∃ b, b = w.heap.size + 1 := ⟨_, rfl⟩
  rw [← hb1] at x1 x2 x3 x4 x5 hsz ⊢
  obtain ⟨b2, hb2⟩ : ∃ b, b = b1 + 1 := ⟨_, rfl⟩
  rw [← hb2] at x2 x3 x4 x5 hsz ⊢
  obtain ⟨b3, hb3⟩ : ∃ b, b = b2 + 1 := ⟨_, rfl⟩
  rw [← hb3] at x3 x4 x5 hsz ⊢
  obtain ⟨b4, hb4⟩ : ∃ b, b = b3 + 1 := ⟨_, rfl⟩
  rw [← hb4] at x4 x5 hsz ⊢
  obtain ⟨b5, hb5⟩ : ∃ b, b = b4 + 1 := ⟨_, rfl⟩
  rw [← hb5] at x5 hsz ⊢
  have q1 : w.heap.size < b1 := by omega
  have q2 : b1 < b2 := by omega
  have q3 : b2 < b3 := by omega
  have q4 : b3 < b4 := by omega
  have q5 : b4 < b5 := by omega
  have q6 : b5 < w1.heap.size := by omega
  have x4' : Boxed w1 b4 3 (.int .i64 (wrap64 ((sizes [] : Nat) : Int))) := by
    rw [show wrap64 ((sizes [] : Nat) : Int) = 0 by unfold wrap64 sizes; omega]; exact x4
  clear hb1 hb2 hb3 hb4 hb5 hsz
  gi_wp2
  refine wpIn_rangeFunc_ownH rfl (by omega) (gf := 86) (lb := #[.pointer (some ⟨b5, 0, none⟩)]) rfl trivial (enters_of Tryz.func86 (by kernel_rfl) rfl)
    (frames_stops (9 - 1) (by omega) b5 w.heap.size s hs w1 q6 x5.cell) belowK_t (belowK_b (by omega)) (Below.refl _ _) (fun _ => rfl)
    (fun pre W => ScI w.heap.size b1 b2 b3 b4 pre W ∧ Below w.heap.size w W)
    (fun c pre W => ScX w.heap.size b1 b2 c pre W ∧ Below w.heap.size w W)
    (OwnFrom.and (Own.from (scI_own _ _ _ _ _) _) (ownFrom_below (Nat.le_refl _) (by omega)))
    (fun c => OwnFrom.and (Own.from (scX_own _ _ _ c) _) (ownFrom_below (Nat.le_refl _) (by omega)))
    ⟨⟨⟨_, x3, World.ownsRow_nil _ _ _ _, trivial⟩, x4', x0, x1, x2, fun _ h => by simp at h⟩, hB0⟩
    (fun x a' W => ∃ Bx, b4 < Bx ∧ Boxed2 W Bx 133 (.string ⟨x.t.toArray⟩) (.int .i64 (x.k : Nat)) ∧ a' = { tmps := #[Value.string s, undef, Value.pointer (some { block := w.heap.size, off := 0 }), Value.pointer (some { block := b1, off := 0 }), Value.pointer (some { block := b2, off := 0 }), Value.pointer (some { block := b3, off := 0 }), Value.pointer (some { block := b4, off := 0 }), Value.pointer (some { block := Bx, off := 0 }), Value.int .i64 x.e, Value.string s, Value.func (Fn.func 86) #[] #[Value.pointer (some { block := b5, off := 0 })], .agg #[.string ⟨x.t.toArray⟩, .int .i64 (x.k : Nat)], .int .i64 x.e, undef, undef, undef, undef, undef, undef, undef, undef, undef, undef, undef, undef, undef, undef, undef, undef], defers := [] })
    (fun x a' _ X Y row hs hg hr => by obtain ⟨Bx, e1, e2, e3⟩ := hs; exact ⟨Bx, e1, boxed2_own Bx _ (fun (_ : Unit) => Value.string ⟨x.t.toArray⟩) (fun _ => Value.int .i64 (x.k : Nat)) () X Y row e2 hg (fun r e => (hr r e).2), e3⟩)
    ?assign ?body ?done ?stop
  case assign =>
    rintro l pre x W K ⟨hi, hB1⟩ hK
    obtain ⟨hr, h4, h0, h1, h2, hf⟩ := hi
    rw [encF]
    gi_wp2
    exact hK _ _ ((KeepsOthers.alloc _ _).from _) ((Below.refl _ W).alloc hB1.size _) ⟨⟨hr.alloc _, h4.alloc _, h0.alloc _, h1.alloc _, h2.alloc _, hf⟩, hB1.alloc hB1.size _⟩ ⟨W.heap.size, h4.lt, Boxed2.new W _ _ _, rfl⟩
  case body =>
    rintro l pre x a' W hl - ⟨⟨⟨v, hv, hrow, -⟩, h4, h0, h1, h2, hf⟩, hB⟩ ⟨Bx, hBx, hX, rfl⟩ hlt
    have HF := Lib.hid hf; clear hf
    obtain ⟨z, hz⟩ : ∃ z, z = wrap64 ((sizes pre : Nat) : Int) := ⟨_, rfl⟩
    rw [← hz] at h4
    have HZ := Lib.hid hz; clear hz
    have HLT := Lib.hid hlt; clear hlt
    have hlen := (seq_len s.data.toList.length s.data.toList (Nat.le_refl _)).1
    have hsl : s.data.toList.length = s.size := rfl
    have hpl : (payl pre).length ≤ 1000000 := by
      have := HLT.out
      rw [payl, List.length_map]; omega
    obtain ⟨i0, hi, hz0, hz1, hz2⟩ := info_parts infoStr
    by_cases he : x.e = 0
    · have he2 : (x.e == 0) = true := by rw [beq_iff_eq]; exact he
      have c3 := hv.cell
      have c7 := hX.cell0
      gi_wp2_with (gi_at_builtin; refine stop_here ?_)
      refine go_on ?_
      refine wpListIn_append_own _ rfl _ _ 60 rfl w.heap.size 9 i0 (.string ⟨#[]⟩) 1 16 Tryz.underlying60 hi hz0 hz1 hz2 rfl (by decide) _ _ _ rfl (hrow.alloc _) ⟨W.heap.size, 0, none⟩ 1 1 [.string ⟨x.t.toArray⟩] rfl rfl (cell_one_new _ _ _) (by simp [Value.oneCell']) (by unfold maxLen; omega) (by omega) (by have := hB.size; simp; omega) ?_
      intro v' w2 hown' hgrow _
      obtain ⟨g', cap', rfl⟩ := ownsRow_succ hown'
      have n4 := h4.not_row (by decide) hrow
      have n0 := h0.not_row (by decide) hrow
      have n1 := h1.not_row (by decide) hrow
      have n2 := h2.not_row (by decide) hrow
      have nX := hX.not_row (by decide) hrow
      obtain ⟨hv1, hv2, hr2, hk2, hb2⟩ := hv.appended (by decide) hrow hB.size (by omega) hown' hgrow
      have a4 := ((h4.alloc _).kept hgrow n4).other (B' := b3) (by omega) (.slice (some ⟨g', 0, none⟩) ((payl pre).length + 1) cap')
      have a0 := ((h0.alloc _).kept hgrow n0).other (B' := b3) (by omega) (.slice (some ⟨g', 0, none⟩) ((payl pre).length + 1) cap')
      have a1 := ((h1.alloc _).kept hgrow n1).other (B' := b3) (by omega) (.slice (some ⟨g', 0, none⟩) ((payl pre).length + 1) cap')
      have a2 := ((h2.alloc _).kept hgrow n2).other (B' := b3) (by omega) (.slice (some ⟨g', 0, none⟩) ((payl pre).length + 1) cap')
      have aX := ((hX.alloc _).kept hgrow nX).kept (grownBy_setCell' w2 b3 (.slice (some ⟨g', 0, none⟩) ((payl pre).length + 1) cap')) (by simp; omega)
      have hc1 := hv1.cell
      have hf1 := hv1.frozen
      have m4 := a4.cell
      have m4f := a4.frozen
      have mX := aX.cell1
      gi_wp2
      have hsn : wrap64 ((sizes (pre ++ [x]) : Nat) : Int) = wrap64 (z + (x.k : Int)) := by rw [HZ.out, sizes_snoc, wrap_sum, Int.natCast_add]
      refine ⟨(hk2.trans (KeepsOthers.setCell _ _ _)).from _, hb2.setCell (p := ⟨b4, 0, none⟩) (by show w.heap.size ≤ b4; omega) _, ⟨⟨_, hv2.other (by omega) _, ?_, trivial⟩, ?_, a0.other (by omega) _, a1.other (by omega) _, a2.other (by omega) _, ?_⟩, (hB.trans hb2).setCell (p := ⟨b4, 0, none⟩) (by show w.heap.size ≤ b4; omega) _⟩
      · have hk := hr2.kept (grownBy_setCell' _ b4 (.int .i64 (wrap64 (z + (x.k : Int))))) (.inr (a4.not_row (by decide) hr2).symm)
        rw [payl_snoc, El.all_append, List.length_append]
        exact hk
      · rw [hsn]; exact a4.set _
      · intro y hy
        rcases List.mem_append.1 hy with h | h
        · exact HF.out y h
        · simp at h; rw [h]; exact he
    · have he2 : (x.e == 0) = false := by rw [beq_eq_false_iff_ne]; exact he
      have hmx : Tryz.prog.follows .mixedOrders = true := by kernel_rfl
      obtain ⟨pp, cap, rfl⟩ := ownG_len (show OwnG strEl w.heap.size W v (payl pre) from hrow)
      have c3 := hv.cell
      have c4 := h4.cell
      have f0 := h0.frozen
      have f1 := h1.frozen
      have f2 := h2.frozen
      have d0 := h0.cell
      have d1 := h1.cell
      have d2 := h2.cell
      gi_wp2
      gi_region_with_o (fail)
      all_goals gi_wp2
      all_goals (try go_bits)
      all_goals
        obtain ⟨r1, r2, r3, r4, r5⟩ := set3 h0 h1 h2 hrow q1 q2 (.int .i64 z) (.int .i64 x.e)
        exact ⟨(r4.trans (KeepsOthers.drew _)).from _, ⟨rfl, pre, x, rfl, HF.out, he, r1, by rw [← HZ.out]; exact r2, r3⟩, hB.trans r5.drew⟩
  case done =>
    rintro D ys W hD rfl ⟨⟨⟨v, hv, hrow, -⟩, h4, h0, h1, h2, hf⟩, hB⟩ hK
    have hmx : Tryz.prog.follows .mixedOrders = true := by kernel_rfl
    have hq := seq_len s.data.toList.length s.data.toList (Nat.le_refl _)
    have hsl : s.data.toList.length = s.size := rfl
    rw [hsl] at hq
    rw [IntWalk.wrap64_in _ ⟨by omega, by omega⟩] at h4
    obtain ⟨pp, cap, rfl⟩ := ownG_len (show OwnG strEl w.heap.size W v (payl (seqL s.data.toList)) from hrow)
    have HS := Lib.hid (scan_seq _ s.data.toList (Nat.le_refl _))
    have HS2 := Lib.hid (scan_fine _ hf)
    clear hq hf
    have c3 := hv.cell
    have c4 := h4.cell
    have f0 := h0.frozen
    have f1 := h1.frozen
    have f2 := h2.frozen
    have d0 := h0.cell
    have d1 := h1.cell
    have d2 := h2.cell
    gi_wp2
    gi_region_with_o (fail)
    all_goals gi_wp2
    all_goals (try go_bits)
    all_goals
      obtain ⟨⟨v', r0, rr, -⟩, r1, r2, r3, r4⟩ := set3 h0 h1 h2 hrow q1 q2 (.int .i64 (sizes (seqL s.data.toList) : Nat)) (.int .i64 0)
      have hK' := (r3.trans (KeepsOthers.drew _)).same D _ hK rfl
      refine ⟨by simp, .inl ⟨_, _, rfl, run_takeDeferred hK', ?_⟩⟩
      have k0 := cell_kept (boxed_drew r0).cell (grownBy_putObj' _ D (.deferred none)) (fun r e => by cases e; exact ⟨_, hK', rfl⟩)
      have k1 := cell_kept (boxed_drew r1).cell (grownBy_putObj' _ D (.deferred none)) (fun r e => by cases e; exact ⟨_, hK', rfl⟩)
      have k2 := cell_kept (boxed_drew r2).cell (grownBy_putObj' _ D (.deferred none)) (fun r e => by cases e; exact ⟨_, hK', rfl⟩)
      refine ⟨.tuple #[v', .int .i64 (sizes (seqL s.data.toList) : Nat), .int .i64 0], ?_, v', by rw [HS.out, HS2.out], by rw [HS.out, HS2.out]; exact ownsRow_putObj (row_drew rr) _ hK' rfl, (hB.trans r4.drew).trans (belowK_b (w := w) (Nat.le_refl _) _ D _ _ (by omega) hK' rfl rfl)⟩
      simp [results, Tryz.f32, go_sem, k0, k1, k2]
  case stop =>
    rintro D c pre W hD hp ⟨⟨rfl, p, x, rfl, hf, he, ⟨v, hv, hrow, -⟩, h1, h2⟩, hB⟩ hK
    have c0 := hv.cell
    have c1 := h1.cell
    have c2 := h2.cell
    gi_wp2
    refine ⟨by simp, .inl ⟨_, _, rfl, run_takeDeferred hK, ?_⟩⟩
    have hq := seq_len s.data.toList.length s.data.toList (Nat.le_refl _)
    have hsl : s.data.toList.length = s.size := rfl
    obtain ⟨m, hm⟩ := hp
    have hsz : sizes p ≤ 1000000 := by
      rw [hsl, ← hm, List.append_assoc, sizes_app] at hq; omega
    rw [IntWalk.wrap64_in _ ⟨by omega, by omega⟩] at h1 c1
    have HS := scan_seq _ s.data.toList (Nat.le_refl _)
    rw [← hm, List.append_assoc, List.singleton_append, scan_bad p x m hf he] at HS
    have k0 := cell_kept c0 (grownBy_putObj' W D (.deferred none)) (fun r e => by cases e; exact ⟨_, hK, rfl⟩)
    have k1 := cell_kept c1 (grownBy_putObj' W D (.deferred none)) (fun r e => by cases e; exact ⟨_, hK, rfl⟩)
    have k2 := cell_kept c2 (grownBy_putObj' W D (.deferred none)) (fun r e => by cases e; exact ⟨_, hK, rfl⟩)
    refine ⟨.tuple #[v, .int .i64 (sizes p : Nat), .int .i64 x.e], ?_, v, by rw [HS], by rw [HS]; exact ownsRow_putObj hrow _ hK rfl, hB.trans (belowK_b (w := w) (Nat.le_refl _) _ D _ _ (by omega) hK rfl rfl)⟩
    simp [results, Tryz.f32, go_sem, k0, k1, k2]
end Go.Proofs.YteimllgoelleeaaGreatDoor
