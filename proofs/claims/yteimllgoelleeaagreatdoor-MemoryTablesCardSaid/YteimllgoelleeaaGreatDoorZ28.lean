/- MPBet, MEachC, laid together. -/
import Derived.Test.YteimllgoelleeaaGreatDoorZ11
import Derived.Test.YteimllgoelleeaaGreatDoorZ27
import Derived.RangeFuncNested
import Derived.RangeFuncBound
import Derived.RangeFuncCalls
import Derived.RangeFuncLeaves
import Derived.Shelf.Abstract
import Derived.Shelf.RegionOpen
import Derived.WalkKit
import Derived.OwnWalkIn
import Derived.TacticsInMore
import Derived.LoopNIn
import Derived.LoopIn
import Derived.Maps.AppendAt
set_option linter.unusedSimpArgs false
set_option linter.unusedVariables false
/- The program's memory: Between, a loop over what from tells. -/
set_option maxRecDepth 100000
namespace Go.Proofs.YteimllgoelleeaaGreatDoor
open Go.RowKit Go.Shelf

attribute [local go_sem] Oper.semAt_some

def befE (t : List UInt8) (x : EB) : Bool := t == [] || Op.bytesLess x.k.data.toList t
def headE (f : ByteArray) : EB := ⟨f, 9223372036854775807, false, ⟨#[]⟩⟩
theorem geL_flat {t : TT EB} {C : List EB} (c : EB) (h : t.flat = C) : geLE c t = C.filter (fun x => !lessB x c) := by
  rw [← h, TT.flat, geLE, List.filter_map]; rfl
theorem geL_bet {t : TT EB} {C : List EB} (f : ByteArray) (to : List UInt8) (h : t.flat = C) (hC : fitsL C) : betE f.data.toList to C = (geLE (headE f) t).filter (befE to) := by
  rw [geL_flat _ h, List.filter_filter]
  unfold betE
  apply List.filter_congr
  intro x hx
  have hq := (hC x hx).2.2.1
  unfold inB befE lessB headE
  have : ¬ (9223372036854775807 : Int) < x.q := by have := hC x hx; obtain ⟨a1, a2, a3, a4⟩ := this; omega
  simp only [decide_eq_false this, Bool.and_false, Bool.or_false]
  rw [Bool.and_comm]
theorem bet_stop {L p m : List EB} {x : EB} {to : List UInt8} (hs : L.Pairwise (fun a b => lessB a b = true)) (hL : p ++ [x] ++ m = L) (hp : ∀ y ∈ p, befE to y = true) (hx : befE to x = false) : L.filter (befE to) = p := by
  subst hL
  rw [List.append_assoc, List.filter_append, List.filter_eq_self.2 hp]
  have h2 : ([x] ++ m).filter (befE to) = [] := by
    rw [List.filter_eq_nil_iff]
    intro y hy hb
    rcases List.mem_append.1 hy with h | h
    · rw [List.mem_singleton] at h; subst h; rw [hx] at hb; cases hb
    · rw [List.append_assoc, List.pairwise_append] at hs
      have hxy := (List.pairwise_append.1 hs.2.1).2.2 x (by simp) y h
      unfold befE at hx hb
      rw [Bool.or_eq_false_iff] at hx
      rw [hx.1, Bool.false_or] at hb
      unfold lessB at hxy
      rw [Bool.or_eq_true, Bool.and_eq_true, beq_iff_eq] at hxy
      rcases hxy with h1 | ⟨h1, _⟩
      · rw [less_trans h1 hb] at hx; cases hx.2
      · rw [h1, hb] at hx; cases hx.2
  rw [h2, List.append_nil]
def RowE (n₀ B : Nat) (L : List EB) (W : World) : Prop := ∃ v, Boxed W B 22 v ∧ W.ownsRow n₀ 30 4 v L.length (entEl.all L) ∧ True
theorem RowE.alloc {n₀ B : Nat} {L : List EB} {W : World} (h : RowE n₀ B L W) (o : Obj) : RowE n₀ B L (W.alloc o) := by
  obtain ⟨v, h1, h2, _⟩ := h; exact ⟨v, h1.alloc o, World.ownsRow.alloc h2 o, trivial⟩
theorem rowE_own (n₀ B : Nat) (L : List EB) : Go.Own (fun (_ : Unit) W => RowE n₀ B L W) := fun s X Y row hs hg hr =>
  holdsRow_own n₀ B 22 30 4 (fun (_ : Unit) => L.length) (fun _ => entEl.all L) (fun _ _ => True) s X Y row hs hg hr
def BI (n₀ B0 B1 : Nat) (to : ByteArray) (pre : List EB) (W : World) : Prop := RowE n₀ B1 pre W ∧ Boxed W B0 9 (.string to) ∧ ∀ x ∈ pre, befE to.data.toList x = true
theorem bI_own (n₀ B0 B1 : Nat) (to : ByteArray) : Go.Own (BI n₀ B0 B1 to) := fun s X Y row ⟨h1, h2, h3⟩ hg hr =>
  ⟨rowE_own n₀ B1 s () X Y row h1 hg hr, boxed_own B0 _ (fun (_ : Unit) => Value.string to) () X Y row h2 hg hr, h3⟩
def BX (n₀ B0 B1 : Nat) (to : ByteArray) (c : Code) (pre : List EB) (W : World) : Prop := c = .exit 0 ∧ ∃ p x, pre = p ++ [x] ∧ befE to.data.toList x = false ∧ BI n₀ B0 B1 to p W
theorem bX_own (n₀ B0 B1 : Nat) (to : ByteArray) (c : Code) : Go.Own (BX n₀ B0 B1 to c) := fun s X Y row ⟨h0, p, x, h1, h2, h3⟩ hg hr =>
  ⟨h0, p, x, h1, h2, bI_own n₀ B0 B1 to p X Y row h3 hg hr⟩
theorem infoEnt : (Tryz.prog.info? 30).map (fun i => (i.zero, i.size, i.bytes)) = some (some (.agg #[.string ⟨#[]⟩, .int .i64 0, .bool false, .string ⟨#[]⟩]), 4, 48) := by kernel_rfl
theorem cells_new_row (w : World) (cs : Array Value) (t : TypeId) : ∀ j u, cs.toList[j]? = some u → (w.alloc (.cells cs t)).cell? ((⟨w.heap.size, 0, none⟩ : Addr).add j) = some u := by
  intro j u hj
  have e : ((⟨w.heap.size, 0, none⟩ : Addr).add j) = ⟨w.heap.size, j, none⟩ := by
    cases j with
    | zero => rfl
    | succ j => simp [Addr.add]
  rw [e, cell_at_new rfl]
  simpa using hj
theorem at_own {W X : World} {b : Nat} {cs : Array Value} {T : TypeId} {row : Option Nat} (h : W.heap[b]? = some (.cells cs T (0, 0))) (hg : W.grownBy X row) (hr : ∀ r, row = some r → ∃ o : Obj, W.heap[r]? = some o ∧ o.isCells = false) : X.heap[b]? = some (.cells cs T (0, 0)) :=
  (hg.block b (Array.getElem?_eq_some_iff.1 h).1 (fun e => by
    obtain ⟨o, ho, hc⟩ := hr b e.symm
    rw [h] at ho; cases ho; cases hc)).trans h
theorem keepT_appended {W w1 : World} {n₀ B : Nat} {t e : TypeId} {size k : Nat} {v v' : Value} {xs : List Value} {tmp : Obj} {T : TypeId} (hv : Boxed W B t v) (hrow : W.ownsRow n₀ e size v k xs) (ht : t ≠ T) (he : e ≠ T) (hgrow : (W.alloc tmp).grownBy w1 v.ownBlock) {b : Nat} {cs : Array Value}
    (hb : W.heap[b]? = some (Obj.cells cs T (0, 0))) : (w1.setCell ⟨B, 0, none⟩ v').heap[b]? = some (.cells cs T (0, 0)) := by
  have hlt := (Array.getElem?_eq_some_iff.1 hb).1
  have hbB : b ≠ B := fun h => by subst h; rw [show W.heap[b]? = _ from hv] at hb; cases hb; exact ht rfl
  have hbv : some b ≠ v.ownBlock := by
    rcases hrow.2 with ⟨rfl, _⟩ | ⟨g, cap, cur, rfl, _, hgb, _⟩
    · simp [Value.ownBlock]
    · intro e'
      obtain rfl : b = g := by simpa [Value.ownBlock] using e'
      rw [hgb] at hb; cases hb; exact he rfl
  refine (tkeep_set w1 B 0 v').at ?_ (not_one hbB)
  exact (hgrow.block b (by simp; omega) hbv).trans (((Keep.of_bel (Bel.refl W) []).alloc tmp).at hb (by simp))
set_option maxHeartbeats 4000000 in
theorem pbet_any (b : Nat) (F : List Nat) (C : List EB) (f to : ByteArray) (w : World) (h : PMAt w b F C) (hH : Holds C) :
    Calls Tryz.prog 8 #[.pointer (some ⟨b, 0, none⟩), .string f, .string to] w fun r w' => ∃ v, r = .returned v ∧ OwnG entEl w.heap.size w' v (betE f.data.toList to.data.toList C) ∧ Bel w w' := by
  obtain ⟨t, h0, hT, hn, hbt, hC, -⟩ := h
  have hBE := geL_bet f to.data.toList hC (holds_fits hH)
  have hlen : (geLE (headE f) t).length ≤ 1000 := by
    rw [geL_flat _ hC]
    exact Nat.le_trans (List.length_filter_le _ _) hH.2
  have hpo := order_of hC hH.1
  have hso : (geLE (headE f) t).Pairwise (fun a b => lessB a b = true) := by
    rw [geL_flat _ hC]
    exact (stand_pair hH.1).filter _
  have hbl := (Array.getElem?_eq_some_iff.1 h0).1
  have hlow := hT.lt
  have H0 := Lib.hid h0; have HT := Lib.hid hT; have HBE := Lib.hid hBE; have HPO := Lib.hid hpo; have HSO := Lib.hid hso; have HLOW := Lib.hid hlow
  clear h0 hT hBE hpo hso hlow hn hbt hC hH
  refine (callsIn_wide (n := 9)).1 ?_
  refine callsIn_of_wp_marks Tryz.func8 rfl trivial ?_ rfl
  simp only [Tryz.ntmps8, List.size_toArray, List.length_cons, List.length_nil, Nat.reduceAdd, Nat.reduceSub, Array.replicate_succ, Array.replicate_zero, List.push_toArray, List.append_toArray, List.nil_append, List.cons_append]
  gi_wp2
  refine wpIn_mono (Q := Exit.then ?K (fun _ _ _ => False)) ?r (fun e a w h => ?m)
  case m =>
    cases e with
    | normal => exact h
    | _ => exact h.elim
  refine wpIn_region_any (by kernel_rfl) ?_
  change wpAnyIn _ _ _ _ _ _ _ _ _ (World.drew _)
  refine wpAnyIn_take (i := 0) (oi := { dst := some 9, op := Op.move (Operand.tmp 0), type := 25, pos := "memory.go:56", after := #[], guard := none }) (v := ?_) rfl rfl (by kernel_rfl) (by kernel_rfl) (by kernel_rfl) (fun _ _ _ h => h) ⟨Or.inl ⟨by rfl, ?_⟩, fun _ => rfl⟩ ?_
  rotate_left
  · (intro w; first | (go_simp; done) | (go_simp; with_reducible rfl))
  try simp only [Act.put, List.setIfInBounds_toArray, List.set_cons_zero, List.set_cons_succ]
  refine wpAnyIn_take (i := 1) (oi := { dst := some 10, op := Op.nilCheck (Operand.tmp 9), type := 0, pos := "memory.go:56", after := #[{ on := 0, ground := Ground.data }], guard := none }) (v := ?_) rfl rfl (by kernel_rfl) (by kernel_rfl) (by kernel_rfl) (fun _ _ _ h => h) ⟨Or.inl ⟨by rfl, ?_⟩, fun _ => rfl⟩ ?_
  rotate_left
  · (intro w; first | (go_simp; done) | (go_simp; with_reducible rfl))
  try simp only [Act.put, List.setIfInBounds_toArray, List.set_cons_zero, List.set_cons_succ]
  refine wpAnyIn_take (i := 2) (oi := { dst := some 11, op := Op.fieldAddr 50 (Operand.tmp 10) 0, type := 0, pos := "memory.go:56", after := #[{ on := 1, ground := Ground.data }], guard := none }) (v := ?_) rfl rfl (by kernel_rfl) (by kernel_rfl) (by kernel_rfl) (fun _ _ _ h => h) ⟨Or.inl ⟨by rfl, ?_⟩, fun _ => rfl⟩ ?_
  rotate_left
  · (intro w; first | (go_simp; done) | (go_simp; with_reducible rfl))
  try simp only [Act.put, List.setIfInBounds_toArray, List.set_cons_zero, List.set_cons_succ]
  refine wpAnyIn_take (i := 3) (oi := { dst := some 12, op := Op.move (Operand.tmp 1), type := 9, pos := "memory.go:56", after := #[], guard := none }) (v := ?_) rfl rfl (by kernel_rfl) (by kernel_rfl) (by kernel_rfl) (fun _ _ _ h => h) ⟨Or.inl ⟨by rfl, ?_⟩, fun _ => rfl⟩ ?_
  rotate_left
  · (intro w; first | (go_simp; done) | (go_simp; with_reducible rfl))
  try simp only [Act.put, List.setIfInBounds_toArray, List.set_cons_zero, List.set_cons_succ]
  refine wpAnyIn_ready (rs := [4]) (by kernel_rfl) (by simp) ?_
  refine (AllReadyIn.cons (o := { dst := some 13, op := Op.call { callee := Callee.value (Operand.func 24), args := #[Operand.tmp 12], argTypes := #[9] }, type := 55, pos := "memory.go:56", after := #[{ on := 3, ground := Ground.data }], guard := none }) rfl (fun K hK => ?_) AllReadyIn.nil)
  go_simp
  refine ⟨trivial, ?_⟩
  refine (callsIn_wide.2 (headOf_any f _)).mono ?_
  rintro r1 w2 ⟨rfl, hb2⟩
  dsimp only
  refine hK _ _ ?_
  clear hK K
  try simp only [Act.put, List.setIfInBounds_toArray, List.set_cons_zero, List.set_cons_succ]
  refine wpAnyIn_ready (rs := [5]) (by kernel_rfl) (by simp) ?_
  refine (AllReadyIn.cons (o := { dst := some 14, op := Op.call { callee := Callee.value (Operand.func 23), args := #[Operand.tmp 11, Operand.tmp 13], argTypes := #[48, 55] }, type := 57, pos := "memory.go:56", after := #[{ on := 2, ground := Ground.data }, { on := 4, ground := Ground.data }, { on := 4, ground := Ground.chain }], guard := none }) rfl (fun K hK => ?_) AllReadyIn.nil)
  go_simp
  refine ⟨trivial, ?_⟩
  refine (fromE_in _ b (headE f) w2).mono ?_
  rintro r2 w3 ⟨rfl, hw3⟩
  dsimp only
  refine hK _ _ ?_
  clear hK K
  try simp only [Act.put, List.setIfInBounds_toArray, List.set_cons_zero, List.set_cons_succ]
  refine wpAnyIn_done (by kernel_rfl) ?_ _
  gi_wp2
  have q0 : w2.heap[w.heap.size]? = some (.cells #[.string to] 9 (0, 0)) := by
    refine (Keep.of_bel hb2 []).at ?_ (by simp)
    exact (Keep.of_bel ((Bel.refl _).alloc _).drew []).at (tnew w _) (by simp)
  have q1 : w2.heap[w.heap.size + 1]? = some (.cells #[.slice none 0 0] 22 (0, 0)) := by
    refine (Keep.of_bel hb2 []).at ?_ (by simp)
    have := tnew (w.alloc (.cells #[.string to] 9)) (.cells #[.slice none 0 0] 22)
    rw [World.size_alloc] at this
    exact this
  have hbw : Bel w w2 := ((((Bel.refl w).alloc _).alloc _).drew).trans hb2
  have hb3 : Bel w2 w3 := by rw [hw3]; exact ((Bel.refl _).alloc _).alloc _
  have k1 : w3.heap[w2.heap.size]? = some (.cells #[.pointer (some ⟨b, 0, none⟩)] 101 (0, 0)) := by
    rw [hw3]; exact (Keep.of_bel ((Bel.refl _).alloc _) []).at (tnew w2 _) (by simp)
  have k2 : w3.heap[w2.heap.size + 1]? = some (.cells #[.string f, .int .i64 9223372036854775807, .bool false, .string ⟨#[]⟩] 55 (0, 0)) := by
    have := tnew (w2.alloc (.cells #[.pointer (some ⟨b, 0, none⟩)] 101)) (.cells #[.string f, .int .i64 9223372036854775807, .bool false, .string ⟨#[]⟩] 55)
    rw [World.size_alloc] at this
    rw [hw3]; exact this
  have hr : w3.cell? ⟨b, 0, none⟩ = some (.pointer t.ptr) := cell_later (hbw.trans hb3) ((tblk_cell H0.out 0).trans rfl)
  have hT3 := HT.out.bel (hbw.trans hb3)
  have hn03 : w.heap.size ≤ w3.heap.size := (hbw.trans hb3).size
  have hBw3 : Below w.heap.size w w3 := hbw.trans hb3
  have x0 : Boxed w3 w.heap.size 9 (.string to) := (Keep.of_bel hb3 []).at q0 (by simp)
  have x1 : Boxed w3 (w.heap.size + 1) 22 (.slice none 0 0) := (Keep.of_bel hb3 []).at q1 (by simp)
  have hB1n : w.heap.size ≤ w.heap.size + 1 := by omega
  have HN := Lib.hid (show w.heap.size = w.heap.size from rfl)
  clear hw3 q0 q1
  refine wpIn_rangeFunc_ownH rfl (by omega) (gf := 43) (lb := #[.pointer (some ⟨w2.heap.size, 0, none⟩), .pointer (some ⟨w2.heap.size + 1, 0, none⟩)]) rfl trivial (enters_of Tryz.func43 (by kernel_rfl) rfl)
    (fromE_stops (9 - 1) w2.heap.size (w2.heap.size + 1) b w.heap.size (headE f) t w3 k1 k2 hr hT3 HLOW.out hn03 HPO.out) (fun h k => KeepTE.trans h k) (fun W l o o' hl h hc hk => keepTE_b (w := w3) hn03 W l o o' hl h hc hk) (Below.refl _ _) (fun _ => rfl)
    (fun pre W => BI w.heap.size w.heap.size (w.heap.size + 1) to pre W ∧ Below w.heap.size w W)
    (fun c pre W => BX w.heap.size w.heap.size (w.heap.size + 1) to c pre W ∧ Below w.heap.size w W)
    (OwnFrom.and (Own.from (bI_own _ _ _ _) _) (ownFrom_below (Nat.le_refl _) hn03))
    (fun c => OwnFrom.and (Own.from (bX_own _ _ _ _ c) _) (ownFrom_below (Nat.le_refl _) hn03))
    ⟨⟨⟨_, x1, World.ownsRow_nil _ _ _ _, trivial⟩, x0, fun _ h => by simp at h⟩, hBw3⟩
    (fun x a' W => ∃ Bx, W.heap[Bx]? = some (Obj.cells #[.string x.k, .int .i64 x.q, .bool x.d, .string x.v] 55 (0, 0)) ∧ a' = { tmps := #[.pointer (some { block := b, off := 0 }), .string f, .string to, undef, undef, .pointer (some { block := w.heap.size, off := 0 }), .slice none 0 0, .pointer (some { block := w.heap.size + 1, off := 0 }), .pointer (some { block := Bx, off := 0 }), .pointer (some { block := b, off := 0 }), .pointer (some { block := b, off := 0 }), .pointer (some { block := b, off := 0 }), .string f, .agg #[.string f, .int .i64 9223372036854775807, .bool false, .string ⟨#[]⟩], .func (.func 43) #[] #[.pointer (some { block := w2.heap.size, off := 0 }), .pointer (some { block := w2.heap.size + 1, off := 0 })], .agg #[.string x.k, .int .i64 x.q, .bool x.d, .string x.v], undef, undef, undef, undef, undef, undef, undef, undef, undef, undef, undef, undef, undef], defers := [] })
    (fun x a' _ X Y row hs hg hr => by obtain ⟨Bx, e2, e3⟩ := hs; exact ⟨Bx, at_own e2 hg (fun r e => (hr r e).2), e3⟩)
    ?assign ?body ?done ?stop
  case assign =>
    rintro l pre x W K ⟨hi, hB1'⟩ hK
    obtain ⟨hrw, h0, hpre⟩ := hi

    gi_wp2
    exact hK _ _ ((KeepsOthers.alloc _ _).from _) (KeepTE.of_bel ((Bel.refl W).alloc _) hB1'.size) ⟨⟨hrw.alloc _, h0.alloc _, hpre⟩, hB1'.alloc hB1'.size _⟩ ⟨W.heap.size, tnew W _, rfl⟩
  case body =>
    rintro l pre x a' W hl - ⟨⟨⟨v, hv, hrow, -⟩, h0, hpre⟩, hB⟩ ⟨Bx, hX, rfl⟩ hlt
    have HPR := Lib.hid hpre; clear hpre
    have c5 := h0.cell
    have c7 := hv.cell
    have cx0 : W.cell? ⟨Bx, 0, none⟩ = some (.string x.k) := (tblk_cell hX 0).trans rfl
    have cx1 : W.cell? ⟨Bx, 1, none⟩ = some (.int .i64 x.q) := (tblk_cell hX 1).trans rfl
    have cx2 : W.cell? ⟨Bx, 2, none⟩ = some (.bool x.d) := (tblk_cell hX 2).trans rfl
    have cx3 : W.cell? ⟨Bx, 3, none⟩ = some (.string x.v) := (tblk_cell hX 3).trans rfl
    obtain ⟨i0, hi, hz0, hz1, hz2⟩ := info_parts infoEnt
    have hpl : pre.length ≤ 1000 := by omega
    have hml : pre.length + 1 ≤ maxLen := by unfold maxLen; omega
    have hmb : (pre.length + 1) * 48 ≤ 140737488355328 := by omega
    cases hem : (to.toList == []) with
    | true =>
      have HBF := Lib.hid (show befE to.data.toList x = true by unfold befE; rw [← ByteArray.toList_eq to, hem]; rfl)
      gi_wp2_with (gi_at_builtin; refine stop_here ?_)
      refine go_on ?_
      refine wpListIn_append_own _ rfl _ _ 22 rfl w.heap.size 30 i0 (.agg #[.string ⟨#[]⟩, .int .i64 0, .bool false, .string ⟨#[]⟩]) 4 48 Tryz.underlying22 hi hz0 hz1 hz2 rfl (by decide) _ _ _ rfl (hrow.alloc _) ⟨W.heap.size, 0, none⟩ 1 1 [.string x.k, .int .i64 x.q, .bool x.d, .string x.v] rfl rfl (cells_new_row _ _ _) (by simp [Value.oneCell']) hml hmb (by have := hB.size; simp; omega) ?_
      intro v' w4 hown' hgrow _
      obtain ⟨g', cap', rfl⟩ := ownsRow_succ hown'
      have n0 := h0.not_row (by decide) hrow
      obtain ⟨hv1, hv2, hr2, hk2, hb2'⟩ := hv.appended (by decide) hrow hB.size hB1n hown' hgrow
      have a0 := ((h0.alloc _).kept hgrow n0).other (B' := w.heap.size + 1) (by omega) (.slice (some ⟨g', 0, none⟩) (pre.length + 1) cap')
      have hc1 := hv1.cell
      have hf1 := hv1.frozen
      gi_wp2
      refine ⟨hk2.from _, ⟨hb2', fun bb cs hbb => keepT_appended hv hrow (by decide) (by decide) hgrow hbb⟩, ⟨⟨_, hv2, ?_, trivial⟩, a0, ?_⟩, hB.trans hb2'⟩
      · rw [El.all_append, List.length_append]
        exact hr2
      · intro y hy
        rcases List.mem_append.1 hy with h | h
        · exact HPR.out y h
        · rw [List.mem_singleton] at h; rw [h]; exact HBF.out
    | false =>
      cases hl2 : Op.bytesLess x.k.toList to.toList with
      | true =>
        have HBF := Lib.hid (show befE to.data.toList x = true by unfold befE; rw [← ByteArray.toList_eq to, ← ByteArray.toList_eq x.k, hl2, Bool.or_true])
        gi_wp2_with (gi_at_builtin; refine stop_here ?_)
        refine go_on ?_
        refine wpListIn_append_own _ rfl _ _ 22 rfl w.heap.size 30 i0 (.agg #[.string ⟨#[]⟩, .int .i64 0, .bool false, .string ⟨#[]⟩]) 4 48 Tryz.underlying22 hi hz0 hz1 hz2 rfl (by decide) _ _ _ rfl (hrow.alloc _) ⟨W.heap.size, 0, none⟩ 1 1 [.string x.k, .int .i64 x.q, .bool x.d, .string x.v] rfl rfl (cells_new_row _ _ _) (by simp [Value.oneCell']) hml hmb (by have := hB.size; simp; omega) ?_
        intro v' w4 hown' hgrow _
        obtain ⟨g', cap', rfl⟩ := ownsRow_succ hown'
        have n0 := h0.not_row (by decide) hrow
        obtain ⟨hv1, hv2, hr2, hk2, hb2'⟩ := hv.appended (by decide) hrow hB.size hB1n hown' hgrow
        have a0 := ((h0.alloc _).kept hgrow n0).other (B' := w.heap.size + 1) (by omega) (.slice (some ⟨g', 0, none⟩) (pre.length + 1) cap')
        have hc1 := hv1.cell
        have hf1 := hv1.frozen
        gi_wp2
        refine ⟨hk2.from _, ⟨hb2', fun bb cs hbb => keepT_appended hv hrow (by decide) (by decide) hgrow hbb⟩, ⟨⟨_, hv2, ?_, trivial⟩, a0, ?_⟩, hB.trans hb2'⟩
        · rw [El.all_append, List.length_append]
          exact hr2
        · intro y hy
          rcases List.mem_append.1 hy with h | h
          · exact HPR.out y h
          · rw [List.mem_singleton] at h; rw [h]; exact HBF.out
      | false =>
        have HBF := Lib.hid (show befE to.data.toList x = false by unfold befE; rw [← ByteArray.toList_eq to, ← ByteArray.toList_eq x.k, hl2, hem]; rfl)
        gi_wp2
        exact ⟨(KeepsOthers.refl _).from _, ⟨rfl, pre, x, rfl, HBF.out, ⟨⟨v, hv, hrow, trivial⟩, h0, HPR.out⟩⟩, hB⟩
  case done =>
    rintro D ys W hD rfl ⟨⟨⟨v, hv, hrow, -⟩, h0, hpre⟩, hB⟩ hK
    have HR := Lib.hid (show betE f.data.toList to.data.toList C = geLE (headE f) t by rw [HBE.out, List.filter_eq_self.2 hpre])
    obtain ⟨pp, cap, rfl⟩ := ownG_len (show OwnG entEl w.heap.size W v (geLE (headE f) t) from hrow)
    have c3 := hv.cell
    clear hpre h0
    gi_wp2
    refine ⟨by simp, .inl ⟨_, _, rfl, run_takeDeferred hK, ?_⟩⟩
    exact ⟨_, results_tmp rfl _ _ _, _, rfl, by rw [HR.out]; exact ownsRow_putObj hrow _ hK rfl, hB.trans (belowK_b (w := w) (Nat.le_refl _) W D _ _ (by omega) hK rfl rfl)⟩
  case stop =>
    rintro D c pre W hD hp ⟨⟨rfl, p, x, rfl, hx, ⟨v, hv, hrow, -⟩, h0, hpre⟩, hB⟩ hK
    obtain ⟨m, hm⟩ := hp
    have HR := Lib.hid (show betE f.data.toList to.data.toList C = p by rw [HBE.out]; exact bet_stop HSO.out hm hpre hx)
    obtain ⟨pp, cap, rfl⟩ := ownG_len (show OwnG entEl w.heap.size W v p from hrow)
    have c3 := hv.cell
    clear hpre h0 hx hm
    gi_wp2
    trace_state
    refine ⟨by simp, .inl ⟨_, _, rfl, run_takeDeferred hK, ?_⟩⟩
    exact ⟨_, results_tmp rfl _ _ _, _, rfl, by rw [HR.out]; exact ownsRow_putObj hrow _ hK rfl, hB.trans (belowK_b (w := w) (Nat.le_refl _) W D _ _ (by omega) hK rfl rfl)⟩
end Go.Proofs.YteimllgoelleeaaGreatDoor
/- A tree of cites: each, told to a loop's rounds: in order, all that are not less than a given one, or a beginning of them. -/
set_option maxRecDepth 100000
namespace Go.Proofs.YteimllgoelleeaaGreatDoor
open Go.RowKit Go.Shelf

attribute [local go_sem] Oper.semAt_some

def KeepTC (n₀ : Nat) (W W' : World) : Prop := Below n₀ W W' ∧ ∀ (b : Nat) (cs : Array Value), W.heap[b]? = some (Obj.cells cs 82 (0, 0)) → W'.heap[b]? = some (Obj.cells cs 82 (0, 0))
theorem KeepTC.refl (n₀ : Nat) (W : World) : KeepTC n₀ W W := ⟨Below.refl _ _, fun _ _ h => h⟩
theorem KeepTC.trans {n₀ : Nat} {A B C : World} (h : KeepTC n₀ A B) (k : KeepTC n₀ B C) : KeepTC n₀ A C := ⟨h.1.trans k.1, fun b cs hb => k.2 b cs (h.2 b cs hb)⟩
theorem KeepTC.of_bel {n₀ : Nat} {A B : World} (h : Bel A B) (hn : n₀ ≤ A.heap.size) : KeepTC n₀ A B := ⟨Below.mono h hn, fun b cs hb => (h.block b (Array.getElem?_eq_some_iff.1 hb).1).trans hb⟩
theorem keepTC_b {n₀ : Nat} {w : World} (hn : n₀ ≤ w.heap.size) (W : World) (l : Nat) (o o' : Obj) (hl : w.heap.size ≤ l) (h : W.heap[l]? = some o) (hc : o.isCells = false) (hk : o.isWalk = false) : KeepTC n₀ W (W.putObj l o') :=
  ⟨belowK_b hn W l o o' hl h hc hk, fun b cs hb => (World.putObj_heap_other (fun e => by subst e; rw [h] at hb; cases hb; cases hc)).trans hb⟩
def geLC (c : CT) (t : TT CT) : List CT := (t.nodes.filter (fun p => !ltC p.2 c)).map Prod.snd
theorem methCw (v : Value) (w : World) : Sem.run Tryz.prog (method 338 82 v "moult/memory.less") w = .ok (165, v) w := methC v w
set_option maxHeartbeats 4000000 in
theorem eachC_in (l n₀ N : Nat) (c : CT) (P : CT → Prop) (J Jx : List CT → World → Prop)
    (hJ : ∀ pre W W', J pre W → Bel W W' → J pre W')
    (hY : ∀ m pre x W, P x → J pre W → pre.length < N → YieldAt Fence.wide m Tryz.prog l #[.agg #[.int .i64 (x.t : Int), .int .i64 (x.v : Int), .int .i64 (x.n : Int)]] W fun e W' => (e = .returned (.bool true) ∧ J (pre ++ [x]) W' ∧ KeepTC n₀ W W') ∨ (e = .returned (.bool false) ∧ Jx (pre ++ [x]) W'))
    (t : TT CT) : ∀ (n : Nat) (pre : List CT) (W : World), TAt NC W t → (∀ k ∈ t.bs, k < n₀) → n₀ ≤ W.heap.size → t.nodes.Pairwise (fun p q => ltC p.2 q.2 = true) → J pre W → pre.length + (geLC c t).length ≤ N → (∀ x ∈ t.flat, P x) →
      CallsIn Fence.wide n Tryz.prog 59 #[.pointer t.ptr, .agg #[.int .i64 (c.t : Int), .int .i64 (c.v : Int), .int .i64 (c.n : Int)], .func (.yield l) #[] #[]] W fun e W' =>
        (e = .returned (.bool true) ∧ J (pre ++ geLC c t) W' ∧ KeepTC n₀ W W') ∨ (e = .returned (.bool false) ∧ ∃ q, q <+: geLC c t ∧ Jx (pre ++ q) W') := by
  induction t with
  | nil =>
    intro n pre W h hlow hsz hp hj hN hP
    have HB := Lib.hid ((Bel.refl W).alloc (.cells #[.int .i64 (c.t : Int), .int .i64 (c.v : Int), .int .i64 (c.n : Int)] 82))
    have HJ := Lib.hid (hJ pre W _ hj HB.out)
    clear h hlow hp hj hN hP
    show CallsIn _ _ _ _ #[.pointer none, _, _] _ _
    refine callsIn_of_wp Tryz.func59 rfl trivial ?_ rfl
    simp only [Tryz.ntmps59, List.size_toArray, List.length_cons, List.length_nil, Nat.reduceAdd, Nat.reduceSub, Array.replicate_succ, Array.replicate_zero, List.push_toArray, List.append_toArray, List.nil_append, List.cons_append]
    gi_wp2
    go_ret
    exact .inl ⟨rfl, by simpa [geLC, TT.nodes] using HJ.out, KeepTC.of_bel HB.out hsz⟩
  | node b x v tl tr ihl ihr =>
    intro n pre W h hlow hsz hp hj hN hP
    obtain ⟨p1, p2, p3, p4⟩ := TT.order hp
    have hp' : (tl.nodes ++ (b, x) :: tr.nodes).Pairwise (fun p q => ltC p.2 q.2 = true) := hp
    obtain ⟨⟨c0, c1, c2⟩, c4, c5, c6⟩ := cellC h.1
    obtain ⟨W0, hW0⟩ : ∃ z, z = W.alloc (.cells #[.int .i64 (c.t : Int), .int .i64 (c.v : Int), .int .i64 (c.n : Int)] 82) := ⟨_, rfl⟩
    have hB0 : Bel W W0 := by rw [hW0]; exact (Bel.refl W).alloc _
    have HB0 := Lib.hid hB0
    have kb : W0.heap[W.heap.size]? = some (.cells #[.int .i64 (c.t : Int), .int .i64 (c.v : Int), .int .i64 (c.n : Int)] 82 (0, 0)) := by rw [hW0]; exact tnew W _
    have hbn : b < n₀ := hlow b (by rw [TT.bs_node]; simp)
    have FB0 := Lib.hid (fun W1 (hk : KeepTC n₀ W W1) => (show (W1.cell? ⟨b, 0, none⟩ = some (.int .i64 (x.t : Int)) ∧ W1.cell? ⟨b, 1, none⟩ = some (.int .i64 (x.v : Int)) ∧ W1.cell? ⟨b, 2, none⟩ = some (.int .i64 (x.n : Int))) ∧ W1.cell? ⟨b, 4, none⟩ = some (.pointer tl.ptr) ∧ W1.cell? ⟨b, 5, none⟩ = some (.pointer tr.ptr) from by
      obtain ⟨q1, -, q3, q4⟩ := cellC ((hk.1.block b hbn).trans h.1)
      exact ⟨q1, q3, q4⟩))
    have FB := Lib.hid (fun W1 (hb : Bel W0 W1) => FB0.out W1 (KeepTC.of_bel (hB0.trans hb) hsz))
    have FE := Lib.hid (fun W1 (hk : KeepTC n₀ W0 W1) => (show W1.cell? ⟨W.heap.size, 0, none⟩ = some (.int .i64 (c.t : Int)) ∧ W1.cell? ⟨W.heap.size, 1, none⟩ = some (.int .i64 (c.v : Int)) ∧ W1.cell? ⟨W.heap.size, 2, none⟩ = some (.int .i64 (c.n : Int)) from by
      have q := hk.2 _ _ kb
      exact ⟨(tblk_cell q 0).trans rfl, (tblk_cell q 1).trans rfl, (tblk_cell q 2).trans rfl⟩))
    have HY := Lib.hid (fun m pre W => hY m pre x W (hP x (by rw [TT.flat_node]; simp)))
    replace c0 := cell_later hB0 c0
    replace c1 := cell_later hB0 c1
    replace c2 := cell_later hB0 c2
    replace c5 := cell_later hB0 c5
    replace c6 := cell_later hB0 c6
    have e0 : W0.cell? ⟨W.heap.size, 0, none⟩ = some (.int .i64 (c.t : Int)) := (tblk_cell kb 0).trans rfl
    have e1 : W0.cell? ⟨W.heap.size, 1, none⟩ = some (.int .i64 (c.v : Int)) := (tblk_cell kb 1).trans rfl
    have e2 : W0.cell? ⟨W.heap.size, 2, none⟩ = some (.int .i64 (c.n : Int)) := (tblk_cell kb 2).trans rfl
    rw [hW0] at c0 c1 c2 c5 c6 e0 e1 e2
    have hm := fun v w => methCw v w
    show CallsIn _ _ _ _ #[.pointer (some ⟨b, 0, none⟩), _, _] _ _
    cases hlt : ltC x c with
    | true =>
      have hG : geLC c (.node b x v tl tr) = geLC c tr := by unfold geLC; rw [TT.nodes, geq_right hp' ltC_trans hlt]
      rw [hG] at hN ⊢
      have IR := Lib.hid (fun W1 (hB : Bel W W1) => ihr (n - 1) pre W1 (h.2.2.bel hB) (fun k hk => hlow k (by rw [TT.bs_node]; simp [hk])) (Nat.le_trans hsz hB.size) p2 (hJ pre W W1 hj hB) hN (fun y hy => hP y (by rw [TT.flat_node]; simp [hy])))
      clear ihl ihr h hlow hp hp' hj hN hP p1 p2 p3 p4 hY hJ FB0 HY
      refine callsIn_of_wp Tryz.func59 rfl trivial ?_ rfl
      simp only [Tryz.ntmps59, List.size_toArray, List.length_cons, List.length_nil, Nat.reduceAdd, Nat.reduceSub, Array.replicate_succ, Array.replicate_zero, List.push_toArray, List.append_toArray, List.nil_append, List.cons_append]
      gi_wp2
      refine wpIn_region_any (by kernel_rfl) ?_
      change wpAnyIn _ _ _ _ _ _ _ _ _ (World.drew _)
      refine wpAnyIn_take (i := 0) (oi := { dst := some 9, op := Op.move (Operand.tmp 0), type := 73, pos := "tree.go:95", after := #[], guard := none }) (v := ?_) rfl rfl (by kernel_rfl) (by kernel_rfl) (by kernel_rfl) (fun _ _ _ h => h) ⟨Or.inl ⟨by rfl, ?_⟩, fun _ => rfl⟩ ?_
      rotate_left
      · (intro w; first | (go_simp; done) | (go_simp; with_reducible rfl))
      try simp only [Act.put, List.setIfInBounds_toArray, List.set_cons_zero, List.set_cons_succ]
      refine wpAnyIn_take (i := 1) (oi := { dst := some 10, op := Op.nilCheck (Operand.tmp 9), type := 0, pos := "tree.go:95", after := #[{ on := 0, ground := Ground.data }], guard := none }) (v := ?_) rfl rfl (by kernel_rfl) (by kernel_rfl) (by kernel_rfl) (fun _ _ _ h => h) ⟨Or.inl ⟨by rfl, ?_⟩, fun _ => rfl⟩ ?_
      rotate_left
      · (intro w; first | (go_simp; done) | (go_simp; with_reducible rfl))
      try simp only [Act.put, List.setIfInBounds_toArray, List.set_cons_zero, List.set_cons_succ]
      refine wpAnyIn_take (i := 2) (oi := { dst := some 11, op := Op.fieldAddr 124 (Operand.tmp 10) 0, type := 0, pos := "tree.go:95", after := #[{ on := 1, ground := Ground.data }], guard := none }) (v := ?_) rfl rfl (by kernel_rfl) (by kernel_rfl) (by kernel_rfl) (fun _ _ _ h => h) ⟨Or.inl ⟨by rfl, ?_⟩, fun _ => rfl⟩ ?_
      rotate_left
      · (intro w; first | (go_simp; done) | (go_simp; with_reducible rfl))
      try simp only [Act.put, List.setIfInBounds_toArray, List.set_cons_zero, List.set_cons_succ]
      refine wpAnyIn_ready (rs := [3, 5]) (by kernel_rfl) (by simp) ?_
      refine (AllReadyIn.cons (o := { dst := some 12, op := Op.load 82 (Operand.tmp 11), type := 82, pos := "tree.go:95", after := #[{ on := 2, ground := Ground.data }], guard := none }) rfl (fun K hK => ?_) (AllReadyIn.cons (o := { dst := some 14, op := Op.load 82 (Operand.tmp 4), type := 82, pos := "tree.go:95", after := #[], guard := none }) rfl (fun K hK => ?_) AllReadyIn.nil))
      · go_simp
        refine hK _ _ ?_
        clear hK K
        try simp only [Act.put, List.setIfInBounds_toArray, List.set_cons_zero, List.set_cons_succ]
        refine wpAnyIn_take (i := 4) (oi := { dst := some 13, op := Op.makeInterface 82 (Operand.tmp 12), type := 20, pos := "tree.go:95", after := #[{ on := 3, ground := Ground.data }], guard := none }) (v := ?_) rfl rfl (by kernel_rfl) (by kernel_rfl) (by kernel_rfl) (fun _ _ _ h => h) ⟨Or.inl ⟨by rfl, ?_⟩, fun _ => rfl⟩ ?_
        rotate_left
        · (intro w; first | (go_simp; done) | (go_simp; with_reducible rfl))
        try simp only [Act.put, List.setIfInBounds_toArray, List.set_cons_zero, List.set_cons_succ]
        refine wpAnyIn_ready (rs := [5]) (by kernel_rfl) (by simp) ?_
        refine (AllReadyIn.cons (o := { dst := some 14, op := Op.load 82 (Operand.tmp 4), type := 82, pos := "tree.go:95", after := #[], guard := none }) rfl (fun K hK => ?_) AllReadyIn.nil)
        go_simp
        refine hK _ _ ?_
        clear hK K
        try simp only [Act.put, List.setIfInBounds_toArray, List.set_cons_zero, List.set_cons_succ]
        refine wpAnyIn_ready (rs := [6]) (by kernel_rfl) (by simp) ?_
        refine (AllReadyIn.cons (o := { dst := some 15, op := Op.call { callee := Callee.invoke (Operand.tmp 13) "moult/memory.less", args := #[Operand.tmp 14], argTypes := #[82] }, type := 4, pos := "tree.go:95", after := #[{ on := 4, ground := Ground.data }, { on := 5, ground := Ground.data }], guard := none }) rfl (fun K hK => ?_) AllReadyIn.nil)
        go_simp
        refine ⟨trivial, fun h => (by cases h), ?_⟩
        refine (callsIn_wide.2 (cless_any x c _)).mono ?_
        rw [hlt]
        rintro r1 W1 ⟨rfl, hb⟩
        dsimp only
        refine hK _ _ ?_
        clear hK K
        try simp only [Act.put, List.setIfInBounds_toArray, List.set_cons_zero, List.set_cons_succ]
        refine wpAnyIn_done (by kernel_rfl) ?_ _
        have hb1 : Bel W0 W1 := by rw [hW0]; exact (Bel.refl _).drew.trans hb
        have HB1 := Lib.hid hb1
        obtain ⟨⟨c0, c1, c2⟩, -, c6⟩ := FB.out W1 hb1
        obtain ⟨e0, e1, e2⟩ := FE.out W1 (KeepTC.of_bel hb1 (Nat.le_trans hsz HB0.out.size))
        clear hb hb1 c0 c1 c2
        gi_wp2
        refine wpIn_region_any (by kernel_rfl) ?_
        change wpAnyIn _ _ _ _ _ _ _ _ _ (World.drew _)
        refine wpAnyIn_take (i := 0) (oi := { dst := some 16, op := Op.move (Operand.tmp 0), type := 73, pos := "tree.go:96", after := #[], guard := none }) (v := ?_) rfl rfl (by kernel_rfl) (by kernel_rfl) (by kernel_rfl) (fun _ _ _ h => h) ⟨Or.inl ⟨by rfl, ?_⟩, fun _ => rfl⟩ ?_
        rotate_left
        · (intro w; first | (go_simp; done) | (go_simp; with_reducible rfl))
        try simp only [Act.put, List.setIfInBounds_toArray, List.set_cons_zero, List.set_cons_succ]
        refine wpAnyIn_take (i := 1) (oi := { dst := some 17, op := Op.nilCheck (Operand.tmp 16), type := 0, pos := "tree.go:96", after := #[{ on := 0, ground := Ground.data }], guard := none }) (v := ?_) rfl rfl (by kernel_rfl) (by kernel_rfl) (by kernel_rfl) (fun _ _ _ h => h) ⟨Or.inl ⟨by rfl, ?_⟩, fun _ => rfl⟩ ?_
        rotate_left
        · (intro w; first | (go_simp; done) | (go_simp; with_reducible rfl))
        try simp only [Act.put, List.setIfInBounds_toArray, List.set_cons_zero, List.set_cons_succ]
        refine wpAnyIn_take (i := 2) (oi := { dst := some 18, op := Op.fieldAddr 124 (Operand.tmp 17) 3, type := 0, pos := "tree.go:96", after := #[{ on := 1, ground := Ground.data }], guard := none }) (v := ?_) rfl rfl (by kernel_rfl) (by kernel_rfl) (by kernel_rfl) (fun _ _ _ h => h) ⟨Or.inl ⟨by rfl, ?_⟩, fun _ => rfl⟩ ?_
        rotate_left
        · (intro w; first | (go_simp; done) | (go_simp; with_reducible rfl))
        try simp only [Act.put, List.setIfInBounds_toArray, List.set_cons_zero, List.set_cons_succ]
        refine wpAnyIn_take (i := 5) (oi := { dst := some 21, op := Op.move (Operand.tmp 2), type := 127, pos := "tree.go:96", after := #[], guard := none }) (v := ?_) rfl rfl (by kernel_rfl) (by kernel_rfl) (by kernel_rfl) (fun _ _ _ h => h) ⟨Or.inl ⟨by rfl, ?_⟩, fun _ => rfl⟩ ?_
        rotate_left
        · (intro w; first | (go_simp; done) | (go_simp; with_reducible rfl))
        try simp only [Act.put, List.setIfInBounds_toArray, List.set_cons_zero, List.set_cons_succ]
        refine wpAnyIn_ready (rs := [3, 4]) (by kernel_rfl) (by simp) ?_
        refine (AllReadyIn.cons (o := { dst := some 19, op := Op.load 73 (Operand.tmp 18), type := 73, pos := "tree.go:96", after := #[{ on := 2, ground := Ground.data }], guard := none }) rfl (fun K hK => ?_) (AllReadyIn.cons (o := { dst := some 20, op := Op.load 82 (Operand.tmp 4), type := 82, pos := "tree.go:96", after := #[], guard := none }) rfl (fun K hK => ?_) AllReadyIn.nil))
        · go_simp
          refine hK _ _ ?_
          clear hK K
          try simp only [Act.put, List.setIfInBounds_toArray, List.set_cons_zero, List.set_cons_succ]
          refine wpAnyIn_ready (rs := [4]) (by kernel_rfl) (by simp) ?_
          refine (AllReadyIn.cons (o := { dst := some 20, op := Op.load 82 (Operand.tmp 4), type := 82, pos := "tree.go:96", after := #[], guard := none }) rfl (fun K hK => ?_) AllReadyIn.nil)
          go_simp
          refine hK _ _ ?_
          clear hK K
          try simp only [Act.put, List.setIfInBounds_toArray, List.set_cons_zero, List.set_cons_succ]
          refine wpAnyIn_ready (rs := [6]) (by kernel_rfl) (by simp) ?_
          refine (AllReadyIn.cons (o := { dst := some 22, op := Op.call { callee := Callee.value (Operand.func 59), args := #[Operand.tmp 19, Operand.tmp 20, Operand.tmp 21], argTypes := #[73, 82, 127] }, type := 4, pos := "tree.go:96", after := #[{ on := 3, ground := Ground.data }, { on := 4, ground := Ground.data }, { on := 5, ground := Ground.data }], guard := none }) rfl (fun K hK => ?_) AllReadyIn.nil)
          go_simp
          refine ⟨trivial, fun h => (by cases h), ?_⟩
          refine (IR.out _ (HB0.out.trans HB1.out).drew).mono ?_
          rintro r2 W2 (⟨rfl, hJ2, hk2⟩ | ⟨rfl, q, hq, hx2⟩)
          · dsimp only
            refine hK _ _ ?_
            clear hK K
            try simp only [Act.put, List.setIfInBounds_toArray, List.set_cons_zero, List.set_cons_succ]
            refine wpAnyIn_take (i := 7) (oi := { dst := some 6, op := Op.assign (Operand.tmp 22), type := 4, pos := "tree.go:96", after := #[{ on := 6, ground := Ground.data }, { on := 6, ground := Ground.chain }, { on := 0, ground := Ground.phase }, { on := 1, ground := Ground.phase }, { on := 2, ground := Ground.phase }, { on := 3, ground := Ground.phase }, { on := 4, ground := Ground.phase }, { on := 5, ground := Ground.phase }, { on := 6, ground := Ground.phase }], guard := none }) (v := ?_) rfl rfl (by kernel_rfl) (by kernel_rfl) (by kernel_rfl) (fun _ _ _ h => h) ⟨Or.inl ⟨by rfl, ?_⟩, fun _ => rfl⟩ ?_
            rotate_left
            · (intro w; first | (go_simp; done) | (go_simp; with_reducible rfl))
            try simp only [Act.put, List.setIfInBounds_toArray, List.set_cons_zero, List.set_cons_succ]
            refine wpAnyIn_done (by kernel_rfl) ?_ _
            have HX := Lib.hid (And.intro hJ2 hk2)
            clear hJ2 hk2
            gi_wp2
            go_ret
            exact .inl ⟨rfl, HX.out.1, (KeepTC.of_bel (HB0.out.trans HB1.out).drew hsz).trans HX.out.2⟩
          · dsimp only
            refine hK _ _ ?_
            clear hK K
            try simp only [Act.put, List.setIfInBounds_toArray, List.set_cons_zero, List.set_cons_succ]
            refine wpAnyIn_take (i := 7) (oi := { dst := some 6, op := Op.assign (Operand.tmp 22), type := 4, pos := "tree.go:96", after := #[{ on := 6, ground := Ground.data }, { on := 6, ground := Ground.chain }, { on := 0, ground := Ground.phase }, { on := 1, ground := Ground.phase }, { on := 2, ground := Ground.phase }, { on := 3, ground := Ground.phase }, { on := 4, ground := Ground.phase }, { on := 5, ground := Ground.phase }, { on := 6, ground := Ground.phase }], guard := none }) (v := ?_) rfl rfl (by kernel_rfl) (by kernel_rfl) (by kernel_rfl) (fun _ _ _ h => h) ⟨Or.inl ⟨by rfl, ?_⟩, fun _ => rfl⟩ ?_
            rotate_left
            · (intro w; first | (go_simp; done) | (go_simp; with_reducible rfl))
            try simp only [Act.put, List.setIfInBounds_toArray, List.set_cons_zero, List.set_cons_succ]
            refine wpAnyIn_done (by kernel_rfl) ?_ _
            have HX := Lib.hid (And.intro hq hx2)
            clear hq hx2
            gi_wp2
            go_ret
            exact .inr ⟨rfl, q, HX.out.1, HX.out.2⟩
        · go_simp
          refine hK _ _ ?_
          clear hK K
          try simp only [Act.put, List.setIfInBounds_toArray, List.set_cons_zero, List.set_cons_succ]
          refine wpAnyIn_ready (rs := [3]) (by kernel_rfl) (by simp) ?_
          refine (AllReadyIn.cons (o := { dst := some 19, op := Op.load 73 (Operand.tmp 18), type := 73, pos := "tree.go:96", after := #[{ on := 2, ground := Ground.data }], guard := none }) rfl (fun K hK => ?_) AllReadyIn.nil)
          go_simp
          refine hK _ _ ?_
          clear hK K
          try simp only [Act.put, List.setIfInBounds_toArray, List.set_cons_zero, List.set_cons_succ]
          refine wpAnyIn_ready (rs := [6]) (by kernel_rfl) (by simp) ?_
          refine (AllReadyIn.cons (o := { dst := some 22, op := Op.call { callee := Callee.value (Operand.func 59), args := #[Operand.tmp 19, Operand.tmp 20, Operand.tmp 21], argTypes := #[73, 82, 127] }, type := 4, pos := "tree.go:96", after := #[{ on := 3, ground := Ground.data }, { on := 4, ground := Ground.data }, { on := 5, ground := Ground.data }], guard := none }) rfl (fun K hK => ?_) AllReadyIn.nil)
          go_simp
          refine ⟨trivial, fun h => (by cases h), ?_⟩
          refine (IR.out _ (HB0.out.trans HB1.out).drew).mono ?_
          rintro r2 W2 (⟨rfl, hJ2, hk2⟩ | ⟨rfl, q, hq, hx2⟩)
          · dsimp only
            refine hK _ _ ?_
            clear hK K
            try simp only [Act.put, List.setIfInBounds_toArray, List.set_cons_zero, List.set_cons_succ]
            refine wpAnyIn_take (i := 7) (oi := { dst := some 6, op := Op.assign (Operand.tmp 22), type := 4, pos := "tree.go:96", after := #[{ on := 6, ground := Ground.data }, { on := 6, ground := Ground.chain }, { on := 0, ground := Ground.phase }, { on := 1, ground := Ground.phase }, { on := 2, ground := Ground.phase }, { on := 3, ground := Ground.phase }, { on := 4, ground := Ground.phase }, { on := 5, ground := Ground.phase }, { on := 6, ground := Ground.phase }], guard := none }) (v := ?_) rfl rfl (by kernel_rfl) (by kernel_rfl) (by kernel_rfl) (fun _ _ _ h => h) ⟨Or.inl ⟨by rfl, ?_⟩, fun _ => rfl⟩ ?_
            rotate_left
            · (intro w; first | (go_simp; done) | (go_simp; with_reducible rfl))
            try simp only [Act.put, List.setIfInBounds_toArray, List.set_cons_zero, List.set_cons_succ]
            refine wpAnyIn_done (by kernel_rfl) ?_ _
            have HX := Lib.hid (And.intro hJ2 hk2)
            clear hJ2 hk2
            gi_wp2
            go_ret
            exact .inl ⟨rfl, HX.out.1, (KeepTC.of_bel (HB0.out.trans HB1.out).drew hsz).trans HX.out.2⟩
          · dsimp only
            refine hK _ _ ?_
            clear hK K
            try simp only [Act.put, List.setIfInBounds_toArray, List.set_cons_zero, List.set_cons_succ]
            refine wpAnyIn_take (i := 7) (oi := { dst := some 6, op := Op.assign (Operand.tmp 22), type := 4, pos := "tree.go:96", after := #[{ on := 6, ground := Ground.data }, { on := 6, ground := Ground.chain }, { on := 0, ground := Ground.phase }, { on := 1, ground := Ground.phase }, { on := 2, ground := Ground.phase }, { on := 3, ground := Ground.phase }, { on := 4, ground := Ground.phase }, { on := 5, ground := Ground.phase }, { on := 6, ground := Ground.phase }], guard := none }) (v := ?_) rfl rfl (by kernel_rfl) (by kernel_rfl) (by kernel_rfl) (fun _ _ _ h => h) ⟨Or.inl ⟨by rfl, ?_⟩, fun _ => rfl⟩ ?_
            rotate_left
            · (intro w; first | (go_simp; done) | (go_simp; with_reducible rfl))
            try simp only [Act.put, List.setIfInBounds_toArray, List.set_cons_zero, List.set_cons_succ]
            refine wpAnyIn_done (by kernel_rfl) ?_ _
            have HX := Lib.hid (And.intro hq hx2)
            clear hq hx2
            gi_wp2
            go_ret
            exact .inr ⟨rfl, q, HX.out.1, HX.out.2⟩
      · go_simp
        refine hK _ _ ?_
        clear hK K
        try simp only [Act.put, List.setIfInBounds_toArray, List.set_cons_zero, List.set_cons_succ]
        refine wpAnyIn_ready (rs := [3]) (by kernel_rfl) (by simp) ?_
        refine (AllReadyIn.cons (o := { dst := some 12, op := Op.load 82 (Operand.tmp 11), type := 82, pos := "tree.go:95", after := #[{ on := 2, ground := Ground.data }], guard := none }) rfl (fun K hK => ?_) AllReadyIn.nil)
        go_simp
        refine hK _ _ ?_
        clear hK K
        try simp only [Act.put, List.setIfInBounds_toArray, List.set_cons_zero, List.set_cons_succ]
        refine wpAnyIn_take (i := 4) (oi := { dst := some 13, op := Op.makeInterface 82 (Operand.tmp 12), type := 20, pos := "tree.go:95", after := #[{ on := 3, ground := Ground.data }], guard := none }) (v := ?_) rfl rfl (by kernel_rfl) (by kernel_rfl) (by kernel_rfl) (fun _ _ _ h => h) ⟨Or.inl ⟨by rfl, ?_⟩, fun _ => rfl⟩ ?_
        rotate_left
        · (intro w; first | (go_simp; done) | (go_simp; with_reducible rfl))
        try simp only [Act.put, List.setIfInBounds_toArray, List.set_cons_zero, List.set_cons_succ]
        refine wpAnyIn_ready (rs := [6]) (by kernel_rfl) (by simp) ?_
        refine (AllReadyIn.cons (o := { dst := some 15, op := Op.call { callee := Callee.invoke (Operand.tmp 13) "moult/memory.less", args := #[Operand.tmp 14], argTypes := #[82] }, type := 4, pos := "tree.go:95", after := #[{ on := 4, ground := Ground.data }, { on := 5, ground := Ground.data }], guard := none }) rfl (fun K hK => ?_) AllReadyIn.nil)
        go_simp
        refine ⟨trivial, fun h => (by cases h), ?_⟩
        refine (callsIn_wide.2 (cless_any x c _)).mono ?_
        rw [hlt]
        rintro r1 W1 ⟨rfl, hb⟩
        dsimp only
        refine hK _ _ ?_
        clear hK K
        try simp only [Act.put, List.setIfInBounds_toArray, List.set_cons_zero, List.set_cons_succ]
        refine wpAnyIn_done (by kernel_rfl) ?_ _
        have hb1 : Bel W0 W1 := by rw [hW0]; exact (Bel.refl _).drew.trans hb
        have HB1 := Lib.hid hb1
        obtain ⟨⟨c0, c1, c2⟩, -, c6⟩ := FB.out W1 hb1
        obtain ⟨e0, e1, e2⟩ := FE.out W1 (KeepTC.of_bel hb1 (Nat.le_trans hsz HB0.out.size))
        clear hb hb1 c0 c1 c2
        gi_wp2
        refine wpIn_region_any (by kernel_rfl) ?_
        change wpAnyIn _ _ _ _ _ _ _ _ _ (World.drew _)
        refine wpAnyIn_take (i := 0) (oi := { dst := some 16, op := Op.move (Operand.tmp 0), type := 73, pos := "tree.go:96", after := #[], guard := none }) (v := ?_) rfl rfl (by kernel_rfl) (by kernel_rfl) (by kernel_rfl) (fun _ _ _ h => h) ⟨Or.inl ⟨by rfl, ?_⟩, fun _ => rfl⟩ ?_
        rotate_left
        · (intro w; first | (go_simp; done) | (go_simp; with_reducible rfl))
        try simp only [Act.put, List.setIfInBounds_toArray, List.set_cons_zero, List.set_cons_succ]
        refine wpAnyIn_take (i := 1) (oi := { dst := some 17, op := Op.nilCheck (Operand.tmp 16), type := 0, pos := "tree.go:96", after := #[{ on := 0, ground := Ground.data }], guard := none }) (v := ?_) rfl rfl (by kernel_rfl) (by kernel_rfl) (by kernel_rfl) (fun _ _ _ h => h) ⟨Or.inl ⟨by rfl, ?_⟩, fun _ => rfl⟩ ?_
        rotate_left
        · (intro w; first | (go_simp; done) | (go_simp; with_reducible rfl))
        try simp only [Act.put, List.setIfInBounds_toArray, List.set_cons_zero, List.set_cons_succ]
        refine wpAnyIn_take (i := 2) (oi := { dst := some 18, op := Op.fieldAddr 124 (Operand.tmp 17) 3, type := 0, pos := "tree.go:96", after := #[{ on := 1, ground := Ground.data }], guard := none }) (v := ?_) rfl rfl (by kernel_rfl) (by kernel_rfl) (by kernel_rfl) (fun _ _ _ h => h) ⟨Or.inl ⟨by rfl, ?_⟩, fun _ => rfl⟩ ?_
        rotate_left
        · (intro w; first | (go_simp; done) | (go_simp; with_reducible rfl))
        try simp only [Act.put, List.setIfInBounds_toArray, List.set_cons_zero, List.set_cons_succ]
        refine wpAnyIn_take (i := 5) (oi := { dst := some 21, op := Op.move (Operand.tmp 2), type := 127, pos := "tree.go:96", after := #[], guard := none }) (v := ?_) rfl rfl (by kernel_rfl) (by kernel_rfl) (by kernel_rfl) (fun _ _ _ h => h) ⟨Or.inl ⟨by rfl, ?_⟩, fun _ => rfl⟩ ?_
        rotate_left
        · (intro w; first | (go_simp; done) | (go_simp; with_reducible rfl))
        try simp only [Act.put, List.setIfInBounds_toArray, List.set_cons_zero, List.set_cons_succ]
        refine wpAnyIn_ready (rs := [3, 4]) (by kernel_rfl) (by simp) ?_
        refine (AllReadyIn.cons (o := { dst := some 19, op := Op.load 73 (Operand.tmp 18), type := 73, pos := "tree.go:96", after := #[{ on := 2, ground := Ground.data }], guard := none }) rfl (fun K hK => ?_) (AllReadyIn.cons (o := { dst := some 20, op := Op.load 82 (Operand.tmp 4), type := 82, pos := "tree.go:96", after := #[], guard := none }) rfl (fun K hK => ?_) AllReadyIn.nil))
        · go_simp
          refine hK _ _ ?_
          clear hK K
          try simp only [Act.put, List.setIfInBounds_toArray, List.set_cons_zero, List.set_cons_succ]
          refine wpAnyIn_ready (rs := [4]) (by kernel_rfl) (by simp) ?_
          refine (AllReadyIn.cons (o := { dst := some 20, op := Op.load 82 (Operand.tmp 4), type := 82, pos := "tree.go:96", after := #[], guard := none }) rfl (fun K hK => ?_) AllReadyIn.nil)
          go_simp
          refine hK _ _ ?_
          clear hK K
          try simp only [Act.put, List.setIfInBounds_toArray, List.set_cons_zero, List.set_cons_succ]
          refine wpAnyIn_ready (rs := [6]) (by kernel_rfl) (by simp) ?_
          refine (AllReadyIn.cons (o := { dst := some 22, op := Op.call { callee := Callee.value (Operand.func 59), args := #[Operand.tmp 19, Operand.tmp 20, Operand.tmp 21], argTypes := #[73, 82, 127] }, type := 4, pos := "tree.go:96", after := #[{ on := 3, ground := Ground.data }, { on := 4, ground := Ground.data }, { on := 5, ground := Ground.data }], guard := none }) rfl (fun K hK => ?_) AllReadyIn.nil)
          go_simp
          refine ⟨trivial, fun h => (by cases h), ?_⟩
          refine (IR.out _ (HB0.out.trans HB1.out).drew).mono ?_
          rintro r2 W2 (⟨rfl, hJ2, hk2⟩ | ⟨rfl, q, hq, hx2⟩)
          · dsimp only
            refine hK _ _ ?_
            clear hK K
            try simp only [Act.put, List.setIfInBounds_toArray, List.set_cons_zero, List.set_cons_succ]
            refine wpAnyIn_take (i := 7) (oi := { dst := some 6, op := Op.assign (Operand.tmp 22), type := 4, pos := "tree.go:96", after := #[{ on := 6, ground := Ground.data }, { on := 6, ground := Ground.chain }, { on := 0, ground := Ground.phase }, { on := 1, ground := Ground.phase }, { on := 2, ground := Ground.phase }, { on := 3, ground := Ground.phase }, { on := 4, ground := Ground.phase }, { on := 5, ground := Ground.phase }, { on := 6, ground := Ground.phase }], guard := none }) (v := ?_) rfl rfl (by kernel_rfl) (by kernel_rfl) (by kernel_rfl) (fun _ _ _ h => h) ⟨Or.inl ⟨by rfl, ?_⟩, fun _ => rfl⟩ ?_
            rotate_left
            · (intro w; first | (go_simp; done) | (go_simp; with_reducible rfl))
            try simp only [Act.put, List.setIfInBounds_toArray, List.set_cons_zero, List.set_cons_succ]
            refine wpAnyIn_done (by kernel_rfl) ?_ _
            have HX := Lib.hid (And.intro hJ2 hk2)
            clear hJ2 hk2
            gi_wp2
            go_ret
            exact .inl ⟨rfl, HX.out.1, (KeepTC.of_bel (HB0.out.trans HB1.out).drew hsz).trans HX.out.2⟩
          · dsimp only
            refine hK _ _ ?_
            clear hK K
            try simp only [Act.put, List.setIfInBounds_toArray, List.set_cons_zero, List.set_cons_succ]
            refine wpAnyIn_take (i := 7) (oi := { dst := some 6, op := Op.assign (Operand.tmp 22), type := 4, pos := "tree.go:96", after := #[{ on := 6, ground := Ground.data }, { on := 6, ground := Ground.chain }, { on := 0, ground := Ground.phase }, { on := 1, ground := Ground.phase }, { on := 2, ground := Ground.phase }, { on := 3, ground := Ground.phase }, { on := 4, ground := Ground.phase }, { on := 5, ground := Ground.phase }, { on := 6, ground := Ground.phase }], guard := none }) (v := ?_) rfl rfl (by kernel_rfl) (by kernel_rfl) (by kernel_rfl) (fun _ _ _ h => h) ⟨Or.inl ⟨by rfl, ?_⟩, fun _ => rfl⟩ ?_
            rotate_left
            · (intro w; first | (go_simp; done) | (go_simp; with_reducible rfl))
            try simp only [Act.put, List.setIfInBounds_toArray, List.set_cons_zero, List.set_cons_succ]
            refine wpAnyIn_done (by kernel_rfl) ?_ _
            have HX := Lib.hid (And.intro hq hx2)
            clear hq hx2
            gi_wp2
            go_ret
            exact .inr ⟨rfl, q, HX.out.1, HX.out.2⟩
        · go_simp
          refine hK _ _ ?_
          clear hK K
          try simp only [Act.put, List.setIfInBounds_toArray, List.set_cons_zero, List.set_cons_succ]
          refine wpAnyIn_ready (rs := [3]) (by kernel_rfl) (by simp) ?_
          refine (AllReadyIn.cons (o := { dst := some 19, op := Op.load 73 (Operand.tmp 18), type := 73, pos := "tree.go:96", after := #[{ on := 2, ground := Ground.data }], guard := none }) rfl (fun K hK => ?_) AllReadyIn.nil)
          go_simp
          refine hK _ _ ?_
          clear hK K
          try simp only [Act.put, List.setIfInBounds_toArray, List.set_cons_zero, List.set_cons_succ]
          refine wpAnyIn_ready (rs := [6]) (by kernel_rfl) (by simp) ?_
          refine (AllReadyIn.cons (o := { dst := some 22, op := Op.call { callee := Callee.value (Operand.func 59), args := #[Operand.tmp 19, Operand.tmp 20, Operand.tmp 21], argTypes := #[73, 82, 127] }, type := 4, pos := "tree.go:96", after := #[{ on := 3, ground := Ground.data }, { on := 4, ground := Ground.data }, { on := 5, ground := Ground.data }], guard := none }) rfl (fun K hK => ?_) AllReadyIn.nil)
          go_simp
          refine ⟨trivial, fun h => (by cases h), ?_⟩
          refine (IR.out _ (HB0.out.trans HB1.out).drew).mono ?_
          rintro r2 W2 (⟨rfl, hJ2, hk2⟩ | ⟨rfl, q, hq, hx2⟩)
          · dsimp only
            refine hK _ _ ?_
            clear hK K
            try simp only [Act.put, List.setIfInBounds_toArray, List.set_cons_zero, List.set_cons_succ]
            refine wpAnyIn_take (i := 7) (oi := { dst := some 6, op := Op.assign (Operand.tmp 22), type := 4, pos := "tree.go:96", after := #[{ on := 6, ground := Ground.data }, { on := 6, ground := Ground.chain }, { on := 0, ground := Ground.phase }, { on := 1, ground := Ground.phase }, { on := 2, ground := Ground.phase }, { on := 3, ground := Ground.phase }, { on := 4, ground := Ground.phase }, { on := 5, ground := Ground.phase }, { on := 6, ground := Ground.phase }], guard := none }) (v := ?_) rfl rfl (by kernel_rfl) (by kernel_rfl) (by kernel_rfl) (fun _ _ _ h => h) ⟨Or.inl ⟨by rfl, ?_⟩, fun _ => rfl⟩ ?_
            rotate_left
            · (intro w; first | (go_simp; done) | (go_simp; with_reducible rfl))
            try simp only [Act.put, List.setIfInBounds_toArray, List.set_cons_zero, List.set_cons_succ]
            refine wpAnyIn_done (by kernel_rfl) ?_ _
            have HX := Lib.hid (And.intro hJ2 hk2)
            clear hJ2 hk2
            gi_wp2
            go_ret
            exact .inl ⟨rfl, HX.out.1, (KeepTC.of_bel (HB0.out.trans HB1.out).drew hsz).trans HX.out.2⟩
          · dsimp only
            refine hK _ _ ?_
            clear hK K
            try simp only [Act.put, List.setIfInBounds_toArray, List.set_cons_zero, List.set_cons_succ]
            refine wpAnyIn_take (i := 7) (oi := { dst := some 6, op := Op.assign (Operand.tmp 22), type := 4, pos := "tree.go:96", after := #[{ on := 6, ground := Ground.data }, { on := 6, ground := Ground.chain }, { on := 0, ground := Ground.phase }, { on := 1, ground := Ground.phase }, { on := 2, ground := Ground.phase }, { on := 3, ground := Ground.phase }, { on := 4, ground := Ground.phase }, { on := 5, ground := Ground.phase }, { on := 6, ground := Ground.phase }], guard := none }) (v := ?_) rfl rfl (by kernel_rfl) (by kernel_rfl) (by kernel_rfl) (fun _ _ _ h => h) ⟨Or.inl ⟨by rfl, ?_⟩, fun _ => rfl⟩ ?_
            rotate_left
            · (intro w; first | (go_simp; done) | (go_simp; with_reducible rfl))
            try simp only [Act.put, List.setIfInBounds_toArray, List.set_cons_zero, List.set_cons_succ]
            refine wpAnyIn_done (by kernel_rfl) ?_ _
            have HX := Lib.hid (And.intro hq hx2)
            clear hq hx2
            gi_wp2
            go_ret
            exact .inr ⟨rfl, q, HX.out.1, HX.out.2⟩
    | false =>
      obtain ⟨g1, g2⟩ := geq_left hp' ltC_trans hlt
      have hG : geLC c (.node b x v tl tr) = geLC c tl ++ x :: tr.nodes.map Prod.snd := by unfold geLC; rw [TT.nodes, g1, List.map_append]; rfl
      have hR : geLC c tr = tr.nodes.map Prod.snd := by unfold geLC; rw [g2]
      rw [hG] at hN ⊢
      rw [List.length_append, List.length_cons] at hN
      have IL := Lib.hid (fun W1 (hB : Bel W W1) => ihl (n - 1) pre W1 (h.2.1.bel hB) (fun k hk => hlow k (by rw [TT.bs_node]; simp [hk])) (Nat.le_trans hsz hB.size) p1 (hJ pre W W1 hj hB) (by omega) (fun y hy => hP y (by rw [TT.flat_node]; simp [hy])))
      have IR0 := Lib.hid (fun W3 (hk : KeepTC n₀ W W3) (hJ3 : J (pre ++ geLC c tl ++ [x]) W3) => ihr (n - 1) (pre ++ geLC c tl ++ [x]) W3 (h.2.2.below hk.1 (fun k hk => hlow k (by rw [TT.bs_node]; simp [hk]))) (fun k hk => hlow k (by rw [TT.bs_node]; simp [hk])) (Nat.le_trans hsz hk.1.size) p2 hJ3 (by rw [hR]; simp only [List.length_append, List.length_cons, List.length_nil]; omega) (fun y hy => hP y (by rw [TT.flat_node]; simp [hy])))
      rw [hR] at IR0
      clear ihl ihr h hlow hp hp' hj hP p1 p2 p3 p4 hY hJ g1 g2 hG hR
      refine callsIn_of_wp Tryz.func59 rfl trivial ?_ rfl
      simp only [Tryz.ntmps59, List.size_toArray, List.length_cons, List.length_nil, Nat.reduceAdd, Nat.reduceSub, Array.replicate_succ, Array.replicate_zero, List.push_toArray, List.append_toArray, List.nil_append, List.cons_append]
      gi_wp2
      refine wpIn_region_any (by kernel_rfl) ?_
      change wpAnyIn _ _ _ _ _ _ _ _ _ (World.drew _)
      refine wpAnyIn_take (i := 0) (oi := { dst := some 9, op := Op.move (Operand.tmp 0), type := 73, pos := "tree.go:95", after := #[], guard := none }) (v := ?_) rfl rfl (by kernel_rfl) (by kernel_rfl) (by kernel_rfl) (fun _ _ _ h => h) ⟨Or.inl ⟨by rfl, ?_⟩, fun _ => rfl⟩ ?_
      rotate_left
      · (intro w; first | (go_simp; done) | (go_simp; with_reducible rfl))
      try simp only [Act.put, List.setIfInBounds_toArray, List.set_cons_zero, List.set_cons_succ]
      refine wpAnyIn_take (i := 1) (oi := { dst := some 10, op := Op.nilCheck (Operand.tmp 9), type := 0, pos := "tree.go:95", after := #[{ on := 0, ground := Ground.data }], guard := none }) (v := ?_) rfl rfl (by kernel_rfl) (by kernel_rfl) (by kernel_rfl) (fun _ _ _ h => h) ⟨Or.inl ⟨by rfl, ?_⟩, fun _ => rfl⟩ ?_
      rotate_left
      · (intro w; first | (go_simp; done) | (go_simp; with_reducible rfl))
      try simp only [Act.put, List.setIfInBounds_toArray, List.set_cons_zero, List.set_cons_succ]
      refine wpAnyIn_take (i := 2) (oi := { dst := some 11, op := Op.fieldAddr 124 (Operand.tmp 10) 0, type := 0, pos := "tree.go:95", after := #[{ on := 1, ground := Ground.data }], guard := none }) (v := ?_) rfl rfl (by kernel_rfl) (by kernel_rfl) (by kernel_rfl) (fun _ _ _ h => h) ⟨Or.inl ⟨by rfl, ?_⟩, fun _ => rfl⟩ ?_
      rotate_left
      · (intro w; first | (go_simp; done) | (go_simp; with_reducible rfl))
      try simp only [Act.put, List.setIfInBounds_toArray, List.set_cons_zero, List.set_cons_succ]
      refine wpAnyIn_ready (rs := [3, 5]) (by kernel_rfl) (by simp) ?_
      refine (AllReadyIn.cons (o := { dst := some 12, op := Op.load 82 (Operand.tmp 11), type := 82, pos := "tree.go:95", after := #[{ on := 2, ground := Ground.data }], guard := none }) rfl (fun K hK => ?_) (AllReadyIn.cons (o := { dst := some 14, op := Op.load 82 (Operand.tmp 4), type := 82, pos := "tree.go:95", after := #[], guard := none }) rfl (fun K hK => ?_) AllReadyIn.nil))
      · go_simp
        refine hK _ _ ?_
        clear hK K
        try simp only [Act.put, List.setIfInBounds_toArray, List.set_cons_zero, List.set_cons_succ]
        refine wpAnyIn_take (i := 4) (oi := { dst := some 13, op := Op.makeInterface 82 (Operand.tmp 12), type := 20, pos := "tree.go:95", after := #[{ on := 3, ground := Ground.data }], guard := none }) (v := ?_) rfl rfl (by kernel_rfl) (by kernel_rfl) (by kernel_rfl) (fun _ _ _ h => h) ⟨Or.inl ⟨by rfl, ?_⟩, fun _ => rfl⟩ ?_
        rotate_left
        · (intro w; first | (go_simp; done) | (go_simp; with_reducible rfl))
        try simp only [Act.put, List.setIfInBounds_toArray, List.set_cons_zero, List.set_cons_succ]
        refine wpAnyIn_ready (rs := [5]) (by kernel_rfl) (by simp) ?_
        refine (AllReadyIn.cons (o := { dst := some 14, op := Op.load 82 (Operand.tmp 4), type := 82, pos := "tree.go:95", after := #[], guard := none }) rfl (fun K hK => ?_) AllReadyIn.nil)
        go_simp
        refine hK _ _ ?_
        clear hK K
        try simp only [Act.put, List.setIfInBounds_toArray, List.set_cons_zero, List.set_cons_succ]
        refine wpAnyIn_ready (rs := [6]) (by kernel_rfl) (by simp) ?_
        refine (AllReadyIn.cons (o := { dst := some 15, op := Op.call { callee := Callee.invoke (Operand.tmp 13) "moult/memory.less", args := #[Operand.tmp 14], argTypes := #[82] }, type := 4, pos := "tree.go:95", after := #[{ on := 4, ground := Ground.data }, { on := 5, ground := Ground.data }], guard := none }) rfl (fun K hK => ?_) AllReadyIn.nil)
        go_simp
        refine ⟨trivial, fun h => (by cases h), ?_⟩
        refine (callsIn_wide.2 (cless_any x c _)).mono ?_
        rw [hlt]
        rintro r1 W1 ⟨rfl, hb⟩
        dsimp only
        refine hK _ _ ?_
        clear hK K
        try simp only [Act.put, List.setIfInBounds_toArray, List.set_cons_zero, List.set_cons_succ]
        refine wpAnyIn_done (by kernel_rfl) ?_ _
        have hb1 : Bel W0 W1 := by rw [hW0]; exact (Bel.refl _).drew.trans hb
        have HB1 := Lib.hid hb1
        obtain ⟨-, c5, -⟩ := FB.out W1 hb1
        obtain ⟨e0, e1, e2⟩ := FE.out W1 (KeepTC.of_bel hb1 (Nat.le_trans hsz HB0.out.size))
        have FB2 := Lib.hid (fun W2 (hk : KeepTC n₀ W1 W2) => FB0.out W2 (((KeepTC.of_bel (HB0.out.trans HB1.out) hsz).trans hk)))
        have FE2 := Lib.hid (fun W2 (hk : KeepTC n₀ W1 W2) => FE.out W2 ((KeepTC.of_bel HB1.out (Nat.le_trans hsz HB0.out.size)).trans hk))
        have IR2 := Lib.hid (fun W3 (hk : KeepTC n₀ W1 W3) hJ3 => IR0.out W3 ((KeepTC.of_bel (HB0.out.trans HB1.out) hsz).trans hk) hJ3)
        clear hb hb1
        gi_wp2
        refine wpIn_region_any (by kernel_rfl) ?_
        change wpAnyIn _ _ _ _ _ _ _ _ _ (World.drew _)
        refine wpAnyIn_take (i := 0) (oi := { dst := some 23, op := Op.move (Operand.tmp 0), type := 73, pos := "tree.go:98", after := #[], guard := none }) (v := ?_) rfl rfl (by kernel_rfl) (by kernel_rfl) (by kernel_rfl) (fun _ _ _ h => h) ⟨Or.inl ⟨by rfl, ?_⟩, fun _ => rfl⟩ ?_
        rotate_left
        · (intro w; first | (go_simp; done) | (go_simp; with_reducible rfl))
        try simp only [Act.put, List.setIfInBounds_toArray, List.set_cons_zero, List.set_cons_succ]
        refine wpAnyIn_take (i := 1) (oi := { dst := some 24, op := Op.nilCheck (Operand.tmp 23), type := 0, pos := "tree.go:98", after := #[{ on := 0, ground := Ground.data }], guard := none }) (v := ?_) rfl rfl (by kernel_rfl) (by kernel_rfl) (by kernel_rfl) (fun _ _ _ h => h) ⟨Or.inl ⟨by rfl, ?_⟩, fun _ => rfl⟩ ?_
        rotate_left
        · (intro w; first | (go_simp; done) | (go_simp; with_reducible rfl))
        try simp only [Act.put, List.setIfInBounds_toArray, List.set_cons_zero, List.set_cons_succ]
        refine wpAnyIn_take (i := 2) (oi := { dst := some 25, op := Op.fieldAddr 124 (Operand.tmp 24) 2, type := 0, pos := "tree.go:98", after := #[{ on := 1, ground := Ground.data }], guard := none }) (v := ?_) rfl rfl (by kernel_rfl) (by kernel_rfl) (by kernel_rfl) (fun _ _ _ h => h) ⟨Or.inl ⟨by rfl, ?_⟩, fun _ => rfl⟩ ?_
        rotate_left
        · (intro w; first | (go_simp; done) | (go_simp; with_reducible rfl))
        try simp only [Act.put, List.setIfInBounds_toArray, List.set_cons_zero, List.set_cons_succ]
        refine wpAnyIn_take (i := 5) (oi := { dst := some 28, op := Op.move (Operand.tmp 2), type := 127, pos := "tree.go:98", after := #[], guard := none }) (v := ?_) rfl rfl (by kernel_rfl) (by kernel_rfl) (by kernel_rfl) (fun _ _ _ h => h) ⟨Or.inl ⟨by rfl, ?_⟩, fun _ => rfl⟩ ?_
        rotate_left
        · (intro w; first | (go_simp; done) | (go_simp; with_reducible rfl))
        try simp only [Act.put, List.setIfInBounds_toArray, List.set_cons_zero, List.set_cons_succ]
        refine wpAnyIn_ready (rs := [3, 4]) (by kernel_rfl) (by simp) ?_
        refine (AllReadyIn.cons (o := { dst := some 26, op := Op.load 73 (Operand.tmp 25), type := 73, pos := "tree.go:98", after := #[{ on := 2, ground := Ground.data }], guard := none }) rfl (fun K hK => ?_) (AllReadyIn.cons (o := { dst := some 27, op := Op.load 82 (Operand.tmp 4), type := 82, pos := "tree.go:98", after := #[], guard := none }) rfl (fun K hK => ?_) AllReadyIn.nil))
        · go_simp
          refine hK _ _ ?_
          clear hK K
          try simp only [Act.put, List.setIfInBounds_toArray, List.set_cons_zero, List.set_cons_succ]
          refine wpAnyIn_ready (rs := [4]) (by kernel_rfl) (by simp) ?_
          refine (AllReadyIn.cons (o := { dst := some 27, op := Op.load 82 (Operand.tmp 4), type := 82, pos := "tree.go:98", after := #[], guard := none }) rfl (fun K hK => ?_) AllReadyIn.nil)
          go_simp
          refine hK _ _ ?_
          clear hK K
          try simp only [Act.put, List.setIfInBounds_toArray, List.set_cons_zero, List.set_cons_succ]
          refine wpAnyIn_ready (rs := [6]) (by kernel_rfl) (by simp) ?_
          refine (AllReadyIn.cons (o := { dst := some 29, op := Op.call { callee := Callee.value (Operand.func 59), args := #[Operand.tmp 26, Operand.tmp 27, Operand.tmp 28], argTypes := #[73, 82, 127] }, type := 4, pos := "tree.go:98", after := #[{ on := 3, ground := Ground.data }, { on := 4, ground := Ground.data }, { on := 5, ground := Ground.data }], guard := none }) rfl (fun K hK => ?_) AllReadyIn.nil)
          go_simp
          refine ⟨trivial, fun h => (by cases h), ?_⟩
          refine (IL.out _ (HB0.out.trans HB1.out).drew).mono ?_
          rintro r2 W2 (⟨rfl, hJ2, hk2⟩ | ⟨rfl, q, hq, hx2⟩)
          · dsimp only
            refine hK _ _ ?_
            clear hK K
            try simp only [Act.put, List.setIfInBounds_toArray, List.set_cons_zero, List.set_cons_succ]
            replace hk2 : KeepTC n₀ W1 W2 := (KeepTC.of_bel (Bel.refl W1).drew (Nat.le_trans hsz (HB0.out.trans HB1.out).size)).trans hk2
            clear e0 e1 e2
            obtain ⟨⟨c0, c1, c2⟩, -, -⟩ := FB2.out W2 hk2
            refine wpAnyIn_take (i := 7) (oi := { dst := some 30, op := Op.move (Operand.tmp 29), type := 4, pos := "tree.go:98", after := #[{ on := 6, ground := Ground.data }, { on := 6, ground := Ground.chain }], guard := none }) (v := ?_) rfl rfl (by kernel_rfl) (by kernel_rfl) (by kernel_rfl) (fun _ _ _ h => h) ⟨Or.inl ⟨by rfl, ?_⟩, fun _ => rfl⟩ ?_
            rotate_left
            · (intro w; first | (go_simp; done) | (go_simp; with_reducible rfl))
            try simp only [Act.put, List.setIfInBounds_toArray, List.set_cons_zero, List.set_cons_succ]
            refine wpAnyIn_take (i := 8) (oi := { dst := some 31, op := Op.move (Operand.tmp 2), type := 127, pos := "tree.go:98", after := #[{ on := 7, ground := Ground.guard }], guard := some (7, true) }) (v := ?_) rfl rfl (by kernel_rfl) (by kernel_rfl) (by kernel_rfl) (fun _ _ _ h => h) ⟨Or.inl ⟨by rfl, ?_⟩, fun _ => rfl⟩ ?_
            rotate_left
            · (intro w; first | (go_simp; done) | (go_simp; with_reducible rfl))
            try simp only [Act.put, List.setIfInBounds_toArray, List.set_cons_zero, List.set_cons_succ]
            refine wpAnyIn_take (i := 9) (oi := { dst := some 32, op := Op.move (Operand.tmp 0), type := 73, pos := "tree.go:98", after := #[{ on := 7, ground := Ground.guard }], guard := some (7, true) }) (v := ?_) rfl rfl (by kernel_rfl) (by kernel_rfl) (by kernel_rfl) (fun _ _ _ h => h) ⟨Or.inl ⟨by rfl, ?_⟩, fun _ => rfl⟩ ?_
            rotate_left
            · (intro w; first | (go_simp; done) | (go_simp; with_reducible rfl))
            try simp only [Act.put, List.setIfInBounds_toArray, List.set_cons_zero, List.set_cons_succ]
            refine wpAnyIn_take (i := 10) (oi := { dst := some 33, op := Op.nilCheck (Operand.tmp 32), type := 0, pos := "tree.go:98", after := #[{ on := 9, ground := Ground.data }, { on := 7, ground := Ground.guard }], guard := some (7, true) }) (v := ?_) rfl rfl (by kernel_rfl) (by kernel_rfl) (by kernel_rfl) (fun _ _ _ h => h) ⟨Or.inl ⟨by rfl, ?_⟩, fun _ => rfl⟩ ?_
            rotate_left
            · (intro w; first | (go_simp; done) | (go_simp; with_reducible rfl))
            try simp only [Act.put, List.setIfInBounds_toArray, List.set_cons_zero, List.set_cons_succ]
            refine wpAnyIn_take (i := 11) (oi := { dst := some 34, op := Op.fieldAddr 124 (Operand.tmp 33) 0, type := 0, pos := "tree.go:98", after := #[{ on := 10, ground := Ground.data }, { on := 7, ground := Ground.guard }], guard := some (7, true) }) (v := ?_) rfl rfl (by kernel_rfl) (by kernel_rfl) (by kernel_rfl) (fun _ _ _ h => h) ⟨Or.inl ⟨by rfl, ?_⟩, fun _ => rfl⟩ ?_
            rotate_left
            · (intro w; first | (go_simp; done) | (go_simp; with_reducible rfl))
            try simp only [Act.put, List.setIfInBounds_toArray, List.set_cons_zero, List.set_cons_succ]
            refine wpAnyIn_ready (rs := [12]) (by kernel_rfl) (by simp) ?_
            refine (AllReadyIn.cons (o := { dst := some 35, op := Op.load 82 (Operand.tmp 34), type := 82, pos := "tree.go:98", after := #[{ on := 11, ground := Ground.data }, { on := 7, ground := Ground.guard }], guard := some (7, true) }) rfl (fun K hK => ?_) AllReadyIn.nil)
            go_simp
            refine hK _ _ ?_
            clear hK K
            try simp only [Act.put, List.setIfInBounds_toArray, List.set_cons_zero, List.set_cons_succ]
            clear c0 c1 c2
            obtain ⟨fn, tmps, assign, body, hy, hR⟩ := HY.out (n - 1) (pre ++ geLC c tl) W2 hJ2 (by rw [List.length_append]; omega)
            refine wpAnyIn_ready (rs := [13]) (by kernel_rfl) (by simp) ?_
            refine (AllReadyIn.cons (o := { dst := some 36, op := Op.call { callee := Callee.value (Operand.tmp 31), args := #[Operand.tmp 35], argTypes := #[82] }, type := 4, pos := "tree.go:98", after := #[{ on := 8, ground := Ground.data }, { on := 12, ground := Ground.data }, { on := 7, ground := Ground.chain }, { on := 7, ground := Ground.guard }], guard := some (7, true) }) rfl (fun K hK => ?_) AllReadyIn.nil)
            go_simp
            refine ⟨fun h => (by cases h), ?_⟩
            refine hR.mono ?_
            rintro r3 W3 (⟨rfl, hJ3, hk3⟩ | ⟨rfl, hx3⟩)
            · clear hy hR
              dsimp only
              refine hK _ _ ?_
              clear hK K
              try simp only [Act.put, List.setIfInBounds_toArray, List.set_cons_zero, List.set_cons_succ]
              obtain ⟨-, -, c6⟩ := FB2.out W3 (hk2.trans hk3)
              obtain ⟨e0, e1, e2⟩ := FE2.out W3 (hk2.trans hk3)
              refine wpAnyIn_take (i := 14) (oi := { dst := some 37, op := Op.pick (Operand.tmp 30) (Operand.tmp 36) (Operand.const (Value.bool false)), type := 4, pos := "tree.go:98", after := #[{ on := 7, ground := Ground.data }, { on := 13, ground := Ground.data }], guard := none }) (v := ?_) rfl rfl (by kernel_rfl) (by kernel_rfl) (by kernel_rfl) (fun _ _ _ h => h) ⟨Or.inl ⟨by rfl, ?_⟩, fun _ => rfl⟩ ?_
              rotate_left
              · (intro w; first | (go_simp; done) | (go_simp; with_reducible rfl))
              try simp only [Act.put, List.setIfInBounds_toArray, List.set_cons_zero, List.set_cons_succ]
              refine wpAnyIn_take (i := 15) (oi := { dst := some 38, op := Op.move (Operand.tmp 37), type := 4, pos := "tree.go:98", after := #[{ on := 14, ground := Ground.data }, { on := 13, ground := Ground.chain }], guard := none }) (v := ?_) rfl rfl (by kernel_rfl) (by kernel_rfl) (by kernel_rfl) (fun _ _ _ h => h) ⟨Or.inl ⟨by rfl, ?_⟩, fun _ => rfl⟩ ?_
              rotate_left
              · (intro w; first | (go_simp; done) | (go_simp; with_reducible rfl))
              try simp only [Act.put, List.setIfInBounds_toArray, List.set_cons_zero, List.set_cons_succ]
              refine wpAnyIn_take (i := 16) (oi := { dst := some 39, op := Op.move (Operand.tmp 0), type := 73, pos := "tree.go:98", after := #[{ on := 15, ground := Ground.guard }], guard := some (15, true) }) (v := ?_) rfl rfl (by kernel_rfl) (by kernel_rfl) (by kernel_rfl) (fun _ _ _ h => h) ⟨Or.inl ⟨by rfl, ?_⟩, fun _ => rfl⟩ ?_
              rotate_left
              · (intro w; first | (go_simp; done) | (go_simp; with_reducible rfl))
              try simp only [Act.put, List.setIfInBounds_toArray, List.set_cons_zero, List.set_cons_succ]
              refine wpAnyIn_take (i := 17) (oi := { dst := some 40, op := Op.nilCheck (Operand.tmp 39), type := 0, pos := "tree.go:98", after := #[{ on := 16, ground := Ground.data }, { on := 15, ground := Ground.guard }], guard := some (15, true) }) (v := ?_) rfl rfl (by kernel_rfl) (by kernel_rfl) (by kernel_rfl) (fun _ _ _ h => h) ⟨Or.inl ⟨by rfl, ?_⟩, fun _ => rfl⟩ ?_
              rotate_left
              · (intro w; first | (go_simp; done) | (go_simp; with_reducible rfl))
              try simp only [Act.put, List.setIfInBounds_toArray, List.set_cons_zero, List.set_cons_succ]
              refine wpAnyIn_take (i := 18) (oi := { dst := some 41, op := Op.fieldAddr 124 (Operand.tmp 40) 3, type := 0, pos := "tree.go:98", after := #[{ on := 17, ground := Ground.data }, { on := 15, ground := Ground.guard }], guard := some (15, true) }) (v := ?_) rfl rfl (by kernel_rfl) (by kernel_rfl) (by kernel_rfl) (fun _ _ _ h => h) ⟨Or.inl ⟨by rfl, ?_⟩, fun _ => rfl⟩ ?_
              rotate_left
              · (intro w; first | (go_simp; done) | (go_simp; with_reducible rfl))
              try simp only [Act.put, List.setIfInBounds_toArray, List.set_cons_zero, List.set_cons_succ]
              refine wpAnyIn_take (i := 21) (oi := { dst := some 44, op := Op.move (Operand.tmp 2), type := 127, pos := "tree.go:98", after := #[{ on := 15, ground := Ground.guard }], guard := some (15, true) }) (v := ?_) rfl rfl (by kernel_rfl) (by kernel_rfl) (by kernel_rfl) (fun _ _ _ h => h) ⟨Or.inl ⟨by rfl, ?_⟩, fun _ => rfl⟩ ?_
              rotate_left
              · (intro w; first | (go_simp; done) | (go_simp; with_reducible rfl))
              try simp only [Act.put, List.setIfInBounds_toArray, List.set_cons_zero, List.set_cons_succ]
              refine wpAnyIn_ready (rs := [19, 20]) (by kernel_rfl) (by simp) ?_
              refine (AllReadyIn.cons (o := { dst := some 42, op := Op.load 73 (Operand.tmp 41), type := 73, pos := "tree.go:98", after := #[{ on := 18, ground := Ground.data }, { on := 15, ground := Ground.guard }], guard := some (15, true) }) rfl (fun K hK => ?_) (AllReadyIn.cons (o := { dst := some 43, op := Op.load 82 (Operand.tmp 4), type := 82, pos := "tree.go:98", after := #[{ on := 15, ground := Ground.guard }], guard := some (15, true) }) rfl (fun K hK => ?_) AllReadyIn.nil))
              · go_simp
                refine hK _ _ ?_
                clear hK K
                try simp only [Act.put, List.setIfInBounds_toArray, List.set_cons_zero, List.set_cons_succ]
                refine wpAnyIn_ready (rs := [20]) (by kernel_rfl) (by simp) ?_
                refine (AllReadyIn.cons (o := { dst := some 43, op := Op.load 82 (Operand.tmp 4), type := 82, pos := "tree.go:98", after := #[{ on := 15, ground := Ground.guard }], guard := some (15, true) }) rfl (fun K hK => ?_) AllReadyIn.nil)
                go_simp
                refine hK _ _ ?_
                clear hK K
                try simp only [Act.put, List.setIfInBounds_toArray, List.set_cons_zero, List.set_cons_succ]
                refine wpAnyIn_ready (rs := [22]) (by kernel_rfl) (by simp) ?_
                refine (AllReadyIn.cons (o := { dst := some 45, op := Op.call { callee := Callee.value (Operand.func 59), args := #[Operand.tmp 42, Operand.tmp 43, Operand.tmp 44], argTypes := #[73, 82, 127] }, type := 4, pos := "tree.go:98", after := #[{ on := 19, ground := Ground.data }, { on := 20, ground := Ground.data }, { on := 21, ground := Ground.data }, { on := 15, ground := Ground.chain }, { on := 15, ground := Ground.guard }], guard := some (15, true) }) rfl (fun K hK => ?_) AllReadyIn.nil)
                go_simp
                refine ⟨trivial, fun h => (by cases h), ?_⟩
                refine (IR2.out W3 (hk2.trans hk3) hJ3).mono ?_
                rintro r4 W4 (⟨rfl, hJ4, hk4⟩ | ⟨rfl, q, hq, hx4⟩)
                · dsimp only
                  refine hK _ _ ?_
                  clear hK K
                  try simp only [Act.put, List.setIfInBounds_toArray, List.set_cons_zero, List.set_cons_succ]
                  refine wpAnyIn_take (i := 23) (oi := { dst := some 46, op := Op.pick (Operand.tmp 38) (Operand.tmp 45) (Operand.const (Value.bool false)), type := 4, pos := "tree.go:98", after := #[{ on := 15, ground := Ground.data }, { on := 22, ground := Ground.data }], guard := none }) (v := ?_) rfl rfl (by kernel_rfl) (by kernel_rfl) (by kernel_rfl) (fun _ _ _ h => h) ⟨Or.inl ⟨by rfl, ?_⟩, fun _ => rfl⟩ ?_
                  rotate_left
                  · (intro w; first | (go_simp; done) | (go_simp; with_reducible rfl))
                  try simp only [Act.put, List.setIfInBounds_toArray, List.set_cons_zero, List.set_cons_succ]
                  refine wpAnyIn_take (i := 24) (oi := { dst := some 6, op := Op.assign (Operand.tmp 46), type := 4, pos := "tree.go:98", after := #[{ on := 23, ground := Ground.data }, { on := 22, ground := Ground.chain }, { on := 0, ground := Ground.phase }, { on := 1, ground := Ground.phase }, { on := 2, ground := Ground.phase }, { on := 3, ground := Ground.phase }, { on := 4, ground := Ground.phase }, { on := 5, ground := Ground.phase }, { on := 6, ground := Ground.phase }, { on := 7, ground := Ground.phase }, { on := 8, ground := Ground.phase }, { on := 9, ground := Ground.phase }, { on := 10, ground := Ground.phase }, { on := 11, ground := Ground.phase }, { on := 12, ground := Ground.phase }, { on := 13, ground := Ground.phase }, { on := 14, ground := Ground.phase }, { on := 15, ground := Ground.phase }, { on := 16, ground := Ground.phase }, { on := 17, ground := Ground.phase }, { on := 18, ground := Ground.phase }, { on := 19, ground := Ground.phase }, { on := 20, ground := Ground.phase }, { on := 21, ground := Ground.phase }, { on := 22, ground := Ground.phase }, { on := 23, ground := Ground.phase }], guard := none }) (v := ?_) rfl rfl (by kernel_rfl) (by kernel_rfl) (by kernel_rfl) (fun _ _ _ h => h) ⟨Or.inl ⟨by rfl, ?_⟩, fun _ => rfl⟩ ?_
                  rotate_left
                  · (intro w; first | (go_simp; done) | (go_simp; with_reducible rfl))
                  try simp only [Act.put, List.setIfInBounds_toArray, List.set_cons_zero, List.set_cons_succ]
                  refine wpAnyIn_done (by kernel_rfl) ?_ _
                  have HX := Lib.hid (And.intro hJ4 (((KeepTC.of_bel (HB0.out.trans HB1.out) hsz).trans hk2).trans (hk3.trans hk4)))
                  clear hJ4 hk4 hk2 hk3 hJ3
                  gi_wp2
                  go_ret
                  exact .inl ⟨rfl, by simpa using HX.out.1, HX.out.2⟩
                · dsimp only
                  refine hK _ _ ?_
                  clear hK K
                  try simp only [Act.put, List.setIfInBounds_toArray, List.set_cons_zero, List.set_cons_succ]
                  refine wpAnyIn_take (i := 23) (oi := { dst := some 46, op := Op.pick (Operand.tmp 38) (Operand.tmp 45) (Operand.const (Value.bool false)), type := 4, pos := "tree.go:98", after := #[{ on := 15, ground := Ground.data }, { on := 22, ground := Ground.data }], guard := none }) (v := ?_) rfl rfl (by kernel_rfl) (by kernel_rfl) (by kernel_rfl) (fun _ _ _ h => h) ⟨Or.inl ⟨by rfl, ?_⟩, fun _ => rfl⟩ ?_
                  rotate_left
                  · (intro w; first | (go_simp; done) | (go_simp; with_reducible rfl))
                  try simp only [Act.put, List.setIfInBounds_toArray, List.set_cons_zero, List.set_cons_succ]
                  refine wpAnyIn_take (i := 24) (oi := { dst := some 6, op := Op.assign (Operand.tmp 46), type := 4, pos := "tree.go:98", after := #[{ on := 23, ground := Ground.data }, { on := 22, ground := Ground.chain }, { on := 0, ground := Ground.phase }, { on := 1, ground := Ground.phase }, { on := 2, ground := Ground.phase }, { on := 3, ground := Ground.phase }, { on := 4, ground := Ground.phase }, { on := 5, ground := Ground.phase }, { on := 6, ground := Ground.phase }, { on := 7, ground := Ground.phase }, { on := 8, ground := Ground.phase }, { on := 9, ground := Ground.phase }, { on := 10, ground := Ground.phase }, { on := 11, ground := Ground.phase }, { on := 12, ground := Ground.phase }, { on := 13, ground := Ground.phase }, { on := 14, ground := Ground.phase }, { on := 15, ground := Ground.phase }, { on := 16, ground := Ground.phase }, { on := 17, ground := Ground.phase }, { on := 18, ground := Ground.phase }, { on := 19, ground := Ground.phase }, { on := 20, ground := Ground.phase }, { on := 21, ground := Ground.phase }, { on := 22, ground := Ground.phase }, { on := 23, ground := Ground.phase }], guard := none }) (v := ?_) rfl rfl (by kernel_rfl) (by kernel_rfl) (by kernel_rfl) (fun _ _ _ h => h) ⟨Or.inl ⟨by rfl, ?_⟩, fun _ => rfl⟩ ?_
                  rotate_left
                  · (intro w; first | (go_simp; done) | (go_simp; with_reducible rfl))
                  try simp only [Act.put, List.setIfInBounds_toArray, List.set_cons_zero, List.set_cons_succ]
                  refine wpAnyIn_done (by kernel_rfl) ?_ _
                  have HX := Lib.hid (And.intro hq hx4)
                  clear hq hx4 hk2 hk3 hJ3
                  gi_wp2
                  go_ret
                  obtain ⟨q2, hq2⟩ := HX.out.1
                  exact .inr ⟨rfl, geLC c tl ++ x :: q, ⟨q2, by rw [← hq2]; simp⟩, by simpa using HX.out.2⟩
              · go_simp
                refine hK _ _ ?_
                clear hK K
                try simp only [Act.put, List.setIfInBounds_toArray, List.set_cons_zero, List.set_cons_succ]
                refine wpAnyIn_ready (rs := [19]) (by kernel_rfl) (by simp) ?_
                refine (AllReadyIn.cons (o := { dst := some 42, op := Op.load 73 (Operand.tmp 41), type := 73, pos := "tree.go:98", after := #[{ on := 18, ground := Ground.data }, { on := 15, ground := Ground.guard }], guard := some (15, true) }) rfl (fun K hK => ?_) AllReadyIn.nil)
                go_simp
                refine hK _ _ ?_
                clear hK K
                try simp only [Act.put, List.setIfInBounds_toArray, List.set_cons_zero, List.set_cons_succ]
                refine wpAnyIn_ready (rs := [22]) (by kernel_rfl) (by simp) ?_
                refine (AllReadyIn.cons (o := { dst := some 45, op := Op.call { callee := Callee.value (Operand.func 59), args := #[Operand.tmp 42, Operand.tmp 43, Operand.tmp 44], argTypes := #[73, 82, 127] }, type := 4, pos := "tree.go:98", after := #[{ on := 19, ground := Ground.data }, { on := 20, ground := Ground.data }, { on := 21, ground := Ground.data }, { on := 15, ground := Ground.chain }, { on := 15, ground := Ground.guard }], guard := some (15, true) }) rfl (fun K hK => ?_) AllReadyIn.nil)
                go_simp
                refine ⟨trivial, fun h => (by cases h), ?_⟩
                refine (IR2.out W3 (hk2.trans hk3) hJ3).mono ?_
                rintro r4 W4 (⟨rfl, hJ4, hk4⟩ | ⟨rfl, q, hq, hx4⟩)
                · dsimp only
                  refine hK _ _ ?_
                  clear hK K
                  try simp only [Act.put, List.setIfInBounds_toArray, List.set_cons_zero, List.set_cons_succ]
                  refine wpAnyIn_take (i := 23) (oi := { dst := some 46, op := Op.pick (Operand.tmp 38) (Operand.tmp 45) (Operand.const (Value.bool false)), type := 4, pos := "tree.go:98", after := #[{ on := 15, ground := Ground.data }, { on := 22, ground := Ground.data }], guard := none }) (v := ?_) rfl rfl (by kernel_rfl) (by kernel_rfl) (by kernel_rfl) (fun _ _ _ h => h) ⟨Or.inl ⟨by rfl, ?_⟩, fun _ => rfl⟩ ?_
                  rotate_left
                  · (intro w; first | (go_simp; done) | (go_simp; with_reducible rfl))
                  try simp only [Act.put, List.setIfInBounds_toArray, List.set_cons_zero, List.set_cons_succ]
                  refine wpAnyIn_take (i := 24) (oi := { dst := some 6, op := Op.assign (Operand.tmp 46), type := 4, pos := "tree.go:98", after := #[{ on := 23, ground := Ground.data }, { on := 22, ground := Ground.chain }, { on := 0, ground := Ground.phase }, { on := 1, ground := Ground.phase }, { on := 2, ground := Ground.phase }, { on := 3, ground := Ground.phase }, { on := 4, ground := Ground.phase }, { on := 5, ground := Ground.phase }, { on := 6, ground := Ground.phase }, { on := 7, ground := Ground.phase }, { on := 8, ground := Ground.phase }, { on := 9, ground := Ground.phase }, { on := 10, ground := Ground.phase }, { on := 11, ground := Ground.phase }, { on := 12, ground := Ground.phase }, { on := 13, ground := Ground.phase }, { on := 14, ground := Ground.phase }, { on := 15, ground := Ground.phase }, { on := 16, ground := Ground.phase }, { on := 17, ground := Ground.phase }, { on := 18, ground := Ground.phase }, { on := 19, ground := Ground.phase }, { on := 20, ground := Ground.phase }, { on := 21, ground := Ground.phase }, { on := 22, ground := Ground.phase }, { on := 23, ground := Ground.phase }], guard := none }) (v := ?_) rfl rfl (by kernel_rfl) (by kernel_rfl) (by kernel_rfl) (fun _ _ _ h => h) ⟨Or.inl ⟨by rfl, ?_⟩, fun _ => rfl⟩ ?_
                  rotate_left
                  · (intro w; first | (go_simp; done) | (go_simp; with_reducible rfl))
                  try simp only [Act.put, List.setIfInBounds_toArray, List.set_cons_zero, List.set_cons_succ]
                  refine wpAnyIn_done (by kernel_rfl) ?_ _
                  have HX := Lib.hid (And.intro hJ4 (((KeepTC.of_bel (HB0.out.trans HB1.out) hsz).trans hk2).trans (hk3.trans hk4)))
                  clear hJ4 hk4 hk2 hk3 hJ3
                  gi_wp2
                  go_ret
                  exact .inl ⟨rfl, by simpa using HX.out.1, HX.out.2⟩
                · dsimp only
                  refine hK _ _ ?_
                  clear hK K
                  try simp only [Act.put, List.setIfInBounds_toArray, List.set_cons_zero, List.set_cons_succ]
                  refine wpAnyIn_take (i := 23) (oi := { dst := some 46, op := Op.pick (Operand.tmp 38) (Operand.tmp 45) (Operand.const (Value.bool false)), type := 4, pos := "tree.go:98", after := #[{ on := 15, ground := Ground.data }, { on := 22, ground := Ground.data }], guard := none }) (v := ?_) rfl rfl (by kernel_rfl) (by kernel_rfl) (by kernel_rfl) (fun _ _ _ h => h) ⟨Or.inl ⟨by rfl, ?_⟩, fun _ => rfl⟩ ?_
                  rotate_left
                  · (intro w; first | (go_simp; done) | (go_simp; with_reducible rfl))
                  try simp only [Act.put, List.setIfInBounds_toArray, List.set_cons_zero, List.set_cons_succ]
                  refine wpAnyIn_take (i := 24) (oi := { dst := some 6, op := Op.assign (Operand.tmp 46), type := 4, pos := "tree.go:98", after := #[{ on := 23, ground := Ground.data }, { on := 22, ground := Ground.chain }, { on := 0, ground := Ground.phase }, { on := 1, ground := Ground.phase }, { on := 2, ground := Ground.phase }, { on := 3, ground := Ground.phase }, { on := 4, ground := Ground.phase }, { on := 5, ground := Ground.phase }, { on := 6, ground := Ground.phase }, { on := 7, ground := Ground.phase }, { on := 8, ground := Ground.phase }, { on := 9, ground := Ground.phase }, { on := 10, ground := Ground.phase }, { on := 11, ground := Ground.phase }, { on := 12, ground := Ground.phase }, { on := 13, ground := Ground.phase }, { on := 14, ground := Ground.phase }, { on := 15, ground := Ground.phase }, { on := 16, ground := Ground.phase }, { on := 17, ground := Ground.phase }, { on := 18, ground := Ground.phase }, { on := 19, ground := Ground.phase }, { on := 20, ground := Ground.phase }, { on := 21, ground := Ground.phase }, { on := 22, ground := Ground.phase }, { on := 23, ground := Ground.phase }], guard := none }) (v := ?_) rfl rfl (by kernel_rfl) (by kernel_rfl) (by kernel_rfl) (fun _ _ _ h => h) ⟨Or.inl ⟨by rfl, ?_⟩, fun _ => rfl⟩ ?_
                  rotate_left
                  · (intro w; first | (go_simp; done) | (go_simp; with_reducible rfl))
                  try simp only [Act.put, List.setIfInBounds_toArray, List.set_cons_zero, List.set_cons_succ]
                  refine wpAnyIn_done (by kernel_rfl) ?_ _
                  have HX := Lib.hid (And.intro hq hx4)
                  clear hq hx4 hk2 hk3 hJ3
                  gi_wp2
                  go_ret
                  obtain ⟨q2, hq2⟩ := HX.out.1
                  exact .inr ⟨rfl, geLC c tl ++ x :: q, ⟨q2, by rw [← hq2]; simp⟩, by simpa using HX.out.2⟩
            · clear hy hR
              dsimp only
              refine hK _ _ ?_
              clear hK K
              try simp only [Act.put, List.setIfInBounds_toArray, List.set_cons_zero, List.set_cons_succ]
              refine wpAnyIn_take (i := 14) (oi := { dst := some 37, op := Op.pick (Operand.tmp 30) (Operand.tmp 36) (Operand.const (Value.bool false)), type := 4, pos := "tree.go:98", after := #[{ on := 7, ground := Ground.data }, { on := 13, ground := Ground.data }], guard := none }) (v := ?_) rfl rfl (by kernel_rfl) (by kernel_rfl) (by kernel_rfl) (fun _ _ _ h => h) ⟨Or.inl ⟨by rfl, ?_⟩, fun _ => rfl⟩ ?_
              rotate_left
              · (intro w; first | (go_simp; done) | (go_simp; with_reducible rfl))
              try simp only [Act.put, List.setIfInBounds_toArray, List.set_cons_zero, List.set_cons_succ]
              refine wpAnyIn_take (i := 15) (oi := { dst := some 38, op := Op.move (Operand.tmp 37), type := 4, pos := "tree.go:98", after := #[{ on := 14, ground := Ground.data }, { on := 13, ground := Ground.chain }], guard := none }) (v := ?_) rfl rfl (by kernel_rfl) (by kernel_rfl) (by kernel_rfl) (fun _ _ _ h => h) ⟨Or.inl ⟨by rfl, ?_⟩, fun _ => rfl⟩ ?_
              rotate_left
              · (intro w; first | (go_simp; done) | (go_simp; with_reducible rfl))
              try simp only [Act.put, List.setIfInBounds_toArray, List.set_cons_zero, List.set_cons_succ]
              refine wpAnyIn_take (i := 16) (oi := { dst := some 39, op := Op.move (Operand.tmp 0), type := 73, pos := "tree.go:98", after := #[{ on := 15, ground := Ground.guard }], guard := some (15, true) }) (v := undef) rfl rfl (by kernel_rfl) (by kernel_rfl) (by kernel_rfl) (fun _ _ _ h => h) ⟨Or.inr ⟨by rfl, rfl⟩, fun _ => rfl⟩ ?_
              try simp only [Act.put, List.setIfInBounds_toArray, List.set_cons_zero, List.set_cons_succ]
              refine wpAnyIn_take (i := 17) (oi := { dst := some 40, op := Op.nilCheck (Operand.tmp 39), type := 0, pos := "tree.go:98", after := #[{ on := 16, ground := Ground.data }, { on := 15, ground := Ground.guard }], guard := some (15, true) }) (v := undef) rfl rfl (by kernel_rfl) (by kernel_rfl) (by kernel_rfl) (fun _ _ _ h => h) ⟨Or.inr ⟨by rfl, rfl⟩, fun _ => rfl⟩ ?_
              try simp only [Act.put, List.setIfInBounds_toArray, List.set_cons_zero, List.set_cons_succ]
              refine wpAnyIn_take (i := 18) (oi := { dst := some 41, op := Op.fieldAddr 124 (Operand.tmp 40) 3, type := 0, pos := "tree.go:98", after := #[{ on := 17, ground := Ground.data }, { on := 15, ground := Ground.guard }], guard := some (15, true) }) (v := undef) rfl rfl (by kernel_rfl) (by kernel_rfl) (by kernel_rfl) (fun _ _ _ h => h) ⟨Or.inr ⟨by rfl, rfl⟩, fun _ => rfl⟩ ?_
              try simp only [Act.put, List.setIfInBounds_toArray, List.set_cons_zero, List.set_cons_succ]
              refine wpAnyIn_take (i := 19) (oi := { dst := some 42, op := Op.load 73 (Operand.tmp 41), type := 73, pos := "tree.go:98", after := #[{ on := 18, ground := Ground.data }, { on := 15, ground := Ground.guard }], guard := some (15, true) }) (v := undef) rfl rfl (by kernel_rfl) (by kernel_rfl) (by kernel_rfl) (fun _ _ _ h => h) ⟨Or.inr ⟨by rfl, rfl⟩, fun _ => rfl⟩ ?_
              try simp only [Act.put, List.setIfInBounds_toArray, List.set_cons_zero, List.set_cons_succ]
              refine wpAnyIn_take (i := 20) (oi := { dst := some 43, op := Op.load 82 (Operand.tmp 4), type := 82, pos := "tree.go:98", after := #[{ on := 15, ground := Ground.guard }], guard := some (15, true) }) (v := undef) rfl rfl (by kernel_rfl) (by kernel_rfl) (by kernel_rfl) (fun _ _ _ h => h) ⟨Or.inr ⟨by rfl, rfl⟩, fun _ => rfl⟩ ?_
              try simp only [Act.put, List.setIfInBounds_toArray, List.set_cons_zero, List.set_cons_succ]
              refine wpAnyIn_take (i := 21) (oi := { dst := some 44, op := Op.move (Operand.tmp 2), type := 127, pos := "tree.go:98", after := #[{ on := 15, ground := Ground.guard }], guard := some (15, true) }) (v := undef) rfl rfl (by kernel_rfl) (by kernel_rfl) (by kernel_rfl) (fun _ _ _ h => h) ⟨Or.inr ⟨by rfl, rfl⟩, fun _ => rfl⟩ ?_
              try simp only [Act.put, List.setIfInBounds_toArray, List.set_cons_zero, List.set_cons_succ]
              refine wpAnyIn_ready (rs := [22]) (by kernel_rfl) (by simp) ?_
              refine AllReadyIn.cons (o := { dst := some 45, op := Op.call { callee := Callee.value (Operand.func 59), args := #[Operand.tmp 42, Operand.tmp 43, Operand.tmp 44], argTypes := #[73, 82, 127] }, type := 4, pos := "tree.go:98", after := #[{ on := 19, ground := Ground.data }, { on := 20, ground := Ground.data }, { on := 21, ground := Ground.data }, { on := 15, ground := Ground.chain }, { on := 15, ground := Ground.guard }], guard := some (15, true) }) rfl (fun K hK => ?_) AllReadyIn.nil
              rw [if_neg (by intro h; exact Bool.noConfusion (show false = true from h))]
              refine ⟨fun _ _ => trivial, hK _ _ ?_⟩
              clear hK K
              try simp only [Act.put, List.setIfInBounds_toArray, List.set_cons_zero, List.set_cons_succ]
              refine wpAnyIn_take (i := 23) (oi := { dst := some 46, op := Op.pick (Operand.tmp 38) (Operand.tmp 45) (Operand.const (Value.bool false)), type := 4, pos := "tree.go:98", after := #[{ on := 15, ground := Ground.data }, { on := 22, ground := Ground.data }], guard := none }) (v := ?_) rfl rfl (by kernel_rfl) (by kernel_rfl) (by kernel_rfl) (fun _ _ _ h => h) ⟨Or.inl ⟨by rfl, ?_⟩, fun _ => rfl⟩ ?_
              rotate_left
              · (intro w; first | (go_simp; done) | (go_simp; with_reducible rfl))
              try simp only [Act.put, List.setIfInBounds_toArray, List.set_cons_zero, List.set_cons_succ]
              refine wpAnyIn_take (i := 24) (oi := { dst := some 6, op := Op.assign (Operand.tmp 46), type := 4, pos := "tree.go:98", after := #[{ on := 23, ground := Ground.data }, { on := 22, ground := Ground.chain }, { on := 0, ground := Ground.phase }, { on := 1, ground := Ground.phase }, { on := 2, ground := Ground.phase }, { on := 3, ground := Ground.phase }, { on := 4, ground := Ground.phase }, { on := 5, ground := Ground.phase }, { on := 6, ground := Ground.phase }, { on := 7, ground := Ground.phase }, { on := 8, ground := Ground.phase }, { on := 9, ground := Ground.phase }, { on := 10, ground := Ground.phase }, { on := 11, ground := Ground.phase }, { on := 12, ground := Ground.phase }, { on := 13, ground := Ground.phase }, { on := 14, ground := Ground.phase }, { on := 15, ground := Ground.phase }, { on := 16, ground := Ground.phase }, { on := 17, ground := Ground.phase }, { on := 18, ground := Ground.phase }, { on := 19, ground := Ground.phase }, { on := 20, ground := Ground.phase }, { on := 21, ground := Ground.phase }, { on := 22, ground := Ground.phase }, { on := 23, ground := Ground.phase }], guard := none }) (v := ?_) rfl rfl (by kernel_rfl) (by kernel_rfl) (by kernel_rfl) (fun _ _ _ h => h) ⟨Or.inl ⟨by rfl, ?_⟩, fun _ => rfl⟩ ?_
              rotate_left
              · (intro w; first | (go_simp; done) | (go_simp; with_reducible rfl))
              try simp only [Act.put, List.setIfInBounds_toArray, List.set_cons_zero, List.set_cons_succ]
              refine wpAnyIn_done (by kernel_rfl) ?_ _
              have HX := Lib.hid hx3
              clear hx3 hk2 hJ2
              gi_wp2
              go_ret
              exact .inr ⟨rfl, geLC c tl ++ [x], ⟨tr.nodes.map Prod.snd, by simp⟩, by simpa using HX.out⟩
          · dsimp only
            refine hK _ _ ?_
            clear hK K
            try simp only [Act.put, List.setIfInBounds_toArray, List.set_cons_zero, List.set_cons_succ]
            refine wpAnyIn_take (i := 7) (oi := { dst := some 30, op := Op.move (Operand.tmp 29), type := 4, pos := "tree.go:98", after := #[{ on := 6, ground := Ground.data }, { on := 6, ground := Ground.chain }], guard := none }) (v := ?_) rfl rfl (by kernel_rfl) (by kernel_rfl) (by kernel_rfl) (fun _ _ _ h => h) ⟨Or.inl ⟨by rfl, ?_⟩, fun _ => rfl⟩ ?_
            rotate_left
            · (intro w; first | (go_simp; done) | (go_simp; with_reducible rfl))
            try simp only [Act.put, List.setIfInBounds_toArray, List.set_cons_zero, List.set_cons_succ]
            refine wpAnyIn_take (i := 8) (oi := { dst := some 31, op := Op.move (Operand.tmp 2), type := 127, pos := "tree.go:98", after := #[{ on := 7, ground := Ground.guard }], guard := some (7, true) }) (v := undef) rfl rfl (by kernel_rfl) (by kernel_rfl) (by kernel_rfl) (fun _ _ _ h => h) ⟨Or.inr ⟨by rfl, rfl⟩, fun _ => rfl⟩ ?_
            try simp only [Act.put, List.setIfInBounds_toArray, List.set_cons_zero, List.set_cons_succ]
            refine wpAnyIn_take (i := 9) (oi := { dst := some 32, op := Op.move (Operand.tmp 0), type := 73, pos := "tree.go:98", after := #[{ on := 7, ground := Ground.guard }], guard := some (7, true) }) (v := undef) rfl rfl (by kernel_rfl) (by kernel_rfl) (by kernel_rfl) (fun _ _ _ h => h) ⟨Or.inr ⟨by rfl, rfl⟩, fun _ => rfl⟩ ?_
            try simp only [Act.put, List.setIfInBounds_toArray, List.set_cons_zero, List.set_cons_succ]
            refine wpAnyIn_take (i := 10) (oi := { dst := some 33, op := Op.nilCheck (Operand.tmp 32), type := 0, pos := "tree.go:98", after := #[{ on := 9, ground := Ground.data }, { on := 7, ground := Ground.guard }], guard := some (7, true) }) (v := undef) rfl rfl (by kernel_rfl) (by kernel_rfl) (by kernel_rfl) (fun _ _ _ h => h) ⟨Or.inr ⟨by rfl, rfl⟩, fun _ => rfl⟩ ?_
            try simp only [Act.put, List.setIfInBounds_toArray, List.set_cons_zero, List.set_cons_succ]
            refine wpAnyIn_take (i := 11) (oi := { dst := some 34, op := Op.fieldAddr 124 (Operand.tmp 33) 0, type := 0, pos := "tree.go:98", after := #[{ on := 10, ground := Ground.data }, { on := 7, ground := Ground.guard }], guard := some (7, true) }) (v := undef) rfl rfl (by kernel_rfl) (by kernel_rfl) (by kernel_rfl) (fun _ _ _ h => h) ⟨Or.inr ⟨by rfl, rfl⟩, fun _ => rfl⟩ ?_
            try simp only [Act.put, List.setIfInBounds_toArray, List.set_cons_zero, List.set_cons_succ]
            refine wpAnyIn_take (i := 12) (oi := { dst := some 35, op := Op.load 82 (Operand.tmp 34), type := 82, pos := "tree.go:98", after := #[{ on := 11, ground := Ground.data }, { on := 7, ground := Ground.guard }], guard := some (7, true) }) (v := undef) rfl rfl (by kernel_rfl) (by kernel_rfl) (by kernel_rfl) (fun _ _ _ h => h) ⟨Or.inr ⟨by rfl, rfl⟩, fun _ => rfl⟩ ?_
            try simp only [Act.put, List.setIfInBounds_toArray, List.set_cons_zero, List.set_cons_succ]
            refine wpAnyIn_ready (rs := [13]) (by kernel_rfl) (by simp) ?_
            refine AllReadyIn.cons (o := { dst := some 36, op := Op.call { callee := Callee.value (Operand.tmp 31), args := #[Operand.tmp 35], argTypes := #[82] }, type := 4, pos := "tree.go:98", after := #[{ on := 8, ground := Ground.data }, { on := 12, ground := Ground.data }, { on := 7, ground := Ground.chain }, { on := 7, ground := Ground.guard }], guard := some (7, true) }) rfl (fun K hK => ?_) AllReadyIn.nil
            rw [if_neg (by intro h; exact Bool.noConfusion (show false = true from h))]
            refine ⟨fun _ _ => trivial, hK _ _ ?_⟩
            clear hK K
            try simp only [Act.put, List.setIfInBounds_toArray, List.set_cons_zero, List.set_cons_succ]
            refine wpAnyIn_take (i := 14) (oi := { dst := some 37, op := Op.pick (Operand.tmp 30) (Operand.tmp 36) (Operand.const (Value.bool false)), type := 4, pos := "tree.go:98", after := #[{ on := 7, ground := Ground.data }, { on := 13, ground := Ground.data }], guard := none }) (v := ?_) rfl rfl (by kernel_rfl) (by kernel_rfl) (by kernel_rfl) (fun _ _ _ h => h) ⟨Or.inl ⟨by rfl, ?_⟩, fun _ => rfl⟩ ?_
            rotate_left
            · (intro w; first | (go_simp; done) | (go_simp; with_reducible rfl))
            try simp only [Act.put, List.setIfInBounds_toArray, List.set_cons_zero, List.set_cons_succ]
            refine wpAnyIn_take (i := 15) (oi := { dst := some 38, op := Op.move (Operand.tmp 37), type := 4, pos := "tree.go:98", after := #[{ on := 14, ground := Ground.data }, { on := 13, ground := Ground.chain }], guard := none }) (v := ?_) rfl rfl (by kernel_rfl) (by kernel_rfl) (by kernel_rfl) (fun _ _ _ h => h) ⟨Or.inl ⟨by rfl, ?_⟩, fun _ => rfl⟩ ?_
            rotate_left
            · (intro w; first | (go_simp; done) | (go_simp; with_reducible rfl))
            try simp only [Act.put, List.setIfInBounds_toArray, List.set_cons_zero, List.set_cons_succ]
            refine wpAnyIn_take (i := 16) (oi := { dst := some 39, op := Op.move (Operand.tmp 0), type := 73, pos := "tree.go:98", after := #[{ on := 15, ground := Ground.guard }], guard := some (15, true) }) (v := undef) rfl rfl (by kernel_rfl) (by kernel_rfl) (by kernel_rfl) (fun _ _ _ h => h) ⟨Or.inr ⟨by rfl, rfl⟩, fun _ => rfl⟩ ?_
            try simp only [Act.put, List.setIfInBounds_toArray, List.set_cons_zero, List.set_cons_succ]
            refine wpAnyIn_take (i := 17) (oi := { dst := some 40, op := Op.nilCheck (Operand.tmp 39), type := 0, pos := "tree.go:98", after := #[{ on := 16, ground := Ground.data }, { on := 15, ground := Ground.guard }], guard := some (15, true) }) (v := undef) rfl rfl (by kernel_rfl) (by kernel_rfl) (by kernel_rfl) (fun _ _ _ h => h) ⟨Or.inr ⟨by rfl, rfl⟩, fun _ => rfl⟩ ?_
            try simp only [Act.put, List.setIfInBounds_toArray, List.set_cons_zero, List.set_cons_succ]
            refine wpAnyIn_take (i := 18) (oi := { dst := some 41, op := Op.fieldAddr 124 (Operand.tmp 40) 3, type := 0, pos := "tree.go:98", after := #[{ on := 17, ground := Ground.data }, { on := 15, ground := Ground.guard }], guard := some (15, true) }) (v := undef) rfl rfl (by kernel_rfl) (by kernel_rfl) (by kernel_rfl) (fun _ _ _ h => h) ⟨Or.inr ⟨by rfl, rfl⟩, fun _ => rfl⟩ ?_
            try simp only [Act.put, List.setIfInBounds_toArray, List.set_cons_zero, List.set_cons_succ]
            refine wpAnyIn_take (i := 19) (oi := { dst := some 42, op := Op.load 73 (Operand.tmp 41), type := 73, pos := "tree.go:98", after := #[{ on := 18, ground := Ground.data }, { on := 15, ground := Ground.guard }], guard := some (15, true) }) (v := undef) rfl rfl (by kernel_rfl) (by kernel_rfl) (by kernel_rfl) (fun _ _ _ h => h) ⟨Or.inr ⟨by rfl, rfl⟩, fun _ => rfl⟩ ?_
            try simp only [Act.put, List.setIfInBounds_toArray, List.set_cons_zero, List.set_cons_succ]
            refine wpAnyIn_take (i := 20) (oi := { dst := some 43, op := Op.load 82 (Operand.tmp 4), type := 82, pos := "tree.go:98", after := #[{ on := 15, ground := Ground.guard }], guard := some (15, true) }) (v := undef) rfl rfl (by kernel_rfl) (by kernel_rfl) (by kernel_rfl) (fun _ _ _ h => h) ⟨Or.inr ⟨by rfl, rfl⟩, fun _ => rfl⟩ ?_
            try simp only [Act.put, List.setIfInBounds_toArray, List.set_cons_zero, List.set_cons_succ]
            refine wpAnyIn_take (i := 21) (oi := { dst := some 44, op := Op.move (Operand.tmp 2), type := 127, pos := "tree.go:98", after := #[{ on := 15, ground := Ground.guard }], guard := some (15, true) }) (v := undef) rfl rfl (by kernel_rfl) (by kernel_rfl) (by kernel_rfl) (fun _ _ _ h => h) ⟨Or.inr ⟨by rfl, rfl⟩, fun _ => rfl⟩ ?_
            try simp only [Act.put, List.setIfInBounds_toArray, List.set_cons_zero, List.set_cons_succ]
            refine wpAnyIn_ready (rs := [22]) (by kernel_rfl) (by simp) ?_
            refine AllReadyIn.cons (o := { dst := some 45, op := Op.call { callee := Callee.value (Operand.func 59), args := #[Operand.tmp 42, Operand.tmp 43, Operand.tmp 44], argTypes := #[73, 82, 127] }, type := 4, pos := "tree.go:98", after := #[{ on := 19, ground := Ground.data }, { on := 20, ground := Ground.data }, { on := 21, ground := Ground.data }, { on := 15, ground := Ground.chain }, { on := 15, ground := Ground.guard }], guard := some (15, true) }) rfl (fun K hK => ?_) AllReadyIn.nil
            rw [if_neg (by intro h; exact Bool.noConfusion (show false = true from h))]
            refine ⟨fun _ _ => trivial, hK _ _ ?_⟩
            clear hK K
            try simp only [Act.put, List.setIfInBounds_toArray, List.set_cons_zero, List.set_cons_succ]
            refine wpAnyIn_take (i := 23) (oi := { dst := some 46, op := Op.pick (Operand.tmp 38) (Operand.tmp 45) (Operand.const (Value.bool false)), type := 4, pos := "tree.go:98", after := #[{ on := 15, ground := Ground.data }, { on := 22, ground := Ground.data }], guard := none }) (v := ?_) rfl rfl (by kernel_rfl) (by kernel_rfl) (by kernel_rfl) (fun _ _ _ h => h) ⟨Or.inl ⟨by rfl, ?_⟩, fun _ => rfl⟩ ?_
            rotate_left
            · (intro w; first | (go_simp; done) | (go_simp; with_reducible rfl))
            try simp only [Act.put, List.setIfInBounds_toArray, List.set_cons_zero, List.set_cons_succ]
            refine wpAnyIn_take (i := 24) (oi := { dst := some 6, op := Op.assign (Operand.tmp 46), type := 4, pos := "tree.go:98", after := #[{ on := 23, ground := Ground.data }, { on := 22, ground := Ground.chain }, { on := 0, ground := Ground.phase }, { on := 1, ground := Ground.phase }, { on := 2, ground := Ground.phase }, { on := 3, ground := Ground.phase }, { on := 4, ground := Ground.phase }, { on := 5, ground := Ground.phase }, { on := 6, ground := Ground.phase }, { on := 7, ground := Ground.phase }, { on := 8, ground := Ground.phase }, { on := 9, ground := Ground.phase }, { on := 10, ground := Ground.phase }, { on := 11, ground := Ground.phase }, { on := 12, ground := Ground.phase }, { on := 13, ground := Ground.phase }, { on := 14, ground := Ground.phase }, { on := 15, ground := Ground.phase }, { on := 16, ground := Ground.phase }, { on := 17, ground := Ground.phase }, { on := 18, ground := Ground.phase }, { on := 19, ground := Ground.phase }, { on := 20, ground := Ground.phase }, { on := 21, ground := Ground.phase }, { on := 22, ground := Ground.phase }, { on := 23, ground := Ground.phase }], guard := none }) (v := ?_) rfl rfl (by kernel_rfl) (by kernel_rfl) (by kernel_rfl) (fun _ _ _ h => h) ⟨Or.inl ⟨by rfl, ?_⟩, fun _ => rfl⟩ ?_
            rotate_left
            · (intro w; first | (go_simp; done) | (go_simp; with_reducible rfl))
            try simp only [Act.put, List.setIfInBounds_toArray, List.set_cons_zero, List.set_cons_succ]
            refine wpAnyIn_done (by kernel_rfl) ?_ _
            have HX := Lib.hid (And.intro hq hx2)
            clear hq hx2
            gi_wp2
            go_ret
            obtain ⟨q2, hq2⟩ := HX.out.1
            exact .inr ⟨rfl, q, ⟨q2 ++ x :: tr.nodes.map Prod.snd, by rw [← hq2]; simp⟩, HX.out.2⟩
        · go_simp
          refine hK _ _ ?_
          clear hK K
          try simp only [Act.put, List.setIfInBounds_toArray, List.set_cons_zero, List.set_cons_succ]
          refine wpAnyIn_ready (rs := [3]) (by kernel_rfl) (by simp) ?_
          refine (AllReadyIn.cons (o := { dst := some 26, op := Op.load 73 (Operand.tmp 25), type := 73, pos := "tree.go:98", after := #[{ on := 2, ground := Ground.data }], guard := none }) rfl (fun K hK => ?_) AllReadyIn.nil)
          go_simp
          refine hK _ _ ?_
          clear hK K
          try simp only [Act.put, List.setIfInBounds_toArray, List.set_cons_zero, List.set_cons_succ]
          refine wpAnyIn_ready (rs := [6]) (by kernel_rfl) (by simp) ?_
          refine (AllReadyIn.cons (o := { dst := some 29, op := Op.call { callee := Callee.value (Operand.func 59), args := #[Operand.tmp 26, Operand.tmp 27, Operand.tmp 28], argTypes := #[73, 82, 127] }, type := 4, pos := "tree.go:98", after := #[{ on := 3, ground := Ground.data }, { on := 4, ground := Ground.data }, { on := 5, ground := Ground.data }], guard := none }) rfl (fun K hK => ?_) AllReadyIn.nil)
          go_simp
          refine ⟨trivial, fun h => (by cases h), ?_⟩
          refine (IL.out _ (HB0.out.trans HB1.out).drew).mono ?_
          rintro r2 W2 (⟨rfl, hJ2, hk2⟩ | ⟨rfl, q, hq, hx2⟩)
          · dsimp only
            refine hK _ _ ?_
            clear hK K
            try simp only [Act.put, List.setIfInBounds_toArray, List.set_cons_zero, List.set_cons_succ]
            replace hk2 : KeepTC n₀ W1 W2 := (KeepTC.of_bel (Bel.refl W1).drew (Nat.le_trans hsz (HB0.out.trans HB1.out).size)).trans hk2
            clear e0 e1 e2
            obtain ⟨⟨c0, c1, c2⟩, -, -⟩ := FB2.out W2 hk2
            refine wpAnyIn_take (i := 7) (oi := { dst := some 30, op := Op.move (Operand.tmp 29), type := 4, pos := "tree.go:98", after := #[{ on := 6, ground := Ground.data }, { on := 6, ground := Ground.chain }], guard := none }) (v := ?_) rfl rfl (by kernel_rfl) (by kernel_rfl) (by kernel_rfl) (fun _ _ _ h => h) ⟨Or.inl ⟨by rfl, ?_⟩, fun _ => rfl⟩ ?_
            rotate_left
            · (intro w; first | (go_simp; done) | (go_simp; with_reducible rfl))
            try simp only [Act.put, List.setIfInBounds_toArray, List.set_cons_zero, List.set_cons_succ]
            refine wpAnyIn_take (i := 8) (oi := { dst := some 31, op := Op.move (Operand.tmp 2), type := 127, pos := "tree.go:98", after := #[{ on := 7, ground := Ground.guard }], guard := some (7, true) }) (v := ?_) rfl rfl (by kernel_rfl) (by kernel_rfl) (by kernel_rfl) (fun _ _ _ h => h) ⟨Or.inl ⟨by rfl, ?_⟩, fun _ => rfl⟩ ?_
            rotate_left
            · (intro w; first | (go_simp; done) | (go_simp; with_reducible rfl))
            try simp only [Act.put, List.setIfInBounds_toArray, List.set_cons_zero, List.set_cons_succ]
            refine wpAnyIn_take (i := 9) (oi := { dst := some 32, op := Op.move (Operand.tmp 0), type := 73, pos := "tree.go:98", after := #[{ on := 7, ground := Ground.guard }], guard := some (7, true) }) (v := ?_) rfl rfl (by kernel_rfl) (by kernel_rfl) (by kernel_rfl) (fun _ _ _ h => h) ⟨Or.inl ⟨by rfl, ?_⟩, fun _ => rfl⟩ ?_
            rotate_left
            · (intro w; first | (go_simp; done) | (go_simp; with_reducible rfl))
            try simp only [Act.put, List.setIfInBounds_toArray, List.set_cons_zero, List.set_cons_succ]
            refine wpAnyIn_take (i := 10) (oi := { dst := some 33, op := Op.nilCheck (Operand.tmp 32), type := 0, pos := "tree.go:98", after := #[{ on := 9, ground := Ground.data }, { on := 7, ground := Ground.guard }], guard := some (7, true) }) (v := ?_) rfl rfl (by kernel_rfl) (by kernel_rfl) (by kernel_rfl) (fun _ _ _ h => h) ⟨Or.inl ⟨by rfl, ?_⟩, fun _ => rfl⟩ ?_
            rotate_left
            · (intro w; first | (go_simp; done) | (go_simp; with_reducible rfl))
            try simp only [Act.put, List.setIfInBounds_toArray, List.set_cons_zero, List.set_cons_succ]
            refine wpAnyIn_take (i := 11) (oi := { dst := some 34, op := Op.fieldAddr 124 (Operand.tmp 33) 0, type := 0, pos := "tree.go:98", after := #[{ on := 10, ground := Ground.data }, { on := 7, ground := Ground.guard }], guard := some (7, true) }) (v := ?_) rfl rfl (by kernel_rfl) (by kernel_rfl) (by kernel_rfl) (fun _ _ _ h => h) ⟨Or.inl ⟨by rfl, ?_⟩, fun _ => rfl⟩ ?_
            rotate_left
            · (intro w; first | (go_simp; done) | (go_simp; with_reducible rfl))
            try simp only [Act.put, List.setIfInBounds_toArray, List.set_cons_zero, List.set_cons_succ]
            refine wpAnyIn_ready (rs := [12]) (by kernel_rfl) (by simp) ?_
            refine (AllReadyIn.cons (o := { dst := some 35, op := Op.load 82 (Operand.tmp 34), type := 82, pos := "tree.go:98", after := #[{ on := 11, ground := Ground.data }, { on := 7, ground := Ground.guard }], guard := some (7, true) }) rfl (fun K hK => ?_) AllReadyIn.nil)
            go_simp
            refine hK _ _ ?_
            clear hK K
            try simp only [Act.put, List.setIfInBounds_toArray, List.set_cons_zero, List.set_cons_succ]
            clear c0 c1 c2
            obtain ⟨fn, tmps, assign, body, hy, hR⟩ := HY.out (n - 1) (pre ++ geLC c tl) W2 hJ2 (by rw [List.length_append]; omega)
            refine wpAnyIn_ready (rs := [13]) (by kernel_rfl) (by simp) ?_
            refine (AllReadyIn.cons (o := { dst := some 36, op := Op.call { callee := Callee.value (Operand.tmp 31), args := #[Operand.tmp 35], argTypes := #[82] }, type := 4, pos := "tree.go:98", after := #[{ on := 8, ground := Ground.data }, { on := 12, ground := Ground.data }, { on := 7, ground := Ground.chain }, { on := 7, ground := Ground.guard }], guard := some (7, true) }) rfl (fun K hK => ?_) AllReadyIn.nil)
            go_simp
            refine ⟨fun h => (by cases h), ?_⟩
            refine hR.mono ?_
            rintro r3 W3 (⟨rfl, hJ3, hk3⟩ | ⟨rfl, hx3⟩)
            · clear hy hR
              dsimp only
              refine hK _ _ ?_
              clear hK K
              try simp only [Act.put, List.setIfInBounds_toArray, List.set_cons_zero, List.set_cons_succ]
              obtain ⟨-, -, c6⟩ := FB2.out W3 (hk2.trans hk3)
              obtain ⟨e0, e1, e2⟩ := FE2.out W3 (hk2.trans hk3)
              refine wpAnyIn_take (i := 14) (oi := { dst := some 37, op := Op.pick (Operand.tmp 30) (Operand.tmp 36) (Operand.const (Value.bool false)), type := 4, pos := "tree.go:98", after := #[{ on := 7, ground := Ground.data }, { on := 13, ground := Ground.data }], guard := none }) (v := ?_) rfl rfl (by kernel_rfl) (by kernel_rfl) (by kernel_rfl) (fun _ _ _ h => h) ⟨Or.inl ⟨by rfl, ?_⟩, fun _ => rfl⟩ ?_
              rotate_left
              · (intro w; first | (go_simp; done) | (go_simp; with_reducible rfl))
              try simp only [Act.put, List.setIfInBounds_toArray, List.set_cons_zero, List.set_cons_succ]
              refine wpAnyIn_take (i := 15) (oi := { dst := some 38, op := Op.move (Operand.tmp 37), type := 4, pos := "tree.go:98", after := #[{ on := 14, ground := Ground.data }, { on := 13, ground := Ground.chain }], guard := none }) (v := ?_) rfl rfl (by kernel_rfl) (by kernel_rfl) (by kernel_rfl) (fun _ _ _ h => h) ⟨Or.inl ⟨by rfl, ?_⟩, fun _ => rfl⟩ ?_
              rotate_left
              · (intro w; first | (go_simp; done) | (go_simp; with_reducible rfl))
              try simp only [Act.put, List.setIfInBounds_toArray, List.set_cons_zero, List.set_cons_succ]
              refine wpAnyIn_take (i := 16) (oi := { dst := some 39, op := Op.move (Operand.tmp 0), type := 73, pos := "tree.go:98", after := #[{ on := 15, ground := Ground.guard }], guard := some (15, true) }) (v := ?_) rfl rfl (by kernel_rfl) (by kernel_rfl) (by kernel_rfl) (fun _ _ _ h => h) ⟨Or.inl ⟨by rfl, ?_⟩, fun _ => rfl⟩ ?_
              rotate_left
              · (intro w; first | (go_simp; done) | (go_simp; with_reducible rfl))
              try simp only [Act.put, List.setIfInBounds_toArray, List.set_cons_zero, List.set_cons_succ]
              refine wpAnyIn_take (i := 17) (oi := { dst := some 40, op := Op.nilCheck (Operand.tmp 39), type := 0, pos := "tree.go:98", after := #[{ on := 16, ground := Ground.data }, { on := 15, ground := Ground.guard }], guard := some (15, true) }) (v := ?_) rfl rfl (by kernel_rfl) (by kernel_rfl) (by kernel_rfl) (fun _ _ _ h => h) ⟨Or.inl ⟨by rfl, ?_⟩, fun _ => rfl⟩ ?_
              rotate_left
              · (intro w; first | (go_simp; done) | (go_simp; with_reducible rfl))
              try simp only [Act.put, List.setIfInBounds_toArray, List.set_cons_zero, List.set_cons_succ]
              refine wpAnyIn_take (i := 18) (oi := { dst := some 41, op := Op.fieldAddr 124 (Operand.tmp 40) 3, type := 0, pos := "tree.go:98", after := #[{ on := 17, ground := Ground.data }, { on := 15, ground := Ground.guard }], guard := some (15, true) }) (v := ?_) rfl rfl (by kernel_rfl) (by kernel_rfl) (by kernel_rfl) (fun _ _ _ h => h) ⟨Or.inl ⟨by rfl, ?_⟩, fun _ => rfl⟩ ?_
              rotate_left
              · (intro w; first | (go_simp; done) | (go_simp; with_reducible rfl))
              try simp only [Act.put, List.setIfInBounds_toArray, List.set_cons_zero, List.set_cons_succ]
              refine wpAnyIn_take (i := 21) (oi := { dst := some 44, op := Op.move (Operand.tmp 2), type := 127, pos := "tree.go:98", after := #[{ on := 15, ground := Ground.guard }], guard := some (15, true) }) (v := ?_) rfl rfl (by kernel_rfl) (by kernel_rfl) (by kernel_rfl) (fun _ _ _ h => h) ⟨Or.inl ⟨by rfl, ?_⟩, fun _ => rfl⟩ ?_
              rotate_left
              · (intro w; first | (go_simp; done) | (go_simp; with_reducible rfl))
              try simp only [Act.put, List.setIfInBounds_toArray, List.set_cons_zero, List.set_cons_succ]
              refine wpAnyIn_ready (rs := [19, 20]) (by kernel_rfl) (by simp) ?_
              refine (AllReadyIn.cons (o := { dst := some 42, op := Op.load 73 (Operand.tmp 41), type := 73, pos := "tree.go:98", after := #[{ on := 18, ground := Ground.data }, { on := 15, ground := Ground.guard }], guard := some (15, true) }) rfl (fun K hK => ?_) (AllReadyIn.cons (o := { dst := some 43, op := Op.load 82 (Operand.tmp 4), type := 82, pos := "tree.go:98", after := #[{ on := 15, ground := Ground.guard }], guard := some (15, true) }) rfl (fun K hK => ?_) AllReadyIn.nil))
              · go_simp
                refine hK _ _ ?_
                clear hK K
                try simp only [Act.put, List.setIfInBounds_toArray, List.set_cons_zero, List.set_cons_succ]
                refine wpAnyIn_ready (rs := [20]) (by kernel_rfl) (by simp) ?_
                refine (AllReadyIn.cons (o := { dst := some 43, op := Op.load 82 (Operand.tmp 4), type := 82, pos := "tree.go:98", after := #[{ on := 15, ground := Ground.guard }], guard := some (15, true) }) rfl (fun K hK => ?_) AllReadyIn.nil)
                go_simp
                refine hK _ _ ?_
                clear hK K
                try simp only [Act.put, List.setIfInBounds_toArray, List.set_cons_zero, List.set_cons_succ]
                refine wpAnyIn_ready (rs := [22]) (by kernel_rfl) (by simp) ?_
                refine (AllReadyIn.cons (o := { dst := some 45, op := Op.call { callee := Callee.value (Operand.func 59), args := #[Operand.tmp 42, Operand.tmp 43, Operand.tmp 44], argTypes := #[73, 82, 127] }, type := 4, pos := "tree.go:98", after := #[{ on := 19, ground := Ground.data }, { on := 20, ground := Ground.data }, { on := 21, ground := Ground.data }, { on := 15, ground := Ground.chain }, { on := 15, ground := Ground.guard }], guard := some (15, true) }) rfl (fun K hK => ?_) AllReadyIn.nil)
                go_simp
                refine ⟨trivial, fun h => (by cases h), ?_⟩
                refine (IR2.out W3 (hk2.trans hk3) hJ3).mono ?_
                rintro r4 W4 (⟨rfl, hJ4, hk4⟩ | ⟨rfl, q, hq, hx4⟩)
                · dsimp only
                  refine hK _ _ ?_
                  clear hK K
                  try simp only [Act.put, List.setIfInBounds_toArray, List.set_cons_zero, List.set_cons_succ]
                  refine wpAnyIn_take (i := 23) (oi := { dst := some 46, op := Op.pick (Operand.tmp 38) (Operand.tmp 45) (Operand.const (Value.bool false)), type := 4, pos := "tree.go:98", after := #[{ on := 15, ground := Ground.data }, { on := 22, ground := Ground.data }], guard := none }) (v := ?_) rfl rfl (by kernel_rfl) (by kernel_rfl) (by kernel_rfl) (fun _ _ _ h => h) ⟨Or.inl ⟨by rfl, ?_⟩, fun _ => rfl⟩ ?_
                  rotate_left
                  · (intro w; first | (go_simp; done) | (go_simp; with_reducible rfl))
                  try simp only [Act.put, List.setIfInBounds_toArray, List.set_cons_zero, List.set_cons_succ]
                  refine wpAnyIn_take (i := 24) (oi := { dst := some 6, op := Op.assign (Operand.tmp 46), type := 4, pos := "tree.go:98", after := #[{ on := 23, ground := Ground.data }, { on := 22, ground := Ground.chain }, { on := 0, ground := Ground.phase }, { on := 1, ground := Ground.phase }, { on := 2, ground := Ground.phase }, { on := 3, ground := Ground.phase }, { on := 4, ground := Ground.phase }, { on := 5, ground := Ground.phase }, { on := 6, ground := Ground.phase }, { on := 7, ground := Ground.phase }, { on := 8, ground := Ground.phase }, { on := 9, ground := Ground.phase }, { on := 10, ground := Ground.phase }, { on := 11, ground := Ground.phase }, { on := 12, ground := Ground.phase }, { on := 13, ground := Ground.phase }, { on := 14, ground := Ground.phase }, { on := 15, ground := Ground.phase }, { on := 16, ground := Ground.phase }, { on := 17, ground := Ground.phase }, { on := 18, ground := Ground.phase }, { on := 19, ground := Ground.phase }, { on := 20, ground := Ground.phase }, { on := 21, ground := Ground.phase }, { on := 22, ground := Ground.phase }, { on := 23, ground := Ground.phase }], guard := none }) (v := ?_) rfl rfl (by kernel_rfl) (by kernel_rfl) (by kernel_rfl) (fun _ _ _ h => h) ⟨Or.inl ⟨by rfl, ?_⟩, fun _ => rfl⟩ ?_
                  rotate_left
                  · (intro w; first | (go_simp; done) | (go_simp; with_reducible rfl))
                  try simp only [Act.put, List.setIfInBounds_toArray, List.set_cons_zero, List.set_cons_succ]
                  refine wpAnyIn_done (by kernel_rfl) ?_ _
                  have HX := Lib.hid (And.intro hJ4 (((KeepTC.of_bel (HB0.out.trans HB1.out) hsz).trans hk2).trans (hk3.trans hk4)))
                  clear hJ4 hk4 hk2 hk3 hJ3
                  gi_wp2
                  go_ret
                  exact .inl ⟨rfl, by simpa using HX.out.1, HX.out.2⟩
                · dsimp only
                  refine hK _ _ ?_
                  clear hK K
                  try simp only [Act.put, List.setIfInBounds_toArray, List.set_cons_zero, List.set_cons_succ]
                  refine wpAnyIn_take (i := 23) (oi := { dst := some 46, op := Op.pick (Operand.tmp 38) (Operand.tmp 45) (Operand.const (Value.bool false)), type := 4, pos := "tree.go:98", after := #[{ on := 15, ground := Ground.data }, { on := 22, ground := Ground.data }], guard := none }) (v := ?_) rfl rfl (by kernel_rfl) (by kernel_rfl) (by kernel_rfl) (fun _ _ _ h => h) ⟨Or.inl ⟨by rfl, ?_⟩, fun _ => rfl⟩ ?_
                  rotate_left
                  · (intro w; first | (go_simp; done) | (go_simp; with_reducible rfl))
                  try simp only [Act.put, List.setIfInBounds_toArray, List.set_cons_zero, List.set_cons_succ]
                  refine wpAnyIn_take (i := 24) (oi := { dst := some 6, op := Op.assign (Operand.tmp 46), type := 4, pos := "tree.go:98", after := #[{ on := 23, ground := Ground.data }, { on := 22, ground := Ground.chain }, { on := 0, ground := Ground.phase }, { on := 1, ground := Ground.phase }, { on := 2, ground := Ground.phase }, { on := 3, ground := Ground.phase }, { on := 4, ground := Ground.phase }, { on := 5, ground := Ground.phase }, { on := 6, ground := Ground.phase }, { on := 7, ground := Ground.phase }, { on := 8, ground := Ground.phase }, { on := 9, ground := Ground.phase }, { on := 10, ground := Ground.phase }, { on := 11, ground := Ground.phase }, { on := 12, ground := Ground.phase }, { on := 13, ground := Ground.phase }, { on := 14, ground := Ground.phase }, { on := 15, ground := Ground.phase }, { on := 16, ground := Ground.phase }, { on := 17, ground := Ground.phase }, { on := 18, ground := Ground.phase }, { on := 19, ground := Ground.phase }, { on := 20, ground := Ground.phase }, { on := 21, ground := Ground.phase }, { on := 22, ground := Ground.phase }, { on := 23, ground := Ground.phase }], guard := none }) (v := ?_) rfl rfl (by kernel_rfl) (by kernel_rfl) (by kernel_rfl) (fun _ _ _ h => h) ⟨Or.inl ⟨by rfl, ?_⟩, fun _ => rfl⟩ ?_
                  rotate_left
                  · (intro w; first | (go_simp; done) | (go_simp; with_reducible rfl))
                  try simp only [Act.put, List.setIfInBounds_toArray, List.set_cons_zero, List.set_cons_succ]
                  refine wpAnyIn_done (by kernel_rfl) ?_ _
                  have HX := Lib.hid (And.intro hq hx4)
                  clear hq hx4 hk2 hk3 hJ3
                  gi_wp2
                  go_ret
                  obtain ⟨q2, hq2⟩ := HX.out.1
                  exact .inr ⟨rfl, geLC c tl ++ x :: q, ⟨q2, by rw [← hq2]; simp⟩, by simpa using HX.out.2⟩
              · go_simp
                refine hK _ _ ?_
                clear hK K
                try simp only [Act.put, List.setIfInBounds_toArray, List.set_cons_zero, List.set_cons_succ]
                refine wpAnyIn_ready (rs := [19]) (by kernel_rfl) (by simp) ?_
                refine (AllReadyIn.cons (o := { dst := some 42, op := Op.load 73 (Operand.tmp 41), type := 73, pos := "tree.go:98", after := #[{ on := 18, ground := Ground.data }, { on := 15, ground := Ground.guard }], guard := some (15, true) }) rfl (fun K hK => ?_) AllReadyIn.nil)
                go_simp
                refine hK _ _ ?_
                clear hK K
                try simp only [Act.put, List.setIfInBounds_toArray, List.set_cons_zero, List.set_cons_succ]
                refine wpAnyIn_ready (rs := [22]) (by kernel_rfl) (by simp) ?_
                refine (AllReadyIn.cons (o := { dst := some 45, op := Op.call { callee := Callee.value (Operand.func 59), args := #[Operand.tmp 42, Operand.tmp 43, Operand.tmp 44], argTypes := #[73, 82, 127] }, type := 4, pos := "tree.go:98", after := #[{ on := 19, ground := Ground.data }, { on := 20, ground := Ground.data }, { on := 21, ground := Ground.data }, { on := 15, ground := Ground.chain }, { on := 15, ground := Ground.guard }], guard := some (15, true) }) rfl (fun K hK => ?_) AllReadyIn.nil)
                go_simp
                refine ⟨trivial, fun h => (by cases h), ?_⟩
                refine (IR2.out W3 (hk2.trans hk3) hJ3).mono ?_
                rintro r4 W4 (⟨rfl, hJ4, hk4⟩ | ⟨rfl, q, hq, hx4⟩)
                · dsimp only
                  refine hK _ _ ?_
                  clear hK K
                  try simp only [Act.put, List.setIfInBounds_toArray, List.set_cons_zero, List.set_cons_succ]
                  refine wpAnyIn_take (i := 23) (oi := { dst := some 46, op := Op.pick (Operand.tmp 38) (Operand.tmp 45) (Operand.const (Value.bool false)), type := 4, pos := "tree.go:98", after := #[{ on := 15, ground := Ground.data }, { on := 22, ground := Ground.data }], guard := none }) (v := ?_) rfl rfl (by kernel_rfl) (by kernel_rfl) (by kernel_rfl) (fun _ _ _ h => h) ⟨Or.inl ⟨by rfl, ?_⟩, fun _ => rfl⟩ ?_
                  rotate_left
                  · (intro w; first | (go_simp; done) | (go_simp; with_reducible rfl))
                  try simp only [Act.put, List.setIfInBounds_toArray, List.set_cons_zero, List.set_cons_succ]
                  refine wpAnyIn_take (i := 24) (oi := { dst := some 6, op := Op.assign (Operand.tmp 46), type := 4, pos := "tree.go:98", after := #[{ on := 23, ground := Ground.data }, { on := 22, ground := Ground.chain }, { on := 0, ground := Ground.phase }, { on := 1, ground := Ground.phase }, { on := 2, ground := Ground.phase }, { on := 3, ground := Ground.phase }, { on := 4, ground := Ground.phase }, { on := 5, ground := Ground.phase }, { on := 6, ground := Ground.phase }, { on := 7, ground := Ground.phase }, { on := 8, ground := Ground.phase }, { on := 9, ground := Ground.phase }, { on := 10, ground := Ground.phase }, { on := 11, ground := Ground.phase }, { on := 12, ground := Ground.phase }, { on := 13, ground := Ground.phase }, { on := 14, ground := Ground.phase }, { on := 15, ground := Ground.phase }, { on := 16, ground := Ground.phase }, { on := 17, ground := Ground.phase }, { on := 18, ground := Ground.phase }, { on := 19, ground := Ground.phase }, { on := 20, ground := Ground.phase }, { on := 21, ground := Ground.phase }, { on := 22, ground := Ground.phase }, { on := 23, ground := Ground.phase }], guard := none }) (v := ?_) rfl rfl (by kernel_rfl) (by kernel_rfl) (by kernel_rfl) (fun _ _ _ h => h) ⟨Or.inl ⟨by rfl, ?_⟩, fun _ => rfl⟩ ?_
                  rotate_left
                  · (intro w; first | (go_simp; done) | (go_simp; with_reducible rfl))
                  try simp only [Act.put, List.setIfInBounds_toArray, List.set_cons_zero, List.set_cons_succ]
                  refine wpAnyIn_done (by kernel_rfl) ?_ _
                  have HX := Lib.hid (And.intro hJ4 (((KeepTC.of_bel (HB0.out.trans HB1.out) hsz).trans hk2).trans (hk3.trans hk4)))
                  clear hJ4 hk4 hk2 hk3 hJ3
                  gi_wp2
                  go_ret
                  exact .inl ⟨rfl, by simpa using HX.out.1, HX.out.2⟩
                · dsimp only
                  refine hK _ _ ?_
                  clear hK K
                  try simp only [Act.put, List.setIfInBounds_toArray, List.set_cons_zero, List.set_cons_succ]
                  refine wpAnyIn_take (i := 23) (oi := { dst := some 46, op := Op.pick (Operand.tmp 38) (Operand.tmp 45) (Operand.const (Value.bool false)), type := 4, pos := "tree.go:98", after := #[{ on := 15, ground := Ground.data }, { on := 22, ground := Ground.data }], guard := none }) (v := ?_) rfl rfl (by kernel_rfl) (by kernel_rfl) (by kernel_rfl) (fun _ _ _ h => h) ⟨Or.inl ⟨by rfl, ?_⟩, fun _ => rfl⟩ ?_
                  rotate_left
                  · (intro w; first | (go_simp; done) | (go_simp; with_reducible rfl))
                  try simp only [Act.put, List.setIfInBounds_toArray, List.set_cons_zero, List.set_cons_succ]
                  refine wpAnyIn_take (i := 24) (oi := { dst := some 6, op := Op.assign (Operand.tmp 46), type := 4, pos := "tree.go:98", after := #[{ on := 23, ground := Ground.data }, { on := 22, ground := Ground.chain }, { on := 0, ground := Ground.phase }, { on := 1, ground := Ground.phase }, { on := 2, ground := Ground.phase }, { on := 3, ground := Ground.phase }, { on := 4, ground := Ground.phase }, { on := 5, ground := Ground.phase }, { on := 6, ground := Ground.phase }, { on := 7, ground := Ground.phase }, { on := 8, ground := Ground.phase }, { on := 9, ground := Ground.phase }, { on := 10, ground := Ground.phase }, { on := 11, ground := Ground.phase }, { on := 12, ground := Ground.phase }, { on := 13, ground := Ground.phase }, { on := 14, ground := Ground.phase }, { on := 15, ground := Ground.phase }, { on := 16, ground := Ground.phase }, { on := 17, ground := Ground.phase }, { on := 18, ground := Ground.phase }, { on := 19, ground := Ground.phase }, { on := 20, ground := Ground.phase }, { on := 21, ground := Ground.phase }, { on := 22, ground := Ground.phase }, { on := 23, ground := Ground.phase }], guard := none }) (v := ?_) rfl rfl (by kernel_rfl) (by kernel_rfl) (by kernel_rfl) (fun _ _ _ h => h) ⟨Or.inl ⟨by rfl, ?_⟩, fun _ => rfl⟩ ?_
                  rotate_left
                  · (intro w; first | (go_simp; done) | (go_simp; with_reducible rfl))
                  try simp only [Act.put, List.setIfInBounds_toArray, List.set_cons_zero, List.set_cons_succ]
                  refine wpAnyIn_done (by kernel_rfl) ?_ _
                  have HX := Lib.hid (And.intro hq hx4)
                  clear hq hx4 hk2 hk3 hJ3
                  gi_wp2
                  go_ret
                  obtain ⟨q2, hq2⟩ := HX.out.1
                  exact .inr ⟨rfl, geLC c tl ++ x :: q, ⟨q2, by rw [← hq2]; simp⟩, by simpa using HX.out.2⟩
            · clear hy hR
              dsimp only
              refine hK _ _ ?_
              clear hK K
              try simp only [Act.put, List.setIfInBounds_toArray, List.set_cons_zero, List.set_cons_succ]
              refine wpAnyIn_take (i := 14) (oi := { dst := some 37, op := Op.pick (Operand.tmp 30) (Operand.tmp 36) (Operand.const (Value.bool false)), type := 4, pos := "tree.go:98", after := #[{ on := 7, ground := Ground.data }, { on := 13, ground := Ground.data }], guard := none }) (v := ?_) rfl rfl (by kernel_rfl) (by kernel_rfl) (by kernel_rfl) (fun _ _ _ h => h) ⟨Or.inl ⟨by rfl, ?_⟩, fun _ => rfl⟩ ?_
              rotate_left
              · (intro w; first | (go_simp; done) | (go_simp; with_reducible rfl))
              try simp only [Act.put, List.setIfInBounds_toArray, List.set_cons_zero, List.set_cons_succ]
              refine wpAnyIn_take (i := 15) (oi := { dst := some 38, op := Op.move (Operand.tmp 37), type := 4, pos := "tree.go:98", after := #[{ on := 14, ground := Ground.data }, { on := 13, ground := Ground.chain }], guard := none }) (v := ?_) rfl rfl (by kernel_rfl) (by kernel_rfl) (by kernel_rfl) (fun _ _ _ h => h) ⟨Or.inl ⟨by rfl, ?_⟩, fun _ => rfl⟩ ?_
              rotate_left
              · (intro w; first | (go_simp; done) | (go_simp; with_reducible rfl))
              try simp only [Act.put, List.setIfInBounds_toArray, List.set_cons_zero, List.set_cons_succ]
              refine wpAnyIn_take (i := 16) (oi := { dst := some 39, op := Op.move (Operand.tmp 0), type := 73, pos := "tree.go:98", after := #[{ on := 15, ground := Ground.guard }], guard := some (15, true) }) (v := undef) rfl rfl (by kernel_rfl) (by kernel_rfl) (by kernel_rfl) (fun _ _ _ h => h) ⟨Or.inr ⟨by rfl, rfl⟩, fun _ => rfl⟩ ?_
              try simp only [Act.put, List.setIfInBounds_toArray, List.set_cons_zero, List.set_cons_succ]
              refine wpAnyIn_take (i := 17) (oi := { dst := some 40, op := Op.nilCheck (Operand.tmp 39), type := 0, pos := "tree.go:98", after := #[{ on := 16, ground := Ground.data }, { on := 15, ground := Ground.guard }], guard := some (15, true) }) (v := undef) rfl rfl (by kernel_rfl) (by kernel_rfl) (by kernel_rfl) (fun _ _ _ h => h) ⟨Or.inr ⟨by rfl, rfl⟩, fun _ => rfl⟩ ?_
              try simp only [Act.put, List.setIfInBounds_toArray, List.set_cons_zero, List.set_cons_succ]
              refine wpAnyIn_take (i := 18) (oi := { dst := some 41, op := Op.fieldAddr 124 (Operand.tmp 40) 3, type := 0, pos := "tree.go:98", after := #[{ on := 17, ground := Ground.data }, { on := 15, ground := Ground.guard }], guard := some (15, true) }) (v := undef) rfl rfl (by kernel_rfl) (by kernel_rfl) (by kernel_rfl) (fun _ _ _ h => h) ⟨Or.inr ⟨by rfl, rfl⟩, fun _ => rfl⟩ ?_
              try simp only [Act.put, List.setIfInBounds_toArray, List.set_cons_zero, List.set_cons_succ]
              refine wpAnyIn_take (i := 19) (oi := { dst := some 42, op := Op.load 73 (Operand.tmp 41), type := 73, pos := "tree.go:98", after := #[{ on := 18, ground := Ground.data }, { on := 15, ground := Ground.guard }], guard := some (15, true) }) (v := undef) rfl rfl (by kernel_rfl) (by kernel_rfl) (by kernel_rfl) (fun _ _ _ h => h) ⟨Or.inr ⟨by rfl, rfl⟩, fun _ => rfl⟩ ?_
              try simp only [Act.put, List.setIfInBounds_toArray, List.set_cons_zero, List.set_cons_succ]
              refine wpAnyIn_take (i := 20) (oi := { dst := some 43, op := Op.load 82 (Operand.tmp 4), type := 82, pos := "tree.go:98", after := #[{ on := 15, ground := Ground.guard }], guard := some (15, true) }) (v := undef) rfl rfl (by kernel_rfl) (by kernel_rfl) (by kernel_rfl) (fun _ _ _ h => h) ⟨Or.inr ⟨by rfl, rfl⟩, fun _ => rfl⟩ ?_
              try simp only [Act.put, List.setIfInBounds_toArray, List.set_cons_zero, List.set_cons_succ]
              refine wpAnyIn_take (i := 21) (oi := { dst := some 44, op := Op.move (Operand.tmp 2), type := 127, pos := "tree.go:98", after := #[{ on := 15, ground := Ground.guard }], guard := some (15, true) }) (v := undef) rfl rfl (by kernel_rfl) (by kernel_rfl) (by kernel_rfl) (fun _ _ _ h => h) ⟨Or.inr ⟨by rfl, rfl⟩, fun _ => rfl⟩ ?_
              try simp only [Act.put, List.setIfInBounds_toArray, List.set_cons_zero, List.set_cons_succ]
              refine wpAnyIn_ready (rs := [22]) (by kernel_rfl) (by simp) ?_
              refine AllReadyIn.cons (o := { dst := some 45, op := Op.call { callee := Callee.value (Operand.func 59), args := #[Operand.tmp 42, Operand.tmp 43, Operand.tmp 44], argTypes := #[73, 82, 127] }, type := 4, pos := "tree.go:98", after := #[{ on := 19, ground := Ground.data }, { on := 20, ground := Ground.data }, { on := 21, ground := Ground.data }, { on := 15, ground := Ground.chain }, { on := 15, ground := Ground.guard }], guard := some (15, true) }) rfl (fun K hK => ?_) AllReadyIn.nil
              rw [if_neg (by intro h; exact Bool.noConfusion (show false = true from h))]
              refine ⟨fun _ _ => trivial, hK _ _ ?_⟩
              clear hK K
              try simp only [Act.put, List.setIfInBounds_toArray, List.set_cons_zero, List.set_cons_succ]
              refine wpAnyIn_take (i := 23) (oi := { dst := some 46, op := Op.pick (Operand.tmp 38) (Operand.tmp 45) (Operand.const (Value.bool false)), type := 4, pos := "tree.go:98", after := #[{ on := 15, ground := Ground.data }, { on := 22, ground := Ground.data }], guard := none }) (v := ?_) rfl rfl (by kernel_rfl) (by kernel_rfl) (by kernel_rfl) (fun _ _ _ h => h) ⟨Or.inl ⟨by rfl, ?_⟩, fun _ => rfl⟩ ?_
              rotate_left
              · (intro w; first | (go_simp; done) | (go_simp; with_reducible rfl))
              try simp only [Act.put, List.setIfInBounds_toArray, List.set_cons_zero, List.set_cons_succ]
              refine wpAnyIn_take (i := 24) (oi := { dst := some 6, op := Op.assign (Operand.tmp 46), type := 4, pos := "tree.go:98", after := #[{ on := 23, ground := Ground.data }, { on := 22, ground := Ground.chain }, { on := 0, ground := Ground.phase }, { on := 1, ground := Ground.phase }, { on := 2, ground := Ground.phase }, { on := 3, ground := Ground.phase }, { on := 4, ground := Ground.phase }, { on := 5, ground := Ground.phase }, { on := 6, ground := Ground.phase }, { on := 7, ground := Ground.phase }, { on := 8, ground := Ground.phase }, { on := 9, ground := Ground.phase }, { on := 10, ground := Ground.phase }, { on := 11, ground := Ground.phase }, { on := 12, ground := Ground.phase }, { on := 13, ground := Ground.phase }, { on := 14, ground := Ground.phase }, { on := 15, ground := Ground.phase }, { on := 16, ground := Ground.phase }, { on := 17, ground := Ground.phase }, { on := 18, ground := Ground.phase }, { on := 19, ground := Ground.phase }, { on := 20, ground := Ground.phase }, { on := 21, ground := Ground.phase }, { on := 22, ground := Ground.phase }, { on := 23, ground := Ground.phase }], guard := none }) (v := ?_) rfl rfl (by kernel_rfl) (by kernel_rfl) (by kernel_rfl) (fun _ _ _ h => h) ⟨Or.inl ⟨by rfl, ?_⟩, fun _ => rfl⟩ ?_
              rotate_left
              · (intro w; first | (go_simp; done) | (go_simp; with_reducible rfl))
              try simp only [Act.put, List.setIfInBounds_toArray, List.set_cons_zero, List.set_cons_succ]
              refine wpAnyIn_done (by kernel_rfl) ?_ _
              have HX := Lib.hid hx3
              clear hx3 hk2 hJ2
              gi_wp2
              go_ret
              exact .inr ⟨rfl, geLC c tl ++ [x], ⟨tr.nodes.map Prod.snd, by simp⟩, by simpa using HX.out⟩
          · dsimp only
            refine hK _ _ ?_
            clear hK K
            try simp only [Act.put, List.setIfInBounds_toArray, List.set_cons_zero, List.set_cons_succ]
            refine wpAnyIn_take (i := 7) (oi := { dst := some 30, op := Op.move (Operand.tmp 29), type := 4, pos := "tree.go:98", after := #[{ on := 6, ground := Ground.data }, { on := 6, ground := Ground.chain }], guard := none }) (v := ?_) rfl rfl (by kernel_rfl) (by kernel_rfl) (by kernel_rfl) (fun _ _ _ h => h) ⟨Or.inl ⟨by rfl, ?_⟩, fun _ => rfl⟩ ?_
            rotate_left
            · (intro w; first | (go_simp; done) | (go_simp; with_reducible rfl))
            try simp only [Act.put, List.setIfInBounds_toArray, List.set_cons_zero, List.set_cons_succ]
            refine wpAnyIn_take (i := 8) (oi := { dst := some 31, op := Op.move (Operand.tmp 2), type := 127, pos := "tree.go:98", after := #[{ on := 7, ground := Ground.guard }], guard := some (7, true) }) (v := undef) rfl rfl (by kernel_rfl) (by kernel_rfl) (by kernel_rfl) (fun _ _ _ h => h) ⟨Or.inr ⟨by rfl, rfl⟩, fun _ => rfl⟩ ?_
            try simp only [Act.put, List.setIfInBounds_toArray, List.set_cons_zero, List.set_cons_succ]
            refine wpAnyIn_take (i := 9) (oi := { dst := some 32, op := Op.move (Operand.tmp 0), type := 73, pos := "tree.go:98", after := #[{ on := 7, ground := Ground.guard }], guard := some (7, true) }) (v := undef) rfl rfl (by kernel_rfl) (by kernel_rfl) (by kernel_rfl) (fun _ _ _ h => h) ⟨Or.inr ⟨by rfl, rfl⟩, fun _ => rfl⟩ ?_
            try simp only [Act.put, List.setIfInBounds_toArray, List.set_cons_zero, List.set_cons_succ]
            refine wpAnyIn_take (i := 10) (oi := { dst := some 33, op := Op.nilCheck (Operand.tmp 32), type := 0, pos := "tree.go:98", after := #[{ on := 9, ground := Ground.data }, { on := 7, ground := Ground.guard }], guard := some (7, true) }) (v := undef) rfl rfl (by kernel_rfl) (by kernel_rfl) (by kernel_rfl) (fun _ _ _ h => h) ⟨Or.inr ⟨by rfl, rfl⟩, fun _ => rfl⟩ ?_
            try simp only [Act.put, List.setIfInBounds_toArray, List.set_cons_zero, List.set_cons_succ]
            refine wpAnyIn_take (i := 11) (oi := { dst := some 34, op := Op.fieldAddr 124 (Operand.tmp 33) 0, type := 0, pos := "tree.go:98", after := #[{ on := 10, ground := Ground.data }, { on := 7, ground := Ground.guard }], guard := some (7, true) }) (v := undef) rfl rfl (by kernel_rfl) (by kernel_rfl) (by kernel_rfl) (fun _ _ _ h => h) ⟨Or.inr ⟨by rfl, rfl⟩, fun _ => rfl⟩ ?_
            try simp only [Act.put, List.setIfInBounds_toArray, List.set_cons_zero, List.set_cons_succ]
            refine wpAnyIn_take (i := 12) (oi := { dst := some 35, op := Op.load 82 (Operand.tmp 34), type := 82, pos := "tree.go:98", after := #[{ on := 11, ground := Ground.data }, { on := 7, ground := Ground.guard }], guard := some (7, true) }) (v := undef) rfl rfl (by kernel_rfl) (by kernel_rfl) (by kernel_rfl) (fun _ _ _ h => h) ⟨Or.inr ⟨by rfl, rfl⟩, fun _ => rfl⟩ ?_
            try simp only [Act.put, List.setIfInBounds_toArray, List.set_cons_zero, List.set_cons_succ]
            refine wpAnyIn_ready (rs := [13]) (by kernel_rfl) (by simp) ?_
            refine AllReadyIn.cons (o := { dst := some 36, op := Op.call { callee := Callee.value (Operand.tmp 31), args := #[Operand.tmp 35], argTypes := #[82] }, type := 4, pos := "tree.go:98", after := #[{ on := 8, ground := Ground.data }, { on := 12, ground := Ground.data }, { on := 7, ground := Ground.chain }, { on := 7, ground := Ground.guard }], guard := some (7, true) }) rfl (fun K hK => ?_) AllReadyIn.nil
            rw [if_neg (by intro h; exact Bool.noConfusion (show false = true from h))]
            refine ⟨fun _ _ => trivial, hK _ _ ?_⟩
            clear hK K
            try simp only [Act.put, List.setIfInBounds_toArray, List.set_cons_zero, List.set_cons_succ]
            refine wpAnyIn_take (i := 14) (oi := { dst := some 37, op := Op.pick (Operand.tmp 30) (Operand.tmp 36) (Operand.const (Value.bool false)), type := 4, pos := "tree.go:98", after := #[{ on := 7, ground := Ground.data }, { on := 13, ground := Ground.data }], guard := none }) (v := ?_) rfl rfl (by kernel_rfl) (by kernel_rfl) (by kernel_rfl) (fun _ _ _ h => h) ⟨Or.inl ⟨by rfl, ?_⟩, fun _ => rfl⟩ ?_
            rotate_left
            · (intro w; first | (go_simp; done) | (go_simp; with_reducible rfl))
            try simp only [Act.put, List.setIfInBounds_toArray, List.set_cons_zero, List.set_cons_succ]
            refine wpAnyIn_take (i := 15) (oi := { dst := some 38, op := Op.move (Operand.tmp 37), type := 4, pos := "tree.go:98", after := #[{ on := 14, ground := Ground.data }, { on := 13, ground := Ground.chain }], guard := none }) (v := ?_) rfl rfl (by kernel_rfl) (by kernel_rfl) (by kernel_rfl) (fun _ _ _ h => h) ⟨Or.inl ⟨by rfl, ?_⟩, fun _ => rfl⟩ ?_
            rotate_left
            · (intro w; first | (go_simp; done) | (go_simp; with_reducible rfl))
            try simp only [Act.put, List.setIfInBounds_toArray, List.set_cons_zero, List.set_cons_succ]
            refine wpAnyIn_take (i := 16) (oi := { dst := some 39, op := Op.move (Operand.tmp 0), type := 73, pos := "tree.go:98", after := #[{ on := 15, ground := Ground.guard }], guard := some (15, true) }) (v := undef) rfl rfl (by kernel_rfl) (by kernel_rfl) (by kernel_rfl) (fun _ _ _ h => h) ⟨Or.inr ⟨by rfl, rfl⟩, fun _ => rfl⟩ ?_
            try simp only [Act.put, List.setIfInBounds_toArray, List.set_cons_zero, List.set_cons_succ]
            refine wpAnyIn_take (i := 17) (oi := { dst := some 40, op := Op.nilCheck (Operand.tmp 39), type := 0, pos := "tree.go:98", after := #[{ on := 16, ground := Ground.data }, { on := 15, ground := Ground.guard }], guard := some (15, true) }) (v := undef) rfl rfl (by kernel_rfl) (by kernel_rfl) (by kernel_rfl) (fun _ _ _ h => h) ⟨Or.inr ⟨by rfl, rfl⟩, fun _ => rfl⟩ ?_
            try simp only [Act.put, List.setIfInBounds_toArray, List.set_cons_zero, List.set_cons_succ]
            refine wpAnyIn_take (i := 18) (oi := { dst := some 41, op := Op.fieldAddr 124 (Operand.tmp 40) 3, type := 0, pos := "tree.go:98", after := #[{ on := 17, ground := Ground.data }, { on := 15, ground := Ground.guard }], guard := some (15, true) }) (v := undef) rfl rfl (by kernel_rfl) (by kernel_rfl) (by kernel_rfl) (fun _ _ _ h => h) ⟨Or.inr ⟨by rfl, rfl⟩, fun _ => rfl⟩ ?_
            try simp only [Act.put, List.setIfInBounds_toArray, List.set_cons_zero, List.set_cons_succ]
            refine wpAnyIn_take (i := 19) (oi := { dst := some 42, op := Op.load 73 (Operand.tmp 41), type := 73, pos := "tree.go:98", after := #[{ on := 18, ground := Ground.data }, { on := 15, ground := Ground.guard }], guard := some (15, true) }) (v := undef) rfl rfl (by kernel_rfl) (by kernel_rfl) (by kernel_rfl) (fun _ _ _ h => h) ⟨Or.inr ⟨by rfl, rfl⟩, fun _ => rfl⟩ ?_
            try simp only [Act.put, List.setIfInBounds_toArray, List.set_cons_zero, List.set_cons_succ]
            refine wpAnyIn_take (i := 20) (oi := { dst := some 43, op := Op.load 82 (Operand.tmp 4), type := 82, pos := "tree.go:98", after := #[{ on := 15, ground := Ground.guard }], guard := some (15, true) }) (v := undef) rfl rfl (by kernel_rfl) (by kernel_rfl) (by kernel_rfl) (fun _ _ _ h => h) ⟨Or.inr ⟨by rfl, rfl⟩, fun _ => rfl⟩ ?_
            try simp only [Act.put, List.setIfInBounds_toArray, List.set_cons_zero, List.set_cons_succ]
            refine wpAnyIn_take (i := 21) (oi := { dst := some 44, op := Op.move (Operand.tmp 2), type := 127, pos := "tree.go:98", after := #[{ on := 15, ground := Ground.guard }], guard := some (15, true) }) (v := undef) rfl rfl (by kernel_rfl) (by kernel_rfl) (by kernel_rfl) (fun _ _ _ h => h) ⟨Or.inr ⟨by rfl, rfl⟩, fun _ => rfl⟩ ?_
            try simp only [Act.put, List.setIfInBounds_toArray, List.set_cons_zero, List.set_cons_succ]
            refine wpAnyIn_ready (rs := [22]) (by kernel_rfl) (by simp) ?_
            refine AllReadyIn.cons (o := { dst := some 45, op := Op.call { callee := Callee.value (Operand.func 59), args := #[Operand.tmp 42, Operand.tmp 43, Operand.tmp 44], argTypes := #[73, 82, 127] }, type := 4, pos := "tree.go:98", after := #[{ on := 19, ground := Ground.data }, { on := 20, ground := Ground.data }, { on := 21, ground := Ground.data }, { on := 15, ground := Ground.chain }, { on := 15, ground := Ground.guard }], guard := some (15, true) }) rfl (fun K hK => ?_) AllReadyIn.nil
            rw [if_neg (by intro h; exact Bool.noConfusion (show false = true from h))]
            refine ⟨fun _ _ => trivial, hK _ _ ?_⟩
            clear hK K
            try simp only [Act.put, List.setIfInBounds_toArray, List.set_cons_zero, List.set_cons_succ]
            refine wpAnyIn_take (i := 23) (oi := { dst := some 46, op := Op.pick (Operand.tmp 38) (Operand.tmp 45) (Operand.const (Value.bool false)), type := 4, pos := "tree.go:98", after := #[{ on := 15, ground := Ground.data }, { on := 22, ground := Ground.data }], guard := none }) (v := ?_) rfl rfl (by kernel_rfl) (by kernel_rfl) (by kernel_rfl) (fun _ _ _ h => h) ⟨Or.inl ⟨by rfl, ?_⟩, fun _ => rfl⟩ ?_
            rotate_left
            · (intro w; first | (go_simp; done) | (go_simp; with_reducible rfl))
            try simp only [Act.put, List.setIfInBounds_toArray, List.set_cons_zero, List.set_cons_succ]
            refine wpAnyIn_take (i := 24) (oi := { dst := some 6, op := Op.assign (Operand.tmp 46), type := 4, pos := "tree.go:98", after := #[{ on := 23, ground := Ground.data }, { on := 22, ground := Ground.chain }, { on := 0, ground := Ground.phase }, { on := 1, ground := Ground.phase }, { on := 2, ground := Ground.phase }, { on := 3, ground := Ground.phase }, { on := 4, ground := Ground.phase }, { on := 5, ground := Ground.phase }, { on := 6, ground := Ground.phase }, { on := 7, ground := Ground.phase }, { on := 8, ground := Ground.phase }, { on := 9, ground := Ground.phase }, { on := 10, ground := Ground.phase }, { on := 11, ground := Ground.phase }, { on := 12, ground := Ground.phase }, { on := 13, ground := Ground.phase }, { on := 14, ground := Ground.phase }, { on := 15, ground := Ground.phase }, { on := 16, ground := Ground.phase }, { on := 17, ground := Ground.phase }, { on := 18, ground := Ground.phase }, { on := 19, ground := Ground.phase }, { on := 20, ground := Ground.phase }, { on := 21, ground := Ground.phase }, { on := 22, ground := Ground.phase }, { on := 23, ground := Ground.phase }], guard := none }) (v := ?_) rfl rfl (by kernel_rfl) (by kernel_rfl) (by kernel_rfl) (fun _ _ _ h => h) ⟨Or.inl ⟨by rfl, ?_⟩, fun _ => rfl⟩ ?_
            rotate_left
            · (intro w; first | (go_simp; done) | (go_simp; with_reducible rfl))
            try simp only [Act.put, List.setIfInBounds_toArray, List.set_cons_zero, List.set_cons_succ]
            refine wpAnyIn_done (by kernel_rfl) ?_ _
            have HX := Lib.hid (And.intro hq hx2)
            clear hq hx2
            gi_wp2
            go_ret
            obtain ⟨q2, hq2⟩ := HX.out.1
            exact .inr ⟨rfl, q, ⟨q2 ++ x :: tr.nodes.map Prod.snd, by rw [← hq2]; simp⟩, HX.out.2⟩
      · go_simp
        refine hK _ _ ?_
        clear hK K
        try simp only [Act.put, List.setIfInBounds_toArray, List.set_cons_zero, List.set_cons_succ]
        refine wpAnyIn_ready (rs := [3]) (by kernel_rfl) (by simp) ?_
        refine (AllReadyIn.cons (o := { dst := some 12, op := Op.load 82 (Operand.tmp 11), type := 82, pos := "tree.go:95", after := #[{ on := 2, ground := Ground.data }], guard := none }) rfl (fun K hK => ?_) AllReadyIn.nil)
        go_simp
        refine hK _ _ ?_
        clear hK K
        try simp only [Act.put, List.setIfInBounds_toArray, List.set_cons_zero, List.set_cons_succ]
        refine wpAnyIn_take (i := 4) (oi := { dst := some 13, op := Op.makeInterface 82 (Operand.tmp 12), type := 20, pos := "tree.go:95", after := #[{ on := 3, ground := Ground.data }], guard := none }) (v := ?_) rfl rfl (by kernel_rfl) (by kernel_rfl) (by kernel_rfl) (fun _ _ _ h => h) ⟨Or.inl ⟨by rfl, ?_⟩, fun _ => rfl⟩ ?_
        rotate_left
        · (intro w; first | (go_simp; done) | (go_simp; with_reducible rfl))
        try simp only [Act.put, List.setIfInBounds_toArray, List.set_cons_zero, List.set_cons_succ]
        refine wpAnyIn_ready (rs := [6]) (by kernel_rfl) (by simp) ?_
        refine (AllReadyIn.cons (o := { dst := some 15, op := Op.call { callee := Callee.invoke (Operand.tmp 13) "moult/memory.less", args := #[Operand.tmp 14], argTypes := #[82] }, type := 4, pos := "tree.go:95", after := #[{ on := 4, ground := Ground.data }, { on := 5, ground := Ground.data }], guard := none }) rfl (fun K hK => ?_) AllReadyIn.nil)
        go_simp
        refine ⟨trivial, fun h => (by cases h), ?_⟩
        refine (callsIn_wide.2 (cless_any x c _)).mono ?_
        rw [hlt]
        rintro r1 W1 ⟨rfl, hb⟩
        dsimp only
        refine hK _ _ ?_
        clear hK K
        try simp only [Act.put, List.setIfInBounds_toArray, List.set_cons_zero, List.set_cons_succ]
        refine wpAnyIn_done (by kernel_rfl) ?_ _
        have hb1 : Bel W0 W1 := by rw [hW0]; exact (Bel.refl _).drew.trans hb
        have HB1 := Lib.hid hb1
        obtain ⟨-, c5, -⟩ := FB.out W1 hb1
        obtain ⟨e0, e1, e2⟩ := FE.out W1 (KeepTC.of_bel hb1 (Nat.le_trans hsz HB0.out.size))
        have FB2 := Lib.hid (fun W2 (hk : KeepTC n₀ W1 W2) => FB0.out W2 (((KeepTC.of_bel (HB0.out.trans HB1.out) hsz).trans hk)))
        have FE2 := Lib.hid (fun W2 (hk : KeepTC n₀ W1 W2) => FE.out W2 ((KeepTC.of_bel HB1.out (Nat.le_trans hsz HB0.out.size)).trans hk))
        have IR2 := Lib.hid (fun W3 (hk : KeepTC n₀ W1 W3) hJ3 => IR0.out W3 ((KeepTC.of_bel (HB0.out.trans HB1.out) hsz).trans hk) hJ3)
        clear hb hb1
        gi_wp2
        refine wpIn_region_any (by kernel_rfl) ?_
        change wpAnyIn _ _ _ _ _ _ _ _ _ (World.drew _)
        refine wpAnyIn_take (i := 0) (oi := { dst := some 23, op := Op.move (Operand.tmp 0), type := 73, pos := "tree.go:98", after := #[], guard := none }) (v := ?_) rfl rfl (by kernel_rfl) (by kernel_rfl) (by kernel_rfl) (fun _ _ _ h => h) ⟨Or.inl ⟨by rfl, ?_⟩, fun _ => rfl⟩ ?_
        rotate_left
        · (intro w; first | (go_simp; done) | (go_simp; with_reducible rfl))
        try simp only [Act.put, List.setIfInBounds_toArray, List.set_cons_zero, List.set_cons_succ]
        refine wpAnyIn_take (i := 1) (oi := { dst := some 24, op := Op.nilCheck (Operand.tmp 23), type := 0, pos := "tree.go:98", after := #[{ on := 0, ground := Ground.data }], guard := none }) (v := ?_) rfl rfl (by kernel_rfl) (by kernel_rfl) (by kernel_rfl) (fun _ _ _ h => h) ⟨Or.inl ⟨by rfl, ?_⟩, fun _ => rfl⟩ ?_
        rotate_left
        · (intro w; first | (go_simp; done) | (go_simp; with_reducible rfl))
        try simp only [Act.put, List.setIfInBounds_toArray, List.set_cons_zero, List.set_cons_succ]
        refine wpAnyIn_take (i := 2) (oi := { dst := some 25, op := Op.fieldAddr 124 (Operand.tmp 24) 2, type := 0, pos := "tree.go:98", after := #[{ on := 1, ground := Ground.data }], guard := none }) (v := ?_) rfl rfl (by kernel_rfl) (by kernel_rfl) (by kernel_rfl) (fun _ _ _ h => h) ⟨Or.inl ⟨by rfl, ?_⟩, fun _ => rfl⟩ ?_
        rotate_left
        · (intro w; first | (go_simp; done) | (go_simp; with_reducible rfl))
        try simp only [Act.put, List.setIfInBounds_toArray, List.set_cons_zero, List.set_cons_succ]
        refine wpAnyIn_take (i := 5) (oi := { dst := some 28, op := Op.move (Operand.tmp 2), type := 127, pos := "tree.go:98", after := #[], guard := none }) (v := ?_) rfl rfl (by kernel_rfl) (by kernel_rfl) (by kernel_rfl) (fun _ _ _ h => h) ⟨Or.inl ⟨by rfl, ?_⟩, fun _ => rfl⟩ ?_
        rotate_left
        · (intro w; first | (go_simp; done) | (go_simp; with_reducible rfl))
        try simp only [Act.put, List.setIfInBounds_toArray, List.set_cons_zero, List.set_cons_succ]
        refine wpAnyIn_ready (rs := [3, 4]) (by kernel_rfl) (by simp) ?_
        refine (AllReadyIn.cons (o := { dst := some 26, op := Op.load 73 (Operand.tmp 25), type := 73, pos := "tree.go:98", after := #[{ on := 2, ground := Ground.data }], guard := none }) rfl (fun K hK => ?_) (AllReadyIn.cons (o := { dst := some 27, op := Op.load 82 (Operand.tmp 4), type := 82, pos := "tree.go:98", after := #[], guard := none }) rfl (fun K hK => ?_) AllReadyIn.nil))
        · go_simp
          refine hK _ _ ?_
          clear hK K
          try simp only [Act.put, List.setIfInBounds_toArray, List.set_cons_zero, List.set_cons_succ]
          refine wpAnyIn_ready (rs := [4]) (by kernel_rfl) (by simp) ?_
          refine (AllReadyIn.cons (o := { dst := some 27, op := Op.load 82 (Operand.tmp 4), type := 82, pos := "tree.go:98", after := #[], guard := none }) rfl (fun K hK => ?_) AllReadyIn.nil)
          go_simp
          refine hK _ _ ?_
          clear hK K
          try simp only [Act.put, List.setIfInBounds_toArray, List.set_cons_zero, List.set_cons_succ]
          refine wpAnyIn_ready (rs := [6]) (by kernel_rfl) (by simp) ?_
          refine (AllReadyIn.cons (o := { dst := some 29, op := Op.call { callee := Callee.value (Operand.func 59), args := #[Operand.tmp 26, Operand.tmp 27, Operand.tmp 28], argTypes := #[73, 82, 127] }, type := 4, pos := "tree.go:98", after := #[{ on := 3, ground := Ground.data }, { on := 4, ground := Ground.data }, { on := 5, ground := Ground.data }], guard := none }) rfl (fun K hK => ?_) AllReadyIn.nil)
          go_simp
          refine ⟨trivial, fun h => (by cases h), ?_⟩
          refine (IL.out _ (HB0.out.trans HB1.out).drew).mono ?_
          rintro r2 W2 (⟨rfl, hJ2, hk2⟩ | ⟨rfl, q, hq, hx2⟩)
          · dsimp only
            refine hK _ _ ?_
            clear hK K
            try simp only [Act.put, List.setIfInBounds_toArray, List.set_cons_zero, List.set_cons_succ]
            replace hk2 : KeepTC n₀ W1 W2 := (KeepTC.of_bel (Bel.refl W1).drew (Nat.le_trans hsz (HB0.out.trans HB1.out).size)).trans hk2
            clear e0 e1 e2
            obtain ⟨⟨c0, c1, c2⟩, -, -⟩ := FB2.out W2 hk2
            refine wpAnyIn_take (i := 7) (oi := { dst := some 30, op := Op.move (Operand.tmp 29), type := 4, pos := "tree.go:98", after := #[{ on := 6, ground := Ground.data }, { on := 6, ground := Ground.chain }], guard := none }) (v := ?_) rfl rfl (by kernel_rfl) (by kernel_rfl) (by kernel_rfl) (fun _ _ _ h => h) ⟨Or.inl ⟨by rfl, ?_⟩, fun _ => rfl⟩ ?_
            rotate_left
            · (intro w; first | (go_simp; done) | (go_simp; with_reducible rfl))
            try simp only [Act.put, List.setIfInBounds_toArray, List.set_cons_zero, List.set_cons_succ]
            refine wpAnyIn_take (i := 8) (oi := { dst := some 31, op := Op.move (Operand.tmp 2), type := 127, pos := "tree.go:98", after := #[{ on := 7, ground := Ground.guard }], guard := some (7, true) }) (v := ?_) rfl rfl (by kernel_rfl) (by kernel_rfl) (by kernel_rfl) (fun _ _ _ h => h) ⟨Or.inl ⟨by rfl, ?_⟩, fun _ => rfl⟩ ?_
            rotate_left
            · (intro w; first | (go_simp; done) | (go_simp; with_reducible rfl))
            try simp only [Act.put, List.setIfInBounds_toArray, List.set_cons_zero, List.set_cons_succ]
            refine wpAnyIn_take (i := 9) (oi := { dst := some 32, op := Op.move (Operand.tmp 0), type := 73, pos := "tree.go:98", after := #[{ on := 7, ground := Ground.guard }], guard := some (7, true) }) (v := ?_) rfl rfl (by kernel_rfl) (by kernel_rfl) (by kernel_rfl) (fun _ _ _ h => h) ⟨Or.inl ⟨by rfl, ?_⟩, fun _ => rfl⟩ ?_
            rotate_left
            · (intro w; first | (go_simp; done) | (go_simp; with_reducible rfl))
            try simp only [Act.put, List.setIfInBounds_toArray, List.set_cons_zero, List.set_cons_succ]
            refine wpAnyIn_take (i := 10) (oi := { dst := some 33, op := Op.nilCheck (Operand.tmp 32), type := 0, pos := "tree.go:98", after := #[{ on := 9, ground := Ground.data }, { on := 7, ground := Ground.guard }], guard := some (7, true) }) (v := ?_) rfl rfl (by kernel_rfl) (by kernel_rfl) (by kernel_rfl) (fun _ _ _ h => h) ⟨Or.inl ⟨by rfl, ?_⟩, fun _ => rfl⟩ ?_
            rotate_left
            · (intro w; first | (go_simp; done) | (go_simp; with_reducible rfl))
            try simp only [Act.put, List.setIfInBounds_toArray, List.set_cons_zero, List.set_cons_succ]
            refine wpAnyIn_take (i := 11) (oi := { dst := some 34, op := Op.fieldAddr 124 (Operand.tmp 33) 0, type := 0, pos := "tree.go:98", after := #[{ on := 10, ground := Ground.data }, { on := 7, ground := Ground.guard }], guard := some (7, true) }) (v := ?_) rfl rfl (by kernel_rfl) (by kernel_rfl) (by kernel_rfl) (fun _ _ _ h => h) ⟨Or.inl ⟨by rfl, ?_⟩, fun _ => rfl⟩ ?_
            rotate_left
            · (intro w; first | (go_simp; done) | (go_simp; with_reducible rfl))
            try simp only [Act.put, List.setIfInBounds_toArray, List.set_cons_zero, List.set_cons_succ]
            refine wpAnyIn_ready (rs := [12]) (by kernel_rfl) (by simp) ?_
            refine (AllReadyIn.cons (o := { dst := some 35, op := Op.load 82 (Operand.tmp 34), type := 82, pos := "tree.go:98", after := #[{ on := 11, ground := Ground.data }, { on := 7, ground := Ground.guard }], guard := some (7, true) }) rfl (fun K hK => ?_) AllReadyIn.nil)
            go_simp
            refine hK _ _ ?_
            clear hK K
            try simp only [Act.put, List.setIfInBounds_toArray, List.set_cons_zero, List.set_cons_succ]
            clear c0 c1 c2
            obtain ⟨fn, tmps, assign, body, hy, hR⟩ := HY.out (n - 1) (pre ++ geLC c tl) W2 hJ2 (by rw [List.length_append]; omega)
            refine wpAnyIn_ready (rs := [13]) (by kernel_rfl) (by simp) ?_
            refine (AllReadyIn.cons (o := { dst := some 36, op := Op.call { callee := Callee.value (Operand.tmp 31), args := #[Operand.tmp 35], argTypes := #[82] }, type := 4, pos := "tree.go:98", after := #[{ on := 8, ground := Ground.data }, { on := 12, ground := Ground.data }, { on := 7, ground := Ground.chain }, { on := 7, ground := Ground.guard }], guard := some (7, true) }) rfl (fun K hK => ?_) AllReadyIn.nil)
            go_simp
            refine ⟨fun h => (by cases h), ?_⟩
            refine hR.mono ?_
            rintro r3 W3 (⟨rfl, hJ3, hk3⟩ | ⟨rfl, hx3⟩)
            · clear hy hR
              dsimp only
              refine hK _ _ ?_
              clear hK K
              try simp only [Act.put, List.setIfInBounds_toArray, List.set_cons_zero, List.set_cons_succ]
              obtain ⟨-, -, c6⟩ := FB2.out W3 (hk2.trans hk3)
              obtain ⟨e0, e1, e2⟩ := FE2.out W3 (hk2.trans hk3)
              refine wpAnyIn_take (i := 14) (oi := { dst := some 37, op := Op.pick (Operand.tmp 30) (Operand.tmp 36) (Operand.const (Value.bool false)), type := 4, pos := "tree.go:98", after := #[{ on := 7, ground := Ground.data }, { on := 13, ground := Ground.data }], guard := none }) (v := ?_) rfl rfl (by kernel_rfl) (by kernel_rfl) (by kernel_rfl) (fun _ _ _ h => h) ⟨Or.inl ⟨by rfl, ?_⟩, fun _ => rfl⟩ ?_
              rotate_left
              · (intro w; first | (go_simp; done) | (go_simp; with_reducible rfl))
              try simp only [Act.put, List.setIfInBounds_toArray, List.set_cons_zero, List.set_cons_succ]
              refine wpAnyIn_take (i := 15) (oi := { dst := some 38, op := Op.move (Operand.tmp 37), type := 4, pos := "tree.go:98", after := #[{ on := 14, ground := Ground.data }, { on := 13, ground := Ground.chain }], guard := none }) (v := ?_) rfl rfl (by kernel_rfl) (by kernel_rfl) (by kernel_rfl) (fun _ _ _ h => h) ⟨Or.inl ⟨by rfl, ?_⟩, fun _ => rfl⟩ ?_
              rotate_left
              · (intro w; first | (go_simp; done) | (go_simp; with_reducible rfl))
              try simp only [Act.put, List.setIfInBounds_toArray, List.set_cons_zero, List.set_cons_succ]
              refine wpAnyIn_take (i := 16) (oi := { dst := some 39, op := Op.move (Operand.tmp 0), type := 73, pos := "tree.go:98", after := #[{ on := 15, ground := Ground.guard }], guard := some (15, true) }) (v := ?_) rfl rfl (by kernel_rfl) (by kernel_rfl) (by kernel_rfl) (fun _ _ _ h => h) ⟨Or.inl ⟨by rfl, ?_⟩, fun _ => rfl⟩ ?_
              rotate_left
              · (intro w; first | (go_simp; done) | (go_simp; with_reducible rfl))
              try simp only [Act.put, List.setIfInBounds_toArray, List.set_cons_zero, List.set_cons_succ]
              refine wpAnyIn_take (i := 17) (oi := { dst := some 40, op := Op.nilCheck (Operand.tmp 39), type := 0, pos := "tree.go:98", after := #[{ on := 16, ground := Ground.data }, { on := 15, ground := Ground.guard }], guard := some (15, true) }) (v := ?_) rfl rfl (by kernel_rfl) (by kernel_rfl) (by kernel_rfl) (fun _ _ _ h => h) ⟨Or.inl ⟨by rfl, ?_⟩, fun _ => rfl⟩ ?_
              rotate_left
              · (intro w; first | (go_simp; done) | (go_simp; with_reducible rfl))
              try simp only [Act.put, List.setIfInBounds_toArray, List.set_cons_zero, List.set_cons_succ]
              refine wpAnyIn_take (i := 18) (oi := { dst := some 41, op := Op.fieldAddr 124 (Operand.tmp 40) 3, type := 0, pos := "tree.go:98", after := #[{ on := 17, ground := Ground.data }, { on := 15, ground := Ground.guard }], guard := some (15, true) }) (v := ?_) rfl rfl (by kernel_rfl) (by kernel_rfl) (by kernel_rfl) (fun _ _ _ h => h) ⟨Or.inl ⟨by rfl, ?_⟩, fun _ => rfl⟩ ?_
              rotate_left
              · (intro w; first | (go_simp; done) | (go_simp; with_reducible rfl))
              try simp only [Act.put, List.setIfInBounds_toArray, List.set_cons_zero, List.set_cons_succ]
              refine wpAnyIn_take (i := 21) (oi := { dst := some 44, op := Op.move (Operand.tmp 2), type := 127, pos := "tree.go:98", after := #[{ on := 15, ground := Ground.guard }], guard := some (15, true) }) (v := ?_) rfl rfl (by kernel_rfl) (by kernel_rfl) (by kernel_rfl) (fun _ _ _ h => h) ⟨Or.inl ⟨by rfl, ?_⟩, fun _ => rfl⟩ ?_
              rotate_left
              · (intro w; first | (go_simp; done) | (go_simp; with_reducible rfl))
              try simp only [Act.put, List.setIfInBounds_toArray, List.set_cons_zero, List.set_cons_succ]
              refine wpAnyIn_ready (rs := [19, 20]) (by kernel_rfl) (by simp) ?_
              refine (AllReadyIn.cons (o := { dst := some 42, op := Op.load 73 (Operand.tmp 41), type := 73, pos := "tree.go:98", after := #[{ on := 18, ground := Ground.data }, { on := 15, ground := Ground.guard }], guard := some (15, true) }) rfl (fun K hK => ?_) (AllReadyIn.cons (o := { dst := some 43, op := Op.load 82 (Operand.tmp 4), type := 82, pos := "tree.go:98", after := #[{ on := 15, ground := Ground.guard }], guard := some (15, true) }) rfl (fun K hK => ?_) AllReadyIn.nil))
              · go_simp
                refine hK _ _ ?_
                clear hK K
                try simp only [Act.put, List.setIfInBounds_toArray, List.set_cons_zero, List.set_cons_succ]
                refine wpAnyIn_ready (rs := [20]) (by kernel_rfl) (by simp) ?_
                refine (AllReadyIn.cons (o := { dst := some 43, op := Op.load 82 (Operand.tmp 4), type := 82, pos := "tree.go:98", after := #[{ on := 15, ground := Ground.guard }], guard := some (15, true) }) rfl (fun K hK => ?_) AllReadyIn.nil)
                go_simp
                refine hK _ _ ?_
                clear hK K
                try simp only [Act.put, List.setIfInBounds_toArray, List.set_cons_zero, List.set_cons_succ]
                refine wpAnyIn_ready (rs := [22]) (by kernel_rfl) (by simp) ?_
                refine (AllReadyIn.cons (o := { dst := some 45, op := Op.call { callee := Callee.value (Operand.func 59), args := #[Operand.tmp 42, Operand.tmp 43, Operand.tmp 44], argTypes := #[73, 82, 127] }, type := 4, pos := "tree.go:98", after := #[{ on := 19, ground := Ground.data }, { on := 20, ground := Ground.data }, { on := 21, ground := Ground.data }, { on := 15, ground := Ground.chain }, { on := 15, ground := Ground.guard }], guard := some (15, true) }) rfl (fun K hK => ?_) AllReadyIn.nil)
                go_simp
                refine ⟨trivial, fun h => (by cases h), ?_⟩
                refine (IR2.out W3 (hk2.trans hk3) hJ3).mono ?_
                rintro r4 W4 (⟨rfl, hJ4, hk4⟩ | ⟨rfl, q, hq, hx4⟩)
                · dsimp only
                  refine hK _ _ ?_
                  clear hK K
                  try simp only [Act.put, List.setIfInBounds_toArray, List.set_cons_zero, List.set_cons_succ]
                  refine wpAnyIn_take (i := 23) (oi := { dst := some 46, op := Op.pick (Operand.tmp 38) (Operand.tmp 45) (Operand.const (Value.bool false)), type := 4, pos := "tree.go:98", after := #[{ on := 15, ground := Ground.data }, { on := 22, ground := Ground.data }], guard := none }) (v := ?_) rfl rfl (by kernel_rfl) (by kernel_rfl) (by kernel_rfl) (fun _ _ _ h => h) ⟨Or.inl ⟨by rfl, ?_⟩, fun _ => rfl⟩ ?_
                  rotate_left
                  · (intro w; first | (go_simp; done) | (go_simp; with_reducible rfl))
                  try simp only [Act.put, List.setIfInBounds_toArray, List.set_cons_zero, List.set_cons_succ]
                  refine wpAnyIn_take (i := 24) (oi := { dst := some 6, op := Op.assign (Operand.tmp 46), type := 4, pos := "tree.go:98", after := #[{ on := 23, ground := Ground.data }, { on := 22, ground := Ground.chain }, { on := 0, ground := Ground.phase }, { on := 1, ground := Ground.phase }, { on := 2, ground := Ground.phase }, { on := 3, ground := Ground.phase }, { on := 4, ground := Ground.phase }, { on := 5, ground := Ground.phase }, { on := 6, ground := Ground.phase }, { on := 7, ground := Ground.phase }, { on := 8, ground := Ground.phase }, { on := 9, ground := Ground.phase }, { on := 10, ground := Ground.phase }, { on := 11, ground := Ground.phase }, { on := 12, ground := Ground.phase }, { on := 13, ground := Ground.phase }, { on := 14, ground := Ground.phase }, { on := 15, ground := Ground.phase }, { on := 16, ground := Ground.phase }, { on := 17, ground := Ground.phase }, { on := 18, ground := Ground.phase }, { on := 19, ground := Ground.phase }, { on := 20, ground := Ground.phase }, { on := 21, ground := Ground.phase }, { on := 22, ground := Ground.phase }, { on := 23, ground := Ground.phase }], guard := none }) (v := ?_) rfl rfl (by kernel_rfl) (by kernel_rfl) (by kernel_rfl) (fun _ _ _ h => h) ⟨Or.inl ⟨by rfl, ?_⟩, fun _ => rfl⟩ ?_
                  rotate_left
                  · (intro w; first | (go_simp; done) | (go_simp; with_reducible rfl))
                  try simp only [Act.put, List.setIfInBounds_toArray, List.set_cons_zero, List.set_cons_succ]
                  refine wpAnyIn_done (by kernel_rfl) ?_ _
                  have HX := Lib.hid (And.intro hJ4 (((KeepTC.of_bel (HB0.out.trans HB1.out) hsz).trans hk2).trans (hk3.trans hk4)))
                  clear hJ4 hk4 hk2 hk3 hJ3
                  gi_wp2
                  go_ret
                  exact .inl ⟨rfl, by simpa using HX.out.1, HX.out.2⟩
                · dsimp only
                  refine hK _ _ ?_
                  clear hK K
                  try simp only [Act.put, List.setIfInBounds_toArray, List.set_cons_zero, List.set_cons_succ]
                  refine wpAnyIn_take (i := 23) (oi := { dst := some 46, op := Op.pick (Operand.tmp 38) (Operand.tmp 45) (Operand.const (Value.bool false)), type := 4, pos := "tree.go:98", after := #[{ on := 15, ground := Ground.data }, { on := 22, ground := Ground.data }], guard := none }) (v := ?_) rfl rfl (by kernel_rfl) (by kernel_rfl) (by kernel_rfl) (fun _ _ _ h => h) ⟨Or.inl ⟨by rfl, ?_⟩, fun _ => rfl⟩ ?_
                  rotate_left
                  · (intro w; first | (go_simp; done) | (go_simp; with_reducible rfl))
                  try simp only [Act.put, List.setIfInBounds_toArray, List.set_cons_zero, List.set_cons_succ]
                  refine wpAnyIn_take (i := 24) (oi := { dst := some 6, op := Op.assign (Operand.tmp 46), type := 4, pos := "tree.go:98", after := #[{ on := 23, ground := Ground.data }, { on := 22, ground := Ground.chain }, { on := 0, ground := Ground.phase }, { on := 1, ground := Ground.phase }, { on := 2, ground := Ground.phase }, { on := 3, ground := Ground.phase }, { on := 4, ground := Ground.phase }, { on := 5, ground := Ground.phase }, { on := 6, ground := Ground.phase }, { on := 7, ground := Ground.phase }, { on := 8, ground := Ground.phase }, { on := 9, ground := Ground.phase }, { on := 10, ground := Ground.phase }, { on := 11, ground := Ground.phase }, { on := 12, ground := Ground.phase }, { on := 13, ground := Ground.phase }, { on := 14, ground := Ground.phase }, { on := 15, ground := Ground.phase }, { on := 16, ground := Ground.phase }, { on := 17, ground := Ground.phase }, { on := 18, ground := Ground.phase }, { on := 19, ground := Ground.phase }, { on := 20, ground := Ground.phase }, { on := 21, ground := Ground.phase }, { on := 22, ground := Ground.phase }, { on := 23, ground := Ground.phase }], guard := none }) (v := ?_) rfl rfl (by kernel_rfl) (by kernel_rfl) (by kernel_rfl) (fun _ _ _ h => h) ⟨Or.inl ⟨by rfl, ?_⟩, fun _ => rfl⟩ ?_
                  rotate_left
                  · (intro w; first | (go_simp; done) | (go_simp; with_reducible rfl))
                  try simp only [Act.put, List.setIfInBounds_toArray, List.set_cons_zero, List.set_cons_succ]
                  refine wpAnyIn_done (by kernel_rfl) ?_ _
                  have HX := Lib.hid (And.intro hq hx4)
                  clear hq hx4 hk2 hk3 hJ3
                  gi_wp2
                  go_ret
                  obtain ⟨q2, hq2⟩ := HX.out.1
                  exact .inr ⟨rfl, geLC c tl ++ x :: q, ⟨q2, by rw [← hq2]; simp⟩, by simpa using HX.out.2⟩
              · go_simp
                refine hK _ _ ?_
                clear hK K
                try simp only [Act.put, List.setIfInBounds_toArray, List.set_cons_zero, List.set_cons_succ]
                refine wpAnyIn_ready (rs := [19]) (by kernel_rfl) (by simp) ?_
                refine (AllReadyIn.cons (o := { dst := some 42, op := Op.load 73 (Operand.tmp 41), type := 73, pos := "tree.go:98", after := #[{ on := 18, ground := Ground.data }, { on := 15, ground := Ground.guard }], guard := some (15, true) }) rfl (fun K hK => ?_) AllReadyIn.nil)
                go_simp
                refine hK _ _ ?_
                clear hK K
                try simp only [Act.put, List.setIfInBounds_toArray, List.set_cons_zero, List.set_cons_succ]
                refine wpAnyIn_ready (rs := [22]) (by kernel_rfl) (by simp) ?_
                refine (AllReadyIn.cons (o := { dst := some 45, op := Op.call { callee := Callee.value (Operand.func 59), args := #[Operand.tmp 42, Operand.tmp 43, Operand.tmp 44], argTypes := #[73, 82, 127] }, type := 4, pos := "tree.go:98", after := #[{ on := 19, ground := Ground.data }, { on := 20, ground := Ground.data }, { on := 21, ground := Ground.data }, { on := 15, ground := Ground.chain }, { on := 15, ground := Ground.guard }], guard := some (15, true) }) rfl (fun K hK => ?_) AllReadyIn.nil)
                go_simp
                refine ⟨trivial, fun h => (by cases h), ?_⟩
                refine (IR2.out W3 (hk2.trans hk3) hJ3).mono ?_
                rintro r4 W4 (⟨rfl, hJ4, hk4⟩ | ⟨rfl, q, hq, hx4⟩)
                · dsimp only
                  refine hK _ _ ?_
                  clear hK K
                  try simp only [Act.put, List.setIfInBounds_toArray, List.set_cons_zero, List.set_cons_succ]
                  refine wpAnyIn_take (i := 23) (oi := { dst := some 46, op := Op.pick (Operand.tmp 38) (Operand.tmp 45) (Operand.const (Value.bool false)), type := 4, pos := "tree.go:98", after := #[{ on := 15, ground := Ground.data }, { on := 22, ground := Ground.data }], guard := none }) (v := ?_) rfl rfl (by kernel_rfl) (by kernel_rfl) (by kernel_rfl) (fun _ _ _ h => h) ⟨Or.inl ⟨by rfl, ?_⟩, fun _ => rfl⟩ ?_
                  rotate_left
                  · (intro w; first | (go_simp; done) | (go_simp; with_reducible rfl))
                  try simp only [Act.put, List.setIfInBounds_toArray, List.set_cons_zero, List.set_cons_succ]
                  refine wpAnyIn_take (i := 24) (oi := { dst := some 6, op := Op.assign (Operand.tmp 46), type := 4, pos := "tree.go:98", after := #[{ on := 23, ground := Ground.data }, { on := 22, ground := Ground.chain }, { on := 0, ground := Ground.phase }, { on := 1, ground := Ground.phase }, { on := 2, ground := Ground.phase }, { on := 3, ground := Ground.phase }, { on := 4, ground := Ground.phase }, { on := 5, ground := Ground.phase }, { on := 6, ground := Ground.phase }, { on := 7, ground := Ground.phase }, { on := 8, ground := Ground.phase }, { on := 9, ground := Ground.phase }, { on := 10, ground := Ground.phase }, { on := 11, ground := Ground.phase }, { on := 12, ground := Ground.phase }, { on := 13, ground := Ground.phase }, { on := 14, ground := Ground.phase }, { on := 15, ground := Ground.phase }, { on := 16, ground := Ground.phase }, { on := 17, ground := Ground.phase }, { on := 18, ground := Ground.phase }, { on := 19, ground := Ground.phase }, { on := 20, ground := Ground.phase }, { on := 21, ground := Ground.phase }, { on := 22, ground := Ground.phase }, { on := 23, ground := Ground.phase }], guard := none }) (v := ?_) rfl rfl (by kernel_rfl) (by kernel_rfl) (by kernel_rfl) (fun _ _ _ h => h) ⟨Or.inl ⟨by rfl, ?_⟩, fun _ => rfl⟩ ?_
                  rotate_left
                  · (intro w; first | (go_simp; done) | (go_simp; with_reducible rfl))
                  try simp only [Act.put, List.setIfInBounds_toArray, List.set_cons_zero, List.set_cons_succ]
                  refine wpAnyIn_done (by kernel_rfl) ?_ _
                  have HX := Lib.hid (And.intro hJ4 (((KeepTC.of_bel (HB0.out.trans HB1.out) hsz).trans hk2).trans (hk3.trans hk4)))
                  clear hJ4 hk4 hk2 hk3 hJ3
                  gi_wp2
                  go_ret
                  exact .inl ⟨rfl, by simpa using HX.out.1, HX.out.2⟩
                · dsimp only
                  refine hK _ _ ?_
                  clear hK K
                  try simp only [Act.put, List.setIfInBounds_toArray, List.set_cons_zero, List.set_cons_succ]
                  refine wpAnyIn_take (i := 23) (oi := { dst := some 46, op := Op.pick (Operand.tmp 38) (Operand.tmp 45) (Operand.const (Value.bool false)), type := 4, pos := "tree.go:98", after := #[{ on := 15, ground := Ground.data }, { on := 22, ground := Ground.data }], guard := none }) (v := ?_) rfl rfl (by kernel_rfl) (by kernel_rfl) (by kernel_rfl) (fun _ _ _ h => h) ⟨Or.inl ⟨by rfl, ?_⟩, fun _ => rfl⟩ ?_
                  rotate_left
                  · (intro w; first | (go_simp; done) | (go_simp; with_reducible rfl))
                  try simp only [Act.put, List.setIfInBounds_toArray, List.set_cons_zero, List.set_cons_succ]
                  refine wpAnyIn_take (i := 24) (oi := { dst := some 6, op := Op.assign (Operand.tmp 46), type := 4, pos := "tree.go:98", after := #[{ on := 23, ground := Ground.data }, { on := 22, ground := Ground.chain }, { on := 0, ground := Ground.phase }, { on := 1, ground := Ground.phase }, { on := 2, ground := Ground.phase }, { on := 3, ground := Ground.phase }, { on := 4, ground := Ground.phase }, { on := 5, ground := Ground.phase }, { on := 6, ground := Ground.phase }, { on := 7, ground := Ground.phase }, { on := 8, ground := Ground.phase }, { on := 9, ground := Ground.phase }, { on := 10, ground := Ground.phase }, { on := 11, ground := Ground.phase }, { on := 12, ground := Ground.phase }, { on := 13, ground := Ground.phase }, { on := 14, ground := Ground.phase }, { on := 15, ground := Ground.phase }, { on := 16, ground := Ground.phase }, { on := 17, ground := Ground.phase }, { on := 18, ground := Ground.phase }, { on := 19, ground := Ground.phase }, { on := 20, ground := Ground.phase }, { on := 21, ground := Ground.phase }, { on := 22, ground := Ground.phase }, { on := 23, ground := Ground.phase }], guard := none }) (v := ?_) rfl rfl (by kernel_rfl) (by kernel_rfl) (by kernel_rfl) (fun _ _ _ h => h) ⟨Or.inl ⟨by rfl, ?_⟩, fun _ => rfl⟩ ?_
                  rotate_left
                  · (intro w; first | (go_simp; done) | (go_simp; with_reducible rfl))
                  try simp only [Act.put, List.setIfInBounds_toArray, List.set_cons_zero, List.set_cons_succ]
                  refine wpAnyIn_done (by kernel_rfl) ?_ _
                  have HX := Lib.hid (And.intro hq hx4)
                  clear hq hx4 hk2 hk3 hJ3
                  gi_wp2
                  go_ret
                  obtain ⟨q2, hq2⟩ := HX.out.1
                  exact .inr ⟨rfl, geLC c tl ++ x :: q, ⟨q2, by rw [← hq2]; simp⟩, by simpa using HX.out.2⟩
            · clear hy hR
              dsimp only
              refine hK _ _ ?_
              clear hK K
              try simp only [Act.put, List.setIfInBounds_toArray, List.set_cons_zero, List.set_cons_succ]
              refine wpAnyIn_take (i := 14) (oi := { dst := some 37, op := Op.pick (Operand.tmp 30) (Operand.tmp 36) (Operand.const (Value.bool false)), type := 4, pos := "tree.go:98", after := #[{ on := 7, ground := Ground.data }, { on := 13, ground := Ground.data }], guard := none }) (v := ?_) rfl rfl (by kernel_rfl) (by kernel_rfl) (by kernel_rfl) (fun _ _ _ h => h) ⟨Or.inl ⟨by rfl, ?_⟩, fun _ => rfl⟩ ?_
              rotate_left
              · (intro w; first | (go_simp; done) | (go_simp; with_reducible rfl))
              try simp only [Act.put, List.setIfInBounds_toArray, List.set_cons_zero, List.set_cons_succ]
              refine wpAnyIn_take (i := 15) (oi := { dst := some 38, op := Op.move (Operand.tmp 37), type := 4, pos := "tree.go:98", after := #[{ on := 14, ground := Ground.data }, { on := 13, ground := Ground.chain }], guard := none }) (v := ?_) rfl rfl (by kernel_rfl) (by kernel_rfl) (by kernel_rfl) (fun _ _ _ h => h) ⟨Or.inl ⟨by rfl, ?_⟩, fun _ => rfl⟩ ?_
              rotate_left
              · (intro w; first | (go_simp; done) | (go_simp; with_reducible rfl))
              try simp only [Act.put, List.setIfInBounds_toArray, List.set_cons_zero, List.set_cons_succ]
              refine wpAnyIn_take (i := 16) (oi := { dst := some 39, op := Op.move (Operand.tmp 0), type := 73, pos := "tree.go:98", after := #[{ on := 15, ground := Ground.guard }], guard := some (15, true) }) (v := undef) rfl rfl (by kernel_rfl) (by kernel_rfl) (by kernel_rfl) (fun _ _ _ h => h) ⟨Or.inr ⟨by rfl, rfl⟩, fun _ => rfl⟩ ?_
              try simp only [Act.put, List.setIfInBounds_toArray, List.set_cons_zero, List.set_cons_succ]
              refine wpAnyIn_take (i := 17) (oi := { dst := some 40, op := Op.nilCheck (Operand.tmp 39), type := 0, pos := "tree.go:98", after := #[{ on := 16, ground := Ground.data }, { on := 15, ground := Ground.guard }], guard := some (15, true) }) (v := undef) rfl rfl (by kernel_rfl) (by kernel_rfl) (by kernel_rfl) (fun _ _ _ h => h) ⟨Or.inr ⟨by rfl, rfl⟩, fun _ => rfl⟩ ?_
              try simp only [Act.put, List.setIfInBounds_toArray, List.set_cons_zero, List.set_cons_succ]
              refine wpAnyIn_take (i := 18) (oi := { dst := some 41, op := Op.fieldAddr 124 (Operand.tmp 40) 3, type := 0, pos := "tree.go:98", after := #[{ on := 17, ground := Ground.data }, { on := 15, ground := Ground.guard }], guard := some (15, true) }) (v := undef) rfl rfl (by kernel_rfl) (by kernel_rfl) (by kernel_rfl) (fun _ _ _ h => h) ⟨Or.inr ⟨by rfl, rfl⟩, fun _ => rfl⟩ ?_
              try simp only [Act.put, List.setIfInBounds_toArray, List.set_cons_zero, List.set_cons_succ]
              refine wpAnyIn_take (i := 19) (oi := { dst := some 42, op := Op.load 73 (Operand.tmp 41), type := 73, pos := "tree.go:98", after := #[{ on := 18, ground := Ground.data }, { on := 15, ground := Ground.guard }], guard := some (15, true) }) (v := undef) rfl rfl (by kernel_rfl) (by kernel_rfl) (by kernel_rfl) (fun _ _ _ h => h) ⟨Or.inr ⟨by rfl, rfl⟩, fun _ => rfl⟩ ?_
              try simp only [Act.put, List.setIfInBounds_toArray, List.set_cons_zero, List.set_cons_succ]
              refine wpAnyIn_take (i := 20) (oi := { dst := some 43, op := Op.load 82 (Operand.tmp 4), type := 82, pos := "tree.go:98", after := #[{ on := 15, ground := Ground.guard }], guard := some (15, true) }) (v := undef) rfl rfl (by kernel_rfl) (by kernel_rfl) (by kernel_rfl) (fun _ _ _ h => h) ⟨Or.inr ⟨by rfl, rfl⟩, fun _ => rfl⟩ ?_
              try simp only [Act.put, List.setIfInBounds_toArray, List.set_cons_zero, List.set_cons_succ]
              refine wpAnyIn_take (i := 21) (oi := { dst := some 44, op := Op.move (Operand.tmp 2), type := 127, pos := "tree.go:98", after := #[{ on := 15, ground := Ground.guard }], guard := some (15, true) }) (v := undef) rfl rfl (by kernel_rfl) (by kernel_rfl) (by kernel_rfl) (fun _ _ _ h => h) ⟨Or.inr ⟨by rfl, rfl⟩, fun _ => rfl⟩ ?_
              try simp only [Act.put, List.setIfInBounds_toArray, List.set_cons_zero, List.set_cons_succ]
              refine wpAnyIn_ready (rs := [22]) (by kernel_rfl) (by simp) ?_
              refine AllReadyIn.cons (o := { dst := some 45, op := Op.call { callee := Callee.value (Operand.func 59), args := #[Operand.tmp 42, Operand.tmp 43, Operand.tmp 44], argTypes := #[73, 82, 127] }, type := 4, pos := "tree.go:98", after := #[{ on := 19, ground := Ground.data }, { on := 20, ground := Ground.data }, { on := 21, ground := Ground.data }, { on := 15, ground := Ground.chain }, { on := 15, ground := Ground.guard }], guard := some (15, true) }) rfl (fun K hK => ?_) AllReadyIn.nil
              rw [if_neg (by intro h; exact Bool.noConfusion (show false = true from h))]
              refine ⟨fun _ _ => trivial, hK _ _ ?_⟩
              clear hK K
              try simp only [Act.put, List.setIfInBounds_toArray, List.set_cons_zero, List.set_cons_succ]
              refine wpAnyIn_take (i := 23) (oi := { dst := some 46, op := Op.pick (Operand.tmp 38) (Operand.tmp 45) (Operand.const (Value.bool false)), type := 4, pos := "tree.go:98", after := #[{ on := 15, ground := Ground.data }, { on := 22, ground := Ground.data }], guard := none }) (v := ?_) rfl rfl (by kernel_rfl) (by kernel_rfl) (by kernel_rfl) (fun _ _ _ h => h) ⟨Or.inl ⟨by rfl, ?_⟩, fun _ => rfl⟩ ?_
              rotate_left
              · (intro w; first | (go_simp; done) | (go_simp; with_reducible rfl))
              try simp only [Act.put, List.setIfInBounds_toArray, List.set_cons_zero, List.set_cons_succ]
              refine wpAnyIn_take (i := 24) (oi := { dst := some 6, op := Op.assign (Operand.tmp 46), type := 4, pos := "tree.go:98", after := #[{ on := 23, ground := Ground.data }, { on := 22, ground := Ground.chain }, { on := 0, ground := Ground.phase }, { on := 1, ground := Ground.phase }, { on := 2, ground := Ground.phase }, { on := 3, ground := Ground.phase }, { on := 4, ground := Ground.phase }, { on := 5, ground := Ground.phase }, { on := 6, ground := Ground.phase }, { on := 7, ground := Ground.phase }, { on := 8, ground := Ground.phase }, { on := 9, ground := Ground.phase }, { on := 10, ground := Ground.phase }, { on := 11, ground := Ground.phase }, { on := 12, ground := Ground.phase }, { on := 13, ground := Ground.phase }, { on := 14, ground := Ground.phase }, { on := 15, ground := Ground.phase }, { on := 16, ground := Ground.phase }, { on := 17, ground := Ground.phase }, { on := 18, ground := Ground.phase }, { on := 19, ground := Ground.phase }, { on := 20, ground := Ground.phase }, { on := 21, ground := Ground.phase }, { on := 22, ground := Ground.phase }, { on := 23, ground := Ground.phase }], guard := none }) (v := ?_) rfl rfl (by kernel_rfl) (by kernel_rfl) (by kernel_rfl) (fun _ _ _ h => h) ⟨Or.inl ⟨by rfl, ?_⟩, fun _ => rfl⟩ ?_
              rotate_left
              · (intro w; first | (go_simp; done) | (go_simp; with_reducible rfl))
              try simp only [Act.put, List.setIfInBounds_toArray, List.set_cons_zero, List.set_cons_succ]
              refine wpAnyIn_done (by kernel_rfl) ?_ _
              have HX := Lib.hid hx3
              clear hx3 hk2 hJ2
              gi_wp2
              go_ret
              exact .inr ⟨rfl, geLC c tl ++ [x], ⟨tr.nodes.map Prod.snd, by simp⟩, by simpa using HX.out⟩
          · dsimp only
            refine hK _ _ ?_
            clear hK K
            try simp only [Act.put, List.setIfInBounds_toArray, List.set_cons_zero, List.set_cons_succ]
            refine wpAnyIn_take (i := 7) (oi := { dst := some 30, op := Op.move (Operand.tmp 29), type := 4, pos := "tree.go:98", after := #[{ on := 6, ground := Ground.data }, { on := 6, ground := Ground.chain }], guard := none }) (v := ?_) rfl rfl (by kernel_rfl) (by kernel_rfl) (by kernel_rfl) (fun _ _ _ h => h) ⟨Or.inl ⟨by rfl, ?_⟩, fun _ => rfl⟩ ?_
            rotate_left
            · (intro w; first | (go_simp; done) | (go_simp; with_reducible rfl))
            try simp only [Act.put, List.setIfInBounds_toArray, List.set_cons_zero, List.set_cons_succ]
            refine wpAnyIn_take (i := 8) (oi := { dst := some 31, op := Op.move (Operand.tmp 2), type := 127, pos := "tree.go:98", after := #[{ on := 7, ground := Ground.guard }], guard := some (7, true) }) (v := undef) rfl rfl (by kernel_rfl) (by kernel_rfl) (by kernel_rfl) (fun _ _ _ h => h) ⟨Or.inr ⟨by rfl, rfl⟩, fun _ => rfl⟩ ?_
            try simp only [Act.put, List.setIfInBounds_toArray, List.set_cons_zero, List.set_cons_succ]
            refine wpAnyIn_take (i := 9) (oi := { dst := some 32, op := Op.move (Operand.tmp 0), type := 73, pos := "tree.go:98", after := #[{ on := 7, ground := Ground.guard }], guard := some (7, true) }) (v := undef) rfl rfl (by kernel_rfl) (by kernel_rfl) (by kernel_rfl) (fun _ _ _ h => h) ⟨Or.inr ⟨by rfl, rfl⟩, fun _ => rfl⟩ ?_
            try simp only [Act.put, List.setIfInBounds_toArray, List.set_cons_zero, List.set_cons_succ]
            refine wpAnyIn_take (i := 10) (oi := { dst := some 33, op := Op.nilCheck (Operand.tmp 32), type := 0, pos := "tree.go:98", after := #[{ on := 9, ground := Ground.data }, { on := 7, ground := Ground.guard }], guard := some (7, true) }) (v := undef) rfl rfl (by kernel_rfl) (by kernel_rfl) (by kernel_rfl) (fun _ _ _ h => h) ⟨Or.inr ⟨by rfl, rfl⟩, fun _ => rfl⟩ ?_
            try simp only [Act.put, List.setIfInBounds_toArray, List.set_cons_zero, List.set_cons_succ]
            refine wpAnyIn_take (i := 11) (oi := { dst := some 34, op := Op.fieldAddr 124 (Operand.tmp 33) 0, type := 0, pos := "tree.go:98", after := #[{ on := 10, ground := Ground.data }, { on := 7, ground := Ground.guard }], guard := some (7, true) }) (v := undef) rfl rfl (by kernel_rfl) (by kernel_rfl) (by kernel_rfl) (fun _ _ _ h => h) ⟨Or.inr ⟨by rfl, rfl⟩, fun _ => rfl⟩ ?_
            try simp only [Act.put, List.setIfInBounds_toArray, List.set_cons_zero, List.set_cons_succ]
            refine wpAnyIn_take (i := 12) (oi := { dst := some 35, op := Op.load 82 (Operand.tmp 34), type := 82, pos := "tree.go:98", after := #[{ on := 11, ground := Ground.data }, { on := 7, ground := Ground.guard }], guard := some (7, true) }) (v := undef) rfl rfl (by kernel_rfl) (by kernel_rfl) (by kernel_rfl) (fun _ _ _ h => h) ⟨Or.inr ⟨by rfl, rfl⟩, fun _ => rfl⟩ ?_
            try simp only [Act.put, List.setIfInBounds_toArray, List.set_cons_zero, List.set_cons_succ]
            refine wpAnyIn_ready (rs := [13]) (by kernel_rfl) (by simp) ?_
            refine AllReadyIn.cons (o := { dst := some 36, op := Op.call { callee := Callee.value (Operand.tmp 31), args := #[Operand.tmp 35], argTypes := #[82] }, type := 4, pos := "tree.go:98", after := #[{ on := 8, ground := Ground.data }, { on := 12, ground := Ground.data }, { on := 7, ground := Ground.chain }, { on := 7, ground := Ground.guard }], guard := some (7, true) }) rfl (fun K hK => ?_) AllReadyIn.nil
            rw [if_neg (by intro h; exact Bool.noConfusion (show false = true from h))]
            refine ⟨fun _ _ => trivial, hK _ _ ?_⟩
            clear hK K
            try simp only [Act.put, List.setIfInBounds_toArray, List.set_cons_zero, List.set_cons_succ]
            refine wpAnyIn_take (i := 14) (oi := { dst := some 37, op := Op.pick (Operand.tmp 30) (Operand.tmp 36) (Operand.const (Value.bool false)), type := 4, pos := "tree.go:98", after := #[{ on := 7, ground := Ground.data }, { on := 13, ground := Ground.data }], guard := none }) (v := ?_) rfl rfl (by kernel_rfl) (by kernel_rfl) (by kernel_rfl) (fun _ _ _ h => h) ⟨Or.inl ⟨by rfl, ?_⟩, fun _ => rfl⟩ ?_
            rotate_left
            · (intro w; first | (go_simp; done) | (go_simp; with_reducible rfl))
            try simp only [Act.put, List.setIfInBounds_toArray, List.set_cons_zero, List.set_cons_succ]
            refine wpAnyIn_take (i := 15) (oi := { dst := some 38, op := Op.move (Operand.tmp 37), type := 4, pos := "tree.go:98", after := #[{ on := 14, ground := Ground.data }, { on := 13, ground := Ground.chain }], guard := none }) (v := ?_) rfl rfl (by kernel_rfl) (by kernel_rfl) (by kernel_rfl) (fun _ _ _ h => h) ⟨Or.inl ⟨by rfl, ?_⟩, fun _ => rfl⟩ ?_
            rotate_left
            · (intro w; first | (go_simp; done) | (go_simp; with_reducible rfl))
            try simp only [Act.put, List.setIfInBounds_toArray, List.set_cons_zero, List.set_cons_succ]
            refine wpAnyIn_take (i := 16) (oi := { dst := some 39, op := Op.move (Operand.tmp 0), type := 73, pos := "tree.go:98", after := #[{ on := 15, ground := Ground.guard }], guard := some (15, true) }) (v := undef) rfl rfl (by kernel_rfl) (by kernel_rfl) (by kernel_rfl) (fun _ _ _ h => h) ⟨Or.inr ⟨by rfl, rfl⟩, fun _ => rfl⟩ ?_
            try simp only [Act.put, List.setIfInBounds_toArray, List.set_cons_zero, List.set_cons_succ]
            refine wpAnyIn_take (i := 17) (oi := { dst := some 40, op := Op.nilCheck (Operand.tmp 39), type := 0, pos := "tree.go:98", after := #[{ on := 16, ground := Ground.data }, { on := 15, ground := Ground.guard }], guard := some (15, true) }) (v := undef) rfl rfl (by kernel_rfl) (by kernel_rfl) (by kernel_rfl) (fun _ _ _ h => h) ⟨Or.inr ⟨by rfl, rfl⟩, fun _ => rfl⟩ ?_
            try simp only [Act.put, List.setIfInBounds_toArray, List.set_cons_zero, List.set_cons_succ]
            refine wpAnyIn_take (i := 18) (oi := { dst := some 41, op := Op.fieldAddr 124 (Operand.tmp 40) 3, type := 0, pos := "tree.go:98", after := #[{ on := 17, ground := Ground.data }, { on := 15, ground := Ground.guard }], guard := some (15, true) }) (v := undef) rfl rfl (by kernel_rfl) (by kernel_rfl) (by kernel_rfl) (fun _ _ _ h => h) ⟨Or.inr ⟨by rfl, rfl⟩, fun _ => rfl⟩ ?_
            try simp only [Act.put, List.setIfInBounds_toArray, List.set_cons_zero, List.set_cons_succ]
            refine wpAnyIn_take (i := 19) (oi := { dst := some 42, op := Op.load 73 (Operand.tmp 41), type := 73, pos := "tree.go:98", after := #[{ on := 18, ground := Ground.data }, { on := 15, ground := Ground.guard }], guard := some (15, true) }) (v := undef) rfl rfl (by kernel_rfl) (by kernel_rfl) (by kernel_rfl) (fun _ _ _ h => h) ⟨Or.inr ⟨by rfl, rfl⟩, fun _ => rfl⟩ ?_
            try simp only [Act.put, List.setIfInBounds_toArray, List.set_cons_zero, List.set_cons_succ]
            refine wpAnyIn_take (i := 20) (oi := { dst := some 43, op := Op.load 82 (Operand.tmp 4), type := 82, pos := "tree.go:98", after := #[{ on := 15, ground := Ground.guard }], guard := some (15, true) }) (v := undef) rfl rfl (by kernel_rfl) (by kernel_rfl) (by kernel_rfl) (fun _ _ _ h => h) ⟨Or.inr ⟨by rfl, rfl⟩, fun _ => rfl⟩ ?_
            try simp only [Act.put, List.setIfInBounds_toArray, List.set_cons_zero, List.set_cons_succ]
            refine wpAnyIn_take (i := 21) (oi := { dst := some 44, op := Op.move (Operand.tmp 2), type := 127, pos := "tree.go:98", after := #[{ on := 15, ground := Ground.guard }], guard := some (15, true) }) (v := undef) rfl rfl (by kernel_rfl) (by kernel_rfl) (by kernel_rfl) (fun _ _ _ h => h) ⟨Or.inr ⟨by rfl, rfl⟩, fun _ => rfl⟩ ?_
            try simp only [Act.put, List.setIfInBounds_toArray, List.set_cons_zero, List.set_cons_succ]
            refine wpAnyIn_ready (rs := [22]) (by kernel_rfl) (by simp) ?_
            refine AllReadyIn.cons (o := { dst := some 45, op := Op.call { callee := Callee.value (Operand.func 59), args := #[Operand.tmp 42, Operand.tmp 43, Operand.tmp 44], argTypes := #[73, 82, 127] }, type := 4, pos := "tree.go:98", after := #[{ on := 19, ground := Ground.data }, { on := 20, ground := Ground.data }, { on := 21, ground := Ground.data }, { on := 15, ground := Ground.chain }, { on := 15, ground := Ground.guard }], guard := some (15, true) }) rfl (fun K hK => ?_) AllReadyIn.nil
            rw [if_neg (by intro h; exact Bool.noConfusion (show false = true from h))]
            refine ⟨fun _ _ => trivial, hK _ _ ?_⟩
            clear hK K
            try simp only [Act.put, List.setIfInBounds_toArray, List.set_cons_zero, List.set_cons_succ]
            refine wpAnyIn_take (i := 23) (oi := { dst := some 46, op := Op.pick (Operand.tmp 38) (Operand.tmp 45) (Operand.const (Value.bool false)), type := 4, pos := "tree.go:98", after := #[{ on := 15, ground := Ground.data }, { on := 22, ground := Ground.data }], guard := none }) (v := ?_) rfl rfl (by kernel_rfl) (by kernel_rfl) (by kernel_rfl) (fun _ _ _ h => h) ⟨Or.inl ⟨by rfl, ?_⟩, fun _ => rfl⟩ ?_
            rotate_left
            · (intro w; first | (go_simp; done) | (go_simp; with_reducible rfl))
            try simp only [Act.put, List.setIfInBounds_toArray, List.set_cons_zero, List.set_cons_succ]
            refine wpAnyIn_take (i := 24) (oi := { dst := some 6, op := Op.assign (Operand.tmp 46), type := 4, pos := "tree.go:98", after := #[{ on := 23, ground := Ground.data }, { on := 22, ground := Ground.chain }, { on := 0, ground := Ground.phase }, { on := 1, ground := Ground.phase }, { on := 2, ground := Ground.phase }, { on := 3, ground := Ground.phase }, { on := 4, ground := Ground.phase }, { on := 5, ground := Ground.phase }, { on := 6, ground := Ground.phase }, { on := 7, ground := Ground.phase }, { on := 8, ground := Ground.phase }, { on := 9, ground := Ground.phase }, { on := 10, ground := Ground.phase }, { on := 11, ground := Ground.phase }, { on := 12, ground := Ground.phase }, { on := 13, ground := Ground.phase }, { on := 14, ground := Ground.phase }, { on := 15, ground := Ground.phase }, { on := 16, ground := Ground.phase }, { on := 17, ground := Ground.phase }, { on := 18, ground := Ground.phase }, { on := 19, ground := Ground.phase }, { on := 20, ground := Ground.phase }, { on := 21, ground := Ground.phase }, { on := 22, ground := Ground.phase }, { on := 23, ground := Ground.phase }], guard := none }) (v := ?_) rfl rfl (by kernel_rfl) (by kernel_rfl) (by kernel_rfl) (fun _ _ _ h => h) ⟨Or.inl ⟨by rfl, ?_⟩, fun _ => rfl⟩ ?_
            rotate_left
            · (intro w; first | (go_simp; done) | (go_simp; with_reducible rfl))
            try simp only [Act.put, List.setIfInBounds_toArray, List.set_cons_zero, List.set_cons_succ]
            refine wpAnyIn_done (by kernel_rfl) ?_ _
            have HX := Lib.hid (And.intro hq hx2)
            clear hq hx2
            gi_wp2
            go_ret
            obtain ⟨q2, hq2⟩ := HX.out.1
            exact .inr ⟨rfl, q, ⟨q2 ++ x :: tr.nodes.map Prod.snd, by rw [← hq2]; simp⟩, HX.out.2⟩
        · go_simp
          refine hK _ _ ?_
          clear hK K
          try simp only [Act.put, List.setIfInBounds_toArray, List.set_cons_zero, List.set_cons_succ]
          refine wpAnyIn_ready (rs := [3]) (by kernel_rfl) (by simp) ?_
          refine (AllReadyIn.cons (o := { dst := some 26, op := Op.load 73 (Operand.tmp 25), type := 73, pos := "tree.go:98", after := #[{ on := 2, ground := Ground.data }], guard := none }) rfl (fun K hK => ?_) AllReadyIn.nil)
          go_simp
          refine hK _ _ ?_
          clear hK K
          try simp only [Act.put, List.setIfInBounds_toArray, List.set_cons_zero, List.set_cons_succ]
          refine wpAnyIn_ready (rs := [6]) (by kernel_rfl) (by simp) ?_
          refine (AllReadyIn.cons (o := { dst := some 29, op := Op.call { callee := Callee.value (Operand.func 59), args := #[Operand.tmp 26, Operand.tmp 27, Operand.tmp 28], argTypes := #[73, 82, 127] }, type := 4, pos := "tree.go:98", after := #[{ on := 3, ground := Ground.data }, { on := 4, ground := Ground.data }, { on := 5, ground := Ground.data }], guard := none }) rfl (fun K hK => ?_) AllReadyIn.nil)
          go_simp
          refine ⟨trivial, fun h => (by cases h), ?_⟩
          refine (IL.out _ (HB0.out.trans HB1.out).drew).mono ?_
          rintro r2 W2 (⟨rfl, hJ2, hk2⟩ | ⟨rfl, q, hq, hx2⟩)
          · dsimp only
            refine hK _ _ ?_
            clear hK K
            try simp only [Act.put, List.setIfInBounds_toArray, List.set_cons_zero, List.set_cons_succ]
            replace hk2 : KeepTC n₀ W1 W2 := (KeepTC.of_bel (Bel.refl W1).drew (Nat.le_trans hsz (HB0.out.trans HB1.out).size)).trans hk2
            clear e0 e1 e2
            obtain ⟨⟨c0, c1, c2⟩, -, -⟩ := FB2.out W2 hk2
            refine wpAnyIn_take (i := 7) (oi := { dst := some 30, op := Op.move (Operand.tmp 29), type := 4, pos := "tree.go:98", after := #[{ on := 6, ground := Ground.data }, { on := 6, ground := Ground.chain }], guard := none }) (v := ?_) rfl rfl (by kernel_rfl) (by kernel_rfl) (by kernel_rfl) (fun _ _ _ h => h) ⟨Or.inl ⟨by rfl, ?_⟩, fun _ => rfl⟩ ?_
            rotate_left
            · (intro w; first | (go_simp; done) | (go_simp; with_reducible rfl))
            try simp only [Act.put, List.setIfInBounds_toArray, List.set_cons_zero, List.set_cons_succ]
            refine wpAnyIn_take (i := 8) (oi := { dst := some 31, op := Op.move (Operand.tmp 2), type := 127, pos := "tree.go:98", after := #[{ on := 7, ground := Ground.guard }], guard := some (7, true) }) (v := ?_) rfl rfl (by kernel_rfl) (by kernel_rfl) (by kernel_rfl) (fun _ _ _ h => h) ⟨Or.inl ⟨by rfl, ?_⟩, fun _ => rfl⟩ ?_
            rotate_left
            · (intro w; first | (go_simp; done) | (go_simp; with_reducible rfl))
            try simp only [Act.put, List.setIfInBounds_toArray, List.set_cons_zero, List.set_cons_succ]
            refine wpAnyIn_take (i := 9) (oi := { dst := some 32, op := Op.move (Operand.tmp 0), type := 73, pos := "tree.go:98", after := #[{ on := 7, ground := Ground.guard }], guard := some (7, true) }) (v := ?_) rfl rfl (by kernel_rfl) (by kernel_rfl) (by kernel_rfl) (fun _ _ _ h => h) ⟨Or.inl ⟨by rfl, ?_⟩, fun _ => rfl⟩ ?_
            rotate_left
            · (intro w; first | (go_simp; done) | (go_simp; with_reducible rfl))
            try simp only [Act.put, List.setIfInBounds_toArray, List.set_cons_zero, List.set_cons_succ]
            refine wpAnyIn_take (i := 10) (oi := { dst := some 33, op := Op.nilCheck (Operand.tmp 32), type := 0, pos := "tree.go:98", after := #[{ on := 9, ground := Ground.data }, { on := 7, ground := Ground.guard }], guard := some (7, true) }) (v := ?_) rfl rfl (by kernel_rfl) (by kernel_rfl) (by kernel_rfl) (fun _ _ _ h => h) ⟨Or.inl ⟨by rfl, ?_⟩, fun _ => rfl⟩ ?_
            rotate_left
            · (intro w; first | (go_simp; done) | (go_simp; with_reducible rfl))
            try simp only [Act.put, List.setIfInBounds_toArray, List.set_cons_zero, List.set_cons_succ]
            refine wpAnyIn_take (i := 11) (oi := { dst := some 34, op := Op.fieldAddr 124 (Operand.tmp 33) 0, type := 0, pos := "tree.go:98", after := #[{ on := 10, ground := Ground.data }, { on := 7, ground := Ground.guard }], guard := some (7, true) }) (v := ?_) rfl rfl (by kernel_rfl) (by kernel_rfl) (by kernel_rfl) (fun _ _ _ h => h) ⟨Or.inl ⟨by rfl, ?_⟩, fun _ => rfl⟩ ?_
            rotate_left
            · (intro w; first | (go_simp; done) | (go_simp; with_reducible rfl))
            try simp only [Act.put, List.setIfInBounds_toArray, List.set_cons_zero, List.set_cons_succ]
            refine wpAnyIn_ready (rs := [12]) (by kernel_rfl) (by simp) ?_
            refine (AllReadyIn.cons (o := { dst := some 35, op := Op.load 82 (Operand.tmp 34), type := 82, pos := "tree.go:98", after := #[{ on := 11, ground := Ground.data }, { on := 7, ground := Ground.guard }], guard := some (7, true) }) rfl (fun K hK => ?_) AllReadyIn.nil)
            go_simp
            refine hK _ _ ?_
            clear hK K
            try simp only [Act.put, List.setIfInBounds_toArray, List.set_cons_zero, List.set_cons_succ]
            clear c0 c1 c2
            obtain ⟨fn, tmps, assign, body, hy, hR⟩ := HY.out (n - 1) (pre ++ geLC c tl) W2 hJ2 (by rw [List.length_append]; omega)
            refine wpAnyIn_ready (rs := [13]) (by kernel_rfl) (by simp) ?_
            refine (AllReadyIn.cons (o := { dst := some 36, op := Op.call { callee := Callee.value (Operand.tmp 31), args := #[Operand.tmp 35], argTypes := #[82] }, type := 4, pos := "tree.go:98", after := #[{ on := 8, ground := Ground.data }, { on := 12, ground := Ground.data }, { on := 7, ground := Ground.chain }, { on := 7, ground := Ground.guard }], guard := some (7, true) }) rfl (fun K hK => ?_) AllReadyIn.nil)
            go_simp
            refine ⟨fun h => (by cases h), ?_⟩
            refine hR.mono ?_
            rintro r3 W3 (⟨rfl, hJ3, hk3⟩ | ⟨rfl, hx3⟩)
            · clear hy hR
              dsimp only
              refine hK _ _ ?_
              clear hK K
              try simp only [Act.put, List.setIfInBounds_toArray, List.set_cons_zero, List.set_cons_succ]
              obtain ⟨-, -, c6⟩ := FB2.out W3 (hk2.trans hk3)
              obtain ⟨e0, e1, e2⟩ := FE2.out W3 (hk2.trans hk3)
              refine wpAnyIn_take (i := 14) (oi := { dst := some 37, op := Op.pick (Operand.tmp 30) (Operand.tmp 36) (Operand.const (Value.bool false)), type := 4, pos := "tree.go:98", after := #[{ on := 7, ground := Ground.data }, { on := 13, ground := Ground.data }], guard := none }) (v := ?_) rfl rfl (by kernel_rfl) (by kernel_rfl) (by kernel_rfl) (fun _ _ _ h => h) ⟨Or.inl ⟨by rfl, ?_⟩, fun _ => rfl⟩ ?_
              rotate_left
              · (intro w; first | (go_simp; done) | (go_simp; with_reducible rfl))
              try simp only [Act.put, List.setIfInBounds_toArray, List.set_cons_zero, List.set_cons_succ]
              refine wpAnyIn_take (i := 15) (oi := { dst := some 38, op := Op.move (Operand.tmp 37), type := 4, pos := "tree.go:98", after := #[{ on := 14, ground := Ground.data }, { on := 13, ground := Ground.chain }], guard := none }) (v := ?_) rfl rfl (by kernel_rfl) (by kernel_rfl) (by kernel_rfl) (fun _ _ _ h => h) ⟨Or.inl ⟨by rfl, ?_⟩, fun _ => rfl⟩ ?_
              rotate_left
              · (intro w; first | (go_simp; done) | (go_simp; with_reducible rfl))
              try simp only [Act.put, List.setIfInBounds_toArray, List.set_cons_zero, List.set_cons_succ]
              refine wpAnyIn_take (i := 16) (oi := { dst := some 39, op := Op.move (Operand.tmp 0), type := 73, pos := "tree.go:98", after := #[{ on := 15, ground := Ground.guard }], guard := some (15, true) }) (v := ?_) rfl rfl (by kernel_rfl) (by kernel_rfl) (by kernel_rfl) (fun _ _ _ h => h) ⟨Or.inl ⟨by rfl, ?_⟩, fun _ => rfl⟩ ?_
              rotate_left
              · (intro w; first | (go_simp; done) | (go_simp; with_reducible rfl))
              try simp only [Act.put, List.setIfInBounds_toArray, List.set_cons_zero, List.set_cons_succ]
              refine wpAnyIn_take (i := 17) (oi := { dst := some 40, op := Op.nilCheck (Operand.tmp 39), type := 0, pos := "tree.go:98", after := #[{ on := 16, ground := Ground.data }, { on := 15, ground := Ground.guard }], guard := some (15, true) }) (v := ?_) rfl rfl (by kernel_rfl) (by kernel_rfl) (by kernel_rfl) (fun _ _ _ h => h) ⟨Or.inl ⟨by rfl, ?_⟩, fun _ => rfl⟩ ?_
              rotate_left
              · (intro w; first | (go_simp; done) | (go_simp; with_reducible rfl))
              try simp only [Act.put, List.setIfInBounds_toArray, List.set_cons_zero, List.set_cons_succ]
              refine wpAnyIn_take (i := 18) (oi := { dst := some 41, op := Op.fieldAddr 124 (Operand.tmp 40) 3, type := 0, pos := "tree.go:98", after := #[{ on := 17, ground := Ground.data }, { on := 15, ground := Ground.guard }], guard := some (15, true) }) (v := ?_) rfl rfl (by kernel_rfl) (by kernel_rfl) (by kernel_rfl) (fun _ _ _ h => h) ⟨Or.inl ⟨by rfl, ?_⟩, fun _ => rfl⟩ ?_
              rotate_left
              · (intro w; first | (go_simp; done) | (go_simp; with_reducible rfl))
              try simp only [Act.put, List.setIfInBounds_toArray, List.set_cons_zero, List.set_cons_succ]
              refine wpAnyIn_take (i := 21) (oi := { dst := some 44, op := Op.move (Operand.tmp 2), type := 127, pos := "tree.go:98", after := #[{ on := 15, ground := Ground.guard }], guard := some (15, true) }) (v := ?_) rfl rfl (by kernel_rfl) (by kernel_rfl) (by kernel_rfl) (fun _ _ _ h => h) ⟨Or.inl ⟨by rfl, ?_⟩, fun _ => rfl⟩ ?_
              rotate_left
              · (intro w; first | (go_simp; done) | (go_simp; with_reducible rfl))
              try simp only [Act.put, List.setIfInBounds_toArray, List.set_cons_zero, List.set_cons_succ]
              refine wpAnyIn_ready (rs := [19, 20]) (by kernel_rfl) (by simp) ?_
              refine (AllReadyIn.cons (o := { dst := some 42, op := Op.load 73 (Operand.tmp 41), type := 73, pos := "tree.go:98", after := #[{ on := 18, ground := Ground.data }, { on := 15, ground := Ground.guard }], guard := some (15, true) }) rfl (fun K hK => ?_) (AllReadyIn.cons (o := { dst := some 43, op := Op.load 82 (Operand.tmp 4), type := 82, pos := "tree.go:98", after := #[{ on := 15, ground := Ground.guard }], guard := some (15, true) }) rfl (fun K hK => ?_) AllReadyIn.nil))
              · go_simp
                refine hK _ _ ?_
                clear hK K
                try simp only [Act.put, List.setIfInBounds_toArray, List.set_cons_zero, List.set_cons_succ]
                refine wpAnyIn_ready (rs := [20]) (by kernel_rfl) (by simp) ?_
                refine (AllReadyIn.cons (o := { dst := some 43, op := Op.load 82 (Operand.tmp 4), type := 82, pos := "tree.go:98", after := #[{ on := 15, ground := Ground.guard }], guard := some (15, true) }) rfl (fun K hK => ?_) AllReadyIn.nil)
                go_simp
                refine hK _ _ ?_
                clear hK K
                try simp only [Act.put, List.setIfInBounds_toArray, List.set_cons_zero, List.set_cons_succ]
                refine wpAnyIn_ready (rs := [22]) (by kernel_rfl) (by simp) ?_
                refine (AllReadyIn.cons (o := { dst := some 45, op := Op.call { callee := Callee.value (Operand.func 59), args := #[Operand.tmp 42, Operand.tmp 43, Operand.tmp 44], argTypes := #[73, 82, 127] }, type := 4, pos := "tree.go:98", after := #[{ on := 19, ground := Ground.data }, { on := 20, ground := Ground.data }, { on := 21, ground := Ground.data }, { on := 15, ground := Ground.chain }, { on := 15, ground := Ground.guard }], guard := some (15, true) }) rfl (fun K hK => ?_) AllReadyIn.nil)
                go_simp
                refine ⟨trivial, fun h => (by cases h), ?_⟩
                refine (IR2.out W3 (hk2.trans hk3) hJ3).mono ?_
                rintro r4 W4 (⟨rfl, hJ4, hk4⟩ | ⟨rfl, q, hq, hx4⟩)
                · dsimp only
                  refine hK _ _ ?_
                  clear hK K
                  try simp only [Act.put, List.setIfInBounds_toArray, List.set_cons_zero, List.set_cons_succ]
                  refine wpAnyIn_take (i := 23) (oi := { dst := some 46, op := Op.pick (Operand.tmp 38) (Operand.tmp 45) (Operand.const (Value.bool false)), type := 4, pos := "tree.go:98", after := #[{ on := 15, ground := Ground.data }, { on := 22, ground := Ground.data }], guard := none }) (v := ?_) rfl rfl (by kernel_rfl) (by kernel_rfl) (by kernel_rfl) (fun _ _ _ h => h) ⟨Or.inl ⟨by rfl, ?_⟩, fun _ => rfl⟩ ?_
                  rotate_left
                  · (intro w; first | (go_simp; done) | (go_simp; with_reducible rfl))
                  try simp only [Act.put, List.setIfInBounds_toArray, List.set_cons_zero, List.set_cons_succ]
                  refine wpAnyIn_take (i := 24) (oi := { dst := some 6, op := Op.assign (Operand.tmp 46), type := 4, pos := "tree.go:98", after := #[{ on := 23, ground := Ground.data }, { on := 22, ground := Ground.chain }, { on := 0, ground := Ground.phase }, { on := 1, ground := Ground.phase }, { on := 2, ground := Ground.phase }, { on := 3, ground := Ground.phase }, { on := 4, ground := Ground.phase }, { on := 5, ground := Ground.phase }, { on := 6, ground := Ground.phase }, { on := 7, ground := Ground.phase }, { on := 8, ground := Ground.phase }, { on := 9, ground := Ground.phase }, { on := 10, ground := Ground.phase }, { on := 11, ground := Ground.phase }, { on := 12, ground := Ground.phase }, { on := 13, ground := Ground.phase }, { on := 14, ground := Ground.phase }, { on := 15, ground := Ground.phase }, { on := 16, ground := Ground.phase }, { on := 17, ground := Ground.phase }, { on := 18, ground := Ground.phase }, { on := 19, ground := Ground.phase }, { on := 20, ground := Ground.phase }, { on := 21, ground := Ground.phase }, { on := 22, ground := Ground.phase }, { on := 23, ground := Ground.phase }], guard := none }) (v := ?_) rfl rfl (by kernel_rfl) (by kernel_rfl) (by kernel_rfl) (fun _ _ _ h => h) ⟨Or.inl ⟨by rfl, ?_⟩, fun _ => rfl⟩ ?_
                  rotate_left
                  · (intro w; first | (go_simp; done) | (go_simp; with_reducible rfl))
                  try simp only [Act.put, List.setIfInBounds_toArray, List.set_cons_zero, List.set_cons_succ]
                  refine wpAnyIn_done (by kernel_rfl) ?_ _
                  have HX := Lib.hid (And.intro hJ4 (((KeepTC.of_bel (HB0.out.trans HB1.out) hsz).trans hk2).trans (hk3.trans hk4)))
                  clear hJ4 hk4 hk2 hk3 hJ3
                  gi_wp2
                  go_ret
                  exact .inl ⟨rfl, by simpa using HX.out.1, HX.out.2⟩
                · dsimp only
                  refine hK _ _ ?_
                  clear hK K
                  try simp only [Act.put, List.setIfInBounds_toArray, List.set_cons_zero, List.set_cons_succ]
                  refine wpAnyIn_take (i := 23) (oi := { dst := some 46, op := Op.pick (Operand.tmp 38) (Operand.tmp 45) (Operand.const (Value.bool false)), type := 4, pos := "tree.go:98", after := #[{ on := 15, ground := Ground.data }, { on := 22, ground := Ground.data }], guard := none }) (v := ?_) rfl rfl (by kernel_rfl) (by kernel_rfl) (by kernel_rfl) (fun _ _ _ h => h) ⟨Or.inl ⟨by rfl, ?_⟩, fun _ => rfl⟩ ?_
                  rotate_left
                  · (intro w; first | (go_simp; done) | (go_simp; with_reducible rfl))
                  try simp only [Act.put, List.setIfInBounds_toArray, List.set_cons_zero, List.set_cons_succ]
                  refine wpAnyIn_take (i := 24) (oi := { dst := some 6, op := Op.assign (Operand.tmp 46), type := 4, pos := "tree.go:98", after := #[{ on := 23, ground := Ground.data }, { on := 22, ground := Ground.chain }, { on := 0, ground := Ground.phase }, { on := 1, ground := Ground.phase }, { on := 2, ground := Ground.phase }, { on := 3, ground := Ground.phase }, { on := 4, ground := Ground.phase }, { on := 5, ground := Ground.phase }, { on := 6, ground := Ground.phase }, { on := 7, ground := Ground.phase }, { on := 8, ground := Ground.phase }, { on := 9, ground := Ground.phase }, { on := 10, ground := Ground.phase }, { on := 11, ground := Ground.phase }, { on := 12, ground := Ground.phase }, { on := 13, ground := Ground.phase }, { on := 14, ground := Ground.phase }, { on := 15, ground := Ground.phase }, { on := 16, ground := Ground.phase }, { on := 17, ground := Ground.phase }, { on := 18, ground := Ground.phase }, { on := 19, ground := Ground.phase }, { on := 20, ground := Ground.phase }, { on := 21, ground := Ground.phase }, { on := 22, ground := Ground.phase }, { on := 23, ground := Ground.phase }], guard := none }) (v := ?_) rfl rfl (by kernel_rfl) (by kernel_rfl) (by kernel_rfl) (fun _ _ _ h => h) ⟨Or.inl ⟨by rfl, ?_⟩, fun _ => rfl⟩ ?_
                  rotate_left
                  · (intro w; first | (go_simp; done) | (go_simp; with_reducible rfl))
                  try simp only [Act.put, List.setIfInBounds_toArray, List.set_cons_zero, List.set_cons_succ]
                  refine wpAnyIn_done (by kernel_rfl) ?_ _
                  have HX := Lib.hid (And.intro hq hx4)
                  clear hq hx4 hk2 hk3 hJ3
                  gi_wp2
                  go_ret
                  obtain ⟨q2, hq2⟩ := HX.out.1
                  exact .inr ⟨rfl, geLC c tl ++ x :: q, ⟨q2, by rw [← hq2]; simp⟩, by simpa using HX.out.2⟩
              · go_simp
                refine hK _ _ ?_
                clear hK K
                try simp only [Act.put, List.setIfInBounds_toArray, List.set_cons_zero, List.set_cons_succ]
                refine wpAnyIn_ready (rs := [19]) (by kernel_rfl) (by simp) ?_
                refine (AllReadyIn.cons (o := { dst := some 42, op := Op.load 73 (Operand.tmp 41), type := 73, pos := "tree.go:98", after := #[{ on := 18, ground := Ground.data }, { on := 15, ground := Ground.guard }], guard := some (15, true) }) rfl (fun K hK => ?_) AllReadyIn.nil)
                go_simp
                refine hK _ _ ?_
                clear hK K
                try simp only [Act.put, List.setIfInBounds_toArray, List.set_cons_zero, List.set_cons_succ]
                refine wpAnyIn_ready (rs := [22]) (by kernel_rfl) (by simp) ?_
                refine (AllReadyIn.cons (o := { dst := some 45, op := Op.call { callee := Callee.value (Operand.func 59), args := #[Operand.tmp 42, Operand.tmp 43, Operand.tmp 44], argTypes := #[73, 82, 127] }, type := 4, pos := "tree.go:98", after := #[{ on := 19, ground := Ground.data }, { on := 20, ground := Ground.data }, { on := 21, ground := Ground.data }, { on := 15, ground := Ground.chain }, { on := 15, ground := Ground.guard }], guard := some (15, true) }) rfl (fun K hK => ?_) AllReadyIn.nil)
                go_simp
                refine ⟨trivial, fun h => (by cases h), ?_⟩
                refine (IR2.out W3 (hk2.trans hk3) hJ3).mono ?_
                rintro r4 W4 (⟨rfl, hJ4, hk4⟩ | ⟨rfl, q, hq, hx4⟩)
                · dsimp only
                  refine hK _ _ ?_
                  clear hK K
                  try simp only [Act.put, List.setIfInBounds_toArray, List.set_cons_zero, List.set_cons_succ]
                  refine wpAnyIn_take (i := 23) (oi := { dst := some 46, op := Op.pick (Operand.tmp 38) (Operand.tmp 45) (Operand.const (Value.bool false)), type := 4, pos := "tree.go:98", after := #[{ on := 15, ground := Ground.data }, { on := 22, ground := Ground.data }], guard := none }) (v := ?_) rfl rfl (by kernel_rfl) (by kernel_rfl) (by kernel_rfl) (fun _ _ _ h => h) ⟨Or.inl ⟨by rfl, ?_⟩, fun _ => rfl⟩ ?_
                  rotate_left
                  · (intro w; first | (go_simp; done) | (go_simp; with_reducible rfl))
                  try simp only [Act.put, List.setIfInBounds_toArray, List.set_cons_zero, List.set_cons_succ]
                  refine wpAnyIn_take (i := 24) (oi := { dst := some 6, op := Op.assign (Operand.tmp 46), type := 4, pos := "tree.go:98", after := #[{ on := 23, ground := Ground.data }, { on := 22, ground := Ground.chain }, { on := 0, ground := Ground.phase }, { on := 1, ground := Ground.phase }, { on := 2, ground := Ground.phase }, { on := 3, ground := Ground.phase }, { on := 4, ground := Ground.phase }, { on := 5, ground := Ground.phase }, { on := 6, ground := Ground.phase }, { on := 7, ground := Ground.phase }, { on := 8, ground := Ground.phase }, { on := 9, ground := Ground.phase }, { on := 10, ground := Ground.phase }, { on := 11, ground := Ground.phase }, { on := 12, ground := Ground.phase }, { on := 13, ground := Ground.phase }, { on := 14, ground := Ground.phase }, { on := 15, ground := Ground.phase }, { on := 16, ground := Ground.phase }, { on := 17, ground := Ground.phase }, { on := 18, ground := Ground.phase }, { on := 19, ground := Ground.phase }, { on := 20, ground := Ground.phase }, { on := 21, ground := Ground.phase }, { on := 22, ground := Ground.phase }, { on := 23, ground := Ground.phase }], guard := none }) (v := ?_) rfl rfl (by kernel_rfl) (by kernel_rfl) (by kernel_rfl) (fun _ _ _ h => h) ⟨Or.inl ⟨by rfl, ?_⟩, fun _ => rfl⟩ ?_
                  rotate_left
                  · (intro w; first | (go_simp; done) | (go_simp; with_reducible rfl))
                  try simp only [Act.put, List.setIfInBounds_toArray, List.set_cons_zero, List.set_cons_succ]
                  refine wpAnyIn_done (by kernel_rfl) ?_ _
                  have HX := Lib.hid (And.intro hJ4 (((KeepTC.of_bel (HB0.out.trans HB1.out) hsz).trans hk2).trans (hk3.trans hk4)))
                  clear hJ4 hk4 hk2 hk3 hJ3
                  gi_wp2
                  go_ret
                  exact .inl ⟨rfl, by simpa using HX.out.1, HX.out.2⟩
                · dsimp only
                  refine hK _ _ ?_
                  clear hK K
                  try simp only [Act.put, List.setIfInBounds_toArray, List.set_cons_zero, List.set_cons_succ]
                  refine wpAnyIn_take (i := 23) (oi := { dst := some 46, op := Op.pick (Operand.tmp 38) (Operand.tmp 45) (Operand.const (Value.bool false)), type := 4, pos := "tree.go:98", after := #[{ on := 15, ground := Ground.data }, { on := 22, ground := Ground.data }], guard := none }) (v := ?_) rfl rfl (by kernel_rfl) (by kernel_rfl) (by kernel_rfl) (fun _ _ _ h => h) ⟨Or.inl ⟨by rfl, ?_⟩, fun _ => rfl⟩ ?_
                  rotate_left
                  · (intro w; first | (go_simp; done) | (go_simp; with_reducible rfl))
                  try simp only [Act.put, List.setIfInBounds_toArray, List.set_cons_zero, List.set_cons_succ]
                  refine wpAnyIn_take (i := 24) (oi := { dst := some 6, op := Op.assign (Operand.tmp 46), type := 4, pos := "tree.go:98", after := #[{ on := 23, ground := Ground.data }, { on := 22, ground := Ground.chain }, { on := 0, ground := Ground.phase }, { on := 1, ground := Ground.phase }, { on := 2, ground := Ground.phase }, { on := 3, ground := Ground.phase }, { on := 4, ground := Ground.phase }, { on := 5, ground := Ground.phase }, { on := 6, ground := Ground.phase }, { on := 7, ground := Ground.phase }, { on := 8, ground := Ground.phase }, { on := 9, ground := Ground.phase }, { on := 10, ground := Ground.phase }, { on := 11, ground := Ground.phase }, { on := 12, ground := Ground.phase }, { on := 13, ground := Ground.phase }, { on := 14, ground := Ground.phase }, { on := 15, ground := Ground.phase }, { on := 16, ground := Ground.phase }, { on := 17, ground := Ground.phase }, { on := 18, ground := Ground.phase }, { on := 19, ground := Ground.phase }, { on := 20, ground := Ground.phase }, { on := 21, ground := Ground.phase }, { on := 22, ground := Ground.phase }, { on := 23, ground := Ground.phase }], guard := none }) (v := ?_) rfl rfl (by kernel_rfl) (by kernel_rfl) (by kernel_rfl) (fun _ _ _ h => h) ⟨Or.inl ⟨by rfl, ?_⟩, fun _ => rfl⟩ ?_
                  rotate_left
                  · (intro w; first | (go_simp; done) | (go_simp; with_reducible rfl))
                  try simp only [Act.put, List.setIfInBounds_toArray, List.set_cons_zero, List.set_cons_succ]
                  refine wpAnyIn_done (by kernel_rfl) ?_ _
                  have HX := Lib.hid (And.intro hq hx4)
                  clear hq hx4 hk2 hk3 hJ3
                  gi_wp2
                  go_ret
                  obtain ⟨q2, hq2⟩ := HX.out.1
                  exact .inr ⟨rfl, geLC c tl ++ x :: q, ⟨q2, by rw [← hq2]; simp⟩, by simpa using HX.out.2⟩
            · clear hy hR
              dsimp only
              refine hK _ _ ?_
              clear hK K
              try simp only [Act.put, List.setIfInBounds_toArray, List.set_cons_zero, List.set_cons_succ]
              refine wpAnyIn_take (i := 14) (oi := { dst := some 37, op := Op.pick (Operand.tmp 30) (Operand.tmp 36) (Operand.const (Value.bool false)), type := 4, pos := "tree.go:98", after := #[{ on := 7, ground := Ground.data }, { on := 13, ground := Ground.data }], guard := none }) (v := ?_) rfl rfl (by kernel_rfl) (by kernel_rfl) (by kernel_rfl) (fun _ _ _ h => h) ⟨Or.inl ⟨by rfl, ?_⟩, fun _ => rfl⟩ ?_
              rotate_left
              · (intro w; first | (go_simp; done) | (go_simp; with_reducible rfl))
              try simp only [Act.put, List.setIfInBounds_toArray, List.set_cons_zero, List.set_cons_succ]
              refine wpAnyIn_take (i := 15) (oi := { dst := some 38, op := Op.move (Operand.tmp 37), type := 4, pos := "tree.go:98", after := #[{ on := 14, ground := Ground.data }, { on := 13, ground := Ground.chain }], guard := none }) (v := ?_) rfl rfl (by kernel_rfl) (by kernel_rfl) (by kernel_rfl) (fun _ _ _ h => h) ⟨Or.inl ⟨by rfl, ?_⟩, fun _ => rfl⟩ ?_
              rotate_left
              · (intro w; first | (go_simp; done) | (go_simp; with_reducible rfl))
              try simp only [Act.put, List.setIfInBounds_toArray, List.set_cons_zero, List.set_cons_succ]
              refine wpAnyIn_take (i := 16) (oi := { dst := some 39, op := Op.move (Operand.tmp 0), type := 73, pos := "tree.go:98", after := #[{ on := 15, ground := Ground.guard }], guard := some (15, true) }) (v := undef) rfl rfl (by kernel_rfl) (by kernel_rfl) (by kernel_rfl) (fun _ _ _ h => h) ⟨Or.inr ⟨by rfl, rfl⟩, fun _ => rfl⟩ ?_
              try simp only [Act.put, List.setIfInBounds_toArray, List.set_cons_zero, List.set_cons_succ]
              refine wpAnyIn_take (i := 17) (oi := { dst := some 40, op := Op.nilCheck (Operand.tmp 39), type := 0, pos := "tree.go:98", after := #[{ on := 16, ground := Ground.data }, { on := 15, ground := Ground.guard }], guard := some (15, true) }) (v := undef) rfl rfl (by kernel_rfl) (by kernel_rfl) (by kernel_rfl) (fun _ _ _ h => h) ⟨Or.inr ⟨by rfl, rfl⟩, fun _ => rfl⟩ ?_
              try simp only [Act.put, List.setIfInBounds_toArray, List.set_cons_zero, List.set_cons_succ]
              refine wpAnyIn_take (i := 18) (oi := { dst := some 41, op := Op.fieldAddr 124 (Operand.tmp 40) 3, type := 0, pos := "tree.go:98", after := #[{ on := 17, ground := Ground.data }, { on := 15, ground := Ground.guard }], guard := some (15, true) }) (v := undef) rfl rfl (by kernel_rfl) (by kernel_rfl) (by kernel_rfl) (fun _ _ _ h => h) ⟨Or.inr ⟨by rfl, rfl⟩, fun _ => rfl⟩ ?_
              try simp only [Act.put, List.setIfInBounds_toArray, List.set_cons_zero, List.set_cons_succ]
              refine wpAnyIn_take (i := 19) (oi := { dst := some 42, op := Op.load 73 (Operand.tmp 41), type := 73, pos := "tree.go:98", after := #[{ on := 18, ground := Ground.data }, { on := 15, ground := Ground.guard }], guard := some (15, true) }) (v := undef) rfl rfl (by kernel_rfl) (by kernel_rfl) (by kernel_rfl) (fun _ _ _ h => h) ⟨Or.inr ⟨by rfl, rfl⟩, fun _ => rfl⟩ ?_
              try simp only [Act.put, List.setIfInBounds_toArray, List.set_cons_zero, List.set_cons_succ]
              refine wpAnyIn_take (i := 20) (oi := { dst := some 43, op := Op.load 82 (Operand.tmp 4), type := 82, pos := "tree.go:98", after := #[{ on := 15, ground := Ground.guard }], guard := some (15, true) }) (v := undef) rfl rfl (by kernel_rfl) (by kernel_rfl) (by kernel_rfl) (fun _ _ _ h => h) ⟨Or.inr ⟨by rfl, rfl⟩, fun _ => rfl⟩ ?_
              try simp only [Act.put, List.setIfInBounds_toArray, List.set_cons_zero, List.set_cons_succ]
              refine wpAnyIn_take (i := 21) (oi := { dst := some 44, op := Op.move (Operand.tmp 2), type := 127, pos := "tree.go:98", after := #[{ on := 15, ground := Ground.guard }], guard := some (15, true) }) (v := undef) rfl rfl (by kernel_rfl) (by kernel_rfl) (by kernel_rfl) (fun _ _ _ h => h) ⟨Or.inr ⟨by rfl, rfl⟩, fun _ => rfl⟩ ?_
              try simp only [Act.put, List.setIfInBounds_toArray, List.set_cons_zero, List.set_cons_succ]
              refine wpAnyIn_ready (rs := [22]) (by kernel_rfl) (by simp) ?_
              refine AllReadyIn.cons (o := { dst := some 45, op := Op.call { callee := Callee.value (Operand.func 59), args := #[Operand.tmp 42, Operand.tmp 43, Operand.tmp 44], argTypes := #[73, 82, 127] }, type := 4, pos := "tree.go:98", after := #[{ on := 19, ground := Ground.data }, { on := 20, ground := Ground.data }, { on := 21, ground := Ground.data }, { on := 15, ground := Ground.chain }, { on := 15, ground := Ground.guard }], guard := some (15, true) }) rfl (fun K hK => ?_) AllReadyIn.nil
              rw [if_neg (by intro h; exact Bool.noConfusion (show false = true from h))]
              refine ⟨fun _ _ => trivial, hK _ _ ?_⟩
              clear hK K
              try simp only [Act.put, List.setIfInBounds_toArray, List.set_cons_zero, List.set_cons_succ]
              refine wpAnyIn_take (i := 23) (oi := { dst := some 46, op := Op.pick (Operand.tmp 38) (Operand.tmp 45) (Operand.const (Value.bool false)), type := 4, pos := "tree.go:98", after := #[{ on := 15, ground := Ground.data }, { on := 22, ground := Ground.data }], guard := none }) (v := ?_) rfl rfl (by kernel_rfl) (by kernel_rfl) (by kernel_rfl) (fun _ _ _ h => h) ⟨Or.inl ⟨by rfl, ?_⟩, fun _ => rfl⟩ ?_
              rotate_left
              · (intro w; first | (go_simp; done) | (go_simp; with_reducible rfl))
              try simp only [Act.put, List.setIfInBounds_toArray, List.set_cons_zero, List.set_cons_succ]
              refine wpAnyIn_take (i := 24) (oi := { dst := some 6, op := Op.assign (Operand.tmp 46), type := 4, pos := "tree.go:98", after := #[{ on := 23, ground := Ground.data }, { on := 22, ground := Ground.chain }, { on := 0, ground := Ground.phase }, { on := 1, ground := Ground.phase }, { on := 2, ground := Ground.phase }, { on := 3, ground := Ground.phase }, { on := 4, ground := Ground.phase }, { on := 5, ground := Ground.phase }, { on := 6, ground := Ground.phase }, { on := 7, ground := Ground.phase }, { on := 8, ground := Ground.phase }, { on := 9, ground := Ground.phase }, { on := 10, ground := Ground.phase }, { on := 11, ground := Ground.phase }, { on := 12, ground := Ground.phase }, { on := 13, ground := Ground.phase }, { on := 14, ground := Ground.phase }, { on := 15, ground := Ground.phase }, { on := 16, ground := Ground.phase }, { on := 17, ground := Ground.phase }, { on := 18, ground := Ground.phase }, { on := 19, ground := Ground.phase }, { on := 20, ground := Ground.phase }, { on := 21, ground := Ground.phase }, { on := 22, ground := Ground.phase }, { on := 23, ground := Ground.phase }], guard := none }) (v := ?_) rfl rfl (by kernel_rfl) (by kernel_rfl) (by kernel_rfl) (fun _ _ _ h => h) ⟨Or.inl ⟨by rfl, ?_⟩, fun _ => rfl⟩ ?_
              rotate_left
              · (intro w; first | (go_simp; done) | (go_simp; with_reducible rfl))
              try simp only [Act.put, List.setIfInBounds_toArray, List.set_cons_zero, List.set_cons_succ]
              refine wpAnyIn_done (by kernel_rfl) ?_ _
              have HX := Lib.hid hx3
              clear hx3 hk2 hJ2
              gi_wp2
              go_ret
              exact .inr ⟨rfl, geLC c tl ++ [x], ⟨tr.nodes.map Prod.snd, by simp⟩, by simpa using HX.out⟩
          · dsimp only
            refine hK _ _ ?_
            clear hK K
            try simp only [Act.put, List.setIfInBounds_toArray, List.set_cons_zero, List.set_cons_succ]
            refine wpAnyIn_take (i := 7) (oi := { dst := some 30, op := Op.move (Operand.tmp 29), type := 4, pos := "tree.go:98", after := #[{ on := 6, ground := Ground.data }, { on := 6, ground := Ground.chain }], guard := none }) (v := ?_) rfl rfl (by kernel_rfl) (by kernel_rfl) (by kernel_rfl) (fun _ _ _ h => h) ⟨Or.inl ⟨by rfl, ?_⟩, fun _ => rfl⟩ ?_
            rotate_left
            · (intro w; first | (go_simp; done) | (go_simp; with_reducible rfl))
            try simp only [Act.put, List.setIfInBounds_toArray, List.set_cons_zero, List.set_cons_succ]
            refine wpAnyIn_take (i := 8) (oi := { dst := some 31, op := Op.move (Operand.tmp 2), type := 127, pos := "tree.go:98", after := #[{ on := 7, ground := Ground.guard }], guard := some (7, true) }) (v := undef) rfl rfl (by kernel_rfl) (by kernel_rfl) (by kernel_rfl) (fun _ _ _ h => h) ⟨Or.inr ⟨by rfl, rfl⟩, fun _ => rfl⟩ ?_
            try simp only [Act.put, List.setIfInBounds_toArray, List.set_cons_zero, List.set_cons_succ]
            refine wpAnyIn_take (i := 9) (oi := { dst := some 32, op := Op.move (Operand.tmp 0), type := 73, pos := "tree.go:98", after := #[{ on := 7, ground := Ground.guard }], guard := some (7, true) }) (v := undef) rfl rfl (by kernel_rfl) (by kernel_rfl) (by kernel_rfl) (fun _ _ _ h => h) ⟨Or.inr ⟨by rfl, rfl⟩, fun _ => rfl⟩ ?_
            try simp only [Act.put, List.setIfInBounds_toArray, List.set_cons_zero, List.set_cons_succ]
            refine wpAnyIn_take (i := 10) (oi := { dst := some 33, op := Op.nilCheck (Operand.tmp 32), type := 0, pos := "tree.go:98", after := #[{ on := 9, ground := Ground.data }, { on := 7, ground := Ground.guard }], guard := some (7, true) }) (v := undef) rfl rfl (by kernel_rfl) (by kernel_rfl) (by kernel_rfl) (fun _ _ _ h => h) ⟨Or.inr ⟨by rfl, rfl⟩, fun _ => rfl⟩ ?_
            try simp only [Act.put, List.setIfInBounds_toArray, List.set_cons_zero, List.set_cons_succ]
            refine wpAnyIn_take (i := 11) (oi := { dst := some 34, op := Op.fieldAddr 124 (Operand.tmp 33) 0, type := 0, pos := "tree.go:98", after := #[{ on := 10, ground := Ground.data }, { on := 7, ground := Ground.guard }], guard := some (7, true) }) (v := undef) rfl rfl (by kernel_rfl) (by kernel_rfl) (by kernel_rfl) (fun _ _ _ h => h) ⟨Or.inr ⟨by rfl, rfl⟩, fun _ => rfl⟩ ?_
            try simp only [Act.put, List.setIfInBounds_toArray, List.set_cons_zero, List.set_cons_succ]
            refine wpAnyIn_take (i := 12) (oi := { dst := some 35, op := Op.load 82 (Operand.tmp 34), type := 82, pos := "tree.go:98", after := #[{ on := 11, ground := Ground.data }, { on := 7, ground := Ground.guard }], guard := some (7, true) }) (v := undef) rfl rfl (by kernel_rfl) (by kernel_rfl) (by kernel_rfl) (fun _ _ _ h => h) ⟨Or.inr ⟨by rfl, rfl⟩, fun _ => rfl⟩ ?_
            try simp only [Act.put, List.setIfInBounds_toArray, List.set_cons_zero, List.set_cons_succ]
            refine wpAnyIn_ready (rs := [13]) (by kernel_rfl) (by simp) ?_
            refine AllReadyIn.cons (o := { dst := some 36, op := Op.call { callee := Callee.value (Operand.tmp 31), args := #[Operand.tmp 35], argTypes := #[82] }, type := 4, pos := "tree.go:98", after := #[{ on := 8, ground := Ground.data }, { on := 12, ground := Ground.data }, { on := 7, ground := Ground.chain }, { on := 7, ground := Ground.guard }], guard := some (7, true) }) rfl (fun K hK => ?_) AllReadyIn.nil
            rw [if_neg (by intro h; exact Bool.noConfusion (show false = true from h))]
            refine ⟨fun _ _ => trivial, hK _ _ ?_⟩
            clear hK K
            try simp only [Act.put, List.setIfInBounds_toArray, List.set_cons_zero, List.set_cons_succ]
            refine wpAnyIn_take (i := 14) (oi := { dst := some 37, op := Op.pick (Operand.tmp 30) (Operand.tmp 36) (Operand.const (Value.bool false)), type := 4, pos := "tree.go:98", after := #[{ on := 7, ground := Ground.data }, { on := 13, ground := Ground.data }], guard := none }) (v := ?_) rfl rfl (by kernel_rfl) (by kernel_rfl) (by kernel_rfl) (fun _ _ _ h => h) ⟨Or.inl ⟨by rfl, ?_⟩, fun _ => rfl⟩ ?_
            rotate_left
            · (intro w; first | (go_simp; done) | (go_simp; with_reducible rfl))
            try simp only [Act.put, List.setIfInBounds_toArray, List.set_cons_zero, List.set_cons_succ]
            refine wpAnyIn_take (i := 15) (oi := { dst := some 38, op := Op.move (Operand.tmp 37), type := 4, pos := "tree.go:98", after := #[{ on := 14, ground := Ground.data }, { on := 13, ground := Ground.chain }], guard := none }) (v := ?_) rfl rfl (by kernel_rfl) (by kernel_rfl) (by kernel_rfl) (fun _ _ _ h => h) ⟨Or.inl ⟨by rfl, ?_⟩, fun _ => rfl⟩ ?_
            rotate_left
            · (intro w; first | (go_simp; done) | (go_simp; with_reducible rfl))
            try simp only [Act.put, List.setIfInBounds_toArray, List.set_cons_zero, List.set_cons_succ]
            refine wpAnyIn_take (i := 16) (oi := { dst := some 39, op := Op.move (Operand.tmp 0), type := 73, pos := "tree.go:98", after := #[{ on := 15, ground := Ground.guard }], guard := some (15, true) }) (v := undef) rfl rfl (by kernel_rfl) (by kernel_rfl) (by kernel_rfl) (fun _ _ _ h => h) ⟨Or.inr ⟨by rfl, rfl⟩, fun _ => rfl⟩ ?_
            try simp only [Act.put, List.setIfInBounds_toArray, List.set_cons_zero, List.set_cons_succ]
            refine wpAnyIn_take (i := 17) (oi := { dst := some 40, op := Op.nilCheck (Operand.tmp 39), type := 0, pos := "tree.go:98", after := #[{ on := 16, ground := Ground.data }, { on := 15, ground := Ground.guard }], guard := some (15, true) }) (v := undef) rfl rfl (by kernel_rfl) (by kernel_rfl) (by kernel_rfl) (fun _ _ _ h => h) ⟨Or.inr ⟨by rfl, rfl⟩, fun _ => rfl⟩ ?_
            try simp only [Act.put, List.setIfInBounds_toArray, List.set_cons_zero, List.set_cons_succ]
            refine wpAnyIn_take (i := 18) (oi := { dst := some 41, op := Op.fieldAddr 124 (Operand.tmp 40) 3, type := 0, pos := "tree.go:98", after := #[{ on := 17, ground := Ground.data }, { on := 15, ground := Ground.guard }], guard := some (15, true) }) (v := undef) rfl rfl (by kernel_rfl) (by kernel_rfl) (by kernel_rfl) (fun _ _ _ h => h) ⟨Or.inr ⟨by rfl, rfl⟩, fun _ => rfl⟩ ?_
            try simp only [Act.put, List.setIfInBounds_toArray, List.set_cons_zero, List.set_cons_succ]
            refine wpAnyIn_take (i := 19) (oi := { dst := some 42, op := Op.load 73 (Operand.tmp 41), type := 73, pos := "tree.go:98", after := #[{ on := 18, ground := Ground.data }, { on := 15, ground := Ground.guard }], guard := some (15, true) }) (v := undef) rfl rfl (by kernel_rfl) (by kernel_rfl) (by kernel_rfl) (fun _ _ _ h => h) ⟨Or.inr ⟨by rfl, rfl⟩, fun _ => rfl⟩ ?_
            try simp only [Act.put, List.setIfInBounds_toArray, List.set_cons_zero, List.set_cons_succ]
            refine wpAnyIn_take (i := 20) (oi := { dst := some 43, op := Op.load 82 (Operand.tmp 4), type := 82, pos := "tree.go:98", after := #[{ on := 15, ground := Ground.guard }], guard := some (15, true) }) (v := undef) rfl rfl (by kernel_rfl) (by kernel_rfl) (by kernel_rfl) (fun _ _ _ h => h) ⟨Or.inr ⟨by rfl, rfl⟩, fun _ => rfl⟩ ?_
            try simp only [Act.put, List.setIfInBounds_toArray, List.set_cons_zero, List.set_cons_succ]
            refine wpAnyIn_take (i := 21) (oi := { dst := some 44, op := Op.move (Operand.tmp 2), type := 127, pos := "tree.go:98", after := #[{ on := 15, ground := Ground.guard }], guard := some (15, true) }) (v := undef) rfl rfl (by kernel_rfl) (by kernel_rfl) (by kernel_rfl) (fun _ _ _ h => h) ⟨Or.inr ⟨by rfl, rfl⟩, fun _ => rfl⟩ ?_
            try simp only [Act.put, List.setIfInBounds_toArray, List.set_cons_zero, List.set_cons_succ]
            refine wpAnyIn_ready (rs := [22]) (by kernel_rfl) (by simp) ?_
            refine AllReadyIn.cons (o := { dst := some 45, op := Op.call { callee := Callee.value (Operand.func 59), args := #[Operand.tmp 42, Operand.tmp 43, Operand.tmp 44], argTypes := #[73, 82, 127] }, type := 4, pos := "tree.go:98", after := #[{ on := 19, ground := Ground.data }, { on := 20, ground := Ground.data }, { on := 21, ground := Ground.data }, { on := 15, ground := Ground.chain }, { on := 15, ground := Ground.guard }], guard := some (15, true) }) rfl (fun K hK => ?_) AllReadyIn.nil
            rw [if_neg (by intro h; exact Bool.noConfusion (show false = true from h))]
            refine ⟨fun _ _ => trivial, hK _ _ ?_⟩
            clear hK K
            try simp only [Act.put, List.setIfInBounds_toArray, List.set_cons_zero, List.set_cons_succ]
            refine wpAnyIn_take (i := 23) (oi := { dst := some 46, op := Op.pick (Operand.tmp 38) (Operand.tmp 45) (Operand.const (Value.bool false)), type := 4, pos := "tree.go:98", after := #[{ on := 15, ground := Ground.data }, { on := 22, ground := Ground.data }], guard := none }) (v := ?_) rfl rfl (by kernel_rfl) (by kernel_rfl) (by kernel_rfl) (fun _ _ _ h => h) ⟨Or.inl ⟨by rfl, ?_⟩, fun _ => rfl⟩ ?_
            rotate_left
            · (intro w; first | (go_simp; done) | (go_simp; with_reducible rfl))
            try simp only [Act.put, List.setIfInBounds_toArray, List.set_cons_zero, List.set_cons_succ]
            refine wpAnyIn_take (i := 24) (oi := { dst := some 6, op := Op.assign (Operand.tmp 46), type := 4, pos := "tree.go:98", after := #[{ on := 23, ground := Ground.data }, { on := 22, ground := Ground.chain }, { on := 0, ground := Ground.phase }, { on := 1, ground := Ground.phase }, { on := 2, ground := Ground.phase }, { on := 3, ground := Ground.phase }, { on := 4, ground := Ground.phase }, { on := 5, ground := Ground.phase }, { on := 6, ground := Ground.phase }, { on := 7, ground := Ground.phase }, { on := 8, ground := Ground.phase }, { on := 9, ground := Ground.phase }, { on := 10, ground := Ground.phase }, { on := 11, ground := Ground.phase }, { on := 12, ground := Ground.phase }, { on := 13, ground := Ground.phase }, { on := 14, ground := Ground.phase }, { on := 15, ground := Ground.phase }, { on := 16, ground := Ground.phase }, { on := 17, ground := Ground.phase }, { on := 18, ground := Ground.phase }, { on := 19, ground := Ground.phase }, { on := 20, ground := Ground.phase }, { on := 21, ground := Ground.phase }, { on := 22, ground := Ground.phase }, { on := 23, ground := Ground.phase }], guard := none }) (v := ?_) rfl rfl (by kernel_rfl) (by kernel_rfl) (by kernel_rfl) (fun _ _ _ h => h) ⟨Or.inl ⟨by rfl, ?_⟩, fun _ => rfl⟩ ?_
            rotate_left
            · (intro w; first | (go_simp; done) | (go_simp; with_reducible rfl))
            try simp only [Act.put, List.setIfInBounds_toArray, List.set_cons_zero, List.set_cons_succ]
            refine wpAnyIn_done (by kernel_rfl) ?_ _
            have HX := Lib.hid (And.intro hq hx2)
            clear hq hx2
            gi_wp2
            go_ret
            obtain ⟨q2, hq2⟩ := HX.out.1
            exact .inr ⟨rfl, q, ⟨q2 ++ x :: tr.nodes.map Prod.snd, by rw [← hq2]; simp⟩, HX.out.2⟩
end Go.Proofs.YteimllgoelleeaaGreatDoor
