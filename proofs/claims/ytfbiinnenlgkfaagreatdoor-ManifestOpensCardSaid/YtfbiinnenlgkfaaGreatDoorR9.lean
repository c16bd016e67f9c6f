/- FPut, FPut2, FOut, laid together. -/
import Derived.Test.YtfbiinnenlgkfaaGreatDoorR4
import Derived.Deep.RegionHeldLaw
import Derived.Test.YtfbiinnenlgkfaaGreatDoorR2
set_option linter.unusedSimpArgs false
set_option linter.unusedVariables false
namespace Go.Proofs.YtfbiinnenlgkfaaGreatDoor
open Go.RowKit Go.Deep

def fileV (x : FI) : Value := .agg #[.string ⟨x.name.toArray⟩, .string ⟨x.bytes.toArray⟩, .int .i64 x.safe]
def insS (x : FI) (L : List FI) : List FI := L.take (findN x.name L) ++ x :: L.drop (findN x.name L + if isN x.name L then 1 else 0)
def outS (name : List UInt8) (L : List FI) : List FI := if isN name L then L.take (findN name L) ++ L.drop (findN name L + 1) else L

theorem ownG_none {W : World} {n B : Nat} (h : W.heap[B]? = some (.cells #[] 74 (0, 0))) (hn : n ≤ B) : OwnG fileEl n W (.slice (some ⟨B, 0, none⟩) 0 0) [] := by
 refine ⟨rfl, Or.inr ⟨B, 0, #[], rfl, hn, h, Nat.le_refl _, by unfold maxLen; omega, by simp, by simp [El.all]⟩⟩

def SrcAt {α : Type} (E : El α) (x : World) (y : Value) (news : List α) : Prop :=
 (y = .slice none 0 0 ∧ news = []) ∨ ∃ ad c, y = .slice (some ad) news.length c ∧ ∀ j u, (E.all news)[j]? = some u → x.cell? (ad.add j) = some u
theorem step_append_seg {α : Type} {E : El α} {n : Nat} {b : Nat} (hE : ElOk E b) {ops : Array Oper} {o : Oper} {a : Act} {K : Act → World → Prop} {Q : Exit → Act → World → Prop} {F : Prop} {x : World} (hgd : o.guard = none) (s y : Operand)
  (ho : o.op = .call { callee := .builtin .append, args := #[s, y], argTypes := #[E.ST, E.ST] }) {v yv : Value} {L : List α}
  (hs : a.eval s = v) (hown : OwnG E n x v L) (news : List α) (hy : a.eval y = yv) (hsrc : SrcAt E x yv news)
  (hl1 : L.length + news.length ≤ maxLen) (hlim : (L.length + news.length) * b ≤ 140737488355328) (hbase : n ≤ x.heap.size)
  (h : ∀ v' w', OwnG E n w' v' (L ++ news) → x.grownBy w' v.ownBlock → Below n x w' → K (a.put o.dst v') w') : if Region.wanted o (yielded ops a.tmps) = true then o.wp Tryz.prog a x K Q else F := by
 rw [if_pos (by simp [Region.wanted, hgd])]
 rcases hsrc with ⟨rfl, rfl⟩ | ⟨ad, c, rfl, hc⟩
 ·obtain ⟨z, hz, hzc⟩ := hE.info
  obtain ⟨i0, hi, hz0, hz1, hz2⟩ := info_parts hz
  have hr := run_append_owned_none (P := Tryz.prog) (w := x) n E.ST o.type E.T i0 E.n hE.und hi v L.length (E.all L) hown
  unfold Oper.wp execOp
  simp only [ho, resolve, invoke, builtin, Sem.run_bind, Sem.run_pure, Result.andThen_ok, List.map_toArray, List.map_cons, List.map_nil, hs, hy, hr]
  exact h v x (by simpa using hown) ⟨rfl, rfl, rfl, Nat.le_refl _, fun _ _ _ => rfl⟩ (Below.refl _ _)
 ·exact wp_append_gen hE s y ho hs hown ad news.length c news hy rfl hc hl1 hlim hbase h

theorem at_new {y : World} {o : Obj} {B : Nat} (h : B = y.heap.size) : (y.alloc o).heap[B]? = some o := by subst h; exact heap_alloc_new y o
theorem at_old {y : World} {o o' : Obj} {B : Nat} (h : y.heap[B]? = some o') : (y.alloc o).heap[B]? = some o' := (Below.heap_alloc y o B (Array.getElem?_eq_some_iff.1 h).1).trans h
theorem at_grown {y z : World} {row : Option Nat} {o' : Obj} {B : Nat} (hg : y.grownBy z row) (h : y.heap[B]? = some o') (hne : some B ≠ row) : z.heap[B]? = some o' :=
 (hg.block B (Array.getElem?_eq_some_iff.1 h).1 hne).trans h
theorem lit_src {W : World} {B : Nat} {x : FI} (h : W.heap[B]? = some (.cells #[.string ⟨x.name.toArray⟩, .string ⟨x.bytes.toArray⟩, .int .i64 x.safe] 74 (0, 0))) : SrcAt fileEl W (.slice (some ⟨B, 0, none⟩) 1 1) [x] := by
 refine Or.inr ⟨_, 1, rfl, fun j u hj => ?_⟩
 have e : (⟨B, 0, none⟩ : Addr).add j = ⟨B, j, none⟩ := by cases j <;> simp [Addr.add]
 rw [e]
 simp [World.cell?, h]
 simpa [El.all, fileEl] using hj


theorem pt_all_take (L : List FI) (k j : Nat) (u : Value) (h : (fileEl.all (L.take k))[j]? = some u) : (fileEl.all L)[j]? = some u := by
 have e : fileEl.all L = fileEl.all (L.take k) ++ fileEl.all (L.drop k) := by rw [← El.all_append, List.take_append_drop]
 rw [e, List.getElem?_append_left]
 ·exact h
 ·rcases Nat.lt_or_ge j (fileEl.all (L.take k)).length with hl | hl
  ·exact hl
  ·rw [List.getElem?_eq_none hl] at h; cases h
theorem pt_all_drop (L : List FI) (k j : Nat) (hk : k ≤ L.length) (u : Value) (h : (fileEl.all (L.drop k))[j]? = some u) : (fileEl.all L)[k * 3 + j]? = some u := by
 have e : fileEl.all L = fileEl.all (L.take k) ++ fileEl.all (L.drop k) := by rw [← El.all_append, List.take_append_drop]
 have hl : (fileEl.all (L.take k)).length = k * 3 := by rw [El.all_len fileOk, List.length_take, Nat.min_eq_left hk]; rfl
 rw [e, List.getElem?_append_right (by omega), hl, Nat.add_sub_cancel_left]
 exact h
theorem row_cells {n : Nat} {w : World} {g len cap : Nat} {L : List FI} (h : OwnG fileEl n w (.slice (some ⟨g, 0, none⟩) len cap) L) : ∀ j u, (fileEl.all L)[j]? = some u → w.cell? ⟨g, j, none⟩ = some u := by
 intro j u hj
 have := World.ownsRow.cells h (g := g) rfl j u hj
 have e : (⟨g, 0, none⟩ : Addr).add j = ⟨g, j, none⟩ := by cases j <;> simp [Addr.add]
 rwa [e] at this
theorem src_low {n : Nat} {w y : World} {g len cap : Nat} {L : List FI} (h : OwnG fileEl n w (.slice (some ⟨g, 0, none⟩) len cap) L) (hb : Bel w y) (k : Nat) (hk : k ≤ L.length) : SrcAt fileEl y (.slice (some ⟨g, 0, none⟩) k cap) (L.take k) := by
 refine Or.inr ⟨⟨g, 0, none⟩, cap, by rw [List.length_take, Nat.min_eq_left hk], fun j u hj => ?_⟩
 have e : (⟨g, 0, none⟩ : Addr).add j = ⟨g, j, none⟩ := by cases j <;> simp [Addr.add]
 rw [e]
 exact cell_later hb (row_cells h j u (pt_all_take L k j u hj))
theorem src_high {n : Nat} {w y : World} {g len cap : Nat} {L : List FI} (h : OwnG fileEl n w (.slice (some ⟨g, 0, none⟩) len cap) L) (hb : Bel w y) (k c : Nat) (hk : k ≤ L.length) : SrcAt fileEl y (.slice (some ⟨g, k * 3, none⟩) (L.length - k) c) (L.drop k) := by
 refine Or.inr ⟨⟨g, k * 3, none⟩, c, by rw [List.length_drop], fun j u hj => ?_⟩
 have e : (⟨g, k * 3, none⟩ : Addr).add j = ⟨g, k * 3 + j, none⟩ := by cases j <;> simp [Addr.add]
 rw [e]
 exact cell_later hb (row_cells h _ u (pt_all_drop L k j hk u hj))
theorem src_end {y : World} {ad : Addr} {c : Nat} {L : List FI} (k : Nat) (hk : L.length ≤ k) : SrcAt fileEl y (.slice (some ad) 0 c) (L.drop k) := by
 have e : L.drop k = [] := List.drop_eq_nil_of_le hk
 rw [e]
 exact Or.inr ⟨ad, c, rfl, fun j u hj => by simp [El.all] at hj⟩
theorem Bel.trans_below' {a b c : World} (h : Bel a b) (k : Below a.heap.size b c) : Bel a c := Below.trans h k
set_option maxHeartbeats 4000000 in
set_option maxRecDepth 20000 in
theorem fput_any (n₀ : Nat) (w : World) (b : Nat) (M : RS) (v : Value) (h : RefAt n₀ w b M v) (x : FI) (hL : M.L.length ≤ 100) (hn : n₀ ≤ w.heap.size) :
  Calls Tryz.prog 67 #[.pointer (some ⟨b, 0, none⟩), fileV x] w fun e w' => (∃ u, e = .returned u) ∧
   ∃ v', RefAt n₀ w' b { M with L := insS x M.L } v' ∧ (∀ k, v'.ownBlock = some k → w.heap.size ≤ k) ∧ Keep [b] w w' := by
 have HR := Lib.hid h
 have hlt := h.lt
 clear h
 unfold fileV
 go_enter Tryz.func67, Tryz.ntmps67
 go_wp2_with (fail)
 refine (find_any n₀ _ b M v ⟨x.name.toArray⟩ (HR.out.bel ((Bel.refl w).alloc _)) (by omega)).mono ?_
 rintro e w1 ⟨rfl, hd⟩
 have hnm : (⟨x.name.toArray⟩ : ByteArray).data.toList = x.name := by simp
 rw [hnm]
 have HI := Lib.hid (show insS x M.L = M.L.take (findN x.name M.L) ++ x :: M.L.drop (findN x.name M.L + if isN x.name M.L then 1 else 0) from rfl)
 have HE := Lib.hid (show isN x.name M.L = true → findN x.name M.L < M.L.length from fun h => by
  rcases Nat.lt_or_ge (findN x.name M.L) M.L.length with k | k
  ·exact k
  ·rw [is_end x.name M.L (by omega)] at h; cases h)
 have hle := find_le x.name M.L
 generalize findN x.name M.L = fn at *
 have HB := Lib.hid (((Bel.refl w).alloc _).trans hd.bel)
 have x0 : w1.cell? ⟨w.heap.size, 0, none⟩ = some (.string ⟨x.name.toArray⟩) := cell_later hd.bel (by go_simp)
 have x1 : w1.cell? ⟨w.heap.size, 1, none⟩ = some (.string ⟨x.bytes.toArray⟩) := cell_later hd.bel (by go_simp)
 have x2 : w1.cell? ⟨w.heap.size, 2, none⟩ = some (.int .i64 x.safe) := cell_later hd.bel (by go_simp)
 have HR1 := Lib.hid (HR.out.bel HB.out)
 have hz1 : w.heap.size < w1.heap.size := block_lt_of_cell x0
 have f0 := HR1.out.frozen 0
 obtain ⟨c0, -, -, -⟩ := HR1.out.cells
 have hbl : b < w1.heap.size := HR1.out.lt
 clear hd hnm
 generalize hbx : w.heap.size = bx at *
 have HBX := Lib.hid hbx; clear hbx
 obtain ⟨n, hnn⟩ : ∃ n, n = M.L.length := ⟨_, rfl⟩
 rw [← hnn] at hL hle
 have HN := Lib.hid hnn
 clear hnn
 obtain ⟨kk, hkk⟩ : ∃ kk, kk = fn + if isN x.name M.L = true then 1 else 0 := ⟨_, rfl⟩
 rw [← hkk] at HI
 cases hI : isN x.name M.L with
 | true =>
  have hfl : fn < n := by rw [HN.out]; exact HE.out hI
  rw [hI] at hkk
  simp only [if_true] at hkk
  clear hI HE
  rcases HR1.out.own.2 with ⟨h1, h0⟩ | ⟨g, cap, cur, rfl, hg, hh, hc, hx, _⟩
  ·have := HN.out; omega
  rw [← HN.out] at HR1 c0 hc
  clear hh
  unfold maxLen at hx
  have hfc : fn ≤ cap := by omega
  have hk1 : (fn : Int) + 1 ≤ (n : Int) := by omega
  have hk0 : (0 : Int) ≤ (fn : Int) + 1 := by omega
  have LOW := Lib.hid (fun y (hy : Bel w1 y) => src_low (y := y) (L := M.L) HR1.out.own hy fn (by rw [← HN.out]; omega))
  have HI2 := Lib.hid (show insS x M.L = M.L.take fn ++ [x] ++ M.L.drop kk by rw [HI.out, hkk]; simp)
  have LTK := Lib.hid (show (M.L.take fn).length ≤ 100 by rw [List.length_take]; have := HN.out; omega)
  have LDK := Lib.hid (show (M.L.drop kk).length ≤ 100 by rw [List.length_drop]; have := HN.out; omega)
  have LT1 := Lib.hid (show ([] : List FI).length + (M.L.take fn).length ≤ maxLen by have := LTK.out; unfold maxLen; simp only [List.length_nil]; omega)
  have LT2 := Lib.hid (show (([] : List FI).length + (M.L.take fn).length) * 40 ≤ 140737488355328 by have := LTK.out; simp only [List.length_nil]; omega)
  have LT3 := Lib.hid (show (M.L.take fn).length + [x].length ≤ maxLen by have := LTK.out; unfold maxLen; simp only [List.length_singleton]; omega)
  have LT4 := Lib.hid (show ((M.L.take fn).length + [x].length) * 40 ≤ 140737488355328 by have := LTK.out; simp only [List.length_singleton]; omega)
  have LT5 := Lib.hid (show (M.L.take fn ++ [x]).length + (M.L.drop kk).length ≤ maxLen by have := LTK.out; have := LDK.out; unfold maxLen; simp only [List.length_append, List.length_singleton]; omega)
  have LT6 := Lib.hid (show ((M.L.take fn ++ [x]).length + (M.L.drop kk).length) * 40 ≤ 140737488355328 by have := LTK.out; have := LDK.out; simp only [List.length_append, List.length_singleton]; omega)
  by_cases hcf : cap = fn + 1
  ·obtain rfl : n = fn + 1 := by omega
   subst hcf
   have hq : (fn : Int) ≤ (fn : Int) + 1 := by omega
   have HIGH := Lib.hid (fun y (hy : Bel w1 y) => (show SrcAt fileEl y (.slice (some ⟨g, 0, none⟩) 0 0) (M.L.drop kk) from src_end kk (by rw [hkk, ← HN.out]; exact Nat.le_refl _)))
   clear hkk
   have HS := Lib.hid (show ∀ y, Bel w1 y → (y.cell? ⟨b, 0, none⟩ = some (.slice (some ⟨g, 0, none⟩) (fn + 1) (fn + 1)) ∧ y.cell? ⟨bx, 0, none⟩ = some (.string ⟨x.name.toArray⟩) ∧ y.cell? ⟨bx, 1, none⟩ = some (.string ⟨x.bytes.toArray⟩) ∧ y.cell? ⟨bx, 2, none⟩ = some (.int .i64 x.safe) ∧ y.frozen? ⟨b, 0, none⟩ = false ∧ Bel w1 y) from fun y hy => ⟨cell_later hy c0, cell_later hy x0, cell_later hy x1, cell_later hy x2, (hy.frozen _ _ hbl).trans f0, hy⟩)
   go_wp2_with (fail)
   refine region_L 21 (S := fun y => y.cell? ⟨b, 0, none⟩ = some (.slice (some ⟨g, 0, none⟩) (fn + 1) (fn + 1)) ∧ y.cell? ⟨bx, 0, none⟩ = some (.string ⟨x.name.toArray⟩) ∧ y.cell? ⟨bx, 1, none⟩ = some (.string ⟨x.bytes.toArray⟩) ∧ y.cell? ⟨bx, 2, none⟩ = some (.int .i64 x.safe) ∧ y.frozen? ⟨b, 0, none⟩ = false ∧ Bel w1 y) (by kernel_rfl) (HS.out _ (Bel.refl w1).drew) (fun hHeld => ?_)
   refine AnyL.tk (v := ?_) 0 rfl ?_ ?_;rotate_left;·(intros;go_simp<;>with_reducible rfl)
   try simp only[Act.put,sqA,sqB,sqC]
   refine AnyL.tk (v := ?_) 2 rfl ?_ ?_;rotate_left;·(intros;go_simp<;>with_reducible rfl)
   try simp only[Act.put,sqA,sqB,sqC]
   refine AnyL.tk (v := ?_) 3 rfl ?_ ?_;rotate_left;·(intros;go_simp<;>with_reducible rfl)
   try simp only[Act.put,sqA,sqB,sqC]
   refine AnyL.tk (v := ?_) 4 rfl ?_ ?_;rotate_left;·(intros;go_simp<;>with_reducible rfl)
   try simp only[Act.put,sqA,sqB,sqC]
   refine AnyL.tk (v := ?_) 5 rfl ?_ ?_;rotate_left;·(intros;go_simp<;>with_reducible rfl)
   try simp only[Act.put,sqA,sqB,sqC]
   refine AnyL.tk (v := ?_) 6 rfl ?_ ?_;rotate_left;·(intros;go_simp<;>with_reducible rfl)
   try simp only[Act.put,sqA,sqB,sqC]
   refine AnyL.tk (v := ?_) 7 rfl ?_ ?_;rotate_left;·(intros;go_simp<;>with_reducible rfl)
   try simp only[Act.put,sqA,sqB,sqC]
   refine AnyL.tk (v := ?_) 9 rfl ?_ ?_;rotate_left;·(intros;go_simp<;>with_reducible rfl)
   try simp only[Act.put,sqA,sqB,sqC]
   refine AnyL.tk (v := ?_) 12 rfl ?_ ?_;rotate_left;·(intros;go_simp<;>with_reducible rfl)
   try simp only[Act.put,sqA,sqB,sqC]
   refine AnyL.tk (v := ?_) 13 rfl ?_ ?_;rotate_left;·(intros;go_simp<;>with_reducible rfl)
   try simp only[Act.put,sqA,sqB,sqC]
   refine AnyL.tk (v := ?_) 14 rfl ?_ ?_;rotate_left;·(intros;go_simp<;>with_reducible rfl)
   try simp only[Act.put,sqA,sqB,sqC]
   refine AnyL.tk (v := ?_) 15 rfl ?_ ?_;rotate_left;·(intros;go_simp<;>with_reducible rfl)
   try simp only[Act.put,sqA,sqB,sqC]
   refine AnyL.tk (v := ?_) 16 rfl ?_ ?_;rotate_left;·(intros;go_simp<;>with_reducible rfl)
   try simp only[Act.put,sqA,sqB,sqC]
   refine AnyL.tk (v := ?_) 17 rfl ?_ ?_;rotate_left;·(intros;go_simp<;>with_reducible rfl)
   try simp only[Act.put,sqA,sqB,sqC]
   clear hHeld
   refine AnyL.ready (rs := [1, 10]) (by kernel_rfl) (by simp) ?_
   refine (AllL.cons rfl (fun K hK => ?_) (AllL.cons rfl (fun K hK => ?_) AllL.nil))
   ·go_simp
    refine hK.out _ _ (fun _ => HS.out _ ((Bel.refl w1).drew.alloc _)) ?_
    clear hK K
    try simp only[Act.put,sqA,sqB,sqC]
    refine AnyL.ready (rs := [8, 10]) (by kernel_rfl) (by simp) ?_
    refine (AllL.cons rfl (fun K hK => ?_) (AllL.cons rfl (fun K hK => ?_) AllL.nil))
    ·refine step_append_seg (n := w1.heap.size) (v := .slice (some ⟨w1.heap.size, 0, none⟩) 0 0) fileOk rfl (.tmp 19) (.tmp 25) rfl rfl (ownG_none (heap_alloc_new w1.drew _) (Nat.le_refl _)) (M.L.take fn) rfl (LOW.out _ (((Bel.refl w1).drew.alloc _))) (LT1.out) (LT2.out) (Bel.size (((Bel.refl w1).drew.alloc _))) ?_
     intro v1 z1 ho1 hg1 hb1
     have hBz1 := Lib.hid (Bel.trans_below' (((Bel.refl w1).drew.alloc _)) hb1)
     have hOwn1 := Lib.hid (show OwnG fileEl w1.heap.size z1 v1 (M.L.take fn) from ho1)
     refine hK.out _ _ (fun _ => HS.out _ hBz1.out) ?_
     clear hK K ho1 hg1 hb1
     try simp only[Act.put,sqA,sqB,sqC]
     refine AnyL.ready (rs := [10]) (by kernel_rfl) (by simp) ?_
     refine al1 rfl fun K hK => ?_
     go_simp
     refine hK.out _ _ (fun _ => HS.out _ (hBz1.out.alloc _)) ?_
     clear hK K
     try simp only[Act.put,sqA,sqB,sqC]
     have hBz := Lib.hid (hBz1.out.alloc (.cells #[.string ⟨x.name.toArray⟩, .string ⟨x.bytes.toArray⟩, .int .i64 x.safe] 74))
     have hLit := Lib.hid (heap_alloc_new z1 (.cells #[.string ⟨x.name.toArray⟩, .string ⟨x.bytes.toArray⟩, .int .i64 x.safe] 74))
     replace hOwn1 := Lib.hid (hOwn1.out.alloc (.cells #[.string ⟨x.name.toArray⟩, .string ⟨x.bytes.toArray⟩, .int .i64 x.safe] 74))
     refine AnyL.ready (rs := [11]) (by kernel_rfl) (by simp) ?_
     refine al1 rfl fun K hK => ?_
     refine step_append_seg (n := w1.heap.size) fileOk rfl (.tmp 26) (.tmp 28) rfl rfl hOwn1.out [x] rfl (lit_src hLit.out) (LT3.out) (LT4.out) (Bel.size hBz.out) ?_
     intro v2 z2 ho2 hg2 hb2
     have hBz2 := Lib.hid (Bel.trans_below' hBz.out hb2)
     have hOwn2 := Lib.hid ho2
     refine hK.out _ _ (fun _ => HS.out _ hBz2.out) ?_
     clear hK K ho2 hg2 hb2
     try simp only[Act.put,sqA,sqB,sqC]
     refine AnyL.ready (rs := [18]) (by kernel_rfl) (by simp) ?_
     refine al1 rfl fun K hK => ?_
     refine step_append_seg (n := w1.heap.size) fileOk rfl (.tmp 29) (.tmp 35) rfl rfl hOwn2.out (M.L.drop kk) rfl (HIGH.out _ hBz2.out) (LT5.out) (LT6.out) (Bel.size hBz2.out) ?_
     intro v3 z3 ho3 hg3 hb3
     have hBz3 := Lib.hid (Bel.trans_below' hBz2.out hb3)
     obtain ⟨p3, c3, hv3⟩ := ownG_len ho3
     generalize (M.L.take fn ++ [x] ++ M.L.drop kk).length = l3 at hv3
     subst hv3
     have hOwn3 := Lib.hid ho3
     refine hK.out _ _ (fun _ => HS.out _ hBz3.out) ?_
     clear hK K ho3 hg3 hb3
     try simp only[Act.put,sqA,sqB,sqC]
     refine AnyL.ready (rs := [19]) (by kernel_rfl) (by simp) ?_
     refine al1 rfl fun K hK => ?_
     go_simp
     refine hK.out _ _ (fun _ => HS.out _ hBz3.out) ?_
     clear hK K
     try simp only[Act.put,sqA,sqB,sqC]
     refine AnyL.ready (rs := [20]) (by kernel_rfl) (by simp) ?_
     refine al1 rfl fun K hK => ?_
     go_simp
     refine hK.out _ _ (fun _ => HS.out _ hBz3.out) ?_
     clear hK K
     try simp only[Act.put,sqA,sqB,sqC]
     refine AnyL.ready (rs := [21]) (by kernel_rfl) (by simp) ?_
     refine al1 rfl fun K hK => ?_
     obtain ⟨s0, -, -, -, s4, -⟩ := HS.out _ hBz3.out
     go_simp
     refine hK.out _ _ (fun h => absurd rfl h) ?_
     clear hK K s0 s4
     try simp only[Act.put,sqA,sqB,sqC]
     refine AnyL.done (by kernel_rfl) ?_ _
     go_wp2_with (fail)
     go_end0
     have hpf := (HR1.out.bel hBz3.out).put_files (hOwn3.out.low (Nat.le_trans hn (Nat.le_of_lt hz1)))
     rw [HI2.out]
     exact ⟨⟨_, rfl⟩, _, hpf, fun k hk => Nat.le_trans HB.out.size (hOwn3.out.lt k hk).1, ((Keep.of_bel (HB.out.trans hBz3.out) [b]).setCell (p := ⟨b, 0, none⟩) (Or.inl (by simp)) _)⟩
    ·go_simp
     refine hK.out _ _ (fun _ => HS.out _ (((Bel.refl w1).drew.alloc _).alloc _)) ?_
     clear hK K
     try simp only[Act.put,sqA,sqB,sqC]
     refine AnyL.ready (rs := [8]) (by kernel_rfl) (by simp) ?_
     refine al1 rfl fun K hK => ?_
     refine step_append_seg (n := w1.heap.size) (v := .slice (some ⟨w1.heap.size, 0, none⟩) 0 0) fileOk rfl (.tmp 19) (.tmp 25) rfl rfl ((ownG_none (heap_alloc_new w1.drew _) (Nat.le_refl _)).alloc _) (M.L.take fn) rfl (LOW.out _ ((((Bel.refl w1).drew.alloc _).alloc _))) (LT1.out) (LT2.out) (Bel.size ((((Bel.refl w1).drew.alloc _).alloc _))) ?_
     intro v1 z1 ho1 hg1 hb1
     have hBz1 := Lib.hid (Bel.trans_below' ((((Bel.refl w1).drew.alloc _).alloc _)) hb1)
     have hOwn1 := Lib.hid (show OwnG fileEl w1.heap.size z1 v1 (M.L.take fn) from ho1)
     have hLit := Lib.hid (show z1.heap[w1.heap.size + 1]? = some (.cells #[.string ⟨x.name.toArray⟩, .string ⟨x.bytes.toArray⟩, .int .i64 x.safe] 74) from at_grown hg1 (at_new (by simp)) (by simp [Value.ownBlock]))
     refine hK.out _ _ (fun _ => HS.out _ hBz1.out) ?_
     clear hK K ho1 hg1 hb1
     try simp only[Act.put,sqA,sqB,sqC]
     have hBz := Lib.hid hBz1.out
     refine AnyL.ready (rs := [11]) (by kernel_rfl) (by simp) ?_
     refine al1 rfl fun K hK => ?_
     refine step_append_seg (n := w1.heap.size) fileOk rfl (.tmp 26) (.tmp 28) rfl rfl hOwn1.out [x] rfl (lit_src hLit.out) (LT3.out) (LT4.out) (Bel.size hBz.out) ?_
     intro v2 z2 ho2 hg2 hb2
     have hBz2 := Lib.hid (Bel.trans_below' hBz.out hb2)
     have hOwn2 := Lib.hid ho2
     refine hK.out _ _ (fun _ => HS.out _ hBz2.out) ?_
     clear hK K ho2 hg2 hb2
     try simp only[Act.put,sqA,sqB,sqC]
     refine AnyL.ready (rs := [18]) (by kernel_rfl) (by simp) ?_
     refine al1 rfl fun K hK => ?_
     refine step_append_seg (n := w1.heap.size) fileOk rfl (.tmp 29) (.tmp 35) rfl rfl hOwn2.out (M.L.drop kk) rfl (HIGH.out _ hBz2.out) (LT5.out) (LT6.out) (Bel.size hBz2.out) ?_
     intro v3 z3 ho3 hg3 hb3
     have hBz3 := Lib.hid (Bel.trans_below' hBz2.out hb3)
     obtain ⟨p3, c3, hv3⟩ := ownG_len ho3
     generalize (M.L.take fn ++ [x] ++ M.L.drop kk).length = l3 at hv3
     subst hv3
     have hOwn3 := Lib.hid ho3
     refine hK.out _ _ (fun _ => HS.out _ hBz3.out) ?_
     clear hK K ho3 hg3 hb3
     try simp only[Act.put,sqA,sqB,sqC]
     refine AnyL.ready (rs := [19]) (by kernel_rfl) (by simp) ?_
     refine al1 rfl fun K hK => ?_
     go_simp
     refine hK.out _ _ (fun _ => HS.out _ hBz3.out) ?_
     clear hK K
     try simp only[Act.put,sqA,sqB,sqC]
     refine AnyL.ready (rs := [20]) (by kernel_rfl) (by simp) ?_
     refine al1 rfl fun K hK => ?_
     go_simp
     refine hK.out _ _ (fun _ => HS.out _ hBz3.out) ?_
     clear hK K
     try simp only[Act.put,sqA,sqB,sqC]
     refine AnyL.ready (rs := [21]) (by kernel_rfl) (by simp) ?_
     refine al1 rfl fun K hK => ?_
     obtain ⟨s0, -, -, -, s4, -⟩ := HS.out _ hBz3.out
     go_simp
     refine hK.out _ _ (fun h => absurd rfl h) ?_
     clear hK K s0 s4
     try simp only[Act.put,sqA,sqB,sqC]
     refine AnyL.done (by kernel_rfl) ?_ _
     go_wp2_with (fail)
     go_end0
     have hpf := (HR1.out.bel hBz3.out).put_files (hOwn3.out.low (Nat.le_trans hn (Nat.le_of_lt hz1)))
     rw [HI2.out]
     exact ⟨⟨_, rfl⟩, _, hpf, fun k hk => Nat.le_trans HB.out.size (hOwn3.out.lt k hk).1, ((Keep.of_bel (HB.out.trans hBz3.out) [b]).setCell (p := ⟨b, 0, none⟩) (Or.inl (by simp)) _)⟩
   ·go_simp
    refine hK.out _ _ (fun _ => HS.out _ ((Bel.refl w1).drew.alloc _)) ?_
    clear hK K
    try simp only[Act.put,sqA,sqB,sqC]
    refine AnyL.ready (rs := [1]) (by kernel_rfl) (by simp) ?_
    refine al1 rfl fun K hK => ?_
    go_simp
    refine hK.out _ _ (fun _ => HS.out _ (((Bel.refl w1).drew.alloc _).alloc _)) ?_
    clear hK K
    try simp only[Act.put,sqA,sqB,sqC]
    refine AnyL.ready (rs := [8]) (by kernel_rfl) (by simp) ?_
    refine al1 rfl fun K hK => ?_
    refine step_append_seg (n := w1.heap.size) (v := .slice (some ⟨w1.heap.size + 1, 0, none⟩) 0 0) fileOk rfl (.tmp 19) (.tmp 25) rfl rfl (ownG_none (n := w1.heap.size) (at_new (by simp)) (by simp)) (M.L.take fn) rfl (LOW.out _ ((((Bel.refl w1).drew.alloc _).alloc _))) (LT1.out) (LT2.out) (Bel.size ((((Bel.refl w1).drew.alloc _).alloc _))) ?_
    intro v1 z1 ho1 hg1 hb1
    have hBz1 := Lib.hid (Bel.trans_below' ((((Bel.refl w1).drew.alloc _).alloc _)) hb1)
    have hOwn1 := Lib.hid (show OwnG fileEl w1.heap.size z1 v1 (M.L.take fn) from ho1)
    have hLit := Lib.hid (show z1.heap[w1.heap.size]? = some (.cells #[.string ⟨x.name.toArray⟩, .string ⟨x.bytes.toArray⟩, .int .i64 x.safe] 74) from at_grown hg1 (at_old (at_new (by simp))) (by simp [Value.ownBlock]))
    refine hK.out _ _ (fun _ => HS.out _ hBz1.out) ?_
    clear hK K ho1 hg1 hb1
    try simp only[Act.put,sqA,sqB,sqC]
    have hBz := Lib.hid hBz1.out
    refine AnyL.ready (rs := [11]) (by kernel_rfl) (by simp) ?_
    refine al1 rfl fun K hK => ?_
    refine step_append_seg (n := w1.heap.size) fileOk rfl (.tmp 26) (.tmp 28) rfl rfl hOwn1.out [x] rfl (lit_src hLit.out) (LT3.out) (LT4.out) (Bel.size hBz.out) ?_
    intro v2 z2 ho2 hg2 hb2
    have hBz2 := Lib.hid (Bel.trans_below' hBz.out hb2)
    have hOwn2 := Lib.hid ho2
    refine hK.out _ _ (fun _ => HS.out _ hBz2.out) ?_
    clear hK K ho2 hg2 hb2
    try simp only[Act.put,sqA,sqB,sqC]
    refine AnyL.ready (rs := [18]) (by kernel_rfl) (by simp) ?_
    refine al1 rfl fun K hK => ?_
    refine step_append_seg (n := w1.heap.size) fileOk rfl (.tmp 29) (.tmp 35) rfl rfl hOwn2.out (M.L.drop kk) rfl (HIGH.out _ hBz2.out) (LT5.out) (LT6.out) (Bel.size hBz2.out) ?_
    intro v3 z3 ho3 hg3 hb3
    have hBz3 := Lib.hid (Bel.trans_below' hBz2.out hb3)
    obtain ⟨p3, c3, hv3⟩ := ownG_len ho3
    generalize (M.L.take fn ++ [x] ++ M.L.drop kk).length = l3 at hv3
    subst hv3
    have hOwn3 := Lib.hid ho3
    refine hK.out _ _ (fun _ => HS.out _ hBz3.out) ?_
    clear hK K ho3 hg3 hb3
    try simp only[Act.put,sqA,sqB,sqC]
    refine AnyL.ready (rs := [19]) (by kernel_rfl) (by simp) ?_
    refine al1 rfl fun K hK => ?_
    go_simp
    refine hK.out _ _ (fun _ => HS.out _ hBz3.out) ?_
    clear hK K
    try simp only[Act.put,sqA,sqB,sqC]
    refine AnyL.ready (rs := [20]) (by kernel_rfl) (by simp) ?_
    refine al1 rfl fun K hK => ?_
    go_simp
    refine hK.out _ _ (fun _ => HS.out _ hBz3.out) ?_
    clear hK K
    try simp only[Act.put,sqA,sqB,sqC]
    refine AnyL.ready (rs := [21]) (by kernel_rfl) (by simp) ?_
    refine al1 rfl fun K hK => ?_
    obtain ⟨s0, -, -, -, s4, -⟩ := HS.out _ hBz3.out
    go_simp
    refine hK.out _ _ (fun h => absurd rfl h) ?_
    clear hK K s0 s4
    try simp only[Act.put,sqA,sqB,sqC]
    refine AnyL.done (by kernel_rfl) ?_ _
    go_wp2_with (fail)
    go_end0
    have hpf := (HR1.out.bel hBz3.out).put_files (hOwn3.out.low (Nat.le_trans hn (Nat.le_of_lt hz1)))
    rw [HI2.out]
    exact ⟨⟨_, rfl⟩, _, hpf, fun k hk => Nat.le_trans HB.out.size (hOwn3.out.lt k hk).1, ((Keep.of_bel (HB.out.trans hBz3.out) [b]).setCell (p := ⟨b, 0, none⟩) (Or.inl (by simp)) _)⟩

  ·have HIGH := Lib.hid (fun y (hy : Bel w1 y) => (show SrcAt fileEl y (.slice (some ⟨g, (fn + 1) * 3, none⟩) (n - (fn + 1)) (cap - (fn + 1))) (M.L.drop kk) by rw [hkk, HN.out]; exact src_high (L := M.L) HR1.out.own hy (fn + 1) _ (by rw [← HN.out]; omega)))
   clear hkk
   have HS := Lib.hid (show ∀ y, Bel w1 y → (y.cell? ⟨b, 0, none⟩ = some (.slice (some ⟨g, 0, none⟩) n cap) ∧ y.cell? ⟨bx, 0, none⟩ = some (.string ⟨x.name.toArray⟩) ∧ y.cell? ⟨bx, 1, none⟩ = some (.string ⟨x.bytes.toArray⟩) ∧ y.cell? ⟨bx, 2, none⟩ = some (.int .i64 x.safe) ∧ y.frozen? ⟨b, 0, none⟩ = false ∧ Bel w1 y) from fun y hy => ⟨cell_later hy c0, cell_later hy x0, cell_later hy x1, cell_later hy x2, (hy.frozen _ _ hbl).trans f0, hy⟩)
   go_wp2_with (fail)
   refine region_L 21 (S := fun y => y.cell? ⟨b, 0, none⟩ = some (.slice (some ⟨g, 0, none⟩) n cap) ∧ y.cell? ⟨bx, 0, none⟩ = some (.string ⟨x.name.toArray⟩) ∧ y.cell? ⟨bx, 1, none⟩ = some (.string ⟨x.bytes.toArray⟩) ∧ y.cell? ⟨bx, 2, none⟩ = some (.int .i64 x.safe) ∧ y.frozen? ⟨b, 0, none⟩ = false ∧ Bel w1 y) (by kernel_rfl) (HS.out _ (Bel.refl w1).drew) (fun hHeld => ?_)
   refine AnyL.tk (v := ?_) 0 rfl ?_ ?_;rotate_left;·(intros;go_simp<;>with_reducible rfl)
   try simp only[Act.put,sqA,sqB,sqC]
   refine AnyL.tk (v := ?_) 2 rfl ?_ ?_;rotate_left;·(intros;go_simp<;>with_reducible rfl)
   try simp only[Act.put,sqA,sqB,sqC]
   refine AnyL.tk (v := ?_) 3 rfl ?_ ?_;rotate_left;·(intros;go_simp<;>with_reducible rfl)
   try simp only[Act.put,sqA,sqB,sqC]
   refine AnyL.tk (v := ?_) 4 rfl ?_ ?_;rotate_left;·(intros;go_simp<;>with_reducible rfl)
   try simp only[Act.put,sqA,sqB,sqC]
   refine AnyL.tk (v := ?_) 5 rfl ?_ ?_;rotate_left;·(intros;go_simp<;>with_reducible rfl)
   try simp only[Act.put,sqA,sqB,sqC]
   refine AnyL.tk (v := ?_) 6 rfl ?_ ?_;rotate_left;·(intros;go_simp<;>with_reducible rfl)
   try simp only[Act.put,sqA,sqB,sqC]
   refine AnyL.tk (v := ?_) 7 rfl ?_ ?_;rotate_left;·(intros;go_simp<;>with_reducible rfl)
   try simp only[Act.put,sqA,sqB,sqC]
   refine AnyL.tk (v := ?_) 9 rfl ?_ ?_;rotate_left;·(intros;go_simp<;>with_reducible rfl)
   try simp only[Act.put,sqA,sqB,sqC]
   refine AnyL.tk (v := ?_) 12 rfl ?_ ?_;rotate_left;·(intros;go_simp<;>with_reducible rfl)
   try simp only[Act.put,sqA,sqB,sqC]
   refine AnyL.tk (v := ?_) 13 rfl ?_ ?_;rotate_left;·(intros;go_simp<;>with_reducible rfl)
   try simp only[Act.put,sqA,sqB,sqC]
   refine AnyL.tk (v := ?_) 14 rfl ?_ ?_;rotate_left;·(intros;go_simp<;>with_reducible rfl)
   try simp only[Act.put,sqA,sqB,sqC]
   refine AnyL.tk (v := ?_) 15 rfl ?_ ?_;rotate_left;·(intros;go_simp<;>with_reducible rfl)
   try simp only[Act.put,sqA,sqB,sqC]
   refine AnyL.tk (v := ?_) 16 rfl ?_ ?_;rotate_left;·(intros;go_simp<;>with_reducible rfl)
   try simp only[Act.put,sqA,sqB,sqC]
   refine AnyL.tk (v := ?_) 17 rfl ?_ ?_;rotate_left;·(intros;go_simp<;>with_reducible rfl)
   try simp only[Act.put,sqA,sqB,sqC]
   clear hHeld
   refine AnyL.ready (rs := [1, 10]) (by kernel_rfl) (by simp) ?_
   refine (AllL.cons rfl (fun K hK => ?_) (AllL.cons rfl (fun K hK => ?_) AllL.nil))
   ·go_simp
    refine hK.out _ _ (fun _ => HS.out _ ((Bel.refl w1).drew.alloc _)) ?_
    clear hK K
    try simp only[Act.put,sqA,sqB,sqC]
    refine AnyL.ready (rs := [8, 10]) (by kernel_rfl) (by simp) ?_
    refine (AllL.cons rfl (fun K hK => ?_) (AllL.cons rfl (fun K hK => ?_) AllL.nil))
    ·refine step_append_seg (n := w1.heap.size) (v := .slice (some ⟨w1.heap.size, 0, none⟩) 0 0) fileOk rfl (.tmp 19) (.tmp 25) rfl rfl (ownG_none (heap_alloc_new w1.drew _) (Nat.le_refl _)) (M.L.take fn) rfl (LOW.out _ (((Bel.refl w1).drew.alloc _))) (LT1.out) (LT2.out) (Bel.size (((Bel.refl w1).drew.alloc _))) ?_
     intro v1 z1 ho1 hg1 hb1
     have hBz1 := Lib.hid (Bel.trans_below' (((Bel.refl w1).drew.alloc _)) hb1)
     have hOwn1 := Lib.hid (show OwnG fileEl w1.heap.size z1 v1 (M.L.take fn) from ho1)
     refine hK.out _ _ (fun _ => HS.out _ hBz1.out) ?_
     clear hK K ho1 hg1 hb1
     try simp only[Act.put,sqA,sqB,sqC]
     refine AnyL.ready (rs := [10]) (by kernel_rfl) (by simp) ?_
     refine al1 rfl fun K hK => ?_
     go_simp
     refine hK.out _ _ (fun _ => HS.out _ (hBz1.out.alloc _)) ?_
     clear hK K
     try simp only[Act.put,sqA,sqB,sqC]
     have hBz := Lib.hid (hBz1.out.alloc (.cells #[.string ⟨x.name.toArray⟩, .string ⟨x.bytes.toArray⟩, .int .i64 x.safe] 74))
     have hLit := Lib.hid (heap_alloc_new z1 (.cells #[.string ⟨x.name.toArray⟩, .string ⟨x.bytes.toArray⟩, .int .i64 x.safe] 74))
     replace hOwn1 := Lib.hid (hOwn1.out.alloc (.cells #[.string ⟨x.name.toArray⟩, .string ⟨x.bytes.toArray⟩, .int .i64 x.safe] 74))
     refine AnyL.ready (rs := [11]) (by kernel_rfl) (by simp) ?_
     refine al1 rfl fun K hK => ?_
     refine step_append_seg (n := w1.heap.size) fileOk rfl (.tmp 26) (.tmp 28) rfl rfl hOwn1.out [x] rfl (lit_src hLit.out) (LT3.out) (LT4.out) (Bel.size hBz.out) ?_
     intro v2 z2 ho2 hg2 hb2
     have hBz2 := Lib.hid (Bel.trans_below' hBz.out hb2)
     have hOwn2 := Lib.hid ho2
     refine hK.out _ _ (fun _ => HS.out _ hBz2.out) ?_
     clear hK K ho2 hg2 hb2
     try simp only[Act.put,sqA,sqB,sqC]
     refine AnyL.ready (rs := [18]) (by kernel_rfl) (by simp) ?_
     refine al1 rfl fun K hK => ?_
     refine step_append_seg (n := w1.heap.size) fileOk rfl (.tmp 29) (.tmp 35) rfl rfl hOwn2.out (M.L.drop kk) rfl (HIGH.out _ hBz2.out) (LT5.out) (LT6.out) (Bel.size hBz2.out) ?_
     intro v3 z3 ho3 hg3 hb3
     have hBz3 := Lib.hid (Bel.trans_below' hBz2.out hb3)
     obtain ⟨p3, c3, hv3⟩ := ownG_len ho3
     generalize (M.L.take fn ++ [x] ++ M.L.drop kk).length = l3 at hv3
     subst hv3
     have hOwn3 := Lib.hid ho3
     refine hK.out _ _ (fun _ => HS.out _ hBz3.out) ?_
     clear hK K ho3 hg3 hb3
     try simp only[Act.put,sqA,sqB,sqC]
     refine AnyL.ready (rs := [19]) (by kernel_rfl) (by simp) ?_
     refine al1 rfl fun K hK => ?_
     go_simp
     refine hK.out _ _ (fun _ => HS.out _ hBz3.out) ?_
     clear hK K
     try simp only[Act.put,sqA,sqB,sqC]
     refine AnyL.ready (rs := [20]) (by kernel_rfl) (by simp) ?_
     refine al1 rfl fun K hK => ?_
     go_simp
     refine hK.out _ _ (fun _ => HS.out _ hBz3.out) ?_
     clear hK K
     try simp only[Act.put,sqA,sqB,sqC]
     refine AnyL.ready (rs := [21]) (by kernel_rfl) (by simp) ?_
     refine al1 rfl fun K hK => ?_
     obtain ⟨s0, -, -, -, s4, -⟩ := HS.out _ hBz3.out
     go_simp
     refine hK.out _ _ (fun h => absurd rfl h) ?_
     clear hK K s0 s4
     try simp only[Act.put,sqA,sqB,sqC]
     refine AnyL.done (by kernel_rfl) ?_ _
     go_wp2_with (fail)
     go_end0
     have hpf := (HR1.out.bel hBz3.out).put_files (hOwn3.out.low (Nat.le_trans hn (Nat.le_of_lt hz1)))
     rw [HI2.out]
     exact ⟨⟨_, rfl⟩, _, hpf, fun k hk => Nat.le_trans HB.out.size (hOwn3.out.lt k hk).1, ((Keep.of_bel (HB.out.trans hBz3.out) [b]).setCell (p := ⟨b, 0, none⟩) (Or.inl (by simp)) _)⟩
    ·go_simp
     refine hK.out _ _ (fun _ => HS.out _ (((Bel.refl w1).drew.alloc _).alloc _)) ?_
     clear hK K
     try simp only[Act.put,sqA,sqB,sqC]
     refine AnyL.ready (rs := [8]) (by kernel_rfl) (by simp) ?_
     refine al1 rfl fun K hK => ?_
     refine step_append_seg (n := w1.heap.size) (v := .slice (some ⟨w1.heap.size, 0, none⟩) 0 0) fileOk rfl (.tmp 19) (.tmp 25) rfl rfl ((ownG_none (heap_alloc_new w1.drew _) (Nat.le_refl _)).alloc _) (M.L.take fn) rfl (LOW.out _ ((((Bel.refl w1).drew.alloc _).alloc _))) (LT1.out) (LT2.out) (Bel.size ((((Bel.refl w1).drew.alloc _).alloc _))) ?_
     intro v1 z1 ho1 hg1 hb1
     have hBz1 := Lib.hid (Bel.trans_below' ((((Bel.refl w1).drew.alloc _).alloc _)) hb1)
     have hOwn1 := Lib.hid (show OwnG fileEl w1.heap.size z1 v1 (M.L.take fn) from ho1)
     have hLit := Lib.hid (show z1.heap[w1.heap.size + 1]? = some (.cells #[.string ⟨x.name.toArray⟩, .string ⟨x.bytes.toArray⟩, .int .i64 x.safe] 74) from at_grown hg1 (at_new (by simp)) (by simp [Value.ownBlock]))
     refine hK.out _ _ (fun _ => HS.out _ hBz1.out) ?_
     clear hK K ho1 hg1 hb1
     try simp only[Act.put,sqA,sqB,sqC]
     have hBz := Lib.hid hBz1.out
     refine AnyL.ready (rs := [11]) (by kernel_rfl) (by simp) ?_
     refine al1 rfl fun K hK => ?_
     refine step_append_seg (n := w1.heap.size) fileOk rfl (.tmp 26) (.tmp 28) rfl rfl hOwn1.out [x] rfl (lit_src hLit.out) (LT3.out) (LT4.out) (Bel.size hBz.out) ?_
     intro v2 z2 ho2 hg2 hb2
     have hBz2 := Lib.hid (Bel.trans_below' hBz.out hb2)
     have hOwn2 := Lib.hid ho2
     refine hK.out _ _ (fun _ => HS.out _ hBz2.out) ?_
     clear hK K ho2 hg2 hb2
     try simp only[Act.put,sqA,sqB,sqC]
     refine AnyL.ready (rs := [18]) (by kernel_rfl) (by simp) ?_
     refine al1 rfl fun K hK => ?_
     refine step_append_seg (n := w1.heap.size) fileOk rfl (.tmp 29) (.tmp 35) rfl rfl hOwn2.out (M.L.drop kk) rfl (HIGH.out _ hBz2.out) (LT5.out) (LT6.out) (Bel.size hBz2.out) ?_
     intro v3 z3 ho3 hg3 hb3
     have hBz3 := Lib.hid (Bel.trans_below' hBz2.out hb3)
     obtain ⟨p3, c3, hv3⟩ := ownG_len ho3
     generalize (M.L.take fn ++ [x] ++ M.L.drop kk).length = l3 at hv3
     subst hv3
     have hOwn3 := Lib.hid ho3
     refine hK.out _ _ (fun _ => HS.out _ hBz3.out) ?_
     clear hK K ho3 hg3 hb3
     try simp only[Act.put,sqA,sqB,sqC]
     refine AnyL.ready (rs := [19]) (by kernel_rfl) (by simp) ?_
     refine al1 rfl fun K hK => ?_
     go_simp
     refine hK.out _ _ (fun _ => HS.out _ hBz3.out) ?_
     clear hK K
     try simp only[Act.put,sqA,sqB,sqC]
     refine AnyL.ready (rs := [20]) (by kernel_rfl) (by simp) ?_
     refine al1 rfl fun K hK => ?_
     go_simp
     refine hK.out _ _ (fun _ => HS.out _ hBz3.out) ?_
     clear hK K
     try simp only[Act.put,sqA,sqB,sqC]
     refine AnyL.ready (rs := [21]) (by kernel_rfl) (by simp) ?_
     refine al1 rfl fun K hK => ?_
     obtain ⟨s0, -, -, -, s4, -⟩ := HS.out _ hBz3.out
     go_simp
     refine hK.out _ _ (fun h => absurd rfl h) ?_
     clear hK K s0 s4
     try simp only[Act.put,sqA,sqB,sqC]
     refine AnyL.done (by kernel_rfl) ?_ _
     go_wp2_with (fail)
     go_end0
     have hpf := (HR1.out.bel hBz3.out).put_files (hOwn3.out.low (Nat.le_trans hn (Nat.le_of_lt hz1)))
     rw [HI2.out]
     exact ⟨⟨_, rfl⟩, _, hpf, fun k hk => Nat.le_trans HB.out.size (hOwn3.out.lt k hk).1, ((Keep.of_bel (HB.out.trans hBz3.out) [b]).setCell (p := ⟨b, 0, none⟩) (Or.inl (by simp)) _)⟩
   ·go_simp
    refine hK.out _ _ (fun _ => HS.out _ ((Bel.refl w1).drew.alloc _)) ?_
    clear hK K
    try simp only[Act.put,sqA,sqB,sqC]
    refine AnyL.ready (rs := [1]) (by kernel_rfl) (by simp) ?_
    refine al1 rfl fun K hK => ?_
    go_simp
    refine hK.out _ _ (fun _ => HS.out _ (((Bel.refl w1).drew.alloc _).alloc _)) ?_
    clear hK K
    try simp only[Act.put,sqA,sqB,sqC]
    refine AnyL.ready (rs := [8]) (by kernel_rfl) (by simp) ?_
    refine al1 rfl fun K hK => ?_
    refine step_append_seg (n := w1.heap.size) (v := .slice (some ⟨w1.heap.size + 1, 0, none⟩) 0 0) fileOk rfl (.tmp 19) (.tmp 25) rfl rfl (ownG_none (n := w1.heap.size) (at_new (by simp)) (by simp)) (M.L.take fn) rfl (LOW.out _ ((((Bel.refl w1).drew.alloc _).alloc _))) (LT1.out) (LT2.out) (Bel.size ((((Bel.refl w1).drew.alloc _).alloc _))) ?_
    intro v1 z1 ho1 hg1 hb1
    have hBz1 := Lib.hid (Bel.trans_below' ((((Bel.refl w1).drew.alloc _).alloc _)) hb1)
    have hOwn1 := Lib.hid (show OwnG fileEl w1.heap.size z1 v1 (M.L.take fn) from ho1)
    have hLit := Lib.hid (show z1.heap[w1.heap.size]? = some (.cells #[.string ⟨x.name.toArray⟩, .string ⟨x.bytes.toArray⟩, .int .i64 x.safe] 74) from at_grown hg1 (at_old (at_new (by simp))) (by simp [Value.ownBlock]))
    refine hK.out _ _ (fun _ => HS.out _ hBz1.out) ?_
    clear hK K ho1 hg1 hb1
    try simp only[Act.put,sqA,sqB,sqC]
    have hBz := Lib.hid hBz1.out
    refine AnyL.ready (rs := [11]) (by kernel_rfl) (by simp) ?_
    refine al1 rfl fun K hK => ?_
    refine step_append_seg (n := w1.heap.size) fileOk rfl (.tmp 26) (.tmp 28) rfl rfl hOwn1.out [x] rfl (lit_src hLit.out) (LT3.out) (LT4.out) (Bel.size hBz.out) ?_
    intro v2 z2 ho2 hg2 hb2
    have hBz2 := Lib.hid (Bel.trans_below' hBz.out hb2)
    have hOwn2 := Lib.hid ho2
    refine hK.out _ _ (fun _ => HS.out _ hBz2.out) ?_
    clear hK K ho2 hg2 hb2
    try simp only[Act.put,sqA,sqB,sqC]
    refine AnyL.ready (rs := [18]) (by kernel_rfl) (by simp) ?_
    refine al1 rfl fun K hK => ?_
    refine step_append_seg (n := w1.heap.size) fileOk rfl (.tmp 29) (.tmp 35) rfl rfl hOwn2.out (M.L.drop kk) rfl (HIGH.out _ hBz2.out) (LT5.out) (LT6.out) (Bel.size hBz2.out) ?_
    intro v3 z3 ho3 hg3 hb3
    have hBz3 := Lib.hid (Bel.trans_below' hBz2.out hb3)
    obtain ⟨p3, c3, hv3⟩ := ownG_len ho3
    generalize (M.L.take fn ++ [x] ++ M.L.drop kk).length = l3 at hv3
    subst hv3
    have hOwn3 := Lib.hid ho3
    refine hK.out _ _ (fun _ => HS.out _ hBz3.out) ?_
    clear hK K ho3 hg3 hb3
    try simp only[Act.put,sqA,sqB,sqC]
    refine AnyL.ready (rs := [19]) (by kernel_rfl) (by simp) ?_
    refine al1 rfl fun K hK => ?_
    go_simp
    refine hK.out _ _ (fun _ => HS.out _ hBz3.out) ?_
    clear hK K
    try simp only[Act.put,sqA,sqB,sqC]
    refine AnyL.ready (rs := [20]) (by kernel_rfl) (by simp) ?_
    refine al1 rfl fun K hK => ?_
    go_simp
    refine hK.out _ _ (fun _ => HS.out _ hBz3.out) ?_
    clear hK K
    try simp only[Act.put,sqA,sqB,sqC]
    refine AnyL.ready (rs := [21]) (by kernel_rfl) (by simp) ?_
    refine al1 rfl fun K hK => ?_
    obtain ⟨s0, -, -, -, s4, -⟩ := HS.out _ hBz3.out
    go_simp
    refine hK.out _ _ (fun h => absurd rfl h) ?_
    clear hK K s0 s4
    try simp only[Act.put,sqA,sqB,sqC]
    refine AnyL.done (by kernel_rfl) ?_ _
    go_wp2_with (fail)
    go_end0
    have hpf := (HR1.out.bel hBz3.out).put_files (hOwn3.out.low (Nat.le_trans hn (Nat.le_of_lt hz1)))
    rw [HI2.out]
    exact ⟨⟨_, rfl⟩, _, hpf, fun k hk => Nat.le_trans HB.out.size (hOwn3.out.lt k hk).1, ((Keep.of_bel (HB.out.trans hBz3.out) [b]).setCell (p := ⟨b, 0, none⟩) (Or.inl (by simp)) _)⟩

 | false =>
  rw [hI] at hkk
  simp only [Bool.false_eq_true, if_false, Nat.add_zero] at hkk
  clear hI HE
  rcases HR1.out.own.2 with ⟨h1, h0⟩ | ⟨g, cap, cur, rfl, hg, hh, hc, hx, _⟩
  ·subst h1
   have hn0 : n = 0 := by rw [HN.out]; exact h0
   obtain rfl : fn = 0 := by omega
   have hnil : M.L = [] := List.length_eq_zero_iff.1 h0
   have LOW := Lib.hid (fun y (hy : Bel w1 y) => (show SrcAt fileEl y (.slice none 0 0) (M.L.take 0) from Or.inl ⟨rfl, rfl⟩))
   have HIGH := Lib.hid (fun y (hy : Bel w1 y) => (show SrcAt fileEl y (.slice none 0 0) (M.L.drop kk) from Or.inl ⟨rfl, by rw [hnil]; simp⟩))
   have HI2 := Lib.hid (show insS x M.L = M.L.take 0 ++ [x] ++ M.L.drop kk by rw [HI.out, hkk]; simp)
   have LTK := Lib.hid (show (M.L.take 0).length ≤ 100 by rw [List.length_take]; have := HN.out; omega)
   have LDK := Lib.hid (show (M.L.drop kk).length ≤ 100 by rw [List.length_drop]; have := HN.out; omega)
   have LT1 := Lib.hid (show ([] : List FI).length + (M.L.take 0).length ≤ maxLen by have := LTK.out; unfold maxLen; simp only [List.length_nil]; omega)
   have LT2 := Lib.hid (show (([] : List FI).length + (M.L.take 0).length) * 40 ≤ 140737488355328 by have := LTK.out; simp only [List.length_nil]; omega)
   have LT3 := Lib.hid (show (M.L.take 0).length + [x].length ≤ maxLen by have := LTK.out; unfold maxLen; simp only [List.length_singleton]; omega)
   have LT4 := Lib.hid (show ((M.L.take 0).length + [x].length) * 40 ≤ 140737488355328 by have := LTK.out; simp only [List.length_singleton]; omega)
   have LT5 := Lib.hid (show (M.L.take 0 ++ [x]).length + (M.L.drop kk).length ≤ maxLen by have := LTK.out; have := LDK.out; unfold maxLen; simp only [List.length_append, List.length_singleton]; omega)
   have LT6 := Lib.hid (show ((M.L.take 0 ++ [x]).length + (M.L.drop kk).length) * 40 ≤ 140737488355328 by have := LTK.out; have := LDK.out; simp only [List.length_append, List.length_singleton]; omega)
   clear hkk hnil h0 hn0
   have HS := Lib.hid (show ∀ y, Bel w1 y → (y.cell? ⟨b, 0, none⟩ = some (.slice none 0 0) ∧ y.cell? ⟨bx, 0, none⟩ = some (.string ⟨x.name.toArray⟩) ∧ y.cell? ⟨bx, 1, none⟩ = some (.string ⟨x.bytes.toArray⟩) ∧ y.cell? ⟨bx, 2, none⟩ = some (.int .i64 x.safe) ∧ y.frozen? ⟨b, 0, none⟩ = false ∧ Bel w1 y) from fun y hy => ⟨cell_later hy c0, cell_later hy x0, cell_later hy x1, cell_later hy x2, (hy.frozen _ _ hbl).trans f0, hy⟩)
   go_wp2_with (fail)
   refine region_L 21 (S := fun y => y.cell? ⟨b, 0, none⟩ = some (.slice none 0 0) ∧ y.cell? ⟨bx, 0, none⟩ = some (.string ⟨x.name.toArray⟩) ∧ y.cell? ⟨bx, 1, none⟩ = some (.string ⟨x.bytes.toArray⟩) ∧ y.cell? ⟨bx, 2, none⟩ = some (.int .i64 x.safe) ∧ y.frozen? ⟨b, 0, none⟩ = false ∧ Bel w1 y) (by kernel_rfl) (HS.out _ (Bel.refl w1).drew) (fun hHeld => ?_)
   refine AnyL.tk (v := ?_) 0 rfl ?_ ?_;rotate_left;·(intros;go_simp<;>with_reducible rfl)
   try simp only[Act.put,sqA,sqB,sqC]
   refine AnyL.tk (v := ?_) 2 rfl ?_ ?_;rotate_left;·(intros;go_simp<;>with_reducible rfl)
   try simp only[Act.put,sqA,sqB,sqC]
   refine AnyL.tk (v := ?_) 3 rfl ?_ ?_;rotate_left;·(intros;go_simp<;>with_reducible rfl)
   try simp only[Act.put,sqA,sqB,sqC]
   refine AnyL.tk (v := ?_) 4 rfl ?_ ?_;rotate_left;·(intros;go_simp<;>with_reducible rfl)
   try simp only[Act.put,sqA,sqB,sqC]
   refine AnyL.tk (v := ?_) 5 rfl ?_ ?_;rotate_left;·(intros;go_simp<;>with_reducible rfl)
   try simp only[Act.put,sqA,sqB,sqC]
   refine AnyL.tk (v := ?_) 6 rfl ?_ ?_;rotate_left;·(intros;go_simp<;>with_reducible rfl)
   try simp only[Act.put,sqA,sqB,sqC]
   refine AnyL.tk (v := ?_) 7 rfl ?_ ?_;rotate_left;·(intros;go_simp<;>with_reducible rfl)
   try simp only[Act.put,sqA,sqB,sqC]
   refine AnyL.tk (v := ?_) 9 rfl ?_ ?_;rotate_left;·(intros;go_simp<;>with_reducible rfl)
   try simp only[Act.put,sqA,sqB,sqC]
   refine AnyL.tk (v := ?_) 12 rfl ?_ ?_;rotate_left;·(intros;go_simp<;>with_reducible rfl)
   try simp only[Act.put,sqA,sqB,sqC]
   refine AnyL.tk (v := ?_) 13 rfl ?_ ?_;rotate_left;·(intros;go_simp<;>with_reducible rfl)
   try simp only[Act.put,sqA,sqB,sqC]
   refine AnyL.tk (v := ?_) 14 rfl ?_ ?_;rotate_left;·(intros;go_simp<;>with_reducible rfl)
   try simp only[Act.put,sqA,sqB,sqC]
   refine AnyL.tk (v := ?_) 15 rfl ?_ ?_;rotate_left;·(intros;go_simp<;>with_reducible rfl)
   try simp only[Act.put,sqA,sqB,sqC]
   refine AnyL.tk (v := ?_) 16 rfl ?_ ?_;rotate_left;·(intros;go_simp<;>with_reducible rfl)
   try simp only[Act.put,sqA,sqB,sqC]
   refine AnyL.tk (v := ?_) 17 rfl ?_ ?_;rotate_left;·(intros;go_simp<;>with_reducible rfl)
   try simp only[Act.put,sqA,sqB,sqC]
   clear hHeld
   refine AnyL.ready (rs := [1, 10]) (by kernel_rfl) (by simp) ?_
   refine (AllL.cons rfl (fun K hK => ?_) (AllL.cons rfl (fun K hK => ?_) AllL.nil))
   ·go_simp
    refine hK.out _ _ (fun _ => HS.out _ ((Bel.refl w1).drew.alloc _)) ?_
    clear hK K
    try simp only[Act.put,sqA,sqB,sqC]
    refine AnyL.ready (rs := [8, 10]) (by kernel_rfl) (by simp) ?_
    refine (AllL.cons rfl (fun K hK => ?_) (AllL.cons rfl (fun K hK => ?_) AllL.nil))
    ·refine step_append_seg (n := w1.heap.size) (v := .slice (some ⟨w1.heap.size, 0, none⟩) 0 0) fileOk rfl (.tmp 19) (.tmp 25) rfl rfl (ownG_none (heap_alloc_new w1.drew _) (Nat.le_refl _)) (M.L.take 0) rfl (LOW.out _ (((Bel.refl w1).drew.alloc _))) (LT1.out) (LT2.out) (Bel.size (((Bel.refl w1).drew.alloc _))) ?_
     intro v1 z1 ho1 hg1 hb1
     have hBz1 := Lib.hid (Bel.trans_below' (((Bel.refl w1).drew.alloc _)) hb1)
     have hOwn1 := Lib.hid (show OwnG fileEl w1.heap.size z1 v1 (M.L.take 0) from ho1)
     refine hK.out _ _ (fun _ => HS.out _ hBz1.out) ?_
     clear hK K ho1 hg1 hb1
     try simp only[Act.put,sqA,sqB,sqC]
     refine AnyL.ready (rs := [10]) (by kernel_rfl) (by simp) ?_
     refine al1 rfl fun K hK => ?_
     go_simp
     refine hK.out _ _ (fun _ => HS.out _ (hBz1.out.alloc _)) ?_
     clear hK K
     try simp only[Act.put,sqA,sqB,sqC]
     have hBz := Lib.hid (hBz1.out.alloc (.cells #[.string ⟨x.name.toArray⟩, .string ⟨x.bytes.toArray⟩, .int .i64 x.safe] 74))
     have hLit := Lib.hid (heap_alloc_new z1 (.cells #[.string ⟨x.name.toArray⟩, .string ⟨x.bytes.toArray⟩, .int .i64 x.safe] 74))
     replace hOwn1 := Lib.hid (hOwn1.out.alloc (.cells #[.string ⟨x.name.toArray⟩, .string ⟨x.bytes.toArray⟩, .int .i64 x.safe] 74))
     refine AnyL.ready (rs := [11]) (by kernel_rfl) (by simp) ?_
     refine al1 rfl fun K hK => ?_
     refine step_append_seg (n := w1.heap.size) fileOk rfl (.tmp 26) (.tmp 28) rfl rfl hOwn1.out [x] rfl (lit_src hLit.out) (LT3.out) (LT4.out) (Bel.size hBz.out) ?_
     intro v2 z2 ho2 hg2 hb2
     have hBz2 := Lib.hid (Bel.trans_below' hBz.out hb2)
     have hOwn2 := Lib.hid ho2
     refine hK.out _ _ (fun _ => HS.out _ hBz2.out) ?_
     clear hK K ho2 hg2 hb2
     try simp only[Act.put,sqA,sqB,sqC]
     refine AnyL.ready (rs := [18]) (by kernel_rfl) (by simp) ?_
     refine al1 rfl fun K hK => ?_
     refine step_append_seg (n := w1.heap.size) fileOk rfl (.tmp 29) (.tmp 35) rfl rfl hOwn2.out (M.L.drop kk) rfl (HIGH.out _ hBz2.out) (LT5.out) (LT6.out) (Bel.size hBz2.out) ?_
     intro v3 z3 ho3 hg3 hb3
     have hBz3 := Lib.hid (Bel.trans_below' hBz2.out hb3)
     obtain ⟨p3, c3, hv3⟩ := ownG_len ho3
     generalize (M.L.take 0 ++ [x] ++ M.L.drop kk).length = l3 at hv3
     subst hv3
     have hOwn3 := Lib.hid ho3
     refine hK.out _ _ (fun _ => HS.out _ hBz3.out) ?_
     clear hK K ho3 hg3 hb3
     try simp only[Act.put,sqA,sqB,sqC]
     refine AnyL.ready (rs := [19]) (by kernel_rfl) (by simp) ?_
     refine al1 rfl fun K hK => ?_
     go_simp
     refine hK.out _ _ (fun _ => HS.out _ hBz3.out) ?_
     clear hK K
     try simp only[Act.put,sqA,sqB,sqC]
     refine AnyL.ready (rs := [20]) (by kernel_rfl) (by simp) ?_
     refine al1 rfl fun K hK => ?_
     go_simp
     refine hK.out _ _ (fun _ => HS.out _ hBz3.out) ?_
     clear hK K
     try simp only[Act.put,sqA,sqB,sqC]
     refine AnyL.ready (rs := [21]) (by kernel_rfl) (by simp) ?_
     refine al1 rfl fun K hK => ?_
     obtain ⟨s0, -, -, -, s4, -⟩ := HS.out _ hBz3.out
     go_simp
     refine hK.out _ _ (fun h => absurd rfl h) ?_
     clear hK K s0 s4
     try simp only[Act.put,sqA,sqB,sqC]
     refine AnyL.done (by kernel_rfl) ?_ _
     go_wp2_with (fail)
     go_end0
     have hpf := (HR1.out.bel hBz3.out).put_files (hOwn3.out.low (Nat.le_trans hn (Nat.le_of_lt hz1)))
     rw [HI2.out]
     exact ⟨⟨_, rfl⟩, _, hpf, fun k hk => Nat.le_trans HB.out.size (hOwn3.out.lt k hk).1, ((Keep.of_bel (HB.out.trans hBz3.out) [b]).setCell (p := ⟨b, 0, none⟩) (Or.inl (by simp)) _)⟩
    ·go_simp
     refine hK.out _ _ (fun _ => HS.out _ (((Bel.refl w1).drew.alloc _).alloc _)) ?_
     clear hK K
     try simp only[Act.put,sqA,sqB,sqC]
     refine AnyL.ready (rs := [8]) (by kernel_rfl) (by simp) ?_
     refine al1 rfl fun K hK => ?_
     refine step_append_seg (n := w1.heap.size) (v := .slice (some ⟨w1.heap.size, 0, none⟩) 0 0) fileOk rfl (.tmp 19) (.tmp 25) rfl rfl ((ownG_none (heap_alloc_new w1.drew _) (Nat.le_refl _)).alloc _) (M.L.take 0) rfl (LOW.out _ ((((Bel.refl w1).drew.alloc _).alloc _))) (LT1.out) (LT2.out) (Bel.size ((((Bel.refl w1).drew.alloc _).alloc _))) ?_
     intro v1 z1 ho1 hg1 hb1
     have hBz1 := Lib.hid (Bel.trans_below' ((((Bel.refl w1).drew.alloc _).alloc _)) hb1)
     have hOwn1 := Lib.hid (show OwnG fileEl w1.heap.size z1 v1 (M.L.take 0) from ho1)
     have hLit := Lib.hid (show z1.heap[w1.heap.size + 1]? = some (.cells #[.string ⟨x.name.toArray⟩, .string ⟨x.bytes.toArray⟩, .int .i64 x.safe] 74) from at_grown hg1 (at_new (by simp)) (by simp [Value.ownBlock]))
     refine hK.out _ _ (fun _ => HS.out _ hBz1.out) ?_
     clear hK K ho1 hg1 hb1
     try simp only[Act.put,sqA,sqB,sqC]
     have hBz := Lib.hid hBz1.out
     refine AnyL.ready (rs := [11]) (by kernel_rfl) (by simp) ?_
     refine al1 rfl fun K hK => ?_
     refine step_append_seg (n := w1.heap.size) fileOk rfl (.tmp 26) (.tmp 28) rfl rfl hOwn1.out [x] rfl (lit_src hLit.out) (LT3.out) (LT4.out) (Bel.size hBz.out) ?_
     intro v2 z2 ho2 hg2 hb2
     have hBz2 := Lib.hid (Bel.trans_below' hBz.out hb2)
     have hOwn2 := Lib.hid ho2
     refine hK.out _ _ (fun _ => HS.out _ hBz2.out) ?_
     clear hK K ho2 hg2 hb2
     try simp only[Act.put,sqA,sqB,sqC]
     refine AnyL.ready (rs := [18]) (by kernel_rfl) (by simp) ?_
     refine al1 rfl fun K hK => ?_
     refine step_append_seg (n := w1.heap.size) fileOk rfl (.tmp 29) (.tmp 35) rfl rfl hOwn2.out (M.L.drop kk) rfl (HIGH.out _ hBz2.out) (LT5.out) (LT6.out) (Bel.size hBz2.out) ?_
     intro v3 z3 ho3 hg3 hb3
     have hBz3 := Lib.hid (Bel.trans_below' hBz2.out hb3)
     obtain ⟨p3, c3, hv3⟩ := ownG_len ho3
     generalize (M.L.take 0 ++ [x] ++ M.L.drop kk).length = l3 at hv3
     subst hv3
     have hOwn3 := Lib.hid ho3
     refine hK.out _ _ (fun _ => HS.out _ hBz3.out) ?_
     clear hK K ho3 hg3 hb3
     try simp only[Act.put,sqA,sqB,sqC]
     refine AnyL.ready (rs := [19]) (by kernel_rfl) (by simp) ?_
     refine al1 rfl fun K hK => ?_
     go_simp
     refine hK.out _ _ (fun _ => HS.out _ hBz3.out) ?_
     clear hK K
     try simp only[Act.put,sqA,sqB,sqC]
     refine AnyL.ready (rs := [20]) (by kernel_rfl) (by simp) ?_
     refine al1 rfl fun K hK => ?_
     go_simp
     refine hK.out _ _ (fun _ => HS.out _ hBz3.out) ?_
     clear hK K
     try simp only[Act.put,sqA,sqB,sqC]
     refine AnyL.ready (rs := [21]) (by kernel_rfl) (by simp) ?_
     refine al1 rfl fun K hK => ?_
     obtain ⟨s0, -, -, -, s4, -⟩ := HS.out _ hBz3.out
     go_simp
     refine hK.out _ _ (fun h => absurd rfl h) ?_
     clear hK K s0 s4
     try simp only[Act.put,sqA,sqB,sqC]
     refine AnyL.done (by kernel_rfl) ?_ _
     go_wp2_with (fail)
     go_end0
     have hpf := (HR1.out.bel hBz3.out).put_files (hOwn3.out.low (Nat.le_trans hn (Nat.le_of_lt hz1)))
     rw [HI2.out]
     exact ⟨⟨_, rfl⟩, _, hpf, fun k hk => Nat.le_trans HB.out.size (hOwn3.out.lt k hk).1, ((Keep.of_bel (HB.out.trans hBz3.out) [b]).setCell (p := ⟨b, 0, none⟩) (Or.inl (by simp)) _)⟩
   ·go_simp
    refine hK.out _ _ (fun _ => HS.out _ ((Bel.refl w1).drew.alloc _)) ?_
    clear hK K
    try simp only[Act.put,sqA,sqB,sqC]
    refine AnyL.ready (rs := [1]) (by kernel_rfl) (by simp) ?_
    refine al1 rfl fun K hK => ?_
    go_simp
    refine hK.out _ _ (fun _ => HS.out _ (((Bel.refl w1).drew.alloc _).alloc _)) ?_
    clear hK K
    try simp only[Act.put,sqA,sqB,sqC]
    refine AnyL.ready (rs := [8]) (by kernel_rfl) (by simp) ?_
    refine al1 rfl fun K hK => ?_
    refine step_append_seg (n := w1.heap.size) (v := .slice (some ⟨w1.heap.size + 1, 0, none⟩) 0 0) fileOk rfl (.tmp 19) (.tmp 25) rfl rfl (ownG_none (n := w1.heap.size) (at_new (by simp)) (by simp)) (M.L.take 0) rfl (LOW.out _ ((((Bel.refl w1).drew.alloc _).alloc _))) (LT1.out) (LT2.out) (Bel.size ((((Bel.refl w1).drew.alloc _).alloc _))) ?_
    intro v1 z1 ho1 hg1 hb1
    have hBz1 := Lib.hid (Bel.trans_below' ((((Bel.refl w1).drew.alloc _).alloc _)) hb1)
    have hOwn1 := Lib.hid (show OwnG fileEl w1.heap.size z1 v1 (M.L.take 0) from ho1)
    have hLit := Lib.hid (show z1.heap[w1.heap.size]? = some (.cells #[.string ⟨x.name.toArray⟩, .string ⟨x.bytes.toArray⟩, .int .i64 x.safe] 74) from at_grown hg1 (at_old (at_new (by simp))) (by simp [Value.ownBlock]))
    refine hK.out _ _ (fun _ => HS.out _ hBz1.out) ?_
    clear hK K ho1 hg1 hb1
    try simp only[Act.put,sqA,sqB,sqC]
    have hBz := Lib.hid hBz1.out
    refine AnyL.ready (rs := [11]) (by kernel_rfl) (by simp) ?_
    refine al1 rfl fun K hK => ?_
    refine step_append_seg (n := w1.heap.size) fileOk rfl (.tmp 26) (.tmp 28) rfl rfl hOwn1.out [x] rfl (lit_src hLit.out) (LT3.out) (LT4.out) (Bel.size hBz.out) ?_
    intro v2 z2 ho2 hg2 hb2
    have hBz2 := Lib.hid (Bel.trans_below' hBz.out hb2)
    have hOwn2 := Lib.hid ho2
    refine hK.out _ _ (fun _ => HS.out _ hBz2.out) ?_
    clear hK K ho2 hg2 hb2
    try simp only[Act.put,sqA,sqB,sqC]
    refine AnyL.ready (rs := [18]) (by kernel_rfl) (by simp) ?_
    refine al1 rfl fun K hK => ?_
    refine step_append_seg (n := w1.heap.size) fileOk rfl (.tmp 29) (.tmp 35) rfl rfl hOwn2.out (M.L.drop kk) rfl (HIGH.out _ hBz2.out) (LT5.out) (LT6.out) (Bel.size hBz2.out) ?_
    intro v3 z3 ho3 hg3 hb3
    have hBz3 := Lib.hid (Bel.trans_below' hBz2.out hb3)
    obtain ⟨p3, c3, hv3⟩ := ownG_len ho3
    generalize (M.L.take 0 ++ [x] ++ M.L.drop kk).length = l3 at hv3
    subst hv3
    have hOwn3 := Lib.hid ho3
    refine hK.out _ _ (fun _ => HS.out _ hBz3.out) ?_
    clear hK K ho3 hg3 hb3
    try simp only[Act.put,sqA,sqB,sqC]
    refine AnyL.ready (rs := [19]) (by kernel_rfl) (by simp) ?_
    refine al1 rfl fun K hK => ?_
    go_simp
    refine hK.out _ _ (fun _ => HS.out _ hBz3.out) ?_
    clear hK K
    try simp only[Act.put,sqA,sqB,sqC]
    refine AnyL.ready (rs := [20]) (by kernel_rfl) (by simp) ?_
    refine al1 rfl fun K hK => ?_
    go_simp
    refine hK.out _ _ (fun _ => HS.out _ hBz3.out) ?_
    clear hK K
    try simp only[Act.put,sqA,sqB,sqC]
    refine AnyL.ready (rs := [21]) (by kernel_rfl) (by simp) ?_
    refine al1 rfl fun K hK => ?_
    obtain ⟨s0, -, -, -, s4, -⟩ := HS.out _ hBz3.out
    go_simp
    refine hK.out _ _ (fun h => absurd rfl h) ?_
    clear hK K s0 s4
    try simp only[Act.put,sqA,sqB,sqC]
    refine AnyL.done (by kernel_rfl) ?_ _
    go_wp2_with (fail)
    go_end0
    have hpf := (HR1.out.bel hBz3.out).put_files (hOwn3.out.low (Nat.le_trans hn (Nat.le_of_lt hz1)))
    rw [HI2.out]
    exact ⟨⟨_, rfl⟩, _, hpf, fun k hk => Nat.le_trans HB.out.size (hOwn3.out.lt k hk).1, ((Keep.of_bel (HB.out.trans hBz3.out) [b]).setCell (p := ⟨b, 0, none⟩) (Or.inl (by simp)) _)⟩

  rw [← HN.out] at HR1 c0 hc
  clear hh
  unfold maxLen at hx
  have hfc : fn ≤ cap := by omega
  have LOW := Lib.hid (fun y (hy : Bel w1 y) => src_low (y := y) (L := M.L) HR1.out.own hy fn (by rw [← HN.out]; omega))
  have HI2 := Lib.hid (show insS x M.L = M.L.take fn ++ [x] ++ M.L.drop kk by rw [HI.out, hkk]; simp)
  have LTK := Lib.hid (show (M.L.take fn).length ≤ 100 by rw [List.length_take]; have := HN.out; omega)
  have LDK := Lib.hid (show (M.L.drop kk).length ≤ 100 by rw [List.length_drop]; have := HN.out; omega)
  have LT1 := Lib.hid (show ([] : List FI).length + (M.L.take fn).length ≤ maxLen by have := LTK.out; unfold maxLen; simp only [List.length_nil]; omega)
  have LT2 := Lib.hid (show (([] : List FI).length + (M.L.take fn).length) * 40 ≤ 140737488355328 by have := LTK.out; simp only [List.length_nil]; omega)
  have LT3 := Lib.hid (show (M.L.take fn).length + [x].length ≤ maxLen by have := LTK.out; unfold maxLen; simp only [List.length_singleton]; omega)
  have LT4 := Lib.hid (show ((M.L.take fn).length + [x].length) * 40 ≤ 140737488355328 by have := LTK.out; simp only [List.length_singleton]; omega)
  have LT5 := Lib.hid (show (M.L.take fn ++ [x]).length + (M.L.drop kk).length ≤ maxLen by have := LTK.out; have := LDK.out; unfold maxLen; simp only [List.length_append, List.length_singleton]; omega)
  have LT6 := Lib.hid (show ((M.L.take fn ++ [x]).length + (M.L.drop kk).length) * 40 ≤ 140737488355328 by have := LTK.out; have := LDK.out; simp only [List.length_append, List.length_singleton]; omega)
  by_cases hcf : cap = fn
  ·obtain rfl : fn = n := by omega
   obtain rfl : fn = cap := hcf.symm
   have HIGH := Lib.hid (fun y (hy : Bel w1 y) => (show SrcAt fileEl y (.slice (some ⟨g, 0, none⟩) 0 0) (M.L.drop kk) from src_end kk (by rw [hkk, ← HN.out]; exact Nat.le_refl _)))
   clear hkk
   have HS := Lib.hid (show ∀ y, Bel w1 y → (y.cell? ⟨b, 0, none⟩ = some (.slice (some ⟨g, 0, none⟩) fn fn) ∧ y.cell? ⟨bx, 0, none⟩ = some (.string ⟨x.name.toArray⟩) ∧ y.cell? ⟨bx, 1, none⟩ = some (.string ⟨x.bytes.toArray⟩) ∧ y.cell? ⟨bx, 2, none⟩ = some (.int .i64 x.safe) ∧ y.frozen? ⟨b, 0, none⟩ = false ∧ Bel w1 y) from fun y hy => ⟨cell_later hy c0, cell_later hy x0, cell_later hy x1, cell_later hy x2, (hy.frozen _ _ hbl).trans f0, hy⟩)
   go_wp2_with (fail)
   refine region_L 21 (S := fun y => y.cell? ⟨b, 0, none⟩ = some (.slice (some ⟨g, 0, none⟩) fn fn) ∧ y.cell? ⟨bx, 0, none⟩ = some (.string ⟨x.name.toArray⟩) ∧ y.cell? ⟨bx, 1, none⟩ = some (.string ⟨x.bytes.toArray⟩) ∧ y.cell? ⟨bx, 2, none⟩ = some (.int .i64 x.safe) ∧ y.frozen? ⟨b, 0, none⟩ = false ∧ Bel w1 y) (by kernel_rfl) (HS.out _ (Bel.refl w1).drew) (fun hHeld => ?_)
   refine AnyL.tk (v := ?_) 0 rfl ?_ ?_;rotate_left;·(intros;go_simp<;>with_reducible rfl)
   try simp only[Act.put,sqA,sqB,sqC]
   refine AnyL.tk (v := ?_) 2 rfl ?_ ?_;rotate_left;·(intros;go_simp<;>with_reducible rfl)
   try simp only[Act.put,sqA,sqB,sqC]
   refine AnyL.tk (v := ?_) 3 rfl ?_ ?_;rotate_left;·(intros;go_simp<;>with_reducible rfl)
   try simp only[Act.put,sqA,sqB,sqC]
   refine AnyL.tk (v := ?_) 4 rfl ?_ ?_;rotate_left;·(intros;go_simp<;>with_reducible rfl)
   try simp only[Act.put,sqA,sqB,sqC]
   refine AnyL.tk (v := ?_) 5 rfl ?_ ?_;rotate_left;·(intros;go_simp<;>with_reducible rfl)
   try simp only[Act.put,sqA,sqB,sqC]
   refine AnyL.tk (v := ?_) 6 rfl ?_ ?_;rotate_left;·(intros;go_simp<;>with_reducible rfl)
   try simp only[Act.put,sqA,sqB,sqC]
   refine AnyL.tk (v := ?_) 7 rfl ?_ ?_;rotate_left;·(intros;go_simp<;>with_reducible rfl)
   try simp only[Act.put,sqA,sqB,sqC]
   refine AnyL.tk (v := ?_) 9 rfl ?_ ?_;rotate_left;·(intros;go_simp<;>with_reducible rfl)
   try simp only[Act.put,sqA,sqB,sqC]
   refine AnyL.tk (v := ?_) 12 rfl ?_ ?_;rotate_left;·(intros;go_simp<;>with_reducible rfl)
   try simp only[Act.put,sqA,sqB,sqC]
   refine AnyL.tk (v := ?_) 13 rfl ?_ ?_;rotate_left;·(intros;go_simp<;>with_reducible rfl)
   try simp only[Act.put,sqA,sqB,sqC]
   refine AnyL.tk (v := ?_) 14 rfl ?_ ?_;rotate_left;·(intros;go_simp<;>with_reducible rfl)
   try simp only[Act.put,sqA,sqB,sqC]
   refine AnyL.tk (v := ?_) 15 rfl ?_ ?_;rotate_left;·(intros;go_simp<;>with_reducible rfl)
   try simp only[Act.put,sqA,sqB,sqC]
   refine AnyL.tk (v := ?_) 16 rfl ?_ ?_;rotate_left;·(intros;go_simp<;>with_reducible rfl)
   try simp only[Act.put,sqA,sqB,sqC]
   refine AnyL.tk (v := ?_) 17 rfl ?_ ?_;rotate_left;·(intros;go_simp<;>with_reducible rfl)
   try simp only[Act.put,sqA,sqB,sqC]
   clear hHeld
   refine AnyL.ready (rs := [1, 10]) (by kernel_rfl) (by simp) ?_
   refine (AllL.cons rfl (fun K hK => ?_) (AllL.cons rfl (fun K hK => ?_) AllL.nil))
   ·go_simp
    refine hK.out _ _ (fun _ => HS.out _ ((Bel.refl w1).drew.alloc _)) ?_
    clear hK K
    try simp only[Act.put,sqA,sqB,sqC]
    refine AnyL.ready (rs := [8, 10]) (by kernel_rfl) (by simp) ?_
    refine (AllL.cons rfl (fun K hK => ?_) (AllL.cons rfl (fun K hK => ?_) AllL.nil))
    ·refine step_append_seg (n := w1.heap.size) (v := .slice (some ⟨w1.heap.size, 0, none⟩) 0 0) fileOk rfl (.tmp 19) (.tmp 25) rfl rfl (ownG_none (heap_alloc_new w1.drew _) (Nat.le_refl _)) (M.L.take fn) rfl (LOW.out _ (((Bel.refl w1).drew.alloc _))) (LT1.out) (LT2.out) (Bel.size (((Bel.refl w1).drew.alloc _))) ?_
     intro v1 z1 ho1 hg1 hb1
     have hBz1 := Lib.hid (Bel.trans_below' (((Bel.refl w1).drew.alloc _)) hb1)
     have hOwn1 := Lib.hid (show OwnG fileEl w1.heap.size z1 v1 (M.L.take fn) from ho1)
     refine hK.out _ _ (fun _ => HS.out _ hBz1.out) ?_
     clear hK K ho1 hg1 hb1
     try simp only[Act.put,sqA,sqB,sqC]
     refine AnyL.ready (rs := [10]) (by kernel_rfl) (by simp) ?_
     refine al1 rfl fun K hK => ?_
     go_simp
     refine hK.out _ _ (fun _ => HS.out _ (hBz1.out.alloc _)) ?_
     clear hK K
     try simp only[Act.put,sqA,sqB,sqC]
     have hBz := Lib.hid (hBz1.out.alloc (.cells #[.string ⟨x.name.toArray⟩, .string ⟨x.bytes.toArray⟩, .int .i64 x.safe] 74))
     have hLit := Lib.hid (heap_alloc_new z1 (.cells #[.string ⟨x.name.toArray⟩, .string ⟨x.bytes.toArray⟩, .int .i64 x.safe] 74))
     replace hOwn1 := Lib.hid (hOwn1.out.alloc (.cells #[.string ⟨x.name.toArray⟩, .string ⟨x.bytes.toArray⟩, .int .i64 x.safe] 74))
     refine AnyL.ready (rs := [11]) (by kernel_rfl) (by simp) ?_
     refine al1 rfl fun K hK => ?_
     refine step_append_seg (n := w1.heap.size) fileOk rfl (.tmp 26) (.tmp 28) rfl rfl hOwn1.out [x] rfl (lit_src hLit.out) (LT3.out) (LT4.out) (Bel.size hBz.out) ?_
     intro v2 z2 ho2 hg2 hb2
     have hBz2 := Lib.hid (Bel.trans_below' hBz.out hb2)
     have hOwn2 := Lib.hid ho2
     refine hK.out _ _ (fun _ => HS.out _ hBz2.out) ?_
     clear hK K ho2 hg2 hb2
     try simp only[Act.put,sqA,sqB,sqC]
     refine AnyL.ready (rs := [18]) (by kernel_rfl) (by simp) ?_
     refine al1 rfl fun K hK => ?_
     refine step_append_seg (n := w1.heap.size) fileOk rfl (.tmp 29) (.tmp 35) rfl rfl hOwn2.out (M.L.drop kk) rfl (HIGH.out _ hBz2.out) (LT5.out) (LT6.out) (Bel.size hBz2.out) ?_
     intro v3 z3 ho3 hg3 hb3
     have hBz3 := Lib.hid (Bel.trans_below' hBz2.out hb3)
     obtain ⟨p3, c3, hv3⟩ := ownG_len ho3
     generalize (M.L.take fn ++ [x] ++ M.L.drop kk).length = l3 at hv3
     subst hv3
     have hOwn3 := Lib.hid ho3
     refine hK.out _ _ (fun _ => HS.out _ hBz3.out) ?_
     clear hK K ho3 hg3 hb3
     try simp only[Act.put,sqA,sqB,sqC]
     refine AnyL.ready (rs := [19]) (by kernel_rfl) (by simp) ?_
     refine al1 rfl fun K hK => ?_
     go_simp
     refine hK.out _ _ (fun _ => HS.out _ hBz3.out) ?_
     clear hK K
     try simp only[Act.put,sqA,sqB,sqC]
     refine AnyL.ready (rs := [20]) (by kernel_rfl) (by simp) ?_
     refine al1 rfl fun K hK => ?_
     go_simp
     refine hK.out _ _ (fun _ => HS.out _ hBz3.out) ?_
     clear hK K
     try simp only[Act.put,sqA,sqB,sqC]
     refine AnyL.ready (rs := [21]) (by kernel_rfl) (by simp) ?_
     refine al1 rfl fun K hK => ?_
     obtain ⟨s0, -, -, -, s4, -⟩ := HS.out _ hBz3.out
     go_simp
     refine hK.out _ _ (fun h => absurd rfl h) ?_
     clear hK K s0 s4
     try simp only[Act.put,sqA,sqB,sqC]
     refine AnyL.done (by kernel_rfl) ?_ _
     go_wp2_with (fail)
     go_end0
     have hpf := (HR1.out.bel hBz3.out).put_files (hOwn3.out.low (Nat.le_trans hn (Nat.le_of_lt hz1)))
     rw [HI2.out]
     exact ⟨⟨_, rfl⟩, _, hpf, fun k hk => Nat.le_trans HB.out.size (hOwn3.out.lt k hk).1, ((Keep.of_bel (HB.out.trans hBz3.out) [b]).setCell (p := ⟨b, 0, none⟩) (Or.inl (by simp)) _)⟩
    ·go_simp
     refine hK.out _ _ (fun _ => HS.out _ (((Bel.refl w1).drew.alloc _).alloc _)) ?_
     clear hK K
     try simp only[Act.put,sqA,sqB,sqC]
     refine AnyL.ready (rs := [8]) (by kernel_rfl) (by simp) ?_
     refine al1 rfl fun K hK => ?_
     refine step_append_seg (n := w1.heap.size) (v := .slice (some ⟨w1.heap.size, 0, none⟩) 0 0) fileOk rfl (.tmp 19) (.tmp 25) rfl rfl ((ownG_none (heap_alloc_new w1.drew _) (Nat.le_refl _)).alloc _) (M.L.take fn) rfl (LOW.out _ ((((Bel.refl w1).drew.alloc _).alloc _))) (LT1.out) (LT2.out) (Bel.size ((((Bel.refl w1).drew.alloc _).alloc _))) ?_
     intro v1 z1 ho1 hg1 hb1
     have hBz1 := Lib.hid (Bel.trans_below' ((((Bel.refl w1).drew.alloc _).alloc _)) hb1)
     have hOwn1 := Lib.hid (show OwnG fileEl w1.heap.size z1 v1 (M.L.take fn) from ho1)
     have hLit := Lib.hid (show z1.heap[w1.heap.size + 1]? = some (.cells #[.string ⟨x.name.toArray⟩, .string ⟨x.bytes.toArray⟩, .int .i64 x.safe] 74) from at_grown hg1 (at_new (by simp)) (by simp [Value.ownBlock]))
     refine hK.out _ _ (fun _ => HS.out _ hBz1.out) ?_
     clear hK K ho1 hg1 hb1
     try simp only[Act.put,sqA,sqB,sqC]
     have hBz := Lib.hid hBz1.out
     refine AnyL.ready (rs := [11]) (by kernel_rfl) (by simp) ?_
     refine al1 rfl fun K hK => ?_
     refine step_append_seg (n := w1.heap.size) fileOk rfl (.tmp 26) (.tmp 28) rfl rfl hOwn1.out [x] rfl (lit_src hLit.out) (LT3.out) (LT4.out) (Bel.size hBz.out) ?_
     intro v2 z2 ho2 hg2 hb2
     have hBz2 := Lib.hid (Bel.trans_below' hBz.out hb2)
     have hOwn2 := Lib.hid ho2
     refine hK.out _ _ (fun _ => HS.out _ hBz2.out) ?_
     clear hK K ho2 hg2 hb2
     try simp only[Act.put,sqA,sqB,sqC]
     refine AnyL.ready (rs := [18]) (by kernel_rfl) (by simp) ?_
     refine al1 rfl fun K hK => ?_
     refine step_append_seg (n := w1.heap.size) fileOk rfl (.tmp 29) (.tmp 35) rfl rfl hOwn2.out (M.L.drop kk) rfl (HIGH.out _ hBz2.out) (LT5.out) (LT6.out) (Bel.size hBz2.out) ?_
     intro v3 z3 ho3 hg3 hb3
     have hBz3 := Lib.hid (Bel.trans_below' hBz2.out hb3)
     obtain ⟨p3, c3, hv3⟩ := ownG_len ho3
     generalize (M.L.take fn ++ [x] ++ M.L.drop kk).length = l3 at hv3
     subst hv3
     have hOwn3 := Lib.hid ho3
     refine hK.out _ _ (fun _ => HS.out _ hBz3.out) ?_
     clear hK K ho3 hg3 hb3
     try simp only[Act.put,sqA,sqB,sqC]
     refine AnyL.ready (rs := [19]) (by kernel_rfl) (by simp) ?_
     refine al1 rfl fun K hK => ?_
     go_simp
     refine hK.out _ _ (fun _ => HS.out _ hBz3.out) ?_
     clear hK K
     try simp only[Act.put,sqA,sqB,sqC]
     refine AnyL.ready (rs := [20]) (by kernel_rfl) (by simp) ?_
     refine al1 rfl fun K hK => ?_
     go_simp
     refine hK.out _ _ (fun _ => HS.out _ hBz3.out) ?_
     clear hK K
     try simp only[Act.put,sqA,sqB,sqC]
     refine AnyL.ready (rs := [21]) (by kernel_rfl) (by simp) ?_
     refine al1 rfl fun K hK => ?_
     obtain ⟨s0, -, -, -, s4, -⟩ := HS.out _ hBz3.out
     go_simp
     refine hK.out _ _ (fun h => absurd rfl h) ?_
     clear hK K s0 s4
     try simp only[Act.put,sqA,sqB,sqC]
     refine AnyL.done (by kernel_rfl) ?_ _
     go_wp2_with (fail)
     go_end0
     have hpf := (HR1.out.bel hBz3.out).put_files (hOwn3.out.low (Nat.le_trans hn (Nat.le_of_lt hz1)))
     rw [HI2.out]
     exact ⟨⟨_, rfl⟩, _, hpf, fun k hk => Nat.le_trans HB.out.size (hOwn3.out.lt k hk).1, ((Keep.of_bel (HB.out.trans hBz3.out) [b]).setCell (p := ⟨b, 0, none⟩) (Or.inl (by simp)) _)⟩
   ·go_simp
    refine hK.out _ _ (fun _ => HS.out _ ((Bel.refl w1).drew.alloc _)) ?_
    clear hK K
    try simp only[Act.put,sqA,sqB,sqC]
    refine AnyL.ready (rs := [1]) (by kernel_rfl) (by simp) ?_
    refine al1 rfl fun K hK => ?_
    go_simp
    refine hK.out _ _ (fun _ => HS.out _ (((Bel.refl w1).drew.alloc _).alloc _)) ?_
    clear hK K
    try simp only[Act.put,sqA,sqB,sqC]
    refine AnyL.ready (rs := [8]) (by kernel_rfl) (by simp) ?_
    refine al1 rfl fun K hK => ?_
    refine step_append_seg (n := w1.heap.size) (v := .slice (some ⟨w1.heap.size + 1, 0, none⟩) 0 0) fileOk rfl (.tmp 19) (.tmp 25) rfl rfl (ownG_none (n := w1.heap.size) (at_new (by simp)) (by simp)) (M.L.take fn) rfl (LOW.out _ ((((Bel.refl w1).drew.alloc _).alloc _))) (LT1.out) (LT2.out) (Bel.size ((((Bel.refl w1).drew.alloc _).alloc _))) ?_
    intro v1 z1 ho1 hg1 hb1
    have hBz1 := Lib.hid (Bel.trans_below' ((((Bel.refl w1).drew.alloc _).alloc _)) hb1)
    have hOwn1 := Lib.hid (show OwnG fileEl w1.heap.size z1 v1 (M.L.take fn) from ho1)
    have hLit := Lib.hid (show z1.heap[w1.heap.size]? = some (.cells #[.string ⟨x.name.toArray⟩, .string ⟨x.bytes.toArray⟩, .int .i64 x.safe] 74) from at_grown hg1 (at_old (at_new (by simp))) (by simp [Value.ownBlock]))
    refine hK.out _ _ (fun _ => HS.out _ hBz1.out) ?_
    clear hK K ho1 hg1 hb1
    try simp only[Act.put,sqA,sqB,sqC]
    have hBz := Lib.hid hBz1.out
    refine AnyL.ready (rs := [11]) (by kernel_rfl) (by simp) ?_
    refine al1 rfl fun K hK => ?_
    refine step_append_seg (n := w1.heap.size) fileOk rfl (.tmp 26) (.tmp 28) rfl rfl hOwn1.out [x] rfl (lit_src hLit.out) (LT3.out) (LT4.out) (Bel.size hBz.out) ?_
    intro v2 z2 ho2 hg2 hb2
    have hBz2 := Lib.hid (Bel.trans_below' hBz.out hb2)
    have hOwn2 := Lib.hid ho2
    refine hK.out _ _ (fun _ => HS.out _ hBz2.out) ?_
    clear hK K ho2 hg2 hb2
    try simp only[Act.put,sqA,sqB,sqC]
    refine AnyL.ready (rs := [18]) (by kernel_rfl) (by simp) ?_
    refine al1 rfl fun K hK => ?_
    refine step_append_seg (n := w1.heap.size) fileOk rfl (.tmp 29) (.tmp 35) rfl rfl hOwn2.out (M.L.drop kk) rfl (HIGH.out _ hBz2.out) (LT5.out) (LT6.out) (Bel.size hBz2.out) ?_
    intro v3 z3 ho3 hg3 hb3
    have hBz3 := Lib.hid (Bel.trans_below' hBz2.out hb3)
    obtain ⟨p3, c3, hv3⟩ := ownG_len ho3
    generalize (M.L.take fn ++ [x] ++ M.L.drop kk).length = l3 at hv3
    subst hv3
    have hOwn3 := Lib.hid ho3
    refine hK.out _ _ (fun _ => HS.out _ hBz3.out) ?_
    clear hK K ho3 hg3 hb3
    try simp only[Act.put,sqA,sqB,sqC]
    refine AnyL.ready (rs := [19]) (by kernel_rfl) (by simp) ?_
    refine al1 rfl fun K hK => ?_
    go_simp
    refine hK.out _ _ (fun _ => HS.out _ hBz3.out) ?_
    clear hK K
    try simp only[Act.put,sqA,sqB,sqC]
    refine AnyL.ready (rs := [20]) (by kernel_rfl) (by simp) ?_
    refine al1 rfl fun K hK => ?_
    go_simp
    refine hK.out _ _ (fun _ => HS.out _ hBz3.out) ?_
    clear hK K
    try simp only[Act.put,sqA,sqB,sqC]
    refine AnyL.ready (rs := [21]) (by kernel_rfl) (by simp) ?_
    refine al1 rfl fun K hK => ?_
    obtain ⟨s0, -, -, -, s4, -⟩ := HS.out _ hBz3.out
    go_simp
    refine hK.out _ _ (fun h => absurd rfl h) ?_
    clear hK K s0 s4
    try simp only[Act.put,sqA,sqB,sqC]
    refine AnyL.done (by kernel_rfl) ?_ _
    go_wp2_with (fail)
    go_end0
    have hpf := (HR1.out.bel hBz3.out).put_files (hOwn3.out.low (Nat.le_trans hn (Nat.le_of_lt hz1)))
    rw [HI2.out]
    exact ⟨⟨_, rfl⟩, _, hpf, fun k hk => Nat.le_trans HB.out.size (hOwn3.out.lt k hk).1, ((Keep.of_bel (HB.out.trans hBz3.out) [b]).setCell (p := ⟨b, 0, none⟩) (Or.inl (by simp)) _)⟩

  ·have HIGH := Lib.hid (fun y (hy : Bel w1 y) => (show SrcAt fileEl y (.slice (some ⟨g, fn * 3, none⟩) (n - fn) (cap - fn)) (M.L.drop kk) by rw [hkk, HN.out]; exact src_high (L := M.L) HR1.out.own hy fn _ (by rw [← HN.out]; omega)))
   clear hkk
   have HS := Lib.hid (show ∀ y, Bel w1 y → (y.cell? ⟨b, 0, none⟩ = some (.slice (some ⟨g, 0, none⟩) n cap) ∧ y.cell? ⟨bx, 0, none⟩ = some (.string ⟨x.name.toArray⟩) ∧ y.cell? ⟨bx, 1, none⟩ = some (.string ⟨x.bytes.toArray⟩) ∧ y.cell? ⟨bx, 2, none⟩ = some (.int .i64 x.safe) ∧ y.frozen? ⟨b, 0, none⟩ = false ∧ Bel w1 y) from fun y hy => ⟨cell_later hy c0, cell_later hy x0, cell_later hy x1, cell_later hy x2, (hy.frozen _ _ hbl).trans f0, hy⟩)
   go_wp2_with (fail)
   refine region_L 21 (S := fun y => y.cell? ⟨b, 0, none⟩ = some (.slice (some ⟨g, 0, none⟩) n cap) ∧ y.cell? ⟨bx, 0, none⟩ = some (.string ⟨x.name.toArray⟩) ∧ y.cell? ⟨bx, 1, none⟩ = some (.string ⟨x.bytes.toArray⟩) ∧ y.cell? ⟨bx, 2, none⟩ = some (.int .i64 x.safe) ∧ y.frozen? ⟨b, 0, none⟩ = false ∧ Bel w1 y) (by kernel_rfl) (HS.out _ (Bel.refl w1).drew) (fun hHeld => ?_)
   refine AnyL.tk (v := ?_) 0 rfl ?_ ?_;rotate_left;·(intros;go_simp<;>with_reducible rfl)
   try simp only[Act.put,sqA,sqB,sqC]
   refine AnyL.tk (v := ?_) 2 rfl ?_ ?_;rotate_left;·(intros;go_simp<;>with_reducible rfl)
   try simp only[Act.put,sqA,sqB,sqC]
   refine AnyL.tk (v := ?_) 3 rfl ?_ ?_;rotate_left;·(intros;go_simp<;>with_reducible rfl)
   try simp only[Act.put,sqA,sqB,sqC]
   refine AnyL.tk (v := ?_) 4 rfl ?_ ?_;rotate_left;·(intros;go_simp<;>with_reducible rfl)
   try simp only[Act.put,sqA,sqB,sqC]
   refine AnyL.tk (v := ?_) 5 rfl ?_ ?_;rotate_left;·(intros;go_simp<;>with_reducible rfl)
   try simp only[Act.put,sqA,sqB,sqC]
   refine AnyL.tk (v := ?_) 6 rfl ?_ ?_;rotate_left;·(intros;go_simp<;>with_reducible rfl)
   try simp only[Act.put,sqA,sqB,sqC]
   refine AnyL.tk (v := ?_) 7 rfl ?_ ?_;rotate_left;·(intros;go_simp<;>with_reducible rfl)
   try simp only[Act.put,sqA,sqB,sqC]
   refine AnyL.tk (v := ?_) 9 rfl ?_ ?_;rotate_left;·(intros;go_simp<;>with_reducible rfl)
   try simp only[Act.put,sqA,sqB,sqC]
   refine AnyL.tk (v := ?_) 12 rfl ?_ ?_;rotate_left;·(intros;go_simp<;>with_reducible rfl)
   try simp only[Act.put,sqA,sqB,sqC]
   refine AnyL.tk (v := ?_) 13 rfl ?_ ?_;rotate_left;·(intros;go_simp<;>with_reducible rfl)
   try simp only[Act.put,sqA,sqB,sqC]
   refine AnyL.tk (v := ?_) 14 rfl ?_ ?_;rotate_left;·(intros;go_simp<;>with_reducible rfl)
   try simp only[Act.put,sqA,sqB,sqC]
   refine AnyL.tk (v := ?_) 15 rfl ?_ ?_;rotate_left;·(intros;go_simp<;>with_reducible rfl)
   try simp only[Act.put,sqA,sqB,sqC]
   refine AnyL.tk (v := ?_) 16 rfl ?_ ?_;rotate_left;·(intros;go_simp<;>with_reducible rfl)
   try simp only[Act.put,sqA,sqB,sqC]
   refine AnyL.tk (v := ?_) 17 rfl ?_ ?_;rotate_left;·(intros;go_simp<;>with_reducible rfl)
   try simp only[Act.put,sqA,sqB,sqC]
   clear hHeld
   refine AnyL.ready (rs := [1, 10]) (by kernel_rfl) (by simp) ?_
   refine (AllL.cons rfl (fun K hK => ?_) (AllL.cons rfl (fun K hK => ?_) AllL.nil))
   ·go_simp
    refine hK.out _ _ (fun _ => HS.out _ ((Bel.refl w1).drew.alloc _)) ?_
    clear hK K
    try simp only[Act.put,sqA,sqB,sqC]
    refine AnyL.ready (rs := [8, 10]) (by kernel_rfl) (by simp) ?_
    refine (AllL.cons rfl (fun K hK => ?_) (AllL.cons rfl (fun K hK => ?_) AllL.nil))
    ·refine step_append_seg (n := w1.heap.size) (v := .slice (some ⟨w1.heap.size, 0, none⟩) 0 0) fileOk rfl (.tmp 19) (.tmp 25) rfl rfl (ownG_none (heap_alloc_new w1.drew _) (Nat.le_refl _)) (M.L.take fn) rfl (LOW.out _ (((Bel.refl w1).drew.alloc _))) (LT1.out) (LT2.out) (Bel.size (((Bel.refl w1).drew.alloc _))) ?_
     intro v1 z1 ho1 hg1 hb1
     have hBz1 := Lib.hid (Bel.trans_below' (((Bel.refl w1).drew.alloc _)) hb1)
     have hOwn1 := Lib.hid (show OwnG fileEl w1.heap.size z1 v1 (M.L.take fn) from ho1)
     refine hK.out _ _ (fun _ => HS.out _ hBz1.out) ?_
     clear hK K ho1 hg1 hb1
     try simp only[Act.put,sqA,sqB,sqC]
     refine AnyL.ready (rs := [10]) (by kernel_rfl) (by simp) ?_
     refine al1 rfl fun K hK => ?_
     go_simp
     refine hK.out _ _ (fun _ => HS.out _ (hBz1.out.alloc _)) ?_
     clear hK K
     try simp only[Act.put,sqA,sqB,sqC]
     have hBz := Lib.hid (hBz1.out.alloc (.cells #[.string ⟨x.name.toArray⟩, .string ⟨x.bytes.toArray⟩, .int .i64 x.safe] 74))
     have hLit := Lib.hid (heap_alloc_new z1 (.cells #[.string ⟨x.name.toArray⟩, .string ⟨x.bytes.toArray⟩, .int .i64 x.safe] 74))
     replace hOwn1 := Lib.hid (hOwn1.out.alloc (.cells #[.string ⟨x.name.toArray⟩, .string ⟨x.bytes.toArray⟩, .int .i64 x.safe] 74))
     refine AnyL.ready (rs := [11]) (by kernel_rfl) (by simp) ?_
     refine al1 rfl fun K hK => ?_
     refine step_append_seg (n := w1.heap.size) fileOk rfl (.tmp 26) (.tmp 28) rfl rfl hOwn1.out [x] rfl (lit_src hLit.out) (LT3.out) (LT4.out) (Bel.size hBz.out) ?_
     intro v2 z2 ho2 hg2 hb2
     have hBz2 := Lib.hid (Bel.trans_below' hBz.out hb2)
     have hOwn2 := Lib.hid ho2
     refine hK.out _ _ (fun _ => HS.out _ hBz2.out) ?_
     clear hK K ho2 hg2 hb2
     try simp only[Act.put,sqA,sqB,sqC]
     refine AnyL.ready (rs := [18]) (by kernel_rfl) (by simp) ?_
     refine al1 rfl fun K hK => ?_
     refine step_append_seg (n := w1.heap.size) fileOk rfl (.tmp 29) (.tmp 35) rfl rfl hOwn2.out (M.L.drop kk) rfl (HIGH.out _ hBz2.out) (LT5.out) (LT6.out) (Bel.size hBz2.out) ?_
     intro v3 z3 ho3 hg3 hb3
     have hBz3 := Lib.hid (Bel.trans_below' hBz2.out hb3)
     obtain ⟨p3, c3, hv3⟩ := ownG_len ho3
     generalize (M.L.take fn ++ [x] ++ M.L.drop kk).length = l3 at hv3
     subst hv3
     have hOwn3 := Lib.hid ho3
     refine hK.out _ _ (fun _ => HS.out _ hBz3.out) ?_
     clear hK K ho3 hg3 hb3
     try simp only[Act.put,sqA,sqB,sqC]
     refine AnyL.ready (rs := [19]) (by kernel_rfl) (by simp) ?_
     refine al1 rfl fun K hK => ?_
     go_simp
     refine hK.out _ _ (fun _ => HS.out _ hBz3.out) ?_
     clear hK K
     try simp only[Act.put,sqA,sqB,sqC]
     refine AnyL.ready (rs := [20]) (by kernel_rfl) (by simp) ?_
     refine al1 rfl fun K hK => ?_
     go_simp
     refine hK.out _ _ (fun _ => HS.out _ hBz3.out) ?_
     clear hK K
     try simp only[Act.put,sqA,sqB,sqC]
     refine AnyL.ready (rs := [21]) (by kernel_rfl) (by simp) ?_
     refine al1 rfl fun K hK => ?_
     obtain ⟨s0, -, -, -, s4, -⟩ := HS.out _ hBz3.out
     go_simp
     refine hK.out _ _ (fun h => absurd rfl h) ?_
     clear hK K s0 s4
     try simp only[Act.put,sqA,sqB,sqC]
     refine AnyL.done (by kernel_rfl) ?_ _
     go_wp2_with (fail)
     go_end0
     have hpf := (HR1.out.bel hBz3.out).put_files (hOwn3.out.low (Nat.le_trans hn (Nat.le_of_lt hz1)))
     rw [HI2.out]
     exact ⟨⟨_, rfl⟩, _, hpf, fun k hk => Nat.le_trans HB.out.size (hOwn3.out.lt k hk).1, ((Keep.of_bel (HB.out.trans hBz3.out) [b]).setCell (p := ⟨b, 0, none⟩) (Or.inl (by simp)) _)⟩
    ·go_simp
     refine hK.out _ _ (fun _ => HS.out _ (((Bel.refl w1).drew.alloc _).alloc _)) ?_
     clear hK K
     try simp only[Act.put,sqA,sqB,sqC]
     refine AnyL.ready (rs := [8]) (by kernel_rfl) (by simp) ?_
     refine al1 rfl fun K hK => ?_
     refine step_append_seg (n := w1.heap.size) (v := .slice (some ⟨w1.heap.size, 0, none⟩) 0 0) fileOk rfl (.tmp 19) (.tmp 25) rfl rfl ((ownG_none (heap_alloc_new w1.drew _) (Nat.le_refl _)).alloc _) (M.L.take fn) rfl (LOW.out _ ((((Bel.refl w1).drew.alloc _).alloc _))) (LT1.out) (LT2.out) (Bel.size ((((Bel.refl w1).drew.alloc _).alloc _))) ?_
     intro v1 z1 ho1 hg1 hb1
     have hBz1 := Lib.hid (Bel.trans_below' ((((Bel.refl w1).drew.alloc _).alloc _)) hb1)
     have hOwn1 := Lib.hid (show OwnG fileEl w1.heap.size z1 v1 (M.L.take fn) from ho1)
     have hLit := Lib.hid (show z1.heap[w1.heap.size + 1]? = some (.cells #[.string ⟨x.name.toArray⟩, .string ⟨x.bytes.toArray⟩, .int .i64 x.safe] 74) from at_grown hg1 (at_new (by simp)) (by simp [Value.ownBlock]))
     refine hK.out _ _ (fun _ => HS.out _ hBz1.out) ?_
     clear hK K ho1 hg1 hb1
     try simp only[Act.put,sqA,sqB,sqC]
     have hBz := Lib.hid hBz1.out
     refine AnyL.ready (rs := [11]) (by kernel_rfl) (by simp) ?_
     refine al1 rfl fun K hK => ?_
     refine step_append_seg (n := w1.heap.size) fileOk rfl (.tmp 26) (.tmp 28) rfl rfl hOwn1.out [x] rfl (lit_src hLit.out) (LT3.out) (LT4.out) (Bel.size hBz.out) ?_
     intro v2 z2 ho2 hg2 hb2
     have hBz2 := Lib.hid (Bel.trans_below' hBz.out hb2)
     have hOwn2 := Lib.hid ho2
     refine hK.out _ _ (fun _ => HS.out _ hBz2.out) ?_
     clear hK K ho2 hg2 hb2
     try simp only[Act.put,sqA,sqB,sqC]
     refine AnyL.ready (rs := [18]) (by kernel_rfl) (by simp) ?_
     refine al1 rfl fun K hK => ?_
     refine step_append_seg (n := w1.heap.size) fileOk rfl (.tmp 29) (.tmp 35) rfl rfl hOwn2.out (M.L.drop kk) rfl (HIGH.out _ hBz2.out) (LT5.out) (LT6.out) (Bel.size hBz2.out) ?_
     intro v3 z3 ho3 hg3 hb3
     have hBz3 := Lib.hid (Bel.trans_below' hBz2.out hb3)
     obtain ⟨p3, c3, hv3⟩ := ownG_len ho3
     generalize (M.L.take fn ++ [x] ++ M.L.drop kk).length = l3 at hv3
     subst hv3
     have hOwn3 := Lib.hid ho3
     refine hK.out _ _ (fun _ => HS.out _ hBz3.out) ?_
     clear hK K ho3 hg3 hb3
     try simp only[Act.put,sqA,sqB,sqC]
     refine AnyL.ready (rs := [19]) (by kernel_rfl) (by simp) ?_
     refine al1 rfl fun K hK => ?_
     go_simp
     refine hK.out _ _ (fun _ => HS.out _ hBz3.out) ?_
     clear hK K
     try simp only[Act.put,sqA,sqB,sqC]
     refine AnyL.ready (rs := [20]) (by kernel_rfl) (by simp) ?_
     refine al1 rfl fun K hK => ?_
     go_simp
     refine hK.out _ _ (fun _ => HS.out _ hBz3.out) ?_
     clear hK K
     try simp only[Act.put,sqA,sqB,sqC]
     refine AnyL.ready (rs := [21]) (by kernel_rfl) (by simp) ?_
     refine al1 rfl fun K hK => ?_
     obtain ⟨s0, -, -, -, s4, -⟩ := HS.out _ hBz3.out
     go_simp
     refine hK.out _ _ (fun h => absurd rfl h) ?_
     clear hK K s0 s4
     try simp only[Act.put,sqA,sqB,sqC]
     refine AnyL.done (by kernel_rfl) ?_ _
     go_wp2_with (fail)
     go_end0
     have hpf := (HR1.out.bel hBz3.out).put_files (hOwn3.out.low (Nat.le_trans hn (Nat.le_of_lt hz1)))
     rw [HI2.out]
     exact ⟨⟨_, rfl⟩, _, hpf, fun k hk => Nat.le_trans HB.out.size (hOwn3.out.lt k hk).1, ((Keep.of_bel (HB.out.trans hBz3.out) [b]).setCell (p := ⟨b, 0, none⟩) (Or.inl (by simp)) _)⟩
   ·go_simp
    refine hK.out _ _ (fun _ => HS.out _ ((Bel.refl w1).drew.alloc _)) ?_
    clear hK K
    try simp only[Act.put,sqA,sqB,sqC]
    refine AnyL.ready (rs := [1]) (by kernel_rfl) (by simp) ?_
    refine al1 rfl fun K hK => ?_
    go_simp
    refine hK.out _ _ (fun _ => HS.out _ (((Bel.refl w1).drew.alloc _).alloc _)) ?_
    clear hK K
    try simp only[Act.put,sqA,sqB,sqC]
    refine AnyL.ready (rs := [8]) (by kernel_rfl) (by simp) ?_
    refine al1 rfl fun K hK => ?_
    refine step_append_seg (n := w1.heap.size) (v := .slice (some ⟨w1.heap.size + 1, 0, none⟩) 0 0) fileOk rfl (.tmp 19) (.tmp 25) rfl rfl (ownG_none (n := w1.heap.size) (at_new (by simp)) (by simp)) (M.L.take fn) rfl (LOW.out _ ((((Bel.refl w1).drew.alloc _).alloc _))) (LT1.out) (LT2.out) (Bel.size ((((Bel.refl w1).drew.alloc _).alloc _))) ?_
    intro v1 z1 ho1 hg1 hb1
    have hBz1 := Lib.hid (Bel.trans_below' ((((Bel.refl w1).drew.alloc _).alloc _)) hb1)
    have hOwn1 := Lib.hid (show OwnG fileEl w1.heap.size z1 v1 (M.L.take fn) from ho1)
    have hLit := Lib.hid (show z1.heap[w1.heap.size]? = some (.cells #[.string ⟨x.name.toArray⟩, .string ⟨x.bytes.toArray⟩, .int .i64 x.safe] 74) from at_grown hg1 (at_old (at_new (by simp))) (by simp [Value.ownBlock]))
    refine hK.out _ _ (fun _ => HS.out _ hBz1.out) ?_
    clear hK K ho1 hg1 hb1
    try simp only[Act.put,sqA,sqB,sqC]
    have hBz := Lib.hid hBz1.out
    refine AnyL.ready (rs := [11]) (by kernel_rfl) (by simp) ?_
    refine al1 rfl fun K hK => ?_
    refine step_append_seg (n := w1.heap.size) fileOk rfl (.tmp 26) (.tmp 28) rfl rfl hOwn1.out [x] rfl (lit_src hLit.out) (LT3.out) (LT4.out) (Bel.size hBz.out) ?_
    intro v2 z2 ho2 hg2 hb2
    have hBz2 := Lib.hid (Bel.trans_below' hBz.out hb2)
    have hOwn2 := Lib.hid ho2
    refine hK.out _ _ (fun _ => HS.out _ hBz2.out) ?_
    clear hK K ho2 hg2 hb2
    try simp only[Act.put,sqA,sqB,sqC]
    refine AnyL.ready (rs := [18]) (by kernel_rfl) (by simp) ?_
    refine al1 rfl fun K hK => ?_
    refine step_append_seg (n := w1.heap.size) fileOk rfl (.tmp 29) (.tmp 35) rfl rfl hOwn2.out (M.L.drop kk) rfl (HIGH.out _ hBz2.out) (LT5.out) (LT6.out) (Bel.size hBz2.out) ?_
    intro v3 z3 ho3 hg3 hb3
    have hBz3 := Lib.hid (Bel.trans_below' hBz2.out hb3)
    obtain ⟨p3, c3, hv3⟩ := ownG_len ho3
    generalize (M.L.take fn ++ [x] ++ M.L.drop kk).length = l3 at hv3
    subst hv3
    have hOwn3 := Lib.hid ho3
    refine hK.out _ _ (fun _ => HS.out _ hBz3.out) ?_
    clear hK K ho3 hg3 hb3
    try simp only[Act.put,sqA,sqB,sqC]
    refine AnyL.ready (rs := [19]) (by kernel_rfl) (by simp) ?_
    refine al1 rfl fun K hK => ?_
    go_simp
    refine hK.out _ _ (fun _ => HS.out _ hBz3.out) ?_
    clear hK K
    try simp only[Act.put,sqA,sqB,sqC]
    refine AnyL.ready (rs := [20]) (by kernel_rfl) (by simp) ?_
    refine al1 rfl fun K hK => ?_
    go_simp
    refine hK.out _ _ (fun _ => HS.out _ hBz3.out) ?_
    clear hK K
    try simp only[Act.put,sqA,sqB,sqC]
    refine AnyL.ready (rs := [21]) (by kernel_rfl) (by simp) ?_
    refine al1 rfl fun K hK => ?_
    obtain ⟨s0, -, -, -, s4, -⟩ := HS.out _ hBz3.out
    go_simp
    refine hK.out _ _ (fun h => absurd rfl h) ?_
    clear hK K s0 s4
    try simp only[Act.put,sqA,sqB,sqC]
    refine AnyL.done (by kernel_rfl) ?_ _
    go_wp2_with (fail)
    go_end0
    have hpf := (HR1.out.bel hBz3.out).put_files (hOwn3.out.low (Nat.le_trans hn (Nat.le_of_lt hz1)))
    rw [HI2.out]
    exact ⟨⟨_, rfl⟩, _, hpf, fun k hk => Nat.le_trans HB.out.size (hOwn3.out.lt k hk).1, ((Keep.of_bel (HB.out.trans hBz3.out) [b]).setCell (p := ⟨b, 0, none⟩) (Or.inl (by simp)) _)⟩


theorem wrap_i64_in {n : Int} (h1 : -9223372036854775808 ≤ n) (h2 : n ≤ 9223372036854775807) : IntKind.i64.wrap n = n := by
 rw [IntKind.wrap_i64]
 try unfold wrap64
 omega
end Go.Proofs.YtfbiinnenlgkfaaGreatDoor
