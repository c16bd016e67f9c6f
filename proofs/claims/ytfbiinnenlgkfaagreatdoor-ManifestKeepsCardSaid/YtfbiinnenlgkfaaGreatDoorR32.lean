/- NStt, NDo, NKr, NDoes, JHold2, JKeep, NKeep, NRise, laid together. -/
import Derived.Test.YtfbiinnenlgkfaaGreatDoorR31
import Derived.Deep.RegionHeld
import Derived.Test.YtfbiinnenlgkfaaGreatDoorR27
import Derived.Test.YtfbiinnenlgkfaaGreatDoorR30
set_option linter.unusedSimpArgs false
set_option linter.unusedVariables false
set_option maxRecDepth 100000
namespace Go.Proofs.YtfbiinnenlgkfaaGreatDoor
open Go.RowKit Go.Deep Go.Maps

def stF (nx : Int) : List PL → Int → List PL
 | [], _ => []
 | f :: r, last => (if last + 1 + (pickN f.n 3 : Nat) < nx then [⟨last + 1 + (pickN f.n 3 : Nat), (pickN f.l 4 : Nat)⟩] else []) ++ stF nx r (last + 1 + (pickN f.n 3 : Nat))
def stateM (a : NV) (was : MS) : MS :=
 if a.n.tmod 7 = 0 then a.st else
 ⟨stF (was.next + (pickN a.st.next 5 : Nat)) (a.st.files.take 10) 0, was.next + (pickN a.st.next 5 : Nat), was.seq + (pickN a.st.seq 9 : Nat), was.log + (pickN a.st.log 3 : Nat), a.st.mt⟩
theorem stF_len (nx : Int) : ∀ (l : List PL) (last : Int), (stF nx l last).length ≤ l.length
 | [], _ => Nat.le_refl _
 | f :: r, last => by
  have ih := stF_len nx r (last + 1 + (pickN f.n 3 : Nat))
  simp only [stF]
  split <;> simp <;> omega
def SttPost (w : World) (a : NV) (was : MS) (e : Ending) (y : World) : Prop := ∃ p c, e = .returned (.agg #[.slice p (stateM a was).files.length c, .int .i64 (stateM a was).next, .int .i64 (stateM a was).seq, .int .i64 (stateM a was).log, .string (stateM a was).mt]) ∧
 PlsAt y p (stateM a was).files ∧ (p = a.p ∨ ∀ q, p = some q → w.heap.size ≤ q.block) ∧ Bel w y
def SttRel (w7 : World) (P : List PL) (nx : Int) (fl : List PL) (sv lv iv : Value) (x : World) : Prop := ∃ (i : Nat) (last : Int) (l : List PL), iv = .int .i64 i ∧ lv = .int .i64 last ∧ i ≤ fl.length ∧ i ≤ 10 ∧ (0 ≤ last ∧ last ≤ 3 * i) ∧ l.length ≤ i ∧ P = l ++ stF nx ((fl.take 10).drop i) last ∧ OwnG plElP w7.heap.size x sv l ∧ Bel w7 x
theorem own_addr {α : Type} {E : El α} {B : Nat} {w : World} {p : Option Addr} {n c : Nat} {l : List α} (h : OwnG E B w (.slice p n c) l) : ∀ q, p = some q → B ≤ q.block := fun q hq => by
 obtain ⟨_, ⟨e, _⟩ | ⟨g, cap, cur, hv, hg, _⟩⟩ := h
 ·simp only [Value.slice.injEq] at e
  rw [hq] at e
  cases e.1
 ·simp only [Value.slice.injEq] at hv
  rw [hq] at hv
  have := Option.some.inj hv.1
  rw [this]; exact hg
theorem drop_take_cons {α : Type} {l : List α} {i n : Nat} (h : i < l.length) (hn : i < n) : (l.take n).drop i = l[i] :: (l.take n).drop (i + 1) := by
 rw [List.drop_eq_getElem_cons (by rw [List.length_take]; omega), List.getElem_take]
theorem keep_bel8 {x y z : World} (h : Bel x y) (hb : Below x.heap.size y z) : Bel x z :=
 ⟨hb.os.trans h.os, hb.tape.trans h.tape, hb.output.trans h.output, Nat.le_trans h.size hb.size, fun k hk => (hb.block k hk).trans (h.block k hk)⟩
set_option maxHeartbeats 16000000 in
theorem state13_any (a : NV) (was : MS) (q : Option Addr) (d : Nat) (w : World) (ha : NV.ok w a) (hw : (0 ≤ was.next ∧ was.next ≤ 1099511627776) ∧ (0 ≤ was.seq ∧ was.seq ≤ 1099511627776) ∧ (0 ≤ was.log ∧ was.log ≤ 1099511627776)) :
  Calls Tryz.prog 29 #[.agg #[.int .i64 a.op, .int .i64 a.n, .slice a.p a.st.files.length a.c, .int .i64 a.st.next, .int .i64 a.st.seq, .int .i64 a.st.log, .string a.st.mt, .slice a.left.p a.left.L.length a.left.cap, .slice a.spoil.p a.spoil.L.length a.spoil.cap],
   .agg #[.slice q was.files.length d, .int .i64 was.next, .int .i64 was.seq, .int .i64 was.log, .string was.mt]] w (SttPost w a was) := by
 have HA := Lib.hid ha
 have HW := Lib.hid hw
 have hin := ha.n
 clear ha
 by_cases hn7 : a.n.tmod 7 = 0
 ·have HV := Lib.hid (show stateM a was = a.st by unfold stateM; rw [if_pos hn7])
  go_enter Tryz.func29, Tryz.ntmps29
  go_wp2_with (fail)
  refine bodyPost_ret (v := .agg #[.slice a.p a.st.files.length a.c, .int .i64 a.st.next, .int .i64 a.st.seq, .int .i64 a.st.log, .string a.st.mt]) (by simp [results, Tryz.results29, go_sem]) rfl ⟨a.p, a.c, by rw [HV.out], by rw [HV.out]; exact HA.out.at_.bel ((((Bel.refl w).alloc _).alloc _).alloc _ |>.alloc _), Or.inl rfl, (((Bel.refl w).alloc _).alloc _).alloc _ |>.alloc _⟩
 ·have HV := Lib.hid (show stateM a was = ⟨stF (was.next + (pickN a.st.next 5 : Nat)) (a.st.files.take 10) 0, was.next + (pickN a.st.next 5 : Nat), was.seq + (pickN a.st.seq 9 : Nat), was.log + (pickN a.st.log 3 : Nat), a.st.mt⟩ by unfold stateM; rw [if_neg hn7])
  obtain ⟨p0, hp0⟩ : ∃ p0, a.p = p0 := ⟨_, rfl⟩
  rw [hp0]
  have HP0 := Lib.hid (show PlsAt w p0 a.st.files by rw [← hp0]; exact HA.out.at_)
  clear hp0
  have hn7b : (a.n.tmod 7 != 0) = true := by rw [bne_iff_ne]; exact hn7
  obtain ⟨w4, hw4⟩ : ∃ w4, w4 = ((((w.alloc (.cells #[.int .i64 a.op, .int .i64 a.n, .slice p0 a.st.files.length a.c, .int .i64 a.st.next, .int .i64 a.st.seq, .int .i64 a.st.log, .string a.st.mt, .slice a.left.p a.left.L.length a.left.cap, .slice a.spoil.p a.spoil.L.length a.spoil.cap] 54)).alloc (.cells #[.slice q was.files.length d, .int .i64 was.next, .int .i64 was.seq, .int .i64 was.log, .string was.mt] 28)).alloc (.cells #[.slice none 0 0, .int .i64 0, .int .i64 0, .int .i64 0, .string ⟨#[]⟩] 24)).alloc (.cells #[.slice p0 a.st.files.length a.c, .int .i64 a.st.next, .int .i64 a.st.seq, .int .i64 a.st.log, .string a.st.mt] 24)) := ⟨_, rfl⟩
  obtain ⟨hz4, k0, k1, k2, k3⟩ := alloc3 w (.cells #[.int .i64 a.op, .int .i64 a.n, .slice p0 a.st.files.length a.c, .int .i64 a.st.next, .int .i64 a.st.seq, .int .i64 a.st.log, .string a.st.mt, .slice a.left.p a.left.L.length a.left.cap, .slice a.spoil.p a.spoil.L.length a.spoil.cap] 54) (.cells #[.slice q was.files.length d, .int .i64 was.next, .int .i64 was.seq, .int .i64 was.log, .string was.mt] 28) (.cells #[.slice none 0 0, .int .i64 0, .int .i64 0, .int .i64 0, .string ⟨#[]⟩] 24) (.cells #[.slice p0 a.st.files.length a.c, .int .i64 a.st.next, .int .i64 a.st.seq, .int .i64 a.st.log, .string a.st.mt] 24)
  rw [← hw4] at hz4 k0 k1 k2 k3
  have HB4 := Lib.hid (show Bel w w4 by rw [hw4]; exact (((Bel.refl w).alloc _).alloc _).alloc _ |>.alloc _)
  obtain ⟨A, hA⟩ : ∃ A, A = w.heap.size := ⟨_, rfl⟩
  obtain ⟨Wb, hWb⟩ : ∃ Wb, Wb = w.heap.size + 1 := ⟨_, rfl⟩
  obtain ⟨R, hR⟩ : ∃ R, R = w.heap.size + 1 + 1 := ⟨_, rfl⟩
  obtain ⟨S, hS⟩ : ∃ S, S = w.heap.size + 1 + 1 + 1 := ⟨_, rfl⟩
  rw [← hA] at k0
  rw [← hWb] at k1
  rw [← hR] at k2
  rw [← hS] at k3
  have HN := Lib.hid (show (A = w.heap.size ∧ Wb = w.heap.size + 1) ∧ R = w.heap.size + 2 ∧ S = w.heap.size + 3 by omega)
  have HKA := Lib.hid k0
  have HKW := Lib.hid k1
  have HKR := Lib.hid k2
  have HKS := Lib.hid k3
  have HZ4 := Lib.hid (show w4.heap.size = S + 1 by rw [hz4, hS])
  obtain ⟨m1, hm1⟩ : ∃ m, m = pickN a.st.next 5 := ⟨_, rfl⟩
  obtain ⟨m2, hm2⟩ : ∃ m, m = pickN a.st.seq 9 := ⟨_, rfl⟩
  obtain ⟨m3, hm3⟩ : ∃ m, m = pickN a.st.log 3 := ⟨_, rfl⟩
  have hl1 : m1 < 5 := by rw [hm1]; exact pickN_lt _ (by omega)
  have hl2 : m2 < 9 := by rw [hm2]; exact pickN_lt _ (by omega)
  have hl3 : m3 < 3 := by rw [hm3]; exact pickN_lt _ (by omega)
  rw [← hm1, ← hm2, ← hm3] at HV
  have HM1 := Lib.hid hm1
  have HM2 := Lib.hid hm2
  have HM3 := Lib.hid hm3
  obtain ⟨⟨n1, n2⟩, ⟨n3, n4⟩, n5, n6⟩ := hw
  have u1 : IntKind.i64.wrap (was.next + (m1 : Int)) = was.next + (m1 : Int) := by rw [IntKind.wrap_i64]; omega
  have u2 : IntKind.i64.wrap (was.seq + (m2 : Int)) = was.seq + (m2 : Int) := by rw [IntKind.wrap_i64]; omega
  have u3 : IntKind.i64.wrap (was.log + (m3 : Int)) = was.log + (m3 : Int) := by rw [IntKind.wrap_i64]; omega
  clear k0 k1 k2 k3 hz4 hm1 hm2 hm3
  go_enter Tryz.func29, Tryz.ntmps29
  go_wp2_with (fail)
  rw [← hw4, ← hS, ← hR, ← hWb, ← hA]
  clear hw4 hA hWb hR hS
  have v1 := box_cell HKW.out 1
  have s1 := box_cell HKS.out 1
  have f1 := box_frozen HKS.out 1
  simp only [List.getElem?_toArray, List.getElem?_cons_zero, List.getElem?_cons_succ] at v1 s1
  refine region_L 7 (S := fun z => z.cell? ⟨Wb, 1, none⟩ = some (.int .i64 was.next) ∧ z.cell? ⟨S, 1, none⟩ = some (.int .i64 a.st.next) ∧ z.frozen? ⟨S, 1, none⟩ = false) (by kernel_rfl) ⟨v1, s1, f1⟩ (fun hHeld => ?_)
  refine AnyL.tk (oi := ⟨some 15, .fieldAddr 28 (.tmp 3) 1, 0, "law.go:114", #[], none⟩) (v := ?_) 0 rfl ?_ ?_;rotate_left;·(intros;go_simp<;>with_reducible rfl)
  try simp only[Act.put,sqA,sqB,sqC]
  refine AnyL.tk (oi := ⟨some 16, .load 3 (.tmp 15), 3, "law.go:114", #[⟨0, .data⟩], none⟩) (v := ?_) 1 rfl ?_ ?_;rotate_left;·(intros;go_simp<;>with_reducible rfl)
  try simp only[Act.put,sqA,sqB,sqC]
  refine AnyL.tk (oi := ⟨some 17, .fieldAddr 24 (.tmp 5) 1, 0, "law.go:114", #[], none⟩) (v := ?_) 2 rfl ?_ ?_;rotate_left;·(intros;go_simp<;>with_reducible rfl)
  try simp only[Act.put,sqA,sqB,sqC]
  refine AnyL.tk (oi := ⟨some 18, .load 3 (.tmp 17), 3, "law.go:114", #[⟨2, .data⟩], none⟩) (v := ?_) 3 rfl ?_ ?_;rotate_left;·(intros;go_simp<;>with_reducible rfl)
  try simp only[Act.put,sqA,sqB,sqC]
  refine AnyL.ready (rs := [4]) (by kernel_rfl) (by simp) ?_
  refine (AllL.cons (o := ⟨some 19, .call ⟨.value (.func 21), #[.tmp 18, .const (.int .i64 5)], #[3, 3]⟩, 3, "law.go:114", #[⟨3, .data⟩], none⟩) rfl (fun K hK => ?_) AllL.nil)
  go_simp
  refine (pick13_at a.st.next _ 5 _ HA.out.next (by omega) (by omega) rfl).mono ?_
  rintro e z ⟨rfl, rfl⟩
  rw [← HM1.out]
  dsimp only
  refine hK.out _ _ (fun _ => hHeld) ?_
  clear hK K
  try simp only[Act.put,sqA,sqB,sqC]
  refine AnyL.tk (oi := ⟨some 20, .binOp .add 3 (.tmp 16) (.tmp 19) 3, 3, "law.go:114", #[⟨1, .data⟩, ⟨4, .data⟩], none⟩) (v := ?_) 5 rfl ?_ ?_;rotate_left;·(intros;go_simp<;>with_reducible rfl)
  try simp only[Act.put,sqA,sqB,sqC]
  refine AnyL.tk (oi := ⟨some 21, .fieldAddr 24 (.tmp 5) 1, 0, "law.go:114", #[⟨0, .phase⟩, ⟨1, .phase⟩, ⟨2, .phase⟩, ⟨3, .phase⟩, ⟨4, .phase⟩, ⟨5, .phase⟩], none⟩) (v := ?_) 6 rfl ?_ ?_;rotate_left;·(intros;go_simp<;>with_reducible rfl)
  try simp only[Act.put,sqA,sqB,sqC]
  clear hHeld
  refine AnyL.ready (rs := [7]) (by kernel_rfl) (by simp) ?_
  refine (AllL.cons (o := ⟨none, .store 3 (.tmp 21) (.tmp 20), 0, "law.go:114", #[⟨6, .data⟩, ⟨5, .data⟩, ⟨4, .chain⟩, ⟨0, .phase⟩, ⟨1, .phase⟩, ⟨2, .phase⟩, ⟨3, .phase⟩, ⟨4, .phase⟩, ⟨5, .phase⟩], none⟩) rfl (fun K hK => ?_) AllL.nil)
  go_simp
  refine hK.out _ _ (fun h => absurd rfl h) ?_
  clear hK K
  try simp only[Act.put,sqA,sqB,sqC]
  refine AnyL.done (by kernel_rfl) ?_ _
  obtain ⟨w5, hw5⟩ : ∃ z, z = (w4.setCell ⟨S, 1, none⟩ (.int .i64 (was.next + (m1 : Int)))).drew := ⟨_, rfl⟩
  have HKS5 := Lib.hid (show w5.heap[S]? = some (.cells #[.slice p0 a.st.files.length a.c, .int .i64 (was.next + (m1 : Int)), .int .i64 a.st.seq, .int .i64 a.st.log, .string a.st.mt] 24 (0, 0)) by rw [hw5]; exact blk_set (w := w4) HKS.out 1 _)
  have HKP5 := Lib.hid (show Keep [S] w4 w5 by rw [hw5]; exact Keep.drew ((Keep.refl [S] w4).setCell (p := ⟨S, 1, none⟩) (Or.inl (by simp)) _))
  have HKW5 := Lib.hid (HKP5.out.at HKW.out (by rw [List.mem_singleton]; have := HN.out; omega))
  rw [← hw5]
  clear hw5 v1 s1 f1
  go_wp2_with (fail)
  have v2 := box_cell HKW5.out 2
  have s2 := box_cell HKS5.out 2
  have f2 := box_frozen HKS5.out 2
  simp only [List.getElem?_toArray, List.getElem?_cons_zero, List.getElem?_cons_succ] at v2 s2
  refine region_L 7 (S := fun z => z.cell? ⟨Wb, 2, none⟩ = some (.int .i64 was.seq) ∧ z.cell? ⟨S, 2, none⟩ = some (.int .i64 a.st.seq) ∧ z.frozen? ⟨S, 2, none⟩ = false) (by kernel_rfl) ⟨v2, s2, f2⟩ (fun hHeld => ?_)
  refine AnyL.tk (oi := ⟨some 22, .fieldAddr 28 (.tmp 3) 2, 0, "law.go:115", #[], none⟩) (v := ?_) 0 rfl ?_ ?_;rotate_left;·(intros;go_simp<;>with_reducible rfl)
  try simp only[Act.put,sqA,sqB,sqC]
  refine AnyL.tk (oi := ⟨some 23, .load 3 (.tmp 22), 3, "law.go:115", #[⟨0, .data⟩], none⟩) (v := ?_) 1 rfl ?_ ?_;rotate_left;·(intros;go_simp<;>with_reducible rfl)
  try simp only[Act.put,sqA,sqB,sqC]
  refine AnyL.tk (oi := ⟨some 24, .fieldAddr 24 (.tmp 5) 2, 0, "law.go:115", #[], none⟩) (v := ?_) 2 rfl ?_ ?_;rotate_left;·(intros;go_simp<;>with_reducible rfl)
  try simp only[Act.put,sqA,sqB,sqC]
  refine AnyL.tk (oi := ⟨some 25, .load 3 (.tmp 24), 3, "law.go:115", #[⟨2, .data⟩], none⟩) (v := ?_) 3 rfl ?_ ?_;rotate_left;·(intros;go_simp<;>with_reducible rfl)
  try simp only[Act.put,sqA,sqB,sqC]
  refine AnyL.ready (rs := [4]) (by kernel_rfl) (by simp) ?_
  refine (AllL.cons (o := ⟨some 26, .call ⟨.value (.func 21), #[.tmp 25, .const (.int .i64 9)], #[3, 3]⟩, 3, "law.go:115", #[⟨3, .data⟩], none⟩) rfl (fun K hK => ?_) AllL.nil)
  go_simp
  refine (pick13_at a.st.seq _ 9 _ HA.out.seq (by omega) (by omega) rfl).mono ?_
  rintro e z ⟨rfl, rfl⟩
  rw [← HM2.out]
  dsimp only
  refine hK.out _ _ (fun _ => hHeld) ?_
  clear hK K
  try simp only[Act.put,sqA,sqB,sqC]
  refine AnyL.tk (oi := ⟨some 27, .binOp .add 3 (.tmp 23) (.tmp 26) 3, 3, "law.go:115", #[⟨1, .data⟩, ⟨4, .data⟩], none⟩) (v := ?_) 5 rfl ?_ ?_;rotate_left;·(intros;go_simp<;>with_reducible rfl)
  try simp only[Act.put,sqA,sqB,sqC]
  refine AnyL.tk (oi := ⟨some 28, .fieldAddr 24 (.tmp 5) 2, 0, "law.go:115", #[⟨0, .phase⟩, ⟨1, .phase⟩, ⟨2, .phase⟩, ⟨3, .phase⟩, ⟨4, .phase⟩, ⟨5, .phase⟩], none⟩) (v := ?_) 6 rfl ?_ ?_;rotate_left;·(intros;go_simp<;>with_reducible rfl)
  try simp only[Act.put,sqA,sqB,sqC]
  clear hHeld
  refine AnyL.ready (rs := [7]) (by kernel_rfl) (by simp) ?_
  refine (AllL.cons (o := ⟨none, .store 3 (.tmp 28) (.tmp 27), 0, "law.go:115", #[⟨6, .data⟩, ⟨5, .data⟩, ⟨4, .chain⟩, ⟨0, .phase⟩, ⟨1, .phase⟩, ⟨2, .phase⟩, ⟨3, .phase⟩, ⟨4, .phase⟩, ⟨5, .phase⟩], none⟩) rfl (fun K hK => ?_) AllL.nil)
  go_simp
  refine hK.out _ _ (fun h => absurd rfl h) ?_
  clear hK K
  try simp only[Act.put,sqA,sqB,sqC]
  refine AnyL.done (by kernel_rfl) ?_ _
  obtain ⟨w6, hw6⟩ : ∃ z, z = (w5.setCell ⟨S, 2, none⟩ (.int .i64 (was.seq + (m2 : Int)))).drew := ⟨_, rfl⟩
  have HKS6 := Lib.hid (show w6.heap[S]? = some (.cells #[.slice p0 a.st.files.length a.c, .int .i64 (was.next + (m1 : Int)), .int .i64 (was.seq + (m2 : Int)), .int .i64 a.st.log, .string a.st.mt] 24 (0, 0)) by rw [hw6]; exact blk_set (w := w5) HKS5.out 2 _)
  have HKP6 := Lib.hid (show Keep [S] w4 w6 by rw [hw6]; exact Keep.drew ((HKP5.out).setCell (p := ⟨S, 2, none⟩) (Or.inl (by simp)) _))
  have HKW6 := Lib.hid (HKP6.out.at HKW.out (by rw [List.mem_singleton]; have := HN.out; omega))
  rw [← hw6]
  clear hw6 v2 s2 f2
  go_wp2_with (fail)
  have v3 := box_cell HKW6.out 3
  have s3 := box_cell HKS6.out 3
  have f3 := box_frozen HKS6.out 3
  simp only [List.getElem?_toArray, List.getElem?_cons_zero, List.getElem?_cons_succ] at v3 s3
  refine region_L 7 (S := fun z => z.cell? ⟨Wb, 3, none⟩ = some (.int .i64 was.log) ∧ z.cell? ⟨S, 3, none⟩ = some (.int .i64 a.st.log) ∧ z.frozen? ⟨S, 3, none⟩ = false) (by kernel_rfl) ⟨v3, s3, f3⟩ (fun hHeld => ?_)
  refine AnyL.tk (oi := ⟨some 29, .fieldAddr 28 (.tmp 3) 3, 0, "law.go:116", #[], none⟩) (v := ?_) 0 rfl ?_ ?_;rotate_left;·(intros;go_simp<;>with_reducible rfl)
  try simp only[Act.put,sqA,sqB,sqC]
  refine AnyL.tk (oi := ⟨some 30, .load 3 (.tmp 29), 3, "law.go:116", #[⟨0, .data⟩], none⟩) (v := ?_) 1 rfl ?_ ?_;rotate_left;·(intros;go_simp<;>with_reducible rfl)
  try simp only[Act.put,sqA,sqB,sqC]
  refine AnyL.tk (oi := ⟨some 31, .fieldAddr 24 (.tmp 5) 3, 0, "law.go:116", #[], none⟩) (v := ?_) 2 rfl ?_ ?_;rotate_left;·(intros;go_simp<;>with_reducible rfl)
  try simp only[Act.put,sqA,sqB,sqC]
  refine AnyL.tk (oi := ⟨some 32, .load 3 (.tmp 31), 3, "law.go:116", #[⟨2, .data⟩], none⟩) (v := ?_) 3 rfl ?_ ?_;rotate_left;·(intros;go_simp<;>with_reducible rfl)
  try simp only[Act.put,sqA,sqB,sqC]
  refine AnyL.ready (rs := [4]) (by kernel_rfl) (by simp) ?_
  refine (AllL.cons (o := ⟨some 33, .call ⟨.value (.func 21), #[.tmp 32, .const (.int .i64 3)], #[3, 3]⟩, 3, "law.go:116", #[⟨3, .data⟩], none⟩) rfl (fun K hK => ?_) AllL.nil)
  go_simp
  refine (pick13_at a.st.log _ 3 _ HA.out.log (by omega) (by omega) rfl).mono ?_
  rintro e z ⟨rfl, rfl⟩
  rw [← HM3.out]
  dsimp only
  refine hK.out _ _ (fun _ => hHeld) ?_
  clear hK K
  try simp only[Act.put,sqA,sqB,sqC]
  refine AnyL.tk (oi := ⟨some 34, .binOp .add 3 (.tmp 30) (.tmp 33) 3, 3, "law.go:116", #[⟨1, .data⟩, ⟨4, .data⟩], none⟩) (v := ?_) 5 rfl ?_ ?_;rotate_left;·(intros;go_simp<;>with_reducible rfl)
  try simp only[Act.put,sqA,sqB,sqC]
  refine AnyL.tk (oi := ⟨some 35, .fieldAddr 24 (.tmp 5) 3, 0, "law.go:116", #[⟨0, .phase⟩, ⟨1, .phase⟩, ⟨2, .phase⟩, ⟨3, .phase⟩, ⟨4, .phase⟩, ⟨5, .phase⟩], none⟩) (v := ?_) 6 rfl ?_ ?_;rotate_left;·(intros;go_simp<;>with_reducible rfl)
  try simp only[Act.put,sqA,sqB,sqC]
  clear hHeld
  refine AnyL.ready (rs := [7]) (by kernel_rfl) (by simp) ?_
  refine (AllL.cons (o := ⟨none, .store 3 (.tmp 35) (.tmp 34), 0, "law.go:116", #[⟨6, .data⟩, ⟨5, .data⟩, ⟨4, .chain⟩, ⟨0, .phase⟩, ⟨1, .phase⟩, ⟨2, .phase⟩, ⟨3, .phase⟩, ⟨4, .phase⟩, ⟨5, .phase⟩], none⟩) rfl (fun K hK => ?_) AllL.nil)
  go_simp
  refine hK.out _ _ (fun h => absurd rfl h) ?_
  clear hK K
  try simp only[Act.put,sqA,sqB,sqC]
  refine AnyL.done (by kernel_rfl) ?_ _
  obtain ⟨w7, hw7⟩ : ∃ z, z = (w6.setCell ⟨S, 3, none⟩ (.int .i64 (was.log + (m3 : Int)))).drew := ⟨_, rfl⟩
  have HKS7 := Lib.hid (show w7.heap[S]? = some (.cells #[.slice p0 a.st.files.length a.c, .int .i64 (was.next + (m1 : Int)), .int .i64 (was.seq + (m2 : Int)), .int .i64 (was.log + (m3 : Int)), .string a.st.mt] 24 (0, 0)) by rw [hw7]; exact blk_set (w := w6) HKS6.out 3 _)
  have HKP7 := Lib.hid (show Keep [S] w4 w7 by rw [hw7]; exact Keep.drew ((HKP6.out).setCell (p := ⟨S, 3, none⟩) (Or.inl (by simp)) _))
  have HKW7 := Lib.hid (HKP7.out.at HKW.out (by rw [List.mem_singleton]; have := HN.out; omega))
  rw [← hw7]
  clear hw7 v3 s3 f3
  go_wp2_with (fail)
  have h0 := HZ4.out
  have HB7 := Lib.hid (show Bel w w7 from bel_keep HB4.out HKP7.out (fun k hk => by rw [List.mem_singleton] at hk; have := HN.out; omega))
  have HKA7 := Lib.hid (HKP7.out.at HKA.out (by rw [List.mem_singleton]; have := HN.out; omega))
  have HKR7 := Lib.hid (HKP7.out.at HKR.out (by rw [List.mem_singleton]; have := HN.out; omega))
  have HZ7 := Lib.hid (show S < w7.heap.size by have := HKP7.out.size; omega)
  obtain ⟨nx, hnx⟩ : ∃ nx, nx = was.next + (m1 : Int) := ⟨_, rfl⟩
  rw [← hnx] at HKS7 HV
  have HNX := Lib.hid hnx
  clear h0 u1 u2 u3 hnx
  obtain ⟨P, hP⟩ : ∃ P, P = stF nx (a.st.files.take 10) 0 := ⟨_, rfl⟩
  rw [← hP] at HV
  have HPP := Lib.hid hP
  clear hP
  go_loopw [6, 7, 8] (fun sv lv iv x => SttRel w7 P nx a.st.files sv lv iv x) (fun _ _ iv _ => 10 - (intOf iv).toNat)
  case atStart => exact ⟨0, 0, [], rfl, rfl, Nat.zero_le _, by omega, by omega, Nat.le_refl _, HPP.out, OwnG.nil _ _ _, Bel.refl _⟩
  case round =>
   obtain ⟨i, last, l, rfl, rfl, hi, hi10, hla, hll, hf, hown, hw7⟩ := hrel
   have HF := Lib.hid hf
   have HOW := Lib.hid hown
   have HW7 := Lib.hid hw7
   have HLL := Lib.hid hll
   obtain ⟨pp, pc, rfl⟩ := ownG_len hown
   have kA := box_bel HKA7.out hw7
   have kS := box_bel HKS7.out hw7
   have a2 := box_cell kA 2
   have s1 := box_cell kS 1
   simp only [List.getElem?_toArray, List.getElem?_cons_zero, List.getElem?_cons_succ] at a2 s1
   have HKS8 := Lib.hid kS
   have HKR8 := Lib.hid (box_bel HKR7.out hw7)
   have hzr := hw7.size
   have HZR := Lib.hid hzr
   clear hf hown hw7 kA kS hzr
   by_cases hgo : i < a.st.files.length ∧ i < 10
   ·obtain ⟨hil, hit⟩ := hgo
    obtain ⟨ad, B, O, sp, rfl, had, y0, y1⟩ := (HP0.out.bel (HB7.out.trans HW7.out)) i hil
    obtain ⟨e1, e2⟩ := HA.out.each _ (List.getElem_mem hil)
    rw [drop_take_cons hil hit] at HF
    have hii : (i : Int) < (a.st.files.length : Int) := by omega
    have hit2 : (i : Int) < 10 := by omega
    obtain ⟨fn, hfn⟩ : ∃ fn, fn = a.st.files[i].n := ⟨_, rfl⟩
    obtain ⟨fl, hfl⟩ : ∃ fl, fl = a.st.files[i].l := ⟨_, rfl⟩
    rw [← hfn] at y0 e1
    rw [← hfl] at y1 e2
    have HFN := Lib.hid hfn
    have HFL := Lib.hid hfl
    obtain ⟨k3, hk3⟩ : ∃ k, k = pickN fn 3 := ⟨_, rfl⟩
    obtain ⟨k4, hk4⟩ : ∃ k, k = pickN fl 4 := ⟨_, rfl⟩
    have hk3l : k3 < 3 := by rw [hk3]; exact pickN_lt _ (by omega)
    have HK3 := Lib.hid hk3
    have HK4 := Lib.hid hk4
    have v1 : IntKind.i64.wrap (last + 1) = last + 1 := by rw [IntKind.wrap_i64]; omega
    have v2 : IntKind.i64.wrap (last + 1 + (k3 : Int)) = last + 1 + (k3 : Int) := by rw [IntKind.wrap_i64]; omega
    have HF2 := Lib.hid (show P = l ++ ((if last + 1 + (k3 : Int) < nx then [⟨last + 1 + (k3 : Int), (k4 : Int)⟩] else []) ++ stF nx ((a.st.files.take 10).drop (i + 1)) (last + 1 + (k3 : Int))) by
     rw [HF.out, hk3, hk4, hfn, hfl]; rfl)
    clear hfn hfl hk3 hk4 HF
    go_wp2_with (fail)
    refine (pick13_at fn _ 3 _ e1 (by omega) (by omega) rfl).mono ?_
    rintro e z ⟨rfl, rfl⟩
    rw [← HK3.out]
    by_cases hlt : last + 1 + (k3 : Int) < nx
    ·have HF3 := Lib.hid (show P = (l ++ [⟨last + 1 + (k3 : Int), (k4 : Int)⟩]) ++ stF nx ((a.st.files.take 10).drop (i + 1)) (last + 1 + (k3 : Int)) by rw [HF2.out, if_pos hlt, List.append_assoc])
     clear HF2
     go_wp2_with (fail)
     refine (pick13_at fl _ 4 _ e2 (by omega) (by omega) rfl).mono ?_
     rintro e z ⟨rfl, rfl⟩
     rw [← HK4.out]
     clear y0 y1 a2 s1
     go_wp2_with (at_builtin; refine stop_here ?_)
     refine go_on ?_
     refine append_glit (L := l) plOkP rfl _ _ rfl rfl HOW.out _ _ _ [(⟨last + 1 + (k3 : Int), (k4 : Int)⟩ : PL)] rfl rfl rfl (by have := HLL.out; simp only [List.length_cons, List.length_nil]; unfold maxLen; omega) (by have := HLL.out; simp only [List.length_cons, List.length_nil]; omega) HZR.out (Or.inl rfl) ?_
     intro v8 w8 ho8 hb8 hz8
     have HO8 := Lib.hid ho8
     obtain ⟨p8, c8, rfl⟩ := ownG_len ho8
     have HL8 := Lib.hid (show (l ++ [(⟨last + 1 + (k3 : Int), (k4 : Int)⟩ : PL)]).length = l.length + 1 by simp)
     have HB8 := Lib.hid (show Bel w7 w8 from keep_bel8 HW7.out hb8)
     clear ho8 hb8 hz8
     go_wp2_with (fail)
     go_roundw
     case rel => exact ⟨i + 1, last + 1 + (k3 : Int), l ++ [⟨last + 1 + (k3 : Int), (k4 : Int)⟩], by go_num, rfl, hil, hit, by omega, by have := HLL.out; simp; omega, HF3.out, by have h := HO8.out; rw [HL8.out] at h; exact h, HB8.out⟩
     case measure => simp [intOf]; omega
    ·have HF3 := Lib.hid (show P = l ++ stF nx ((a.st.files.take 10).drop (i + 1)) (last + 1 + (k3 : Int)) by rw [HF2.out, if_neg hlt, List.nil_append])
     clear HF2
     go_wp2_with (fail)
     go_roundw
     case rel => exact ⟨i + 1, last + 1 + (k3 : Int), l, by go_num, rfl, hil, hit, by omega, by have := HLL.out; omega, HF3.out, HOW.out, HW7.out⟩
     case measure => simp [intOf]; omega
   ·have HPL := Lib.hid (show P = l by rw [HF.out, List.drop_eq_nil_of_le (by rw [List.length_take]; omega)]; simp [stF])
    obtain ⟨⟨s0, s1, s2, s3, s4⟩, f0, f1, f2, f3, f4⟩ := box5 HKS8.out
    obtain ⟨⟨r0, r1, r2, r3, r4⟩, g0, g1, g2, g3, g4⟩ := box5 HKR8.out
    have hRS : R ≠ S := by have := HN.out; omega
    by_cases hil : i < a.st.files.length
    ·have hii : (i : Int) < (a.st.files.length : Int) := by omega
     have hit2 : ¬ (i : Int) < 10 := by omega
     go_wp2_with (fail)
     have hz1 := HN.out
     have hz2 := HZ7.out
     refine bodyPost_ret (v := .agg #[.slice pp l.length pc, .int .i64 nx, .int .i64 (was.seq + (m2 : Int)), .int .i64 (was.log + (m3 : Int)), .string a.st.mt]) (by simp [results, Tryz.results29, go_sem, r0, r1, r2, r3, r4, g0, g1, g2, g3, g4]) rfl ⟨pp, pc, by rw [HV.out, HPL.out], ?_, Or.inr (fun q hq => ?_), ?_⟩
     ·rw [HV.out]
      show PlsAt _ pp P
      rw [HPL.out]
      exact pls_ownP (((((((HOW.out.setCell (p := ⟨S, 0, none⟩) HZ7.out _).setCell (p := ⟨R, 0, none⟩) (show R < w7.heap.size by omega) _).setCell (p := ⟨R, 1, none⟩) (show R < w7.heap.size by omega) _).setCell (p := ⟨R, 2, none⟩) (show R < w7.heap.size by omega) _).setCell (p := ⟨R, 3, none⟩) (show R < w7.heap.size by omega) _).setCell (p := ⟨R, 4, none⟩) (show R < w7.heap.size by omega) _))
     ·have := own_addr HOW.out q hq
      omega
     ·have hb := HB7.out.trans HW7.out
      repeat' first | exact hb | refine Bel.setCell ?_ (by simp; omega) _ | refine Bel.drewN ?_ _
    ·have hii : ¬ (i : Int) < (a.st.files.length : Int) := by omega
     go_wp2_with (fail)
     have hz1 := HN.out
     have hz2 := HZ7.out
     refine bodyPost_ret (v := .agg #[.slice pp l.length pc, .int .i64 nx, .int .i64 (was.seq + (m2 : Int)), .int .i64 (was.log + (m3 : Int)), .string a.st.mt]) (by simp [results, Tryz.results29, go_sem, r0, r1, r2, r3, r4, g0, g1, g2, g3, g4]) rfl ⟨pp, pc, by rw [HV.out, HPL.out], ?_, Or.inr (fun q hq => ?_), ?_⟩
     ·rw [HV.out]
      show PlsAt _ pp P
      rw [HPL.out]
      exact pls_ownP (((((((HOW.out.setCell (p := ⟨S, 0, none⟩) HZ7.out _).setCell (p := ⟨R, 0, none⟩) (show R < w7.heap.size by omega) _).setCell (p := ⟨R, 1, none⟩) (show R < w7.heap.size by omega) _).setCell (p := ⟨R, 2, none⟩) (show R < w7.heap.size by omega) _).setCell (p := ⟨R, 3, none⟩) (show R < w7.heap.size by omega) _).setCell (p := ⟨R, 4, none⟩) (show R < w7.heap.size by omega) _))
     ·have := own_addr HOW.out q hq
      omega
     ·have hb := HB7.out.trans HW7.out
      repeat' first | exact hb | refine Bel.setCell ?_ (by simp; omega) _ | refine Bel.drewN ?_ _

def opM (p : SD) : SD := if (jopen manP p.M).1 = 0 then ⟨(jopen manP p.M).2.2, lastM initM (jopen manP p.M).2.1, 0⟩ else ⟨(jopen manP p.M).2.2, p.s, p.n⟩
def stM (s : MS) (p : SD) : SD := ⟨(mset p.s p.n s p.M).M, (mset p.s p.n s p.M).s, (mset p.s p.n s p.M).n⟩
def doM (a : NV) (p : SD) : SD :=
 if pickN a.op 10 = 7 then ⟨limS (pickN a.n 20 : Nat) p.M, p.s, p.n⟩
 else if pickN a.op 10 = 8 ∨ pickN a.op 10 = 9 then opM ⟨crashS a.left.L a.spoil.L p.M, p.s, p.n⟩
 else stM (stateM a p.s) p
theorem one_right {st : MS} (h : rightM st = true) (b : List (List UInt8)) : rightM (oneM st b) = true := by
 unfold oneM
 split
 ·rename_i t
  cases hu : unpackM t with
  | none => exact h
  | some x => exact (unpack_iff.1 hu).1
 ·exact h
theorem last_right : ∀ (L : List (List (List UInt8))) {st : MS}, rightM st = true → rightM (lastM st L) = true
 | [], _, h => h
 | b :: L, _, h => last_right L (one_right h b)
theorem set_right {s0 s : MS} {n : Nat} {M : RS} (h : rightM s0 = true) : rightM (mset s0 n s M).s = true := by
 cases hr : rightM s with
 | false => rw [mset_wrong hr]; exact h
 | true =>
  unfold mset
  repeat' split
  all_goals first
   | exact h
   | exact hr
structure Inv13 (k : Nat) (p : SD) : Prop where
 right : rightM p.s = true
 some_ : lastN manP p.M.L ≠ 0
 last : lastN manP p.M.L ≤ 2 * k + 1
 room : p.M.room ≤ 1000000
 n : p.n ≤ k
theorem jopen_last {M : RS} (h : M.ok) (h0 : lastN manP M.L ≠ 0) : lastN manP (jopen manP M).2.2.L = lastN manP M.L := by
 have hne : segsL manP M.L ≠ [] := fun e => h0 (last_zero.2 e)
 unfold jopen
 rw [if_neg (by rw [manP_name]; simp)]
 split
 ·rfl
 ·exact last_names (read_ok manP _ h).2
theorem Inv13.up {k : Nat} {p : SD} (h : Inv13 k p) : Inv13 (k + 1) p := ⟨h.right, h.some_, by have := h.last; omega, h.room, by have := h.n; omega⟩
theorem Inv13.crash {k : Nat} {p : SD} (h : Inv13 k p) (lf sp : List Int) : Inv13 k ⟨crashS lf sp p.M, p.s, p.n⟩ := by
 have hc := last_names (p := manP) (crash_names lf sp p.M.L 0)
 exact ⟨h.right, by show lastN manP (crashS lf sp p.M).L ≠ 0; rw [show lastN manP (crashS lf sp p.M).L = lastN manP p.M.L from hc]; exact h.some_, by show lastN manP (crashS lf sp p.M).L ≤ _; rw [show lastN manP (crashS lf sp p.M).L = lastN manP p.M.L from hc]; exact h.last, h.room, h.n⟩
theorem Inv13.open {k : Nat} {p : SD} (h : Inv13 k p) (hM : p.M.ok) : Inv13 k (opM p) := by
 have h1 := jopen_last hM h.some_
 have h2 := jopen_room manP p.M
 unfold opM
 split
 ·exact ⟨last_right _ (by decide), by rw [show lastN manP _ = _ from h1]; exact h.some_, by rw [show lastN manP _ = _ from h1]; exact h.last, by rw [show RS.room _ = _ from h2]; exact h.room, Nat.zero_le _⟩
 ·exact ⟨h.right, by rw [show lastN manP _ = _ from h1]; exact h.some_, by rw [show lastN manP _ = _ from h1]; exact h.last, by rw [show RS.room _ = _ from h2]; exact h.room, h.n⟩
theorem Inv13.set {k : Nat} {p : SD} (h : Inv13 k p) (hM : p.M.ok) (hk : k ≤ 1000) (s : MS) : Inv13 (k + 1) (stM s p) := by
 have h1 := mset_last (s0 := p.s) (n := p.n) (s := s) hM h.some_ (by have := h.last; omega)
 have h2 := mset_room (s0 := p.s) (n := p.n) (s := s) (M := p.M)
 have h3 := mset_n (s0 := p.s) (n := p.n) (s := s) (M := p.M)
 have h4 := h.last
 have h5 := h.n
 exact ⟨set_right h.right, h1.1, by show lastN manP (mset p.s p.n s p.M).M.L ≤ _; omega, by show (mset p.s p.n s p.M).M.room ≤ _; rw [h2]; exact h.room, by show (mset p.s p.n s p.M).n ≤ _; omega⟩
theorem Inv13.does {k : Nat} {p : SD} (h : Inv13 k p) (hM : p.M.ok) (hk : k ≤ 1000) (a : NV) : Inv13 (k + 1) (doM a p) := by
 unfold doM
 split
 ·exact (Inv13.up ⟨h.right, h.some_, h.last, h.room, h.n⟩)
 ·split
  ·exact ((h.crash a.left.L a.spoil.L).open (crash_ok hM _ _)).up
  ·exact h.set hM hk _
theorem Inv13.begin (room : Int) (h : room ≤ 1000000) : Inv13 0 ⟨mbM room, initM, 0⟩ := ⟨by show rightM initM = true; decide, by show lastN manP (mbM room).L ≠ 0; rw [mb_last]; omega, by show lastN manP (mbM room).L ≤ _; rw [mb_last]; omega, h, Nat.le_refl _⟩
theorem right_files {s : MS} (h : rightM s = true) : s.files.length ≤ 100000 := by have := (right_parts h).2.1; omega
theorem right_was {s : MS} (h : rightM s = true) : (0 ≤ s.next ∧ s.next ≤ 1099511627776) ∧ (0 ≤ s.seq ∧ s.seq ≤ 1099511627776) ∧ (0 ≤ s.log ∧ s.log ≤ 1099511627776) := by
 have h1 := nums_in h
 have a := h1 s.next (by simp [numsM])
 have b := h1 s.seq (by simp [numsM])
 have c := h1 s.log (by simp [numsM])
 exact ⟨a, b, c⟩
theorem small_act {a : NV} (h : NV.small a = true) : a.st.files.length ≤ 60 ∧ a.st.mt.size ≤ 1000 ∧ a.left.L.length ≤ 60 ∧ a.spoil.L.length ≤ 60 := by
 unfold NV.small asB at h
 simp only [Bool.and_eq_true, Bool.not_eq_true', Bool.or_eq_false_iff, decide_eq_true_eq, decide_eq_false_iff_not] at h
 omega
theorem state_small {a : NV} (h : NV.small a = true) (was : MS) : (stateM a was).files.length ≤ 60 ∧ (stateM a was).mt.size ≤ 1000 ∧ asB (stateM a was) = true := by
 obtain ⟨h1, h2, -, -⟩ := small_act h
 have h3 : (stateM a was).files.length ≤ 60 ∧ (stateM a was).mt.size ≤ 1000 := by
  unfold stateM
  split
  ·exact ⟨h1, h2⟩
  ·have := stF_len (was.next + (pickN a.st.next 5 : Nat)) (a.st.files.take 10) 0
   rw [List.length_take] at this
   exact ⟨by show (stF _ _ _).length ≤ 60; omega, h2⟩
 refine ⟨h3.1, h3.2, ?_⟩
 unfold asB
 simp only [Bool.and_eq_true, Bool.not_eq_true', Bool.or_eq_false_iff, decide_eq_true_eq, decide_eq_false_iff_not]
 omega
theorem own_lt13 {α : Type} {E : El α} {B : Nat} {w : World} {p : Option Addr} {n c : Nat} {l : List α} (h : OwnG E B w (.slice p n c) l) : ∀ q, p = some q → B ≤ q.block ∧ q.block < w.heap.size := fun q hq => by
 obtain ⟨_, ⟨e, _⟩ | ⟨g, cap, cur, hv, hg, hh, _⟩⟩ := h
 ·simp only [Value.slice.injEq] at e
  rw [hq] at e
  cases e.1
 ·simp only [Value.slice.injEq] at hv
  rw [hq] at hv
  have := Option.some.inj hv.1
  rw [this]; exact ⟨hg, box_lt hh⟩
def news (x y : World) : List Nat := (List.range y.heap.size).filter (fun k => decide (x.heap.size ≤ k))
theorem mem_news {x y : World} {k : Nat} : k ∈ news x y ↔ x.heap.size ≤ k ∧ k < y.heap.size := by
 unfold news
 rw [List.mem_filter, List.mem_range, decide_eq_true_eq]
 exact And.comm

theorem nact_at {w x : World} {p : Option Addr} {L : List NV} (h : NActs w p L) (hb : Bel w x) {k : Nat} (hk : k < L.length) : ∃ a B O sp, p = some a ∧ a.add (k * 9) = ⟨B, O, sp⟩ ∧
    (x.cell? ⟨B, O, sp⟩ = some (.int .i64 L[k].op) ∧ x.cell? ⟨B, O + 1, none⟩ = some (.int .i64 L[k].n) ∧ x.cell? ⟨B, O + 2, none⟩ = some (.slice L[k].p L[k].st.files.length L[k].c) ∧ x.cell? ⟨B, O + 3, none⟩ = some (.int .i64 L[k].st.next) ∧ x.cell? ⟨B, O + 4, none⟩ = some (.int .i64 L[k].st.seq) ∧
     x.cell? ⟨B, O + 5, none⟩ = some (.int .i64 L[k].st.log) ∧ x.cell? ⟨B, O + 6, none⟩ = some (.string L[k].st.mt) ∧ x.cell? ⟨B, O + 7, none⟩ = some (.slice L[k].left.p L[k].left.L.length L[k].left.cap) ∧ x.cell? ⟨B, O + 8, none⟩ = some (.slice L[k].spoil.p L[k].spoil.L.length L[k].spoil.cap)) ∧ NV.ok w L[k] := by
  obtain ⟨a, B, O, sp, h1, h2, h3, -⟩ := (h.bel hb) k hk
  obtain ⟨-, -, -, -, -, -, -, h4⟩ := h k hk
  exact ⟨a, B, O, sp, h1, h2, h3, h4⟩
theorem as_right {s : MS} (h : rightM s = true) : asB s = true := by
 obtain ⟨-, h1, -, -, -, h2⟩ := right_parts h
 unfold asB
 simp only [Bool.and_eq_true, Bool.not_eq_true', Bool.or_eq_false_iff, decide_eq_true_eq, decide_eq_false_iff_not]
 omega
theorem PlsAt.kr {w x y : World} {p : Option Addr} {l : List PL} {R : List Nat} (h : PlsAt x p l) (hk : KeepR R x y) (hx : Bel w x) (hy : Bel w y) (hR : l ≠ [] → ∀ k, p = some k → k.block ∈ R ∨ k.block < w.heap.size) : PlsAt y p l := fun i hi => by
 obtain ⟨ad, B, O, sp, h1, h2, h3, h4⟩ := h i hi
 have hb : ad.block = B := by
  have := congrArg Addr.block h2
  cases i <;> simpa [Addr.add] using this
 have he : y.heap[B]? = x.heap[B]? := by
  rcases hR (fun e => by rw [e] at hi; simp at hi) ad h1 with h | h
  ·exact hk B (hb ▸ h)
  ·rw [hb] at h
   exact (Below.block hy B h).trans (Below.block hx B h).symm
 exact ⟨ad, B, O, sp, h1, h2, (World.cell?_of_block he).trans h3, (World.cell?_of_block he).trans h4⟩
set_option maxRecDepth 100000

theorem state_nil {a : NV} (h : a.st.files = []) (was : MS) : (stateM a was).files = [] := by
 unfold stateM
 split
 ·exact h
 ·rw [h]; rfl
theorem pickN_ok (c : Int) (n : Nat) (hn : 0 < n) (hn2 : n ≤ 1000000) : in64 (pickN c n : Nat) := by
 have := pickN_lt c hn
 exact ⟨by omega, by omega⟩
theorem LM.swap {w x y : World} {ws ms b r mb jb rb qb mb1 jb1 rb1 qb1 : Nat} {p q p1 q1 : SD} {R : List Nat} (h : LM w x ws ms b r mb jb rb qb p q R) (ht : TM w y b r mb1 jb1 rb1 qb1 p1 q1 (ws :: ms :: R)) (hk : KeepR (ws :: ms :: R) x y) :
  LM w ((y.setCell ⟨ws, 1, none⟩ (.pointer (some ⟨mb1, 0, none⟩))).setCell ⟨ms, 1, none⟩ (.pointer (some ⟨rb1, 0, none⟩))) ws ms b r mb1 jb1 rb1 qb1 p1 q1 R := by
 have h1 := (hk ws (by simp)).trans h.sw
 have h2 := (hk ms (by simp)).trans h.sm
 have k1 := keep_set y ws 1 (.pointer (some ⟨mb1, 0, none⟩))
 have k2 := keep_set (y.setCell ⟨ws, 1, none⟩ (.pointer (some ⟨mb1, 0, none⟩))) ms 1 (.pointer (some ⟨rb1, 0, none⟩))
 have ha := h.apart
 exact ⟨(ht.other k1 (fun k hk' => by rw [List.mem_singleton] at hk'; subst hk'; exact ⟨h.new.1, by simp⟩)).other k2 (fun k hk' => by rw [List.mem_singleton] at hk'; subst hk'; exact ⟨h.new.2, by simp⟩),
  k2.at (blk_set h1 1 _) (by rw [List.mem_singleton]; exact ha), blk_set (k1.at h2 (by rw [List.mem_singleton]; exact fun e => ha e.symm)) 1 _, h.new, h.apart⟩

abbrev Bt := List (List (List UInt8))
structure HoldS (p : List UInt8) (L : List FI) (f : Nat → Bt) : Prop where
 ne : segsL p L ≠ []
 seg : ∀ n ∈ segsL p L, getF (fileN p n) L = some ⟨fileN p n, frsL (f n), (frsL (f n)).length⟩
 good : ∀ n, ∀ l ∈ f n, goodB l
def pairF (p : List UInt8) (L : List FI) (f : Nat → Bt) : List (Nat × List (List UInt8)) := (segsL p L).flatMap fun n => (f n).map fun b => (n, b)
theorem pair_all (p : List UInt8) (L : List FI) (f : Nat → Bt) : (pairF p L f).map Prod.snd = allF p L f := by
 unfold pairF allF
 rw [List.map_flatMap]
 congr 1
 funext n
 rw [List.map_map]
 exact List.map_id _
theorem pair_split {p : List UInt8} {L : List FI} (h : segsL p L ≠ []) (f : Nat → Bt) : pairF p L f = ((segsL p L).dropLast.flatMap fun n => (f n).map fun b => (n, b)) ++ (f (lastN p L)).map fun b => (lastN p L, b) := by
 unfold pairF
 conv => lhs; rw [segs_split h]
 rw [List.flatMap_append]; simp
theorem frs_snoc (bs : Bt) (l : List (List UInt8)) : frsL (bs ++ [l]) = frsL bs ++ frameL (encL l) := by
 unfold frsL; rw [List.flatMap_append]; simp
theorem flatMap_ext {α β : Type} {l : List α} {f g : α → List β} (h : ∀ x ∈ l, f x = g x) : l.flatMap f = l.flatMap g := by
 induction l with
 | nil => rfl
 | cons x l ih => rw [List.flatMap_cons, List.flatMap_cons, h x (by simp), ih (fun y hy => h y (by simp [hy]))]
theorem HoldS.x {p : List UInt8} {L : List FI} {f : Nat → Bt} (h : HoldS p L f) : HoldX p L f [] :=
 ⟨h.ne, fun n hn _ => ⟨_, h.seg n hn, rfl⟩, ⟨_, h.seg _ (last_mem h.ne), by simp⟩, h.good⟩
theorem HoldS.names {p : List UInt8} {L K : List FI} {f : Nat → Bt} (h : HoldS p L f) (hK : K = L) : HoldS p K f := hK ▸ h
theorem hold_turn {p : List UInt8} {M : RS} {f : Nat → Bt} (hM : M.ok) (h9 : lastN p M.L < 9999999) (h : HoldS p M.L f) :
  ((jturn p M).1 = 0 → ∃ f', HoldS p (jturn p M).2.L f' ∧ pairF p (jturn p M).2.L f' = pairF p M.L f ∧ (jturn p M).2.gone = false) ∧ ((jturn p M).1 ≠ 0 → (jturn p M).2.L = M.L) := by
 obtain ⟨h1, h2⟩ := jturn_segs hM h9
 refine ⟨fun h0 => ?_, h2⟩
 obtain ⟨a1, a2, a3, a4, a5⟩ := h1 h0
 have hlt : ∀ n ∈ segsL p M.L, n ≠ lastN p M.L + 1 := fun n hn => by have := last_max hn; omega
 refine ⟨fun n => if n = lastN p M.L + 1 then [] else f n, ⟨by rw [a1]; simp, fun n hn => ?_, fun n l hl => ?_⟩, ?_, a3⟩
 ·by_cases hnl : n = lastN p M.L + 1
  ·simp only [if_pos hnl]
   subst hnl
   exact a4
  ·simp only [if_neg hnl]
   rw [a1, List.mem_append] at hn
   rcases hn with hn | hn
   ·rw [a5 _ (fun e => hnl (file_inj e))]
    exact h.seg n hn
   ·rw [List.mem_singleton] at hn; exact absurd hn hnl
 ·by_cases hnl : n = lastN p M.L + 1
  ·simp only [if_pos hnl] at hl; cases hl
  ·simp only [if_neg hnl] at hl; exact h.good n l hl
 ·unfold pairF
  rw [a1, List.flatMap_append]
  simp only [List.flatMap_cons, List.flatMap_nil, if_true, List.map_nil, List.append_nil]
  exact flatMap_ext (fun n hn => by rw [if_neg (hlt n hn)])
def WrPost (p : List UInt8) (M M' : RS) (f : Nat → Bt) (l : List (List UInt8)) (e : Int) : Prop :=
 (e = 0 ∧ ∃ f', HoldS p M'.L f' ∧ pairF p M'.L f' = pairF p M.L f ++ [(lastN p M'.L, l)]) ∨
 (e ≠ 0 ∧ ∃ f', HoldS p M'.L f' ∧ pairF p M'.L f' = pairF p M.L f) ∨
 (e = 7 ∧ M'.gone = true ∧ goodB l ∧ ∃ f', HoldX p M'.L f' (frameL (encL l)) ∧ pairF p M'.L f' = pairF p M.L f ∧ (∀ n ∈ segsL p M'.L, n ≠ lastN p M'.L → ∀ y, getF (fileN p n) M'.L = some y → y.safe = y.bytes.length) ∧
  (∀ y, getF (fileN p (lastN p M'.L)) M'.L = some y → y.safe = (frsL (f' (lastN p M'.L))).length))
theorem hold_put {p : List UInt8} {M : RS} {f : Nat → Bt} (hM : M.ok) (h : HoldS p M.L f) {l : List (List UInt8)} (hl : goodB l) :
  WrPost p M (jput (fileN p (lastN p M.L)) (frameL (encL l)) M).2 f l (jput (fileN p (lastN p M.L)) (frameL (encL l)) M).1 := by
 have hlm := last_mem h.ne
 have hseg := h.seg _ hlm
 obtain ⟨nl, hnl⟩ : ∃ nl, nl = lastN p M.L := ⟨_, rfl⟩
 rw [← hnl] at hlm hseg ⊢
 obtain ⟨y, hy⟩ : ∃ y : FI, y = ⟨fileN p nl, frsL (f nl) ++ frameL (encL l), (frsL (f nl)).length⟩ := ⟨_, rfl⟩
 have haF : addF (fileN p nl) (frameL (encL l)) M.L = y := by unfold addF; rw [hseg, hy]
 have hyn : y.name = fileN p nl := by rw [hy]
 have hsame : ∀ M' : RS, M'.L = M.L → HoldS p M'.L f ∧ pairF p M'.L f = pairF p M.L f := fun M' e => by rw [e]; exact ⟨h, rfl⟩
 unfold jput
 by_cases ha : (addS (fileN p nl) (frameL (encL l)) M).1 = 0
 ·rw [if_neg (by simp [ha])]
  -- added
  have hadd : addS (fileN p nl) (frameL (encL l)) M = (0, { (turnS M).2 with L := insS y M.L }) ∧ M.gone = false ∧ M.turns ≠ 0 := by
   unfold addS at ha ⊢
   split at ha
   ·rename_i hadm
    rw [if_pos hadm, haF]
    rw [haF] at ha
    unfold chgS at ha ⊢
    split at ha
    ·cases ha
    ·rename_i ht; rw [if_neg ht]; exact ⟨rfl, (adm_zero hadm).1, ht⟩
   ·rename_i hadm; exact absurd ha hadm
  obtain ⟨had, hg, ht⟩ := hadd
  obtain ⟨M1, hM1⟩ : ∃ M1 : RS, M1 = { (turnS M).2 with L := insS y M.L } := ⟨_, rfl⟩
  rw [← hM1] at had
  rw [had]
  have hg1 : M1.gone = false := by rw [hM1]; show (turnS M).2.gone = false; unfold turnS; rw [if_neg ht]; split <;> exact hg
  have hL1 : M1.L = insS y M.L := by rw [hM1]
  have hins : ∀ m, getF m M1.L = if m = fileN p nl then some y else getF m M.L := fun m => by rw [hL1, getF_ins y hM.srt, hyn]
  have hM1ok : M1.ok := by have := add_ok hM (fileN p nl) (frameL (encL l)); rwa [had] at this
  have hnm1 : M1.L.map (·.name) = M.L.map (·.name) := by
   have := add_names hM (nm := fileN p nl) (by rw [hseg]; rfl) (frameL (encL l))
   rwa [had] at this
  have hs1 := segs_names (p := p) hnm1
  have hl1 := last_names (p := p) hnm1
  obtain ⟨y2, hy2⟩ : ∃ y2 : FI, y2 = { y with safe := y.bytes.length } := ⟨_, rfl⟩
  have hfl : flushS (fileN p nl) M1 = chgS M1 (insS y2 M1.L) := by
   unfold flushS onS
   rw [if_neg (by rw [hg1]; simp), hins, if_pos rfl, hy2]
  have hnm2 : (flushS (fileN p nl) M1).2.L.map (·.name) = M1.L.map (·.name) := flush_names hM1ok _
  rw [hfl] at hnm2 ⊢
  have hs2 := segs_names (p := p) hnm2
  have hl2 := last_names (p := p) hnm2
  have hne1 : ∀ n ∈ segsL p M.L, n ≠ nl → getF (fileN p n) M1.L = some ⟨fileN p n, frsL (f n), (frsL (f n)).length⟩ := fun n hn hne => by
   rw [hins, if_neg (fun e => hne (file_inj e))]; exact h.seg n hn
  by_cases ht1 : M1.turns = 0
  ·-- not flushed
   have hc : chgS M1 (insS y2 M1.L) = (7, (turnS M1).2) := by unfold chgS; rw [if_pos ht1]
   rw [hc]
   have htg : (turnS M1).2 = { M1 with gone := true } := by unfold turnS; rw [if_pos ht1]
   rw [htg]
   refine Or.inr (Or.inr ⟨rfl, rfl, hl, f, ⟨by rw [hs1]; exact h.ne, fun n hn hne => ?_, ⟨y, ?_, ?_⟩, h.good⟩, ?_, fun n hn hne z hz => ?_, fun z hz => ?_⟩)
   ·simp only [hs1, hl1, ← hnl] at hn hne ⊢
    exact ⟨_, hne1 n hn hne, rfl⟩
   ·simp only [hl1, ← hnl]; rw [hins, if_pos rfl]
   ·simp only [hl1, ← hnl]; rw [hy]
   ·unfold pairF; simp only [hs1]
   ·simp only [hs1, hl1, ← hnl] at hn hne hz ⊢
    rw [hne1 n hn hne] at hz
    obtain rfl := Option.some.inj hz
    rfl
   ·simp only [hl1, ← hnl] at hz ⊢
    rw [hins, if_pos rfl] at hz
    obtain rfl := Option.some.inj hz
    rw [hy]
  ·have hc : chgS M1 (insS y2 M1.L) = (0, { (turnS M1).2 with L := insS y2 M1.L }) := by unfold chgS; rw [if_neg ht1]
   rw [hc] at hs2 hl2 ⊢
   simp only at hs2 hl2
   have hy2n : y2.name = fileN p nl := by rw [hy2]; exact hyn
   have hins2 : ∀ m, getF m (insS y2 M1.L) = if m = fileN p nl then some y2 else getF m M1.L := fun m => by rw [getF_ins y2 hM1ok.srt, hy2n]
   have hseg2 : segsL p (insS y2 M1.L) = segsL p M.L := hs2.trans hs1
   have hlast2 : lastN p (insS y2 M1.L) = nl := by rw [hl2, hl1, hnl]
   refine Or.inl ⟨rfl, fun n => if n = nl then f nl ++ [l] else f n, ⟨by simp only; rw [hseg2]; exact h.ne, fun n hn => ?_, fun n b hb => ?_⟩, ?_⟩
   ·try simp only at hn ⊢
    rw [hseg2] at hn
    by_cases hne : n = nl
    ·subst hne
     rw [hins2, if_pos rfl, if_pos rfl, hy2, hy, frs_snoc]
    ·rw [hins2, if_neg (fun e => hne (file_inj e)), if_neg hne]
     exact hne1 n hn hne
   ·try simp only at hb
    split at hb
    ·rcases List.mem_append.1 hb with hb | hb
     ·exact h.good nl b hb
     ·rw [List.mem_singleton] at hb; subst hb; exact hl
    ·exact h.good n b hb
   ·try simp only
    rw [hlast2, pair_split (by rw [hseg2]; exact h.ne), pair_split h.ne, hseg2, hlast2, ← hnl, if_pos rfl, List.map_append, List.append_assoc]
    congr 1
    refine flatMap_ext (fun n hn => ?_)
    have := (segs_front hM.srt h.ne n hn).1
    rw [← hnl] at this
    rw [if_neg this]
 ·rw [if_pos (by exact ha)]
  refine Or.inr (Or.inl ⟨ha, f, ?_⟩)
  have hLL : (addS (fileN p nl) (frameL (encL l)) M).2.L = M.L := by
   unfold addS at ha ⊢
   split
   ·rename_i hadm
    rw [if_pos hadm] at ha
    unfold chgS at ha ⊢
    split
    ·exact turn_L M
    ·rename_i ht; rw [if_neg ht] at ha; exact absurd rfl ha
   ·rfl
  exact hsame _ hLL
theorem hold_write {p : List UInt8} {most : Int} {M : RS} {f : Nat → Bt} (hM : M.ok) (h9 : lastN p M.L < 9999999) (h : HoldS p M.L f) (l : List (List UInt8)) :
  WrPost p M (jwrite p most l M).2 f l (jwrite p most l M).1 := by
 have hsame : ∀ M' : RS, M'.L = M.L → HoldS p M'.L f ∧ pairF p M'.L f = pairF p M.L f := fun M' e => by rw [e]; exact ⟨h, rfl⟩
 unfold jwrite
 split
 ·rename_i hb; exact Or.inr (Or.inl ⟨hb, f, h, rfl⟩)
 ·rename_i hb
  have hb0 : (batchS l).2 = 0 := by simpa using hb
  obtain ⟨hb1, hb2, hb3⟩ := batch_ok hb0
  split
  ·exact Or.inr (Or.inl ⟨by simp, f, h, rfl⟩)
  ·split
   ·rename_i hr
    refine Or.inr (Or.inl ⟨hr, f, hsame _ ?_⟩)
    unfold jroom at hr ⊢
    split
    ·rename_i hc
     rw [if_pos hc] at hr
     exact (hold_turn hM h9 h).2 hr
    ·rfl
   ·rename_i hr
    have hr0 : (jroom p most M).1 = 0 := by simpa using hr
    have hM1 : ∃ f1, HoldS p (jroom p most M).2.L f1 ∧ pairF p (jroom p most M).2.L f1 = pairF p M.L f := by
     unfold jroom at hr0 ⊢
     split
     ·rename_i hc
      rw [if_pos hc] at hr0
      obtain ⟨f', q1, q2, -⟩ := (hold_turn hM h9 h).1 hr0
      exact ⟨f', q1, q2⟩
     ·exact ⟨f, h, rfl⟩
    obtain ⟨f1, q1, q2⟩ := hM1
    have hw := hold_put (jroom_ok hM p most) q1 (l := l) ⟨hb2, hb3⟩
    rw [hb1]
    unfold WrPost at hw ⊢
    rw [q2] at hw
    exact hw
def Alive (M : RS) : Prop := M.turns = -1 ∧ M.gone = false
theorem chg_alive {M : RS} (h : Alive M) (L' : List FI) : (chgS M L').1 = 0 ∧ Alive (chgS M L').2 := by
 obtain ⟨h1, h2⟩ := h
 unfold chgS turnS
 rw [if_neg (by omega), if_neg (by omega), if_neg (by omega)]
 exact ⟨rfl, h1, h2⟩
theorem add_alive {M : RS} (h : Alive M) (nm s : List UInt8) : Alive (addS nm s M).2 := by
 unfold addS
 split
 ·exact (chg_alive h _).2
 ·exact h
theorem on_alive {M : RS} (h : Alive M) (nm : List UInt8) (k : FI → Int × RS) (hk : ∀ y, Alive (k y).2) : Alive (onS nm M k).2 := by
 unfold onS
 split
 ·exact h
 ·cases getF nm M.L with
  | none => exact h
  | some y => exact hk y
theorem flush_alive {M : RS} (h : Alive M) (nm : List UInt8) : Alive (flushS nm M).2 := on_alive h nm _ fun y => (chg_alive h _).2
theorem jturn_alive {M : RS} (h : Alive M) (p : List UInt8) : Alive (jturn p M).2 := add_alive h _ _
theorem jwrite_alive {M : RS} (h : Alive M) (p : List UInt8) (most : Int) (l : List (List UInt8)) : Alive (jwrite p most l M).2 := by
 have hr : Alive (jroom p most M).2 := by unfold jroom; split; exact jturn_alive h p; exact h
 unfold jwrite
 split
 ·exact h
 ·split
  ·exact h
  ·split
   ·exact hr
   ·unfold jput
    split
    ·exact add_alive hr _ _
    ·exact flush_alive (add_alive hr _ _) _
theorem hold_trim {p : List UInt8} {f : Nat → Bt} (k : Nat) : ∀ (l : List Nat) {M : RS}, M.ok → Alive M → segsL p M.L = l → HoldS p M.L f →
  (trimL p k l M).1 = 0 ∧ Alive (trimL p k l M).2 ∧ HoldS p (trimL p k l M).2.L f ∧ segsL p (trimL p k l M).2.L = l.dropWhile (fun n => decide (n < min k (lastN p M.L))) ∧ lastN p (trimL p k l M).2.L = lastN p M.L
 | [], M, hM, ha, hl, h => absurd hl h.ne
 | [n], M, hM, ha, hl, h => by
  have hn : lastN p M.L = n := by unfold lastN; rw [hl]; rfl
  refine ⟨rfl, ha, h, ?_, rfl⟩
  simp only [trimL]
  rw [hl, hn, List.dropWhile_cons, if_neg (by simp; omega)]
 | n :: m :: r, M, hM, ha, hl, h => by
  have hnd := segs_nodup p hM.srt
  have hsrt := segs_sorted p M.L
  have hlast : lastN p M.L ∈ m :: r := by
   have : lastN p M.L = (m :: r).getLast?.getD 0 := by unfold lastN; rw [hl, last_drop (n := n) (r := m :: r) (by simp)]
   rw [this, List.getLast?_eq_some_getLast (by simp)]
   exact List.getLast_mem _
  rw [hl] at hnd hsrt
  have hnm : n < lastN p M.L := by
   have h1 := (List.pairwise_cons.1 hsrt).1 _ hlast
   have h2 : n ≠ lastN p M.L := fun e => (List.nodup_cons.1 hnd).1 (e ▸ hlast)
   omega
  simp only [trimL]
  split
  ·rename_i hlt
   have hnseg : n ∈ segsL p M.L := by rw [hl]; simp
   have hd : dropS (fileN p n) M = chgS M (outS (fileN p n) M.L) := by
    unfold dropS onS
    rw [if_neg (by rw [ha.2]; simp), h.seg n hnseg]
   have hc := chg_alive ha (outS (fileN p n) M.L)
   rw [← hd] at hc
   rw [if_pos hc.1]
   have hL := (drop_L M (fileN p n)).1 hc.1
   have hs2 : segsL p (dropS (fileN p n) M).2.L = m :: r := by rw [hL]; exact segs_out hM.srt hl
   have hok2 := drop_ok hM (fileN p n)
   have hl2 : lastN p (dropS (fileN p n) M).2.L = lastN p M.L := by unfold lastN; rw [hs2, hl, last_drop (n := n) (r := m :: r) (by simp)]
   have hH : HoldS p (dropS (fileN p n) M).2.L f := by
    refine ⟨by rw [hs2]; simp, fun q hq => ?_, h.good⟩
    rw [hs2] at hq
    have hqn : q ≠ n := fun e => (List.nodup_cons.1 hnd).1 (e ▸ hq)
    rw [hL, getF_out _ hM.srt, if_neg (fun e => hqn (file_inj e))]
    exact h.seg q (by rw [hl]; exact List.mem_cons_of_mem _ hq)
   obtain ⟨q1, q2, q3, q4, q5⟩ := hold_trim k (m :: r) hok2 hc.2 hs2 hH
   refine ⟨q1, q2, q3, ?_, q5.trans hl2⟩
   rw [q4, hl2]
   conv => rhs; rw [List.dropWhile_cons]
   rw [if_pos (by simp; omega)]
  ·rename_i hlt
   refine ⟨rfl, ha, h, ?_, rfl⟩
   rw [hl, List.dropWhile_cons, if_neg (by simp; omega)]

def KpInv (p : List UInt8) (M : RS) (W N : Bt) : Prop :=
 (∃ f, HoldS p M.L f ∧ allF p M.L f = W) ∨
 (M.gone = true ∧ ∃ f l, goodB l ∧ N = W ++ [l] ∧ HoldX p M.L f (frameL (encL l)) ∧ allF p M.L f = W ∧ (∀ n ∈ segsL p M.L, n ≠ lastN p M.L → ∀ y, getF (fileN p n) M.L = some y → y.safe = y.bytes.length) ∧
  (∀ y, getF (fileN p (lastN p M.L)) M.L = some y → y.safe = (frsL (f (lastN p M.L))).length))
theorem kp_crash {p : List UInt8} {M : RS} {W N : Bt} (hM : M.ok) (h : KpInv p M W N) (lf sp : List Int) :
  ∃ f r l, HoldX p (crashS lf sp M).L f r ∧ allF p (crashS lf sp M).L f = W ∧ (((readL r).1 = [] ∧ (readL r).2.1 = 0) ∨ (r = frameL (encL l) ∧ goodB l)) ∧ (r = frameL (encL l) → goodB l → r ≠ [] → N = W ++ [l]) ∧ Saved (crashS lf sp M).L := by
 have hL : (crashS lf sp M).L = crashF lf sp 0 M.L := rfl
 have hnm := crash_names lf sp M.L 0
 have hsg := segs_names (p := p) hnm
 have hln := last_names (p := p) hnm
 have hsv : Saved (crashF lf sp 0 M.L) := jcrash_saved lf sp M.L 0 (fun x hx => (each_ok hM x hx).2.1)
 rw [hL]
 rcases h with ⟨f, h, hf⟩ | ⟨-, f, l, hl, hN, h, hf, h3, h4⟩
 ·have hx := h.x
  have hst : ∀ n ∈ segsL p M.L, getF (fileN p n) (crashF lf sp 0 M.L) = some ⟨fileN p n, frsL (f n), (frsL (f n)).length⟩ := fun n hn => by
   obtain ⟨j, hj⟩ := (jcrash_get lf sp (fileN p n) M.L 0).2 _ (h.seg n hn)
   rw [hj]
   unfold jcrO
   rw [if_pos rfl]
  refine ⟨f, [], [], ⟨by rw [hsg]; exact h.ne, fun n hn _ => ?_, ?_, h.good⟩, ?_, Or.inl ⟨rfl, rfl⟩, fun _ _ h => absurd rfl h, hsv⟩
  ·rw [hsg] at hn; exact ⟨_, hst n hn, rfl⟩
  ·rw [hln]; exact ⟨_, hst _ (last_mem h.ne), by simp⟩
  ·unfold allF at hf ⊢; rw [hsg]; exact hf
 ·obtain ⟨r, h5, h6⟩ := crash_holdx hM lf sp hl.2 h h3 h4
  refine ⟨f, r, l, h5, ?_, ?_, fun _ _ _ => hN, hsv⟩
  ·unfold allF at hf ⊢; rw [hsg]; exact hf
  ·rcases h6 with h6 | h6
   ·exact Or.inl h6
   ·exact Or.inr ⟨h6, hl⟩
theorem frame_ne (x : List UInt8) : frameL x ≠ [] := by
 intro h
 have := congrArg List.length h
 rw [frame_len] at this
 simp at this
theorem kp_end {p : List UInt8} {M : RS} {W N : Bt} (hM : M.ok) (hp : nameJ p = true) (h : KpInv p M W N) (lf sp lf2 sp2 : List Int) (t : Int) (ht : in64 t) {e1 : Int} {A1 : Bt} {M2 : RS} (hj : jopen p (limS t (crashS lf sp M)) = (e1, A1, M2)) :
  (e1 = 0 → A1 = W ∨ A1 = N) ∧ (e1 ≠ 0 → (jopen p (crashS lf2 sp2 M2)).1 = 0 ∧ ((jopen p (crashS lf2 sp2 M2)).2.1 = W ∨ (jopen p (crashS lf2 sp2 M2)).2.1 = N)) := by
 obtain ⟨f, r, l, h1, h2, h3, h4, h5⟩ := kp_crash hM h lf sp
 have hok : (limS t (crashS lf sp M)).ok := lim_ok (crash_ok hM lf sp) t ht
 have ho := open_hold (M := limS t (crashS lf sp M)) hok rfl hp h1 h3 h5
 have hok2 := jopen_ok p hok
 rw [hj] at ho hok2
 obtain ⟨o1, -, o3, -⟩ := ho
 refine ⟨fun he => ?_, fun he => ?_⟩
 ·rcases o1 he with o1 | ⟨o1, o2⟩
  ·left; rw [← h2]; exact o1
  ·right
   have hg : goodB l := by
    rcases h3 with ⟨q1, q2⟩ | ⟨-, q⟩
    ·exfalso
     have : (jopen p (limS t (crashS lf sp M))).2.1 = allF p (limS t (crashS lf sp M)).L f ++ [l] := by rw [hj]; exact o2
     have ho2 := open_hold (l := []) (M := limS t (crashS lf sp M)) hok rfl hp h1 (Or.inl ⟨q1, q2⟩) h5
     rw [hj] at ho2
     rcases ho2.1 he with q | ⟨q, -⟩
     ·have e := q.symm.trans o2
      have := congrArg List.length e
      simp at this
     ·have hrr : readL (frameL (encL [])) = ([[]], (frameL (encL ([] : List (List UInt8)))).length, 0) := by
       have := read_frs (bs := [[]]) (fun m hm => by rw [List.mem_singleton] at hm; subst hm; exact ⟨by simp, by decide⟩) []
       simp only [frsL, List.flatMap_cons, List.flatMap_nil, List.append_nil, read_nil] at this
       rw [this]; simp
      rw [q, hrr] at q1
      cases q1
    ·exact q
   rw [h4 o1 hg (by rw [o1]; exact frame_ne _), ← h2]
   exact o2
 ·obtain ⟨s1, s2, r', s3, s4, s5⟩ := o3 he
  simp only at s1 s2 s3 hok2
  have hL : (crashS lf2 sp2 M2).L = M2.L := crashF_saved lf2 sp2 M2.L 0 s2
  have ho2 := open_hold (l := []) (M := crashS lf2 sp2 M2) (crash_ok hok2 lf2 sp2) rfl hp (f := f) (r := r') (by rw [hL]; exact s3) (Or.inl ⟨s4, s5⟩) (by rw [hL]; exact s2)
  obtain ⟨o1', o2', -, -⟩ := ho2
  have h0 := o2' rfl
  refine ⟨h0, Or.inl ?_⟩
  have hall : allF p (crashS lf2 sp2 M2).L f = W := by
   rw [hL, ← h2]
   unfold allF
   rw [s1]; rfl
  rcases o1' h0 with o | ⟨q, -⟩
  ·rw [o, hall]
  ·exfalso
   have hrr : readL (frameL (encL [])) = ([[]], (frameL (encL ([] : List (List UInt8)))).length, 0) := by
    have := read_frs (bs := [[]]) (fun m hm => by rw [List.mem_singleton] at hm; subst hm; exact ⟨by simp, by decide⟩) []
    simp only [frsL, List.flatMap_cons, List.flatMap_nil, List.append_nil, read_nil] at this
    rw [this]; simp
   rw [q, hrr] at s4
   cases s4

theorem chg_two (M : RS) (L' : List FI) : ((chgS M L').1 = 0 ∧ (chgS M L').2.L = L' ∧ (chgS M L').2.gone = M.gone) ∨ ((chgS M L').1 = 7 ∧ (chgS M L').2.L = M.L ∧ (chgS M L').2.gone = true) := by
 unfold chgS
 split
 ·rename_i h
  exact Or.inr ⟨rfl, turn_L M, by unfold turnS; rw [if_pos h]⟩
 ·rename_i h
  refine Or.inl ⟨rfl, rfl, ?_⟩
  show (turnS M).2.gone = M.gone
  unfold turnS
  rw [if_neg h]
  split <;> rfl
theorem trim_hold {p : List UInt8} {f : Nat → Bt} (bf : Int) : ∀ (l : List Nat) {M : RS}, M.ok → M.gone = false → segsL p M.L = l → HoldS p M.L f →
  (((trimL p bf l M).1 = 0 ∧ (trimL p bf l M).2.gone = false) ∨ ((trimL p bf l M).1 = 7 ∧ (trimL p bf l M).2.gone = true)) ∧ HoldS p (trimL p bf l M).2.L f ∧ ∃ m, m < l.length ∧ segsL p (trimL p bf l M).2.L = l.drop m
 | [], M, hM, ha, hl, h => absurd hl h.ne
 | [n], M, hM, ha, hl, h => ⟨Or.inl ⟨rfl, ha⟩, h, 0, by simp, hl⟩
 | n :: m :: r, M, hM, ha, hl, h => by
  have hnd := segs_nodup p hM.srt
  rw [hl] at hnd
  simp only [trimL]
  split
  ·have hnseg : n ∈ segsL p M.L := by rw [hl]; simp
   have hd : dropS (fileN p n) M = chgS M (outS (fileN p n) M.L) := by
    unfold dropS onS
    rw [if_neg (by rw [ha]; simp), h.seg n hnseg]
   have hok2 := drop_ok hM (fileN p n)
   have hc := chg_two M (outS (fileN p n) M.L)
   rw [← hd] at hc
   rcases hc with ⟨c1, c2, c3⟩ | ⟨c1, c2, c3⟩
   ·rw [if_pos c1]
    have hs2 : segsL p (dropS (fileN p n) M).2.L = m :: r := by rw [c2]; exact segs_out hM.srt hl
    have hH : HoldS p (dropS (fileN p n) M).2.L f := by
     refine ⟨by rw [hs2]; simp, fun q hq => ?_, h.good⟩
     rw [hs2] at hq
     have hqn : q ≠ n := fun e => (List.nodup_cons.1 hnd).1 (e ▸ hq)
     rw [c2, getF_out _ hM.srt, if_neg (fun e => hqn (file_inj e))]
     exact h.seg q (by rw [hl]; exact List.mem_cons_of_mem _ hq)
    obtain ⟨q1, q2, k, q3, q4⟩ := trim_hold bf (m :: r) hok2 (by rw [c3]; exact ha) hs2 hH
    exact ⟨q1, q2, k + 1, by simp at q3 ⊢; omega, by rw [q4]; rfl⟩
   ·rw [if_neg (by rw [c1]; omega)]
    refine ⟨Or.inr ⟨c1, c3⟩, ?_, 0, by simp, by rw [c2]; exact hl⟩
    rw [c2]; exact h
  ·exact ⟨Or.inl ⟨rfl, ha⟩, h, 0, by simp, hl⟩
theorem add_gone {nm s : List UInt8} {M : RS} (hg : M.gone = false) (h : (addS nm s M).1 = 0) : (addS nm s M).2.gone = false := by
 unfold addS at h ⊢
 split
 ·rename_i ha
  rw [if_pos ha] at h
  rw [(chg_zero h).2]; exact hg
 ·exact hg
theorem flush_gone {nm : List UInt8} {M : RS} (hg : M.gone = false) (h : (flushS nm M).1 = 0) : (flushS nm M).2.gone = false := by
 unfold flushS onS at h ⊢
 rw [if_neg (by rw [hg]; simp)] at h ⊢
 cases hy : getF nm M.L with
 | none => rw [hy] at h; cases h
 | some y =>
  rw [hy] at h
  simp only at h ⊢
  rw [(chg_zero h).2]; exact hg
theorem jwrite_gone {p : List UInt8} {most : Int} {l : List (List UInt8)} {M : RS} (hg : M.gone = false) (h : (jwrite p most l M).1 = 0) : (jwrite p most l M).2.gone = false := by
 unfold jwrite at h ⊢
 split
 ·exact hg
 ·rename_i h1
  rw [if_neg h1] at h
  rw [if_neg (by rw [hg]; simp)] at h ⊢
  split
  ·rename_i h2
   rw [if_pos h2] at h
   exact absurd h h2
  ·rename_i h2
   rw [if_neg h2] at h
   have h20 : (jroom p most M).1 = 0 := by simpa using h2
   have hr : (jroom p most M).2.gone = false := by
    unfold jroom at h20 ⊢
    split
    ·rename_i hc
     rw [if_pos hc] at h20
     exact add_gone hg h20
    ·exact hg
   unfold jput at h ⊢
   split
   ·rename_i h3
    rw [if_pos h3] at h
    exact absurd h h3
   ·rename_i h3
    rw [if_neg h3] at h
    exact flush_gone (add_gone hr (by simpa using h3)) h
theorem last_batch {p : List UInt8} {L : List FI} {f : Nat → Bt} (hs : Srt L) (hne : segsL p L ≠ []) {A : List (Nat × List (List UInt8))} {l : List (List UInt8)} (h : pairF p L f = A ++ [(lastN p L, l)]) : ∃ Y, f (lastN p L) = Y ++ [l] := by
 rw [pair_split hne] at h
 by_cases hf : f (lastN p L) = []
 ·exfalso
  rw [hf, List.map_nil, List.append_nil] at h
  have hm : (lastN p L, l) ∈ (segsL p L).dropLast.flatMap fun n => (f n).map fun b => (n, b) := by rw [h]; simp
  rw [List.mem_flatMap] at hm
  obtain ⟨n, hn, hm⟩ := hm
  rw [List.mem_map] at hm
  obtain ⟨b, -, e⟩ := hm
  simp only [Prod.mk.injEq] at e
  exact (segs_front hs hne n hn).1 e.1
 ·obtain ⟨Y, y, hY⟩ : ∃ Y y, f (lastN p L) = Y ++ [y] := ⟨_, _, (List.dropLast_concat_getLast hf).symm⟩
  rw [hY, List.map_append, ← List.append_assoc] at h
  have := List.append_inj_right' h (by simp)
  simp only [List.map_cons, List.map_nil, List.cons.injEq, Prod.mk.injEq, and_true, true_and] at this
  exact ⟨Y, by rw [hY, this]⟩
theorem lastM_all {L : List FI} {f : Nat → Bt} {s : MS} (hr : rightM s = true) {l : List Nat} {m : Nat} (hm : m < l.length) (hl : segsL manP L = l.drop m) {n : Nat} (hn : l.getLast?.getD 0 = n) {Y : Bt} (hY : f n = Y ++ [[encM s]]) : lastM initM (allF manP L f) = s := by
 have hne : l.drop m ≠ [] := by
  intro e
  have := congrArg List.length e
  simp at this; omega
 have hlast : l.drop m = (l.drop m).dropLast ++ [n] := by
  conv => lhs; rw [← List.dropLast_concat_getLast hne]
  congr 2
  have : (l.drop m).getLast? = l.getLast? := by rw [List.getLast?_drop, if_neg (by omega)]
  rw [List.getLast?_eq_some_getLast hne] at this
  rw [← this] at hn
  exact hn
 unfold allF
 rw [hl, hlast, List.flatMap_append, List.flatMap_cons, List.flatMap_nil, List.append_nil, hY, ← List.append_assoc]
 exact lastM_snoc hr _ _
structure KI (p : SD) (was next : MS) : Prop where
 kp : ∃ W N, KpInv manP p.M W N ∧ (lastM initM W = was ∨ lastM initM W = next) ∧ (lastM initM N = was ∨ lastM initM N = next) ∧ (p.M.gone = false → p.s = was ∧ lastM initM W = was)
 right : rightM was = true
theorem KI.hold {p : SD} {was next : MS} (h : KI p was next) (hg : p.M.gone = false) : p.s = was ∧ ∃ f, HoldS manP p.M.L f ∧ lastM initM (allF manP p.M.L f) = was := by
 obtain ⟨W, N, h1, -, -, h4⟩ := h.kp
 obtain ⟨h5, h6⟩ := h4 hg
 refine ⟨h5, ?_⟩
 rcases h1 with ⟨f, a, b⟩ | ⟨a, -⟩
 ·exact ⟨f, a, by rw [b]; exact h6⟩
 ·rw [hg] at a; cases a
theorem KI.of {p : SD} {was next : MS} {f : Nat → Bt} (h : HoldS manP p.M.L f) (hs : p.s = was) (hl : lastM initM (allF manP p.M.L f) = was) (hr : rightM was = true) : KI p was next :=
 ⟨⟨_, _, Or.inl ⟨f, h, rfl⟩, Or.inl hl, Or.inl hl, fun _ => ⟨hs, hl⟩⟩, hr⟩
theorem KI.set {k : Nat} {p : SD} {was next : MS} (h : KI p was next) (hi : Inv13 k p) (hM : p.M.ok) (hk : k ≤ 1000) (hg : p.M.gone = false) (s : MS) :
  KI (stM s p) (if (mset p.s p.n s p.M).e = 0 then s else was) (if (mset p.s p.n s p.M).e = 7 then s else if (mset p.s p.n s p.M).e = 0 then s else was) := by
 obtain ⟨hps, f, hf, hlm⟩ := h.hold hg
 have hrw := h.right
 have hlast := hi.last
 have h0 := hi.some_
 cases hr : rightM s with
 | false =>
  have e := mset_wrong (s0 := p.s) (n := p.n) (M := p.M) hr
  unfold stM
  rw [e]
  exact KI.of hf hps hlm hrw
 | true =>
 cases hmay : mayB p.s s with
 | false =>
  have e := mset_less (s0 := p.s) (n := p.n) (M := p.M) hr hmay
  unfold stM
  rw [e]
  exact KI.of hf hps hlm hrw
 | true =>
 obtain ⟨M1, hM1⟩ : ∃ M1, M1 = (mturn p.n p.M).2 := ⟨_, rfl⟩
 have t_ok : M1.ok := by rw [hM1]; exact mturn_ok hM
 have t_last : lastN manP M1.L ≠ 0 ∧ lastN manP M1.L ≤ lastN manP p.M.L + 1 := by
  rw [hM1]
  rcases mturn_last (n := p.n) hM (by omega) with e | e <;> rw [e] <;> omega
 by_cases e1 : (mturn p.n p.M).1 = 0
 rotate_left
 ·have e := mset_turn (s0 := p.s) hr hmay e1
  unfold stM
  rw [e]
  simp only [if_neg e1]
  have hL : (mturn p.n p.M).2.L = p.M.L := by
   unfold mturn at e1 ⊢
   split
   ·rename_i h8
    rw [if_pos h8] at e1
    exact (hold_turn (p := manP) hM (by omega) hf).2 e1
   ·rfl
  exact KI.of (f := f) (p := ⟨(mturn p.n p.M).2, p.s, p.n + 1⟩) (by show HoldS manP (mturn p.n p.M).2.L f; rw [hL]; exact hf) hps (by show lastM initM (allF manP (mturn p.n p.M).2.L f) = was; rw [hL]; exact hlm) hrw
 have t_hold : M1.gone = false ∧ ∃ f1, HoldS manP M1.L f1 ∧ allF manP M1.L f1 = allF manP p.M.L f := by
  rw [hM1]
  unfold mturn at e1 ⊢
  split
  ·rename_i h8
   rw [if_pos h8] at e1
   obtain ⟨f', q1, q2, q3⟩ := (hold_turn (p := manP) hM (by omega) hf).1 e1
   exact ⟨q3, f', q1, by rw [← pair_all, q2, pair_all]⟩
  ·exact ⟨hg, f, hf, rfl⟩
 obtain ⟨t_g, f1, hf1, hall1⟩ := t_hold
 obtain ⟨M2, hM2⟩ : ∃ M2, M2 = (mwrite s M1).2 := ⟨_, rfl⟩
 have w_ok : M2.ok := by rw [hM2]; exact mwrite_ok t_ok
 have hw := hold_write (p := manP) (most := 100000) t_ok (by omega) hf1 [encM s]
 rw [show (jwrite manP 100000 [encM s] M1).2 = M2 from hM2.symm, show (jwrite manP 100000 [encM s] M1).1 = (mwrite s M1).1 from rfl] at hw
 by_cases e2 : (mwrite s M1).1 = 0
 rotate_left
 ·have e := mset_write (s0 := p.s) (n := p.n) (M := p.M) hr hmay e1 (by rw [← hM1]; exact e2)
  unfold stM
  rw [e, ← hM1, ← hM2]
  simp only [if_neg e2]
  rcases hw with ⟨z, -⟩ | ⟨-, f', q1, q2⟩ | ⟨h7, hg2, hgb, f', q1, q2, q3, q4⟩
  ·exact absurd z e2
  ·have hall : allF manP M2.L f' = allF manP p.M.L f := by rw [← pair_all, q2, pair_all, hall1]
   exact KI.of (f := f') (p := ⟨M2, p.s, p.n + 1⟩) q1 hps (by show lastM initM (allF manP M2.L f') = was; rw [hall]; exact hlm) hrw
  ·have hall : allF manP M2.L f' = allF manP p.M.L f := by rw [← pair_all, q2, pair_all, hall1]
   rw [if_pos h7]
   refine ⟨⟨allF manP p.M.L f, allF manP p.M.L f ++ [[encM s]], Or.inr ⟨hg2, f', [encM s], hgb, rfl, q1, hall, q3, q4⟩, Or.inl hlm, Or.inr (lastM_snoc hr _ _), fun hh => ?_⟩, hrw⟩
   rw [show M2.gone = true from hg2] at hh
   cases hh
 rcases hw with ⟨-, f2, q1, q2⟩ | ⟨z, -⟩ | ⟨z, -⟩
 rotate_left
 ·exact absurd e2 z
 ·rw [e2] at z; cases z
 have hgone2 : M2.gone = false := by
  rw [hM2]
  exact jwrite_gone t_g e2
 obtain ⟨Y, hY⟩ := last_batch w_ok.srt q1.ne q2
 have e := mset_all (s0 := p.s) (n := p.n) (M := p.M) hr hmay e1 (by rw [← hM1]; exact e2)
 unfold stM
 rw [e, ← hM1, ← hM2]
 obtain ⟨z1, z2, m, z3, z4⟩ := trim_hold (p := manP) ((lastN manP M2.L : Nat) : Int) (segsL manP M2.L) w_ok hgone2 rfl q1
 have zz : (((mtrim p.n M2).1 = 0 ∧ (mtrim p.n M2).2.gone = false) ∨ ((mtrim p.n M2).1 = 7 ∧ (mtrim p.n M2).2.gone = true)) ∧ HoldS manP (mtrim p.n M2).2.L f2 ∧ lastM initM (allF manP (mtrim p.n M2).2.L f2) = s := by
  unfold mtrim jtrim
  split
  ·exact ⟨z1, z2, lastM_all hr z3 z4 rfl hY⟩
  ·exact ⟨Or.inl ⟨rfl, hgone2⟩, q1, lastM_all hr (m := 0) (List.length_pos_iff.2 q1.ne) rfl rfl hY⟩
 obtain ⟨y1, y2, y3⟩ := zz
 rcases y1 with ⟨a1, a2⟩ | ⟨a1, a2⟩
 ·simp only [a1]
  exact KI.of (f := f2) (p := ⟨(mtrim p.n M2).2, s, p.n + 1⟩) y2 rfl y3 hr
 ·simp only [a1]
  refine ⟨⟨_, _, Or.inl ⟨f2, y2, rfl⟩, Or.inr y3, Or.inr y3, fun hh => ?_⟩, hrw⟩
  rw [show (mtrim p.n M2).2.gone = true from a2] at hh
  cases hh
theorem hold_beg (room t : Int) : HoldS manP (limS t (mbM room)).L (fun _ => []) := ⟨by show segsL manP [⟨mf1, [], 0⟩] ≠ []; rw [msegs1]; simp, fun n hn => by
 rw [show segsL manP (limS t (mbM room)).L = [1] from msegs1 _ _, List.mem_singleton] at hn
 subst hn
 rw [mfile1]; rfl, fun n l hl => by cases hl⟩
theorem KI.begin (room t : Int) (n : Nat) : KI ⟨limS t (mbM room), initM, n⟩ initM initM := by
 refine KI.of (hold_beg room t) rfl ?_ (by decide)
 show lastM initM (allF manP (limS t (mbM room)).L fun _ => []) = initM
 unfold allF
 rw [show segsL manP (limS t (mbM room)).L = [1] from msegs1 _ _]
 rfl
theorem KI.end_ {p : SD} {was next : MS} (h : KI p was next) (hM : p.M.ok) (lf sp lf2 sp2 : List Int) (t : Int) (ht : in64 t) :
  ((jopen manP (limS t (crashS lf sp p.M))).1 = 0 → lastM initM (jopen manP (limS t (crashS lf sp p.M))).2.1 = was ∨ lastM initM (jopen manP (limS t (crashS lf sp p.M))).2.1 = next) ∧
  ((jopen manP (limS t (crashS lf sp p.M))).1 ≠ 0 → (jopen manP (crashS lf2 sp2 (jopen manP (limS t (crashS lf sp p.M))).2.2)).1 = 0 ∧
   (lastM initM (jopen manP (crashS lf2 sp2 (jopen manP (limS t (crashS lf sp p.M))).2.2)).2.1 = was ∨ lastM initM (jopen manP (crashS lf2 sp2 (jopen manP (limS t (crashS lf sp p.M))).2.2)).2.1 = next)) := by
 obtain ⟨W, N, h1, h2, h3, -⟩ := h.kp
 obtain ⟨e1, A1, M2, hj⟩ : ∃ e1 A1 M2, jopen manP (limS t (crashS lf sp p.M)) = (e1, A1, M2) := ⟨_, _, _, rfl⟩
 obtain ⟨k1, k2⟩ := kp_end hM manP_name h1 lf sp lf2 sp2 t ht hj
 rw [hj]
 refine ⟨fun he => ?_, fun he => ?_⟩
 ·rcases k1 he with e | e
  ·simp only [e]; exact h2
  ·simp only [e]; exact h3
 ·obtain ⟨k3, k4⟩ := k2 he
  refine ⟨k3, ?_⟩
  rcases k4 with e | e
  ·simp only [e]; exact h2
  ·simp only [e]; exact h3

section
variable {M : RS}
theorem chg_sz (M : RS) (L' : List FI) : (chgS M L').2.L = M.L ∨ (chgS M L').2.L = L' := by
 unfold chgS
 split
 ·exact Or.inl (turn_L M)
 ·exact Or.inr rfl
theorem add_sz (h : M.ok) (nm s : List UInt8) : (addS nm s M).2.L.length ≤ M.L.length + (if (getF nm M.L).isSome then 0 else 1) ∧ bytesN (addS nm s M).2.L ≤ bytesN M.L + s.length := by
 unfold addS
 split
 ·have hl := len_ins (addF nm s M.L) h.srt
  have hb := bytes_ins (addF nm s M.L) h.srt
  rw [addF_name] at hl hb
  have hab : (addF nm s M.L).bytes.length ≤ szO (getF nm M.L) + s.length := by
   unfold addF
   cases getF nm M.L with
   | none => simp [szO]
   | some y => simp [szO]
  rcases chg_sz M (insS (addF nm s M.L) M.L) with e | e
  ·rw [e]; exact ⟨Nat.le_add_right _ _, Nat.le_add_right _ _⟩
  ·rw [e, hl]
   refine ⟨?_, by omega⟩
   split <;> omega
 ·exact ⟨Nat.le_add_right _ _, Nat.le_add_right _ _⟩
theorem flush_sz (h : M.ok) (nm : List UInt8) : (flushS nm M).2.L.length ≤ M.L.length ∧ bytesN (flushS nm M).2.L ≤ bytesN M.L := by
 unfold flushS onS
 split
 ·exact ⟨Nat.le_refl _, Nat.le_refl _⟩
 ·cases hg : getF nm M.L with
  | none => exact ⟨Nat.le_refl _, Nat.le_refl _⟩
  | some y =>
   simp only
   have hyn : y.name = nm := getF_name hg
   have hl := len_ins { y with safe := y.bytes.length } h.srt
   have hb := bytes_ins { y with safe := y.bytes.length } h.srt
   simp only [hyn, hg, szO] at hl hb
   rcases chg_sz M (insS { y with safe := y.bytes.length } M.L) with e | e
   ·rw [e]; exact ⟨Nat.le_refl _, Nat.le_refl _⟩
   ·rw [e, hyn, hl]
    rw [if_pos (show (some y).isSome = true from rfl)]
    exact ⟨Nat.le_refl _, by omega⟩
theorem drop_sz (h : M.ok) (nm : List UInt8) : (dropS nm M).2.L.length ≤ M.L.length ∧ bytesN (dropS nm M).2.L ≤ bytesN M.L := by
 unfold dropS onS
 split
 ·exact ⟨Nat.le_refl _, Nat.le_refl _⟩
 ·cases hg : getF nm M.L with
  | none => exact ⟨Nat.le_refl _, Nat.le_refl _⟩
  | some y =>
   simp only
   obtain ⟨-, h2, h3, -⟩ := out_files h nm
   rcases chg_sz M (outS nm M.L) with e | e
   ·rw [e]; exact ⟨Nat.le_refl _, Nat.le_refl _⟩
   ·rw [e]; exact ⟨h2, h3⟩
theorem trim_sz (p : List UInt8) (before : Int) : ∀ (l : List Nat) {M : RS}, M.ok → (trimL p before l M).2.L.length ≤ M.L.length ∧ bytesN (trimL p before l M).2.L ≤ bytesN M.L
 | [], M, _ => ⟨Nat.le_refl _, Nat.le_refl _⟩
 | [_], M, _ => ⟨Nat.le_refl _, Nat.le_refl _⟩
 | n :: m :: r, M, h => by
  have hd := drop_sz h (fileN p n)
  simp only [trimL]
  split
  ·split
   ·have := trim_sz p before (m :: r) (drop_ok h (fileN p n))
    exact ⟨by omega, by omega⟩
   ·exact hd
  ·exact ⟨Nat.le_refl _, Nat.le_refl _⟩
theorem turn_sz (h : M.ok) (p : List UInt8) : (jturn p M).2.L.length ≤ M.L.length + 1 ∧ bytesN (jturn p M).2.L ≤ bytesN M.L := by
 have := add_sz h (fileN p (lastN p M.L + 1)) []
 unfold jturn
 refine ⟨?_, by simpa using this.2⟩
 have h1 := this.1
 split at h1 <;> omega
theorem put_sz (h : M.ok) (nm s : List UInt8) (hs : (getF nm M.L).isSome = true) : (jput nm s M).2.L.length ≤ M.L.length ∧ bytesN (jput nm s M).2.L ≤ bytesN M.L + s.length := by
 have h1 := add_sz h nm s
 rw [if_pos hs] at h1
 have h2 := flush_sz (add_ok h nm s) nm
 unfold jput
 split
 ·exact h1
 ·exact ⟨by omega, by omega⟩
theorem bytesOf_le (nm : List UInt8) (M : RS) : (bytesOf nm M).length ≤ bytesN M.L := by
 unfold bytesOf
 cases hg : getF nm M.L with
 | none => simp
 | some y => exact bytes_mem (getF_mem hg)
end
theorem putsL_len7 : ∀ (l : List Int), (∀ n ∈ l, 0 ≤ n ∧ n ≤ 1099511627776) → (putsL l).length ≤ 7 * l.length
 | [], _ => by simp [putsL]
 | n :: l, h => by
  have ih := putsL_len7 l (fun m hm => h m (by simp [hm]))
  have hn := h n (by simp)
  have hz : szN n.toNat ≤ 7 := by unfold szN; (repeat' split) <;> omega
  rw [putsL_cons, List.length_append, putL_len, List.length_cons]
  omega
theorem encM_small {s : MS} (h : rightM s = true) (hm : s.mt.size ≤ 1000) : (encM s).length ≤ 1588 := by
 have h1 := putsL_len7 (numsM s) (nums_in h)
 have h2 := (right_parts h).2.1
 have h3 : (numsM s).length = 4 + 2 * s.files.length := by simp only [numsM, List.length_cons, pairsL_len]; omega
 have h4 : s.mt.data.toList.length = s.mt.size := rfl
 unfold encM
 rw [List.length_append, h4]
 omega
theorem frame_small {s : MS} (h : rightM s = true) (hm : s.mt.size ≤ 1000) : (frameL (batchS [encM s]).1).length ≤ 1599 := by
 have h1 := encM_small h hm
 have he : (encL [encM s]).length ≤ 1592 := by
  unfold encL oneL
  simp only [List.flatMap_cons, List.flatMap_nil, List.append_nil, List.length_append, putL_len, List.length_cons, List.length_nil]
  have : szN (encM s).length ≤ 2 := by unfold szN; (repeat' split) <;> omega
  have : szN (0 + 1) = 1 := rfl
  omega
 have hb : (batchS [encM s]).1 = encL [encM s] := by
  unfold batchS
  rw [if_neg (by simp), if_neg (by omega)]
 rw [hb, frame_len]
 have : szN (encL [encM s]).length ≤ 2 := by unfold szN; (repeat' split) <;> omega
 omega
structure Rise (k : Nat) (p : SD) : Prop where
 inv : Inv13 k p
 ok : p.M.ok
 alive : Alive p.M
 hold : ∃ f, HoldS manP p.M.L f
 bytes : bytesN p.M.L ≤ 1599 * p.n
 len : p.M.L.length ≤ 1 + (p.n + 7) / 8
theorem write_sz {M : RS} {s : MS} (h : M.ok) (h0 : lastN manP M.L ≠ 0) (hr : rightM s = true) (hm : s.mt.size ≤ 1000) (hb : bytesN M.L < 100000) : (mwrite s M).2.L.length ≤ M.L.length ∧ bytesN (mwrite s M).2.L ≤ bytesN M.L + 1599 := by
 have hl := bytesOf_le (fileN manP (lastN manP M.L)) M
 have hj : jroom manP 100000 M = (0, M) := by
  unfold jroom
  rw [if_neg (by rintro ⟨-, h⟩; omega)]
 unfold mwrite jwrite
 split
 ·exact ⟨Nat.le_refl _, Nat.le_add_right _ _⟩
 ·split
  ·exact ⟨Nat.le_refl _, Nat.le_add_right _ _⟩
  ·rw [hj]
   simp only [ne_eq, not_true_eq_false, if_false]
   have := put_sz h (fileN manP (lastN manP M.L)) (frameL (batchS [encM s]).1) (last_there (p := manP) h rfl h0)
   have := frame_small hr hm
   omega
theorem Rise.set {k : Nat} {p : SD} (h : Rise k p) (hk : k ≤ 60) {s : MS} (hm : s.mt.size ≤ 1000) :
  Rise (k + 1) (stM s p) ∧ ((mset p.s p.n s p.M).e = 0 → (mset p.s p.n s p.M).s = s) ∧ ((mset p.s p.n s p.M).e ≠ 0 → (mset p.s p.n s p.M).s = p.s) ∧
   p.s.next ≤ (mset p.s p.n s p.M).s.next ∧ p.s.seq ≤ (mset p.s p.n s p.M).s.seq ∧ p.s.log ≤ (mset p.s p.n s p.M).s.log := by
 have hinv := h.inv.set h.ok (by omega) s
 have hmo := mset_ok (s0 := p.s) (n := p.n) (s := s) h.ok
 have hkn := h.inv.n
 have hlast := h.inv.last
 have h0 := h.inv.some_
 cases hr : rightM s with
 | false =>
  have e := mset_wrong (s0 := p.s) (n := p.n) (M := p.M) hr
  unfold stM at hinv ⊢
  rw [e] at hinv hmo ⊢
  exact ⟨⟨hinv, hmo, h.alive, h.hold, h.bytes, h.len⟩, (fun h => by cases h), fun _ => rfl, Int.le_refl _, Int.le_refl _, Int.le_refl _⟩
 | true =>
 cases hmay : mayB p.s s with
 | false =>
  have e := mset_less (s0 := p.s) (n := p.n) (M := p.M) hr hmay
  unfold stM at hinv ⊢
  rw [e] at hinv hmo ⊢
  exact ⟨⟨hinv, hmo, h.alive, h.hold, h.bytes, h.len⟩, (fun h => by cases h), fun _ => rfl, Int.le_refl _, Int.le_refl _, Int.le_refl _⟩
 | true =>
 have hge : p.s.next ≤ s.next ∧ p.s.seq ≤ s.seq ∧ p.s.log ≤ s.log := by
  unfold mayB at hmay
  simp only [Bool.and_eq_true, decide_eq_true_eq] at hmay
  exact hmay
 obtain ⟨f, hf⟩ := h.hold
 -- the turn
 obtain ⟨M1, hM1⟩ : ∃ M1, M1 = (mturn p.n p.M).2 := ⟨_, rfl⟩
 have t_ok : M1.ok := by rw [hM1]; exact mturn_ok h.ok
 have t_last : lastN manP M1.L ≠ 0 ∧ lastN manP M1.L ≤ lastN manP p.M.L + 1 := by
  rw [hM1]
  rcases mturn_last (n := p.n) h.ok (by omega) with e | e <;> rw [e] <;> omega
 have t_alive : Alive M1 := by rw [hM1]; unfold mturn; split; exact jturn_alive h.alive _; exact h.alive
 have t_hold : ∃ f, HoldS manP M1.L f := by
  rw [hM1]; unfold mturn
  split
  ·obtain ⟨q1, q2⟩ := hold_turn (p := manP) h.ok (by omega) hf
   by_cases hz : (jturn manP p.M).1 = 0
   ·obtain ⟨f', h', -⟩ := q1 hz; exact ⟨f', h'⟩
   ·rw [q2 hz]; exact ⟨f, hf⟩
  ·exact ⟨f, hf⟩
 have t_sz : M1.L.length ≤ 1 + (p.n + 1 + 7) / 8 ∧ bytesN M1.L ≤ 1599 * p.n := by
  have hb := h.bytes
  have hl := h.len
  have ht := turn_sz h.ok manP
  rw [hM1]; unfold mturn
  split
  ·exact ⟨by omega, by omega⟩
  ·exact ⟨by show p.M.L.length ≤ _; omega, hb⟩
 by_cases e1 : (mturn p.n p.M).1 = 0
 rotate_left
 ·have e := mset_turn (s0 := p.s) hr hmay e1
  unfold stM at hinv ⊢
  rw [e, ← hM1] at hinv hmo ⊢
  exact ⟨⟨hinv, hmo, t_alive, t_hold, Nat.le_trans t_sz.2 (show 1599 * p.n ≤ 1599 * (p.n + 1) by omega), t_sz.1⟩, fun h => absurd h e1, fun _ => rfl, Int.le_refl _, Int.le_refl _, Int.le_refl _⟩
 -- the write
 obtain ⟨M2, hM2⟩ : ∃ M2, M2 = (mwrite s M1).2 := ⟨_, rfl⟩
 have w_ok : M2.ok := by rw [hM2]; exact mwrite_ok t_ok
 have w_alive : Alive M2 := by rw [hM2]; exact jwrite_alive t_alive _ _ _
 have w_hold : ∃ f, HoldS manP M2.L f := by
  obtain ⟨f1, hf1⟩ := t_hold
  have hw := hold_write (p := manP) (most := 100000) t_ok (by omega) hf1 [encM s]
  rw [show (jwrite manP 100000 [encM s] M1).2 = M2 from hM2.symm] at hw
  rcases hw with ⟨-, f', q, -⟩ | ⟨-, f', q, -⟩ | ⟨-, hg, -⟩
  ·exact ⟨f', q⟩
  ·exact ⟨f', q⟩
  ·rw [w_alive.2] at hg; cases hg
 have w_sz : M2.L.length ≤ 1 + (p.n + 1 + 7) / 8 ∧ bytesN M2.L ≤ 1599 * (p.n + 1) := by
  have := write_sz (s := s) t_ok t_last.1 hr hm (by omega)
  rw [hM2]
  omega
 by_cases e2 : (mwrite s M1).1 = 0
 rotate_left
 ·have e := mset_write (s0 := p.s) (n := p.n) (M := p.M) hr hmay e1 (by rw [← hM1]; exact e2)
  unfold stM at hinv ⊢
  rw [e, ← hM1, ← hM2] at hinv hmo ⊢
  exact ⟨⟨hinv, hmo, w_alive, w_hold, w_sz.2, w_sz.1⟩, fun h => absurd h e2, fun _ => rfl, Int.le_refl _, Int.le_refl _, Int.le_refl _⟩
 -- the trim
 have e := mset_all (s0 := p.s) (n := p.n) (M := p.M) hr hmay e1 (by rw [← hM1]; exact e2)
 unfold stM at hinv ⊢
 rw [e, ← hM1, ← hM2] at hinv hmo ⊢
 obtain ⟨f2, hf2⟩ := w_hold
 obtain ⟨q1, q2, q3, -, -⟩ := hold_trim (p := manP) (lastN manP M2.L) (segsL manP M2.L) w_ok w_alive rfl hf2
 have hsz := trim_sz manP ((lastN manP M2.L : Nat) : Int) (segsL manP M2.L) w_ok
 have z1 : (mtrim p.n M2).1 = 0 ∧ Alive (mtrim p.n M2).2 ∧ (∃ f, HoldS manP (mtrim p.n M2).2.L f) ∧ (mtrim p.n M2).2.L.length ≤ M2.L.length ∧ bytesN (mtrim p.n M2).2.L ≤ bytesN M2.L := by
  unfold mtrim jtrim
  split
  ·exact ⟨q1, q2, ⟨f2, q3⟩, hsz.1, hsz.2⟩
  ·exact ⟨rfl, w_alive, ⟨f2, hf2⟩, Nat.le_refl _, Nat.le_refl _⟩
 obtain ⟨z0, za, zh, zl, zb⟩ := z1
 exact ⟨⟨hinv, hmo, za, zh, Nat.le_trans zb w_sz.2, Nat.le_trans zl w_sz.1⟩, fun _ => rfl, fun h => absurd z0 h, hge.1, hge.2.1, hge.2.2⟩
end Go.Proofs.YtfbiinnenlgkfaaGreatDoor
