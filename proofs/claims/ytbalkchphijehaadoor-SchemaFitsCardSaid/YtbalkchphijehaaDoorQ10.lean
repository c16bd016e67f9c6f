/- QIter, QPairs, QBox, QSmall, QPNum, QPField, QITell, QPFind, QFill, QPFits, QPRight, QPUnp, laid together. -/
import Derived.RangeFuncNested
import Derived.RangeFuncBound
import Derived.RangeFuncCalls
import Derived.RangeFuncLeaves
import Derived.Shelf.Abstract
import Derived.Shelf.RegionOpen
import Derived.WalkKit
import Derived.OwnWalkIn
import Derived.TacticsInMore
import Derived.LoopNIn
import Derived.LoopIn
import Derived.Test.YtbalkchphijehaaDoorQ3
import Derived.Test.YtbalkchphijehaaDoorQ6
import Derived.Deep.QuietTactic
import Derived.BigQuiet
import Derived.Test.YtbalkchphijehaaDoorQ7
import Derived.Test.YtbalkchphijehaaDoorQ9
set_option linter.unusedSimpArgs false
set_option linter.unusedVariables false
/- The iterators over a schema's fields: slices.Values at fields, schema.fields, pairs, filled: what each tells a loop. -/
set_option maxRecDepth 100000
namespace Go.Proofs.YtbalkchphijehaaDoor
open Go.RowKit Go.Shelf Go.Deep

attribute [local go_sem] Oper.semAt_some

def FV.val (f : FV) : Value := .agg #[.int .i64 f.id, .int .i64 f.kind, .string f.name, .int .i64 f.d.k, .int .i64 f.d.n, .string f.d.s]
theorem keepR_b {n₀ : Nat} {Bx : List Nat} {w : World} (hn : n₀ ≤ w.heap.size) (hb : ∀ b ∈ Bx, b < w.heap.size) (W : World) (l : Nat) (o o' : Obj) (hl : w.heap.size ≤ l) (h : W.heap[l]? = some o) (_ : o.isCells = false) (_ : o.isWalk = false) : KeepR n₀ Bx W (W.putObj l o') :=
  KeepR.of_keep (keep_putObj W l o') (by have := (Array.getElem?_eq_some_iff.1 h).1; omega) (fun x hx => by
    rw [List.mem_singleton] at hx; subst hx
    exact ⟨by omega, fun hm => by have := hb _ hm; omega⟩)
theorem grown_bel14 {W W' : World} (h : Bel W W') : W.grownBy W' none := ⟨h.os, h.tape, h.output, h.size, fun k hk _ => h.block k hk⟩
theorem bel_keepR {n₀ : Nat} {Bx : List Nat} {A B : World} (h : Bel A B) (hn : n₀ ≤ A.heap.size) : KeepR n₀ Bx A B :=
  ⟨Below.mono h hn, fun b _ o ho => (Below.block h b (Array.getElem?_eq_some_iff.1 ho).1).trans ho⟩
theorem FldsAt.below {n₀ : Nat} {w0 x : World} {p : Option Addr} {L : List FV} (h : FldsAt w0 p L) (hb : Below w0.heap.size w0 x) : FldsAt x p L := h.bel hb
set_option maxHeartbeats 1000000 in
theorem values14_any (p : Option Addr) (m c : Nat) (w : World) :
    Calls Tryd.prog 52 #[.slice p m c] w fun e w' => e = .returned (.func (.func 71) #[] #[.pointer (some ⟨w.heap.size, 0, none⟩)]) ∧ w' = w.alloc (.cells #[.slice p m c] 22) := by
  go_enter Tryd.func52, Tryd.ntmps52
  go_wp2_with (fail)
  go_ret
  exact ⟨rfl, rfl⟩
set_option maxHeartbeats 1000000 in
theorem fields14_any (ver next : Int) (p : Option Addr) (m c : Nat) (w : World) :
    Calls Tryd.prog 32 #[.agg #[.int .i64 ver, .int .i64 next, .slice p m c]] w fun e w' => e = .returned (.func (.func 71) #[] #[.pointer (some ⟨w.heap.size + 1, 0, none⟩)]) ∧
      w' = (w.alloc (.cells #[.int .i64 ver, .int .i64 next, .slice p m c] 24)).alloc (.cells #[.slice p m c] 22) := by
  go_enter Tryd.func32, Tryd.ntmps32
  go_wp2_with (fail)
  refine (values14_any p m c _).mono ?_
  rintro e x ⟨rfl, rfl⟩
  go_wp2_with (fail)
  go_ret
  exact ⟨by simp, rfl⟩
set_option maxHeartbeats 1000000 in
theorem pairs14_any (ver next : Int) (p : Option Addr) (m c : Nat) (w : World) :
    Calls Tryd.prog 36 #[.agg #[.int .i64 ver, .int .i64 next, .slice p m c]] w fun e w' => e = .returned (.func (.func 53) #[] #[.pointer (some ⟨w.heap.size, 0, none⟩)]) ∧
      w' = w.alloc (.cells #[.int .i64 ver, .int .i64 next, .slice p m c] 24) := by
  go_enter Tryd.func36, Tryd.ntmps36
  go_wp2_with (fail)
  go_ret
  exact ⟨rfl, rfl⟩
set_option maxHeartbeats 1000000 in
theorem filled14_any (ver next : Int) (p : Option Addr) (m c : Nat) (q : Option Addr) (k d : Nat) (w : World) :
    Calls Tryd.prog 38 #[.agg #[.int .i64 ver, .int .i64 next, .slice p m c], .slice q k d] w fun e w' => e = .returned (.func (.func 54) #[] #[.pointer (some ⟨w.heap.size, 0, none⟩), .pointer (some ⟨w.heap.size + 1, 0, none⟩)]) ∧
      w' = (w.alloc (.cells #[.int .i64 ver, .int .i64 next, .slice p m c] 24)).alloc (.cells #[.slice q k d] 25) := by
  go_enter Tryd.func38, Tryd.ntmps38
  go_wp2_with (fail)
  go_ret
  exact ⟨rfl, rfl⟩
/-- How an iterator ends. -/
def ItPost14 {α : Type} (L : List α) (J Jx : List α → World → Prop) (e : Ending) (W' : World) : Prop :=
  (∃ v, e = .returned v) ∧ ((∃ ys, ys = L ∧ J ys W') ∨ (∃ pre, pre <+: L ∧ Jx pre W'))
def VlRel14 {α : Type} (L : List α) (w0 : World) (J : List α → World → Prop) (iv : Value) (x : World) : Prop := ∃ pre rest : List α, iv = .int .i64 (pre.length : Int) ∧ L = pre ++ rest ∧ Below w0.heap.size w0 x ∧ J pre x
set_option maxHeartbeats 4000000 in
theorem vals14_in (n : Nat) (hn : 1 ≤ n) (l b : Nat) (p : Option Addr) (c : Nat) {Q : FV → Prop} (L : List {f : FV // Q f}) (w0 : World) (h : FldsAt w0 p (L.map (·.1))) (hL : L.length ≤ maxLen) (Bx : List Nat)
    (J Jx : List {f : FV // Q f} → World → Prop) (hJ : ∀ pre W W', J pre W → Bel W W' → J pre W')
    (hY : ∀ pre x W, J pre W → pre.length < L.length → YieldAt Fence.wide (n - 1) Tryd.prog l #[FV.val x.1] W fun e W' => (e = .returned (.bool true) ∧ J (pre ++ [x]) W' ∧ KeepR w0.heap.size Bx W W') ∨ (e = .returned (.bool false) ∧ Jx (pre ++ [x]) W'))
    (W : World) (hb : Boxed W b 22 (.slice p L.length c)) (hB : Below w0.heap.size w0 W) (h0 : J [] W) :
    CallsIn Fence.wide n Tryd.prog 71 #[.func (.yield l) #[] #[], .pointer (some ⟨b, 0, none⟩)] W (ItPost14 L J Jx) := by
  have HJ := Lib.hid hJ; clear hJ
  have HY := Lib.hid hY; clear hY
  have H := Lib.hid h; clear h
  have H0 := Lib.hid h0; clear h0
  have HB0 := Lib.hid hB; clear hB
  unfold maxLen at hL
  have c0 := hb.cell
  clear hb
  refine callsIn_of_wp Tryd.func71 rfl trivial ?_ rfl
  simp only [Tryd.ntmps71, List.size_toArray, List.length_cons, List.length_nil, Nat.reduceAdd, Nat.reduceSub, Array.replicate_succ, Array.replicate_zero, List.push_toArray, List.append_toArray, List.nil_append, List.cons_append]
  gi_wp2
  gi_loopw [7] (fun iv x => VlRel14 L w0 J iv x) (fun iv _ => L.length - (intOf iv).toNat)
  case atStart => exact ⟨[], L, rfl, rfl, HB0.out, H0.out⟩
  case round =>
    obtain ⟨pre, rest, rfl, hLe, hbw, hj⟩ := hrel
    have HLE := Lib.hid hLe
    have HBW := Lib.hid hbw
    have HJK := Lib.hid hj
    clear hbw hj
    cases rest with
    | nil =>
      have hki : ¬ (pre.length : Int) < (L.length : Int) := by have := congrArg List.length hLe; simp at this; omega
      have HE := Lib.hid (show L = pre by have := HLE.out; simpa using this)
      clear hLe
      gi_wp2
      go_end0
      exact ⟨⟨_, rfl⟩, .inl ⟨pre, HE.out.symm, HJK.out⟩⟩
    | cons x rest =>
      have hkl : pre.length < L.length := by have := congrArg List.length hLe; simp at this; omega
      have hki : (pre.length : Int) < (L.length : Int) := by omega
      obtain ⟨k, hk⟩ : ∃ k, k = pre.length := ⟨_, rfl⟩
      have hkm : k < (L.map (·.1)).length := by rw [List.length_map, hk]; exact hkl
      have hx : (L.map (·.1))[k] = x.1 := by
        simp only [List.getElem_map]
        have : L[k]'(by rw [hk]; exact hkl) = x := by simp [hk, hLe]
        rw [this]
      obtain ⟨a, B, O, sp, rfl, ha, d0, d1, d2, d3, d4, d5⟩ := (H.out.bel HBW.out) k hkm
      rw [hx] at d0 d1 d2 d3 d4 d5
      rw [← hk] at hki
      have HKE := Lib.hid hk
      have HKL := Lib.hid hkl
      rw [← hk]
      clear hx hkm hLe hk hkl
      have hkl := HKL.out
      have hBA : Bel wr (wr.alloc (.cells #[.int .i64 x.1.id, .int .i64 x.1.kind, .string x.1.name, .int .i64 x.1.d.k, .int .i64 x.1.d.n, .string x.1.d.s] 31)) := (Bel.refl wr).alloc _
      obtain ⟨fn, tmps, assign, body, hy, hR⟩ := HY.out pre x _ (HJ.out _ _ _ HJK.out hBA) hkl
      rw [FV.val] at hy
      have HB2 := Lib.hid (show Below w0.heap.size w0 (wr.alloc (.cells #[.int .i64 x.1.id, .int .i64 x.1.kind, .string x.1.name, .int .i64 x.1.d.k, .int .i64 x.1.d.n, .string x.1.d.s] 31)) from HBW.out.trans (Below.mono hBA HBW.out.size))
      clear hBA
      gi_wp2
      refine hR.mono ?_
      rintro e3 W3 (⟨rfl, hJ3, hk3⟩ | ⟨rfl, hJx3⟩)
      · have HJ3 := Lib.hid hJ3
        have HB3 := Lib.hid (HB2.out.trans hk3.1)
        have HLN := Lib.hid (show L = (pre ++ [x]) ++ rest by rw [HLE.out]; simp)
        have HKN := Lib.hid (show ((pre ++ [x]).length : Int) = (k : Int) + 1 by rw [HKE.out]; simp)
        clear hJ3 hk3 hy hkl
        gi_wp2
        go_roundw
        case rel => exact ⟨pre ++ [x], rest, by rw [HKN.out], HLN.out, HB3.out, HJ3.out⟩
        case measure => have := HKE.out; have := HKL.out; simp [intOf]; omega
      · have HX := Lib.hid hJx3
        clear hJx3 hy hkl
        gi_wp2
        refine bodyPost_ret (results_none rfl _ _ _) rfl ?_
        exact ⟨⟨_, rfl⟩, .inr ⟨_, ⟨rest, by rw [HLE.out]; simp⟩, HX.out⟩⟩
theorem vals14_stops (n : Nat) (hn : 1 ≤ n) (b : Nat) (p : Option Addr) (c : Nat) {Q : FV → Prop} (L : List {f : FV // Q f}) (w0 w : World) (h : FldsAt w0 p (L.map (·.1))) (hL : L.length ≤ maxLen) (Bx : List Nat)
    (hb : Boxed w b 22 (.slice p L.length c)) (hB : Below w0.heap.size w0 w) :
    SeqStopsK Fence.wide n Tryd.prog 71 #[.pointer (some ⟨b, 0, none⟩)] (fun x : {f : FV // Q f} => #[FV.val x.1]) (KeepR w0.heap.size Bx) (fun ys => ys = L) (fun pre => pre <+: L) L.length w := fun l J Jx W hW hJ _ hY h0 =>
  vals14_in n hn l b p c L w0 h hL Bx J Jx (fun pre A B h hb => hJ pre A B none h (grown_bel14 hb) (fun r e => by cases e)) hY W ((Below.block hW b (Array.getElem?_eq_some_iff.1 hb).1).trans hb) (hB.trans (Below.mono hW hB.size)) h0
end Go.Proofs.YtbalkchphijehaaDoor
/- schema.pairs: a schema's fields by two, each with each that stands behind it, told to a loop. -/
set_option maxRecDepth 100000
namespace Go.Proofs.YtbalkchphijehaaDoor
open Go.RowKit Go.Shelf Go.Deep

attribute [local go_sem] Oper.semAt_some

def KeepC (n₀ : Nat) (A B : World) : Prop := Below n₀ A B ∧ ∀ (b : Nat) (o : Obj), o.isCells = true → A.heap[b]? = some o → B.heap[b]? = some o
theorem KeepC.trans {n₀ : Nat} {A B C : World} (h : KeepC n₀ A B) (k : KeepC n₀ B C) : KeepC n₀ A C := ⟨h.1.trans k.1, fun b o hc ho => k.2 b o hc (h.2 b o hc ho)⟩
theorem keepC_b {n₀ : Nat} {w : World} (hn : n₀ ≤ w.heap.size) (W : World) (l : Nat) (o o' : Obj) (hl : w.heap.size ≤ l) (h : W.heap[l]? = some o) (hc : o.isCells = false) (_ : o.isWalk = false) : KeepC n₀ W (W.putObj l o') := by
  have hk := keep_putObj W l o'
  refine ⟨hk.below (by have := (Array.getElem?_eq_some_iff.1 h).1; omega) (fun x hx => by rw [List.mem_singleton] at hx; omega), fun b u hu hb => hk.at hb ?_⟩
  intro hm
  rw [List.mem_singleton] at hm
  subst hm
  rw [h] at hb; cases hb
  rw [hc] at hu; cases hu
theorem bel_keepC {n₀ : Nat} {A B : World} (h : Bel A B) (hn : n₀ ≤ A.heap.size) : KeepC n₀ A B := ⟨Below.mono h hn, fun b o _ ho => (Below.block h b (Array.getElem?_eq_some_iff.1 ho).1).trans ho⟩
theorem KeepC.blk {n₀ : Nat} {A B : World} (h : KeepC n₀ A B) {b : Nat} {cs : Array Value} {T : TypeId} (hb : A.heap[b]? = some (.cells cs T (0, 0))) : B.heap[b]? = some (.cells cs T (0, 0)) := h.2 b _ rfl hb
def pairsL14 : List FV → List (FV × FV)
  | [] => []
  | f :: F => F.map (fun g => (f, g)) ++ pairsL14 F
theorem pairs_drop {F : List FV} {i : Nat} (h : i < F.length) : pairsL14 (F.drop i) = ((F.drop (i + 1)).map fun g => (F[i], g)) ++ pairsL14 (F.drop (i + 1)) := by
  rw [List.drop_eq_getElem_cons h, pairsL14]
theorem fld_addr (a : Addr) (n j : Nat) : (a.add (n * 6)).add (j * 6) = a.add ((n + j) * 6) := by
  obtain ⟨B, O, sp⟩ := a
  unfold Addr.add
  by_cases h1 : n * 6 = 0
  · have : n = 0 := by omega
    subst this
    simp
  · by_cases h2 : j * 6 = 0
    · have : j = 0 := by omega
      subst this
      simp
    · rw [if_neg h1, if_neg h2, if_neg (by omega)]
      simp only [Addr.mk.injEq, true_and, and_true]
      omega
theorem cells6P {w : World} {b : Nat} {T : TypeId} {a0 a1 a2 a3 a4 a5 : Value} (h : w.heap[b]? = some (.cells #[a0, a1, a2, a3, a4, a5] T (0, 0))) : w.cell? ⟨b, 0, none⟩ = some a0 ∧ w.cell? ⟨b, 1, none⟩ = some a1 ∧ w.cell? ⟨b, 2, none⟩ = some a2 ∧ w.cell? ⟨b, 3, none⟩ = some a3 ∧ w.cell? ⟨b, 4, none⟩ = some a4 ∧ w.cell? ⟨b, 5, none⟩ = some a5 := by
  simp [World.cell?, h]
set_option maxHeartbeats 8000000 in
theorem pairs14_in (n : Nat) (hn : 1 ≤ n) (l b : Nat) (ver next : Int) (p : Option Addr) (c : Nat) (F : List FV) {Q : FV × FV → Prop} (L : List {f : FV × FV // Q f}) (w0 : World) (h : FldsAt w0 p F) (hL : F.length ≤ maxLen) (hc : F.length ≤ c) (hLF : L.map (·.1) = pairsL14 F)
    (J Jx : List {f : FV × FV // Q f} → World → Prop) (hJ : ∀ pre W W', J pre W → Bel W W' → J pre W')
    (hY : ∀ pre x W, J pre W → pre.length < L.length → YieldAt Fence.wide (n - 1) Tryd.prog l #[FV.val x.1.1, FV.val x.1.2] W fun e W' => (e = .returned (.bool true) ∧ J (pre ++ [x]) W' ∧ KeepC w0.heap.size W W') ∨ (e = .returned (.bool false) ∧ Jx (pre ++ [x]) W'))
    (W : World) (hb : W.heap[b]? = some (.cells #[.int .i64 ver, .int .i64 next, .slice p F.length c] 24 (0, 0))) (hB : Below w0.heap.size w0 W) (h0 : J [] W) :
    CallsIn Fence.wide n Tryd.prog 53 #[.func (.yield l) #[] #[], .pointer (some ⟨b, 0, none⟩)] W (ItPost14 L J Jx) := by
  have HJ := Lib.hid hJ; clear hJ
  have HY := Lib.hid hY; clear hY
  have H := Lib.hid h; clear h
  have H0 := Lib.hid h0; clear h0
  have HB0 := Lib.hid hB; clear hB
  have HBX := Lib.hid hb
  have HLF := Lib.hid hLF; clear hLF
  unfold maxLen at hL
  have c0 : W.cell? ⟨b, 2, none⟩ = some (.slice p F.length c) := by simp [World.cell?, hb]
  clear hb
  refine callsIn_of_wp Tryd.func53 rfl trivial ?_ rfl
  simp only [Tryd.ntmps53, List.size_toArray, List.length_cons, List.length_nil, Nat.reduceAdd, Nat.reduceSub, Array.replicate_succ, Array.replicate_zero, List.push_toArray, List.append_toArray, List.nil_append, List.cons_append]
  gi_wp2
  gi_loopw [10] (fun iv x => ∃ (i : Nat) (pre rest : List {f : FV × FV // Q f}), iv = .int .i64 (i : Int) ∧ i ≤ F.length ∧ L = pre ++ rest ∧ rest.map (·.1) = pairsL14 (F.drop i) ∧ x.heap[b]? = some (.cells #[.int .i64 ver, .int .i64 next, .slice p F.length c] 24 (0, 0)) ∧ Below w0.heap.size w0 x ∧ J pre x) (fun iv _ => F.length - (intOf iv).toNat)
  case atStart => exact ⟨0, [], L, rfl, Nat.zero_le _, rfl, HLF.out, HBX.out, HB0.out, H0.out⟩
  case round =>
    obtain ⟨i, pre, rest, rfl, hi, hLe, hre, hbx, hbw, hj⟩ := hrel
    have HLE := Lib.hid hLe
    have HRE := Lib.hid hre
    have HBW := Lib.hid hbw
    have HJK := Lib.hid hj
    have HBX2 := Lib.hid hbx
    clear hbw hj hbx hLe hre
    by_cases hlt : i < F.length
    · have hii : (i : Int) < (F.length : Int) := by omega
      obtain ⟨a, B, O, sp, rfl, ha, d0, d1, d2, d3, d4, d5⟩ := (H.out.bel HBW.out) i hlt
      obtain ⟨f, hf⟩ : ∃ f, f = F[i] := ⟨_, rfl⟩
      have HRE2 := Lib.hid (show rest.map (·.1) = ((F.drop (i + 1)).map fun g => (f, g)) ++ pairsL14 (F.drop (i + 1)) by rw [HRE.out, hf]; exact pairs_drop hlt)
      rw [← hf] at d0 d1 d2 d3 d4 d5
      clear hf HRE
      have e0 : wr.cell? ⟨b, 2, none⟩ = some (.slice (some a) F.length c) := by simp [World.cell?, HBX2.out]
      have hbl := (Array.getElem?_eq_some_iff.1 HBX2.out).1
      have e1 : (wr.alloc (.cells #[.int .i64 f.id, .int .i64 f.kind, .string f.name, .int .i64 f.d.k, .int .i64 f.d.n, .string f.d.s] 31)).cell? ⟨b, 2, none⟩ = some (.slice (some a) F.length c) := (Below.cell ((Bel.refl wr).alloc _) hbl).trans e0
      have hi1 : i + 1 ≤ F.length := hlt
      have hi2 : (i : Int) + 1 ≤ (F.length : Int) := by omega
      obtain ⟨m, hm⟩ : ∃ m, m + (i + 1) = F.length := ⟨F.length - (i + 1), by omega⟩
      have hmi : (F.length : Int) - ((i : Int) + 1) = (m : Int) := by omega
      have hmn : F.length - (i + 1) = m := by omega
      have hci : i + 1 ≤ c := by omega
      by_cases hce : c = i + 1
      · have hm0 : m = 0 := by omega
        have HAD := Lib.hid (show ∀ j, j < m → (a : Addr).add (j * 6) = a.add ((i + 1 + j) * 6) from fun j hj => by omega)
        have HM := Lib.hid hm
        have hfb : wr.heap.size < (wr.alloc (.cells #[.int .i64 f.id, .int .i64 f.kind, .string f.name, .int .i64 f.d.k, .int .i64 f.d.n, .string f.d.s] 31)).heap.size := by simp
        have HFB := Lib.hid (show (wr.alloc (.cells #[.int .i64 f.id, .int .i64 f.kind, .string f.name, .int .i64 f.d.k, .int .i64 f.d.n, .string f.d.s] 31)).heap[wr.heap.size]? = some (.cells #[.int .i64 f.id, .int .i64 f.kind, .string f.name, .int .i64 f.d.k, .int .i64 f.d.n, .string f.d.s] 31 (0, 0)) from heap_alloc_new wr _)
        have HBX3 := Lib.hid (show (wr.alloc (.cells #[.int .i64 f.id, .int .i64 f.kind, .string f.name, .int .i64 f.d.k, .int .i64 f.d.n, .string f.d.s] 31)).heap[b]? = some (.cells #[.int .i64 ver, .int .i64 next, .slice (some a) F.length c] 24 (0, 0)) from (Below.block ((Bel.refl wr).alloc _) b hbl).trans HBX2.out)
        have HBW3 := Lib.hid (show Below w0.heap.size w0 (wr.alloc (.cells #[.int .i64 f.id, .int .i64 f.kind, .string f.name, .int .i64 f.d.k, .int .i64 f.d.n, .string f.d.s] 31)) from HBW.out.trans (Below.mono ((Bel.refl wr).alloc _) HBW.out.size))
        have HJ3 := Lib.hid (HJ.out _ _ (wr.alloc (.cells #[.int .i64 f.id, .int .i64 f.kind, .string f.name, .int .i64 f.d.k, .int .i64 f.d.n, .string f.d.s] 31)) HJK.out ((Bel.refl wr).alloc _))
        gi_wp2
        clear d0 d1 d2 d3 d4 d5 e0 e1 hbl hm hmn hfb hci
        generalize wr.alloc (.cells #[.int .i64 f.id, .int .i64 f.kind, .string f.name, .int .i64 f.d.k, .int .i64 f.d.n, .string f.d.s] 31) = y at HFB HBX3 HBW3 HJ3 ⊢
        obtain ⟨X, hX⟩ : ∃ X, X = wr.heap.size := ⟨_, rfl⟩
        rw [← hX] at HFB ⊢
        clear hX
        gi_loopw [21] (fun jv x => ∃ (j : Nat) (pr rs : List {f : FV × FV // Q f}), jv = .int .i64 (j : Int) ∧ j ≤ m ∧ L = pr ++ rs ∧ rs.map (·.1) = ((F.drop (i + 1 + j)).map fun g => (f, g)) ++ pairsL14 (F.drop (i + 1)) ∧ x.heap[X]? = some (.cells #[.int .i64 f.id, .int .i64 f.kind, .string f.name, .int .i64 f.d.k, .int .i64 f.d.n, .string f.d.s] 31 (0, 0)) ∧ x.heap[b]? = some (.cells #[.int .i64 ver, .int .i64 next, .slice (some a) F.length c] 24 (0, 0)) ∧ Below w0.heap.size w0 x ∧ J pr x) (fun jv _ => m - (intOf jv).toNat)
        case atStart => exact ⟨0, pre, rest, rfl, Nat.zero_le _, HLE.out, by rw [Nat.add_zero]; exact HRE2.out, HFB.out, HBX3.out, HBW3.out, HJ3.out⟩
        case round =>
          clear HFB HBX3 HBW3 HJ3 HLE HRE2 HBX2 HBW HJK
          rename World => xx
          obtain ⟨j, pr, rs, rfl, hjm, hLe, hre, hfx, hbx, hbw, hj⟩ := hrel
          have HLE := Lib.hid hLe
          have HRE := Lib.hid hre
          have HFX := Lib.hid hfx
          have HBX := Lib.hid hbx
          have HBW := Lib.hid hbw
          have HJK := Lib.hid hj
          clear hLe hre hfx hbx hbw hj
          by_cases hlj : j < m
          · exfalso; omega
          · have hji : ¬ (j : Int) < (m : Int) := by omega
            have HRN := Lib.hid (show rs.map (·.1) = pairsL14 (F.drop (i + 1)) by
              rw [HRE.out, List.drop_eq_nil_of_le (by have := HM.out; omega)]; rfl)
            gi_wp2
            go_roundw
            case rel => exact ⟨i + 1, pr, rs, by go_num, hi1, HLE.out, HRN.out, HBX.out, HBW.out, HJK.out⟩
            case measure => simp [intOf]; omega
      · have HAD := Lib.hid (show ∀ j, j < m → ((a.add ((i + 1) * 6)) : Addr).add (j * 6) = a.add ((i + 1 + j) * 6) from fun j hj => fld_addr a (i + 1) j)
        have HM := Lib.hid hm
        have hfb : wr.heap.size < (wr.alloc (.cells #[.int .i64 f.id, .int .i64 f.kind, .string f.name, .int .i64 f.d.k, .int .i64 f.d.n, .string f.d.s] 31)).heap.size := by simp
        have HFB := Lib.hid (show (wr.alloc (.cells #[.int .i64 f.id, .int .i64 f.kind, .string f.name, .int .i64 f.d.k, .int .i64 f.d.n, .string f.d.s] 31)).heap[wr.heap.size]? = some (.cells #[.int .i64 f.id, .int .i64 f.kind, .string f.name, .int .i64 f.d.k, .int .i64 f.d.n, .string f.d.s] 31 (0, 0)) from heap_alloc_new wr _)
        have HBX3 := Lib.hid (show (wr.alloc (.cells #[.int .i64 f.id, .int .i64 f.kind, .string f.name, .int .i64 f.d.k, .int .i64 f.d.n, .string f.d.s] 31)).heap[b]? = some (.cells #[.int .i64 ver, .int .i64 next, .slice (some a) F.length c] 24 (0, 0)) from (Below.block ((Bel.refl wr).alloc _) b hbl).trans HBX2.out)
        have HBW3 := Lib.hid (show Below w0.heap.size w0 (wr.alloc (.cells #[.int .i64 f.id, .int .i64 f.kind, .string f.name, .int .i64 f.d.k, .int .i64 f.d.n, .string f.d.s] 31)) from HBW.out.trans (Below.mono ((Bel.refl wr).alloc _) HBW.out.size))
        have HJ3 := Lib.hid (HJ.out _ _ (wr.alloc (.cells #[.int .i64 f.id, .int .i64 f.kind, .string f.name, .int .i64 f.d.k, .int .i64 f.d.n, .string f.d.s] 31)) HJK.out ((Bel.refl wr).alloc _))
        gi_wp2
        clear d0 d1 d2 d3 d4 d5 e0 e1 hbl hm hmn hfb hci
        generalize wr.alloc (.cells #[.int .i64 f.id, .int .i64 f.kind, .string f.name, .int .i64 f.d.k, .int .i64 f.d.n, .string f.d.s] 31) = y at HFB HBX3 HBW3 HJ3 ⊢
        obtain ⟨X, hX⟩ : ∃ X, X = wr.heap.size := ⟨_, rfl⟩
        rw [← hX] at HFB ⊢
        clear hX
        gi_loopw [21] (fun jv x => ∃ (j : Nat) (pr rs : List {f : FV × FV // Q f}), jv = .int .i64 (j : Int) ∧ j ≤ m ∧ L = pr ++ rs ∧ rs.map (·.1) = ((F.drop (i + 1 + j)).map fun g => (f, g)) ++ pairsL14 (F.drop (i + 1)) ∧ x.heap[X]? = some (.cells #[.int .i64 f.id, .int .i64 f.kind, .string f.name, .int .i64 f.d.k, .int .i64 f.d.n, .string f.d.s] 31 (0, 0)) ∧ x.heap[b]? = some (.cells #[.int .i64 ver, .int .i64 next, .slice (some a) F.length c] 24 (0, 0)) ∧ Below w0.heap.size w0 x ∧ J pr x) (fun jv _ => m - (intOf jv).toNat)
        case atStart => exact ⟨0, pre, rest, rfl, Nat.zero_le _, HLE.out, by rw [Nat.add_zero]; exact HRE2.out, HFB.out, HBX3.out, HBW3.out, HJ3.out⟩
        case round =>
          clear HFB HBX3 HBW3 HJ3 HLE HRE2 HBX2 HBW HJK
          rename World => xx
          obtain ⟨j, pr, rs, rfl, hjm, hLe, hre, hfx, hbx, hbw, hj⟩ := hrel
          have HLE := Lib.hid hLe
          have HRE := Lib.hid hre
          have HFX := Lib.hid hfx
          have HBX := Lib.hid hbx
          have HBW := Lib.hid hbw
          have HJK := Lib.hid hj
          clear hLe hre hfx hbx hbw hj
          by_cases hlj : j < m
          · have hji : (j : Int) < (m : Int) := by omega
            have hij : i + 1 + j < F.length := by have := HM.out; omega
            obtain ⟨a', B', O', sp', ha0, ha', d0, d1, d2, d3, d4, d5⟩ := (H.out.bel HBW.out) (i + 1 + j) hij
            obtain rfl : a = a' := by simpa using ha0
            rw [← HAD.out j hlj] at ha'
            obtain ⟨g, hg⟩ : ∃ g, g = F[i + 1 + j] := ⟨_, rfl⟩
            rw [← hg] at d0 d1 d2 d3 d4 d5
            have HRE2 := Lib.hid (show rs.map (·.1) = (f, g) :: (((F.drop (i + 1 + (j + 1))).map fun g => (f, g)) ++ pairsL14 (F.drop (i + 1))) by
              rw [HRE.out, List.drop_eq_getElem_cons hij, hg]; rfl)
            clear hg ha0 HRE
            cases rs with
            | nil => have := HRE2.out; cases this
            | cons x rs =>
              have hre := HRE2.out
              simp only [List.map_cons, List.cons.injEq] at hre
              have HXE := Lib.hid hre.1
              have HRN := Lib.hid hre.2
              clear hre HRE2
              have hlen : pr.length < L.length := by rw [HLE.out]; simp
              have hBA : Bel xx (xx.alloc (.cells #[.int .i64 g.id, .int .i64 g.kind, .string g.name, .int .i64 g.d.k, .int .i64 g.d.n, .string g.d.s] 31)) := (Bel.refl xx).alloc _
              obtain ⟨fn, tmps, assign, body, hy, hR⟩ := HY.out pr x _ (HJ.out _ _ _ HJK.out hBA) hlen
              rw [HXE.out] at hy
              simp only [FV.val] at hy
              have hkf := (Below.block hBA X (Array.getElem?_eq_some_iff.1 HFX.out).1).trans HFX.out
              have hkb := (Below.block hBA b (Array.getElem?_eq_some_iff.1 HBX.out).1).trans HBX.out
              obtain ⟨s0, s1, s2, s3, s4, s5⟩ := cells6P hkf
              have HKF := Lib.hid hkf
              have HKB := Lib.hid hkb
              have HB2 := Lib.hid (show Below w0.heap.size w0 (xx.alloc (.cells #[.int .i64 g.id, .int .i64 g.kind, .string g.name, .int .i64 g.d.k, .int .i64 g.d.n, .string g.d.s] 31)) from HBW.out.trans (Below.mono hBA HBW.out.size))
              clear hBA hkf hkb hlen hij
              gi_wp2
              refine hR.mono ?_
              clear s0 s1 s2 s3 s4 s5 d0 d1 d2 d3 d4 d5
              rintro e3 W3 (⟨rfl, hJ3, hk3⟩ | ⟨rfl, hJx3⟩)
              · have HJ3 := Lib.hid hJ3
                have HB3 := Lib.hid (HB2.out.trans hk3.1)
                have HF3 := Lib.hid (hk3.blk HKF.out)
                have HX3 := Lib.hid (hk3.blk HKB.out)
                have HLN := Lib.hid (show L = (pr ++ [x]) ++ rs by rw [HLE.out]; simp)
                clear hJ3 hk3 hy
                gi_wp2
                go_roundw
                case rel => exact ⟨j + 1, pr ++ [x], rs, by go_num, hlj, HLN.out, HRN.out, HF3.out, HX3.out, HB3.out, HJ3.out⟩
                case measure => simp [intOf]; omega
              · have HX := Lib.hid hJx3
                clear hJx3 hy
                gi_wp2
                refine bodyPost_ret (results_none rfl _ _ _) rfl ?_
                exact ⟨⟨_, rfl⟩, .inr ⟨_, ⟨rs, by rw [HLE.out]; simp⟩, HX.out⟩⟩
          · have hji : ¬ (j : Int) < (m : Int) := by omega
            have HRN := Lib.hid (show rs.map (·.1) = pairsL14 (F.drop (i + 1)) by
              rw [HRE.out, List.drop_eq_nil_of_le (by have := HM.out; omega)]; rfl)
            gi_wp2
            go_roundw
            case rel => exact ⟨i + 1, pr, rs, by go_num, hi1, HLE.out, HRN.out, HBX.out, HBW.out, HJK.out⟩
            case measure => simp [intOf]; omega
    · have hii : ¬ (i : Int) < (F.length : Int) := by omega
      have HE := Lib.hid (show L = pre by
        have h1 := HRE.out
        rw [List.drop_eq_nil_of_le (by omega)] at h1
        have h2 : rest = [] := List.map_eq_nil_iff.1 h1
        rw [HLE.out, h2, List.append_nil])
      gi_wp2
      go_end0
      exact ⟨⟨_, rfl⟩, .inl ⟨pre, HE.out.symm, HJK.out⟩⟩
theorem pairs14_stops (n : Nat) (hn : 1 ≤ n) (b : Nat) (ver next : Int) (p : Option Addr) (c : Nat) (F : List FV) {Q : FV × FV → Prop} (L : List {f : FV × FV // Q f}) (w0 w : World) (h : FldsAt w0 p F) (hL : F.length ≤ maxLen) (hc : F.length ≤ c) (hLF : L.map (·.1) = pairsL14 F)
    (hb : w.heap[b]? = some (.cells #[.int .i64 ver, .int .i64 next, .slice p F.length c] 24 (0, 0))) (hB : Below w0.heap.size w0 w) :
    SeqStopsK Fence.wide n Tryd.prog 53 #[.pointer (some ⟨b, 0, none⟩)] (fun x : {f : FV × FV // Q f} => #[FV.val x.1.1, FV.val x.1.2]) (KeepC w0.heap.size) (fun ys => ys = L) (fun pre => pre <+: L) L.length w := fun l J Jx W hW hJ _ hY h0 =>
  pairs14_in n hn l b ver next p c F L w0 h hL hc hLF J Jx (fun pre A B h hb => hJ pre A B none h (grown_bel14 hb) (fun r e => by cases e)) hY W ((Below.block hW b (Array.getElem?_eq_some_iff.1 hb).1).trans hb) (hB.trans (Below.mono hW hB.size)) h0
end Go.Proofs.YtbalkchphijehaaDoor
/- Blocks of some cells (a field, a schema, a row): their cells, stores into them, what keeps them. -/
set_option maxRecDepth 20000
namespace Go.Proofs.YtbalkchphijehaaDoor
open Go.RowKit Go.Shelf Go.Deep

section
variable {w x : World} {k : Nat} {T : TypeId} {a b c d e f a' b' c' d' e' f' u : Value}
theorem qcell {arr : Array Value} (h : w.heap[k]? = some (.cells arr T (0, 0))) (i : Nat) : w.cell? ⟨k, i, none⟩ = arr[i]? := by simp [World.cell?, h]
theorem qfrozen {arr : Array Value} (h : w.heap[k]? = some (.cells arr T (0, 0))) (i : Nat) : w.frozen? ⟨k, i, none⟩ = false := by simp [World.frozen?, h]
theorem qlt {o : Obj} (h : w.heap[k]? = some o) : k < w.heap.size := (Array.getElem?_eq_some_iff.1 h).1
theorem qbel {o : Obj} (h : w.heap[k]? = some o) (hb : Bel w x) : x.heap[k]? = some o := (Below.block hb k (Array.getElem?_eq_some_iff.1 h).1).trans h
theorem qset {arr : Array Value} (h : w.heap[k]? = some (.cells arr T (0, 0))) (i : Nat) (v : Value) : (w.setCell ⟨k, i, none⟩ v).heap[k]? = some (.cells (arr.setIfInBounds i v) T (0, 0)) := by
  obtain ⟨hlt, hk⟩ := Array.getElem?_eq_some_iff.1 h
  show (w.heap.modify k _)[k]? = _
  rw [Array.getElem?_eq_getElem (by rw [Array.size_modify]; exact hlt), Array.getElem_modify_self, hk]
  rfl
theorem qbox6 (h : w.heap[k]? = some (.cells #[a, b, c, d, e, f] T (0, 0))) : (w.cell? ⟨k, 0, none⟩ = some a ∧ w.cell? ⟨k, 1, none⟩ = some b ∧ w.cell? ⟨k, 2, none⟩ = some c ∧ w.cell? ⟨k, 3, none⟩ = some d ∧ w.cell? ⟨k, 4, none⟩ = some e ∧ w.cell? ⟨k, 5, none⟩ = some f) ∧
    w.frozen? ⟨k, 0, none⟩ = false ∧ w.frozen? ⟨k, 1, none⟩ = false ∧ w.frozen? ⟨k, 2, none⟩ = false ∧ w.frozen? ⟨k, 3, none⟩ = false ∧ w.frozen? ⟨k, 4, none⟩ = false ∧ w.frozen? ⟨k, 5, none⟩ = false :=
  ⟨⟨qcell h 0, qcell h 1, qcell h 2, qcell h 3, qcell h 4, qcell h 5⟩, qfrozen h 0, qfrozen h 1, qfrozen h 2, qfrozen h 3, qfrozen h 4, qfrozen h 5⟩
theorem qbox3 (h : w.heap[k]? = some (.cells #[a, b, c] T (0, 0))) : (w.cell? ⟨k, 0, none⟩ = some a ∧ w.cell? ⟨k, 1, none⟩ = some b ∧ w.cell? ⟨k, 2, none⟩ = some c) ∧ w.frozen? ⟨k, 0, none⟩ = false ∧ w.frozen? ⟨k, 1, none⟩ = false ∧ w.frozen? ⟨k, 2, none⟩ = false :=
  ⟨⟨qcell h 0, qcell h 1, qcell h 2⟩, qfrozen h 0, qfrozen h 1, qfrozen h 2⟩
theorem qbox2 (h : w.heap[k]? = some (.cells #[a, b] T (0, 0))) : (w.cell? ⟨k, 0, none⟩ = some a ∧ w.cell? ⟨k, 1, none⟩ = some b) ∧ w.frozen? ⟨k, 0, none⟩ = false ∧ w.frozen? ⟨k, 1, none⟩ = false :=
  ⟨⟨qcell h 0, qcell h 1⟩, qfrozen h 0, qfrozen h 1⟩
theorem keep_st (w : World) (k i : Nat) (u : Value) : Keep [k] w (w.setCell ⟨k, i, none⟩ u) := (Keep.refl [k] w).setCell (p := ⟨k, i, none⟩) (Or.inl (by simp)) u
theorem kt {F : List Nat} {x y z : World} (h : Keep F x y) (k : Keep F y z) : Keep F x z := h.trans k (fun _ hj => Or.inl hj)
theorem keep_belq {y z : World} {k : Nat} (h : Keep [k] y z) (hb : Bel x y) (hk : x.heap.size ≤ k) : Bel x z :=
  ((Keep.of_bel hb [k]).trans h (fun j hj => Or.inl hj)).bel (fun j hj => by rw [List.mem_singleton] at hj; omega)
theorem keep_belowq {n : Nat} {y z : World} {k : Nat} (h : Keep [k] y z) (hb : Below n x y) (hn : n ≤ x.heap.size) (hk : n ≤ k) : Below n x z :=
  hb.trans (h.below (Nat.le_trans hn hb.size) (fun j hj => by rw [List.mem_singleton] at hj; omega))
/-- A block that is cells abides the turn of one that is none. -/
theorem blk_own {β : Type} (b : Nat) (arr : Array Value) (T : TypeId) : Go.Own (fun (_ : β) W => W.heap[b]? = some (Obj.cells arr T (0, 0))) := fun s X Y row hs hg hr =>
  at_ownQ hs hg hr
where
  at_ownQ {W X : World} {row : Option Nat} (h : W.heap[b]? = some (.cells arr T (0, 0))) (hg : W.grownBy X row) (hr : ∀ r, row = some r → ∃ o : Obj, W.heap[r]? = some o ∧ o.isCells = false) : X.heap[b]? = some (.cells arr T (0, 0)) :=
    (hg.block b (Array.getElem?_eq_some_iff.1 h).1 (fun e => by
      obtain ⟨o, ho, hc⟩ := hr b e.symm
      rw [h] at ho; cases ho; cases hc)).trans h
theorem keepO_keep {A B : World} {k : Nat} {arr : Array Value} (h : Keep [k] A B) (hk : A.heap[k]? = some (.cells arr T (0, 0))) : KeepsOthers A B :=
  ⟨h.size, fun j o hj hc => h.at hj (fun hm => by rw [List.mem_singleton] at hm; subst hm; rw [hk] at hj; cases hj; cases hc)⟩
theorem keepO_bel {A B : World} (h : Bel A B) : KeepsOthers A B := ⟨h.size, fun j o hj _ => (Below.block h j (Array.getElem?_eq_some_iff.1 hj).1).trans hj⟩
end
end Go.Proofs.YtbalkchphijehaaDoor
/- moultlaw14: sameValues, same, small, pick. -/
set_option maxRecDepth 20000
namespace Go.Proofs.YtbalkchphijehaaDoor
open Go.RowKit Go.Deep

set_option maxHeartbeats 4000000 in
theorem sameV14_any (p q : Option Addr) (cap cap' : Nat) (L : List KV) (w : World) (h : ValsAt w p L) (h' : ValsAt w q L) (hL : L.length ≤ 1000) :
    Calls Tryd.prog 25 #[.slice p L.length cap, .slice q L.length cap'] w fun e w' => e = .returned (.bool true) ∧ Drw w w' := by
  have H := Lib.hid h; clear h
  have H' := Lib.hid h'; clear h'
  go_enter Tryd.func25, Tryd.ntmps25
  go_wp2_with (fail)
  go_loopw [5] (fun i x => (∃ k : Nat, k ≤ L.length ∧ i = .int .i64 k) ∧ Drw w x) (fun i _ => L.length - (intOf i).toNat)
  case atStart => exact ⟨⟨0, Nat.zero_le _, rfl⟩, Drw.refl w⟩
  case round =>
    obtain ⟨⟨k, hk, rfl⟩, hw⟩ := hrel
    have HW := Lib.hid hw; clear hw
    by_cases hlt : k < L.length
    · obtain ⟨a, B, O, sp, rfl, ha, c0, c1, c2⟩ := (H.out.bel HW.out.bel) k hlt
      obtain ⟨a', B', O', sp', rfl, ha', c0', c1', c2'⟩ := (H'.out.bel HW.out.bel) k hlt
      go_wp2_with (fail)
      go_quiet (fail)
      go_wp2_with (fail)
      go_roundw
      case rel => exact ⟨⟨k + 1, hlt, by go_num⟩, HW.out.drewN _⟩
      case measure => simp [intOf]; omega
    · go_wp2_with (fail)
      go_ret
      exact ⟨rfl, HW.out⟩
/-- What being small says. -/
def Smal14 (F : List FV) (L : List KV) : Prop := (F.length ≤ 30 ∧ L.length ≤ 30) ∧ (∀ f ∈ F, f.name.size ≤ 100 ∧ f.d.s.size ≤ 1500) ∧ ∀ v ∈ L, v.s.size ≤ 1500
def SmlPost14 (F : List FV) (L : List KV) (w : World) (e : Ending) (w' : World) : Prop := ∃ b : Bool, e = .returned (.bool b) ∧ (b = true → Smal14 F L) ∧ Bel w w'
set_option maxHeartbeats 8000000 in
theorem small14_any (ver next : Int) (p : Option Addr) (c : Nat) (F : List FV) (q : Option Addr) (d : Nat) (L : List KV) (w : World) (h : FldsAt w p F) (hF : F.length ≤ maxLen) (h' : ValsAt w q L) (hL : L.length ≤ maxLen) :
    Calls Tryd.prog 10 #[.agg #[.int .i64 ver, .int .i64 next, .slice p F.length c], .slice q L.length d] w (SmlPost14 F L w) := by
  unfold maxLen at hF hL
  have H := Lib.hid h; clear h
  have H' := Lib.hid h'; clear h'
  obtain ⟨X, hX⟩ : ∃ X, X = w.heap.size := ⟨_, rfl⟩
  obtain ⟨w1, hw1⟩ : ∃ z, z = w.alloc (.cells #[.int .i64 ver, .int .i64 next, .slice p F.length c] 24) := ⟨_, rfl⟩
  have HB1 := Lib.hid (show Bel w w1 by rw [hw1]; exact (Bel.refl w).alloc _)
  have HK1 := Lib.hid (show w1.heap[X]? = some (.cells #[.int .i64 ver, .int .i64 next, .slice p F.length c] 24 (0, 0)) by rw [hw1, hX]; exact heap_alloc_new w _)
  have hNO : ∀ x, Bel w x → SmlPost14 F L w (.returned (.bool false)) x := fun x hx => ⟨false, rfl, fun h => (by cases h), hx⟩
  have HNO := Lib.hid hNO
  clear hNO
  by_cases hf : F.length ≤ 30
  · by_cases hl : L.length ≤ 30
    · have f1 : ¬ (30 : Int) < (F.length : Int) := by omega
      have f2 : ¬ (30 : Int) < (L.length : Int) := by omega
      have HF30 := Lib.hid hf
      have HL30 := Lib.hid hl
      obtain ⟨⟨s0, s1, s2⟩, -⟩ := qbox3 HK1.out
      rw [hX, hw1] at s0 s1 s2
      go_enter Tryd.func10, Tryd.ntmps10
      go_wp2_with (fail)
      rw [← hw1, ← hX]
      clear hw1 hX s0 s1 s2
      go_loopw [5] (fun i x => ∃ k : Nat, k ≤ F.length ∧ i = .int .i64 k ∧ (∀ j (hj : j < F.length), j < k → F[j].name.size ≤ 100 ∧ F[j].d.s.size ≤ 1500) ∧ x = w1) (fun i _ => F.length - (intOf i).toNat)
      case atStart => exact ⟨0, Nat.zero_le _, rfl, fun _ _ h => by omega, rfl⟩
      case round =>
        obtain ⟨k, hk, rfl, hj, rfl⟩ := hrel
        have HJ := Lib.hid hj; clear hj
        obtain ⟨⟨s0, s1, s2⟩, -⟩ := qbox3 HK1.out
        by_cases hlt : k < F.length
        · have hii : (k : Int) < (F.length : Int) := by omega
          obtain ⟨a, B, O, sp, rfl, ha, c0, c1, c2, c3, c4, c5⟩ := (H.out.bel HB1.out) k hlt
          by_cases h1 : F[k].name.size ≤ 100
          · have g1 : ¬ (100 : Int) < (F[k].name.size : Int) := by omega
            by_cases h2 : F[k].d.s.size ≤ 1500
            · have g2 : ¬ (1500 : Int) < (F[k].d.s.size : Int) := by omega
              have HN := Lib.hid (show ∀ j (hj : j < F.length), j < k + 1 → F[j].name.size ≤ 100 ∧ F[j].d.s.size ≤ 1500 by
                intro j hj hjk
                by_cases e : j = k
                · subst e; exact ⟨h1, h2⟩
                · exact HJ.out j hj (by omega))
              clear h1 h2
              go_wp2_with (fail)
              go_roundw
              case rel => exact ⟨k + 1, hlt, by go_num, HN.out, by trivial⟩
              case measure => simp [intOf]; omega
            · have g2 : (1500 : Int) < (F[k].d.s.size : Int) := by omega
              clear h1 h2
              go_wp2_with (fail)
              go_ret
              exact HNO.out _ HB1.out
          · have g1 : (100 : Int) < (F[k].name.size : Int) := by omega
            clear h1
            go_wp2_with (fail)
            go_ret
            exact HNO.out _ HB1.out
        · have hii : ¬ (k : Int) < (F.length : Int) := by omega
          have HFA := Lib.hid (show ∀ f ∈ F, f.name.size ≤ 100 ∧ f.d.s.size ≤ 1500 from fun f hm => by
            obtain ⟨i, hi, rfl⟩ := List.getElem_of_mem hm
            exact HJ.out i hi (by omega))
          go_wp2_with (fail)
          obtain ⟨xx, hxx⟩ : ∃ xx, xx = wr := ⟨_, rfl⟩
          subst hxx
          go_loopw [6] (fun i x => ∃ k : Nat, k ≤ L.length ∧ i = .int .i64 k ∧ (∀ j (hj : j < L.length), j < k → L[j].s.size ≤ 1500) ∧ x = xx) (fun i _ => L.length - (intOf i).toNat)
          case atStart => exact ⟨0, Nat.zero_le _, rfl, fun _ _ h => by omega, rfl⟩
          case round =>
            obtain ⟨k2, hk2, rfl, hj2, rfl⟩ := hrel
            have HJ2 := Lib.hid hj2; clear hj2
            by_cases hlt2 : k2 < L.length
            · have hii2 : (k2 : Int) < (L.length : Int) := by omega
              obtain ⟨a, B, O, sp, rfl, ha, c0, c1, c2⟩ := (H'.out.bel HB1.out) k2 hlt2
              by_cases h2 : L[k2].s.size ≤ 1500
              · have g2 : ¬ (1500 : Int) < (L[k2].s.size : Int) := by omega
                have HN := Lib.hid (show ∀ j (hj : j < L.length), j < k2 + 1 → L[j].s.size ≤ 1500 by
                  intro j hj hjk
                  by_cases e : j = k2
                  · subst e; exact h2
                  · exact HJ2.out j hj (by omega))
                clear h2
                go_wp2_with (fail)
                go_roundw
                case rel => exact ⟨k2 + 1, hlt2, by go_num, HN.out, by trivial⟩
                case measure => simp [intOf]; omega
              · have g2 : (1500 : Int) < (L[k2].s.size : Int) := by omega
                clear h2
                go_wp2_with (fail)
                go_ret
                exact HNO.out _ HB1.out
            · have hii2 : ¬ (k2 : Int) < (L.length : Int) := by omega
              have HLA := Lib.hid (show ∀ v ∈ L, v.s.size ≤ 1500 from fun f hm => by
                obtain ⟨i, hi, rfl⟩ := List.getElem_of_mem hm
                exact HJ2.out i hi (by omega))
              go_wp2_with (fail)
              go_ret
              exact ⟨true, rfl, fun _ => ⟨⟨HF30.out, HL30.out⟩, HFA.out, HLA.out⟩, HB1.out⟩
    · have f1 : ¬ (30 : Int) < (F.length : Int) := by omega
      have f2 : (30 : Int) < (L.length : Int) := by omega
      go_enter Tryd.func10, Tryd.ntmps10
      go_wp2_with (fail)
      go_ret
      exact HNO.out _ (by rw [← hw1]; exact HB1.out)
  · have f1 : (30 : Int) < (F.length : Int) := by omega
    go_enter Tryd.func10, Tryd.ntmps10
    go_wp2_with (fail)
    go_ret
    exact HNO.out _ (by rw [← hw1]; exact HB1.out)
end Go.Proofs.YtbalkchphijehaaDoor
/- schema.number; schema's reader of bytes: its number, text, value, field. -/
set_option maxRecDepth 20000
namespace Go.Proofs.YtbalkchphijehaaDoor
open Go.RowKit Go.Deep

theorem qba_size (l : List UInt8) : (⟨l.toArray⟩ : ByteArray).size = l.length := by show l.toArray.size = _; simp
theorem qba_of {r : ByteArray} {l : List UInt8} (h : r.data.toList = l) : r = ⟨l.toArray⟩ := by apply ByteArray.ext; apply Array.toList_inj.1; rw [h]
set_option maxHeartbeats 1000000 in
theorem pnumber14_any (n : Int) (h : 0 ≤ n) (hn : n < 9223372036854775808) (w : World) :
    Calls Tryd.prog 42 #[.int .i64 n] w fun e w' => e = .returned (.string ⟨(putL n.toNat).toArray⟩) ∧ Bel w w' := by
  obtain ⟨m, rfl⟩ : ∃ m : Nat, n = (m : Int) := ⟨n.toNat, by omega⟩
  have hw : IntKind.u64.wrap (m : Int) = (m : Int) := by rw [wrap_u643]; omega
  go_enter Tryd.func42, Tryd.ntmps42
  go_wp2_with (fail)
  refine (put_any3 m _ (by omega)).mono ?_
  rintro e w1 ⟨rfl, hb⟩
  go_wp2_with (fail)
  go_ret
  exact ⟨rfl, hb⟩
/-- The reader at b. -/
def InAt (w : World) (b : Nat) (st : IB) : Prop := w.heap[b]? = some (.cells #[.string ⟨st.1.toArray⟩, .bool st.2] 74 (0, 0))
theorem InAt.bel {w x : World} {b : Nat} {st : IB} (h : InAt w b st) (hb : Bel w x) : InAt x b st := qbel h hb
theorem InAt.keep {w x : World} {b : Nat} {st : IB} {F : List Nat} (h : InAt w b st) (hk : Keep F w x) (hb : b ∉ F) : InAt x b st := hk.at h hb
set_option maxHeartbeats 2000000 in
theorem inum14_any (b most : Nat) (st : IB) (w : World) (h : InAt w b st) (hs : st.1.length ≤ 1000000) (hm : most ≤ 1000000) :
    Calls Tryd.prog 45 #[.pointer (some ⟨b, 0, none⟩), .int .i64 (most : Int)] w fun e w' => e = .returned (.int .i64 ((numS most st).1 : Int)) ∧ InAt w' b (numS most st).2 ∧ Keep [b] w w' := by
  obtain ⟨s, bad⟩ := st
  obtain ⟨n, rr, ok, ht⟩ : ∃ n rr ok, takeL s = (n, rr, ok) := ⟨_, _, _, rfl⟩
  have hn64 : n < 18446744073709551616 := by have := take_lt s; rw [ht] at this; exact this
  have HT := Lib.hid ht
  obtain ⟨r, hr⟩ : ∃ r : ByteArray, r.data.toList = s := ⟨⟨s.toArray⟩, by simp⟩
  have HRS := Lib.hid (qba_of hr)
  have HSZ := Lib.hid (show r.size ≤ 1000000 by have e : r.data.toList.length = r.size := rfl; rw [hr] at e; simp only at hs; omega)
  have HK := Lib.hid (show w.heap[b]? = some (.cells #[.string r, .bool bad] 74 (0, 0)) by rw [HRS.out]; exact h)
  have HTV := Lib.hid (show takeV3 r.data.toList = .tuple #[.int .u64 (n : Int), .string ⟨rr.toArray⟩, .bool ok] by rw [hr, takeV3, ht])
  have hmw : IntKind.u64.wrap (most : Int) = (most : Int) := by rw [wrap_u643]; omega
  obtain ⟨⟨c0, c1⟩, f0, f1⟩ := qbox2 HK.out
  clear ht hr h hs
  go_enter Tryd.func45, Tryd.ntmps45
  go_wp2_with (fail)
  refine (take_any3 r _ HSZ.out).mono ?_
  rintro e w1 ⟨rfl, hb⟩
  rw [HTV.out]
  have HB := Lib.hid hb
  have hk1 := qbel HK.out hb
  have HK1 := Lib.hid hk1
  clear hb c0 c1 f0 f1
  obtain ⟨⟨c0, c1⟩, f0, f1⟩ := qbox2 hk1
  clear hk1
  cases ok with
  | false =>
    have HN := Lib.hid (numS_no (most := most) (st := (s, bad)) (Or.inl (by simp only; rw [HT.out])))
    go_wp2_with (fail)
    go_ret
    refine ⟨by rw [HN.out]; rfl, by rw [HN.out]; unfold InAt; rw [← HRS.out]; exact qset HK1.out 1 _, (Keep.of_bel HB.out _).trans (keep_st _ b 1 _) (fun _ hj => Or.inl hj)⟩
  | true =>
    by_cases hgt : n ≤ most
    · have hg : ¬ (most : Int) < (n : Int) := by omega
      have hwn : IntKind.i64.wrap (n : Int) = (n : Int) := by rw [IntKind.wrap_i64]; omega
      have HN := Lib.hid (numS_yes (most := most) (st := (s, bad)) (by simp only; rw [HT.out]) (by simp only; rw [HT.out]; exact hgt))
      clear hgt
      go_wp2_with (fail)
      go_ret
      refine ⟨by rw [HN.out, HT.out]; rfl, by rw [HN.out]; unfold InAt; simp only; rw [HT.out]; exact qset HK1.out 0 _, (Keep.of_bel HB.out _).trans (keep_st _ b 0 _) (fun _ hj => Or.inl hj)⟩
    · have hg : (most : Int) < (n : Int) := by omega
      have HN := Lib.hid (numS_no (most := most) (st := (s, bad)) (Or.inr (by simp only; rw [HT.out]; exact hgt)))
      clear hgt
      go_wp2_with (fail)
      go_ret
      refine ⟨by rw [HN.out]; rfl, by rw [HN.out]; unfold InAt; rw [← HRS.out]; exact qset HK1.out 1 _, (Keep.of_bel HB.out _).trans (keep_st _ b 1 _) (fun _ hj => Or.inl hj)⟩
end Go.Proofs.YtbalkchphijehaaDoor
/- The reader's field. -/
set_option maxRecDepth 20000
namespace Go.Proofs.YtbalkchphijehaaDoor
open Go.RowKit Go.Deep

end Go.Proofs.YtbalkchphijehaaDoor
/- The reader's fields: an iterator over those that come next, none from the first one on that can't be read. -/
set_option maxRecDepth 100000
namespace Go.Proofs.YtbalkchphijehaaDoor
open Go.RowKit Go.Shelf Go.Deep

attribute [local go_sem] Oper.semAt_some

theorem Std.keep {w x : World} {F : List Nat} (h : Std w) (hk : Keep F w x) (hF : 0 ∉ F) : Std x := ⟨Nat.lt_of_lt_of_le h.1 hk.size, fun i hi => hk.cell (h.2 i hi) hF⟩
theorem Std.below {w x : World} {n₀ : Nat} (h : Std w) (hn : n₀ = w.heap.size) (hb : Below n₀ w x) : Std x := by subst hn; exact h.bel hb
end Go.Proofs.YtbalkchphijehaaDoor
/- schema.Find, ByID. -/
set_option maxRecDepth 100000
namespace Go.Proofs.YtbalkchphijehaaDoor
open Go.RowKit Go.Shelf Go.Deep

attribute [local go_sem] Oper.semAt_some

/-- Elements of a list, each with what is known of all. -/
def withP {α : Type} (P : α → Prop) (L : List α) (h : ∀ x ∈ L, P x) : List {x : α // P x} := L.attachWith P h
theorem withP_map {α : Type} {P : α → Prop} {L : List α} (h : ∀ x ∈ L, P x) : (withP P L h).map (·.1) = L := List.attachWith_map_subtype_val ..
theorem withP_len {α : Type} {P : α → Prop} {L : List α} (h : ∀ x ∈ L, P x) : (withP P L h).length = L.length := by simp [withP]
end Go.Proofs.YtbalkchphijehaaDoor
/- schema.filled: a schema's fields, each with its value, told to a loop. -/
set_option maxRecDepth 100000
namespace Go.Proofs.YtbalkchphijehaaDoor
open Go.RowKit Go.Shelf Go.Deep

attribute [local go_sem] Oper.semAt_some

set_option maxHeartbeats 8000000 in
theorem fill14_in (n : Nat) (hn : 1 ≤ n) (l b b2 : Nat) (ver next : Int) (p : Option Addr) (c : Nat) (q : Option Addr) (d : Nat) {Q : FV × KV → Prop} (L : List {f : FV × KV // Q f}) (w0 : World) (h : FldsAt w0 p (L.map (·.1.1))) (h' : ValsAt w0 q (L.map (·.1.2))) (hL : L.length ≤ maxLen)
    (J Jx : List {f : FV × KV // Q f} → World → Prop) (hJ : ∀ pre W W', J pre W → Bel W W' → J pre W')
    (hY : ∀ pre x W, J pre W → pre.length < L.length → YieldAt Fence.wide (n - 1) Tryd.prog l #[FV.val x.1.1, .agg #[.int .i64 x.1.2.k, .int .i64 x.1.2.n, .string x.1.2.s]] W fun e W' => (e = .returned (.bool true) ∧ J (pre ++ [x]) W' ∧ KeepR w0.heap.size [b2] W W') ∨ (e = .returned (.bool false) ∧ Jx (pre ++ [x]) W'))
    (W : World) (hb : W.heap[b]? = some (.cells #[.int .i64 ver, .int .i64 next, .slice p L.length c] 24 (0, 0))) (hb2 : Boxed W b2 25 (.slice q L.length d)) (hB : Below w0.heap.size w0 W) (h0 : J [] W) :
    CallsIn Fence.wide n Tryd.prog 54 #[.func (.yield l) #[] #[], .pointer (some ⟨b, 0, none⟩), .pointer (some ⟨b2, 0, none⟩)] W (ItPost14 L J Jx) := by
  have HJ := Lib.hid hJ; clear hJ
  have HY := Lib.hid hY; clear hY
  have H := Lib.hid h; clear h
  have H' := Lib.hid h'; clear h'
  have H0 := Lib.hid h0; clear h0
  have HB0 := Lib.hid hB; clear hB
  have HBX := Lib.hid hb2; clear hb2
  unfold maxLen at hL
  have c0 : W.cell? ⟨b, 2, none⟩ = some (.slice p L.length c) := by simp [World.cell?, hb]
  clear hb
  refine callsIn_of_wp Tryd.func54 rfl trivial ?_ rfl
  simp only [Tryd.ntmps54, List.size_toArray, List.length_cons, List.length_nil, Nat.reduceAdd, Nat.reduceSub, Array.replicate_succ, Array.replicate_zero, List.push_toArray, List.append_toArray, List.nil_append, List.cons_append]
  gi_wp2
  gi_loopw [9] (fun iv x => Boxed x b2 25 (.slice q L.length d) ∧ VlRel14 L w0 J iv x) (fun iv _ => L.length - (intOf iv).toNat)
  case atStart => exact ⟨HBX.out, [], L, rfl, rfl, HB0.out, H0.out⟩
  case round =>
    obtain ⟨hbx, pre, rest, rfl, hLe, hbw, hj⟩ := hrel
    have HLE := Lib.hid hLe
    have HBW := Lib.hid hbw
    have HJK := Lib.hid hj
    have HBX2 := Lib.hid hbx
    clear hbw hj hbx
    cases rest with
    | nil =>
      have hki : ¬ (pre.length : Int) < (L.length : Int) := by have := congrArg List.length hLe; simp at this; omega
      have HE := Lib.hid (show L = pre by have := HLE.out; simpa using this)
      clear hLe
      gi_wp2
      go_end0
      exact ⟨⟨_, rfl⟩, .inl ⟨pre, HE.out.symm, HJK.out⟩⟩
    | cons x rest =>
      have hkl : pre.length < L.length := by have := congrArg List.length hLe; simp at this; omega
      have hki : (pre.length : Int) < (L.length : Int) := by omega
      obtain ⟨k, hk⟩ : ∃ k, k = pre.length := ⟨_, rfl⟩
      have hkm : k < (L.map (·.1.1)).length := by rw [List.length_map, hk]; exact hkl
      have hkm' : k < (L.map (·.1.2)).length := by rw [List.length_map, hk]; exact hkl
      have hxk : L[k]'(by rw [hk]; exact hkl) = x := by simp [hk, hLe]
      have hx : (L.map (·.1.1))[k] = x.1.1 := by simp only [List.getElem_map]; rw [hxk]
      have hx' : (L.map (·.1.2))[k] = x.1.2 := by simp only [List.getElem_map]; rw [hxk]
      obtain ⟨a, B, O, sp, rfl, ha, d0, d1, d2, d3, d4, d5⟩ := (H.out.bel HBW.out) k hkm
      rw [hx] at d0 d1 d2 d3 d4 d5
      have HV := Lib.hid (show ∀ z, Below w0.heap.size w0 z → ∃ a B O sp, q = some a ∧ a.add (k * 3) = ⟨B, O, sp⟩ ∧ z.cell? ⟨B, O, sp⟩ = some (.int .i64 x.1.2.k) ∧ z.cell? ⟨B, O + 1, none⟩ = some (.int .i64 x.1.2.n) ∧ z.cell? ⟨B, O + 2, none⟩ = some (.string x.1.2.s) from fun z hz => by
        have := (H'.out.bel hz) k hkm'
        rwa [hx'] at this)
      rw [← hk] at hki
      have HKE := Lib.hid hk
      have HKL := Lib.hid hkl
      rw [← hk]
      clear hx hx' hxk hkm hkm' hLe hk hkl
      have hkl := HKL.out
      obtain ⟨w1, hw1⟩ : ∃ z, z = wr.alloc (.cells #[.int .i64 x.1.1.id, .int .i64 x.1.1.kind, .string x.1.1.name, .int .i64 x.1.1.d.k, .int .i64 x.1.1.d.n, .string x.1.1.d.s] 31) := ⟨_, rfl⟩
      have hBA : Bel wr w1 := by rw [hw1]; exact (Bel.refl wr).alloc _
      have hB2 : Below w0.heap.size w0 w1.drew := HBW.out.trans (Below.mono hBA.drew HBW.out.size)
      have hk1 : w1.heap[wr.heap.size]? = some (.cells #[.int .i64 x.1.1.id, .int .i64 x.1.1.kind, .string x.1.1.name, .int .i64 x.1.1.d.k, .int .i64 x.1.1.d.n, .string x.1.1.d.s] 31 (0, 0)) := by rw [hw1]; exact heap_alloc_new wr _
      have s0 : w1.cell? ⟨wr.heap.size, 0, none⟩ = some (.int .i64 x.1.1.id) := by simp [World.cell?, hk1]
      have s1 : w1.cell? ⟨wr.heap.size, 1, none⟩ = some (.int .i64 x.1.1.kind) := by simp [World.cell?, hk1]
      have s2 : w1.cell? ⟨wr.heap.size, 2, none⟩ = some (.string x.1.1.name) := by simp [World.cell?, hk1]
      have s3 : w1.cell? ⟨wr.heap.size, 3, none⟩ = some (.int .i64 x.1.1.d.k) := by simp [World.cell?, hk1]
      have s4 : w1.cell? ⟨wr.heap.size, 4, none⟩ = some (.int .i64 x.1.1.d.n) := by simp [World.cell?, hk1]
      have s5 : w1.cell? ⟨wr.heap.size, 5, none⟩ = some (.string x.1.1.d.s) := by simp [World.cell?, hk1]
      obtain ⟨a', B', O', sp', rfl, ha', v0, v1, v2⟩ := HV.out _ hB2
      have e2 : w1.cell? ⟨b2, 0, none⟩ = some (.slice (some a') L.length d) := (show Boxed w1 b2 25 (.slice (some a') L.length d) from (Below.block hBA b2 (Array.getElem?_eq_some_iff.1 HBX2.out).1).trans HBX2.out).cell
      have HB2 := Lib.hid hB2
      have HBX3 := Lib.hid (show Boxed w1.drew b2 25 (.slice (some a') L.length d) from (Below.block hBA b2 (Array.getElem?_eq_some_iff.1 HBX2.out).1).trans HBX2.out)
      obtain ⟨fn, tmps, assign, body, hy, hR⟩ := HY.out pre x w1.drew (HJ.out _ _ _ HJK.out hBA.drew) hkl
      rw [FV.val] at hy
      have HR := Lib.hid hR
      clear hBA hB2 hk1 hR
      gi_wp2
      rw [← hw1]
      clear hw1 d0 d1 d2 d3 d4 d5
      refine wpIn_region_any (by kernel_rfl) ?_
      change wpAnyIn _ _ _ _ _ _ _ _ _ (World.drew _)
      refine wpAnyIn_take (i := 0) (oi := { dst := some 14, op := Op.move (Operand.tmp 0), type := 86, pos := "fields.go:30", after := #[], guard := none }) (v := ?_) rfl rfl (by kernel_rfl) (by kernel_rfl) (by kernel_rfl) (fun _ _ _ h => h) ⟨Or.inl ⟨by rfl, ?_⟩, fun _ => rfl⟩ ?_
      rotate_left
      · (intro w; first | (go_simp; done) | (go_simp; with_reducible rfl))
      try simp only [Act.put, List.setIfInBounds_toArray, List.set_cons_zero, List.set_cons_succ]
      refine wpAnyIn_take (i := 3) (oi := { dst := some 17, op := Op.move (Operand.tmp 4), type := 3, pos := "fields.go:30", after := #[], guard := none }) (v := ?_) rfl rfl (by kernel_rfl) (by kernel_rfl) (by kernel_rfl) (fun _ _ _ h => h) ⟨Or.inl ⟨by rfl, ?_⟩, fun _ => rfl⟩ ?_
      rotate_left
      · (intro w; first | (go_simp; done) | (go_simp; with_reducible rfl))
      try simp only [Act.put, List.setIfInBounds_toArray, List.set_cons_zero, List.set_cons_succ]
      refine wpAnyIn_ready (rs := [1, 2]) (by kernel_rfl) (by simp) ?_
      refine (AllReadyIn.cons (o := { dst := some 15, op := Op.load 31 (Operand.tmp 5), type := 31, pos := "fields.go:30", after := #[], guard := none }) rfl (fun K hK => ?_) (AllReadyIn.cons (o := { dst := some 16, op := Op.load 25 (Operand.tmp 2), type := 25, pos := "fields.go:30", after := #[], guard := none }) rfl (fun K hK => ?_) AllReadyIn.nil))
      · go_simp
        refine hK _ _ ?_
        clear hK K
        try simp only [Act.put, List.setIfInBounds_toArray, List.set_cons_zero, List.set_cons_succ]
        refine wpAnyIn_ready (rs := [2]) (by kernel_rfl) (by simp) ?_
        refine (AllReadyIn.cons (o := { dst := some 16, op := Op.load 25 (Operand.tmp 2), type := 25, pos := "fields.go:30", after := #[], guard := none }) rfl (fun K hK => ?_) AllReadyIn.nil)
        go_simp
        refine hK _ _ ?_
        clear hK K
        try simp only [Act.put, List.setIfInBounds_toArray, List.set_cons_zero, List.set_cons_succ]
        refine wpAnyIn_take (i := 4) (oi := { dst := some 18, op := Op.indexAddr 25 (Operand.tmp 16) (Operand.tmp 17), type := 0, pos := "fields.go:30", after := #[{ on := 2, ground := Ground.data }, { on := 3, ground := Ground.data }], guard := none }) (v := ?_) rfl rfl (by kernel_rfl) (by kernel_rfl) (by kernel_rfl) (fun _ _ _ h => h) ⟨Or.inl ⟨by rfl, ?_⟩, fun _ => rfl⟩ ?_
        rotate_left
        · (intro w; first | (go_simp; done) | (go_simp; with_reducible rfl))
        try simp only [Act.put, List.setIfInBounds_toArray, List.set_cons_zero, List.set_cons_succ]
        refine wpAnyIn_ready (rs := [5]) (by kernel_rfl) (by simp) ?_
        refine (AllReadyIn.cons (o := { dst := some 19, op := Op.load 29 (Operand.tmp 18), type := 29, pos := "fields.go:30", after := #[{ on := 4, ground := Ground.data }], guard := none }) rfl (fun K hK => ?_) AllReadyIn.nil)
        go_simp
        refine hK _ _ ?_
        clear hK K
        try simp only [Act.put, List.setIfInBounds_toArray, List.set_cons_zero, List.set_cons_succ]
        refine wpAnyIn_ready (rs := [6]) (by kernel_rfl) (by simp) ?_
        refine (AllReadyIn.cons (o := { dst := some 20, op := Op.call { callee := Callee.value (Operand.tmp 14), args := #[Operand.tmp 15, Operand.tmp 19], argTypes := #[31, 29] }, type := 4, pos := "fields.go:30", after := #[{ on := 0, ground := Ground.data }, { on := 1, ground := Ground.data }, { on := 5, ground := Ground.data }], guard := none }) rfl (fun K hK => ?_) AllReadyIn.nil)
        go_simp
        refine HR.out.mono ?_
        clear s0 s1 s2 s3 s4 s5 v0 v1 v2 e2
        rintro e3 W3 (⟨rfl, hJ3, hk3⟩ | ⟨rfl, hJx3⟩)
        · have HJ3 := Lib.hid hJ3
          have HB3 := Lib.hid (HB2.out.trans hk3.1)
          have HBX4 := Lib.hid (show Boxed W3 b2 25 (.slice (some a') L.length d) from hk3.2 b2 (by simp) _ HBX3.out)
          have HLN := Lib.hid (show L = (pre ++ [x]) ++ rest by rw [HLE.out]; simp)
          have HKN := Lib.hid (show ((pre ++ [x]).length : Int) = (k : Int) + 1 by rw [HKE.out]; simp)
          clear hJ3 hk3 hy hkl
          dsimp only
          refine hK _ _ ?_
          clear hK K
          try simp only [Act.put, List.setIfInBounds_toArray, List.set_cons_zero, List.set_cons_succ]
          refine wpAnyIn_take (i := 7) (oi := { dst := some 21, op := Op.unOp UnOp.not 4 (Operand.tmp 20), type := 4, pos := "fields.go:30", after := #[{ on := 6, ground := Ground.data }], guard := none }) (v := ?_) rfl rfl (by kernel_rfl) (by kernel_rfl) (by kernel_rfl) (fun _ _ _ h => h) ⟨Or.inl ⟨by rfl, ?_⟩, fun _ => rfl⟩ ?_
          rotate_left
          · (intro w; first | (go_simp; done) | (go_simp; with_reducible rfl))
          try simp only [Act.put, List.setIfInBounds_toArray, List.set_cons_zero, List.set_cons_succ]
          refine wpAnyIn_done (by kernel_rfl) ?_ _
          gi_wp2
          go_roundw
          case rel => exact ⟨HBX4.out, pre ++ [x], rest, by rw [HKN.out], HLN.out, HB3.out, HJ3.out⟩
          case measure => have := HKE.out; have := HKL.out; simp [intOf]; omega
        · have HX := Lib.hid hJx3
          clear hJx3 hy hkl
          dsimp only
          refine hK _ _ ?_
          clear hK K
          try simp only [Act.put, List.setIfInBounds_toArray, List.set_cons_zero, List.set_cons_succ]
          refine wpAnyIn_take (i := 7) (oi := { dst := some 21, op := Op.unOp UnOp.not 4 (Operand.tmp 20), type := 4, pos := "fields.go:30", after := #[{ on := 6, ground := Ground.data }], guard := none }) (v := ?_) rfl rfl (by kernel_rfl) (by kernel_rfl) (by kernel_rfl) (fun _ _ _ h => h) ⟨Or.inl ⟨by rfl, ?_⟩, fun _ => rfl⟩ ?_
          rotate_left
          · (intro w; first | (go_simp; done) | (go_simp; with_reducible rfl))
          try simp only [Act.put, List.setIfInBounds_toArray, List.set_cons_zero, List.set_cons_succ]
          refine wpAnyIn_done (by kernel_rfl) ?_ _
          gi_wp2
          refine bodyPost_ret (results_none rfl _ _ _) rfl ?_
          exact ⟨⟨_, rfl⟩, .inr ⟨_, ⟨rest, by rw [HLE.out]; simp⟩, HX.out⟩⟩
      · go_simp
        refine hK _ _ ?_
        clear hK K
        try simp only [Act.put, List.setIfInBounds_toArray, List.set_cons_zero, List.set_cons_succ]
        refine wpAnyIn_take (i := 4) (oi := { dst := some 18, op := Op.indexAddr 25 (Operand.tmp 16) (Operand.tmp 17), type := 0, pos := "fields.go:30", after := #[{ on := 2, ground := Ground.data }, { on := 3, ground := Ground.data }], guard := none }) (v := ?_) rfl rfl (by kernel_rfl) (by kernel_rfl) (by kernel_rfl) (fun _ _ _ h => h) ⟨Or.inl ⟨by rfl, ?_⟩, fun _ => rfl⟩ ?_
        rotate_left
        · (intro w; first | (go_simp; done) | (go_simp; with_reducible rfl))
        try simp only [Act.put, List.setIfInBounds_toArray, List.set_cons_zero, List.set_cons_succ]
        refine wpAnyIn_ready (rs := [1, 5]) (by kernel_rfl) (by simp) ?_
        refine (AllReadyIn.cons (o := { dst := some 15, op := Op.load 31 (Operand.tmp 5), type := 31, pos := "fields.go:30", after := #[], guard := none }) rfl (fun K hK => ?_) (AllReadyIn.cons (o := { dst := some 19, op := Op.load 29 (Operand.tmp 18), type := 29, pos := "fields.go:30", after := #[{ on := 4, ground := Ground.data }], guard := none }) rfl (fun K hK => ?_) AllReadyIn.nil))
        · go_simp
          refine hK _ _ ?_
          clear hK K
          try simp only [Act.put, List.setIfInBounds_toArray, List.set_cons_zero, List.set_cons_succ]
          refine wpAnyIn_ready (rs := [5]) (by kernel_rfl) (by simp) ?_
          refine (AllReadyIn.cons (o := { dst := some 19, op := Op.load 29 (Operand.tmp 18), type := 29, pos := "fields.go:30", after := #[{ on := 4, ground := Ground.data }], guard := none }) rfl (fun K hK => ?_) AllReadyIn.nil)
          go_simp
          refine hK _ _ ?_
          clear hK K
          try simp only [Act.put, List.setIfInBounds_toArray, List.set_cons_zero, List.set_cons_succ]
          refine wpAnyIn_ready (rs := [6]) (by kernel_rfl) (by simp) ?_
          refine (AllReadyIn.cons (o := { dst := some 20, op := Op.call { callee := Callee.value (Operand.tmp 14), args := #[Operand.tmp 15, Operand.tmp 19], argTypes := #[31, 29] }, type := 4, pos := "fields.go:30", after := #[{ on := 0, ground := Ground.data }, { on := 1, ground := Ground.data }, { on := 5, ground := Ground.data }], guard := none }) rfl (fun K hK => ?_) AllReadyIn.nil)
          go_simp
          refine HR.out.mono ?_
          clear s0 s1 s2 s3 s4 s5 v0 v1 v2 e2
          rintro e3 W3 (⟨rfl, hJ3, hk3⟩ | ⟨rfl, hJx3⟩)
          · have HJ3 := Lib.hid hJ3
            have HB3 := Lib.hid (HB2.out.trans hk3.1)
            have HBX4 := Lib.hid (show Boxed W3 b2 25 (.slice (some a') L.length d) from hk3.2 b2 (by simp) _ HBX3.out)
            have HLN := Lib.hid (show L = (pre ++ [x]) ++ rest by rw [HLE.out]; simp)
            have HKN := Lib.hid (show ((pre ++ [x]).length : Int) = (k : Int) + 1 by rw [HKE.out]; simp)
            clear hJ3 hk3 hy hkl
            dsimp only
            refine hK _ _ ?_
            clear hK K
            try simp only [Act.put, List.setIfInBounds_toArray, List.set_cons_zero, List.set_cons_succ]
            refine wpAnyIn_take (i := 7) (oi := { dst := some 21, op := Op.unOp UnOp.not 4 (Operand.tmp 20), type := 4, pos := "fields.go:30", after := #[{ on := 6, ground := Ground.data }], guard := none }) (v := ?_) rfl rfl (by kernel_rfl) (by kernel_rfl) (by kernel_rfl) (fun _ _ _ h => h) ⟨Or.inl ⟨by rfl, ?_⟩, fun _ => rfl⟩ ?_
            rotate_left
            · (intro w; first | (go_simp; done) | (go_simp; with_reducible rfl))
            try simp only [Act.put, List.setIfInBounds_toArray, List.set_cons_zero, List.set_cons_succ]
            refine wpAnyIn_done (by kernel_rfl) ?_ _
            gi_wp2
            go_roundw
            case rel => exact ⟨HBX4.out, pre ++ [x], rest, by rw [HKN.out], HLN.out, HB3.out, HJ3.out⟩
            case measure => have := HKE.out; have := HKL.out; simp [intOf]; omega
          · have HX := Lib.hid hJx3
            clear hJx3 hy hkl
            dsimp only
            refine hK _ _ ?_
            clear hK K
            try simp only [Act.put, List.setIfInBounds_toArray, List.set_cons_zero, List.set_cons_succ]
            refine wpAnyIn_take (i := 7) (oi := { dst := some 21, op := Op.unOp UnOp.not 4 (Operand.tmp 20), type := 4, pos := "fields.go:30", after := #[{ on := 6, ground := Ground.data }], guard := none }) (v := ?_) rfl rfl (by kernel_rfl) (by kernel_rfl) (by kernel_rfl) (fun _ _ _ h => h) ⟨Or.inl ⟨by rfl, ?_⟩, fun _ => rfl⟩ ?_
            rotate_left
            · (intro w; first | (go_simp; done) | (go_simp; with_reducible rfl))
            try simp only [Act.put, List.setIfInBounds_toArray, List.set_cons_zero, List.set_cons_succ]
            refine wpAnyIn_done (by kernel_rfl) ?_ _
            gi_wp2
            refine bodyPost_ret (results_none rfl _ _ _) rfl ?_
            exact ⟨⟨_, rfl⟩, .inr ⟨_, ⟨rest, by rw [HLE.out]; simp⟩, HX.out⟩⟩
        · go_simp
          refine hK _ _ ?_
          clear hK K
          try simp only [Act.put, List.setIfInBounds_toArray, List.set_cons_zero, List.set_cons_succ]
          refine wpAnyIn_ready (rs := [1]) (by kernel_rfl) (by simp) ?_
          refine (AllReadyIn.cons (o := { dst := some 15, op := Op.load 31 (Operand.tmp 5), type := 31, pos := "fields.go:30", after := #[], guard := none }) rfl (fun K hK => ?_) AllReadyIn.nil)
          go_simp
          refine hK _ _ ?_
          clear hK K
          try simp only [Act.put, List.setIfInBounds_toArray, List.set_cons_zero, List.set_cons_succ]
          refine wpAnyIn_ready (rs := [6]) (by kernel_rfl) (by simp) ?_
          refine (AllReadyIn.cons (o := { dst := some 20, op := Op.call { callee := Callee.value (Operand.tmp 14), args := #[Operand.tmp 15, Operand.tmp 19], argTypes := #[31, 29] }, type := 4, pos := "fields.go:30", after := #[{ on := 0, ground := Ground.data }, { on := 1, ground := Ground.data }, { on := 5, ground := Ground.data }], guard := none }) rfl (fun K hK => ?_) AllReadyIn.nil)
          go_simp
          refine HR.out.mono ?_
          clear s0 s1 s2 s3 s4 s5 v0 v1 v2 e2
          rintro e3 W3 (⟨rfl, hJ3, hk3⟩ | ⟨rfl, hJx3⟩)
          · have HJ3 := Lib.hid hJ3
            have HB3 := Lib.hid (HB2.out.trans hk3.1)
            have HBX4 := Lib.hid (show Boxed W3 b2 25 (.slice (some a') L.length d) from hk3.2 b2 (by simp) _ HBX3.out)
            have HLN := Lib.hid (show L = (pre ++ [x]) ++ rest by rw [HLE.out]; simp)
            have HKN := Lib.hid (show ((pre ++ [x]).length : Int) = (k : Int) + 1 by rw [HKE.out]; simp)
            clear hJ3 hk3 hy hkl
            dsimp only
            refine hK _ _ ?_
            clear hK K
            try simp only [Act.put, List.setIfInBounds_toArray, List.set_cons_zero, List.set_cons_succ]
            refine wpAnyIn_take (i := 7) (oi := { dst := some 21, op := Op.unOp UnOp.not 4 (Operand.tmp 20), type := 4, pos := "fields.go:30", after := #[{ on := 6, ground := Ground.data }], guard := none }) (v := ?_) rfl rfl (by kernel_rfl) (by kernel_rfl) (by kernel_rfl) (fun _ _ _ h => h) ⟨Or.inl ⟨by rfl, ?_⟩, fun _ => rfl⟩ ?_
            rotate_left
            · (intro w; first | (go_simp; done) | (go_simp; with_reducible rfl))
            try simp only [Act.put, List.setIfInBounds_toArray, List.set_cons_zero, List.set_cons_succ]
            refine wpAnyIn_done (by kernel_rfl) ?_ _
            gi_wp2
            go_roundw
            case rel => exact ⟨HBX4.out, pre ++ [x], rest, by rw [HKN.out], HLN.out, HB3.out, HJ3.out⟩
            case measure => have := HKE.out; have := HKL.out; simp [intOf]; omega
          · have HX := Lib.hid hJx3
            clear hJx3 hy hkl
            dsimp only
            refine hK _ _ ?_
            clear hK K
            try simp only [Act.put, List.setIfInBounds_toArray, List.set_cons_zero, List.set_cons_succ]
            refine wpAnyIn_take (i := 7) (oi := { dst := some 21, op := Op.unOp UnOp.not 4 (Operand.tmp 20), type := 4, pos := "fields.go:30", after := #[{ on := 6, ground := Ground.data }], guard := none }) (v := ?_) rfl rfl (by kernel_rfl) (by kernel_rfl) (by kernel_rfl) (fun _ _ _ h => h) ⟨Or.inl ⟨by rfl, ?_⟩, fun _ => rfl⟩ ?_
            rotate_left
            · (intro w; first | (go_simp; done) | (go_simp; with_reducible rfl))
            try simp only [Act.put, List.setIfInBounds_toArray, List.set_cons_zero, List.set_cons_succ]
            refine wpAnyIn_done (by kernel_rfl) ?_ _
            gi_wp2
            refine bodyPost_ret (results_none rfl _ _ _) rfl ?_
            exact ⟨⟨_, rfl⟩, .inr ⟨_, ⟨rest, by rw [HLE.out]; simp⟩, HX.out⟩⟩
theorem fill14_stops (n : Nat) (hn : 1 ≤ n) (b b2 : Nat) (ver next : Int) (p : Option Addr) (c : Nat) (q : Option Addr) (d : Nat) {Q : FV × KV → Prop} (L : List {f : FV × KV // Q f}) (w0 w : World) (h : FldsAt w0 p (L.map (·.1.1))) (h' : ValsAt w0 q (L.map (·.1.2))) (hL : L.length ≤ maxLen)
    (hb : w.heap[b]? = some (.cells #[.int .i64 ver, .int .i64 next, .slice p L.length c] 24 (0, 0))) (hb2 : Boxed w b2 25 (.slice q L.length d)) (hB : Below w0.heap.size w0 w) :
    SeqStopsK Fence.wide n Tryd.prog 54 #[.pointer (some ⟨b, 0, none⟩), .pointer (some ⟨b2, 0, none⟩)] (fun x : {f : FV × KV // Q f} => #[FV.val x.1.1, .agg #[.int .i64 x.1.2.k, .int .i64 x.1.2.n, .string x.1.2.s]]) (KeepR w0.heap.size [b2]) (fun ys => ys = L) (fun pre => pre <+: L) L.length w := fun l J Jx W hW hJ _ hY h0 =>
  fill14_in n hn l b b2 ver next p c q d L w0 h h' hL J Jx (fun pre A B h hb => hJ pre A B none h (grown_bel14 hb) (fun r e => by cases e)) hY W ((Below.block hW b (Array.getElem?_eq_some_iff.1 hb).1).trans hb) ((Below.block hW b2 (Array.getElem?_eq_some_iff.1 hb2).1).trans hb2) (hB.trans (Below.mono hW hB.size)) h0
end Go.Proofs.YtbalkchphijehaaDoor
/- schema.Fits. -/
set_option maxRecDepth 100000
namespace Go.Proofs.YtbalkchphijehaaDoor
open Go.RowKit Go.Shelf Go.Deep

attribute [local go_sem] Oper.semAt_some

def fit1 (x : FV × KV) : Int := if x.2.right = false then 13 else if x.2.k ≠ x.1.kind then 12 else 0
def fitZ : List (FV × KV) → Int
  | [] => 0
  | x :: R => if fit1 x = 0 then fitZ R else fit1 x
theorem fit_zip : ∀ (F : List FV) (L : List KV), L.length = F.length → fitsL F L = fitZ (F.zip L)
  | [], [], _ => rfl
  | f :: F, v :: L, h => by
    rw [List.zip_cons_cons, fitZ, fitsL, ← fit_zip F L (by simpa using h)]
    unfold fit1
    by_cases h1 : v.right = false
    · simp only [if_pos h1]; rw [if_neg (by decide)]
    · simp only [if_neg h1]
      by_cases h2 : v.k ≠ f.kind
      · simp only [if_pos h2]; rw [if_neg (by decide)]
      · simp only [if_neg h2, if_true]
  | [], v :: L, h => by cases h
  | f :: F, [], h => by cases h
theorem fitZ_all {α : Type} {g : α → FV × KV} : ∀ {L : List α}, (∀ x ∈ L, fit1 (g x) = 0) → fitZ (L.map g) = 0
  | [], _ => rfl
  | x :: L, h => by
    rw [List.map_cons, fitZ, if_pos (h x (by simp))]
    exact fitZ_all (fun y hy => h y (by simp [hy]))
theorem fitZ_at {α : Type} {g : α → FV × KV} {y : α} {m : List α} : ∀ {L : List α}, (∀ x ∈ L, fit1 (g x) = 0) → fit1 (g y) ≠ 0 → fitZ (((L ++ [y]) ++ m).map g) = fit1 (g y)
  | [], _, hy => by
    simp only [List.nil_append, List.singleton_append, List.map_cons]
    rw [fitZ, if_neg hy]
  | x :: L, h, hy => by
    simp only [List.cons_append, List.map_cons]
    rw [fitZ, if_pos (h x (by simp))]
    exact fitZ_at (fun z hz => h z (by simp [hz])) hy
abbrev FVK := {x : FV × KV // x.2.s.size ≤ maxLen}
def FtI (b4 b6 : Nat) (q : Option Addr) (m d : Nat) (pre : List FVK) (W : World) : Prop := Boxed W b4 37 (.int .i64 0) ∧ ∀ x ∈ pre, fit1 x.1 = 0
theorem ftI_own (b4 b6 : Nat) (q : Option Addr) (m d : Nat) : Go.Own (FtI b4 b6 q m d) := fun s X Y row ⟨h1, h2⟩ hg hr => ⟨boxed_own b4 _ (fun (_ : Unit) => Value.int .i64 0) () X Y row h1 hg hr, h2⟩
def FtX (b4 : Nat) (c : Code) (pre : List FVK) (W : World) : Prop := c = .ret ∧ ∃ q x, pre = q ++ [x] ∧ (∀ x ∈ q, fit1 x.1 = 0) ∧ fit1 x.1 ≠ 0 ∧ Boxed W b4 37 (.int .i64 (fit1 x.1))
theorem ftX_own (b4 : Nat) (c : Code) : Go.Own (FtX b4 c) := fun s X Y row ⟨h0, q, x, h1, h2, h3, h4⟩ hg hr => ⟨h0, q, x, h1, h2, h3, boxed_own b4 _ (fun (_ : Unit) => Value.int .i64 (fit1 x.1)) () X Y row h4 hg hr⟩
set_option maxHeartbeats 8000000 in
theorem pfits14_any (ver next : Int) (p : Option Addr) (c : Nat) (F : List FV) (q : Option Addr) (d : Nat) (L : List KV) (w : World) (h : FldsAt w p F) (hF : F.length ≤ maxLen) (h' : ValsAt w q L) (hL : L.length ≤ maxLen) (hV : allV L) :
    Calls Tryd.prog 19 #[.agg #[.int .i64 ver, .int .i64 next, .slice p F.length c], .slice q L.length d] w fun e w' => e = .returned (.int .i64 (fitsE F L)) ∧ Bel w w' := by
  have H := Lib.hid h; clear h
  have H' := Lib.hid h'; clear h'
  have HV := Lib.hid hV; clear hV
  have HFM := Lib.hid hF
  unfold maxLen at hF hL
  refine (callsIn_wide (n := 9)).1 ?_
  refine callsIn_of_wp_marks Tryd.func19 rfl trivial ?_ rfl
  simp only [Tryd.ntmps19, List.size_toArray, List.length_cons, List.length_nil, Nat.reduceAdd, Nat.reduceSub, Array.replicate_succ, Array.replicate_zero, List.push_toArray, List.append_toArray, List.nil_append, List.cons_append]
  by_cases hl : L.length = F.length
  · have hne : ((L.length : Int) != (F.length : Int)) = false := by simp [hl]
    have HFE := Lib.hid (show fitsE F L = fitZ (F.zip L) by unfold fitsE; rw [if_pos hl]; exact fit_zip F L hl)
    have HLL := Lib.hid hl
    clear hl
    gi_wp2
    refine ⟨trivial, ?_⟩
    refine (callsIn_wide.2 (filled14_any ver next p F.length c q L.length d _)).mono ?_
    rintro e1 w1 ⟨rfl, hw1⟩
    have x4 := ((Boxed.new (w.alloc (.cells #[.int .i64 ver, .int .i64 next, .slice p F.length c] 24)) 37 (.int .i64 0)).alloc (.cells #[.int .i64 ver, .int .i64 next, .slice p F.length c] 24)).alloc (.cells #[.slice q L.length d] 25)
    have x5 : ((((w.alloc (.cells #[.int .i64 ver, .int .i64 next, .slice p F.length c] 24)).alloc (.cells #[.int .i64 0] 37)).alloc (.cells #[.int .i64 ver, .int .i64 next, .slice p F.length c] 24)).alloc (.cells #[.slice q L.length d] 25)).heap[w.heap.size + 1 + 1]? = some (.cells #[.int .i64 ver, .int .i64 next, .slice p F.length c] 24 (0, 0)) := by
      have e := heap_alloc_new ((w.alloc (.cells #[.int .i64 ver, .int .i64 next, .slice p F.length c] 24)).alloc (.cells #[.int .i64 0] 37)) (.cells #[.int .i64 ver, .int .i64 next, .slice p F.length c] 24)
      simp only [World.size_alloc] at e
      exact qbel e ((Bel.refl _).alloc _)
    have x6 := Boxed.new (((w.alloc (.cells #[.int .i64 ver, .int .i64 next, .slice p F.length c] 24)).alloc (.cells #[.int .i64 0] 37)).alloc (.cells #[.int .i64 ver, .int .i64 next, .slice p F.length c] 24)) 25 (.slice q L.length d)
    rw [← hw1] at x4 x5 x6
    have hB0 : Bel w w1 := by rw [hw1]; exact ((((Bel.refl w).alloc _).alloc _).alloc _).alloc _
    have hsz : w1.heap.size = w.heap.size + 1 + 1 + 1 + 1 := by rw [hw1]; simp
    clear hw1
    simp only [World.size_alloc] at x4 x6 ⊢
    obtain ⟨b4, hb4⟩ : ∃ b, b = w.heap.size + 1 := ⟨_, rfl⟩
    rw [← hb4] at x4 x5 x6 hsz ⊢
    obtain ⟨b5, hb5⟩ : ∃ b, b = b4 + 1 := ⟨_, rfl⟩
    rw [← hb5] at x5 x6 hsz ⊢
    obtain ⟨b6, hb6⟩ : ∃ b, b = b5 + 1 := ⟨_, rfl⟩
    rw [← hb6] at x6 hsz ⊢
    have q0 : w.heap.size < b4 := by omega
    have q1 : b4 < b5 := by omega
    have q2 : b5 < b6 := by omega
    have q4 : b6 < w1.heap.size := by omega
    clear hb4 hb5 hb6 hsz
    gi_wp2
    have HZ := Lib.hid (show (withP (fun x : FV × KV => x.2.s.size ≤ maxLen) (F.zip L) (fun x hx => (HV.out x.2 (List.of_mem_zip hx).2).2)).map (·.1) = F.zip L from withP_map _)
    have HZL : (withP (fun x : FV × KV => x.2.s.size ≤ maxLen) (F.zip L) (fun x hx => (HV.out x.2 (List.of_mem_zip hx).2).2)).length = F.length := by rw [withP_len, List.length_zip]; have := HLL.out; omega
    revert HZ HZL
    generalize withP (fun x : FV × KV => x.2.s.size ≤ maxLen) (F.zip L) (fun x hx => (HV.out x.2 (List.of_mem_zip hx).2).2) = R
    intro HZ HZL
    have HR1 := Lib.hid (show R.map (·.1.1) = F by
      have : R.map (·.1.1) = (R.map (·.1)).map (·.1) := by rw [List.map_map]; rfl
      rw [this, HZ.out, List.map_fst_zip (by have := HLL.out; omega)])
    have HR2 := Lib.hid (show R.map (·.1.2) = L by
      have : R.map (·.1.2) = (R.map (·.1)).map (·.2) := by rw [List.map_map]; rfl
      rw [this, HZ.out, List.map_snd_zip (by have := HLL.out; omega)])
    have HZN := Lib.hid HZL
    clear HZL
    refine wpIn_rangeFunc_ownH rfl (by omega) (gf := 54) (lb := #[.pointer (some ⟨b5, 0, none⟩), .pointer (some ⟨b6, 0, none⟩)]) rfl trivial (enters_of Tryd.func54 (by kernel_rfl) rfl)
      (fill14_stops (9 - 1) (by omega) b5 b6 ver next p c q d R w w1 (by rw [HR1.out]; exact H.out) (by rw [HR2.out]; exact H'.out) (by rw [HZN.out]; exact HFM.out) (by rw [HZN.out]; exact x5) (by rw [HZN.out, ← HLL.out]; exact x6) hB0) (fun h k => KeepR.trans h k) (keepR_b (by omega) (fun b hb => by rw [List.mem_singleton] at hb; omega)) (Below.refl _ _) (fun _ => rfl)
      (fun pre W => FtI b4 b6 q L.length d pre W ∧ Below w.heap.size w W)
      (fun c pre W => FtX b4 c pre W ∧ Below w.heap.size w W)
      (OwnFrom.and (Own.from (ftI_own _ _ _ _ _) _) (ownFrom_below (Nat.le_refl _) (by omega)))
      (fun c => OwnFrom.and (Own.from (ftX_own _ c) _) (ownFrom_below (Nat.le_refl _) (by omega)))
      ⟨⟨x4, fun _ h => by cases h⟩, hB0⟩
      (fun x a' W => ∃ Bx By, b4 < Bx ∧ b4 < By ∧ W.heap[Bx]? = some (Obj.cells #[.int .i64 x.1.1.id, .int .i64 x.1.1.kind, .string x.1.1.name, .int .i64 x.1.1.d.k, .int .i64 x.1.1.d.n, .string x.1.1.d.s] 31 (0, 0)) ∧ W.heap[By]? = some (Obj.cells #[.int .i64 x.1.2.k, .int .i64 x.1.2.n, .string x.1.2.s] 29 (0, 0)) ∧ a' = { tmps := #[.agg #[.int .i64 ver, .int .i64 next, .slice p F.length c], .slice q L.length d, .pointer (some ⟨w.heap.size, 0, none⟩), undef, .pointer (some ⟨b4, 0, none⟩), .pointer (some ⟨Bx, 0, none⟩), .pointer (some ⟨By, 0, none⟩), .slice q L.length d, .int .i64 L.length, .pointer (some ⟨w.heap.size, 2, none⟩), .slice p F.length c, .int .i64 F.length, .bool false, .agg #[.int .i64 ver, .int .i64 next, .slice p F.length c], .slice q L.length d, .func (.func 54) #[] #[.pointer (some ⟨b5, 0, none⟩), .pointer (some ⟨b6, 0, none⟩)], .agg #[.int .i64 x.1.1.id, .int .i64 x.1.1.kind, .string x.1.1.name, .int .i64 x.1.1.d.k, .int .i64 x.1.1.d.n, .string x.1.1.d.s], .agg #[.int .i64 x.1.2.k, .int .i64 x.1.2.n, .string x.1.2.s], undef, undef, undef, undef, undef, undef, undef, undef, undef, undef], defers := [] })
      (fun x a' _ X Y row hs hg hr => by obtain ⟨Bx, By, e0, e1, e2, e3, e4⟩ := hs; exact ⟨Bx, By, e0, e1, blk_own Bx _ _ () X Y row e2 hg (fun r e => (hr r e).2), blk_own By _ _ () X Y row e3 hg (fun r e => (hr r e).2), e4⟩)
      ?assign ?body ?done ?stop
    case assign =>
      rintro l pre x W K ⟨⟨h4, hf⟩, hB1⟩ hK
      rw [FV.val]
      gi_wp2
      have hal : Bel W (W.alloc (.cells #[.int .i64 x.1.1.id, .int .i64 x.1.1.kind, .string x.1.1.name, .int .i64 x.1.1.d.k, .int .i64 x.1.1.d.n, .string x.1.1.d.s] 31)) := (Bel.refl W).alloc _
      have hal2 : Bel W ((W.alloc (.cells #[.int .i64 x.1.1.id, .int .i64 x.1.1.kind, .string x.1.1.name, .int .i64 x.1.1.d.k, .int .i64 x.1.1.d.n, .string x.1.1.d.s] 31)).alloc (.cells #[.int .i64 x.1.2.k, .int .i64 x.1.2.n, .string x.1.2.s] 29)) := hal.alloc _
      have e2 := heap_alloc_new (W.alloc (.cells #[.int .i64 x.1.1.id, .int .i64 x.1.1.kind, .string x.1.1.name, .int .i64 x.1.1.d.k, .int .i64 x.1.1.d.n, .string x.1.1.d.s] 31)) (.cells #[.int .i64 x.1.2.k, .int .i64 x.1.2.n, .string x.1.2.s] 29)
      simp only [World.size_alloc] at e2
      exact hK _ _ (((KeepsOthers.alloc _ _).trans (KeepsOthers.alloc _ _)).from _) (bel_keepR hal2 hB1.size) ⟨⟨(h4.alloc _).alloc _, hf⟩, hB1.trans (Below.mono hal2 hB1.size)⟩ ⟨W.heap.size, W.heap.size + 1, h4.lt, by have := h4.lt; omega, qbel (heap_alloc_new W _) ((Bel.refl _).alloc _), e2, rfl⟩
    case body =>
      rintro l pre x a' W hl - ⟨⟨h4, hf⟩, hB⟩ ⟨Bx, By, hBx, hBy, hX, hY, rfl⟩ hlt
      have HF := Lib.hid hf; clear hf
      obtain ⟨⟨v0, v1, v2⟩, -⟩ := qbox3 hY
      gi_wp2
      refine ⟨trivial, ?_⟩
      refine (CallsIn.inRound l (callsIn_wide.2 (right_any x.1.2.k x.1.2.n x.1.2.s _ x.2))).mono ?_
      rintro e w2 ⟨rfl, hb2⟩
      rw [show rightB x.1.2.k x.1.2.n x.1.2.s.data.toList = x.1.2.right from rfl]
      replace h4 : Boxed w2 b4 37 (.int .i64 0) := qbel h4 hb2
      replace hX := qbel hX hb2
      replace hY := qbel hY hb2
      have hBw : Below w.heap.size w w2 := hB.trans (Below.mono hb2 hB.size)
      have HB2 := Lib.hid hb2
      have HBS := Lib.hid hB.size
      clear v0 v1 v2 hb2
      obtain ⟨⟨v0, v1, v2⟩, -⟩ := qbox3 hY
      obtain ⟨⟨f0, f1, f2, f3, f4, f5⟩, -⟩ := qbox6 hX
      have c4 := h4.cell
      have k4 := h4.frozen
      cases hr : x.1.2.right with
      | false =>
        have HE := Lib.hid (show fit1 x.1 = 13 by unfold fit1; rw [if_pos hr])
        clear hr
        gi_wp2
        have hk7 := keep_st w2 b4 0 (.int .i64 13)
        exact ⟨((keepO_bel HB2.out).trans (keepO_keep hk7 h4)).from _, ⟨rfl, pre, x, rfl, HF.out, by rw [HE.out]; decide, by rw [HE.out]; exact h4.set _⟩, keep_belowq hk7 hBw (Nat.le_refl _) (by omega)⟩
      | true =>
        by_cases he : x.1.2.k = x.1.1.kind
        · have hq : (x.1.2.k != x.1.1.kind) = false := by simp [he]
          have HE := Lib.hid (show fit1 x.1 = 0 by unfold fit1; rw [if_neg (by rw [hr]; simp), if_neg (by simpa using he)])
          clear hr he
          gi_wp2
          refine ⟨(keepO_bel HB2.out).from _, bel_keepR HB2.out HBS.out, ⟨h4, ?_⟩, hBw⟩
          intro y hy
          rcases List.mem_append.1 hy with h | h
          · exact HF.out y h
          · rw [List.mem_singleton] at h; rw [h]; exact HE.out
        · have hq : (x.1.2.k != x.1.1.kind) = true := by rw [bne_iff_ne]; exact he
          have HE := Lib.hid (show fit1 x.1 = 12 by unfold fit1; rw [if_neg (by rw [hr]; simp), if_pos he])
          clear hr he
          gi_wp2
          have hk7 := keep_st w2 b4 0 (.int .i64 12)
          exact ⟨((keepO_bel HB2.out).trans (keepO_keep hk7 h4)).from _, ⟨rfl, pre, x, rfl, HF.out, by rw [HE.out]; decide, by rw [HE.out]; exact h4.set _⟩, keep_belowq hk7 hBw (Nat.le_refl _) (by omega)⟩
    case done =>
      rintro D ys W hD rfl ⟨⟨h4, hf⟩, hB⟩ hK
      have HR := Lib.hid (show fitsE F L = 0 by rw [HFE.out, ← HZ.out]; exact fitZ_all hf)
      clear hf
      have c4 := h4.cell
      have k4 := h4.frozen
      gi_wp2
      have hk7 := keep_st W b4 0 (.int .i64 0)
      have hK7 := (keepO_keep hk7 h4).same D _ hK rfl
      have hB7 := keep_belowq hk7 hB (Nat.le_refl _) (by omega)
      have hp := keep_putObj (W.setCell ⟨b4, 0, none⟩ (.int .i64 0)) D (.deferred none)
      have hD2 : b4 ≠ D := by omega
      have z4 : Boxed _ b4 37 (.int .i64 0) := hp.at (h4.set (.int .i64 0)) (by simpa using hD2)
      have y4 := z4.cell
      refine ⟨by simp, .inl ⟨_, _, rfl, run_takeDeferred hK7, ?_⟩⟩
      refine ⟨.int .i64 0, ?_, by rw [HR.out], hB7.trans (belowK_b (w := w) (Nat.le_refl _) _ D _ _ (by omega) hK7 rfl rfl)⟩
      simp [results, Tryd.results19, go_sem, y4]
    case stop =>
      rintro D cd pre W hD hp ⟨⟨rfl, qq, x, rfl, hq, hx, h4⟩, hB⟩ hK
      obtain ⟨m, hm⟩ := hp
      have HR := Lib.hid (show fitsE F L = fit1 x.1 by rw [HFE.out, ← HZ.out, ← hm]; exact fitZ_at hq hx)
      clear hq hx hm
      gi_wp2
      have hpK := keep_putObj W D (.deferred none)
      have hD2 : b4 ≠ D := by omega
      have z4 : Boxed _ b4 37 (.int .i64 (fit1 x.1)) := hpK.at h4 (by simpa using hD2)
      have y4 := z4.cell
      refine ⟨by simp, .inl ⟨_, _, rfl, run_takeDeferred hK, ?_⟩⟩
      refine ⟨.int .i64 (fit1 x.1), ?_, by rw [HR.out], hB.trans (belowK_b (w := w) (Nat.le_refl _) _ D _ _ (by omega) hK rfl rfl)⟩
      simp [results, Tryd.results19, go_sem, y4]
  · have hne : ((L.length : Int) != (F.length : Int)) = true := by simp; omega
    have HR := Lib.hid (show fitsE F L = 13 by unfold fitsE; rw [if_neg hl])
    clear hl
    gi_wp2
    have y4 := (Boxed.new (w.alloc (.cells #[.int .i64 ver, .int .i64 next, .slice p F.length c] 24)) 37 (.int .i64 13)).cell
    simp only [World.size_alloc] at y4
    refine ⟨.int .i64 13, ?_, by rw [HR.out], ((Bel.refl w).alloc _).alloc _⟩
    simp [results, Tryd.results19, go_sem, y4]
end Go.Proofs.YtbalkchphijehaaDoor
/- schema.isRight, Right. -/
set_option maxRecDepth 100000
namespace Go.Proofs.YtbalkchphijehaaDoor
open Go.RowKit Go.Shelf Go.Deep

attribute [local go_sem] Oper.semAt_some

theorem fieldB_of (next : Int) (f : FV) : fieldB next f = (witB f.id 1 (next - 1) && nameL f.t && decide (f.d.k = f.kind) && f.d.right) := by
  have h : decide (f.id < next) = decide (f.id ≤ next - 1) := by rw [decide_eq_decide]; omega
  unfold fieldB witB
  rw [h]
  cases decide (1 ≤ f.id) <;> cases decide (f.id ≤ next - 1) <;> cases nameL f.t <;> cases f.d.right <;> cases decide (f.d.k = f.kind) <;> rfl
set_option maxHeartbeats 8000000 in
theorem pisr14_any (f : FV) (next : Int) (w : World) (hf : f.okay) (hn : 1 ≤ next ∧ next ≤ 1000) :
    Calls Tryd.prog 35 #[.agg #[.int .i64 f.id, .int .i64 f.kind, .string f.name, .int .i64 f.d.k, .int .i64 f.d.n, .string f.d.s], .int .i64 next] w fun e w' => e = .returned (.bool (fieldB next f)) ∧ Bel w w' := by
  obtain ⟨X, hX⟩ : ∃ X, X = w.heap.size := ⟨_, rfl⟩
  obtain ⟨w1, hw1⟩ : ∃ z, z = w.alloc (.cells #[.int .i64 f.id, .int .i64 f.kind, .string f.name, .int .i64 f.d.k, .int .i64 f.d.n, .string f.d.s] 31) := ⟨_, rfl⟩
  have HB1 := Lib.hid (show Bel w w1 by rw [hw1]; exact (Bel.refl w).alloc _)
  have HK1 := Lib.hid (show w1.heap[X]? = some (.cells #[.int .i64 f.id, .int .i64 f.kind, .string f.name, .int .i64 f.d.k, .int .i64 f.d.n, .string f.d.s] 31 (0, 0)) by rw [hw1, hX]; exact heap_alloc_new w _)
  have HF := Lib.hid hf
  have HFO := Lib.hid (fieldB_of next f)
  have hwn : wrap64 (next - 1) = next - 1 := by unfold wrap64; omega
  have HRT := Lib.hid (right_any f.d.k f.d.n f.d.s)
  have HN := Lib.hid (pname14_any f.name)
  clear hf hn
  go_enter Tryd.func35, Tryd.ntmps35
  go_wp2_with (fail)
  rw [← hw1, ← hX]
  obtain ⟨c0, c1, c2, c3, c4, c5⟩ := cells6 HK1.out
  clear hw1 hX
  go_wp2_with (fail)
  refine (within14_any f.id 1 (next - 1) _).mono ?_
  rintro e x ⟨rfl, rfl⟩
  cases ha : witB f.id 1 (next - 1) with
  | false =>
    have HR := Lib.hid (show fieldB next f = false by rw [HFO.out, ha]; rfl)
    clear ha
    go_wp2_with (fail)
    go_ret
    exact ⟨ret_bool HR.out.symm, HB1.out⟩
  | true =>
    have HA := Lib.hid ha
    clear ha
    go_wp2_with (fail)
    refine (HN.out _ HF.out.2.1).mono ?_
    rintro e w2 ⟨rfl, hd⟩
    rw [show nameL f.name.data.toList = nameL f.t from rfl]
    have HB2 := Lib.hid hd.bel
    clear hd c0 c1 c2 c3 c4 c5
    obtain ⟨c0, c1, c2, c3, c4, c5⟩ := cells6 (boxB HK1.out HB2.out)
    cases hb : nameL f.t with
    | false =>
      have HR := Lib.hid (show fieldB next f = false by rw [HFO.out, HA.out, hb]; rfl)
      clear hb
      go_wp2_with (fail)
      go_ret
      exact ⟨ret_bool HR.out.symm, HB1.out.trans HB2.out⟩
    | true =>
      have HB := Lib.hid hb
      clear hb
      by_cases hc : f.d.k = f.kind
      · have h6 : (f.d.k == f.kind) = true := by rw [beq_iff_eq]; exact hc
        have HC := Lib.hid (decide_eq_true hc)
        clear hc
        go_wp2_with (fail)
        refine (HRT.out _ HF.out.2.2).mono ?_
        rintro e w3 ⟨rfl, hb3⟩
        have HB3 := Lib.hid (HB2.out.trans hb3)
        have HR := Lib.hid (show fieldB next f = f.d.right by rw [HFO.out, HA.out, HB.out, HC.out]; rfl)
        rw [show rightB f.d.k f.d.n f.d.s.data.toList = f.d.right from rfl]
        clear hb3
        go_wp2_with (fail)
        go_ret
        exact ⟨ret_bool HR.out.symm, HB1.out.trans HB3.out⟩
      · have h6 : (f.d.k == f.kind) = false := by rw [beq_eq_false_iff_ne]; exact hc
        have HR := Lib.hid (show fieldB next f = false by rw [HFO.out, HA.out, HB.out, decide_eq_false hc]; rfl)
        clear hc
        go_wp2_with (fail)
        go_ret
        exact ⟨ret_bool HR.out.symm, HB1.out.trans HB2.out⟩
/-- Numbers and names that differ. -/
def difB (x : FV × FV) : Bool := !(decide (x.1.id = x.2.id) || decide (x.1.t = x.2.t))
theorem fieldsB_iff {next : Int} : ∀ {l seen : List FV}, fieldsB next seen l = true ↔ ((∀ f ∈ l, fieldB next f = true) ∧ (∀ f ∈ l, freshB seen f = true) ∧ ∀ x ∈ pairsL14 l, difB x = true)
  | [], seen => by simp [fieldsB, pairsL14]
  | f :: l, seen => by
    rw [fieldsB, Bool.and_eq_true, Bool.and_eq_true, fieldsB_iff, pairsL14]
    have hfr : ∀ g, freshB (seen ++ [f]) g = (freshB seen g && difB (f, g)) := fun g => by unfold freshB difB; rw [List.all_append]; simp
    constructor
    · rintro ⟨⟨h1, h2⟩, h3, h4, h5⟩
      refine ⟨fun g hg => ?_, fun g hg => ?_, fun x hx => ?_⟩
      · rcases List.mem_cons.1 hg with rfl | hg
        · exact h1
        · exact h3 g hg
      · rcases List.mem_cons.1 hg with rfl | hg
        · exact h2
        · have := h4 g hg; rw [hfr, Bool.and_eq_true] at this; exact this.1
      · rcases List.mem_append.1 hx with hx | hx
        · obtain ⟨g, hg, rfl⟩ := List.mem_map.1 hx
          have := h4 g hg; rw [hfr, Bool.and_eq_true] at this; exact this.2
        · exact h5 x hx
    · rintro ⟨h1, h2, h3⟩
      refine ⟨⟨h1 f (by simp), h2 f (by simp)⟩, fun g hg => h1 g (by simp [hg]), fun g hg => ?_, fun x hx => h3 x (by simp [hx])⟩
      rw [hfr, Bool.and_eq_true]
      exact ⟨h2 g (by simp [hg]), h3 _ (List.mem_append.2 (Or.inl (List.mem_map.2 ⟨g, hg, rfl⟩)))⟩
theorem rightS_eq (ver next : Int) (F : List FV) : rightS ⟨ver, next, F⟩ = (witB ver 1 1000000 && (witB next 1 1000 && (witB (F.length : Int) 1 12 && fieldsB next [] F))) := by
  have h1 : decide (1 ≤ F.length) = decide ((1 : Int) ≤ (F.length : Int)) := by rw [decide_eq_decide]; omega
  have h2 : decide (F.length ≤ 12) = decide ((F.length : Int) ≤ 12) := by rw [decide_eq_decide]; omega
  unfold rightS witB
  simp only [h1, h2]
  cases fieldsB next [] F <;> cases decide (1 ≤ ver) <;> cases decide (ver ≤ 1000000) <;> cases decide (1 ≤ next) <;> cases decide (next ≤ 1000) <;> cases decide ((1 : Int) ≤ (F.length : Int)) <;> cases decide ((F.length : Int) ≤ 12) <;> rfl
theorem fields_no {next : Int} {F : List FV} {f : FV} (hf : f ∈ F) (h : fieldB next f = false) : fieldsB next [] F = false := by
  cases hb : fieldsB next [] F with
  | false => rfl
  | true => have := (fieldsB_iff.1 hb).1 f hf; rw [h] at this; cases this
theorem fields_two {next : Int} {F : List FV} {x : FV × FV} (hx : x ∈ pairsL14 F) (h : difB x = false) : fieldsB next [] F = false := by
  cases hb : fieldsB next [] F with
  | false => rfl
  | true => have := (fieldsB_iff.1 hb).2.2 x hx; rw [h] at this; cases this
theorem ownFrom_blk {β : Type} {B D : Nat} {o : Obj} (hD : D < B) : OwnFrom B (fun (_ : β) W => W.heap[D]? = some o) := fun s X Y row hs hg hr =>
  (hg.block D (Array.getElem?_eq_some_iff.1 hs).1 (fun e => by have := (hr D e.symm).1; omega)).trans hs


abbrev FVo := {x : FV // x.okay}
def RgI (b0 b2 : Nat) (ver next : Int) (p : Option Addr) (L : List FV) (c : Nat) (pre : List FVo) (W : World) : Prop :=
  W.heap[b0]? = some (Obj.cells #[.int .i64 ver, .int .i64 next, .slice p L.length c] 24 (0, 0)) ∧ Boxed W b2 4 (.bool false) ∧ ∀ x ∈ pre, fieldB next x.1 = true
theorem rgI_own (b0 b2 : Nat) (ver next : Int) (p : Option Addr) (L : List FV) (c : Nat) : Go.Own (RgI b0 b2 ver next p L c) := fun s X Y row ⟨h1, h2, h3⟩ hg hr =>
  ⟨blk_own b0 _ _ () X Y row h1 hg hr, boxed_own b2 _ (fun (_ : Unit) => Value.bool false) () X Y row h2 hg hr, h3⟩
def RgX (b2 : Nat) (next : Int) (c : Code) (pre : List FVo) (W : World) : Prop := c = .ret ∧ (∃ x ∈ pre, fieldB next x.1 = false) ∧ Boxed W b2 4 (.bool false)
theorem rgX_own (b2 : Nat) (next : Int) (c : Code) : Go.Own (RgX b2 next c) := fun s X Y row ⟨h0, h1, h2⟩ hg hr => ⟨h0, h1, boxed_own b2 _ (fun (_ : Unit) => Value.bool false) () X Y row h2 hg hr⟩
abbrev FV2 := {x : FV × FV // True}
def RpI (b2 : Nat) (pre : List FV2) (W : World) : Prop := Boxed W b2 4 (.bool false) ∧ ∀ x ∈ pre, difB x.1 = true
theorem rpI_own (b2 : Nat) : Go.Own (RpI b2) := fun s X Y row ⟨h2, h3⟩ hg hr => ⟨boxed_own b2 _ (fun (_ : Unit) => Value.bool false) () X Y row h2 hg hr, h3⟩
def RpX (b2 : Nat) (c : Code) (pre : List FV2) (W : World) : Prop := c = .ret ∧ (∃ x ∈ pre, difB x.1 = false) ∧ Boxed W b2 4 (.bool false)
theorem rpX_own (b2 : Nat) (c : Code) : Go.Own (RpX b2 c) := fun s X Y row ⟨h0, h1, h2⟩ hg hr => ⟨h0, h1, boxed_own b2 _ (fun (_ : Unit) => Value.bool false) () X Y row h2 hg hr⟩
set_option maxHeartbeats 16000000 in
theorem pright14_any (ver next : Int) (p : Option Addr) (c : Nat) (L : List FV) (w : World) (h : FldsAt w p L) (hL : L.length ≤ maxLen) (hc : L.length ≤ c) (hV : allF L) :
    Calls Tryd.prog 17 #[.agg #[.int .i64 ver, .int .i64 next, .slice p L.length c]] w fun e w' => e = .returned (.bool (rightS ⟨ver, next, L⟩)) ∧ Bel w w' := by
  have H := Lib.hid h; clear h
  have HV := Lib.hid hV; clear hV
  have HLM := Lib.hid hL; clear hL
  have HLC := Lib.hid hc; clear hc
  have HRE := Lib.hid (rightS_eq ver next L)
  obtain ⟨R, hRm⟩ : ∃ R : List FVo, R.map (·.1) = L := ⟨withP FV.okay L (fun x hx => HV.out x hx), withP_map _⟩
  have HRL := Lib.hid (show R.length = L.length by rw [← hRm, List.length_map])
  have HRM := Lib.hid hRm
  clear hRm
  refine (callsIn_wide (n := 9)).1 ?_
  refine callsIn_of_wp_marks Tryd.func17 rfl trivial ?_ rfl
  simp only [Tryd.ntmps17, List.size_toArray, List.length_cons, List.length_nil, Nat.reduceAdd, Nat.reduceSub, Array.replicate_succ, Array.replicate_zero, List.push_toArray, List.append_toArray, List.nil_append, List.cons_append]
  gi_wp2
  refine ⟨trivial, ?_⟩
  refine (callsIn_wide.2 (within14_any ver 1 1000000 _)).mono ?_
  rintro e x ⟨rfl, rfl⟩

  cases hw : witB ver 1 1000000 with
  | false =>
    have HR := Lib.hid (show rightS ⟨ver, next, L⟩ = false by rw [HRE.out, hw]; rfl)
    clear hw
    gi_wp2
    refine ⟨trivial, ?_⟩
    gi_wp2
    refine ⟨trivial, ?_⟩
    gi_wp2
    have y2 := (Boxed.new (w.alloc (.cells #[.int .i64 ver, .int .i64 next, .slice p L.length c] 24)) 4 (.bool false)).cell
    simp only [World.size_alloc] at y2
    refine ⟨.bool false, ?_, by rw [HR.out], ((Bel.refl w).alloc _).alloc _⟩
    simp [results, Tryd.results17, go_sem, y2]
  | true =>
    have HW0 := Lib.hid hw
    clear hw
    gi_wp2
    refine ⟨trivial, ?_⟩
    refine (callsIn_wide.2 (within14_any next 1 1000 _)).mono ?_
    rintro e x ⟨rfl, rfl⟩
    cases hw : witB next 1 1000 with
    | false =>
      have HR := Lib.hid (show rightS ⟨ver, next, L⟩ = false by rw [HRE.out, HW0.out, hw]; rfl)
      clear hw
      gi_wp2
      refine ⟨trivial, ?_⟩
      gi_wp2
      have y2 := (Boxed.new (w.alloc (.cells #[.int .i64 ver, .int .i64 next, .slice p L.length c] 24)) 4 (.bool false)).cell
      simp only [World.size_alloc] at y2
      refine ⟨.bool false, ?_, by rw [HR.out], ((Bel.refl w).alloc _).alloc _⟩
      simp [results, Tryd.results17, go_sem, y2]
    | true =>
      have HW1 := Lib.hid hw
      clear hw
      gi_wp2
      refine ⟨trivial, ?_⟩
      refine (callsIn_wide.2 (within14_any (L.length : Int) 1 12 _)).mono ?_
      rintro e x ⟨rfl, rfl⟩
      cases hw : witB (L.length : Int) 1 12 with
      | false =>
        have HR := Lib.hid (show rightS ⟨ver, next, L⟩ = false by rw [HRE.out, HW0.out, HW1.out, hw]; rfl)
        clear hw
        gi_wp2
        have y2 := (Boxed.new (w.alloc (.cells #[.int .i64 ver, .int .i64 next, .slice p L.length c] 24)) 4 (.bool false)).cell
        simp only [World.size_alloc] at y2
        refine ⟨.bool false, ?_, by rw [HR.out], ((Bel.refl w).alloc _).alloc _⟩
        simp [results, Tryd.results17, go_sem, y2]
      | true =>
        have HW2 := Lib.hid hw
        clear hw
        gi_wp2
        refine ⟨trivial, ?_⟩
        refine (callsIn_wide.2 (fields14_any ver next p L.length c _)).mono ?_
        rintro e1 w1 ⟨rfl, hw1⟩
        have HNX := Lib.hid (show 1 ≤ next ∧ next ≤ 1000 by have := HW1.out; unfold witB at this; simpa using this)
        have HL12 := Lib.hid (show L.length ≤ 12 by have := HW2.out; unfold witB at this; simp at this; omega)
        have x0 : (((((w.alloc (.cells #[.int .i64 ver, .int .i64 next, .slice p L.length c] 24)).alloc (.cells #[.bool false] 4)).alloc (.cells #[.int .i64 ver, .int .i64 next, .slice p L.length c] 24)).alloc (.cells #[.slice p L.length c] 22)).heap[w.heap.size]? = some (.cells #[.int .i64 ver, .int .i64 next, .slice p L.length c] 24 (0, 0))) := qbel (heap_alloc_new w _) ((((Bel.refl _).alloc _).alloc _).alloc _)
        have x2 := ((Boxed.new (w.alloc (.cells #[.int .i64 ver, .int .i64 next, .slice p L.length c] 24)) 4 (.bool false)).alloc (.cells #[.int .i64 ver, .int .i64 next, .slice p L.length c] 24)).alloc (.cells #[.slice p L.length c] 22)
        have x5 := Boxed.new (((w.alloc (.cells #[.int .i64 ver, .int .i64 next, .slice p L.length c] 24)).alloc (.cells #[.bool false] 4)).alloc (.cells #[.int .i64 ver, .int .i64 next, .slice p L.length c] 24)) 22 (.slice p L.length c)
        rw [← hw1] at x0 x2 x5
        have hB0 : Bel w w1 := by rw [hw1]; exact ((((Bel.refl w).alloc _).alloc _).alloc _).alloc _
        have hsz : w1.heap.size = w.heap.size + 1 + 1 + 1 + 1 := by rw [hw1]; simp
        clear hw1
        simp only [World.size_alloc] at x2 x5 ⊢
        obtain ⟨b2, hb2⟩ : ∃ b, b = w.heap.size + 1 := ⟨_, rfl⟩
        rw [← hb2] at x2 x5 hsz ⊢
        obtain ⟨b5, hb5⟩ : ∃ b, b = b2 + 1 + 1 := ⟨_, rfl⟩
        rw [← hb5] at x5 hsz ⊢
        have q0 : w.heap.size < b2 := by omega
        have q1 : b2 < b5 := by omega
        have q4 : b5 < w1.heap.size := by omega
        clear hb2 hb5 hsz
        gi_wp2
        refine wpIn_rangeFunc_ownH rfl (by omega) (gf := 71) (lb := #[.pointer (some ⟨b5, 0, none⟩)]) rfl trivial (enters_of Tryd.func71 (by kernel_rfl) rfl)
          (vals14_stops (9 - 1) (by omega) b5 p c R w w1 (by rw [HRM.out]; exact H.out) (by rw [HRL.out]; exact HLM.out) [] (by rw [HRL.out]; exact x5) (hB0)) (fun h k => KeepR.trans h k) (keepR_b (by omega) (fun b hb => by cases hb)) (Below.refl _ _) (fun _ => rfl)
          (fun pre W => RgI w.heap.size b2 ver next p L c pre W ∧ Below w.heap.size w W)
          (fun c pre W => RgX b2 next c pre W ∧ Below w.heap.size w W)
          (OwnFrom.and (Own.from (rgI_own _ _ _ _ _ _ _) _) (ownFrom_below (Nat.le_refl _) (by omega)))
          (fun c => OwnFrom.and (Own.from (rgX_own _ _ c) _) (ownFrom_below (Nat.le_refl _) (by omega)))
          ⟨⟨x0, x2, fun _ h => by cases h⟩, hB0⟩
          (fun x a' W => ∃ Bx, b2 < Bx ∧ W.heap[Bx]? = some (Obj.cells #[.int .i64 x.1.id, .int .i64 x.1.kind, .string x.1.name, .int .i64 x.1.d.k, .int .i64 x.1.d.n, .string x.1.d.s] 31 (0, 0)) ∧ a' = { tmps := #[.agg #[.int .i64 ver, .int .i64 next, .slice p L.length c], .pointer (some ⟨w.heap.size, 0, none⟩), .pointer (some ⟨b2, 0, none⟩), .pointer (some ⟨Bx, 0, none⟩), undef, undef, .pointer (some ⟨w.heap.size, 0, none⟩), .int .i64 ver, .bool true, .bool false, .bool false, .pointer (some ⟨w.heap.size, 1, none⟩), .int .i64 next, .bool true, .bool false, .bool false, .bool false, .pointer (some ⟨w.heap.size, 2, none⟩), .slice p L.length c, .int .i64 L.length, .bool true, .bool false, .bool false, .agg #[.int .i64 ver, .int .i64 next, .slice p L.length c], .func (.func 71) #[] #[.pointer (some ⟨b5, 0, none⟩)], .agg #[.int .i64 x.1.id, .int .i64 x.1.kind, .string x.1.name, .int .i64 x.1.d.k, .int .i64 x.1.d.n, .string x.1.d.s], undef, undef, undef, undef, undef, undef, undef, undef, undef, undef, undef, undef, undef, undef, undef, undef, undef, undef, undef, undef, undef], defers := [] })
          (fun x a' _ X Y row hs hg hr => by obtain ⟨Bx, e0, e2, e3⟩ := hs; exact ⟨Bx, e0, blk_own Bx _ _ () X Y row e2 hg (fun r e => (hr r e).2), e3⟩)
          ?assign ?body ?done ?stop
        case assign =>
          rintro l pre x W K ⟨⟨h0, h2, hf⟩, hB1⟩ hK
          rw [FV.val]
          gi_wp2
          have hal : Bel W (W.alloc (.cells #[.int .i64 x.1.id, .int .i64 x.1.kind, .string x.1.name, .int .i64 x.1.d.k, .int .i64 x.1.d.n, .string x.1.d.s] 31)) := (Bel.refl W).alloc _
          exact hK _ _ ((KeepsOthers.alloc _ _).from _) (bel_keepR hal hB1.size) ⟨⟨qbel h0 hal, h2.alloc _, hf⟩, hB1.trans (Below.mono hal hB1.size)⟩ ⟨W.heap.size, h2.lt, heap_alloc_new W _, rfl⟩
        case body =>
          rintro l pre x a' W hl - ⟨⟨h0, h2, hf⟩, hB⟩ ⟨Bx, hBx, hX, rfl⟩ hlt
          have HF := Lib.hid hf; clear hf
          obtain ⟨⟨d0, d1, d2, d3, d4, d5⟩, -⟩ := qbox6 hX
          obtain ⟨⟨s0, s1, s2⟩, -⟩ := qbox3 h0
          gi_wp2
          refine ⟨trivial, ?_⟩
          refine (CallsIn.inRound l (callsIn_wide.2 (pisr14_any x.1 next _ x.2 HNX.out))).mono ?_
          rintro e w2 ⟨rfl, hb2⟩
          replace h0 := qbel h0 hb2
          replace h2 : Boxed w2 b2 4 (.bool false) := qbel h2 hb2
          have hBw : Below w.heap.size w w2 := hB.trans (Below.mono hb2 hB.size)
          have HB2 := Lib.hid hb2
          have HBS := Lib.hid hB.size
          clear d0 d1 d2 d3 d4 d5 s0 s1 s2 hb2
          have c2 := h2.cell
          have k2 := h2.frozen
          cases hr : fieldB next x.1 with
          | false =>
            have HE := Lib.hid hr
            clear hr
            gi_wp2
            have hk7 := keep_st w2 b2 0 (.bool false)
            exact ⟨((keepO_bel HB2.out).trans (keepO_keep hk7 h2)).from _, ⟨rfl, ⟨x, by simp, HE.out⟩, h2.set _⟩, keep_belowq hk7 hBw (Nat.le_refl _) (by omega)⟩
          | true =>
            have HE := Lib.hid hr
            clear hr
            gi_wp2
            refine ⟨(keepO_bel HB2.out).from _, bel_keepR HB2.out HBS.out, ⟨h0, h2, ?_⟩, hBw⟩
            intro y hy
            rcases List.mem_append.1 hy with h | h
            · exact HF.out y h
            · rw [List.mem_singleton] at h; rw [h]; exact HE.out
        case done =>
          rintro D ys W hD rfl ⟨⟨h0, h2, hf⟩, hB⟩ hK
          have HFA := Lib.hid (show ∀ f ∈ L, fieldB next f = true from fun f hm => by
            rw [← HRM.out] at hm
            obtain ⟨x, hx, rfl⟩ := List.mem_map.1 hm
            exact hf x hx)
          have HK := Lib.hid hK
          have HB := Lib.hid hB
          have hDl := qlt hK
          have hBs := hB.size
          clear hf hK hB
          obtain ⟨⟨s0, s1, s2⟩, -⟩ := qbox3 h0
          gi_wp2
          refine ⟨trivial, ?_⟩
          refine (callsIn_wide.2 (pairs14_any ver next p L.length c _)).mono ?_
          rintro e1 w3 ⟨rfl, hw3⟩
          have x7 : w3.heap[W.heap.size]? = some (.cells #[.int .i64 ver, .int .i64 next, .slice p L.length c] 24 (0, 0)) := by rw [hw3]; exact heap_alloc_new W _
          have hB3 : Bel W w3 := by rw [hw3]; exact (Bel.refl W).alloc _
          have hsz3 : w3.heap.size = W.heap.size + 1 := by rw [hw3]; simp
          have h23 : Boxed w3 b2 4 (.bool false) := qbel h2 hB3
          have hK3 := qbel HK.out hB3
          obtain ⟨b7, hb7⟩ : ∃ b, b = W.heap.size := ⟨_, rfl⟩
          rw [← hb7] at x7 ⊢
          have q7 : b7 < w3.heap.size := by omega
          have qD : D < b7 := by omega
          have q2 : b2 < b7 := by have := h2.lt; omega
          have HN7 := Lib.hid (show w.heap.size ≤ w3.heap.size by omega)
          have HB7 := Lib.hid hb7
          have HBW3 := Lib.hid (show Below w.heap.size w w3 from HB.out.trans (Below.mono hB3 hBs))
          clear hw3 hsz3 s0 s1 s2 h0 h2 hb7
          gi_wp2
          have HZ := Lib.hid (withP_map (P := fun _ : FV × FV => True) (L := pairsL14 L) (fun _ _ => trivial))
          refine wpIn_rangeFunc_ownH rfl (by omega) (gf := 53) (lb := #[.pointer (some ⟨b7, 0, none⟩)]) rfl trivial (enters_of Tryd.func53 (by kernel_rfl) rfl)
            (pairs14_stops (9 - 1) (by omega) b7 ver next p c L (withP (fun _ => True) (pairsL14 L) (fun _ _ => trivial)) w w3 H.out HLM.out HLC.out HZ.out x7 HBW3.out) (fun h k => KeepC.trans h k) (keepC_b HN7.out) (Below.refl _ _) (fun _ => rfl)
            (fun pre W => (RpI b2 pre W ∧ Below w.heap.size w W) ∧ W.heap[D]? = some (.deferred (some [])))
            (fun c pre W => (RpX b2 c pre W ∧ Below w.heap.size w W) ∧ W.heap[D]? = some (.deferred (some [])))
            (OwnFrom.and (OwnFrom.and (Own.from (rpI_own _) _) (ownFrom_below (Nat.le_refl _) HN7.out)) (ownFrom_blk (by omega)))
            (fun c => OwnFrom.and (OwnFrom.and (Own.from (rpX_own _ c) _) (ownFrom_below (Nat.le_refl _) HN7.out)) (ownFrom_blk (by omega)))
            ⟨⟨⟨h23, fun _ h => by cases h⟩, HBW3.out⟩, hK3⟩
            (fun x a' W => ∃ Bx By, b2 < Bx ∧ b2 < By ∧ W.heap[Bx]? = some (Obj.cells #[.int .i64 x.1.1.id, .int .i64 x.1.1.kind, .string x.1.1.name, .int .i64 x.1.1.d.k, .int .i64 x.1.1.d.n, .string x.1.1.d.s] 31 (0, 0)) ∧ W.heap[By]? = some (Obj.cells #[.int .i64 x.1.2.id, .int .i64 x.1.2.kind, .string x.1.2.name, .int .i64 x.1.2.d.k, .int .i64 x.1.2.d.n, .string x.1.2.d.s] 31 (0, 0)) ∧ a' = { tmps := #[.agg #[.int .i64 ver, .int .i64 next, .slice p L.length c], .pointer (some ⟨w.heap.size, 0, none⟩), .pointer (some ⟨b2, 0, none⟩), undef, .pointer (some ⟨Bx, 0, none⟩), .pointer (some ⟨By, 0, none⟩), .pointer (some ⟨w.heap.size, 0, none⟩), .int .i64 ver, .bool true, .bool false, .bool false, .pointer (some ⟨w.heap.size, 1, none⟩), .int .i64 next, .bool true, .bool false, .bool false, .bool false, .pointer (some ⟨w.heap.size, 2, none⟩), .slice p L.length c, .int .i64 L.length, .bool true, .bool false, .bool false, .agg #[.int .i64 ver, .int .i64 next, .slice p L.length c], .func (.func 71) #[] #[.pointer (some ⟨b5, 0, none⟩)], undef, undef, undef, undef, undef, undef, .agg #[.int .i64 ver, .int .i64 next, .slice p L.length c], .func (.func 53) #[] #[.pointer (some ⟨b7, 0, none⟩)], .agg #[.int .i64 x.1.1.id, .int .i64 x.1.1.kind, .string x.1.1.name, .int .i64 x.1.1.d.k, .int .i64 x.1.1.d.n, .string x.1.1.d.s], .agg #[.int .i64 x.1.2.id, .int .i64 x.1.2.kind, .string x.1.2.name, .int .i64 x.1.2.d.k, .int .i64 x.1.2.d.n, .string x.1.2.d.s], undef, undef, undef, undef, undef, undef, undef, undef, undef, undef, undef, undef], defers := [] })
            (fun x a' _ X Y row hs hg hr => by obtain ⟨Bx, By, e0, e1, e2, e3, e4⟩ := hs; exact ⟨Bx, By, e0, e1, blk_own Bx _ _ () X Y row e2 hg (fun r e => (hr r e).2), blk_own By _ _ () X Y row e3 hg (fun r e => (hr r e).2), e4⟩)
            ?assign2 ?body2 ?done2 ?stop2
          case assign2 =>
            rintro l pre x W K ⟨⟨⟨h2, hf⟩, hB1⟩, hKD⟩ hK
            simp only [FV.val]
            gi_wp2
            have hal : Bel W (W.alloc (.cells #[.int .i64 x.1.1.id, .int .i64 x.1.1.kind, .string x.1.1.name, .int .i64 x.1.1.d.k, .int .i64 x.1.1.d.n, .string x.1.1.d.s] 31)) := (Bel.refl W).alloc _
            have hal2 : Bel W ((W.alloc (.cells #[.int .i64 x.1.1.id, .int .i64 x.1.1.kind, .string x.1.1.name, .int .i64 x.1.1.d.k, .int .i64 x.1.1.d.n, .string x.1.1.d.s] 31)).alloc (.cells #[.int .i64 x.1.2.id, .int .i64 x.1.2.kind, .string x.1.2.name, .int .i64 x.1.2.d.k, .int .i64 x.1.2.d.n, .string x.1.2.d.s] 31)) := hal.alloc _
            have e2 := heap_alloc_new (W.alloc (.cells #[.int .i64 x.1.1.id, .int .i64 x.1.1.kind, .string x.1.1.name, .int .i64 x.1.1.d.k, .int .i64 x.1.1.d.n, .string x.1.1.d.s] 31)) (.cells #[.int .i64 x.1.2.id, .int .i64 x.1.2.kind, .string x.1.2.name, .int .i64 x.1.2.d.k, .int .i64 x.1.2.d.n, .string x.1.2.d.s] 31)
            simp only [World.size_alloc] at e2
            exact hK _ _ (((KeepsOthers.alloc _ _).trans (KeepsOthers.alloc _ _)).from _) (bel_keepC hal2 hB1.size) ⟨⟨⟨(h2.alloc _).alloc _, hf⟩, hB1.trans (Below.mono hal2 hB1.size)⟩, qbel hKD hal2⟩ ⟨W.heap.size, W.heap.size + 1, h2.lt, by have := h2.lt; omega, qbel (heap_alloc_new W _) ((Bel.refl _).alloc _), e2, rfl⟩
          case body2 =>
            rintro l pre x a' W hl - ⟨⟨⟨h2, hf⟩, hB⟩, hKD⟩ ⟨Bx, By, hBx, hBy, hX, hY, rfl⟩ hlt
            have HF := Lib.hid hf; clear hf
            have HKD := Lib.hid hKD; clear hKD
            obtain ⟨⟨d0, d1, d2, d3, d4, d5⟩, -⟩ := qbox6 hX
            obtain ⟨⟨g0, g1, g2, g3, g4, g5⟩, -⟩ := qbox6 hY
            have c2 := h2.cell
            have k2 := h2.frozen
            have HBS := Lib.hid hB.size
            by_cases hi : x.1.1.id = x.1.2.id
            · have hie : (x.1.1.id == x.1.2.id) = true := by rw [beq_iff_eq]; exact hi
              have HE := Lib.hid (show difB x.1 = false by unfold difB; rw [decide_eq_true hi]; rfl)
              clear hi
              gi_wp2
              have hk7 := keep_st W b2 0 (.bool false)
              exact ⟨(keepO_keep hk7 h2).from _, ⟨⟨rfl, ⟨x, by simp, HE.out⟩, h2.set _⟩, keep_belowq hk7 hB (Nat.le_refl _) (by omega)⟩, hk7.at HKD.out (by simp; omega)⟩
            · have hie : (x.1.1.id == x.1.2.id) = false := by rw [beq_eq_false_iff_ne]; exact hi
              by_cases hn : x.1.1.name = x.1.2.name
              · have hne : (x.1.1.name.toList == x.1.2.name.toList) = true := by rw [hn]; exact beq_self_eq_true _
                have HE := Lib.hid (show difB x.1 = false by unfold difB; rw [decide_eq_true (show x.1.1.t = x.1.2.t by unfold FV.t; rw [hn])]; simp)
                clear hi hn
                gi_wp2
                have hk7 := keep_st W b2 0 (.bool false)
                exact ⟨(keepO_keep hk7 h2).from _, ⟨⟨rfl, ⟨x, by simp, HE.out⟩, h2.set _⟩, keep_belowq hk7 hB (Nat.le_refl _) (by omega)⟩, hk7.at HKD.out (by simp; omega)⟩
              · have hne : (x.1.1.name.toList == x.1.2.name.toList) = false := by rw [beq_eq_false_iff_ne]; intro h; exact hn (by rw [ByteArray.toList_eq, ByteArray.toList_eq] at h; apply ByteArray.ext; exact Array.toList_inj.1 h)
                have HE := Lib.hid (show difB x.1 = true by unfold difB; rw [decide_eq_false hi, decide_eq_false (show ¬ x.1.1.t = x.1.2.t from fun h => hn (by apply ByteArray.ext; exact Array.toList_inj.1 h))]; rfl)
                clear hi hn
                gi_wp2
                refine ⟨(keepO_bel (Bel.refl W)).from _, bel_keepC (Bel.refl W) HBS.out, ⟨⟨h2, ?_⟩, hB⟩, HKD.out⟩
                intro y hy
                rcases List.mem_append.1 hy with h | h
                · exact HF.out y h
                · rw [List.mem_singleton] at h; rw [h]; exact HE.out
          case done2 =>
            rintro D2 ys W hD rfl ⟨⟨⟨h2, hf⟩, hB⟩, hKD⟩ hK
            have HR := Lib.hid (show rightS ⟨ver, next, L⟩ = true by
              rw [HRE.out, HW0.out, HW1.out, HW2.out, fieldsB_iff.2 ⟨HFA.out, fun f _ => rfl, fun x hx => ?_⟩]
              · rfl
              · rw [← HZ.out] at hx
                obtain ⟨y, hy, rfl⟩ := List.mem_map.1 hx
                exact hf y hy)
            clear hf
            have c2 := h2.cell
            have k2 := h2.frozen
            gi_wp2
            have hk7 := keep_st W b2 0 (.bool true)
            have hK7 := (keepO_keep hk7 h2).same D2 _ hK rfl
            have hKD7 := hk7.at hKD (by simp; omega)
            have hDD : D ≠ D2 := by omega
            have hB7 := keep_belowq hk7 hB (Nat.le_refl _) (by omega)
            have hp := keep_putObj (W.setCell ⟨b2, 0, none⟩ (.bool true)) D2 (.deferred none)
            have hKD8 := hp.at hKD7 (by simpa using hDD)
            have z2 : Boxed _ b2 4 (.bool true) := hp.at (h2.set (.bool true)) (by simp; omega)
            have hp2 := keep_putObj ((W.setCell ⟨b2, 0, none⟩ (.bool true)).putObj D2 (.deferred none)) D (.deferred none)
            have z3 : Boxed _ b2 4 (.bool true) := hp2.at z2 (by simp; omega)
            have y2 := z3.cell
            have hB8 := hB7.trans (belowK_b (w := w) (Nat.le_refl _) _ D2 _ (.deferred none) (by have := HN7.out; omega) hK7 rfl rfl)
            refine ⟨by simp, .inl ⟨_, _, rfl, run_takeDeferred hK7, ?_⟩⟩
            refine ⟨by simp, .inl ⟨_, _, rfl, run_takeDeferred hKD8, ?_⟩⟩
            refine ⟨.bool true, ?_, by rw [HR.out], hB8.trans (belowK_b (w := w) (Nat.le_refl _) _ D _ _ (by omega) hKD8 rfl rfl)⟩
            simp [results, Tryd.results17, go_sem, y2]
          case stop2 =>
            rintro D2 cd pre W hD hp ⟨⟨⟨rfl, ⟨x, hx, hxe⟩, h2⟩, hB⟩, hKD⟩ hK
            obtain ⟨m, hm⟩ := hp
            have HR := Lib.hid (show rightS ⟨ver, next, L⟩ = false by
              have : x.1 ∈ pairsL14 L := by
                rw [← HZ.out, ← hm]; exact List.mem_map.2 ⟨x, List.mem_append.2 (Or.inl hx), rfl⟩
              rw [HRE.out, fields_two this hxe]; simp)
            clear hx hxe hm
            gi_wp2
            have hDD : D ≠ D2 := by omega
            have hp := keep_putObj W D2 (.deferred none)
            have hKD8 := hp.at hKD (by simpa using hDD)
            have z2 : Boxed _ b2 4 (.bool false) := hp.at h2 (by simp; omega)
            have hp2 := keep_putObj (W.putObj D2 (.deferred none)) D (.deferred none)
            have z3 : Boxed _ b2 4 (.bool false) := hp2.at z2 (by simp; omega)
            have y2 := z3.cell
            have hB8 := hB.trans (belowK_b (w := w) (Nat.le_refl _) _ D2 _ (.deferred none) (by have := HN7.out; omega) hK rfl rfl)
            refine ⟨by simp, .inl ⟨_, _, rfl, run_takeDeferred hK, ?_⟩⟩
            refine ⟨by simp, .inl ⟨_, _, rfl, run_takeDeferred hKD8, ?_⟩⟩
            refine ⟨.bool false, ?_, by rw [HR.out], hB8.trans (belowK_b (w := w) (Nat.le_refl _) _ D _ _ (by omega) hKD8 rfl rfl)⟩
            simp [results, Tryd.results17, go_sem, y2]
        case stop =>
          rintro D cd pre W hD hp ⟨⟨rfl, ⟨x, hx, hxe⟩, h2⟩, hB⟩ hK
          obtain ⟨m, hm⟩ := hp
          have HR := Lib.hid (show rightS ⟨ver, next, L⟩ = false by
            have : x.1 ∈ L := by
              rw [← HRM.out, ← hm]; exact List.mem_map.2 ⟨x, List.mem_append.2 (Or.inl hx), rfl⟩
            rw [HRE.out, fields_no this hxe]; simp)
          clear hx hxe hm
          gi_wp2
          have hpK := keep_putObj W D (.deferred none)
          have z2 : Boxed _ b2 4 (.bool false) := hpK.at h2 (by simp; omega)
          have y2 := z2.cell
          refine ⟨by simp, .inl ⟨_, _, rfl, run_takeDeferred hK, ?_⟩⟩
          refine ⟨.bool false, ?_, by rw [HR.out], hB.trans (belowK_b (w := w) (Nat.le_refl _) _ D _ _ (by omega) hK rfl rfl)⟩
          simp [results, Tryd.results17, go_sem, y2]
end Go.Proofs.YtbalkchphijehaaDoor
/- schema.Unpack. -/
set_option maxRecDepth 100000
namespace Go.Proofs.YtbalkchphijehaaDoor
open Go.RowKit Go.Shelf Go.Deep

attribute [local go_sem] Oper.semAt_some

/-- What Unpack answers. -/
def UnpPost14 (o : Option (SV × List UInt8)) (w : World) (e : Ending) (w' : World) : Prop := match o with
  | some x => ∃ v, e = .returned (.tuple #[.agg #[.int .i64 x.1.ver, .int .i64 x.1.next, v], .string ⟨x.2.toArray⟩, .int .i64 0]) ∧ OwnG fldEl w.heap.size w' v x.1.fs ∧ Bel w w'
  | none => e = .returned (.tuple #[.agg #[.int .i64 0, .int .i64 0, .slice none 0 0], .string ⟨#[]⟩, .int .i64 8]) ∧ Bel w w'
theorem UnpPost14.no {o : Option (SV × List UInt8)} (ho : o = none) {w w' : World} (hb : Bel w w') : UnpPost14 o w (.returned (.tuple #[.agg #[.int .i64 0, .int .i64 0, .slice none 0 0], .string ⟨#[]⟩, .int .i64 8])) w' := by subst ho; exact ⟨rfl, hb⟩
theorem UnpPost14.yes {o : Option (SV × List UInt8)} {a b : Int} {F : List FV} {r : List UInt8} (ho : o = some (⟨a, b, F⟩, r)) {w w' : World} {v : Value} (hv : OwnG fldEl w.heap.size w' v F) (hb : Bel w w') : UnpPost14 o w (.returned (.tuple #[.agg #[.int .i64 a, .int .i64 b, v], .string ⟨r.toArray⟩, .int .i64 0])) w' := by
  subst ho; exact ⟨v, rfl, hv, hb⟩
theorem ownG_fldsQ {B n c : Nat} {w : World} {p : Option Addr} {L : List FV} (h : OwnG fldEl B w (.slice p n c) L) : FldsAt w p L := by
  obtain ⟨p', c', hv, hf⟩ := ownG_flds h
  cases hv; exact hf
end Go.Proofs.YtbalkchphijehaaDoor
