/- TEl, MKit, MSmall, TRef1, TPLow, laid together. -/
import Derived.Test.YteimllgoelleeaaQ4
import Derived.Test.YteimllgoelleeaaQ7
import Derived.Test.YteimllgoelleeaaQ6
import Derived.Test.YteimllgoelleeaaQ9
import Derived.Test.YteimllgoelleeaaQ10
set_option linter.unusedSimpArgs false
set_option linter.unusedVariables false
/- Slices of entries, and of cites, that came in or that a call has made. -/
namespace Go.Proofs.Yteimllgoelleeaa
open Go.RowKit Go.Deep

def EB.val (e : EB) : Value := .agg #[.string e.k, .int .i64 e.q, .bool e.d, .string e.v]
def entEl : El EB := ⟨33, 22, 4, fun e => [.string e.k, .int .i64 e.q, .bool e.d, .string e.v]⟩
theorem entOk : ElOk entEl 48 := ⟨fun _ => rfl, fun a u hu => by simp [entEl] at hu; rcases hu with rfl | rfl | rfl | rfl <;> rfl, by kernel_rfl, ⟨.agg #[.string ⟨#[]⟩, .int .i64 0, .bool false, .string ⟨#[]⟩], by kernel_rfl, rfl⟩, by decide⟩
def CT.val (c : CT) : Value := .agg #[.int .i64 (c.t : Int), .int .i64 (c.v : Int), .int .i64 (c.n : Int)]
def ctEl : El CT := ⟨69, 42, 3, fun c => [.int .i64 (c.t : Int), .int .i64 (c.v : Int), .int .i64 (c.n : Int)]⟩
theorem ctOk : ElOk ctEl 24 := ⟨fun _ => rfl, fun a u hu => by simp [ctEl] at hu; rcases hu with rfl | rfl | rfl <;> rfl, by kernel_rfl, ⟨.agg #[.int .i64 0, .int .i64 0, .int .i64 0], by kernel_rfl, rfl⟩, by decide⟩
def EntAt (w : World) (a : Addr) (e : EB) : Prop := ∃ B O sp, a = ⟨B, O, sp⟩ ∧ w.cell? ⟨B, O, sp⟩ = some (.string e.k) ∧ w.cell? ⟨B, O + 1, none⟩ = some (.int .i64 e.q) ∧ w.cell? ⟨B, O + 2, none⟩ = some (.bool e.d) ∧ w.cell? ⟨B, O + 3, none⟩ = some (.string e.v)
def CtAt (w : World) (a : Addr) (c : CT) : Prop := ∃ B O sp, a = ⟨B, O, sp⟩ ∧ w.cell? ⟨B, O, sp⟩ = some (.int .i64 (c.t : Int)) ∧ w.cell? ⟨B, O + 1, none⟩ = some (.int .i64 (c.v : Int)) ∧ w.cell? ⟨B, O + 2, none⟩ = some (.int .i64 (c.n : Int))
theorem blk_of_cell {w : World} {a : Addr} {v : Value} (h : w.cell? a = some v) : a.block < w.heap.size := World.block_lt_of_cell? _ _ h
theorem EntAt.bel {w x : World} {a : Addr} {e : EB} (h : EntAt w a e) (hb : Bel w x) : EntAt x a e := by
  obtain ⟨B, O, sp, h0, c0, c1, c2, c3⟩ := h
  exact ⟨B, O, sp, h0, (Below.cell hb (blk_of_cell c0)).trans c0, (Below.cell hb (blk_of_cell c1)).trans c1, (Below.cell hb (blk_of_cell c2)).trans c2, (Below.cell hb (blk_of_cell c3)).trans c3⟩
theorem EntAt.keep {w x : World} {a : Addr} {e : EB} {F : List Nat} (h : EntAt w a e) (hk : Keep F w x) (hF : a.block ∉ F) : EntAt x a e := by
  obtain ⟨B, O, sp, h0, c0, c1, c2, c3⟩ := h
  subst h0
  exact ⟨B, O, sp, rfl, hk.cell c0 hF, hk.cell c1 hF, hk.cell c2 hF, hk.cell c3 hF⟩
theorem CtAt.bel {w x : World} {a : Addr} {c : CT} (h : CtAt w a c) (hb : Bel w x) : CtAt x a c := by
  obtain ⟨B, O, sp, h0, c0, c1, c2⟩ := h
  exact ⟨B, O, sp, h0, (Below.cell hb (blk_of_cell c0)).trans c0, (Below.cell hb (blk_of_cell c1)).trans c1, (Below.cell hb (blk_of_cell c2)).trans c2⟩
def EntsAt (w : World) (p : Option Addr) (L : List EB) : Prop := ∀ i (h : i < L.length), ∃ a, p = some a ∧ EntAt w (a.add (i * 4)) L[i]
def CtsAt (w : World) (p : Option Addr) (L : List CT) : Prop := ∀ i (h : i < L.length), ∃ a, p = some a ∧ CtAt w (a.add (i * 3)) L[i]
theorem EntsAt.get {w : World} {p : Option Addr} {L : List EB} (h : EntsAt w p L) {i : Nat} (hi : i < L.length) : ∃ a e, p = some a ∧ e = L[i] ∧ ∃ B O sp, a.add (i * 4) = ⟨B, O, sp⟩ ∧ w.cell? ⟨B, O, sp⟩ = some (.string e.k) ∧ w.cell? ⟨B, O + 1, none⟩ = some (.int .i64 e.q) ∧ w.cell? ⟨B, O + 2, none⟩ = some (.bool e.d) ∧ w.cell? ⟨B, O + 3, none⟩ = some (.string e.v) := by
  obtain ⟨a, ha, h1⟩ := h i hi
  exact ⟨a, _, ha, rfl, h1⟩
theorem CtsAt.get {w : World} {p : Option Addr} {L : List CT} (h : CtsAt w p L) {i : Nat} (hi : i < L.length) : ∃ a c, p = some a ∧ c = L[i] ∧ ∃ B O sp, a.add (i * 3) = ⟨B, O, sp⟩ ∧ w.cell? ⟨B, O, sp⟩ = some (.int .i64 (c.t : Int)) ∧ w.cell? ⟨B, O + 1, none⟩ = some (.int .i64 (c.v : Int)) ∧ w.cell? ⟨B, O + 2, none⟩ = some (.int .i64 (c.n : Int)) := by
  obtain ⟨a, ha, h1⟩ := h i hi
  exact ⟨a, _, ha, rfl, h1⟩
theorem EntsAt.bel {w x : World} {p : Option Addr} {L : List EB} (h : EntsAt w p L) (hb : Bel w x) : EntsAt x p L := fun i hi => by
  obtain ⟨a, ha, hc⟩ := h i hi
  exact ⟨a, ha, hc.bel hb⟩
theorem CtsAt.bel {w x : World} {p : Option Addr} {L : List CT} (h : CtsAt w p L) (hb : Bel w x) : CtsAt x p L := fun i hi => by
  obtain ⟨a, ha, hc⟩ := h i hi
  exact ⟨a, ha, hc.bel hb⟩
theorem EntsAt.nil (w : World) (p : Option Addr) : EntsAt w p [] := fun i hi => by simp at hi
theorem CtsAt.nil (w : World) (p : Option Addr) : CtsAt w p [] := fun i hi => by simp at hi
theorem ownG_ents {B : Nat} {w : World} {v : Value} {L : List EB} (h : OwnG entEl B w v L) : ∃ p cap, v = .slice p L.length cap ∧ EntsAt w p L := by
  by_cases hL : L = []
  · subst hL
    obtain ⟨p, cap, hv⟩ := ownG_len h
    exact ⟨p, cap, hv, EntsAt.nil _ _⟩
  · obtain ⟨g, cap, hv, _, _, _, hc'⟩ := ownG_cells entOk h hL
    refine ⟨_, cap, hv, fun i hi => ⟨_, rfl, g, i * 4, none, ?_, ?_, ?_, ?_, ?_⟩⟩
    · by_cases h0 : i * 4 = 0
      · rw [h0]; rfl
      · simp [Addr.add, h0]
    · exact hc' i L[i] (List.getElem?_eq_getElem hi) 0 _ rfl
    · exact hc' i L[i] (List.getElem?_eq_getElem hi) 1 _ rfl
    · exact hc' i L[i] (List.getElem?_eq_getElem hi) 2 _ rfl
    · exact hc' i L[i] (List.getElem?_eq_getElem hi) 3 _ rfl
theorem ownG_cts {B : Nat} {w : World} {v : Value} {L : List CT} (h : OwnG ctEl B w v L) : ∃ p cap, v = .slice p L.length cap ∧ CtsAt w p L := by
  by_cases hL : L = []
  · subst hL
    obtain ⟨p, cap, hv⟩ := ownG_len h
    exact ⟨p, cap, hv, CtsAt.nil _ _⟩
  · obtain ⟨g, cap, hv, _, _, _, hc'⟩ := ownG_cells ctOk h hL
    refine ⟨_, cap, hv, fun i hi => ⟨_, rfl, g, i * 3, none, ?_, ?_, ?_, ?_⟩⟩
    · by_cases h0 : i * 3 = 0
      · rw [h0]; rfl
      · simp [Addr.add, h0]
    · exact hc' i L[i] (List.getElem?_eq_getElem hi) 0 _ rfl
    · exact hc' i L[i] (List.getElem?_eq_getElem hi) 1 _ rfl
    · exact hc' i L[i] (List.getElem?_eq_getElem hi) 2 _ rfl
def fitsL (L : List EB) : Prop := ∀ e ∈ L, e.fits
theorem fits_at {L : List EB} (h : fitsL L) {i : Nat} (hi : i < L.length) : L[i].fits := h _ (List.getElem_mem hi)
end Go.Proofs.Yteimllgoelleeaa
/- What the laws of chapter 11 want of a memory: where it lies (At: its blocks F, the entries C that it holds), and what its calls answer; and the reference's memory in the same words. -/
namespace Go.Proofs.Yteimllgoelleeaa
open Go.RowKit Go.Deep

def getM : Option EB → Value
  | some e => .tuple #[.agg #[.string e.k, .int .i64 e.q, .bool e.d, .string e.v], .bool true]
  | none => .tuple #[.agg #[.string ⟨#[]⟩, .int .i64 0, .bool false, .string ⟨#[]⟩], .bool false]
def Holds (C : List EB) : Prop := standB C = true ∧ C.length ≤ 1000
theorem holds_fits {C : List EB} (h : Holds C) : fitsL C := fun e he => by
  have hr := stand_right h.1 e he
  unfold rightB at hr
  rw [Bool.and_eq_true, Bool.and_eq_true, Bool.and_eq_true, Bool.and_eq_true, decide_eq_true_iff, decide_eq_true_iff, decide_eq_true_iff, decide_eq_true_iff] at hr
  obtain ⟨⟨⟨⟨h1, h2⟩, h3⟩, h4⟩, -⟩ := hr
  exact ⟨by omega, by omega, by omega, by omega⟩
theorem holds_data {C : List EB} (h : Holds C) : ∀ e ∈ C, e.v.size ≤ 25000 := fun e he => by
  have hr := stand_right h.1 e he
  unfold rightB at hr
  rw [Bool.and_eq_true, Bool.and_eq_true, Bool.and_eq_true, Bool.and_eq_true, decide_eq_true_iff, decide_eq_true_iff, decide_eq_true_iff, decide_eq_true_iff] at hr
  exact hr.1.2
structure MK where
  At : World → Nat → List Nat → List EB → Prop
  Ok : World → Prop
  okBel : ∀ {w x : World}, Ok w → Bel w x → Ok x
  lt : ∀ {w : World} {b : Nat} {F : List Nat} {C : List EB}, At w b F C → ∀ k ∈ F, k < w.heap.size
  keep : ∀ {w x : World} {b : Nat} {F G : List Nat} {C : List EB}, At w b F C → Keep G w x → (∀ k ∈ F, k ∉ G) → At x b F C
  new : ∀ (w : World), Ok w → Calls Try.prog 10 #[] w fun e w' => ∃ b F, e = .returned (.pointer (some ⟨b, 0, none⟩)) ∧ At w' b F [] ∧ (∀ k ∈ F, w.heap.size ≤ k) ∧ Bel w w'
  add : ∀ (b : Nat) (F : List Nat) (C : List EB) (e : EB) (w : World), At w b F C → Holds C → e.fits → e.v.size ≤ 1000000 →
    Calls Try.prog 11 #[.pointer (some ⟨b, 0, none⟩), .agg #[.string e.k, .int .i64 e.q, .bool e.d, .string e.v]] w fun r w' => ∃ F', r = .returned (.int .i64 (errM C e)) ∧ At w' b F' (stepS C e) ∧ (∀ k ∈ F', k ∈ F ∨ w.heap.size ≤ k) ∧ Keep F w w'
  get : ∀ (b : Nat) (F : List Nat) (C : List EB) (key : ByteArray) (q : Int) (w : World), At w b F C → Holds C →
    Calls Try.prog 16 #[.pointer (some ⟨b, 0, none⟩), .string key, .int .i64 q] w fun r w' => r = .returned (getM (getE key.data.toList q C)) ∧ Bel w w'
  between : ∀ (b : Nat) (F : List Nat) (C : List EB) (f t : ByteArray) (w : World), At w b F C → Holds C →
    Calls Try.prog 19 #[.pointer (some ⟨b, 0, none⟩), .string f, .string t] w fun r w' => ∃ v, r = .returned v ∧ OwnG entEl w.heap.size w' v (betE f.data.toList t.data.toList C) ∧ Bel w w'
  len : ∀ (b : Nat) (F : List Nat) (C : List EB) (w : World), At w b F C → Holds C →
    Calls Try.prog 13 #[.pointer (some ⟨b, 0, none⟩)] w fun r w' => r = .returned (.int .i64 (C.length : Nat)) ∧ Bel w w'
  size : ∀ (b : Nat) (F : List Nat) (C : List EB) (w : World), At w b F C → Holds C →
    Calls Try.prog 14 #[.pointer (some ⟨b, 0, none⟩)] w fun r w' => r = .returned (.int .i64 (sizeM C : Nat)) ∧ Bel w w'
  cites : ∀ (b : Nat) (F : List Nat) (C : List EB) (w : World), At w b F C → Holds C →
    Calls Try.prog 22 #[.pointer (some ⟨b, 0, none⟩)] w fun r w' => ∃ v, r = .returned v ∧ OwnG ctEl w.heap.size w' v (citesB C) ∧ Bel w w'
section
variable (K : MK) {W w x : World} {b : Nat} {F : List Nat} {C : List EB}
theorem MK.bel (h : K.At w b F C) (hb : Bel w x) : K.At x b F C := K.keep h (Keep.of_bel hb []) (fun _ _ hm => by cases hm)
theorem keep_new (h : Keep F w x) (hW : Bel W w) (hF : ∀ k ∈ F, W.heap.size ≤ k) : Bel W x :=
  ((Keep.of_bel hW F).trans h (fun k hk => Or.inl hk)).bel hF
theorem new_low {F' : List Nat} (hn : ∀ k ∈ F', k ∈ F ∨ w.heap.size ≤ k) (hW : Bel W w) (hF : ∀ k ∈ F, W.heap.size ≤ k) : ∀ k ∈ F', W.heap.size ≤ k := fun k hk => by
  rcases hn k hk with h | h
  · exact hF k h
  · have := hW.size; omega
end
def RMAt (w : World) (b : Nat) (F : List Nat) (C : List EB) : Prop := ∃ v, w.heap[b]? = some (.cells #[v] 29 (0, 0)) ∧ OwnG entEl 0 w v C ∧ F = b :: v.ownBlock.toList
theorem ownG_lt {α : Type} {E : El α} {B : Nat} {w : World} {v : Value} {L : List α} (h : OwnG E B w v L) : ∀ k, v.ownBlock = some k → k < w.heap.size := by
  intro k hk
  rcases h.2 with ⟨rfl, _⟩ | ⟨g, cap, cur, rfl, _, hgb, _⟩
  · simp [Value.ownBlock] at hk
  · obtain rfl : g = k := by simpa [Value.ownBlock] using hk
    exact (Array.getElem?_eq_some_iff.1 hgb).1
theorem RMAt.lt {w : World} {b : Nat} {F : List Nat} {C : List EB} (h : RMAt w b F C) : ∀ k ∈ F, k < w.heap.size := by
  obtain ⟨v, h1, h2, rfl⟩ := h
  intro k hk
  rcases List.mem_cons.1 hk with rfl | hk
  · exact (Array.getElem?_eq_some_iff.1 h1).1
  · exact ownG_lt h2 k (by simpa using hk)
theorem RMAt.keep {w x : World} {b : Nat} {F G : List Nat} {C : List EB} (h : RMAt w b F C) (hk : Keep G w x) (hF : ∀ k ∈ F, k ∉ G) : RMAt x b F C := by
  obtain ⟨v, h1, h2, rfl⟩ := h
  exact ⟨v, hk.at h1 (hF b (by simp)), h2.keep hk (fun k hk => hF k (by simp [hk])), rfl⟩
theorem RMAt.bel {w x : World} {b : Nat} {F : List Nat} {C : List EB} (h : RMAt w b F C) (hb : Bel w x) : RMAt x b F C := h.keep (Keep.of_bel hb []) (fun _ _ hm => by cases hm)
def Apart (F G : List Nat) : Prop := ∀ k ∈ F, k ∉ G
theorem Apart.symm {F G : List Nat} (h : Apart F G) : Apart G F := fun k hk hf => h k hf hk
theorem Apart.grow {F F' G : List Nat} {w : World} (h : Apart F G) (hn : ∀ k ∈ F', k ∈ F ∨ w.heap.size ≤ k) (hG : ∀ k ∈ G, k < w.heap.size) : Apart F' G := fun k hk hg => by
  rcases hn k hk with h1 | h1
  · exact h k h1 hg
  · have := hG k hg; omega
end Go.Proofs.Yteimllgoelleeaa
/- moultlaw11.same, sameCites, small. -/
namespace Go.Proofs.Yteimllgoelleeaa
open Go.RowKit Go.Deep

set_option maxHeartbeats 2000000 in
theorem same11_any (p q : Option Addr) (cap cap' : Nat) (L : List EB) (w : World) (h : EntsAt w p L) (h' : EntsAt w q L) (hL : L.length ≤ 1000000) :
    Calls Try.prog 18 #[.slice p L.length cap, .slice q L.length cap'] w fun e w' => e = .returned (.bool true) ∧ Drw w w' := by
  have H := Lib.hid h; clear h
  have H' := Lib.hid h'; clear h'
  go_enter Try.func18, Try.ntmps18
  go_wp2_with (fail)
  go_loopw [5] (fun i x => (∃ k : Nat, k ≤ L.length ∧ i = .int .i64 k) ∧ Drw w x) (fun i _ => L.length - (intOf i).toNat)
  case atStart => exact ⟨⟨0, Nat.zero_le _, rfl⟩, Drw.refl w⟩
  case round =>
    obtain ⟨⟨k, hk, rfl⟩, hw⟩ := hrel
    have HW := Lib.hid hw; clear hw
    by_cases hlt : k < L.length
    · obtain ⟨a, e0, rfl, he0, B, O, sp, ha, c0, c1, c2, c3⟩ := (H.out.bel HW.out.bel).get hlt
      obtain ⟨a', e1, rfl, he1, B', O', sp', ha', d0, d1, d2, d3⟩ := (H'.out.bel HW.out.bel).get hlt
      have he : e1 = e0 := he1.trans he0.symm
      subst he
      clear he0 he1
      go_wp2_with (fail)
      go_quiet (fail)
      go_wp2_with (fail)
      go_roundw
      case rel => exact ⟨⟨k + 1, hlt, by go_num⟩, HW.out.drewN _⟩
      case measure => simp [intOf]; omega
    · go_wp2_with (fail)
      go_ret
      exact ⟨rfl, HW.out⟩
set_option maxHeartbeats 2000000 in
theorem samecites11_any (p q : Option Addr) (cap cap' : Nat) (L : List CT) (w : World) (h : CtsAt w p L) (h' : CtsAt w q L) (hL : L.length ≤ 1000000) :
    Calls Try.prog 21 #[.slice p L.length cap, .slice q L.length cap'] w fun e w' => e = .returned (.bool true) ∧ Drw w w' := by
  have H := Lib.hid h; clear h
  have H' := Lib.hid h'; clear h'
  go_enter Try.func21, Try.ntmps21
  go_wp2_with (fail)
  go_loopw [5] (fun i x => (∃ k : Nat, k ≤ L.length ∧ i = .int .i64 k) ∧ Drw w x) (fun i _ => L.length - (intOf i).toNat)
  case atStart => exact ⟨⟨0, Nat.zero_le _, rfl⟩, Drw.refl w⟩
  case round =>
    obtain ⟨⟨k, hk, rfl⟩, hw⟩ := hrel
    have HW := Lib.hid hw; clear hw
    by_cases hlt : k < L.length
    · obtain ⟨a, e0, rfl, he0, B, O, sp, ha, c0, c1, c2⟩ := (H.out.bel HW.out.bel).get hlt
      obtain ⟨a', e1, rfl, he1, B', O', sp', ha', d0, d1, d2⟩ := (H'.out.bel HW.out.bel).get hlt
      have he : e1 = e0 := he1.trans he0.symm
      subst he
      clear he0 he1
      go_wp2_with (fail)
      go_quiet (fail)
      go_wp2_with (fail)
      go_roundw
      case rel => exact ⟨⟨k + 1, hlt, by go_num⟩, HW.out.drewN _⟩
      case measure => simp [intOf]; omega
    · go_wp2_with (fail)
      go_ret
      exact ⟨rfl, HW.out⟩
def Small11 (L : List EB) : Prop := L.length ≤ 100 ∧ ∀ i (h : i < L.length), L[i].k.size ≤ 1500 ∧ L[i].v.size ≤ 2000
set_option maxHeartbeats 2000000 in
theorem small11_any (p : Option Addr) (cap : Nat) (L : List EB) (w : World) (h : EntsAt w p L) (hL : L.length ≤ 9223372036854775807) (hf : fitsL L) :
    Calls Try.prog 9 #[.slice p L.length cap] w fun e w' => Drw w w' ∧ ((Small11 L ∧ e = .returned (.bool true)) ∨ e = .returned (.bool false)) := by
  have H := Lib.hid h; clear h
  have HF := Lib.hid hf; clear hf
  by_cases h2 : L.length ≤ 100
  · have h2' : (L.length : Int) ≤ 100 := by omega
    go_enter Try.func9, Try.ntmps9
    go_wp2_with (fail)
    go_loopw [3] (fun i x => (∃ k : Nat, k ≤ L.length ∧ i = .int .i64 k ∧ ∀ j (h : j < L.length), j < k → L[j].k.size ≤ 1500 ∧ L[j].v.size ≤ 2000) ∧ Drw w x) (fun i _ => L.length - (intOf i).toNat)
    case atStart => exact ⟨⟨0, Nat.zero_le _, rfl, fun j _ h => by omega⟩, Drw.refl w⟩
    case round =>
      obtain ⟨⟨k, hk, rfl, hall⟩, hw⟩ := hrel
      have HA := Lib.hid hall; clear hall
      have HW := Lib.hid hw; clear hw
      by_cases hlt : k < L.length
      · obtain ⟨a, e0, rfl, he0, B, O, sp, ha, c0, c1, c2, c3⟩ := (H.out.bel HW.out.bel).get hlt
        have hfit : e0.fits := by rw [he0]; exact fits_at HF.out hlt
        obtain ⟨f1, f2, f3, f4⟩ := hfit
        have HE0 := Lib.hid he0
        clear he0
        by_cases h3 : e0.k.size ≤ 1500
        · have h3' : (e0.k.size : Int) ≤ 1500 := by omega
          by_cases h4 : e0.v.size ≤ 2000
          · have h4' : (e0.v.size : Int) ≤ 2000 := by omega
            have HA2 := Lib.hid (show ∀ j (h : j < L.length), j < k + 1 → L[j].k.size ≤ 1500 ∧ L[j].v.size ≤ 2000 from fun j h hj => by
              by_cases e : j = k
              · subst e; have g1 := congrArg EB.k HE0.out; have g2 := congrArg EB.v HE0.out; exact ⟨by rw [← g1]; exact h3, by rw [← g2]; exact h4⟩
              · exact HA.out j h (by omega))
            go_wp2_with (fail)
            go_roundw
            case rel => exact ⟨⟨k + 1, hlt, by go_num, HA2.out⟩, HW.out⟩
            case measure => simp [intOf]; omega
          · have h4' : ¬ (e0.v.size : Int) ≤ 2000 := by omega
            go_wp2_with (fail)
            go_ret
            exact ⟨HW.out, Or.inr rfl⟩
        · have h3' : ¬ (e0.k.size : Int) ≤ 1500 := by omega
          go_wp2_with (fail)
          go_ret
          exact ⟨HW.out, Or.inr rfl⟩
      · go_wp2_with (fail)
        go_ret
        exact ⟨HW.out, Or.inl ⟨⟨h2, fun j h => HA.out j h (by omega)⟩, rfl⟩⟩
  · have h2' : ¬ (L.length : Int) ≤ 100 := by omega
    go_enter Try.func9, Try.ntmps9
    go_wp2_with (fail)
    go_ret
    exact ⟨Drw.refl w, Or.inr rfl⟩
end Go.Proofs.Yteimllgoelleeaa
/- moultref10.Cite, Right, Less. -/
namespace Go.Proofs.Yteimllgoelleeaa
open Go.RowKit Go.Deep

def citeV (s : List UInt8) : Value := match citeL s with
  | none => .tuple #[.int .i64 0, .int .i64 0, .bool false]
  | some (a, b) => .tuple #[.int .i64 (a : Nat), .int .i64 (b : Nat), .bool true]
theorem citeV_none {s : List UInt8} (h : citeL s = none) : citeV s = .tuple #[.int .i64 0, .int .i64 0, .bool false] := by unfold citeV; rw [h]
theorem citeV_some {s : List UInt8} {a b : Nat} (h : citeL s = some (a, b)) : citeV s = .tuple #[.int .i64 (a : Nat), .int .i64 (b : Nat), .bool true] := by unfold citeV; rw [h]
theorem mk_size10 (l : List UInt8) : (⟨l.toArray⟩ : ByteArray).size = l.length := by show l.toArray.size = _; rw [List.size_toArray]
theorem take_rest10 {s : ByteArray} {n : Nat} {r : List UInt8} {b : Bool} (hs : s.size ≤ 1000000) (h : takeL s.data.toList = (n, r, b)) : (⟨r.toArray⟩ : ByteArray).size ≤ 1000000 := by
  have hr := take_rest s.data.toList
  rw [h] at hr
  have hl : s.data.toList.length = s.size := rfl
  rw [mk_size10]
  simp only [] at hr
  omega
theorem cite_as {s r : List UInt8} {n m : Nat} {r2 : List UInt8} {b c : Bool} (h : takeL s = (n, r, b)) (h2 : takeL r = (m, r2, c)) : citeL s = if b = true ∧ c = true ∧ n ≤ 1000000 ∧ m ≤ 1000000 then some (n, m) else none := by
  unfold citeL
  rw [h]
  simp only []
  rw [h2]
theorem right_no {e : EB} (h : ¬ (e.k.size ≤ 1200 ∧ 1 ≤ e.q ∧ e.q ≤ 1099511627776 ∧ e.v.size ≤ 25000)) : rightB e = false := by
  cases hr : rightB e with
  | false => rfl
  | true => exact absurd (by have := right_parts hr; exact ⟨this.1, this.2.1, this.2.2.1, this.2.2.2.1⟩) h
end Go.Proofs.Yteimllgoelleeaa
/- The program's Cite, Right, Less. -/
namespace Go.Proofs.Yteimllgoelleeaa
open Go.RowKit Go.Deep

theorem take_of (s : ByteArray) (n : Nat) (r : List UInt8) (b : Bool) (w : World) (hs : s.size ≤ 1000000) (h : takeL s.data.toList = (n, r, b)) :
    Calls Try.prog 49 #[.string s] w fun e w' => e = .returned (.tuple #[.int .u64 (n : Int), .string ⟨r.toArray⟩, .bool b]) ∧ Bel w w' := by
  refine (take_any s w hs).mono ?_
  rintro e w' ⟨rfl, hb⟩
  exact ⟨by unfold takeV; rw [h], hb⟩
def citedV (n : Nat) (r : List UInt8) (b : Bool) : Value := if b = true ∧ n ≤ 1000000 then .tuple #[.int .i64 (n : Nat), .string ⟨r.toArray⟩, .bool true] else .tuple #[.int .i64 0, .string ⟨#[]⟩, .bool false]
set_option maxHeartbeats 2000000 in
theorem cited_any (s : ByteArray) (n : Nat) (r : List UInt8) (b : Bool) (w : World) (hs : s.size ≤ 1000000) (h : takeL s.data.toList = (n, r, b)) :
    Calls Try.prog 42 #[.string s] w fun e w' => e = .returned (citedV n r b) ∧ Bel w w' := by
  have hn64 := take_lt s.data.toList
  rw [h] at hn64
  simp only [] at hn64
  have H1 := Lib.hid h; clear h
  go_enter Try.func42, Try.ntmps42
  go_wp2_with (fail)
  refine (take_of s n r b w hs H1.out).mono ?_
  rintro e w1 ⟨rfl, hb⟩
  have HB := Lib.hid hb; clear hb
  obtain ⟨rb, hrb⟩ : ∃ rb : ByteArray, rb = ⟨r.toArray⟩ := ⟨_, rfl⟩
  rw [← hrb]
  have HR := Lib.hid hrb; clear hrb
  cases b with
  | false =>
    have HV := Lib.hid (show citedV n r false = _ from if_neg (by simp))
    go_wp2_with (fail)
    go_ret3
    exact ⟨by rw [HV.out]; rfl, HB.out⟩
  | true =>
    by_cases hn : n ≤ 1000000
    · have HV := Lib.hid (show citedV n r true = _ from if_pos ⟨rfl, hn⟩)
      have hn' : (n : Int) ≤ 1000000 := by omega
      go_wp2_with (fail)
      go_ret3
      exact ⟨by rw [HV.out, ← HR.out]; rfl, HB.out⟩
    · have HV := Lib.hid (show citedV n r true = _ from if_neg (fun h => hn h.2))
      have hn' : ¬ (n : Int) ≤ 1000000 := by omega
      go_wp2_with (fail)
      go_ret3
      exact ⟨by rw [HV.out]; rfl, HB.out⟩
theorem cited_yes {n : Nat} {r : List UInt8} (hn : n ≤ 1000000) : citedV n r true = .tuple #[.int .i64 (n : Nat), .string ⟨r.toArray⟩, .bool true] := if_pos ⟨rfl, hn⟩
theorem cited_no {n : Nat} {r : List UInt8} {b : Bool} (h : ¬ (b = true ∧ n ≤ 1000000)) : citedV n r b = .tuple #[.int .i64 0, .string ⟨#[]⟩, .bool false] := if_neg h
set_option maxHeartbeats 2000000 in
theorem pcite_any (s : ByteArray) (w : World) (hs : s.size ≤ 1000000) :
    Calls Try.prog 34 #[.string s] w fun e w' => e = .returned (citeV s.data.toList) ∧ Bel w w' := by
  obtain ⟨n, r, b, h1⟩ : ∃ n r b, takeL s.data.toList = (n, r, b) := ⟨_, _, _, rfl⟩
  have hrs := take_rest10 hs h1
  obtain ⟨m, r2, c, h2⟩ : ∃ m r2 c, takeL (⟨r.toArray⟩ : ByteArray).data.toList = (m, r2, c) := ⟨_, _, _, rfl⟩
  have hca := cite_as h1 (show takeL r = (m, r2, c) from by rw [← h2])
  have HCA := Lib.hid hca; clear hca
  have H1 := Lib.hid h1; have H2 := Lib.hid h2
  have HRS := Lib.hid hrs
  clear h1 h2 hrs
  go_enter Try.func34, Try.ntmps34
  go_wp2_with (fail)
  refine (cited_any s n r b w hs H1.out).mono ?_
  rintro e w1 ⟨rfl, hb⟩
  have HB := Lib.hid hb; clear hb
  by_cases h1 : b = true ∧ n ≤ 1000000
  · obtain ⟨rfl, hn⟩ := h1
    rw [cited_yes hn]
    obtain ⟨rb, hrb⟩ : ∃ rb : ByteArray, rb = ⟨r.toArray⟩ := ⟨_, rfl⟩
    have H2' := Lib.hid (show takeL rb.data.toList = (m, r2, c) by rw [hrb]; exact H2.out)
    rw [← hrb] at HRS ⊢
    clear hrb
    go_wp2_with (fail)
    refine (cited_any rb m r2 c w1 HRS.out H2'.out).mono ?_
    rintro e w2 ⟨rfl, hb⟩
    replace HB := Lib.hid (HB.out.trans hb); clear hb
    by_cases h2 : c = true ∧ m ≤ 1000000
    · obtain ⟨rfl, hm⟩ := h2
      rw [cited_yes hm]
      have HV := Lib.hid (citeV_some (show citeL s.data.toList = some (n, m) by rw [HCA.out, if_pos ⟨by first | rfl | trivial, by first | rfl | trivial, hn, hm⟩]))
      go_wp2_with (fail)
      go_ret3
      exact ⟨by rw [HV.out]; rfl, HB.out⟩
    · rw [cited_no h2]
      have HV := Lib.hid (citeV_none (show citeL s.data.toList = none by rw [HCA.out, if_neg (fun h => h2 ⟨h.2.1, h.2.2.2⟩)]))
      clear h2
      go_wp2_with (fail)
      go_ret3
      exact ⟨by rw [HV.out]; rfl, HB.out⟩
  · rw [cited_no h1]
    have HV := Lib.hid (citeV_none (show citeL s.data.toList = none by rw [HCA.out, if_neg (fun h => h1 ⟨h.1, h.2.2.1⟩)]))
    clear h1
    go_wp2_with (fail)
    go_ret3
    exact ⟨by rw [HV.out]; rfl, HB.out⟩

set_option maxHeartbeats 2000000 in
theorem pright_any (e : EB) (w : World) (hf : e.fits) (hv : e.v.size ≤ 1000000) :
    Calls Try.prog 25 #[.agg #[.string e.k, .int .i64 e.q, .bool e.d, .string e.v]] w fun r w' => r = .returned (.bool (rightB e)) ∧ Bel w w' := by
  obtain ⟨f1, f2, f3, f4⟩ := hf
  obtain ⟨k, q, d, v⟩ := e
  simp only at f1 f2 f3 f4 hv
  have HW := Lib.hid ((Bel.refl w).alloc (.cells #[.string k, .int .i64 q, .bool d, .string v] 33))
  by_cases h1 : k.size ≤ 1200
  · have h1' : (k.size : Int) ≤ 1200 := by omega
    by_cases h2 : 1 ≤ q
    · by_cases h3 : q ≤ 1099511627776
      · cases d with
        | true =>
          have HR := Lib.hid (show rightB ⟨k, q, true, v⟩ = v.toList.isEmpty by
            have hZ : decide (v.size = 0) = v.toList.isEmpty := by
              rw [ByteArray.toList_eq]
              have : v.data.toList.length = v.size := rfl
              cases h : v.data.toList with
              | nil => rw [h] at this; simp at this; rw [← this]; rfl
              | cons a l => rw [h] at this; simp at this; rw [← this]; simp
            unfold rightB
            rw [← hZ, decide_eq_true h1, decide_eq_true h2, decide_eq_true h3]
            simp only [Bool.true_and, if_true]
            by_cases h0 : v.size = 0
            · rw [decide_eq_true h0, decide_eq_true (by omega : v.size ≤ 25000)]; rfl
            · rw [decide_eq_false h0, Bool.and_false])
          go_enter Try.func25, Try.ntmps25
          go_wp2_with (fail)
          go_ret
          exact ⟨by rw [HR.out]; rfl, HW.out⟩
        | false =>
          have HC : ∃ x y : Int, citeV v.data.toList = .tuple #[.int .i64 x, .int .i64 y, .bool (citeL v.data.toList).isSome] := by
            cases h : citeL v.data.toList with
            | none => exact ⟨0, 0, citeV_none h⟩
            | some p => exact ⟨_, _, citeV_some h⟩
          obtain ⟨x, y, hC⟩ := HC
          have HC := Lib.hid hC; clear hC
          have HR := Lib.hid (show rightB ⟨k, q, false, v⟩ = (decide (v.size ≤ 25000) && (citeL v.data.toList).isSome) by
            unfold rightB
            rw [decide_eq_true h1, decide_eq_true h2, decide_eq_true h3]
            rfl)
          go_enter Try.func25, Try.ntmps25
          go_wp2_with (fail)
          refine (pcite_any v _ (by omega)).mono ?_
          rw [HC.out]
          rintro e w1 ⟨rfl, hb⟩
          have HB := Lib.hid (HW.out.trans hb)
          have c3 := cell_later hb (show (w.alloc (.cells #[.string k, .int .i64 q, .bool false, .string v] 33)).cell? ⟨w.heap.size, 3, none⟩ = some (.string v) from (World.cell?_alloc_new ..).trans (by simp))
          clear hb
          generalize (citeL v.data.toList).isSome = c at *
          have HD := Lib.hid (show decide ((v.size : Int) ≤ 25000) = decide (v.size ≤ 25000) from decide_eq_decide.2 (by omega))
          cases c with
          | false =>
            go_wp2_with (fail)
            go_ret
            exact ⟨by rw [HR.out, Bool.and_false]; rfl, HB.out⟩
          | true =>
            go_wp2_with (fail)
            go_ret
            exact ⟨by rw [HR.out, Bool.and_true, ← HD.out]; rfl, HB.out⟩
      · have HR := Lib.hid (right_no (e := ⟨k, q, d, v⟩) (fun h => h3 h.2.2.1))
        go_enter Try.func25, Try.ntmps25
        go_wp2_with (fail)
        go_ret
        exact ⟨by rw [HR.out]; rfl, HW.out⟩
    · have HR := Lib.hid (right_no (e := ⟨k, q, d, v⟩) (fun h => h2 h.2.1))
      go_enter Try.func25, Try.ntmps25
      go_wp2_with (fail)
      go_ret
      exact ⟨by rw [HR.out]; rfl, HW.out⟩
  · have h1' : ¬ (k.size : Int) ≤ 1200 := by omega
    have HR := Lib.hid (right_no (e := ⟨k, q, d, v⟩) (fun h => h1 h.1))
    go_enter Try.func25, Try.ntmps25
    go_wp2_with (fail)
    go_ret
    exact ⟨by rw [HR.out]; rfl, HW.out⟩

set_option maxHeartbeats 2000000 in
theorem pless_any (a b : EB) (w : World) :
    Calls Try.prog 24 #[.agg #[.string a.k, .int .i64 a.q, .bool a.d, .string a.v], .agg #[.string b.k, .int .i64 b.q, .bool b.d, .string b.v]] w fun r w' => r = .returned (.bool (lessB a b)) ∧ Bel w w' := by
  obtain ⟨k, q, d, v⟩ := a
  obtain ⟨m, p, c, u⟩ := b
  have HL := Lib.hid (show lessB ⟨k, q, d, v⟩ ⟨m, p, c, u⟩ = (Op.bytesLess k.toList m.toList || (k.toList == m.toList && decide (p < q))) by rw [ByteArray.toList_eq, ByteArray.toList_eq]; rfl)
  have HW := Lib.hid (((Bel.refl w).alloc (.cells #[.string k, .int .i64 q, .bool d, .string v] 33)).alloc (.cells #[.string m, .int .i64 p, .bool c, .string u] 33))
  have c0 : ((w.alloc (.cells #[.string k, .int .i64 q, .bool d, .string v] 33)).alloc (.cells #[.string m, .int .i64 p, .bool c, .string u] 33)).cell? ⟨w.heap.size, 0, none⟩ = some (.string k) := cell_later ((Bel.refl _).alloc _) ((World.cell?_alloc_new ..).trans (by simp))
  have c1 : ((w.alloc (.cells #[.string k, .int .i64 q, .bool d, .string v] 33)).alloc (.cells #[.string m, .int .i64 p, .bool c, .string u] 33)).cell? ⟨w.heap.size, 1, none⟩ = some (.int .i64 q) := cell_later ((Bel.refl _).alloc _) ((World.cell?_alloc_new ..).trans (by simp))
  cases he : (k.toList == m.toList) with
  | true =>
    have hkm : k = m := by
      rw [beq_iff_eq, ByteArray.toList_eq, ByteArray.toList_eq] at he
      exact ba_ext he
    subst hkm
    have hirr : Op.bytesLess k.toList k.toList = false := by rw [ByteArray.toList_eq]; exact less_irrefl _
    rw [he, hirr, Bool.false_or, Bool.true_and] at HL
    clear hirr
    go_enter Try.func24, Try.ntmps24
    go_wp2_with (fail)
    go_ret
    exact ⟨by rw [HL.out]; rfl, HW.out⟩
  | false =>
    rw [he, Bool.false_and, Bool.or_false] at HL
    go_enter Try.func24, Try.ntmps24
    go_wp2_with (fail)
    go_ret
    exact ⟨by rw [HL.out]; rfl, HW.out⟩
end Go.Proofs.Yteimllgoelleeaa
