/- TEl, MKit, MSmall, TRef1, MPlaysM, TRef2, TPBig, TRef3, TPLow, CSeq, laid together. -/
import Derived.Test.YteimllgoelleeaaGreatDoorZ4
import Derived.Test.YteimllgoelleeaaGreatDoorZ7
import Derived.Test.YteimllgoelleeaaGreatDoorZ6
import Derived.Test.YteimllgoelleeaaGreatDoorZ9
import Derived.Test.YteimllgoelleeaaGreatDoorZ10
import Derived.Laws.BitsAllLaws
import Derived.Deep.OwnRows
set_option linter.unusedSimpArgs false
set_option linter.unusedVariables false
/- Slices of entries, and of cites, that came in or that a call has made. -/
namespace Go.Proofs.YteimllgoelleeaaGreatDoor
open Go.RowKit Go.Deep

def EB.val (e : EB) : Value := .agg #[.string e.k, .int .i64 e.q, .bool e.d, .string e.v]
def entEl : El EB := ⟨30, 22, 4, fun e => [.string e.k, .int .i64 e.q, .bool e.d, .string e.v]⟩
theorem entOk : ElOk entEl 48 := ⟨fun _ => rfl, fun a u hu => by simp [entEl] at hu; rcases hu with rfl | rfl | rfl | rfl <;> rfl, by kernel_rfl, ⟨.agg #[.string ⟨#[]⟩, .int .i64 0, .bool false, .string ⟨#[]⟩], by kernel_rfl, rfl⟩, by decide⟩
def CT.val (c : CT) : Value := .agg #[.int .i64 (c.t : Int), .int .i64 (c.v : Int), .int .i64 (c.n : Int)]
def ctEl : El CT := ⟨86, 35, 3, fun c => [.int .i64 (c.t : Int), .int .i64 (c.v : Int), .int .i64 (c.n : Int)]⟩
theorem ctOk : ElOk ctEl 24 := ⟨fun _ => rfl, fun a u hu => by simp [ctEl] at hu; rcases hu with rfl | rfl | rfl <;> rfl, by kernel_rfl, ⟨.agg #[.int .i64 0, .int .i64 0, .int .i64 0], by kernel_rfl, rfl⟩, by decide⟩
def EntAt (w : World) (a : Addr) (e : EB) : Prop := ∃ B O sp, a = ⟨B, O, sp⟩ ∧ w.cell? ⟨B, O, sp⟩ = some (.string e.k) ∧ w.cell? ⟨B, O + 1, none⟩ = some (.int .i64 e.q) ∧ w.cell? ⟨B, O + 2, none⟩ = some (.bool e.d) ∧ w.cell? ⟨B, O + 3, none⟩ = some (.string e.v)
def CtAt (w : World) (a : Addr) (c : CT) : Prop := ∃ B O sp, a = ⟨B, O, sp⟩ ∧ w.cell? ⟨B, O, sp⟩ = some (.int .i64 (c.t : Int)) ∧ w.cell? ⟨B, O + 1, none⟩ = some (.int .i64 (c.v : Int)) ∧ w.cell? ⟨B, O + 2, none⟩ = some (.int .i64 (c.n : Int))
theorem blk_of_cell {w : World} {a : Addr} {v : Value} (h : w.cell? a = some v) : a.block < w.heap.size := World.block_lt_of_cell? _ _ h
theorem EntAt.bel {w x : World} {a : Addr} {e : EB} (h : EntAt w a e) (hb : Bel w x) : EntAt x a e := by
  obtain ⟨B, O, sp, h0, c0, c1, c2, c3⟩ := h
  exact ⟨B, O, sp, h0, (Below.cell hb (blk_of_cell c0)).trans c0, (Below.cell hb (blk_of_cell c1)).trans c1, (Below.cell hb (blk_of_cell c2)).trans c2, (Below.cell hb (blk_of_cell c3)).trans c3⟩
theorem EntAt.keep {w x : World} {a : Addr} {e : EB} {F : List Nat} (h : EntAt w a e) (hk : Keep F w x) (hF : a.block ∉ F) : EntAt x a e := by
  obtain ⟨B, O, sp, h0, c0, c1, c2, c3⟩ := h
  subst h0
  exact ⟨B, O, sp, rfl, hk.cell c0 hF, hk.cell c1 hF, hk.cell c2 hF, hk.cell c3 hF⟩
theorem CtAt.bel {w x : World} {a : Addr} {c : CT} (h : CtAt w a c) (hb : Bel w x) : CtAt x a c := by
  obtain ⟨B, O, sp, h0, c0, c1, c2⟩ := h
  exact ⟨B, O, sp, h0, (Below.cell hb (blk_of_cell c0)).trans c0, (Below.cell hb (blk_of_cell c1)).trans c1, (Below.cell hb (blk_of_cell c2)).trans c2⟩
def EntsAt (w : World) (p : Option Addr) (L : List EB) : Prop := ∀ i (h : i < L.length), ∃ a, p = some a ∧ EntAt w (a.add (i * 4)) L[i]
def CtsAt (w : World) (p : Option Addr) (L : List CT) : Prop := ∀ i (h : i < L.length), ∃ a, p = some a ∧ CtAt w (a.add (i * 3)) L[i]
theorem EntsAt.get {w : World} {p : Option Addr} {L : List EB} (h : EntsAt w p L) {i : Nat} (hi : i < L.length) : ∃ a e, p = some a ∧ e = L[i] ∧ ∃ B O sp, a.add (i * 4) = ⟨B, O, sp⟩ ∧ w.cell? ⟨B, O, sp⟩ = some (.string e.k) ∧ w.cell? ⟨B, O + 1, none⟩ = some (.int .i64 e.q) ∧ w.cell? ⟨B, O + 2, none⟩ = some (.bool e.d) ∧ w.cell? ⟨B, O + 3, none⟩ = some (.string e.v) := by
  obtain ⟨a, ha, h1⟩ := h i hi
  exact ⟨a, _, ha, rfl, h1⟩
theorem CtsAt.get {w : World} {p : Option Addr} {L : List CT} (h : CtsAt w p L) {i : Nat} (hi : i < L.length) : ∃ a c, p = some a ∧ c = L[i] ∧ ∃ B O sp, a.add (i * 3) = ⟨B, O, sp⟩ ∧ w.cell? ⟨B, O, sp⟩ = some (.int .i64 (c.t : Int)) ∧ w.cell? ⟨B, O + 1, none⟩ = some (.int .i64 (c.v : Int)) ∧ w.cell? ⟨B, O + 2, none⟩ = some (.int .i64 (c.n : Int)) := by
  obtain ⟨a, ha, h1⟩ := h i hi
  exact ⟨a, _, ha, rfl, h1⟩
theorem EntsAt.bel {w x : World} {p : Option Addr} {L : List EB} (h : EntsAt w p L) (hb : Bel w x) : EntsAt x p L := fun i hi => by
  obtain ⟨a, ha, hc⟩ := h i hi
  exact ⟨a, ha, hc.bel hb⟩
theorem CtsAt.bel {w x : World} {p : Option Addr} {L : List CT} (h : CtsAt w p L) (hb : Bel w x) : CtsAt x p L := fun i hi => by
  obtain ⟨a, ha, hc⟩ := h i hi
  exact ⟨a, ha, hc.bel hb⟩
theorem EntsAt.nil (w : World) (p : Option Addr) : EntsAt w p [] := fun i hi => by simp at hi
theorem CtsAt.nil (w : World) (p : Option Addr) : CtsAt w p [] := fun i hi => by simp at hi
theorem ownG_ents {B : Nat} {w : World} {v : Value} {L : List EB} (h : OwnG entEl B w v L) : ∃ p cap, v = .slice p L.length cap ∧ EntsAt w p L := by
  by_cases hL : L = []
  · subst hL
    obtain ⟨p, cap, hv⟩ := ownG_len h
    exact ⟨p, cap, hv, EntsAt.nil _ _⟩
  · obtain ⟨g, cap, hv, _, _, _, hc'⟩ := ownG_cells entOk h hL
    refine ⟨_, cap, hv, fun i hi => ⟨_, rfl, g, i * 4, none, ?_, ?_, ?_, ?_, ?_⟩⟩
    · by_cases h0 : i * 4 = 0
      · rw [h0]; rfl
      · simp [Addr.add, h0]
    · exact hc' i L[i] (List.getElem?_eq_getElem hi) 0 _ rfl
    · exact hc' i L[i] (List.getElem?_eq_getElem hi) 1 _ rfl
    · exact hc' i L[i] (List.getElem?_eq_getElem hi) 2 _ rfl
    · exact hc' i L[i] (List.getElem?_eq_getElem hi) 3 _ rfl
theorem ownG_cts {B : Nat} {w : World} {v : Value} {L : List CT} (h : OwnG ctEl B w v L) : ∃ p cap, v = .slice p L.length cap ∧ CtsAt w p L := by
  by_cases hL : L = []
  · subst hL
    obtain ⟨p, cap, hv⟩ := ownG_len h
    exact ⟨p, cap, hv, CtsAt.nil _ _⟩
  · obtain ⟨g, cap, hv, _, _, _, hc'⟩ := ownG_cells ctOk h hL
    refine ⟨_, cap, hv, fun i hi => ⟨_, rfl, g, i * 3, none, ?_, ?_, ?_, ?_⟩⟩
    · by_cases h0 : i * 3 = 0
      · rw [h0]; rfl
      · simp [Addr.add, h0]
    · exact hc' i L[i] (List.getElem?_eq_getElem hi) 0 _ rfl
    · exact hc' i L[i] (List.getElem?_eq_getElem hi) 1 _ rfl
    · exact hc' i L[i] (List.getElem?_eq_getElem hi) 2 _ rfl
def fitsL (L : List EB) : Prop := ∀ e ∈ L, e.fits
theorem fits_at {L : List EB} (h : fitsL L) {i : Nat} (hi : i < L.length) : L[i].fits := h _ (List.getElem_mem hi)
end Go.Proofs.YteimllgoelleeaaGreatDoor
/- What the laws of chapter 11 want of a memory: where it lies (At: its blocks F, the entries C that it holds), and what its calls answer; and the reference's memory in the same words. -/
namespace Go.Proofs.YteimllgoelleeaaGreatDoor
open Go.RowKit Go.Deep

def getM : Option EB → Value
  | some e => .tuple #[.agg #[.string e.k, .int .i64 e.q, .bool e.d, .string e.v], .bool true]
  | none => .tuple #[.agg #[.string ⟨#[]⟩, .int .i64 0, .bool false, .string ⟨#[]⟩], .bool false]
def Holds (C : List EB) : Prop := standB C = true ∧ C.length ≤ 1000
theorem holds_fits {C : List EB} (h : Holds C) : fitsL C := fun e he => by
  have hr := stand_right h.1 e he
  unfold rightB at hr
  rw [Bool.and_eq_true, Bool.and_eq_true, Bool.and_eq_true, Bool.and_eq_true, decide_eq_true_iff, decide_eq_true_iff, decide_eq_true_iff, decide_eq_true_iff] at hr
  obtain ⟨⟨⟨⟨h1, h2⟩, h3⟩, h4⟩, -⟩ := hr
  exact ⟨by omega, by omega, by omega, by omega⟩
structure MK where
  At : World → Nat → List Nat → List EB → Prop
  Ok : World → Prop
  okBel : ∀ {w x : World}, Ok w → Bel w x → Ok x
  lt : ∀ {w : World} {b : Nat} {F : List Nat} {C : List EB}, At w b F C → ∀ k ∈ F, k < w.heap.size
  keep : ∀ {w x : World} {b : Nat} {F G : List Nat} {C : List EB}, At w b F C → Keep G w x → (∀ k ∈ F, k ∉ G) → At x b F C
  new : ∀ (w : World), Ok w → Calls Tryz.prog 6 #[] w fun e w' => ∃ b F, e = .returned (.pointer (some ⟨b, 0, none⟩)) ∧ At w' b F [] ∧ (∀ k ∈ F, w.heap.size ≤ k) ∧ Bel w w'
  add : ∀ (b : Nat) (F : List Nat) (C : List EB) (e : EB) (w : World), At w b F C → Holds C → e.fits → e.v.size ≤ 1000000 →
    Calls Tryz.prog 7 #[.pointer (some ⟨b, 0, none⟩), .agg #[.string e.k, .int .i64 e.q, .bool e.d, .string e.v]] w fun r w' => ∃ F', r = .returned (.int .i64 (errM C e)) ∧ At w' b F' (stepS C e) ∧ (∀ k ∈ F', k ∈ F ∨ w.heap.size ≤ k) ∧ Keep F w w'
  get : ∀ (b : Nat) (F : List Nat) (C : List EB) (key : ByteArray) (q : Int) (w : World), At w b F C → Holds C →
    Calls Tryz.prog 13 #[.pointer (some ⟨b, 0, none⟩), .string key, .int .i64 q] w fun r w' => r = .returned (getM (getE key.data.toList q C)) ∧ Bel w w'
  between : ∀ (b : Nat) (F : List Nat) (C : List EB) (f t : ByteArray) (w : World), At w b F C → Holds C →
    Calls Tryz.prog 8 #[.pointer (some ⟨b, 0, none⟩), .string f, .string t] w fun r w' => ∃ v, r = .returned v ∧ OwnG entEl w.heap.size w' v (betE f.data.toList t.data.toList C) ∧ Bel w w'
  len : ∀ (b : Nat) (F : List Nat) (C : List EB) (w : World), At w b F C → Holds C →
    Calls Tryz.prog 10 #[.pointer (some ⟨b, 0, none⟩)] w fun r w' => r = .returned (.int .i64 (C.length : Nat)) ∧ Bel w w'
  cites : ∀ (b : Nat) (F : List Nat) (C : List EB) (w : World), At w b F C → Holds C →
    Calls Tryz.prog 11 #[.pointer (some ⟨b, 0, none⟩)] w fun r w' => ∃ v, r = .returned v ∧ OwnG ctEl w.heap.size w' v (citesB C) ∧ Bel w w'
section
variable (K : MK) {W w x : World} {b : Nat} {F : List Nat} {C : List EB}
theorem MK.bel (h : K.At w b F C) (hb : Bel w x) : K.At x b F C := K.keep h (Keep.of_bel hb []) (fun _ _ hm => by cases hm)
theorem keep_new (h : Keep F w x) (hW : Bel W w) (hF : ∀ k ∈ F, W.heap.size ≤ k) : Bel W x :=
  ((Keep.of_bel hW F).trans h (fun k hk => Or.inl hk)).bel hF
theorem new_low {F' : List Nat} (hn : ∀ k ∈ F', k ∈ F ∨ w.heap.size ≤ k) (hW : Bel W w) (hF : ∀ k ∈ F, W.heap.size ≤ k) : ∀ k ∈ F', W.heap.size ≤ k := fun k hk => by
  rcases hn k hk with h | h
  · exact hF k h
  · have := hW.size; omega
end
def Apart (F G : List Nat) : Prop := ∀ k ∈ F, k ∉ G
theorem Apart.symm {F G : List Nat} (h : Apart F G) : Apart G F := fun k hk hf => h k hf hk
theorem Apart.grow {F F' G : List Nat} {w : World} (h : Apart F G) (hn : ∀ k ∈ F', k ∈ F ∨ w.heap.size ≤ k) (hG : ∀ k ∈ G, k < w.heap.size) : Apart F' G := fun k hk hg => by
  rcases hn k hk with h1 | h1
  · exact h k h1 hg
  · have := hG k hg; omega
end Go.Proofs.YteimllgoelleeaaGreatDoor
/- moultlaw11.same, sameCites, small. -/
namespace Go.Proofs.YteimllgoelleeaaGreatDoor
open Go.RowKit Go.Deep

set_option maxHeartbeats 2000000 in
theorem same11_any (p q : Option Addr) (cap cap' : Nat) (L : List EB) (w : World) (h : EntsAt w p L) (h' : EntsAt w q L) (hL : L.length ≤ 1000000) :
    Calls Tryz.prog 15 #[.slice p L.length cap, .slice q L.length cap'] w fun e w' => e = .returned (.bool true) ∧ Drw w w' := by
  have H := Lib.hid h; clear h
  have H' := Lib.hid h'; clear h'
  go_enter Tryz.func15, Tryz.ntmps15
  go_wp2_with (fail)
  go_loopw [5] (fun i x => (∃ k : Nat, k ≤ L.length ∧ i = .int .i64 k) ∧ Drw w x) (fun i _ => L.length - (intOf i).toNat)
  case atStart => exact ⟨⟨0, Nat.zero_le _, rfl⟩, Drw.refl w⟩
  case round =>
    obtain ⟨⟨k, hk, rfl⟩, hw⟩ := hrel
    have HW := Lib.hid hw; clear hw
    by_cases hlt : k < L.length
    · obtain ⟨a, e0, rfl, he0, B, O, sp, ha, c0, c1, c2, c3⟩ := (H.out.bel HW.out.bel).get hlt
      obtain ⟨a', e1, rfl, he1, B', O', sp', ha', d0, d1, d2, d3⟩ := (H'.out.bel HW.out.bel).get hlt
      have he : e1 = e0 := he1.trans he0.symm
      subst he
      clear he0 he1
      go_wp2_with (fail)
      go_quiet (fail)
      go_wp2_with (fail)
      go_roundw
      case rel => exact ⟨⟨k + 1, hlt, by go_num⟩, HW.out.drewN _⟩
      case measure => simp [intOf]; omega
    · go_wp2_with (fail)
      go_ret
      exact ⟨rfl, HW.out⟩
set_option maxHeartbeats 2000000 in
theorem samecites11_any (p q : Option Addr) (cap cap' : Nat) (L : List CT) (w : World) (h : CtsAt w p L) (h' : CtsAt w q L) (hL : L.length ≤ 1000000) :
    Calls Tryz.prog 17 #[.slice p L.length cap, .slice q L.length cap'] w fun e w' => e = .returned (.bool true) ∧ Drw w w' := by
  have H := Lib.hid h; clear h
  have H' := Lib.hid h'; clear h'
  go_enter Tryz.func17, Tryz.ntmps17
  go_wp2_with (fail)
  go_loopw [5] (fun i x => (∃ k : Nat, k ≤ L.length ∧ i = .int .i64 k) ∧ Drw w x) (fun i _ => L.length - (intOf i).toNat)
  case atStart => exact ⟨⟨0, Nat.zero_le _, rfl⟩, Drw.refl w⟩
  case round =>
    obtain ⟨⟨k, hk, rfl⟩, hw⟩ := hrel
    have HW := Lib.hid hw; clear hw
    by_cases hlt : k < L.length
    · obtain ⟨a, e0, rfl, he0, B, O, sp, ha, c0, c1, c2⟩ := (H.out.bel HW.out.bel).get hlt
      obtain ⟨a', e1, rfl, he1, B', O', sp', ha', d0, d1, d2⟩ := (H'.out.bel HW.out.bel).get hlt
      have he : e1 = e0 := he1.trans he0.symm
      subst he
      clear he0 he1
      go_wp2_with (fail)
      go_quiet (fail)
      go_wp2_with (fail)
      go_roundw
      case rel => exact ⟨⟨k + 1, hlt, by go_num⟩, HW.out.drewN _⟩
      case measure => simp [intOf]; omega
    · go_wp2_with (fail)
      go_ret
      exact ⟨rfl, HW.out⟩
def Small11 (L : List EB) : Prop := L.length ≤ 100 ∧ ∀ i (h : i < L.length), L[i].k.size ≤ 1500 ∧ L[i].v.size ≤ 2000
set_option maxHeartbeats 2000000 in
theorem small11_any (p : Option Addr) (cap : Nat) (L : List EB) (w : World) (h : EntsAt w p L) (hL : L.length ≤ 9223372036854775807) (hf : fitsL L) :
    Calls Tryz.prog 5 #[.slice p L.length cap] w fun e w' => Drw w w' ∧ ((Small11 L ∧ e = .returned (.bool true)) ∨ e = .returned (.bool false)) := by
  have H := Lib.hid h; clear h
  have HF := Lib.hid hf; clear hf
  by_cases h2 : L.length ≤ 100
  · have h2' : (L.length : Int) ≤ 100 := by omega
    go_enter Tryz.func5, Tryz.ntmps5
    go_wp2_with (fail)
    go_loopw [3] (fun i x => (∃ k : Nat, k ≤ L.length ∧ i = .int .i64 k ∧ ∀ j (h : j < L.length), j < k → L[j].k.size ≤ 1500 ∧ L[j].v.size ≤ 2000) ∧ Drw w x) (fun i _ => L.length - (intOf i).toNat)
    case atStart => exact ⟨⟨0, Nat.zero_le _, rfl, fun j _ h => by omega⟩, Drw.refl w⟩
    case round =>
      obtain ⟨⟨k, hk, rfl, hall⟩, hw⟩ := hrel
      have HA := Lib.hid hall; clear hall
      have HW := Lib.hid hw; clear hw
      by_cases hlt : k < L.length
      · obtain ⟨a, e0, rfl, he0, B, O, sp, ha, c0, c1, c2, c3⟩ := (H.out.bel HW.out.bel).get hlt
        have hfit : e0.fits := by rw [he0]; exact fits_at HF.out hlt
        obtain ⟨f1, f2, f3, f4⟩ := hfit
        have HE0 := Lib.hid he0
        clear he0
        by_cases h3 : e0.k.size ≤ 1500
        · have h3' : (e0.k.size : Int) ≤ 1500 := by omega
          by_cases h4 : e0.v.size ≤ 2000
          · have h4' : (e0.v.size : Int) ≤ 2000 := by omega
            have HA2 := Lib.hid (show ∀ j (h : j < L.length), j < k + 1 → L[j].k.size ≤ 1500 ∧ L[j].v.size ≤ 2000 from fun j h hj => by
              by_cases e : j = k
              · subst e; have g1 := congrArg EB.k HE0.out; have g2 := congrArg EB.v HE0.out; exact ⟨by rw [← g1]; exact h3, by rw [← g2]; exact h4⟩
              · exact HA.out j h (by omega))
            go_wp2_with (fail)
            go_roundw
            case rel => exact ⟨⟨k + 1, hlt, by go_num, HA2.out⟩, HW.out⟩
            case measure => simp [intOf]; omega
          · have h4' : ¬ (e0.v.size : Int) ≤ 2000 := by omega
            go_wp2_with (fail)
            go_ret
            exact ⟨HW.out, Or.inr rfl⟩
        · have h3' : ¬ (e0.k.size : Int) ≤ 1500 := by omega
          go_wp2_with (fail)
          go_ret
          exact ⟨HW.out, Or.inr rfl⟩
      · go_wp2_with (fail)
        go_ret
        exact ⟨HW.out, Or.inl ⟨⟨h2, fun j h => HA.out j h (by omega)⟩, rfl⟩⟩
  · have h2' : ¬ (L.length : Int) ≤ 100 := by omega
    go_enter Tryz.func5, Tryz.ntmps5
    go_wp2_with (fail)
    go_ret
    exact ⟨Drw.refl w, Or.inr rfl⟩
end Go.Proofs.YteimllgoelleeaaGreatDoor
/- moultref10.Cite, Right, Less. -/
namespace Go.Proofs.YteimllgoelleeaaGreatDoor
open Go.RowKit Go.Deep

def citeV (s : List UInt8) : Value := match citeL s with
  | none => .tuple #[.int .i64 0, .int .i64 0, .bool false]
  | some (a, b) => .tuple #[.int .i64 (a : Nat), .int .i64 (b : Nat), .bool true]
theorem citeV_none {s : List UInt8} (h : citeL s = none) : citeV s = .tuple #[.int .i64 0, .int .i64 0, .bool false] := by unfold citeV; rw [h]
theorem citeV_some {s : List UInt8} {a b : Nat} (h : citeL s = some (a, b)) : citeV s = .tuple #[.int .i64 (a : Nat), .int .i64 (b : Nat), .bool true] := by unfold citeV; rw [h]
theorem mk_size10 (l : List UInt8) : (⟨l.toArray⟩ : ByteArray).size = l.length := by show l.toArray.size = _; rw [List.size_toArray]
theorem take_rest10 {s : ByteArray} {n : Nat} {r : List UInt8} {b : Bool} (hs : s.size ≤ 1000000) (h : takeL s.data.toList = (n, r, b)) : (⟨r.toArray⟩ : ByteArray).size ≤ 1000000 := by
  have hr := take_rest s.data.toList
  rw [h] at hr
  have hl : s.data.toList.length = s.size := rfl
  rw [mk_size10]
  simp only [] at hr
  omega
theorem cite_as {s r : List UInt8} {n m : Nat} {r2 : List UInt8} {b c : Bool} (h : takeL s = (n, r, b)) (h2 : takeL r = (m, r2, c)) : citeL s = if b = true ∧ c = true ∧ n ≤ 1000000 ∧ m ≤ 1000000 then some (n, m) else none := by
  unfold citeL
  rw [h]
  simp only []
  rw [h2]
theorem right_no {e : EB} (h : ¬ (e.k.size ≤ 1200 ∧ 1 ≤ e.q ∧ e.q ≤ 1099511627776 ∧ e.v.size ≤ 25000)) : rightB e = false := by
  cases hr : rightB e with
  | false => rfl
  | true => exact absurd (by have := right_parts hr; exact ⟨this.1, this.2.1, this.2.2.1, this.2.2.2.1⟩) h
end Go.Proofs.YteimllgoelleeaaGreatDoor
/- What a Get hands back, in one form for both answers. -/
namespace Go.Proofs.YteimllgoelleeaaGreatDoor
open Go.RowKit Go.Deep
def gotB (o : Option EB) : EB := o.getD ⟨⟨#[]⟩, 0, false, ⟨#[]⟩⟩
theorem getM_is (o : Option EB) : getM o = .tuple #[.agg #[.string (gotB o).k, .int .i64 (gotB o).q, .bool (gotB o).d, .string (gotB o).v], .bool o.isSome] := by cases o <;> rfl
end Go.Proofs.YteimllgoelleeaaGreatDoor
/- moultref10.Inner, Outer. -/
namespace Go.Proofs.YteimllgoelleeaaGreatDoor
open Go.RowKit Go.Deep

theorem wrap10_u64 (x : Int) : IntKind.u64.wrap x = x % 18446744073709551616 := by simp [IntKind.wrap, IntKind.bits, IntKind.signed]
end Go.Proofs.YteimllgoelleeaaGreatDoor
/- table.big, table.sum: a number in eight bytes, and the number of some bytes. -/
namespace Go.Proofs.YteimllgoelleeaaGreatDoor
open Go.RowKit Go.Deep

theorem bigL_get10 : ∀ (sz n j : Nat), j < sz → (bigL n sz)[j]? = some (UInt8.ofNat (n / 256 ^ (sz - 1 - j) % 256))
  | 0, n, j, h => by omega
  | sz + 1, n, 0, h => by rw [bigL_cons]; simp
  | sz + 1, n, j + 1, h => by
    rw [bigL_cons, List.getElem?_cons_succ, bigL_get10 sz n j (by omega)]
    have e : sz - 1 - j = sz + 1 - 1 - (j + 1) := by omega
    rw [e]
theorem shr_byte10 (n k : Nat) : (n : Int) / 2 ^ (8 * k) % 256 = ((n / 256 ^ k % 256 : Nat) : Int) := by
  have e : (2 : Int) ^ (8 * k) = ((256 ^ k : Nat) : Int) := by rw [Int.pow_mul]; simp
  rw [e]; simp
def Big8Rel (n : Nat) (w : World) (i : Value) (x : World) : Prop := ∃ k : Nat, k ≤ 8 ∧ i = .int .i64 k ∧
  x.rowIs w.heap.size 201 8 (fun j => if 8 - k ≤ j then .int .u8 ((n / 256 ^ (8 - 1 - j) % 256 : Nat) : Int) else .int .u8 0) ∧ Bel w x

set_option maxHeartbeats 2000000 in
theorem big8_any (n : Nat) (w : World) (hn : n ≤ 9223372036854775807) :
    Calls Tryz.prog 97 #[.int .i64 n] w fun e w' => e = .returned (.string ⟨(bigL n 8).toArray⟩) ∧ Bel w w' := by
  go_enter Tryz.func97, Tryz.ntmps97
  go_wp2
  go_loopw [5] (fun i x => Big8Rel n w i x) (fun i _ => 8 - (intOf i).toNat)
  case atStart =>
    refine ⟨0, Nat.zero_le _, rfl, (World.rowIs_alloc w _ 201 (fun _ => .int .u8 0) (fun i hi => ?_)).congr fun j hj => by rw [if_neg (by have : j < 8 := hj; omega)], (Bel.refl w).alloc _⟩
    have h8 : i = 0 ∨ i = 1 ∨ i = 2 ∨ i = 3 ∨ i = 4 ∨ i = 5 ∨ i = 6 ∨ i = 7 := by have h8 : i < 8 := hi; omega
    rcases h8 with rfl | rfl | rfl | rfl | rfl | rfl | rfl | rfl <;> rfl
  case round =>
    obtain ⟨k, hk, rfl, hrow, hb⟩ := hrel
    have HR := Lib.hid hrow; clear hrow
    have HB := Lib.hid hb; clear hb
    by_cases hlt : k < 8
    · obtain ⟨j, hj⟩ : ∃ j, j = 7 - k := ⟨_, rfl⟩
      have hjk : (7 : Int) - (k : Int) = (j : Int) := by omega
      have hj8 : j < 8 := by omega
      have hkj : k = 7 - j := by omega
      have hc := HR.out.cell (i := j) (by omega)
      have hf := HR.out.frozen j
      have hkj' := Lib.hid hkj
      clear hj hkj
      go_wp2
      go_roundw
      case rel =>
        refine ⟨k + 1, by omega, by go_num, ?_, HB.out.setCell (Nat.le_refl _) _⟩
        have hkj := hkj'.out
        refine (HR.out.set j _).congr fun i hi => ?_
        by_cases he : i = j
        · subst he
          rw [if_pos rfl, if_pos (by omega), shr_byte10]
          have e : 8 - 1 - i = k := by omega
          rw [e]
        · rw [if_neg he]
          by_cases hp : 8 - k ≤ i
          · rw [if_pos hp, if_pos (by omega)]
          · rw [if_neg hp, if_neg (by omega)]
      case measure => simp [intOf]; omega
    · obtain rfl : k = 8 := by omega
      have hcv : (convert 64 9 (.slice (some ⟨w.heap.size, 0, none⟩) 8 8)).run Tryz.prog wr = .ok (.string ⟨(bigL n 8).toArray⟩) wr := by
        have h0 := run_convert_bytes_back wr 64 9 5 ⟨w.heap.size, 0, none⟩ 8 (bigL n 8) Tryz.underlying64 Tryz.underlying5 Tryz.underlying9 (fun j hj => by
          rw [bigL_len] at hj
          have e : (⟨w.heap.size, 0, none⟩ : Addr).add j = ⟨w.heap.size, j, none⟩ := by cases j <;> simp [Addr.add]
          have hg := bigL_get10 8 n j hj
          rw [List.getElem?_eq_getElem (by rw [bigL_len]; exact hj)] at hg
          rw [e, HR.out.cell hj, if_pos (by omega), Option.some.inj hg]
          simp)
        rw [bigL_len] at h0
        exact h0
      go_wp2
      go_ret
      exact ⟨rfl, HB.out⟩
theorem big8_at (n : Nat) (x : Int) (w : World) (hn : n ≤ 9223372036854775807) (hx : x = n) :
    Calls Tryz.prog 97 #[.int .i64 x] w fun e w' => e = .returned (.string ⟨(bigL n 8).toArray⟩) ∧ Bel w w' := by
  subst hx; exact big8_any n w hn

def sgn (n : Nat) : Int := if n < 9223372036854775808 then (n : Int) else (n : Int) - 18446744073709551616
theorem sgn_step (l : List UInt8) (b : UInt8) (hl : l.length < 8) : wrap64 (wrap64 (sgn (sumL l) * 256) + wrap64 (b.toNat : Int)) = sgn (sumL (l ++ [b])) := by
  have h1 := sumL_lt (l ++ [b])
  have h2 : (256 : Nat) ^ (l ++ [b]).length ≤ 256 ^ 8 := Nat.pow_le_pow_right (by omega) (by rw [List.length_append]; simp; omega)
  rw [pow8_256] at h2
  have h3 := b.toNat_lt
  rw [sumL_snoc] at h1 ⊢
  unfold wrap64 sgn
  split <;> split <;> omega
set_option maxHeartbeats 2000000 in
theorem sum8_any (s : ByteArray) (w : World) (hs : s.size ≤ 8) :
    Calls Tryz.prog 107 #[.string s] w fun e w' => e = .returned (.int .i64 (sgn (sumL s.data.toList))) ∧ Drw w w' := by
  have hsl : s.data.toList.length = s.size := rfl
  have HSL := Lib.hid hsl; clear hsl
  go_enter Tryz.func107, Tryz.ntmps107
  go_wp2
  go_loopw [3, 7] (fun v i x => (∃ k : Nat, k ≤ s.size ∧ i = .int .i64 k ∧ v = .int .i64 (sgn (sumL (s.data.toList.take k)))) ∧ Drw w x) (fun _ i _ => s.size - (intOf i).toNat)
  case atStart => exact ⟨⟨0, Nat.zero_le _, rfl, rfl⟩, Drw.refl _⟩
  case round =>
    obtain ⟨⟨k, hk, rfl, rfl⟩, hw⟩ := hrel
    have HW := Lib.hid hw; clear hw
    by_cases hlt : k < s.size
    · have HST := Lib.hid (sgn_step (s.data.toList.take k) s[k] (by rw [List.length_take, HSL.out]; omega))
      have HTK := Lib.hid (show s.data.toList.take (k + 1) = s.data.toList.take k ++ [s[k]] by
        rw [List.take_add_one]
        have e : s.data.toList[k]? = some s[k] := by rw [List.getElem?_eq_getElem (by rw [HSL.out]; exact hlt)]; rfl
        rw [e]; rfl)
      obtain ⟨c, hc⟩ : ∃ c, c = sgn (sumL (s.data.toList.take k)) := ⟨_, rfl⟩
      rw [← hc] at HST ⊢
      clear hc
      go_wp2
      go_roundw
      case rel =>
        refine ⟨⟨k + 1, hlt, by go_num, ?_⟩, HW.out⟩
        rw [HTK.out, ← HST.out]
      case measure => simp [intOf]; omega
    · obtain rfl : k = s.size := by omega
      have HTA := Lib.hid (show s.data.toList.take s.size = s.data.toList from List.take_of_length_le (by rw [HSL.out]; exact Nat.le_refl _))
      go_wp2
      go_ret
      exact ⟨by rw [HTA.out]; rfl, HW.out⟩
end Go.Proofs.YteimllgoelleeaaGreatDoor
/- moultref10.Outer. -/
namespace Go.Proofs.YteimllgoelleeaaGreatDoor
open Go.RowKit Go.Deep

theorem outer_parts {s k : List UInt8} {q : Nat} (h : OuterIs s k q) : 10 ≤ s.length ∧ s.take (s.length - 10) = escL k ∧ sumL (s.drop (s.length - 8)) = 9223372036854775807 - q := by
  obtain ⟨hq, rfl⟩ := h
  have hl := inner_len k q
  refine ⟨by omega, ?_, ?_⟩
  · rw [hl, Nat.add_sub_cancel]
    unfold innerL
    exact List.take_left' rfl
  · have e : innerL k q = (escL k ++ [0, 0]) ++ bigL (9223372036854775807 - q) 8 := by unfold innerL; simp
    rw [hl, show (escL k).length + 10 - 8 = (escL k ++ [0, 0]).length by simp]
    rw [e, List.drop_left' rfl, sum_big, pow8_256, Nat.mod_eq_of_lt (by omega)]
def OuterPost (s : List UInt8) (e : Ending) : Prop :=
  (∃ k q, OuterIs s k q ∧ e = .returned (.tuple #[.string ⟨k.toArray⟩, .int .i64 (q : Nat), .bool true])) ∨ ((¬ ∃ k q, OuterIs s k q) ∧ e = .returned (.tuple #[.string ⟨#[]⟩, .int .i64 0, .bool false]))
end Go.Proofs.YteimllgoelleeaaGreatDoor
/- The program's Cite, Right, Less. -/
namespace Go.Proofs.YteimllgoelleeaaGreatDoor
open Go.RowKit Go.Deep

theorem take_of (s : ByteArray) (n : Nat) (r : List UInt8) (b : Bool) (w : World) (hs : s.size ≤ 1000000) (h : takeL s.data.toList = (n, r, b)) :
    Calls Tryz.prog 83 #[.string s] w fun e w' => e = .returned (.tuple #[.int .u64 (n : Int), .string ⟨r.toArray⟩, .bool b]) ∧ Bel w w' := by
  refine (take_any s w hs).mono ?_
  rintro e w' ⟨rfl, hb⟩
  exact ⟨by unfold takeV; rw [h], hb⟩
def citedV (n : Nat) (r : List UInt8) (b : Bool) : Value := if b = true ∧ n ≤ 1000000 then .tuple #[.int .i64 (n : Nat), .string ⟨r.toArray⟩, .bool true] else .tuple #[.int .i64 0, .string ⟨#[]⟩, .bool false]
set_option maxHeartbeats 2000000 in
theorem cited_any (s : ByteArray) (n : Nat) (r : List UInt8) (b : Bool) (w : World) (hs : s.size ≤ 1000000) (h : takeL s.data.toList = (n, r, b)) :
    Calls Tryz.prog 56 #[.string s] w fun e w' => e = .returned (citedV n r b) ∧ Bel w w' := by
  have hn64 := take_lt s.data.toList
  rw [h] at hn64
  simp only [] at hn64
  have H1 := Lib.hid h; clear h
  go_enter Tryz.func56, Tryz.ntmps56
  go_wp2_with (fail)
  refine (take_of s n r b w hs H1.out).mono ?_
  rintro e w1 ⟨rfl, hb⟩
  have HB := Lib.hid hb; clear hb
  obtain ⟨rb, hrb⟩ : ∃ rb : ByteArray, rb = ⟨r.toArray⟩ := ⟨_, rfl⟩
  rw [← hrb]
  have HR := Lib.hid hrb; clear hrb
  cases b with
  | false =>
    have HV := Lib.hid (show citedV n r false = _ from if_neg (by simp))
    go_wp2_with (fail)
    go_ret3
    exact ⟨by rw [HV.out]; rfl, HB.out⟩
  | true =>
    by_cases hn : n ≤ 1000000
    · have HV := Lib.hid (show citedV n r true = _ from if_pos ⟨rfl, hn⟩)
      have hn' : (n : Int) ≤ 1000000 := by omega
      go_wp2_with (fail)
      go_ret3
      exact ⟨by rw [HV.out, ← HR.out]; rfl, HB.out⟩
    · have HV := Lib.hid (show citedV n r true = _ from if_neg (fun h => hn h.2))
      have hn' : ¬ (n : Int) ≤ 1000000 := by omega
      go_wp2_with (fail)
      go_ret3
      exact ⟨by rw [HV.out]; rfl, HB.out⟩
theorem cited_yes {n : Nat} {r : List UInt8} (hn : n ≤ 1000000) : citedV n r true = .tuple #[.int .i64 (n : Nat), .string ⟨r.toArray⟩, .bool true] := if_pos ⟨rfl, hn⟩
theorem cited_no {n : Nat} {r : List UInt8} {b : Bool} (h : ¬ (b = true ∧ n ≤ 1000000)) : citedV n r b = .tuple #[.int .i64 0, .string ⟨#[]⟩, .bool false] := if_neg h
set_option maxHeartbeats 2000000 in
theorem pcite_any (s : ByteArray) (w : World) (hs : s.size ≤ 1000000) :
    Calls Tryz.prog 29 #[.string s] w fun e w' => e = .returned (citeV s.data.toList) ∧ Bel w w' := by
  obtain ⟨n, r, b, h1⟩ : ∃ n r b, takeL s.data.toList = (n, r, b) := ⟨_, _, _, rfl⟩
  have hrs := take_rest10 hs h1
  obtain ⟨m, r2, c, h2⟩ : ∃ m r2 c, takeL (⟨r.toArray⟩ : ByteArray).data.toList = (m, r2, c) := ⟨_, _, _, rfl⟩
  have hca := cite_as h1 (show takeL r = (m, r2, c) from by rw [← h2])
  have HCA := Lib.hid hca; clear hca
  have H1 := Lib.hid h1; have H2 := Lib.hid h2
  have HRS := Lib.hid hrs
  clear h1 h2 hrs
  go_enter Tryz.func29, Tryz.ntmps29
  go_wp2_with (fail)
  refine (cited_any s n r b w hs H1.out).mono ?_
  rintro e w1 ⟨rfl, hb⟩
  have HB := Lib.hid hb; clear hb
  by_cases h1 : b = true ∧ n ≤ 1000000
  · obtain ⟨rfl, hn⟩ := h1
    rw [cited_yes hn]
    obtain ⟨rb, hrb⟩ : ∃ rb : ByteArray, rb = ⟨r.toArray⟩ := ⟨_, rfl⟩
    have H2' := Lib.hid (show takeL rb.data.toList = (m, r2, c) by rw [hrb]; exact H2.out)
    rw [← hrb] at HRS ⊢
    clear hrb
    go_wp2_with (fail)
    refine (cited_any rb m r2 c w1 HRS.out H2'.out).mono ?_
    rintro e w2 ⟨rfl, hb⟩
    replace HB := Lib.hid (HB.out.trans hb); clear hb
    by_cases h2 : c = true ∧ m ≤ 1000000
    · obtain ⟨rfl, hm⟩ := h2
      rw [cited_yes hm]
      have HV := Lib.hid (citeV_some (show citeL s.data.toList = some (n, m) by rw [HCA.out, if_pos ⟨by first | rfl | trivial, by first | rfl | trivial, hn, hm⟩]))
      go_wp2_with (fail)
      go_ret3
      exact ⟨by rw [HV.out]; rfl, HB.out⟩
    · rw [cited_no h2]
      have HV := Lib.hid (citeV_none (show citeL s.data.toList = none by rw [HCA.out, if_neg (fun h => h2 ⟨h.2.1, h.2.2.2⟩)]))
      clear h2
      go_wp2_with (fail)
      go_ret3
      exact ⟨by rw [HV.out]; rfl, HB.out⟩
  · rw [cited_no h1]
    have HV := Lib.hid (citeV_none (show citeL s.data.toList = none by rw [HCA.out, if_neg (fun h => h1 ⟨h.1, h.2.2.1⟩)]))
    clear h1
    go_wp2_with (fail)
    go_ret3
    exact ⟨by rw [HV.out]; rfl, HB.out⟩

set_option maxHeartbeats 2000000 in
theorem pright_any (e : EB) (w : World) (hf : e.fits) (hv : e.v.size ≤ 1000000) :
    Calls Tryz.prog 21 #[.agg #[.string e.k, .int .i64 e.q, .bool e.d, .string e.v]] w fun r w' => r = .returned (.bool (rightB e)) ∧ Bel w w' := by
  obtain ⟨f1, f2, f3, f4⟩ := hf
  obtain ⟨k, q, d, v⟩ := e
  simp only at f1 f2 f3 f4 hv
  have HW := Lib.hid ((Bel.refl w).alloc (.cells #[.string k, .int .i64 q, .bool d, .string v] 30))
  by_cases h1 : k.size ≤ 1200
  · have h1' : (k.size : Int) ≤ 1200 := by omega
    by_cases h2 : 1 ≤ q
    · by_cases h3 : q ≤ 1099511627776
      · cases d with
        | true =>
          have HR := Lib.hid (show rightB ⟨k, q, true, v⟩ = v.toList.isEmpty by
            have hZ : decide (v.size = 0) = v.toList.isEmpty := by
              rw [ByteArray.toList_eq]
              have : v.data.toList.length = v.size := rfl
              cases h : v.data.toList with
              | nil => rw [h] at this; simp at this; rw [← this]; rfl
              | cons a l => rw [h] at this; simp at this; rw [← this]; simp
            unfold rightB
            rw [← hZ, decide_eq_true h1, decide_eq_true h2, decide_eq_true h3]
            simp only [Bool.true_and, if_true]
            by_cases h0 : v.size = 0
            · rw [decide_eq_true h0, decide_eq_true (by omega : v.size ≤ 25000)]; rfl
            · rw [decide_eq_false h0, Bool.and_false])
          go_enter Tryz.func21, Tryz.ntmps21
          go_wp2_with (fail)
          go_ret
          exact ⟨by rw [HR.out]; rfl, HW.out⟩
        | false =>
          have HC : ∃ x y : Int, citeV v.data.toList = .tuple #[.int .i64 x, .int .i64 y, .bool (citeL v.data.toList).isSome] := by
            cases h : citeL v.data.toList with
            | none => exact ⟨0, 0, citeV_none h⟩
            | some p => exact ⟨_, _, citeV_some h⟩
          obtain ⟨x, y, hC⟩ := HC
          have HC := Lib.hid hC; clear hC
          have HR := Lib.hid (show rightB ⟨k, q, false, v⟩ = (decide (v.size ≤ 25000) && (citeL v.data.toList).isSome) by
            unfold rightB
            rw [decide_eq_true h1, decide_eq_true h2, decide_eq_true h3]
            rfl)
          go_enter Tryz.func21, Tryz.ntmps21
          go_wp2_with (fail)
          refine (pcite_any v _ (by omega)).mono ?_
          rw [HC.out]
          rintro e w1 ⟨rfl, hb⟩
          have HB := Lib.hid (HW.out.trans hb)
          have c3 := cell_later hb (show (w.alloc (.cells #[.string k, .int .i64 q, .bool false, .string v] 30)).cell? ⟨w.heap.size, 3, none⟩ = some (.string v) from (World.cell?_alloc_new ..).trans (by simp))
          clear hb
          generalize (citeL v.data.toList).isSome = c at *
          have HD := Lib.hid (show decide ((v.size : Int) ≤ 25000) = decide (v.size ≤ 25000) from decide_eq_decide.2 (by omega))
          cases c with
          | false =>
            go_wp2_with (fail)
            go_ret
            exact ⟨by rw [HR.out, Bool.and_false]; rfl, HB.out⟩
          | true =>
            go_wp2_with (fail)
            go_ret
            exact ⟨by rw [HR.out, Bool.and_true, ← HD.out]; rfl, HB.out⟩
      · have HR := Lib.hid (right_no (e := ⟨k, q, d, v⟩) (fun h => h3 h.2.2.1))
        go_enter Tryz.func21, Tryz.ntmps21
        go_wp2_with (fail)
        go_ret
        exact ⟨by rw [HR.out]; rfl, HW.out⟩
    · have HR := Lib.hid (right_no (e := ⟨k, q, d, v⟩) (fun h => h2 h.2.1))
      go_enter Tryz.func21, Tryz.ntmps21
      go_wp2_with (fail)
      go_ret
      exact ⟨by rw [HR.out]; rfl, HW.out⟩
  · have h1' : ¬ (k.size : Int) ≤ 1200 := by omega
    have HR := Lib.hid (right_no (e := ⟨k, q, d, v⟩) (fun h => h1 h.1))
    go_enter Tryz.func21, Tryz.ntmps21
    go_wp2_with (fail)
    go_ret
    exact ⟨by rw [HR.out]; rfl, HW.out⟩

set_option maxHeartbeats 2000000 in
theorem pless_any (a b : EB) (w : World) :
    Calls Tryz.prog 38 #[.agg #[.string a.k, .int .i64 a.q, .bool a.d, .string a.v], .agg #[.string b.k, .int .i64 b.q, .bool b.d, .string b.v]] w fun r w' => r = .returned (.bool (lessB a b)) ∧ Bel w w' := by
  obtain ⟨k, q, d, v⟩ := a
  obtain ⟨m, p, c, u⟩ := b
  have HL := Lib.hid (show lessB ⟨k, q, d, v⟩ ⟨m, p, c, u⟩ = (Op.bytesLess k.toList m.toList || (k.toList == m.toList && decide (p < q))) by rw [ByteArray.toList_eq, ByteArray.toList_eq]; rfl)
  have HW := Lib.hid (((Bel.refl w).alloc (.cells #[.string k, .int .i64 q, .bool d, .string v] 30)).alloc (.cells #[.string m, .int .i64 p, .bool c, .string u] 30))
  have c0 : ((w.alloc (.cells #[.string k, .int .i64 q, .bool d, .string v] 30)).alloc (.cells #[.string m, .int .i64 p, .bool c, .string u] 30)).cell? ⟨w.heap.size, 0, none⟩ = some (.string k) := cell_later ((Bel.refl _).alloc _) ((World.cell?_alloc_new ..).trans (by simp))
  have c1 : ((w.alloc (.cells #[.string k, .int .i64 q, .bool d, .string v] 30)).alloc (.cells #[.string m, .int .i64 p, .bool c, .string u] 30)).cell? ⟨w.heap.size, 1, none⟩ = some (.int .i64 q) := cell_later ((Bel.refl _).alloc _) ((World.cell?_alloc_new ..).trans (by simp))
  cases he : (k.toList == m.toList) with
  | true =>
    have hkm : k = m := by
      rw [beq_iff_eq, ByteArray.toList_eq, ByteArray.toList_eq] at he
      exact ba_ext he
    subst hkm
    have hirr : Op.bytesLess k.toList k.toList = false := by rw [ByteArray.toList_eq]; exact less_irrefl _
    rw [he, hirr, Bool.false_or, Bool.true_and] at HL
    clear hirr
    go_enter Tryz.func38, Tryz.ntmps38
    go_wp2_with (fail)
    go_ret
    exact ⟨by rw [HL.out]; rfl, HW.out⟩
  | false =>
    rw [he, Bool.false_and, Bool.or_false] at HL
    go_enter Tryz.func38, Tryz.ntmps38
    go_wp2_with (fail)
    go_ret
    exact ⟨by rw [HL.out]; rfl, HW.out⟩
end Go.Proofs.YteimllgoelleeaaGreatDoor
/- Slices of texts; what check.frames tells of some bytes (seqL), one frame or one error at a time; moultref5.Scan walked. -/
namespace Go.Proofs.YteimllgoelleeaaGreatDoor
open Go.RowKit Go.Deep

structure CF where
  t : List UInt8
  k : Nat
  e : Int
def seqF : Nat → List UInt8 → List CF
  | 0, _ => []
  | f + 1, s => if s = [] then [] else if (unframeL s).2.2 = 0 then ⟨(unframeL s).1, s.length - (unframeL s).2.1.length, 0⟩ :: seqF f (unframeL s).2.1 else [⟨[], 0, (unframeL s).2.2⟩]
def seqL (s : List UInt8) : List CF := seqF s.length s
theorem seq_fuel : ∀ (f g : Nat) (s : List UInt8), s.length ≤ f → s.length ≤ g → seqF f s = seqF g s
  | 0, 0, _, _, _ => rfl
  | 0, g + 1, s, h, _ => by
    obtain rfl : s = [] := List.eq_nil_of_length_eq_zero (by omega)
    rfl
  | f + 1, 0, s, _, h => by
    obtain rfl : s = [] := List.eq_nil_of_length_eq_zero (by omega)
    rfl
  | f + 1, g + 1, s, h, h' => by
    rw [seqF, seqF]
    by_cases h0 : (unframeL s).2.2 = 0
    · have := unframe_rest (s := s) (t := (unframeL s).1) (r := (unframeL s).2.1) (by rw [← h0])
      rw [seq_fuel f g (unframeL s).2.1 (by omega) (by omega)]
    · rw [if_neg h0, if_neg h0]
theorem seq_nil : seqL [] = [] := rfl
theorem seq_next {s t r : List UInt8} (h : unframeL s = (t, r, 0)) : seqL s = ⟨t, s.length - r.length, 0⟩ :: seqL r := by
  have hr := unframe_rest h
  have hs : s ≠ [] := by rintro rfl; simp at hr
  rw [seqL, show s.length = (s.length - 1) + 1 by omega, seqF, if_neg hs, h, if_pos rfl]
  simp only []
  rw [seq_fuel (s.length - 1) r.length r (by omega) (by omega), show s.length - 1 + 1 = s.length by omega]
  rfl
theorem seq_end {s t r : List UInt8} {e : Int} (hs : s ≠ []) (h : unframeL s = (t, r, e)) (he : e ≠ 0) : seqL s = [⟨[], 0, e⟩] := by
  have : 0 < s.length := List.length_pos_iff.2 hs
  rw [seqL, show s.length = (s.length - 1) + 1 by omega, seqF, if_neg hs, h, if_neg he]
def scanOf : List CF → List (List UInt8) × Nat × Int
  | [] => ([], 0, 0)
  | x :: l => if x.e = 0 then (x.t :: (scanOf l).1, x.k + (scanOf l).2.1, (scanOf l).2.2) else ([], 0, x.e)
theorem scan_seq : ∀ (n : Nat) (s : List UInt8), s.length ≤ n → scanL s = scanOf (seqL s)
  | 0, s, h => by
    obtain rfl : s = [] := List.eq_nil_of_length_eq_zero (by omega)
    rfl
  | n + 1, s, h => by
    by_cases h0 : s = []
    · subst h0; rfl
    obtain ⟨t, r, e, hu⟩ : ∃ t r e, unframeL s = (t, r, e) := ⟨_, _, _, rfl⟩
    by_cases he : e = 0
    · subst he
      have := unframe_rest hu
      rw [scan_next hu, seq_next hu, scan_seq n r (by omega), scanOf, if_pos rfl]
    · rw [scan_end h0 hu he, seq_end h0 hu he, scanOf, if_neg he]
def fine (l : List CF) : Prop := ∀ x ∈ l, x.e = 0
def payl (l : List CF) : List (List UInt8) := l.map CF.t
def sizes : List CF → Nat
  | [] => 0
  | x :: l => x.k + sizes l
theorem payl_snoc (l : List CF) (x : CF) : payl (l ++ [x]) = payl l ++ [x.t] := by simp [payl]
theorem sizes_snoc : ∀ (l : List CF) (x : CF), sizes (l ++ [x]) = sizes l + x.k
  | [], x => by simp [sizes]
  | y :: l, x => by rw [List.cons_append, sizes, sizes, sizes_snoc l x]; omega
theorem scan_fine : ∀ (l : List CF), fine l → scanOf l = (payl l, sizes l, 0)
  | [], _ => rfl
  | x :: l, h => by
    rw [scanOf, if_pos (h x (by simp)), scan_fine l (fun y hy => h y (by simp [hy]))]; rfl
theorem scan_bad : ∀ (l : List CF) (x : CF) (m : List CF), fine l → x.e ≠ 0 → scanOf (l ++ x :: m) = (payl l, sizes l, x.e)
  | [], x, m, _, hx => by rw [List.nil_append, scanOf, if_neg hx]; rfl
  | y :: l, x, m, h, hx => by
    rw [List.cons_append, scanOf, if_pos (h y (by simp)), scan_bad l x m (fun z hz => h z (by simp [hz])) hx]; rfl
theorem seq_len : ∀ (n : Nat) (s : List UInt8), s.length ≤ n → (seqL s).length ≤ s.length ∧ sizes (seqL s) ≤ s.length
  | 0, s, h => by
    obtain rfl : s = [] := List.eq_nil_of_length_eq_zero (by omega)
    simp [seq_nil, sizes]
  | n + 1, s, h => by
    by_cases h0 : s = []
    · subst h0; simp [seq_nil, sizes]
    have := List.length_pos_iff.2 h0
    obtain ⟨t, r, e, hu⟩ : ∃ t r e, unframeL s = (t, r, e) := ⟨_, _, _, rfl⟩
    by_cases he : e = 0
    · subst he
      have := unframe_rest hu
      have ih := seq_len n r (by omega)
      rw [seq_next hu, List.length_cons, sizes]
      simp only []
      omega
    · rw [seq_end h0 hu he]
      simp [sizes]; omega
theorem sizes_app : ∀ (l m : List CF), sizes (l ++ m) = sizes l + sizes m
  | [], m => by simp [sizes]
  | y :: l, m => by rw [List.cons_append, sizes, sizes, sizes_app l m]; omega
def ScanPost (s : List UInt8) (w : World) (e : Ending) (w' : World) : Prop :=
  ∃ v, e = .returned (.tuple #[v, .int .i64 ((scanL s).2.1 : Nat), .int .i64 (scanL s).2.2]) ∧ OwnG strEl w.heap.size w' v (scanL s).1 ∧ Bel w w'
def strLen : Value → Nat
  | .string s => s.size
  | _ => 0
theorem ne_nil (r : ByteArray) (h : r.size ≠ 0) : r.data.toList ≠ [] := by
  intro e
  have : r.data.toList.length = 0 := by rw [e]; rfl
  exact h this

end Go.Proofs.YteimllgoelleeaaGreatDoor
