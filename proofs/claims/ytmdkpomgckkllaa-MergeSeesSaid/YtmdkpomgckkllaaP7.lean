/- TEl, GKit, TRef1, GRef1, GRef2, GCut, GSmall, TPLow, laid together. -/
import Derived.Test.YtmdkpomgckkllaaP3
import Derived.Test.YtmdkpomgckkllaaP6
import Derived.Test.YtmdkpomgckkllaaP5
import Derived.Test.YtmdkpomgckkllaaP8
import Derived.Test.YtmdkpomgckkllaaP9
set_option linter.unusedSimpArgs false
set_option linter.unusedVariables false
/- Slices of entries, and of cites, that came in or that a call has made. -/
namespace Go.Proofs.Ytmdkpomgckkllaa
open Go.RowKit Go.Deep

def EB.val (e : EB) : Value := .agg #[.string e.k, .int .i64 e.q, .bool e.d, .string e.v]
def entEl : El EB := ⟨36, 27, 4, fun e => [.string e.k, .int .i64 e.q, .bool e.d, .string e.v]⟩
theorem entOk : ElOk entEl 48 := ⟨fun _ => rfl, fun a u hu => by simp [entEl] at hu; rcases hu with rfl | rfl | rfl | rfl <;> rfl, by kernel_rfl, ⟨.agg #[.string ⟨#[]⟩, .int .i64 0, .bool false, .string ⟨#[]⟩], by kernel_rfl, rfl⟩, by decide⟩
def CT.val (c : CT) : Value := .agg #[.int .i64 (c.t : Int), .int .i64 (c.v : Int), .int .i64 (c.n : Int)]
/-- At this place lies the entry e. -/
def EntAt (w : World) (a : Addr) (e : EB) : Prop := ∃ B O sp, a = ⟨B, O, sp⟩ ∧ w.cell? ⟨B, O, sp⟩ = some (.string e.k) ∧ w.cell? ⟨B, O + 1, none⟩ = some (.int .i64 e.q) ∧ w.cell? ⟨B, O + 2, none⟩ = some (.bool e.d) ∧ w.cell? ⟨B, O + 3, none⟩ = some (.string e.v)
def CtAt (w : World) (a : Addr) (c : CT) : Prop := ∃ B O sp, a = ⟨B, O, sp⟩ ∧ w.cell? ⟨B, O, sp⟩ = some (.int .i64 (c.t : Int)) ∧ w.cell? ⟨B, O + 1, none⟩ = some (.int .i64 (c.v : Int)) ∧ w.cell? ⟨B, O + 2, none⟩ = some (.int .i64 (c.n : Int))
theorem blk_of_cell {w : World} {a : Addr} {v : Value} (h : w.cell? a = some v) : a.block < w.heap.size := World.block_lt_of_cell? _ _ h
theorem EntAt.bel {w x : World} {a : Addr} {e : EB} (h : EntAt w a e) (hb : Bel w x) : EntAt x a e := by
  obtain ⟨B, O, sp, h0, c0, c1, c2, c3⟩ := h
  exact ⟨B, O, sp, h0, (Below.cell hb (blk_of_cell c0)).trans c0, (Below.cell hb (blk_of_cell c1)).trans c1, (Below.cell hb (blk_of_cell c2)).trans c2, (Below.cell hb (blk_of_cell c3)).trans c3⟩
theorem EntAt.keep {w x : World} {a : Addr} {e : EB} {F : List Nat} (h : EntAt w a e) (hk : Keep F w x) (hF : a.block ∉ F) : EntAt x a e := by
  obtain ⟨B, O, sp, h0, c0, c1, c2, c3⟩ := h
  subst h0
  exact ⟨B, O, sp, rfl, hk.cell c0 hF, hk.cell c1 hF, hk.cell c2 hF, hk.cell c3 hF⟩
theorem CtAt.bel {w x : World} {a : Addr} {c : CT} (h : CtAt w a c) (hb : Bel w x) : CtAt x a c := by
  obtain ⟨B, O, sp, h0, c0, c1, c2⟩ := h
  exact ⟨B, O, sp, h0, (Below.cell hb (blk_of_cell c0)).trans c0, (Below.cell hb (blk_of_cell c1)).trans c1, (Below.cell hb (blk_of_cell c2)).trans c2⟩
/-- The slice at p holds the entries L. -/
def EntsAt (w : World) (p : Option Addr) (L : List EB) : Prop := ∀ i (h : i < L.length), ∃ a, p = some a ∧ EntAt w (a.add (i * 4)) L[i]
def CtsAt (w : World) (p : Option Addr) (L : List CT) : Prop := ∀ i (h : i < L.length), ∃ a, p = some a ∧ CtAt w (a.add (i * 3)) L[i]
theorem EntsAt.get {w : World} {p : Option Addr} {L : List EB} (h : EntsAt w p L) {i : Nat} (hi : i < L.length) : ∃ a e, p = some a ∧ e = L[i] ∧ ∃ B O sp, a.add (i * 4) = ⟨B, O, sp⟩ ∧ w.cell? ⟨B, O, sp⟩ = some (.string e.k) ∧ w.cell? ⟨B, O + 1, none⟩ = some (.int .i64 e.q) ∧ w.cell? ⟨B, O + 2, none⟩ = some (.bool e.d) ∧ w.cell? ⟨B, O + 3, none⟩ = some (.string e.v) := by
  obtain ⟨a, ha, h1⟩ := h i hi
  exact ⟨a, _, ha, rfl, h1⟩
theorem CtsAt.get {w : World} {p : Option Addr} {L : List CT} (h : CtsAt w p L) {i : Nat} (hi : i < L.length) : ∃ a c, p = some a ∧ c = L[i] ∧ ∃ B O sp, a.add (i * 3) = ⟨B, O, sp⟩ ∧ w.cell? ⟨B, O, sp⟩ = some (.int .i64 (c.t : Int)) ∧ w.cell? ⟨B, O + 1, none⟩ = some (.int .i64 (c.v : Int)) ∧ w.cell? ⟨B, O + 2, none⟩ = some (.int .i64 (c.n : Int)) := by
  obtain ⟨a, ha, h1⟩ := h i hi
  exact ⟨a, _, ha, rfl, h1⟩
theorem EntsAt.bel {w x : World} {p : Option Addr} {L : List EB} (h : EntsAt w p L) (hb : Bel w x) : EntsAt x p L := fun i hi => by
  obtain ⟨a, ha, hc⟩ := h i hi
  exact ⟨a, ha, hc.bel hb⟩
theorem CtsAt.bel {w x : World} {p : Option Addr} {L : List CT} (h : CtsAt w p L) (hb : Bel w x) : CtsAt x p L := fun i hi => by
  obtain ⟨a, ha, hc⟩ := h i hi
  exact ⟨a, ha, hc.bel hb⟩
theorem EntsAt.nil (w : World) (p : Option Addr) : EntsAt w p [] := fun i hi => by simp at hi
theorem CtsAt.nil (w : World) (p : Option Addr) : CtsAt w p [] := fun i hi => by simp at hi
theorem ownG_ents {B : Nat} {w : World} {v : Value} {L : List EB} (h : OwnG entEl B w v L) : ∃ p cap, v = .slice p L.length cap ∧ EntsAt w p L := by
  by_cases hL : L = []
  · subst hL
    obtain ⟨p, cap, hv⟩ := ownG_len h
    exact ⟨p, cap, hv, EntsAt.nil _ _⟩
  · obtain ⟨g, cap, hv, _, _, _, hc'⟩ := ownG_cells entOk h hL
    refine ⟨_, cap, hv, fun i hi => ⟨_, rfl, g, i * 4, none, ?_, ?_, ?_, ?_, ?_⟩⟩
    · by_cases h0 : i * 4 = 0
      · rw [h0]; rfl
      · simp [Addr.add, h0]
    · exact hc' i L[i] (List.getElem?_eq_getElem hi) 0 _ rfl
    · exact hc' i L[i] (List.getElem?_eq_getElem hi) 1 _ rfl
    · exact hc' i L[i] (List.getElem?_eq_getElem hi) 2 _ rfl
    · exact hc' i L[i] (List.getElem?_eq_getElem hi) 3 _ rfl
def fitsL (L : List EB) : Prop := ∀ e ∈ L, e.fits
theorem fits_at {L : List EB} (h : fitsL L) {i : Nat} (hi : i < L.length) : L[i].fits := h _ (List.getElem_mem hi)
end Go.Proofs.Ytmdkpomgckkllaa
/- What the laws of chapter 12 want of the program's merge: what its calls answer over rows that are sorted. -/
namespace Go.Proofs.Ytmdkpomgckkllaa
open Go.RowKit Go.Deep

/-- Rows in a slice: each one's slice, and its entries. -/
def RowsAt (w : World) (p : Option Addr) (R : List (List EB)) : Prop := ∀ i (h : i < R.length), ∃ a q c, p = some a ∧ w.cell? (a.add i) = some (.slice q R[i].length c) ∧ EntsAt w q R[i] ∧ R[i].length ≤ c
theorem RowsAt.bel {w x : World} {p : Option Addr} {R : List (List EB)} (h : RowsAt w p R) (hb : Bel w x) : RowsAt x p R := fun i hi => by
  obtain ⟨a, q, c, h1, h2, h3, h4⟩ := h i hi
  exact ⟨a, q, c, h1, (Below.cell hb (blk_of_cell h2)).trans h2, h3.bel hb, h4⟩
def IntsAt12 (w : World) (p : Option Addr) (S : List Int) : Prop := ∀ i (h : i < S.length), ∃ a, p = some a ∧ w.cell? (a.add i) = some (.int .i64 S[i])
theorem IntsAt12.bel {w x : World} {p : Option Addr} {S : List Int} (h : IntsAt12 w p S) (hb : Bel w x) : IntsAt12 x p S := fun i hi => by
  obtain ⟨a, h1, h2⟩ := h i hi
  exact ⟨a, h1, (Below.cell hb (blk_of_cell h2)).trans h2⟩
/-- A call has handed back these entries, and has turned nothing. -/
def Gives12 (w : World) (M : List EB) (r : Ending) (w' : World) : Prop := ∃ p cap, r = .returned (.slice p M.length cap) ∧ EntsAt w' p M ∧ M.length ≤ cap ∧ Bel w w'
def srtB : List EB → Bool
  | [] => true
  | [_] => true
  | a :: b :: l => lessB a b && srtB (b :: l)
theorem srtB_iff : ∀ {l : List EB}, srtB l = true ↔ Srt l
  | [] => by simp [srtB]
  | [a] => by simp [srtB]
  | a :: b :: l => by
    rw [srtB, Bool.and_eq_true, srtB_iff (l := b :: l)]
    show _ ↔ (a :: b :: l).Pairwise (fun a b => lessB a b = true)
    rw [List.pairwise_cons]
    constructor
    · rintro ⟨h1, h2⟩
      refine ⟨fun x hx => ?_, h2⟩
      rcases List.mem_cons.1 hx with rfl | hx
      · exact h1
      · exact lessB_trans h1 ((List.pairwise_cons.1 h2).1 x hx)
    · rintro ⟨h1, h2⟩
      exact ⟨h1 b (by simp), h2⟩
structure GK where
  Ok : World → Prop
  okBel : ∀ {w x : World}, Ok w → Bel w x → Ok x
  sorted : ∀ (p : Option Addr) (cap : Nat) (L : List EB) (w : World), Ok w → EntsAt w p L → L.length ≤ 1000 → fitsL L → Calls Try.prog 19 #[.slice p L.length cap] w fun r w' => r = .returned (.bool (srtB L)) ∧ Bel w w'
  merge : ∀ (p : Option Addr) (cap : Nat) (R : List (List EB)) (w : World), Ok w → RowsAt w p R → R.length ≤ cap → R.length ≤ 10 → (∀ L ∈ R, Srt L ∧ L.length ≤ 500 ∧ fitsL L) → Calls Try.prog 11 #[.slice p R.length cap] w (Gives12 w (mergeB R.flatten))
  visible : ∀ (p : Option Addr) (cap : Nat) (L : List EB) (s : Int) (w : World), Ok w → EntsAt w p L → L.length ≤ cap → Srt L → L.length ≤ 1000 → fitsL L → Calls Try.prog 14 #[.slice p L.length cap, .int .i64 s] w (Gives12 w (visL s L))
  thin : ∀ (p q : Option Addr) (cap cap' : Nat) (L : List EB) (S : List Int) (last : Bool) (w : World), Ok w → EntsAt w p L → L.length ≤ cap → IntsAt12 w q S → Srt L → L.length ≤ 1000 → S.length ≤ 20 → fitsL L → (∀ e ∈ L, e.q ≤ 4611686018427387904) → Calls Try.prog 16 #[.slice p L.length cap, .slice q S.length cap', .bool last] w (Gives12 w (thinL S last L))
end Go.Proofs.Ytmdkpomgckkllaa
/- moultref10.Cite, Right, Less. -/
namespace Go.Proofs.Ytmdkpomgckkllaa
open Go.RowKit Go.Deep

theorem cmp_tri (a b : List UInt8) : (Lib.compareBytes a b < 0 ∧ Op.bytesLess a b = true) ∨ (Lib.compareBytes a b = 0 ∧ a = b ∧ Op.bytesLess a b = false) ∨ (0 < Lib.compareBytes a b ∧ Op.bytesLess a b = false ∧ a ≠ b) := by
  rcases less_tri a b with h | h | h
  · exact Or.inl ⟨(cmp_less a b).2 h, h⟩
  · subst h
    refine Or.inr (Or.inl ⟨?_, rfl, less_irrefl a⟩)
    exact (cb_zero a a).2 rfl
  · have h1 := less_asymm h
    have hne : a ≠ b := fun e => by subst e; rw [less_irrefl] at h; cases h
    refine Or.inr (Or.inr ⟨?_, h1, hne⟩)
    have h2 := (cmp_geq a b).2 h1
    have h3 : Lib.compareBytes a b ≠ 0 := fun e => hne ((cb_zero a b).1 e)
    omega
set_option maxHeartbeats 2000000 in
theorem rless_any (a b : EB) (w : World) (ha : a.fits) (hb : b.fits) :
    Calls Try.prog 38 #[.agg #[.string a.k, .int .i64 a.q, .bool a.d, .string a.v], .agg #[.string b.k, .int .i64 b.q, .bool b.d, .string b.v]] w fun r w' => r = .returned (.bool (lessB a b)) ∧ Bel w w' := by
  obtain ⟨k, q, d, v⟩ := a
  obtain ⟨m, p, c, u⟩ := b
  have hk := ha.1
  have hm := hb.1
  simp only at hk hm
  have HC := Lib.hid (cmp_tri k.data.toList m.data.toList)
  have HL := Lib.hid (show lessB ⟨k, q, d, v⟩ ⟨m, p, c, u⟩ = (Op.bytesLess k.data.toList m.data.toList || (k.data.toList == m.data.toList && decide (p < q))) from rfl)
  have HK := Lib.hid (show k.size ≤ maxLen from hk)
  have HM := Lib.hid (show m.size ≤ maxLen from hm)
  clear ha hb hk hm
  have HW := Lib.hid (((Bel.refl w).alloc (.cells #[.string k, .int .i64 q, .bool d, .string v] 36)).alloc (.cells #[.string m, .int .i64 p, .bool c, .string u] 36))
  go_enter Try.func38, Try.ntmps38
  go_wp2_with (fail)
  refine (ref_bytes_any k m _ HK.out HM.out).mono ?_
  rintro e w1 ⟨rfl, hb⟩
  have HB := Lib.hid (HW.out.trans hb.bel)
  have c1 := cell_later hb.bel (show ((w.alloc (.cells #[.string k, .int .i64 q, .bool d, .string v] 36)).alloc (.cells #[.string m, .int .i64 p, .bool c, .string u] 36)).cell? ⟨w.heap.size, 1, none⟩ = some (.int .i64 q) from cell_later ((Bel.refl _).alloc _) ((World.cell?_alloc_new ..).trans (by simp)))
  have c2 := cell_later hb.bel (show ((w.alloc (.cells #[.string k, .int .i64 q, .bool d, .string v] 36)).alloc (.cells #[.string m, .int .i64 p, .bool c, .string u] 36)).cell? ⟨w.heap.size + 1, 1, none⟩ = some (.int .i64 p) from by
    have h := World.cell?_alloc_new (w.alloc (.cells #[.string k, .int .i64 q, .bool d, .string v] 36)) #[.string m, .int .i64 p, .bool c, .string u] 36 1
    rw [show (w.alloc (.cells #[.string k, .int .i64 q, .bool d, .string v] 36)).heap.size = w.heap.size + 1 by simp] at h
    exact h)
  clear hb
  generalize Lib.compareBytes k.data.toList m.data.toList = z at *
  rcases HC.out with ⟨h1, h2⟩ | ⟨h1, h2, h3⟩ | ⟨h1, h2, h3⟩
  · rw [h2, Bool.true_or] at HL
    clear h2
    go_wp2_with (fail)
    go_ret
    exact ⟨by rw [HL.out]; rfl, HB.out⟩
  · subst h1
    rw [h3, Bool.false_or, h2, beq_self_eq_true, Bool.true_and] at HL
    clear h2 h3
    go_wp2_with (fail)
    go_ret
    exact ⟨by rw [HL.out]; rfl, HB.out⟩
  · rw [h2, Bool.false_or, beq_eq_false_iff_ne.2 h3, Bool.false_and] at HL
    clear h2 h3
    go_wp2_with (fail)
    go_ret
    exact ⟨by
      rw [HL.out]
      show Ending.returned (.bool (decide (z < 0))) = _
      rw [decide_eq_false (by omega)], HB.out⟩
end Go.Proofs.Ytmdkpomgckkllaa
/- The reference of chapter 12, what only reads: newest, ends, Sorted. -/
set_option maxRecDepth 20000
namespace Go.Proofs.Ytmdkpomgckkllaa
open Go.RowKit Go.Deep

def bI : Option Nat → Int
  | none => -1
  | some j => j
theorem ent_at12 {w : World} {a : Addr} {L : List EB} (h : EntsAt w (some a) L) {i : Nat} (hi : i < L.length) : ∃ B O sp, a.add (i * 4) = ⟨B, O, sp⟩ ∧ w.cell? ⟨B, O, sp⟩ = some (.string L[i].k) ∧ w.cell? ⟨B, O + 1, none⟩ = some (.int .i64 L[i].q) ∧ w.cell? ⟨B, O + 2, none⟩ = some (.bool L[i].d) ∧ w.cell? ⟨B, O + 3, none⟩ = some (.string L[i].v) := by
  obtain ⟨a', h1, h2⟩ := h i hi
  cases h1
  exact h2
set_option maxHeartbeats 4000000 in
theorem rnewest_any (p : Option Addr) (cap : Nat) (L : List EB) (key : ByteArray) (s : Int) (w : World) (h : EntsAt w p L) (hL : L.length ≤ 100000) :
    Calls Try.prog 31 #[.slice p L.length cap, .string key, .int .i64 s] w fun r w' => ∃ b, r = .returned (.int .i64 (bI b)) ∧ Best L key.data.toList s L.length b ∧ Bel w w' := by
  have H := Lib.hid h; clear h
  go_enter Try.func31, Try.ntmps31
  go_wp2_with (fail)
  go_loopw [7, 8] (fun bv iv x => ∃ k : Nat, k ≤ L.length ∧ iv = .int .i64 k ∧ ∃ b, bv = .int .i64 (bI b) ∧ Best L key.data.toList s k b ∧ Bel w x) (fun _ iv _ => L.length - (intOf iv).toNat)
  case atStart => exact ⟨0, Nat.zero_le _, rfl, none, rfl, best_zero _ _ _, Bel.refl w⟩
  case round =>
    obtain ⟨k, hk, rfl, b, rfl, hb, hw⟩ := hrel
    have HW := Lib.hid hw
    by_cases hkl : k < L.length
    · obtain ⟨a, ha0, -⟩ := (H.out.bel hw) k hkl
      subst ha0
      obtain ⟨B, O, sp, ha, z0, z1, z2, z3⟩ := ent_at12 (H.out.bel hw) hkl
      have hcp : ∀ {x : World}, Bel wr x → x = x := fun _ => rfl
      cases hkey : (L[k].k.toList == key.toList) with
      | false =>
        have HB := Lib.hid (best_miss hkl hb (fun hh => by
          rw [ByteArray.toList_eq, ByteArray.toList_eq, beq_eq_false_iff_ne] at hkey
          exact hkey hh.1))
        clear hb hw hcp
        generalize L[k] = e0 at *
        go_wp2_with (fail)
        go_quiet (fail)
        go_wp2_with (fail)
        go_roundw
        case rel => exact ⟨k + 1, hkl, by go_num, b, rfl, HB.out, HW.out.drewN nq⟩
        case measure => simp [intOf]; omega
      | true =>
        have hke : L[k].k.data.toList = key.data.toList := by rw [beq_iff_eq, ByteArray.toList_eq, ByteArray.toList_eq] at hkey; exact hkey
        by_cases hq : L[k].q ≤ s
        · have hqd : decide (L[k].q ≤ s) = true := decide_eq_true hq
          cases b with
          | none =>
            have HB := Lib.hid (best_take hkl hb ⟨hke, hq⟩ (fun j hj => by cases hj))
            clear hb hw hcp hke
            generalize L[k] = e0 at *
            simp only [bI]
            go_wp2_with (fail)
            go_quiet (fail)
            go_wp2_with (fail)
            go_roundw
            case rel => exact ⟨k + 1, hkl, by go_num, some k, rfl, HB.out, HW.out.drewN nq⟩
            case measure => simp [intOf]; omega
          | some j =>
            have hj : j < L.length := hb.1
            obtain ⟨B2, O2, sp2, ha2, y0, y1, y2, y3⟩ := ent_at12 (H.out.bel hw) hj
            have hj0 : decide ((j : Int) < 0) = false := decide_eq_false (by omega)
            by_cases hg : L[j].q < L[k].q
            · have hgd : decide (L[j].q < L[k].q) = true := decide_eq_true hg
              have HB := Lib.hid (best_take hkl hb ⟨hke, hq⟩ (fun j' hj' _ => by cases hj'; exact hg))
              clear hb hw hcp hke
              generalize L[k] = e0 at *
              generalize L[j] = e1 at *
              simp only [bI]
              go_wp2_with (fail)
              go_quiet (fail)
              go_wp2_with (fail)
              go_roundw
              case rel => exact ⟨k + 1, hkl, by go_num, some k, rfl, HB.out, HW.out.drewN nq⟩
              case measure => simp [intOf]; omega
            · have hgd : decide (L[j].q < L[k].q) = false := decide_eq_false hg
              have HB := Lib.hid (best_keep hkl hb hj (by omega))
              clear hb hw hcp hke
              generalize L[k] = e0 at *
              generalize L[j] = e1 at *
              simp only [bI]
              go_wp2_with (fail)
              go_quiet (fail)
              go_wp2_with (fail)
              go_roundw
              case rel => exact ⟨k + 1, hkl, by go_num, some j, rfl, HB.out, HW.out.drewN nq⟩
              case measure => simp [intOf]; omega
        · have hqd : decide (L[k].q ≤ s) = false := decide_eq_false hq
          have HB := Lib.hid (best_miss hkl hb (fun hh => hq hh.2))
          clear hb hw hcp hke
          generalize L[k] = e0 at *
          go_wp2_with (fail)
          go_quiet (fail)
          go_wp2_with (fail)
          go_roundw
          case rel => exact ⟨k + 1, hkl, by go_num, b, rfl, HB.out, HW.out.drewN nq⟩
          case measure => simp [intOf]; omega
    · obtain rfl : k = L.length := by omega
      have HB := Lib.hid hb
      clear hb hw
      go_wp2_with (fail)
      go_ret
      exact ⟨b, rfl, HB.out, HW.out⟩
end Go.Proofs.Ytmdkpomgckkllaa
/- The reference of chapter 12, what only reads, second part: ends, Sorted. -/
set_option maxRecDepth 20000
namespace Go.Proofs.Ytmdkpomgckkllaa
open Go.RowKit Go.Deep

set_option maxHeartbeats 4000000 in
theorem rends_any (p : Option Addr) (cap : Nat) (L : List EB) (i : Nat) (w : World) (h : EntsAt w p L) (hL : L.length ≤ 100000) (hi : i < L.length) :
    Calls Try.prog 36 #[.slice p L.length cap, .int .i64 i] w fun r w' => r = .returned (.bool (runDead L[i].k.data.toList (L.drop i))) ∧ Bel w w' := by
  have H := Lib.hid h; clear h
  obtain ⟨key, hkey⟩ : ∃ key, key = L[i].k := ⟨_, rfl⟩
  rw [← hkey]
  have HK := Lib.hid hkey; clear hkey
  go_enter Try.func36, Try.ntmps36
  go_wp2_with (fail)
  go_loopw [5] (fun iv x => ∃ k : Nat, k ≤ L.length ∧ iv = .int .i64 k ∧ runDead key.data.toList (L.drop i) = runDead key.data.toList (L.drop k) ∧ Bel w x) (fun iv _ => L.length - (intOf iv).toNat)
  case atStart => exact ⟨i, by omega, rfl, rfl, Bel.refl w⟩
  case round =>
    obtain ⟨k, hk, rfl, hr, hw⟩ := hrel
    have HW := Lib.hid hw
    have HR := Lib.hid hr
    clear hr
    by_cases hkl : k < L.length
    · have hkd : decide ((k : Int) < (L.length : Int)) = true := decide_eq_true (by omega)
      have HD := Lib.hid (List.drop_eq_getElem_cons hkl)
      obtain ⟨a, ha0, -⟩ := (H.out.bel hw) k hkl
      subst ha0
      obtain ⟨B, O, sp, ha, z0, z1, z2, z3⟩ := ent_at12 (H.out.bel hw) hkl
      obtain ⟨B2, O2, sp2, ha2, y0, y1, y2, y3⟩ := ent_at12 (H.out.bel hw) hi
      rw [← HK.out] at y0
      clear hw
      generalize L[k] = e0 at *
      generalize L[i] = e1 at *
      cases hkey : (e0.k.toList == key.toList) with
      | false =>
        have hne : ¬ e0.k.data.toList = key.data.toList := by rw [ByteArray.toList_eq, ByteArray.toList_eq, beq_eq_false_iff_ne] at hkey; exact hkey
        have HX := Lib.hid (show runDead key.data.toList (L.drop i) = true by rw [HR.out, HD.out, runDead, if_neg hne])
        clear hne
        go_wp2_with (fail)
        go_quiet (fail)
        go_wp2_with (fail)
        go_ret
        exact ⟨by rw [HX.out]; rfl, HW.out.drewN nq⟩
      | true =>
        have hke : e0.k.data.toList = key.data.toList := by rw [beq_iff_eq, ByteArray.toList_eq, ByteArray.toList_eq] at hkey; exact hkey
        cases hd : e0.d with
        | true =>
          have HX := Lib.hid (show runDead key.data.toList (L.drop i) = runDead key.data.toList (L.drop (k + 1)) by rw [HR.out, HD.out, runDead, if_pos hke, hd, Bool.true_and])
          rw [hd] at z2
          clear hke hd
          go_wp2_with (fail)
          go_quiet (fail)
          go_wp2_with (fail)
          go_roundw
          case rel => exact ⟨k + 1, hkl, by go_num, HX.out, HW.out.drewN nq⟩
          case measure => simp [intOf]; omega
        | false =>
          have HX := Lib.hid (show runDead key.data.toList (L.drop i) = false by rw [HR.out, HD.out, runDead, if_pos hke, hd, Bool.false_and])
          rw [hd] at z2
          clear hke hd
          go_wp2_with (fail)
          go_quiet (fail)
          go_wp2_with (fail)
          go_ret
          exact ⟨by rw [HX.out]; rfl, HW.out.drewN nq⟩
    · obtain rfl : k = L.length := by omega
      have hkd : decide ((L.length : Int) < (L.length : Int)) = false := decide_eq_false (by omega)
      have HX := Lib.hid (show runDead key.data.toList (L.drop i) = true by rw [HR.out, List.drop_length]; rfl)
      clear hw
      go_wp2_with (fail)
      go_quiet (fail)
      go_wp2_with (fail)
      go_ret
      exact ⟨by rw [HX.out]; rfl, HW.out.drewN nq⟩
end Go.Proofs.Ytmdkpomgckkllaa
/- A slice of entries, or of rows, that is cut. -/
namespace Go.Proofs.Ytmdkpomgckkllaa
open Go.RowKit Go.Deep

/-- Where a slice that is cut from the n-th element on begins. -/
def cutP (p : Option Addr) (n c : Nat) (k : Nat) : Option Addr := if c = n then p else p.map (fun a => a.add (n * k))
theorem ents_drop {w : World} {p : Option Addr} {L : List EB} (h : EntsAt w p L) (n c : Nat) (hc : L.length ≤ c) : EntsAt w (cutP p n c 4) (L.drop n) := by
  intro i hi
  have hi' : n + i < L.length := by rw [List.length_drop] at hi; omega
  obtain ⟨a, rfl, ha⟩ := h (n + i) hi'
  refine ⟨a.add (n * 4), ?_, ?_⟩
  · unfold cutP
    rw [if_neg (by omega)]; rfl
  · rw [Addr.add_add, ← Nat.add_mul, List.getElem_drop]
    exact ha
theorem ents_take {w : World} {p : Option Addr} {L : List EB} (h : EntsAt w p L) (n : Nat) : EntsAt w p (L.take n) := by
  intro i hi
  have hi' : i < L.length := by rw [List.length_take] at hi; omega
  obtain ⟨a, rfl, ha⟩ := h i hi'
  exact ⟨a, rfl, by rw [List.getElem_take]; exact ha⟩
theorem rows_drop {w : World} {p : Option Addr} {R : List (List EB)} (h : RowsAt w p R) (n c : Nat) (hc : R.length ≤ c) : RowsAt w (cutP p n c 1) (R.drop n) := by
  intro i hi
  have hi' : n + i < R.length := by rw [List.length_drop] at hi; omega
  obtain ⟨a, q, d, rfl, h1, h2, h3⟩ := h (n + i) hi'
  refine ⟨a.add (n * 1), q, d, ?_, ?_, ?_, ?_⟩
  · unfold cutP
    rw [if_neg (by omega)]; rfl
  · rw [Addr.add_add, Nat.mul_one, List.getElem_drop]
    exact h1
  · rw [List.getElem_drop]; exact h2
  · rw [List.getElem_drop]; exact h3
theorem rows_take {w : World} {p : Option Addr} {R : List (List EB)} (h : RowsAt w p R) (n : Nat) : RowsAt w p (R.take n) := by
  intro i hi
  have hi' : i < R.length := by rw [List.length_take] at hi; omega
  obtain ⟨a, q, d, rfl, h1, h2, h3⟩ := h i hi'
  exact ⟨a, q, d, rfl, by rw [List.getElem_take]; exact h1, by rw [List.getElem_take]; exact h2, by rw [List.getElem_take]; exact h3⟩
/-- Of entries that a slice of one's own holds. -/
theorem ownG_ents12 {B : Nat} {w : World} {v : Value} {L : List EB} (h : OwnG entEl B w v L) : ∃ p cap, v = .slice p L.length cap ∧ EntsAt w p L ∧ L.length ≤ cap := by
  by_cases hL : L = []
  · subst hL
    obtain ⟨p, cap, hv⟩ := ownG_len h
    exact ⟨p, cap, hv, EntsAt.nil _ _, Nat.zero_le _⟩
  · obtain ⟨g, cap, hv, _, _, hcap, _⟩ := ownG_cells entOk h hL
    obtain ⟨p, cap', hv', he⟩ := ownG_ents h
    rw [hv] at hv'
    cases hv'
    exact ⟨_, cap, hv, he, hcap⟩
theorem ownG_none {B : Nat} {w : World} {p : Option Addr} {n cap : Nat} {L : List EB} (h : OwnG entEl B w (.slice p n cap) L) : p = none → cap = 0 := by
  intro hp
  rcases h.2 with ⟨h1, h0⟩ | ⟨g, cap', cur, hv, _⟩
  · cases h1; rfl
  · rw [hp] at hv; cases hv
theorem SrcAt.of_ents {w : World} {p : Option Addr} {L : List EB} {c : Nat} (h : EntsAt w p L) (hp : p = none → c = 0) : SrcAt entEl w (.slice p L.length c) L := by
  cases p with
  | none =>
    have h0 : L = [] := by
      cases L with
      | nil => rfl
      | cons x L => obtain ⟨a, ha, -⟩ := h 0 (by simp); cases ha
    subst h0
    rw [hp rfl]
    exact Or.inl ⟨rfl, rfl⟩
  | some a =>
    refine Or.inr ⟨a, c, rfl, fun j u hj => ?_⟩
    have hlt : j < L.length * 4 := by
      have h1 := El.all_len entOk L
      have h2 : j < (entEl.all L).length := by
        rcases Nat.lt_or_ge j (entEl.all L).length with h | h
        · exact h
        · rw [List.getElem?_eq_none h] at hj; cases hj
      rw [h1] at h2
      exact h2
    have hi : j / 4 < L.length := by omega
    obtain ⟨a', ha', B, O, sp, hB, c0, c1, c2, c3⟩ := h (j / 4) hi
    cases ha'
    have hg := El.all_get entOk L (j / 4) L[j / 4] (List.getElem?_eq_getElem hi) (j % 4) (Nat.mod_lt _ (by decide))
    rw [show j / 4 * entEl.n + j % 4 = j from by show j / 4 * 4 + j % 4 = j; omega, hj] at hg
    have haj : a.add j = (a.add (j / 4 * 4)).add (j % 4) := by rw [Addr.add_add]; congr 1; omega
    rw [haj, hB]
    have hm : j % 4 = 0 ∨ j % 4 = 1 ∨ j % 4 = 2 ∨ j % 4 = 3 := by omega
    rcases hm with hm | hm | hm | hm <;> rw [hm] at hg ⊢
    · simp [entEl] at hg; subst hg; exact c0
    · simp [entEl] at hg; subst hg; exact c1
    · simp [entEl] at hg; subst hg; exact c2
    · simp [entEl] at hg; subst hg; exact c3
end Go.Proofs.Ytmdkpomgckkllaa
/- moultlaw12.same, small. -/
namespace Go.Proofs.Ytmdkpomgckkllaa
open Go.RowKit Go.Deep

set_option maxHeartbeats 2000000 in
theorem same12_any (p q : Option Addr) (cap cap' : Nat) (L : List EB) (w : World) (h : EntsAt w p L) (h' : EntsAt w q L) (hL : L.length ≤ 1000000) :
    Calls Try.prog 13 #[.slice p L.length cap, .slice q L.length cap'] w fun e w' => e = .returned (.bool true) ∧ Drw w w' := by
  have H := Lib.hid h; clear h
  have H' := Lib.hid h'; clear h'
  go_enter Try.func13, Try.ntmps13
  go_wp2_with (fail)
  go_loopw [5] (fun i x => (∃ k : Nat, k ≤ L.length ∧ i = .int .i64 k) ∧ Drw w x) (fun i _ => L.length - (intOf i).toNat)
  case atStart => exact ⟨⟨0, Nat.zero_le _, rfl⟩, Drw.refl w⟩
  case round =>
    obtain ⟨⟨k, hk, rfl⟩, hw⟩ := hrel
    have HW := Lib.hid hw; clear hw
    by_cases hlt : k < L.length
    · obtain ⟨a, e0, rfl, he0, B, O, sp, ha, c0, c1, c2, c3⟩ := (H.out.bel HW.out.bel).get hlt
      obtain ⟨a', e1, rfl, he1, B', O', sp', ha', d0, d1, d2, d3⟩ := (H'.out.bel HW.out.bel).get hlt
      have he : e1 = e0 := he1.trans he0.symm
      subst he
      clear he0 he1
      go_wp2_with (fail)
      go_quiet (fail)
      go_wp2_with (fail)
      go_roundw
      case rel => exact ⟨⟨k + 1, hlt, by go_num⟩, HW.out.drewN _⟩
      case measure => simp [intOf]; omega
    · go_wp2_with (fail)
      go_ret
      exact ⟨rfl, HW.out⟩
/-- Not too many entries, none too long, and no number too great. -/
def Small12E (e : EB) : Prop := e.k.size ≤ 300 ∧ e.v.size ≤ 300 ∧ e.q ≤ 1099511627776 ∧ 0 ≤ e.q
def Small12 (L : List EB) : Prop := L.length ≤ 60 ∧ ∀ i (h : i < L.length), Small12E L[i]
set_option maxHeartbeats 2000000 in
theorem small12_any (p : Option Addr) (cap : Nat) (L : List EB) (w : World) (h : EntsAt w p L) (hL : L.length ≤ 9223372036854775807) (hf : fitsL L) :
    Calls Try.prog 18 #[.slice p L.length cap] w fun e w' => Drw w w' ∧ ((Small12 L ∧ e = .returned (.bool true)) ∨ e = .returned (.bool false)) := by
  have H := Lib.hid h; clear h
  have HF := Lib.hid hf; clear hf
  by_cases h2 : L.length ≤ 60
  · have h2' : (L.length : Int) ≤ 60 := by omega
    go_enter Try.func18, Try.ntmps18
    go_wp2_with (fail)
    go_loopw [3] (fun i x => (∃ k : Nat, k ≤ L.length ∧ i = .int .i64 k ∧ ∀ j (h : j < L.length), j < k → Small12E L[j]) ∧ Drw w x) (fun i _ => L.length - (intOf i).toNat)
    case atStart => exact ⟨⟨0, Nat.zero_le _, rfl, fun j _ h => by omega⟩, Drw.refl w⟩
    case round =>
      obtain ⟨⟨k, hk, rfl, hall⟩, hw⟩ := hrel
      have HA := Lib.hid hall; clear hall
      have HW := Lib.hid hw; clear hw
      by_cases hlt : k < L.length
      · obtain ⟨a, e0, rfl, he0, B, O, sp, ha, c0, c1, c2, c3⟩ := (H.out.bel HW.out.bel).get hlt
        have hfit : e0.fits := by rw [he0]; exact fits_at HF.out hlt
        obtain ⟨f1, f2, f3, f4⟩ := hfit
        have HE0 := Lib.hid he0
        clear he0
        by_cases h3 : e0.k.size ≤ 300
        · have h3' : (e0.k.size : Int) ≤ 300 := by omega
          by_cases h4 : e0.v.size ≤ 300
          · have h4' : (e0.v.size : Int) ≤ 300 := by omega
            by_cases h5 : e0.q ≤ 1099511627776
            · by_cases h6 : 0 ≤ e0.q
              · have HA2 := Lib.hid (show ∀ j (h : j < L.length), j < k + 1 → Small12E L[j] from fun j h hj => by
                  by_cases e : j = k
                  · subst e; rw [← HE0.out]; exact ⟨h3, h4, h5, h6⟩
                  · exact HA.out j h (by omega))
                go_wp2_with (fail)
                go_roundw
                case rel => exact ⟨⟨k + 1, hlt, by go_num, HA2.out⟩, HW.out⟩
                case measure => simp [intOf]; omega
              · go_wp2_with (fail)
                go_ret
                exact ⟨HW.out, Or.inr rfl⟩
            · go_wp2_with (fail)
              go_ret
              exact ⟨HW.out, Or.inr rfl⟩
          · have h4' : ¬ (e0.v.size : Int) ≤ 300 := by omega
            go_wp2_with (fail)
            go_ret
            exact ⟨HW.out, Or.inr rfl⟩
        · have h3' : ¬ (e0.k.size : Int) ≤ 300 := by omega
          go_wp2_with (fail)
          go_ret
          exact ⟨HW.out, Or.inr rfl⟩
      · go_wp2_with (fail)
        go_ret
        exact ⟨HW.out, Or.inl ⟨⟨h2, fun j h => HA.out j h (by omega)⟩, rfl⟩⟩
  · have h2' : ¬ (L.length : Int) ≤ 60 := by omega
    go_enter Try.func18, Try.ntmps18
    go_wp2_with (fail)
    go_ret
    exact ⟨Drw.refl w, Or.inr rfl⟩
end Go.Proofs.Ytmdkpomgckkllaa
/- The program's Cite, Right, Less. -/
namespace Go.Proofs.Ytmdkpomgckkllaa
open Go.RowKit Go.Deep

set_option maxHeartbeats 2000000 in
theorem pless_any (a b : EB) (w : World) :
    Calls Try.prog 26 #[.agg #[.string a.k, .int .i64 a.q, .bool a.d, .string a.v], .agg #[.string b.k, .int .i64 b.q, .bool b.d, .string b.v]] w fun r w' => r = .returned (.bool (lessB a b)) ∧ Bel w w' := by
  obtain ⟨k, q, d, v⟩ := a
  obtain ⟨m, p, c, u⟩ := b
  have HL := Lib.hid (show lessB ⟨k, q, d, v⟩ ⟨m, p, c, u⟩ = (Op.bytesLess k.toList m.toList || (k.toList == m.toList && decide (p < q))) by rw [ByteArray.toList_eq, ByteArray.toList_eq]; rfl)
  have HW := Lib.hid (((Bel.refl w).alloc (.cells #[.string k, .int .i64 q, .bool d, .string v] 36)).alloc (.cells #[.string m, .int .i64 p, .bool c, .string u] 36))
  have c0 : ((w.alloc (.cells #[.string k, .int .i64 q, .bool d, .string v] 36)).alloc (.cells #[.string m, .int .i64 p, .bool c, .string u] 36)).cell? ⟨w.heap.size, 0, none⟩ = some (.string k) := cell_later ((Bel.refl _).alloc _) ((World.cell?_alloc_new ..).trans (by simp))
  have c1 : ((w.alloc (.cells #[.string k, .int .i64 q, .bool d, .string v] 36)).alloc (.cells #[.string m, .int .i64 p, .bool c, .string u] 36)).cell? ⟨w.heap.size, 1, none⟩ = some (.int .i64 q) := cell_later ((Bel.refl _).alloc _) ((World.cell?_alloc_new ..).trans (by simp))
  cases he : (k.toList == m.toList) with
  | true =>
    have hkm : k = m := by
      rw [beq_iff_eq, ByteArray.toList_eq, ByteArray.toList_eq] at he
      exact ba_ext he
    subst hkm
    have hirr : Op.bytesLess k.toList k.toList = false := by rw [ByteArray.toList_eq]; exact less_irrefl _
    rw [he, hirr, Bool.false_or, Bool.true_and] at HL
    clear hirr
    go_enter Try.func26, Try.ntmps26
    go_wp2_with (fail)
    go_ret
    exact ⟨by rw [HL.out]; rfl, HW.out⟩
  | false =>
    rw [he, Bool.false_and, Bool.or_false] at HL
    go_enter Try.func26, Try.ntmps26
    go_wp2_with (fail)
    go_ret
    exact ⟨by rw [HL.out]; rfl, HW.out⟩
end Go.Proofs.Ytmdkpomgckkllaa
