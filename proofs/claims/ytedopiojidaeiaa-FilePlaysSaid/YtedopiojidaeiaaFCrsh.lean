/- file's crashed: what a crash leaves of one file. -/
import Derived.Test.YtedopiojidaeiaaFOps3
import Derived.Laws.BitsAllLaws
set_option linter.unusedSimpArgs false
set_option linter.unusedVariables false
namespace Go.Proofs.Ytedopiojidaeiaa
open Go.RowKit Go.Deep Go.Maps

/-- A byte, spoilt. -/
def spb (x : UInt8) (s : Int) : UInt8 := UInt8.ofNat (x.toNat ^^^ (IntKind.u8.wrap s).toNat)
theorem wrap_mod (s : Int) : IntKind.u8.wrap s = s % 256 := by simp [IntKind.wrap, IntKind.signed, IntKind.bits]
theorem wrap_u8 (s : Int) : 0 ≤ IntKind.u8.wrap s ∧ IntKind.u8.wrap s < 256 := by
  have e : IntKind.u8.wrap s = s % 256 := by simp [IntKind.wrap, IntKind.signed, IntKind.bits]
  rw [e]; omega
theorem spb_bits (x : UInt8) (s : Int) : bits .xor .u8 (x.toNat : Int) (IntKind.u8.wrap s) = ((spb x s).toNat : Int) := by
  have h1 := wrap_u8 s
  have hx := x.toNat_lt
  have e : IntKind.u8.wrap s = ((IntKind.u8.wrap s).toNat : Int) := by omega
  have h3 : x.toNat ^^^ (IntKind.u8.wrap s).toNat < 256 := Nat.xor_lt_two_pow (n := 8) (by omega) (by omega)
  rw [e, u8_xor_nat _ _ x.toNat_lt (by omega)]
  unfold spb
  rw [UInt8.toNat_ofNat']
  rw [Nat.mod_eq_of_lt (by omega)]
/-- How many bytes that were not flushed a crash leaves. -/
def leftN (l : Int) (k : Nat) : Nat := (min (max l 0) (k : Int)).toNat
/-- What a crash leaves of a file. -/
def crX (l s : Int) (x : FI) : FI :=
  ⟨x.name, if leftN l (x.bytes.length - x.safe) = 0 then x.bytes.take (x.safe + leftN l (x.bytes.length - x.safe)) else
    (x.bytes.take (x.safe + leftN l (x.bytes.length - x.safe))).set (x.safe + leftN l (x.bytes.length - x.safe) - 1) (spb (x.bytes.getD (x.safe + leftN l (x.bytes.length - x.safe) - 1) 0) s), x.safe + leftN l (x.bytes.length - x.safe)⟩

theorem own_set {B : Nat} {w : World} {g n cap : Nat} {l : List UInt8} (h : Own B w (.slice (some ⟨g, 0, none⟩) n cap) l) (i : Nat) (hi : i < n) (b : UInt8) : Own B (w.setCell ⟨g, i, none⟩ (.int .u8 b.toNat)) (.slice (some ⟨g, 0, none⟩) n cap) (l.set i b) := by
  obtain ⟨h1, h2⟩ := h
  rcases h2 with ⟨hv, h0⟩ | ⟨g', cap', cur, hv, hg, hh, hc, hx, hsz, htk⟩
  · cases hv
  · simp only [Value.slice.injEq, Option.some.injEq, Addr.mk.injEq, and_true] at hv
    obtain ⟨rfl, hn, rfl⟩ := hv
    refine ⟨by rw [Lib.byteCells_length, Nat.mul_one], Or.inr ⟨g, cap, cur.setIfInBounds i (.int .u8 b.toNat), by rw [List.length_set, hn], hg, blk_set hh i _, by rw [List.length_set]; exact hc, hx, by simpa using hsz, ?_⟩⟩
    have e : Lib.byteCells (l.set i b) = (Lib.byteCells l).set i (.int .u8 b.toNat) := by simp [Lib.byteCells, List.map_set]
    rw [e, ← htk]
    simp [List.take_set]
theorem own_cell {B : Nat} {w : World} {g n cap : Nat} {l : List UInt8} (h : Own B w (.slice (some ⟨g, 0, none⟩) n cap) l) (i : Nat) (hi : i < n) : w.cell? ⟨g, i, none⟩ = some (.int .u8 (l.getD i 0).toNat) := by
  have hn : n = l.length := by
    obtain ⟨p, c, e, -⟩ := own_len h
    simp only [Value.slice.injEq] at e
    exact e.2.1
  have := World.ownsRow.cells h (g := g) rfl i (.int .u8 (l.getD i 0).toNat) (by
    simp [Lib.byteCells, List.getD, show i < l.length by omega])
  have e : (⟨g, 0, none⟩ : Addr).add i = ⟨g, i, none⟩ := by cases i <;> simp [Addr.add]
  rwa [e] at this
theorem own_free {B : Nat} {w : World} {g n cap : Nat} {l : List UInt8} (h : Own B w (.slice (some ⟨g, 0, none⟩) n cap) l) (i : Nat) : w.frozen? ⟨g, i, none⟩ = false := by
  rcases h.2 with ⟨hv, h0⟩ | ⟨g', cap', cur, hv, hg, hh, _⟩
  · cases hv
  · simp only [Value.slice.injEq, Option.some.injEq, Addr.mk.injEq, and_true] at hv
    obtain ⟨rfl, _, _⟩ := hv
    simp [World.frozen?, hh]

set_option maxHeartbeats 1000000 in
theorem crashed_any (B : Nat) (w : World) (p : Option Addr) (n cap f : Nat) (l : List UInt8) (q s : Int) (h : Own B w (.slice p n cap) l) (hf : f ≤ n) (hn : n ≤ 1000000000) (hq : in64 q) :
    Calls Try.prog 44 #[.agg #[.slice p n cap, .int .i64 f], .int .i64 q, .int .i64 s] w fun e w' =>
      e = .returned (.agg #[.slice p (f + leftN q (n - f)) cap, .int .i64 (f + leftN q (n - f) : Nat)]) ∧
      Own B w' (.slice p (f + leftN q (n - f)) cap) (if leftN q (n - f) = 0 then l.take (f + leftN q (n - f)) else (l.take (f + leftN q (n - f))).set (f + leftN q (n - f) - 1) (spb (l.getD (f + leftN q (n - f) - 1) 0) s)) ∧ Keep (Value.slice p n cap).ownBlock.toList w w' := by
  obtain ⟨hp1, hp2, hp3, hp4⟩ := own_shape h
  obtain ⟨t, ht⟩ : ∃ t, t = leftN q (n - f) := ⟨_, rfl⟩
  rw [← ht]
  have hmm : min (max q 0) ((n : Int) - (f : Int)) = (t : Int) := by rw [ht]; unfold leftN; omega
  have htn : f + t ≤ n := by omega
  have HF := fun x => first_any x p n cap f (f + t) htn hp1 hp2 hp3 hp4
  rw [show min f (f + t) = f by omega] at HF
  simp only [Int.natCast_add] at HF
  replace HF := Lib.hid HF
  have HO := Lib.hid h
  have hln : n = l.length := by
    obtain ⟨p', c, e, -⟩ := own_len h
    simp only [Value.slice.injEq] at e
    exact e.2.1
  have HLN := Lib.hid hln
  have W2 := Lib.hid (((Bel.refl w).alloc (.cells #[.slice p n cap, .int .i64 f] 56)).alloc (.cells #[.slice none 0 0, .int .i64 0] 56))
  have hB1 : B ≤ w.heap.size ∨ True := Or.inr trivial
  by_cases h0 : t = 0
  · rw [if_pos h0]
    have ht0 : ¬ (0 < (t : Int)) := by omega
    have H0 := Lib.hid h0
    clear ht h hp1 hp2 hp3 hp4 hln h0 hB1
    go_enter Try.func44, Try.ntmps44
    go_wp2_with (fail)
    refine (HF.out _).mono ?_
    rintro e w1 ⟨rfl, hb1⟩
    have HB := Lib.hid (W2.out.trans hb1)
    have hz : w.heap.size + 1 < w1.heap.size := by have := hb1.size; simp at this; omega
    have q0 : w1.cell? ⟨w.heap.size + 1, 0, none⟩ = some (.slice none 0 0) := cell_later hb1 (by go_simp)
    have q1 : w1.cell? ⟨w.heap.size + 1, 1, none⟩ = some (.int .i64 0) := cell_later hb1 (by go_simp)
    have qf : ∀ i, w1.frozen? ⟨w.heap.size + 1, i, none⟩ = false := fun i => (hb1.frozen _ _ (by simp)).trans (by simp)
    clear hb1
    go_wp2_with (fail)
    refine (saved_any _ p (f + t) cap f).mono ?_
    rintro e w2 ⟨rfl, hb2⟩
    have HB2 := Lib.hid (HB.out.trans (((Bel.refl w1).alloc (.cells #[.slice p (f + t) cap, .int .i64 f] 56)).trans hb2))
    have r0 : w2.cell? ⟨w.heap.size + 1, 0, none⟩ = some (.slice none 0 0) := cell_later hb2 (cell_later ((Bel.refl w1).alloc _) q0)
    have r1 : w2.cell? ⟨w.heap.size + 1, 1, none⟩ = some (.int .i64 0) := cell_later hb2 (cell_later ((Bel.refl w1).alloc _) q1)
    have rf : ∀ i, w2.frozen? ⟨w.heap.size + 1, i, none⟩ = false := fun i => (hb2.frozen _ _ (by simp; omega)).trans ((((Bel.refl w1).alloc _).frozen _ _ hz).trans (qf i))
    clear hb2
    go_wp2_with (fail)
    have hval := (own_first HO.out (f + t) htn).bel HB2.out
    have hlow : w.heap.size + 1 ∉ (Value.slice p (f + t) cap).ownBlock.toList := own_old (own_first HO.out (f + t) htn) (Nat.le_succ _)
    have hkk : Keep [w.heap.size + 1] w2 ((w2.setCell ⟨w.heap.size + 1, 0, none⟩ (.slice p (f + t) cap)).setCell ⟨w.heap.size + 1, 1, none⟩ (.int .i64 ((f : Int) + (t : Int)))) :=
      ((Keep.refl _ w2).setCell (p := ⟨w.heap.size + 1, 0, none⟩) (Or.inl (by simp)) _).setCell (p := ⟨w.heap.size + 1, 1, none⟩) (Or.inl (by simp)) _
    exact bodyPost_ret (v := .agg #[.slice p (f + t) cap, .int .i64 ((f : Int) + (t : Int))]) (by simp [results, Try.results44, go_sem, r0, r1, World.cell?_setCell_other]) rfl ⟨rfl, hval.keep hkk (fun k h1 h2 => by
        rw [List.mem_singleton] at h2
        subst h2
        exact hlow (by rw [Option.mem_toList]; exact h1)),
      ((Keep.of_bel HB2.out _).setCell (p := ⟨w.heap.size + 1, 0, none⟩) (Or.inr (by simp)) _).setCell (p := ⟨w.heap.size + 1, 1, none⟩) (Or.inr (by simp)) _⟩
  · rw [if_neg h0]
    have ht0 : 0 < (t : Int) := by omega
    clear ht hln hB1
    cases p with
    | none => have := (hp4 rfl).1; omega
    | some ad =>
    have := hp3 ad rfl
    generalize ad.block = g at this
    subst this
    clear hp1 hp2 hp3 hp4 h
    obtain ⟨i, hi⟩ : ∃ i, f + t = i + 1 := ⟨f + t - 1, by omega⟩
    have hidx : (f : Int) + (t : Int) - 1 = (i : Int) := by omega
    have hgw : g < w.heap.size := (HO.out.lt g rfl).2
    obtain ⟨bx, hbx⟩ : ∃ bx, bx = l.getD i 0 := ⟨_, rfl⟩
    have HBX := Lib.hid hbx
    have hx : bits .xor .u8 (bx.toNat : Int) (s % 256) = ((spb bx s).toNat : Int) := by rw [← spb_bits, wrap_mod]
    have HI := Lib.hid hi
    have hib : i < f + t := by omega
    have hin : (i : Int) < (f : Int) + (t : Int) := by omega
    clear hi h0
    go_enter Try.func44, Try.ntmps44
    go_wp2_with (fail)
    refine (HF.out _).mono ?_
    rintro e w1 ⟨rfl, hb1⟩
    have HB := Lib.hid (W2.out.trans hb1)
    have hz : w.heap.size + 1 < w1.heap.size := by have := hb1.size; simp at this; omega
    have q0 : w1.cell? ⟨w.heap.size + 1, 0, none⟩ = some (.slice none 0 0) := cell_later hb1 (by go_simp)
    have q1 : w1.cell? ⟨w.heap.size + 1, 1, none⟩ = some (.int .i64 0) := cell_later hb1 (by go_simp)
    have qf : ∀ i, w1.frozen? ⟨w.heap.size + 1, i, none⟩ = false := fun i => (hb1.frozen _ _ (by simp)).trans (by simp)
    have d0 : w1.cell? ⟨g, i, none⟩ = some (.int .u8 bx.toNat) := by rw [hbx]; exact cell_later HB.out (own_cell HO.out i (by omega))
    have df : w1.frozen? ⟨g, i, none⟩ = false := (HB.out.frozen _ _ hgw).trans (own_free HO.out i)
    have hg1 : g < w1.heap.size := by omega
    clear hb1 hbx
    go_wp2_with (fail)
    refine (saved_any _ (some ⟨g, 0, none⟩) (f + t) cap f).mono ?_
    rintro e w2 ⟨rfl, hb2⟩
    obtain ⟨x2, hx2⟩ : ∃ x2, x2 = w1.setCell ⟨g, i, none⟩ (.int .u8 (spb bx s).toNat) := ⟨_, rfl⟩
    rw [← hx2] at hb2
    have hb3 : Bel x2 w2 := ((Bel.refl x2).alloc _).trans hb2
    have K2 : Keep [g] w1 x2 := by rw [hx2]; exact keep_set w1 g i _
    have hx2s : x2.heap.size = w1.heap.size := by rw [hx2]; simp [World.setCell]
    have HK2 := Lib.hid (((Keep.of_bel HB.out [g]).trans K2 (fun x hx => Or.inl hx)).trans (Keep.of_bel hb3 [g]) (fun x hx => Or.inl hx))
    have HV2 := Lib.hid (show Own B w2 (.slice (some ⟨g, 0, none⟩) (f + t) cap) ((l.take (f + t)).set i (spb bx s)) by
      refine Own.bel ?_ hb3
      rw [hx2]
      exact own_set ((own_first HO.out (f + t) htn).bel HB.out) i hib _)
    have r0 : w2.cell? ⟨w.heap.size + 1, 0, none⟩ = some (.slice none 0 0) := cell_later hb3 (K2.cell q0 (by simp; omega))
    have r1 : w2.cell? ⟨w.heap.size + 1, 1, none⟩ = some (.int .i64 0) := cell_later hb3 (K2.cell q1 (by simp; omega))
    have rf : ∀ i, w2.frozen? ⟨w.heap.size + 1, i, none⟩ = false := fun i => (hb3.frozen _ _ (by omega)).trans ((K2.frozen (p := ⟨w.heap.size + 1, i, none⟩) hz (by simp; omega)).trans (qf i))
    clear hb2 hb3 K2 hx2 hx2s
    go_wp2_with (fail)
    have hlow : w.heap.size + 1 ∉ (Value.slice (some ⟨g, 0, none⟩) (f + t) cap).ownBlock.toList := own_old (own_first HO.out (f + t) htn) (Nat.le_succ _)
    have hkk : Keep [w.heap.size + 1] w2 ((w2.setCell ⟨w.heap.size + 1, 0, none⟩ (.slice (some ⟨g, 0, none⟩) (f + t) cap)).setCell ⟨w.heap.size + 1, 1, none⟩ (.int .i64 ((f : Int) + (t : Int)))) :=
      ((Keep.refl _ w2).setCell (p := ⟨w.heap.size + 1, 0, none⟩) (Or.inl (by simp)) _).setCell (p := ⟨w.heap.size + 1, 1, none⟩) (Or.inl (by simp)) _
    have hii : f + t - 1 = i := by have := HI.out; omega
    rw [hii, ← HBX.out]
    exact bodyPost_ret (v := .agg #[.slice (some ⟨g, 0, none⟩) (f + t) cap, .int .i64 ((f : Int) + (t : Int))]) (by simp [results, Try.results44, go_sem, r0, r1, World.cell?_setCell_other]) rfl ⟨rfl, HV2.out.keep hkk (fun k h1 h2 => by
        rw [List.mem_singleton] at h2
        subst h2
        exact hlow (by rw [Option.mem_toList]; exact h1)),
      (((HK2.out.mono (by simp [Value.ownBlock])).setCell (p := ⟨w.heap.size + 1, 0, none⟩) (Or.inr (by simp)) _).setCell (p := ⟨w.heap.size + 1, 1, none⟩) (Or.inr (by simp)) _)⟩
end Go.Proofs.Ytedopiojidaeiaa
