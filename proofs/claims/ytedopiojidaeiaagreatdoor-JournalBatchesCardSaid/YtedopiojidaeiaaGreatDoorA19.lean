/- FCrsh, FCrash, laid together. -/
import Derived.Test.YtedopiojidaeiaaGreatDoorA18
import Derived.Laws.BitsAllLaws
/- file's crashed: what a crash leaves of one file. -/
set_option linter.unusedSimpArgs false
set_option linter.unusedVariables false
namespace Go.Proofs.YtedopiojidaeiaaGreatDoor
open Go.RowKit Go.Deep Go.Maps

/-- A byte, spoilt. -/
def spb (x : UInt8) (s : Int) : UInt8 := UInt8.ofNat (x.toNat ^^^ (IntKind.u8.wrap s).toNat)
theorem wrap_mod (s : Int) : IntKind.u8.wrap s = s % 256 := by simp [IntKind.wrap, IntKind.signed, IntKind.bits]
theorem wrap_u8 (s : Int) : 0 ≤ IntKind.u8.wrap s ∧ IntKind.u8.wrap s < 256 := by
  have e : IntKind.u8.wrap s = s % 256 := by simp [IntKind.wrap, IntKind.signed, IntKind.bits]
  rw [e]; omega
theorem spb_bits (x : UInt8) (s : Int) : bits .xor .u8 (x.toNat : Int) (IntKind.u8.wrap s) = ((spb x s).toNat : Int) := by
  have h1 := wrap_u8 s
  have hx := x.toNat_lt
  have e : IntKind.u8.wrap s = ((IntKind.u8.wrap s).toNat : Int) := by omega
  have h3 : x.toNat ^^^ (IntKind.u8.wrap s).toNat < 256 := Nat.xor_lt_two_pow (n := 8) (by omega) (by omega)
  rw [e, u8_xor_nat _ _ x.toNat_lt (by omega)]
  unfold spb
  rw [UInt8.toNat_ofNat']
  rw [Nat.mod_eq_of_lt (by omega)]
/-- How many bytes that were not flushed a crash leaves. -/
def leftN (l : Int) (k : Nat) : Nat := (min (max l 0) (k : Int)).toNat
/-- What a crash leaves of a file. -/
def crX (l s : Int) (x : FI) : FI :=
  ⟨x.name, if leftN l (x.bytes.length - x.safe) = 0 then x.bytes.take (x.safe + leftN l (x.bytes.length - x.safe)) else
    (x.bytes.take (x.safe + leftN l (x.bytes.length - x.safe))).set (x.safe + leftN l (x.bytes.length - x.safe) - 1) (spb (x.bytes.getD (x.safe + leftN l (x.bytes.length - x.safe) - 1) 0) s), x.safe + leftN l (x.bytes.length - x.safe)⟩

theorem own_set {B : Nat} {w : World} {g n cap : Nat} {l : List UInt8} (h : Own B w (.slice (some ⟨g, 0, none⟩) n cap) l) (i : Nat) (hi : i < n) (b : UInt8) : Own B (w.setCell ⟨g, i, none⟩ (.int .u8 b.toNat)) (.slice (some ⟨g, 0, none⟩) n cap) (l.set i b) := by
  obtain ⟨h1, h2⟩ := h
  rcases h2 with ⟨hv, h0⟩ | ⟨g', cap', cur, hv, hg, hh, hc, hx, hsz, htk⟩
  · cases hv
  · simp only [Value.slice.injEq, Option.some.injEq, Addr.mk.injEq, and_true] at hv
    obtain ⟨rfl, hn, rfl⟩ := hv
    refine ⟨by rw [Lib.byteCells_length, Nat.mul_one], Or.inr ⟨g, cap, cur.setIfInBounds i (.int .u8 b.toNat), by rw [List.length_set, hn], hg, blk_set hh i _, by rw [List.length_set]; exact hc, hx, by simpa using hsz, ?_⟩⟩
    have e : Lib.byteCells (l.set i b) = (Lib.byteCells l).set i (.int .u8 b.toNat) := by simp [Lib.byteCells, List.map_set]
    rw [e, ← htk]
    simp [List.take_set]
theorem own_cell {B : Nat} {w : World} {g n cap : Nat} {l : List UInt8} (h : Own B w (.slice (some ⟨g, 0, none⟩) n cap) l) (i : Nat) (hi : i < n) : w.cell? ⟨g, i, none⟩ = some (.int .u8 (l.getD i 0).toNat) := by
  have hn : n = l.length := by
    obtain ⟨p, c, e, -⟩ := own_len h
    simp only [Value.slice.injEq] at e
    exact e.2.1
  have := World.ownsRow.cells h (g := g) rfl i (.int .u8 (l.getD i 0).toNat) (by
    simp [Lib.byteCells, List.getD, show i < l.length by omega])
  have e : (⟨g, 0, none⟩ : Addr).add i = ⟨g, i, none⟩ := by cases i <;> simp [Addr.add]
  rwa [e] at this
theorem own_free {B : Nat} {w : World} {g n cap : Nat} {l : List UInt8} (h : Own B w (.slice (some ⟨g, 0, none⟩) n cap) l) (i : Nat) : w.frozen? ⟨g, i, none⟩ = false := by
  rcases h.2 with ⟨hv, h0⟩ | ⟨g', cap', cur, hv, hg, hh, _⟩
  · cases hv
  · simp only [Value.slice.injEq, Option.some.injEq, Addr.mk.injEq, and_true] at hv
    obtain ⟨rfl, _, _⟩ := hv
    simp [World.frozen?, hh]

set_option maxHeartbeats 1000000 in
theorem crashed_any (B : Nat) (w : World) (p : Option Addr) (n cap f : Nat) (l : List UInt8) (q s : Int) (h : Own B w (.slice p n cap) l) (hf : f ≤ n) (hn : n ≤ 1000000000) (hq : in64 q) :
    Calls Tryz.prog 75 #[.agg #[.slice p n cap, .int .i64 f], .int .i64 q, .int .i64 s] w fun e w' =>
      e = .returned (.agg #[.slice p (f + leftN q (n - f)) cap, .int .i64 (f + leftN q (n - f) : Nat)]) ∧
      Own B w' (.slice p (f + leftN q (n - f)) cap) (if leftN q (n - f) = 0 then l.take (f + leftN q (n - f)) else (l.take (f + leftN q (n - f))).set (f + leftN q (n - f) - 1) (spb (l.getD (f + leftN q (n - f) - 1) 0) s)) ∧ Keep (Value.slice p n cap).ownBlock.toList w w' := by
  obtain ⟨hp1, hp2, hp3, hp4⟩ := own_shape h
  obtain ⟨t, ht⟩ : ∃ t, t = leftN q (n - f) := ⟨_, rfl⟩
  rw [← ht]
  have hmm : min (max q 0) ((n : Int) - (f : Int)) = (t : Int) := by rw [ht]; unfold leftN; omega
  have htn : f + t ≤ n := by omega
  have HF := fun x => first_any x p n cap f (f + t) htn hp1 hp2 hp3 hp4
  rw [show min f (f + t) = f by omega] at HF
  simp only [Int.natCast_add] at HF
  replace HF := Lib.hid HF
  have HO := Lib.hid h
  have hln : n = l.length := by
    obtain ⟨p', c, e, -⟩ := own_len h
    simp only [Value.slice.injEq] at e
    exact e.2.1
  have HLN := Lib.hid hln
  have W2 := Lib.hid (((Bel.refl w).alloc (.cells #[.slice p n cap, .int .i64 f] 97)).alloc (.cells #[.slice none 0 0, .int .i64 0] 97))
  have hB1 : B ≤ w.heap.size ∨ True := Or.inr trivial
  by_cases h0 : t = 0
  · rw [if_pos h0]
    have ht0 : ¬ (0 < (t : Int)) := by omega
    have H0 := Lib.hid h0
    clear ht h hp1 hp2 hp3 hp4 hln h0 hB1
    go_enter Tryz.func75, Tryz.ntmps75
    go_wp2_with (fail)
    refine (HF.out _).mono ?_
    rintro e w1 ⟨rfl, hb1⟩
    have HB := Lib.hid (W2.out.trans hb1)
    have hz : w.heap.size + 1 < w1.heap.size := by have := hb1.size; simp at this; omega
    have q0 : w1.cell? ⟨w.heap.size + 1, 0, none⟩ = some (.slice none 0 0) := cell_later hb1 (by go_simp)
    have q1 : w1.cell? ⟨w.heap.size + 1, 1, none⟩ = some (.int .i64 0) := cell_later hb1 (by go_simp)
    have qf : ∀ i, w1.frozen? ⟨w.heap.size + 1, i, none⟩ = false := fun i => (hb1.frozen _ _ (by simp)).trans (by simp)
    clear hb1
    go_wp2_with (fail)
    refine (saved_any _ p (f + t) cap f).mono ?_
    rintro e w2 ⟨rfl, hb2⟩
    have HB2 := Lib.hid (HB.out.trans (((Bel.refl w1).alloc (.cells #[.slice p (f + t) cap, .int .i64 f] 97)).trans hb2))
    have r0 : w2.cell? ⟨w.heap.size + 1, 0, none⟩ = some (.slice none 0 0) := cell_later hb2 (cell_later ((Bel.refl w1).alloc _) q0)
    have r1 : w2.cell? ⟨w.heap.size + 1, 1, none⟩ = some (.int .i64 0) := cell_later hb2 (cell_later ((Bel.refl w1).alloc _) q1)
    have rf : ∀ i, w2.frozen? ⟨w.heap.size + 1, i, none⟩ = false := fun i => (hb2.frozen _ _ (by simp; omega)).trans ((((Bel.refl w1).alloc _).frozen _ _ hz).trans (qf i))
    clear hb2
    go_wp2_with (fail)
    have hval := (own_first HO.out (f + t) htn).bel HB2.out
    have hlow : w.heap.size + 1 ∉ (Value.slice p (f + t) cap).ownBlock.toList := own_old (own_first HO.out (f + t) htn) (Nat.le_succ _)
    have hkk : Keep [w.heap.size + 1] w2 ((w2.setCell ⟨w.heap.size + 1, 0, none⟩ (.slice p (f + t) cap)).setCell ⟨w.heap.size + 1, 1, none⟩ (.int .i64 ((f : Int) + (t : Int)))) :=
      ((Keep.refl _ w2).setCell (p := ⟨w.heap.size + 1, 0, none⟩) (Or.inl (by simp)) _).setCell (p := ⟨w.heap.size + 1, 1, none⟩) (Or.inl (by simp)) _
    exact bodyPost_ret (v := .agg #[.slice p (f + t) cap, .int .i64 ((f : Int) + (t : Int))]) (by simp [results, Tryz.results75, go_sem, r0, r1, World.cell?_setCell_other]) rfl ⟨rfl, hval.keep hkk (fun k h1 h2 => by
        rw [List.mem_singleton] at h2
        subst h2
        exact hlow (by rw [Option.mem_toList]; exact h1)),
      ((Keep.of_bel HB2.out _).setCell (p := ⟨w.heap.size + 1, 0, none⟩) (Or.inr (by simp)) _).setCell (p := ⟨w.heap.size + 1, 1, none⟩) (Or.inr (by simp)) _⟩
  · rw [if_neg h0]
    have ht0 : 0 < (t : Int) := by omega
    clear ht hln hB1
    cases p with
    | none => have := (hp4 rfl).1; omega
    | some ad =>
    have := hp3 ad rfl
    generalize ad.block = g at this
    subst this
    clear hp1 hp2 hp3 hp4 h
    obtain ⟨i, hi⟩ : ∃ i, f + t = i + 1 := ⟨f + t - 1, by omega⟩
    have hidx : (f : Int) + (t : Int) - 1 = (i : Int) := by omega
    have hgw : g < w.heap.size := (HO.out.lt g rfl).2
    obtain ⟨bx, hbx⟩ : ∃ bx, bx = l.getD i 0 := ⟨_, rfl⟩
    have HBX := Lib.hid hbx
    have hx : bits .xor .u8 (bx.toNat : Int) (s % 256) = ((spb bx s).toNat : Int) := by rw [← spb_bits, wrap_mod]
    have HI := Lib.hid hi
    have hib : i < f + t := by omega
    have hin : (i : Int) < (f : Int) + (t : Int) := by omega
    clear hi h0
    go_enter Tryz.func75, Tryz.ntmps75
    go_wp2_with (fail)
    refine (HF.out _).mono ?_
    rintro e w1 ⟨rfl, hb1⟩
    have HB := Lib.hid (W2.out.trans hb1)
    have hz : w.heap.size + 1 < w1.heap.size := by have := hb1.size; simp at this; omega
    have q0 : w1.cell? ⟨w.heap.size + 1, 0, none⟩ = some (.slice none 0 0) := cell_later hb1 (by go_simp)
    have q1 : w1.cell? ⟨w.heap.size + 1, 1, none⟩ = some (.int .i64 0) := cell_later hb1 (by go_simp)
    have qf : ∀ i, w1.frozen? ⟨w.heap.size + 1, i, none⟩ = false := fun i => (hb1.frozen _ _ (by simp)).trans (by simp)
    have d0 : w1.cell? ⟨g, i, none⟩ = some (.int .u8 bx.toNat) := by rw [hbx]; exact cell_later HB.out (own_cell HO.out i (by omega))
    have df : w1.frozen? ⟨g, i, none⟩ = false := (HB.out.frozen _ _ hgw).trans (own_free HO.out i)
    have hg1 : g < w1.heap.size := by omega
    clear hb1 hbx
    go_wp2_with (fail)
    refine (saved_any _ (some ⟨g, 0, none⟩) (f + t) cap f).mono ?_
    rintro e w2 ⟨rfl, hb2⟩
    obtain ⟨x2, hx2⟩ : ∃ x2, x2 = w1.setCell ⟨g, i, none⟩ (.int .u8 (spb bx s).toNat) := ⟨_, rfl⟩
    rw [← hx2] at hb2
    have hb3 : Bel x2 w2 := ((Bel.refl x2).alloc _).trans hb2
    have K2 : Keep [g] w1 x2 := by rw [hx2]; exact keep_set w1 g i _
    have hx2s : x2.heap.size = w1.heap.size := by rw [hx2]; simp [World.setCell]
    have HK2 := Lib.hid (((Keep.of_bel HB.out [g]).trans K2 (fun x hx => Or.inl hx)).trans (Keep.of_bel hb3 [g]) (fun x hx => Or.inl hx))
    have HV2 := Lib.hid (show Own B w2 (.slice (some ⟨g, 0, none⟩) (f + t) cap) ((l.take (f + t)).set i (spb bx s)) by
      refine Own.bel ?_ hb3
      rw [hx2]
      exact own_set ((own_first HO.out (f + t) htn).bel HB.out) i hib _)
    have r0 : w2.cell? ⟨w.heap.size + 1, 0, none⟩ = some (.slice none 0 0) := cell_later hb3 (K2.cell q0 (by simp; omega))
    have r1 : w2.cell? ⟨w.heap.size + 1, 1, none⟩ = some (.int .i64 0) := cell_later hb3 (K2.cell q1 (by simp; omega))
    have rf : ∀ i, w2.frozen? ⟨w.heap.size + 1, i, none⟩ = false := fun i => (hb3.frozen _ _ (by omega)).trans ((K2.frozen (p := ⟨w.heap.size + 1, i, none⟩) hz (by simp; omega)).trans (qf i))
    clear hb2 hb3 K2 hx2 hx2s
    go_wp2_with (fail)
    have hlow : w.heap.size + 1 ∉ (Value.slice (some ⟨g, 0, none⟩) (f + t) cap).ownBlock.toList := own_old (own_first HO.out (f + t) htn) (Nat.le_succ _)
    have hkk : Keep [w.heap.size + 1] w2 ((w2.setCell ⟨w.heap.size + 1, 0, none⟩ (.slice (some ⟨g, 0, none⟩) (f + t) cap)).setCell ⟨w.heap.size + 1, 1, none⟩ (.int .i64 ((f : Int) + (t : Int)))) :=
      ((Keep.refl _ w2).setCell (p := ⟨w.heap.size + 1, 0, none⟩) (Or.inl (by simp)) _).setCell (p := ⟨w.heap.size + 1, 1, none⟩) (Or.inl (by simp)) _
    have hii : f + t - 1 = i := by have := HI.out; omega
    rw [hii, ← HBX.out]
    exact bodyPost_ret (v := .agg #[.slice (some ⟨g, 0, none⟩) (f + t) cap, .int .i64 ((f : Int) + (t : Int))]) (by simp [results, Tryz.results75, go_sem, r0, r1, World.cell?_setCell_other]) rfl ⟨rfl, HV2.out.keep hkk (fun k h1 h2 => by
        rw [List.mem_singleton] at h2
        subst h2
        exact hlow (by rw [Option.mem_toList]; exact h1)),
      (((HK2.out.mono (by simp [Value.ownBlock])).setCell (p := ⟨w.heap.size + 1, 0, none⟩) (Or.inr (by simp)) _).setCell (p := ⟨w.heap.size + 1, 1, none⟩) (Or.inr (by simp)) _)⟩
end Go.Proofs.YtedopiojidaeiaaGreatDoor
/- file's Crash. -/
set_option linter.unusedSimpArgs false
set_option linter.unusedVariables false
namespace Go.Proofs.YtedopiojidaeiaaGreatDoor
open Go.RowKit Go.Deep Go.Maps

/-- What a crash leaves of files, from the k-th number on. -/
def crashF (lf sp : List Int) : Nat → List FI → List FI
  | _, [] => []
  | k, x :: L => if x.safe = x.bytes.length then x :: crashF lf sp k L else crX (atN lf k) (atN sp k) x :: crashF lf sp (k + 1) L
def onM (M : RS) : RS := { M with turns := -1, gone := false }
def crashS (lf sp : List Int) (M : RS) : RS := { onM M with L := crashF lf sp 0 M.L }
theorem IntsAt.keep {w x : World} {p : Option Addr} {L : List Int} {G : List Nat} (h : IntsAt w p L) (hk : Keep G w x) (hb : ∀ a, p = some a → L ≠ [] → a.block ∉ G) : IntsAt x p L := by
  intro i hi
  obtain ⟨a, ha, hc⟩ := h i hi
  exact ⟨a, ha, hk.cell hc (by rw [add_block]; exact hb a ha (by rintro rfl; simp at hi))⟩
theorem srt_names {L K : List FI} (h : L.map (·.name) = K.map (·.name)) (hs : Srt L) : Srt K := by
  have e : ∀ {L : List FI}, Srt L ↔ (L.map (·.name)).Pairwise (fun a b => Op.bytesLess a b = true) := by intro L; rw [Srt, List.pairwise_map]
  rw [e] at hs ⊢
  rw [← h]; exact hs
theorem ins_at {x y : FI} {B : List FI} : ∀ {A : List FI}, Srt (A ++ x :: B) → y.name = x.name → insS y (A ++ x :: B) = A ++ y :: B
  | [], hs, hn => by rw [List.nil_append, ins_cons, hn, bl_irrefl]; simp
  | a :: A, hs, hn => by
    rw [List.cons_append] at hs
    have h2 := srt_cons.1 hs
    have : Op.bytesLess a.name y.name = true := by rw [hn]; exact h2.1 x (by simp)
    rw [List.cons_append, ins_cons, if_pos this, ins_at h2.2 hn, List.cons_append]
theorem at_in64 {L : List Int} (h : ∀ n ∈ L, in64 n) (k : Nat) : in64 (atN L k) := by
  unfold atN
  cases hk : L[k]? with
  | none => exact ⟨by decide, by decide⟩
  | some a => exact h a (List.mem_of_getElem? hk)
theorem crX_name (l s : Int) (x : FI) : (crX l s x).name = x.name := rfl
def CrRel (n₀ : Nat) (w2 : World) (b : Nat) (M : RS) (mv : Value) (t : Int) (F : List Nat) (lf sp : List Int) (k i : Value) (x : World) : Prop :=
  ∃ (j kk : Nat) (dn : List FI), i = .int .i64 j ∧ k = .int .i64 kk ∧ j ≤ M.L.length ∧ kk ≤ j ∧ crashF lf sp 0 M.L = dn ++ crashF lf sp kk (M.L.drop j) ∧ (dn ++ M.L.drop j).map (·.name) = M.L.map (·.name) ∧ dn.length = j ∧
    Hdr x b (onM M) mv t ∧ FilesAt n₀ x mv (dn ++ M.L.drop j) F ∧ Keep F w2 x

set_option maxHeartbeats 4000000 in
set_option maxRecDepth 20000 in
theorem pcrash_any (n₀ : Nat) (w : World) (b : Nat) (M : RS) (F : List Nat) (lf sp : SI) (h : ProgAt n₀ w b M F) (hS : Srt M.L) (hL : M.L.length ≤ 1000) (hB : ∀ x ∈ M.L, x.bytes.length ≤ 1000000000 ∧ x.safe ≤ x.bytes.length ∧ x.name.length ≤ 1000)
    (hlf : SI.ok w lf) (hsp : SI.ok w sp) (nl : ∀ a, lf.p = some a → lf.L ≠ [] → a.block ∉ F) (ns : ∀ a, sp.p = some a → sp.L ≠ [] → a.block ∉ F) :
    Calls Tryz.prog 31 #[.pointer (some ⟨b, 0, none⟩), lf.val, sp.val] w fun e w' => (∃ u, e = .returned u) ∧ ProgTo n₀ w w' b (crashS lf.L sp.L M) F := by
  have HP := Lib.hid h
  obtain ⟨⟨mv, t, hb, ht, h64, hf⟩, hlow, hbF, hFw⟩ := h
  have c2 : w.cell? ⟨b, 2, none⟩ = some (.bool (decide (0 ≤ M.turns))) := by simp [World.cell?, hb]
  have c4 : w.cell? ⟨b, 4, none⟩ = some (.bool M.gone) := by simp [World.cell?, hb]
  have f2 : w.frozen? ⟨b, 2, none⟩ = false := by simp [World.frozen?, hb]
  have f4 : w.frozen? ⟨b, 4, none⟩ = false := by simp [World.frozen?, hb]
  have HH := Lib.hid (show Hdr w b M mv t from ⟨hb, ht, h64⟩)
  have HS := Lib.hid hS
  have HBD := Lib.hid hB
  have HFW := Lib.hid hFw
  have HFA := Lib.hid hf
  have HLF := Lib.hid hlf
  have HSP := Lib.hid hsp
  have HNL := Lib.hid nl
  have HNS := Lib.hid ns
  have hbw : b < w.heap.size := (hFw b hbF).2
  clear hb hf hFw ht hS hB hlf hsp nl ns
  unfold SI.val
  go_enter Tryz.func31, Tryz.ntmps31
  go_wp2_with (fail)
  obtain ⟨w1, hw1⟩ : ∃ w1, w1 = (w.setCell ⟨b, 4, none⟩ (.bool false)).setCell ⟨b, 2, none⟩ (.bool false) := ⟨_, rfl⟩
  rw [← hw1]
  have hK1 : Keep [b] w w1 := by
    rw [hw1]
    exact ((Keep.refl _ w).setCell (p := ⟨b, 4, none⟩) (Or.inl (by simp)) _).setCell (p := ⟨b, 2, none⟩) (Or.inl (by simp)) _
  have hH1 : Hdr w1 b (onM M) mv t := by
    rw [hw1]
    exact ⟨by rw [blk_set (blk_set HH.out.1 4 _) 2 _]; rfl, fun h => by simp [onM] at h, HH.out.2.2⟩
  have hP1 : ProgTo n₀ w w1 b (onM M) F := HP.out.set2 (M' := onM M) (fun mv' t' h1 h2 h3 => ⟨t', by rw [hw1, blk_set (blk_set h1 4 _) 2 _]; rfl, fun h => by simp [onM] at h, h3⟩) rfl hK1
  have hF1 : FilesAt n₀ w1 mv M.L F := by
    rcases HFA.out with hf | ⟨mb, D, V, rfl, hV, hmF, hvF⟩
    · exact Or.inl hf
    · refine Or.inr ⟨mb, D, V, rfl, hV.keep hK1 (by have := HH.out.ne hV.own; simpa using fun e => this e.symm) (fun y hy _ k hk1 hk2 => ?_), hmF, hvF⟩
      rw [List.mem_singleton] at hk2
      subst hk2
      exact HH.out.ne_row (hV.val y hy (by simp)) (by rw [Option.mem_toList]; exact hk1)
  have hPA1 : ProgAt n₀ w1 b (onM M) F := ⟨⟨mv, t, hH1.1, hH1.2.1, hH1.2.2, hF1⟩, hlow, hbF, fun k hk => ⟨(HFW.out k hk).1, Nat.lt_of_lt_of_le (HFW.out k hk).2 hK1.size⟩⟩
  have KF1 := Lib.hid (hK1.mono (G := F) (fun x hx => by rw [List.mem_singleton] at hx; rw [hx]; exact hbF))
  have HH1 := Lib.hid hH1
  have HF1 := Lib.hid hF1
  have HPA1 := Lib.hid hPA1
  have HX1 := Lib.hid hw1
  clear hw1 hK1 hH1 hP1 hF1 hPA1 c2 c4 f2 f4
  refine (pnames_any n₀ w1 b (onM M) F HPA1.out HS.out hL).mono ?_
  rintro e w2 ⟨v, rfl, hnm, hb2⟩
  change OwnG strEl w1.heap.size w2 v (M.L.map (·.name)) at hnm
  have HB2 := Lib.hid hb2
  have HNM := Lib.hid hnm
  obtain ⟨np, ncap, hnv⟩ := ownG_len hnm
  rw [List.length_map] at hnv
  subst hnv
  have KF2 := Lib.hid (KF1.out.then hb2)
  clear hnm hb2
  go_wp2_with (fail)
  go_loopw [6, 19] (fun k i x => CrRel n₀ w2 b M mv t F lf.L sp.L k i x) (fun _ i _ => M.L.length - (intOf i).toNat)
  case atStart => exact ⟨0, 0, [], rfl, rfl, Nat.zero_le _, Nat.le_refl _, by simp, by simp, rfl, HH1.out.keep (Keep.of_bel HB2.out []) (by simp), by simpa using HF1.out.bel HB2.out, Keep.refl _ _⟩
  case round =>
    obtain ⟨j, kk, dn, rfl, rfl, hj, hkj, hcr, hnms, hdl, hhd, hfs, hkp⟩ := hrel
    have HCR := Lib.hid hcr
    have HNS2 := Lib.hid hnms
    have HDL := Lib.hid hdl
    have HHD := Lib.hid hhd
    have HFS := Lib.hid hfs
    have HKP := Lib.hid hkp
    clear hcr hnms hdl hhd hfs hkp
    by_cases hlt : j < M.L.length
    · have hne : M.L.map (·.name) ≠ [] := by intro e; rw [List.map_eq_nil_iff] at e; rw [e] at hlt; simp at hlt
      have hnF : ∀ k, (Value.slice np (M.L.map (·.name)).length ncap).ownBlock = some k → k ∉ F := fun k hk hk2 => by
        have h1 := (HNM.out.lt k (by rw [List.length_map] at hk; exact hk)).1
        have h2 := (HFW.out k hk2).2
        have h3 := KF1.out.size
        omega
      have hnm2 := HNM.out.keep HKP.out (fun k hk => hnF k (by rw [List.length_map]; exact hk))
      obtain ⟨g, ncap', hv, _, hgl, _, hcs⟩ := ownG_cells strOk hnm2 hne
      rw [List.length_map] at hv
      simp only [Value.slice.injEq, true_and] at hv
      obtain ⟨rfl, rfl⟩ := hv
      obtain ⟨y, hy⟩ : ∃ y, y = M.L[j] := ⟨_, rfl⟩
      have d0 := hcs j M.L[j].name (by rw [List.getElem?_map, List.getElem?_eq_getElem hlt]; rfl) 0 _ rfl
      rw [← hy] at d0
      have HBY := Lib.hid (HBD.out M.L[j] (List.getElem_mem hlt))
      rw [← hy] at HBY
      have hdrop : M.L.drop j = y :: M.L.drop (j + 1) := by rw [hy]; exact List.drop_eq_getElem_cons hlt
      have HDR := Lib.hid hdrop
      rw [hdrop] at HFS HCR HNS2
      have HS2 := Lib.hid (srt_names HNS2.out.symm HS.out)
      have hym : y ∈ dn ++ y :: M.L.drop (j + 1) := by simp
      have hgy := getF_of_mem HS2.out hym
      rcases HFS.out with ⟨_, h0⟩ | ⟨mb, D, V, hmv, hV, hmF, hvF⟩
      · simp at h0
      subst hmv
      obtain ⟨p, cap, hp, -⟩ := own_len (hV.val y hym (by simp))
      have HV := Lib.hid hV
      have HGY := Lib.hid hgy
      have HPV := Lib.hid hp
      have HMF := Lib.hid hmF
      have HVF := Lib.hid hvF
      obtain ⟨hb1, hb2, hb3⟩ := HBY.out
      have hsz : (⟨y.name.toArray⟩ : ByteArray).size ≤ maxLen := by show y.name.toArray.size ≤ _; rw [List.size_toArray]; unfold maxLen; omega
      have hnmL : (⟨y.name.toArray⟩ : ByteArray).data.toList = y.name := by simp
      have HLK := Lib.hid (fun z (hz : Bel wr z) => run_look_some (hV.bel hz) ⟨y.name.toArray⟩ hsz (by rw [hnmL]; exact hgy) false)
      rw [hnmL, hp] at HLK
      have c1 : wr.cell? ⟨b, 1, none⟩ = some (.map (some mb)) := by simp [World.cell?, HHD.out.1]
      have hbx : b < wr.heap.size := block_lt_of_cell c1
      have HMEM := Lib.hid hym
      have hsz2 := Lib.hid hsz
      have HNML := Lib.hid hnmL
      have hjk : kk ≤ 1000000 := by omega
      simp only [strEl, Nat.mul_one, Nat.add_zero] at d0
      clear hcs hnm2 hne hnF hy hdrop hym hgy hV hp hmF hvF hnmL hsz
      by_cases hsv : y.safe = y.bytes.length
      · have hbe : ((y.safe : Int) == (y.bytes.length : Int)) = true := by rw [beq_iff_eq, hsv]
        have HSV := Lib.hid hsv
        clear hsv
        go_wp2_with (at_lookup; refine wpList_look (HLK.out _ (Bel.refl _)) rfl _ _ rfl rfl rfl ?_; unfold conV)
        refine (issaved_any _ p y.bytes.length cap y.safe).mono ?_
        rintro e w3 ⟨rfl, hb4⟩
        rw [hbe]
        have HB4 := Lib.hid (((Bel.refl wr).alloc _).trans hb4)
        clear hb4 hbe
        go_wp2_with (fail)
        go_roundw
        case rel =>
          refine ⟨j + 1, kk, dn ++ [y], by go_num, rfl, by omega, by omega, ?_, by simpa using HNS2.out, by simp [HDL.out], HHD.out.keep (Keep.of_bel HB4.out []) (by simp), ?_, HKP.out.then HB4.out⟩
          · rw [HCR.out, crashF, if_pos HSV.out]; simp
          · have := HFS.out.bel HB4.out
            simpa using this
        case measure => simp [intOf]; omega
      · have hbe : ((y.safe : Int) == (y.bytes.length : Int)) = false := by rw [beq_eq_false_iff_ne]; omega
        have HSV := Lib.hid hsv
        clear hsv
        go_wp2_with (at_lookup; refine wpList_look (HLK.out _ (Bel.refl _)) rfl _ _ rfl rfl rfl ?_; unfold conV)
        refine (issaved_any _ p y.bytes.length cap y.safe).mono ?_
        rintro e w3 ⟨rfl, hb4⟩
        rw [hbe]
        have HB4 := Lib.hid (((Bel.refl wr).alloc _).trans hb4)
        have e0 : w3.cell? ⟨wr.heap.size, 0, none⟩ = some (.slice p y.bytes.length cap) := cell_later hb4 (by go_simp)
        have e1 : w3.cell? ⟨wr.heap.size, 1, none⟩ = some (.int .i64 y.safe) := cell_later hb4 (by go_simp)
        have e4 : w3.cell? ⟨b, 1, none⟩ = some (.map (some mb)) := cell_later HB4.out c1
        clear hb4 hbe
        go_wp2_with (fail)
        have KW3 := Lib.hid ((KF2.out.trans HKP.out (fun x hx => Or.inl hx)).then HB4.out)
        have hil := HLF.out.1.keep KW3.out HNL.out
        have his := HSP.out.1.keep KW3.out HNS.out
        have HIlf := Lib.hid (fun z (hz : Bel w3 z) => hil.bel hz)
        have HIsp := Lib.hid (fun z (hz : Bel w3 z) => his.bel hz)
        have Llf := Lib.hid HLF.out.2.1
        have Lsp := Lib.hid HSP.out.2.1
        have HAQ := Lib.hid (at_in64 HLF.out.2.2 kk)
        have HOW := Lib.hid (show Own n₀ wr (.slice p y.bytes.length cap) y.bytes from HPV.out ▸ HV.out.val y HMEM.out (by simp))
        have HQ9 := Lib.hid (own_old HOW.out (Nat.le_refl _))
        have HQB := Lib.hid (HHD.out.ne_row HOW.out)
        have HRF := Lib.hid (show ∀ k ∈ (Value.slice p y.bytes.length cap).ownBlock.toList, k ∈ F from fun k hk => HVF.out y HMEM.out k (by rw [HPV.out]; rwa [Option.mem_toList] at hk))
        have NB9 : wr.heap.size ≠ mb := by have := HV.out.lt; omega
        have N4 := HHD.out.ne HV.out.own
        have HLEN := Lib.hid (show (dn ++ y :: M.L.drop (j + 1)).length ≤ 1000000 by have := congrArg List.length HNS2.out; simp only [List.length_map] at this; omega)
        have D0 := (Bel.refl w3).drew
        clear hil his
        refine wp_region_held_drew (S := fun z => (z.cell? ⟨wr.heap.size, 0, none⟩ = some (.slice p y.bytes.length cap) ∧ z.cell? ⟨wr.heap.size, 1, none⟩ = some (.int .i64 y.safe) ∧ z.cell? ⟨b, 1, none⟩ = some (.map (some mb)))) (by kernel_rfl) ⟨e0, e1, e4⟩ (fun hHeld => ?_)
        refine wpAnyH_take (i := 0) (oi := { dst := some 32, op := Op.move (Operand.tmp 0), type := 48, pos := "file.go:161", after := #[], guard := none }) (v := ?_) rfl (by kernel_rfl) (by kernel_rfl) (by kernel_rfl) (fun _ _ _ h => h) (Or.inl ⟨by rfl, ?_⟩) (by assumption) ?_
        rotate_left
        · (intro w hSw; (try dsimp only at hSw); first | (go_simp; done) | (go_simp; with_reducible rfl))
        try simp only [Act.put, List.setIfInBounds_toArray, List.set_cons_zero, List.set_cons_succ]
        refine wpAnyH_take (i := 1) (oi := { dst := some 33, op := Op.nilCheck (Operand.tmp 32), type := 0, pos := "file.go:161", after := #[{ on := 0, ground := Ground.data }], guard := none }) (v := ?_) rfl (by kernel_rfl) (by kernel_rfl) (by kernel_rfl) (fun _ _ _ h => h) (Or.inl ⟨by rfl, ?_⟩) (by assumption) ?_
        rotate_left
        · (intro w hSw; (try dsimp only at hSw); first | (go_simp; done) | (go_simp; with_reducible rfl))
        try simp only [Act.put, List.setIfInBounds_toArray, List.set_cons_zero, List.set_cons_succ]
        refine wpAnyH_take (i := 2) (oi := { dst := some 34, op := Op.fieldAddr 92 (Operand.tmp 33) 1, type := 0, pos := "file.go:161", after := #[{ on := 1, ground := Ground.data }], guard := none }) (v := ?_) rfl (by kernel_rfl) (by kernel_rfl) (by kernel_rfl) (fun _ _ _ h => h) (Or.inl ⟨by rfl, ?_⟩) (by assumption) ?_
        rotate_left
        · (intro w hSw; (try dsimp only at hSw); first | (go_simp; done) | (go_simp; with_reducible rfl))
        try simp only [Act.put, List.setIfInBounds_toArray, List.set_cons_zero, List.set_cons_succ]
        refine wpAnyH_take (i := 3) (oi := { dst := some 35, op := Op.load 90 (Operand.tmp 34), type := 90, pos := "file.go:161", after := #[{ on := 2, ground := Ground.data }], guard := none }) (v := ?_) rfl (by kernel_rfl) (by kernel_rfl) (by kernel_rfl) (fun _ _ _ h => h) (Or.inl ⟨by rfl, ?_⟩) (by assumption) ?_
        rotate_left
        · (intro w hSw; (try dsimp only at hSw); first | (go_simp; done) | (go_simp; with_reducible rfl))
        try simp only [Act.put, List.setIfInBounds_toArray, List.set_cons_zero, List.set_cons_succ]
        refine wpAnyH_take (i := 4) (oi := { dst := some 36, op := Op.move (Operand.tmp 8), type := 9, pos := "file.go:161", after := #[], guard := none }) (v := ?_) rfl (by kernel_rfl) (by kernel_rfl) (by kernel_rfl) (fun _ _ _ h => h) (Or.inl ⟨by rfl, ?_⟩) (by assumption) ?_
        rotate_left
        · (intro w hSw; (try dsimp only at hSw); first | (go_simp; done) | (go_simp; with_reducible rfl))
        try simp only [Act.put, List.setIfInBounds_toArray, List.set_cons_zero, List.set_cons_succ]
        refine wpAnyH_take (i := 5) (oi := { dst := some 37, op := Op.load 97 (Operand.tmp 9), type := 97, pos := "file.go:161", after := #[], guard := none }) (v := ?_) rfl (by kernel_rfl) (by kernel_rfl) (by kernel_rfl) (fun _ _ _ h => h) (Or.inl ⟨by rfl, ?_⟩) (by assumption) ?_
        rotate_left
        · (intro w hSw; (try dsimp only at hSw); first | (go_simp; done) | (go_simp; with_reducible rfl))
        try simp only [Act.put, List.setIfInBounds_toArray, List.set_cons_zero, List.set_cons_succ]
        refine wpAnyH_take (i := 6) (oi := { dst := some 38, op := Op.move (Operand.tmp 1), type := 25, pos := "file.go:161", after := #[], guard := none }) (v := ?_) rfl (by kernel_rfl) (by kernel_rfl) (by kernel_rfl) (fun _ _ _ h => h) (Or.inl ⟨by rfl, ?_⟩) (by assumption) ?_
        rotate_left
        · (intro w hSw; (try dsimp only at hSw); first | (go_simp; done) | (go_simp; with_reducible rfl))
        try simp only [Act.put, List.setIfInBounds_toArray, List.set_cons_zero, List.set_cons_succ]
        refine wpAnyH_take (i := 7) (oi := { dst := some 39, op := Op.move (Operand.tmp 6), type := 3, pos := "file.go:161", after := #[], guard := none }) (v := ?_) rfl (by kernel_rfl) (by kernel_rfl) (by kernel_rfl) (fun _ _ _ h => h) (Or.inl ⟨by rfl, ?_⟩) (by assumption) ?_
        rotate_left
        · (intro w hSw; (try dsimp only at hSw); first | (go_simp; done) | (go_simp; with_reducible rfl))
        try simp only [Act.put, List.setIfInBounds_toArray, List.set_cons_zero, List.set_cons_succ]
        refine wpAnyH_take (i := 9) (oi := { dst := some 41, op := Op.move (Operand.tmp 2), type := 25, pos := "file.go:161", after := #[], guard := none }) (v := ?_) rfl (by kernel_rfl) (by kernel_rfl) (by kernel_rfl) (fun _ _ _ h => h) (Or.inl ⟨by rfl, ?_⟩) (by assumption) ?_
        rotate_left
        · (intro w hSw; (try dsimp only at hSw); first | (go_simp; done) | (go_simp; with_reducible rfl))
        try simp only [Act.put, List.setIfInBounds_toArray, List.set_cons_zero, List.set_cons_succ]
        refine wpAnyH_take (i := 10) (oi := { dst := some 42, op := Op.move (Operand.tmp 6), type := 3, pos := "file.go:161", after := #[], guard := none }) (v := ?_) rfl (by kernel_rfl) (by kernel_rfl) (by kernel_rfl) (fun _ _ _ h => h) (Or.inl ⟨by rfl, ?_⟩) (by assumption) ?_
        rotate_left
        · (intro w hSw; (try dsimp only at hSw); first | (go_simp; done) | (go_simp; with_reducible rfl))
        try simp only [Act.put, List.setIfInBounds_toArray, List.set_cons_zero, List.set_cons_succ]
        refine wpAnyH_ready (rs := [8]) (by kernel_rfl) (by simp) ?_
        refine AllReadyH.cons (o := { dst := some 40, op := Op.call { callee := Callee.value (Operand.func 76), args := #[Operand.tmp 38, Operand.tmp 39], argTypes := #[25, 3] }, type := 3, pos := "file.go:161", after := #[{ on := 6, ground := Ground.data }, { on := 7, ground := Ground.data }], guard := none }) rfl (fun K hK => ?_) AllReadyH.nil
        · go_simp
          refine (pat_any _ lf.p lf.cap lf.L kk (HIlf.out _ D0) Llf.out hjk).mono ?_
          rintro e wa ⟨rfl, hdwa⟩
          have Dwa := Lib.hid (Bel.trans D0 hdwa.bel)
          have Swa : (wa.cell? ⟨wr.heap.size, 0, none⟩ = some (.slice p y.bytes.length cap) ∧ wa.cell? ⟨wr.heap.size, 1, none⟩ = some (.int .i64 y.safe) ∧ wa.cell? ⟨b, 1, none⟩ = some (.map (some mb))) := ⟨cell_later Dwa.out e0, cell_later Dwa.out e1, cell_later Dwa.out e4⟩
          dsimp only
          refine hK.out _ _ Swa (fun hHeldwa => ?_)
          clear hK K hdwa
          try simp only [Act.put, List.setIfInBounds_toArray, List.set_cons_zero, List.set_cons_succ]
          refine wpAnyH_ready (rs := [11]) (by kernel_rfl) (by simp) ?_
          refine AllReadyH.cons (o := { dst := some 43, op := Op.call { callee := Callee.value (Operand.func 76), args := #[Operand.tmp 41, Operand.tmp 42], argTypes := #[25, 3] }, type := 3, pos := "file.go:161", after := #[{ on := 9, ground := Ground.data }, { on := 10, ground := Ground.data }, { on := 8, ground := Ground.chain }], guard := none }) rfl (fun K hK => ?_) AllReadyH.nil
          go_simp
          refine (pat_any _ sp.p sp.cap sp.L kk (HIsp.out _ Dwa.out) Lsp.out hjk).mono ?_
          rintro e wb ⟨rfl, hdwb⟩
          have Dwb := Lib.hid (Bel.trans Dwa.out hdwb.bel)
          have Swb : (wb.cell? ⟨wr.heap.size, 0, none⟩ = some (.slice p y.bytes.length cap) ∧ wb.cell? ⟨wr.heap.size, 1, none⟩ = some (.int .i64 y.safe) ∧ wb.cell? ⟨b, 1, none⟩ = some (.map (some mb))) := ⟨cell_later Dwb.out e0, cell_later Dwb.out e1, cell_later Dwb.out e4⟩
          dsimp only
          refine hK.out _ _ Swb (fun hHeldwb => ?_)
          clear hK K hdwb
          try simp only [Act.put, List.setIfInBounds_toArray, List.set_cons_zero, List.set_cons_succ]
          refine wpAnyH_ready (rs := [12]) (by kernel_rfl) (by simp) ?_
          refine AllReadyH.cons (o := { dst := some 44, op := Op.call { callee := Callee.value (Operand.func 75), args := #[Operand.tmp 37, Operand.tmp 40, Operand.tmp 43], argTypes := #[97, 3, 3] }, type := 97, pos := "file.go:161", after := #[{ on := 5, ground := Ground.data }, { on := 8, ground := Ground.data }, { on := 11, ground := Ground.data }, { on := 11, ground := Ground.chain }], guard := none }) rfl (fun K hK => ?_) AllReadyH.nil
          go_simp
          refine (crashed_any n₀ _ p y.bytes.length cap y.safe y.bytes (atN lf.L kk) (atN sp.L kk) (HOW.out.bel (HB4.out.trans Dwb.out)) hb2 hb1 HAQ.out).mono ?_
          rintro e w5 ⟨rfl, hv5, hk5⟩
          have HV5 := Lib.hid hv5
          have HK5 := Lib.hid (((Keep.of_bel (HB4.out.trans Dwb.out) _).trans hk5 (fun x hx => Or.inl hx)))
          have S5 : (w5.cell? ⟨wr.heap.size, 0, none⟩ = some (.slice p y.bytes.length cap) ∧ w5.cell? ⟨wr.heap.size, 1, none⟩ = some (.int .i64 y.safe) ∧ w5.cell? ⟨b, 1, none⟩ = some (.map (some mb))) := ⟨hk5.cell Swb.1 HQ9.out, hk5.cell Swb.2.1 HQ9.out, hk5.cell Swb.2.2 HQB.out⟩
          have HV2 := Lib.hid (show FilesV n₀ w5 mb D V (dn ++ y :: M.L.drop (j + 1)) (some y.name) from HV.out.but HMEM.out (by rw [HPV.out]; exact HK5.out))
          clear hv5 hk5
          dsimp only
          refine hK.out _ _ S5 (fun hHeld5 => ?_)
          clear hK K
          try simp only [Act.put, List.setIfInBounds_toArray, List.set_cons_zero, List.set_cons_succ]
          refine wpAnyH_ready (rs := [13]) (by kernel_rfl) (by simp) ?_
          refine AllReadyH.cons (o := { dst := none, op := Op.mapUpdate 90 (Operand.tmp 35) (Operand.tmp 36) (Operand.tmp 44), type := 0, pos := "file.go:161", after := #[{ on := 3, ground := Ground.data }, { on := 4, ground := Ground.data }, { on := 12, ground := Ground.data }, { on := 12, ground := Ground.chain }, { on := 0, ground := Ground.phase }, { on := 1, ground := Ground.phase }, { on := 2, ground := Ground.phase }, { on := 3, ground := Ground.phase }, { on := 4, ground := Ground.phase }, { on := 5, ground := Ground.phase }, { on := 6, ground := Ground.phase }, { on := 7, ground := Ground.phase }, { on := 8, ground := Ground.phase }, { on := 9, ground := Ground.phase }, { on := 10, ground := Ground.phase }, { on := 11, ground := Ground.phase }, { on := 12, ground := Ground.phase }], guard := none }) rfl (fun K hK => ?_) AllReadyH.nil
          refine step_store (mb := mb) (s := ⟨y.name.toArray⟩) (val := .agg #[.slice p (y.safe + leftN (atN lf.L kk) (y.bytes.length - y.safe)) cap, .int .i64 (y.safe + leftN (atN lf.L kk) (y.bytes.length - y.safe) : Nat)]) rfl (.tmp 35) (.tmp 36) (.tmp 44) rfl rfl rfl rfl HV2.out.own HLEN.out hsz2.out ?_
          intro w6 ho hk6
          refine hK.out _ _ ⟨hk6.cell S5.1 (by simpa using NB9), hk6.cell S5.2.1 (by simpa using NB9), hk6.cell S5.2.2 (by simpa using N4)⟩ (fun hHeld6 => ?_)
          clear hK K
          try simp only [Act.put, List.setIfInBounds_toArray, List.set_cons_zero, List.set_cons_succ]
          refine wpAnyH_done (by kernel_rfl) ?_ _
          have HO := Lib.hid ho
          have HK6 := Lib.hid hk6
          clear ho hk6 S5
          go_wp2_with (fail)
          go_roundw
          case rel =>
            have hval := HV5.out.keep HK6.out (fun k hk1 hk2 => by
              rw [List.mem_singleton] at hk2
              subst hk2
              exact HV2.out.ne_row HV5.out hk1)
            have hput := FilesV.put (y := crX (atN lf.L kk) (atN sp.L kk) y) (v' := .slice p (y.safe + leftN (atN lf.L kk) (y.bytes.length - y.safe)) cap) HS2.out (by rw [crX_name]; exact HV2.out) (x := w6) (n := (dn ++ y :: M.L.drop (j + 1)).length + 1) (by
                have := HO.out
                simp only [List.toList_toArray] at this
                exact this) HK6.out hval (fun z hz hne k hk => by
                rw [crX_name] at hne
                exact HV.out.apart y HMEM.out z hz (fun e => hne e.symm) k (by rw [HPV.out, slice_block p _ (y.safe + leftN (atN lf.L kk) (y.bytes.length - y.safe)) cap]; exact hk))
            rw [ins_at HS2.out (crX_name _ _ _)] at hput
            have hKF : Keep F w2 w6 := ((HKP.out.trans (HK5.out.mono (G := F) HRF.out) (fun x hx => Or.inl hx))).trans (HK6.out.mono (G := F) (fun x hx => by rw [List.mem_singleton] at hx; rw [hx]; exact HMF.out)) (fun x hx => Or.inl hx)
            refine ⟨j + 1, kk + 1, dn ++ [crX (atN lf.L kk) (atN sp.L kk) y], by go_num, by go_num, by omega, by omega, ?_, by have := HNS2.out; simpa [crX_name] using this, by simp [HDL.out], (HHD.out.keep HK5.out HQB.out).keep HK6.out (by simpa using N4), ?_, hKF⟩
            · rw [HCR.out, crashF, if_neg HSV.out]; simp
            · refine Or.inr ⟨mb, _, _, rfl, by simpa using hput, HMF.out, fun z hz k hk => ?_⟩
              by_cases he : z.name = y.name
              · simp only [crX_name, he, if_true] at hk
                exact HVF.out y HMEM.out k (by rw [HPV.out, slice_block p _ (y.safe + leftN (atN lf.L kk) (y.bytes.length - y.safe)) cap]; exact hk)
              · simp only [crX_name, he, if_false] at hk
                refine HVF.out z ?_ k hk
                simp only [List.append_assoc, List.singleton_append, List.mem_append, List.mem_cons] at hz ⊢
                rcases hz with hz | rfl | hz
                · exact Or.inl hz
                · exact absurd (crX_name _ _ _) he
                · exact Or.inr (Or.inr hz)
          case measure => simp [intOf]; omega
    · obtain rfl : j = M.L.length := by omega
      go_wp2_with (fail)
      go_end0
      have e : M.L.drop M.L.length = [] := List.drop_length ..
      rw [e] at HFS HCR
      have ec : crashF lf.L sp.L 0 M.L = dn := by rw [HCR.out]; simp [crashF]
      refine ⟨⟨_, rfl⟩, F, ⟨⟨mv, t, HHD.out.1, HHD.out.2.1, HHD.out.2.2, ?_⟩, hlow, hbF, fun k hk => ⟨(HFW.out k hk).1, Nat.lt_of_lt_of_le (HFW.out k hk).2 (Nat.le_trans KF2.out.size HKP.out.size)⟩⟩, KF2.out.trans HKP.out (fun x hx => Or.inl hx), fun k hk => Or.inl hk⟩
      show FilesAt n₀ _ mv (crashF lf.L sp.L 0 M.L) F
      rw [ec]
      simpa using HFS.out
end Go.Proofs.YtedopiojidaeiaaGreatDoor
