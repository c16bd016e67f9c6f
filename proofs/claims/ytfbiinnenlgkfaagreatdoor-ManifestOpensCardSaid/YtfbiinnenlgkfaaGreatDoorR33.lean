/- FRcr2, FTwo, FLawT, laid together. -/
import Derived.Test.YtfbiinnenlgkfaaGreatDoorR18
import Derived.Lib.AtoiErrMem
set_option linter.unusedSimpArgs false
set_option linter.unusedVariables false
namespace Go.Proofs.YtfbiinnenlgkfaaGreatDoor
open Go.RowKit Go.Deep Go.Maps


section
variable {n₀ : Nat} {w x y : World} {b : Nat} {M M' : RS} {F G : List Nat}
theorem RefP.keep (h : RefP n₀ w b M F) (hk : Keep G w x) (hG : ∀ k ∈ F, k ∉ G) : RefP n₀ x b M F := by
 obtain ⟨v, h1, h2, h3, h4⟩ := h
 exact ⟨v, h1.keep hk (hG b h2) (fun k hk' => hG k (h3 k hk')), h2, h3, fun k hk' => ⟨(h4 k hk').1, Nat.lt_of_lt_of_le (h4 k hk').2 hk.size⟩⟩
theorem RefP.bel (h : RefP n₀ w b M F) (hb : Bel w x) : RefP n₀ x b M F := h.keep (Keep.of_bel hb []) (fun _ _ => by simp)
theorem RefP.low (h : RefP n₀ w b M F) : n₀ ≤ w.heap.size := by
 obtain ⟨v, h1, h2, h3, h4⟩ := h
 have := h4 b h2
 omega
theorem RefP.to (h : RefP n₀ w b M F) (hb : Bel w x) : RefTo n₀ w x b M F := ⟨F, h.bel hb, Keep.of_bel hb F, fun k hk => Or.inl hk⟩
theorem RefTo.before (h : RefTo n₀ y x b M F) (hb : Bel w y) : RefTo n₀ w x b M F := by
 obtain ⟨G, h1, h2, h3⟩ := h
 exact ⟨G, h1, (Keep.of_bel hb F).trans h2 (fun x hx => Or.inl hx), fun k hk => (h3 k hk).imp id (fun h => Nat.le_trans hb.size h)⟩
theorem get_there (nm : List UInt8) (hs : Srt M.L) : ((thereS nm M).1.bytes, (thereS nm M).2) = getS nm M := by
 rw [there_eq nm hs]
 unfold thereG getS
 split
 ·rfl
 ·cases getF nm M.L <;> rfl
theorem rget_ref (h : RefP n₀ w b M F) (hM : M.ok) (s : ByteArray) :
  Calls Tryz.prog 101 #[.pointer (some ⟨b, 0, none⟩), .string s] w fun e w' => e = .returned (.tuple #[.string ⟨(getS s.data.toList M).1.toArray⟩, .int .i64 (getS s.data.toList M).2]) ∧ Bel w w' := by
 obtain ⟨v, h1, h2, h3, h4⟩ := h
 refine (rget_any n₀ w b M v s h1 (good_len hM)).mono ?_
 rintro e w' ⟨rfl, hb⟩
 rw [← get_there _ hM.srt]
 exact ⟨rfl, hb⟩
theorem rused_ref (h : RefP n₀ w b M F) (hM : M.ok) :
  Calls Tryz.prog 25 #[.pointer (some ⟨b, 0, none⟩)] w fun e w' => e = .returned (.int .i64 (bytesN M.L : Nat)) ∧ Drw w w' := by
 obtain ⟨v, h1, h2, h3, h4⟩ := h
 exact used_any n₀ w b M v h1 (good_len hM) (good_bytes hM)
theorem rnew_ref (room : Int) (w : World) (h : 0 ≤ room ∧ room ≤ 10000000) :
  Calls Tryz.prog 34 #[.int .i64 room] w fun e w' => e = .returned (.tuple #[.pointer (some ⟨w.heap.size, 0, none⟩), .int .i64 0]) ∧ RefP w.heap.size w' w.heap.size (newS room) [w.heap.size] ∧ Bel w w' := by
 refine (rnew_any room w h).mono ?_
 rintro e w' ⟨rfl, h1, h2⟩
 refine ⟨rfl, ⟨_, h1, by simp, fun k hk => by simp [Value.ownBlock] at hk, fun k hk => ?_⟩, h2⟩
 rw [List.mem_singleton] at hk
 subst hk
 exact ⟨Nat.le_refl _, h1.lt⟩
end
theorem RefP.down {n n' : Nat} {w : World} {b : Nat} {M : RS} {F : List Nat} (h : RefP n w b M F) (hn : n' ≤ n) : RefP n' w b M F := by
 obtain ⟨v, h1, h2, h3, h4⟩ := h
 exact ⟨v, ⟨h1.blk, h1.own.low hn, Nat.le_trans hn h1.low⟩, h2, h3, fun k hk => ⟨Nat.le_trans hn (h4 k hk).1, (h4 k hk).2⟩⟩
structure Tw (w₀ x : World) (b r : Nat) (M M' : RS) (R : List Nat) : Prop where
 ex : ∃ F G, ProgAt w₀.heap.size x b M F ∧ RefP w₀.heap.size x r M' G ∧ (∀ k ∈ F, k ∉ G) ∧ ∀ k ∈ R, k < x.heap.size ∧ k ∉ F ∧ k ∉ G
 low : Bel w₀ x
 good : M.ok
 good' : M'.ok
def KeepR (R : List Nat) (x y : World) : Prop := ∀ k ∈ R, y.heap[k]? = x.heap[k]?
theorem KeepR.trans {R : List Nat} {x y z : World} (h : KeepR R x y) (k : KeepR R y z) : KeepR R x z := fun i hi => (k i hi).trans (h i hi)
theorem KeepR.refl (R : List Nat) (x : World) : KeepR R x x := fun _ _ => rfl
theorem KeepR.cell {R : List Nat} {x y : World} (h : KeepR R x y) {p : Addr} {v : Value} (hp : p.block ∈ R) (hc : x.cell? p = some v) : y.cell? p = some v :=
 (World.cell?_of_block (h _ hp)).trans hc
theorem KeepR.frozen {R : List Nat} {x y : World} (h : KeepR R x y) {p : Addr} (hp : p.block ∈ R) : y.frozen? p = x.frozen? p := World.frozen?_of_block (h _ hp)
section
variable {w₀ x y : World} {b r : Nat} {M M' M1 : RS} {R : List Nat}
theorem Tw.bel (h : Tw w₀ x b r M M' R) (hb : Bel x y) : Tw w₀ y b r M M' R := by
 obtain ⟨⟨F, G, h1, h2, h3, h4⟩, h5, h6, h7⟩ := h
 exact ⟨⟨F, G, h1.bel hb, h2.bel hb, h3, fun k hk => ⟨Nat.lt_of_lt_of_le (h4 k hk).1 hb.size, (h4 k hk).2⟩⟩, h5.trans hb, h6, h7⟩
theorem Tw.keepR (h : Tw w₀ x b r M M' R) (hb : Bel x y) : KeepR R x y := by
 obtain ⟨⟨F, G, h1, h2, h3, h4⟩, h5, h6, h7⟩ := h
 exact fun k hk => Below.block hb k (h4 k hk).1
theorem Tw.guard (h : Tw w₀ x b r M M' R) {k : Nat} (hk : k < x.heap.size) (hf : ∀ F G, ProgAt w₀.heap.size x b M F → RefP w₀.heap.size x r M' G → (∀ k ∈ R, k < x.heap.size ∧ k ∉ F ∧ k ∉ G) → k ∉ F ∧ k ∉ G) : Tw w₀ x b r M M' (k :: R) := by
 obtain ⟨⟨F, G, h1, h2, h3, h4⟩, h5, h6, h7⟩ := h
 refine ⟨⟨F, G, h1, h2, h3, fun j hj => ?_⟩, h5, h6, h7⟩
 rcases List.mem_cons.1 hj with rfl | hj
 ·exact ⟨hk, hf F G h1 h2 h4⟩
 ·exact h4 j hj
theorem Tw.alloc (h : Tw w₀ x b r M M' R) (o : Obj) : Tw w₀ (x.alloc o) b r M M' (x.heap.size :: R) := by
 have hb := (Bel.refl x).alloc o
 obtain ⟨⟨F, G, h1, h2, h3, h4⟩, h5, h6, h7⟩ := h
 refine ⟨⟨F, G, h1.bel hb, h2.bel hb, h3, fun j hj => ?_⟩, h5.trans hb, h6, h7⟩
 rcases List.mem_cons.1 hj with rfl | hj
 ·refine ⟨by simp, fun hm => ?_, fun hm => ?_⟩
  ·have := (h1.within _ hm).2; omega
  ·obtain ⟨v, -, -, -, g4⟩ := h2
   have := (g4 _ hm).2; omega
 ·exact ⟨Nat.lt_of_lt_of_le (h4 j hj).1 hb.size, (h4 j hj).2⟩
theorem Tw.less (h : Tw w₀ x b r M M' R) {R' : List Nat} (hR : ∀ k ∈ R', k ∈ R) : Tw w₀ x b r M M' R' := by
 obtain ⟨⟨F, G, h1, h2, h3, h4⟩, h5, h6, h7⟩ := h
 exact ⟨⟨F, G, h1, h2, h3, fun k hk => h4 k (hR k hk)⟩, h5, h6, h7⟩
theorem tw_prog (hB : Bel w₀ x) (hM' : M'.ok) {F G : List Nat} (h1 : ProgAt w₀.heap.size x b M F) (h2 : RefP w₀.heap.size x r M' G) (h3 : ∀ k ∈ F, k ∉ G) (h4 : ∀ k ∈ R, k < x.heap.size ∧ k ∉ F ∧ k ∉ G)
  (hT : ProgTo w₀.heap.size x y b M1 F) (hM1 : M1.ok) : Tw w₀ y b r M1 M' R ∧ KeepR R x y := by
 obtain ⟨F', k1, k2, k3⟩ := hT
 have hGlt : ∀ k ∈ G, k < x.heap.size := by
  obtain ⟨v, -, -, -, g4⟩ := h2
  exact fun k hk => (g4 k hk).2
 refine ⟨⟨⟨F', G, k1, h2.keep k2 (fun k hk hm => h3 k hm hk), fun k hk hm => ?_, fun k hk => ⟨Nat.lt_of_lt_of_le (h4 k hk).1 k2.size, fun hm => ?_, (h4 k hk).2.2⟩⟩, ((Keep.of_bel hB F).trans k2 (fun x hx => Or.inl hx)).bel (fun k hk => (h1.within k hk).1), hM1, hM'⟩, fun k hk => k2.block k (h4 k hk).1 (h4 k hk).2.1⟩
 ·rcases k3 k hk with h | h
  ·exact h3 k h hm
  ·have := hGlt k hm; omega
 ·rcases k3 k hm with h | h
  ·exact (h4 k hk).2.1 h
  ·have := (h4 k hk).1; omega
theorem tw_ref (hB : Bel w₀ x) (hM : M.ok) {F G : List Nat} (h1 : ProgAt w₀.heap.size x b M F) (h2 : RefP w₀.heap.size x r M' G) (h3 : ∀ k ∈ F, k ∉ G) (h4 : ∀ k ∈ R, k < x.heap.size ∧ k ∉ F ∧ k ∉ G)
  (hT : RefTo w₀.heap.size x y r M1 G) (hM1 : M1.ok) : Tw w₀ y b r M M1 R ∧ KeepR R x y := by
 obtain ⟨G', k1, k2, k3⟩ := hT
 have hGin : ∀ k ∈ G, w₀.heap.size ≤ k := by
  obtain ⟨v, -, -, -, g4⟩ := h2
  exact fun k hk => (g4 k hk).1
 refine ⟨⟨⟨F, G', h1.keep k2 h3, k1, fun k hk hm => ?_, fun k hk => ⟨Nat.lt_of_lt_of_le (h4 k hk).1 k2.size, (h4 k hk).2.1, fun hm => ?_⟩⟩, ((Keep.of_bel hB G).trans k2 (fun x hx => Or.inl hx)).bel hGin, hM, hM1⟩, fun k hk => k2.block k (h4 k hk).1 (h4 k hk).2.2⟩
 ·rcases k3 k hm with h | h
  ·exact h3 k hk h
  ·have := (h1.within k hk).2; omega
 ·rcases k3 k hm with h | h
  ·exact (h4 k hk).2.2 h
  ·have := (h4 k hk).1; omega
theorem Tw.prog (h : Tw w₀ x b r M M' R) {z : World} (hz : Bel x z) {fn : FuncId} {args : Array Value} {A : Ending → Prop} (hM1 : M1.ok)
  (hc : ∀ F, ProgAt w₀.heap.size z b M F → Calls Tryz.prog fn args z fun e y => A e ∧ ProgTo w₀.heap.size z y b M1 F) :
  Calls Tryz.prog fn args z fun e y => A e ∧ Tw w₀ y b r M1 M' R ∧ KeepR R x y := by
 have hkr := h.keepR hz
 obtain ⟨⟨F, G, h1, h2, h3, h4⟩, h5, h6, h7⟩ := h.bel hz
 refine (hc F h1).mono ?_
 rintro e y ⟨ha, hT⟩
 have := tw_prog h5 h7 h1 h2 h3 h4 hT hM1
 exact ⟨ha, this.1, hkr.trans this.2⟩
theorem Tw.ref (h : Tw w₀ x b r M M' R) {z : World} (hz : Bel x z) {fn : FuncId} {args : Array Value} {A : Ending → Prop} (hM1 : M1.ok)
  (hc : ∀ G, RefP w₀.heap.size z r M' G → Calls Tryz.prog fn args z fun e y => A e ∧ RefTo w₀.heap.size z y r M1 G) :
  Calls Tryz.prog fn args z fun e y => A e ∧ Tw w₀ y b r M M1 R ∧ KeepR R x y := by
 have hkr := h.keepR hz
 obtain ⟨⟨F, G, h1, h2, h3, h4⟩, h5, h6, h7⟩ := h.bel hz
 refine (hc G h2).mono ?_
 rintro e y ⟨ha, hT⟩
 have := tw_ref h5 h6 h1 h2 h3 h4 hT hM1
 exact ⟨ha, this.1, hkr.trans this.2⟩
end

section
variable {w₀ x : World} {b r : Nat} {M M' : RS} {R : List Nat}
theorem tw_begin {w w1 w2 : World} (room : Int) (hr : 0 ≤ room ∧ room ≤ 10000000) (hB : Bel w w1) {b r : Nat} (hb : b = w1.heap.size) (h1 : ProgAt w1.heap.size w2 b (newS room) [b])
  (hB2 : Bel w1 w2) {w3 : World} (hrr : r = w2.heap.size) (h2 : RefP w2.heap.size w3 r (newS room) [r]) (hB3 : Bel w2 w3) : Tw w w3 b r (newS room) (newS room) [] := by
 refine ⟨⟨[b], [r], prog_low (h1.bel hB3) hB.size, h2.down (Nat.le_trans hB.size hB2.size), ?_, fun k hk => by cases hk⟩, hB.trans (hB2.trans hB3), new_ok room hr, new_ok room hr⟩
 intro k hk hm
 rw [List.mem_singleton] at hk hm
 have := (h1.within b (by simp)).2
 omega
theorem tw_add (h : Tw w₀ x b r M M' R) (s u : ByteArray) (hs : s.size ≤ 1000000) (hu : u.size ≤ 1000000) :
  Calls Tryz.prog 35 #[.pointer (some ⟨b, 0, none⟩), .string s, .string u] x fun e y => e = .returned (.int .i64 (addS s.data.toList u.data.toList M).1) ∧ Tw w₀ y b r (addS s.data.toList u.data.toList M).2 M' R ∧ KeepR R x y :=
 h.prog (Bel.refl x) (add_ok h.good _ _) fun F hF => padd_any _ x b M F s u hF hs hu h.good.srt (good_len h.good) (good_bytes h.good) h.good.room
theorem tw_radd (h : Tw w₀ x b r M M' R) (s u : ByteArray) (hs : s.size ≤ 1000000) (hu : u.size ≤ 1000000) :
  Calls Tryz.prog 36 #[.pointer (some ⟨r, 0, none⟩), .string s, .string u] x fun e y => e = .returned (.int .i64 (addS s.data.toList u.data.toList M').1) ∧ Tw w₀ y b r M (addS s.data.toList u.data.toList M').2 R ∧ KeepR R x y :=
 h.ref (Bel.refl x) (add_ok h.good' _ _) fun G hG => radd_any _ x r M' G s u hs hu hG h.good'
end
end Go.Proofs.YtfbiinnenlgkfaaGreatDoor
