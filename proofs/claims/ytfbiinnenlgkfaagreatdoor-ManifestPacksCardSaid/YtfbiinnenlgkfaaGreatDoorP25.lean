/- FRcr2, FTwo, FLawT, laid together. -/
import Derived.Test.YtfbiinnenlgkfaaGreatDoorP16
import Derived.Lib.AtoiErrMem
set_option linter.unusedSimpArgs false
set_option linter.unusedVariables false
/- moultref6's Crash. -/
namespace Go.Proofs.YtfbiinnenlgkfaaGreatDoor
open Go.RowKit Go.Deep Go.Maps

end Go.Proofs.YtfbiinnenlgkfaaGreatDoor
/- The program's files and the reference's in one world: each call turns its own blocks alone. -/
namespace Go.Proofs.YtfbiinnenlgkfaaGreatDoor
open Go.RowKit Go.Deep Go.Maps

section
variable {n₀ : Nat} {w x y : World} {b : Nat} {M M' : RS} {F G : List Nat}
theorem RefP.keep (h : RefP n₀ w b M F) (hk : Keep G w x) (hG : ∀ k ∈ F, k ∉ G) : RefP n₀ x b M F := by
  obtain ⟨v, h1, h2, h3, h4⟩ := h
  exact ⟨v, h1.keep hk (hG b h2) (fun k hk' => hG k (h3 k hk')), h2, h3, fun k hk' => ⟨(h4 k hk').1, Nat.lt_of_lt_of_le (h4 k hk').2 hk.size⟩⟩
theorem RefP.bel (h : RefP n₀ w b M F) (hb : Bel w x) : RefP n₀ x b M F := h.keep (Keep.of_bel hb []) (fun _ _ => by simp)
theorem RefP.low (h : RefP n₀ w b M F) : n₀ ≤ w.heap.size := by
  obtain ⟨v, h1, h2, h3, h4⟩ := h
  have := h4 b h2
  omega
theorem RefP.to (h : RefP n₀ w b M F) (hb : Bel w x) : RefTo n₀ w x b M F := ⟨F, h.bel hb, Keep.of_bel hb F, fun k hk => Or.inl hk⟩
theorem RefTo.before (h : RefTo n₀ y x b M F) (hb : Bel w y) : RefTo n₀ w x b M F := by
  obtain ⟨G, h1, h2, h3⟩ := h
  exact ⟨G, h1, (Keep.of_bel hb F).trans h2 (fun x hx => Or.inl hx), fun k hk => (h3 k hk).imp id (fun h => Nat.le_trans hb.size h)⟩
end
structure Tw (w₀ x : World) (b r : Nat) (M M' : RS) (R : List Nat) : Prop where
  ex : ∃ F G, ProgAt w₀.heap.size x b M F ∧ RefP w₀.heap.size x r M' G ∧ (∀ k ∈ F, k ∉ G) ∧ ∀ k ∈ R, k < x.heap.size ∧ k ∉ F ∧ k ∉ G
  low : Bel w₀ x
  good : M.ok
  good' : M'.ok
def KeepR (R : List Nat) (x y : World) : Prop := ∀ k ∈ R, y.heap[k]? = x.heap[k]?
theorem KeepR.trans {R : List Nat} {x y z : World} (h : KeepR R x y) (k : KeepR R y z) : KeepR R x z := fun i hi => (k i hi).trans (h i hi)
theorem KeepR.refl (R : List Nat) (x : World) : KeepR R x x := fun _ _ => rfl
theorem KeepR.cell {R : List Nat} {x y : World} (h : KeepR R x y) {p : Addr} {v : Value} (hp : p.block ∈ R) (hc : x.cell? p = some v) : y.cell? p = some v :=
  (World.cell?_of_block (h _ hp)).trans hc
theorem KeepR.frozen {R : List Nat} {x y : World} (h : KeepR R x y) {p : Addr} (hp : p.block ∈ R) : y.frozen? p = x.frozen? p := World.frozen?_of_block (h _ hp)
section
variable {w₀ x y : World} {b r : Nat} {M M' M1 : RS} {R : List Nat}
theorem Tw.bel (h : Tw w₀ x b r M M' R) (hb : Bel x y) : Tw w₀ y b r M M' R := by
  obtain ⟨⟨F, G, h1, h2, h3, h4⟩, h5, h6, h7⟩ := h
  exact ⟨⟨F, G, h1.bel hb, h2.bel hb, h3, fun k hk => ⟨Nat.lt_of_lt_of_le (h4 k hk).1 hb.size, (h4 k hk).2⟩⟩, h5.trans hb, h6, h7⟩
theorem Tw.keepR (h : Tw w₀ x b r M M' R) (hb : Bel x y) : KeepR R x y := by
  obtain ⟨⟨F, G, h1, h2, h3, h4⟩, h5, h6, h7⟩ := h
  exact fun k hk => Below.block hb k (h4 k hk).1
theorem Tw.guard (h : Tw w₀ x b r M M' R) {k : Nat} (hk : k < x.heap.size) (hf : ∀ F G, ProgAt w₀.heap.size x b M F → RefP w₀.heap.size x r M' G → (∀ k ∈ R, k < x.heap.size ∧ k ∉ F ∧ k ∉ G) → k ∉ F ∧ k ∉ G) : Tw w₀ x b r M M' (k :: R) := by
  obtain ⟨⟨F, G, h1, h2, h3, h4⟩, h5, h6, h7⟩ := h
  refine ⟨⟨F, G, h1, h2, h3, fun j hj => ?_⟩, h5, h6, h7⟩
  rcases List.mem_cons.1 hj with rfl | hj
  · exact ⟨hk, hf F G h1 h2 h4⟩
  · exact h4 j hj
theorem Tw.alloc (h : Tw w₀ x b r M M' R) (o : Obj) : Tw w₀ (x.alloc o) b r M M' (x.heap.size :: R) := by
  have hb := (Bel.refl x).alloc o
  obtain ⟨⟨F, G, h1, h2, h3, h4⟩, h5, h6, h7⟩ := h
  refine ⟨⟨F, G, h1.bel hb, h2.bel hb, h3, fun j hj => ?_⟩, h5.trans hb, h6, h7⟩
  rcases List.mem_cons.1 hj with rfl | hj
  · refine ⟨by simp, fun hm => ?_, fun hm => ?_⟩
    · have := (h1.within _ hm).2; omega
    · obtain ⟨v, -, -, -, g4⟩ := h2
      have := (g4 _ hm).2; omega
  · exact ⟨Nat.lt_of_lt_of_le (h4 j hj).1 hb.size, (h4 j hj).2⟩
theorem Tw.less (h : Tw w₀ x b r M M' R) {R' : List Nat} (hR : ∀ k ∈ R', k ∈ R) : Tw w₀ x b r M M' R' := by
  obtain ⟨⟨F, G, h1, h2, h3, h4⟩, h5, h6, h7⟩ := h
  exact ⟨⟨F, G, h1, h2, h3, fun k hk => h4 k (hR k hk)⟩, h5, h6, h7⟩
theorem tw_prog (hB : Bel w₀ x) (hM' : M'.ok) {F G : List Nat} (h1 : ProgAt w₀.heap.size x b M F) (h2 : RefP w₀.heap.size x r M' G) (h3 : ∀ k ∈ F, k ∉ G) (h4 : ∀ k ∈ R, k < x.heap.size ∧ k ∉ F ∧ k ∉ G)
    (hT : ProgTo w₀.heap.size x y b M1 F) (hM1 : M1.ok) : Tw w₀ y b r M1 M' R ∧ KeepR R x y := by
  obtain ⟨F', k1, k2, k3⟩ := hT
  have hGlt : ∀ k ∈ G, k < x.heap.size := by
    obtain ⟨v, -, -, -, g4⟩ := h2
    exact fun k hk => (g4 k hk).2
  refine ⟨⟨⟨F', G, k1, h2.keep k2 (fun k hk hm => h3 k hm hk), fun k hk hm => ?_, fun k hk => ⟨Nat.lt_of_lt_of_le (h4 k hk).1 k2.size, fun hm => ?_, (h4 k hk).2.2⟩⟩, ((Keep.of_bel hB F).trans k2 (fun x hx => Or.inl hx)).bel (fun k hk => (h1.within k hk).1), hM1, hM'⟩, fun k hk => k2.block k (h4 k hk).1 (h4 k hk).2.1⟩
  · rcases k3 k hk with h | h
    · exact h3 k h hm
    · have := hGlt k hm; omega
  · rcases k3 k hm with h | h
    · exact (h4 k hk).2.1 h
    · have := (h4 k hk).1; omega
theorem tw_ref (hB : Bel w₀ x) (hM : M.ok) {F G : List Nat} (h1 : ProgAt w₀.heap.size x b M F) (h2 : RefP w₀.heap.size x r M' G) (h3 : ∀ k ∈ F, k ∉ G) (h4 : ∀ k ∈ R, k < x.heap.size ∧ k ∉ F ∧ k ∉ G)
    (hT : RefTo w₀.heap.size x y r M1 G) (hM1 : M1.ok) : Tw w₀ y b r M M1 R ∧ KeepR R x y := by
  obtain ⟨G', k1, k2, k3⟩ := hT
  have hGin : ∀ k ∈ G, w₀.heap.size ≤ k := by
    obtain ⟨v, -, -, -, g4⟩ := h2
    exact fun k hk => (g4 k hk).1
  refine ⟨⟨⟨F, G', h1.keep k2 h3, k1, fun k hk hm => ?_, fun k hk => ⟨Nat.lt_of_lt_of_le (h4 k hk).1 k2.size, (h4 k hk).2.1, fun hm => ?_⟩⟩, ((Keep.of_bel hB G).trans k2 (fun x hx => Or.inl hx)).bel hGin, hM, hM1⟩, fun k hk => k2.block k (h4 k hk).1 (h4 k hk).2.2⟩
  · rcases k3 k hm with h | h
    · exact h3 k hk h
    · have := (h1.within k hk).2; omega
  · rcases k3 k hm with h | h
    · exact (h4 k hk).2.2 h
    · have := (h4 k hk).1; omega
theorem Tw.prog (h : Tw w₀ x b r M M' R) {z : World} (hz : Bel x z) {fn : FuncId} {args : Array Value} {A : Ending → Prop} (hM1 : M1.ok)
    (hc : ∀ F, ProgAt w₀.heap.size z b M F → Calls Tryz.prog fn args z fun e y => A e ∧ ProgTo w₀.heap.size z y b M1 F) :
    Calls Tryz.prog fn args z fun e y => A e ∧ Tw w₀ y b r M1 M' R ∧ KeepR R x y := by
  have hkr := h.keepR hz
  obtain ⟨⟨F, G, h1, h2, h3, h4⟩, h5, h6, h7⟩ := h.bel hz
  refine (hc F h1).mono ?_
  rintro e y ⟨ha, hT⟩
  have := tw_prog h5 h7 h1 h2 h3 h4 hT hM1
  exact ⟨ha, this.1, hkr.trans this.2⟩
theorem Tw.ref (h : Tw w₀ x b r M M' R) {z : World} (hz : Bel x z) {fn : FuncId} {args : Array Value} {A : Ending → Prop} (hM1 : M1.ok)
    (hc : ∀ G, RefP w₀.heap.size z r M' G → Calls Tryz.prog fn args z fun e y => A e ∧ RefTo w₀.heap.size z y r M1 G) :
    Calls Tryz.prog fn args z fun e y => A e ∧ Tw w₀ y b r M M1 R ∧ KeepR R x y := by
  have hkr := h.keepR hz
  obtain ⟨⟨F, G, h1, h2, h3, h4⟩, h5, h6, h7⟩ := h.bel hz
  refine (hc G h2).mono ?_
  rintro e y ⟨ha, hT⟩
  have := tw_ref h5 h6 h1 h2 h3 h4 hT hM1
  exact ⟨ha, this.1, hkr.trans this.2⟩
end
end Go.Proofs.YtfbiinnenlgkfaaGreatDoor
/- Both sides' files in one world: their beginning; a file added. -/
namespace Go.Proofs.YtfbiinnenlgkfaaGreatDoor
open Go.RowKit Go.Deep Go.Maps

section
variable {w₀ x : World} {b r : Nat} {M M' : RS} {R : List Nat}
end
end Go.Proofs.YtfbiinnenlgkfaaGreatDoor
