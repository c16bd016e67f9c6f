/- TPVer, TPSort, TPCites, TPCounts, laid together. -/
import Derived.Test.YteimllgoelleeaaGreatDoorZ21
import Derived.Test.YteimllgoelleeaaGreatDoorZ8
import Derived.Test.YteimllgoelleeaaGreatDoorZ12
import Derived.Shelf.SlSortCmp.WholeK
import Derived.Shelf.Small.Wraps
import Derived.Deep.RegionHeld
import Derived.Test.YteimllgoelleeaaGreatDoorZ2
import Derived.Test.YteimllgoelleeaaGreatDoorZ11
import Derived.Ground.SlsfProg
import Derived.Shelf.Lay
import Derived.Test.YteimllgoelleeaaGreatDoorZ9
set_option linter.unusedSimpArgs false
set_option linter.unusedVariables false
/- cmp.Or at two ints, table.byVersion. -/
namespace Go.Proofs.YteimllgoelleeaaGreatDoor
open Go.RowKit Go.Deep

def orV (x y : Int) : Int := if x = 0 then y else x
def verC (c d : CT) : Int := orV (Lib.compareInt c.t d.t) (Lib.compareInt c.v d.v)
theorem cmpi_any (x y : Int) (w : World) : Calls Tryz.prog 95 #[.int .i64 x, .int .i64 y] w fun e w' => e = .returned (.int .i64 (Lib.compareInt x y)) ∧ w' = w :=
  Any.cmp_Compare_int Tryz.lays122 x y w
theorem or_any (b : Nat) (x y : Int) (w : World) (h0 : w.cell? ⟨b, 0, none⟩ = some (.int .i64 x)) (h1 : w.cell? ⟨b, 1, none⟩ = some (.int .i64 y)) :
    Calls Tryz.prog 94 #[.slice (some ⟨b, 0, none⟩) 2 2] w fun e w' => e = .returned (.int .i64 (orV x y)) ∧ w' = w := by
  go_enter Tryz.func94, Tryz.ntmps94
  go_wp2_with (fail)
  go_loopw [8] (fun i z => (∃ k : Nat, i = .int .i64 k ∧ (k = 0 ∨ (k = 1 ∧ x = 0) ∨ (k = 2 ∧ x = 0 ∧ y = 0))) ∧ z = w) (fun i _ => 2 - (intOf i).toNat)
  case atStart => exact ⟨⟨0, rfl, Or.inl rfl⟩, rfl⟩
  case round =>
    obtain ⟨⟨k, rfl, hk⟩, rfl⟩ := hrel
    rcases hk with rfl | ⟨rfl, hx⟩ | ⟨rfl, hx, hy⟩
    · by_cases hx : x = 0
      · subst hx
        go_wp2_with (fail)
        go_roundw
        case rel => exact ⟨⟨1, rfl, Or.inr (Or.inl ⟨rfl, by first | rfl | trivial⟩)⟩, by first | rfl | trivial⟩
        case measure => decide
      · have HV := Lib.hid (show orV x y = x from if_neg hx)
        have hxb : (x == 0) = false := beq_eq_false_iff_ne.2 hx
        go_wp2_with (fail)
        go_ret
        exact ⟨by rw [HV.out]; rfl, rfl⟩
    · subst hx
      by_cases hy : y = 0
      · subst hy
        go_wp2_with (fail)
        go_roundw
        case rel => exact ⟨⟨2, rfl, Or.inr (Or.inr ⟨rfl, by first | rfl | trivial, by first | rfl | trivial⟩)⟩, by first | rfl | trivial⟩
        case measure => decide
      · have hyb : (y == 0) = false := beq_eq_false_iff_ne.2 hy
        go_wp2_with (fail)
        go_ret
        exact ⟨rfl, rfl⟩
    · subst hx hy
      go_wp2_with (fail)
      go_ret
      exact ⟨rfl, rfl⟩
theorem alloc_eq_grow10 (w : World) (o : Obj) : w.alloc o = Sort.grow w #[o] := Sort.alloc_eq_grow w o
def encC (c : CT) : List Value := [.int .i64 (c.t : Int), .int .i64 (c.v : Int), .int .i64 (c.n : Int)]
set_option maxHeartbeats 2000000 in
set_option maxRecDepth 20000 in
theorem byver_any (c d : CT) (w : World) :
    Calls Tryz.prog 68 #[.agg #[.int .i64 (c.t : Int), .int .i64 (c.v : Int), .int .i64 (c.n : Int)], .agg #[.int .i64 (d.t : Int), .int .i64 (d.v : Int), .int .i64 (d.n : Int)]] w fun e w' => e = .returned (.int .i64 (verC c d)) ∧ ∃ q os, w' = Sort.grow (w.drewN q) os := by
  have HV := Lib.hid (show verC c d = orV (Lib.compareInt c.t d.t) (Lib.compareInt c.v d.v) from rfl)
  obtain ⟨w1, hw1⟩ : ∃ w1, w1 = w.alloc (.cells #[.int .i64 (c.t : Int), .int .i64 (c.v : Int), .int .i64 (c.n : Int)] 86) := ⟨_, rfl⟩
  obtain ⟨w2, hw2⟩ : ∃ w2, w2 = w1.alloc (.cells #[.int .i64 (d.t : Int), .int .i64 (d.v : Int), .int .i64 (d.n : Int)] 86) := ⟨_, rfl⟩
  have hz1 : w1.heap.size = w.heap.size + 1 := by rw [hw1]; simp
  have b1 : w1.cell? ⟨w.heap.size, 0, none⟩ = some (.int .i64 (c.t : Int)) ∧ w1.cell? ⟨w.heap.size, 1, none⟩ = some (.int .i64 (c.v : Int)) := by
    rw [hw1]; exact ⟨(World.cell?_alloc_new ..).trans (by simp), (World.cell?_alloc_new ..).trans (by simp)⟩
  have b2 : Bel w1 w2 := by rw [hw2]; exact (Bel.refl w1).alloc _
  have b3 : w2.cell? ⟨w.heap.size + 1, 0, none⟩ = some (.int .i64 (d.t : Int)) ∧ w2.cell? ⟨w.heap.size + 1, 1, none⟩ = some (.int .i64 (d.v : Int)) := by
    rw [hw2, ← hz1]; exact ⟨(World.cell?_alloc_new ..).trans (by simp), (World.cell?_alloc_new ..).trans (by simp)⟩
  have c0 := cell_later b2 b1.1
  have c1 := cell_later b2 b1.2
  obtain ⟨c2, c3⟩ := b3
  have HG := Lib.hid (show ∀ o, (w2.alloc o).drew = Sort.grow (w.drewN 1) #[.cells #[.int .i64 (c.t : Int), .int .i64 (c.v : Int), .int .i64 (c.n : Int)] 86, .cells #[.int .i64 (d.t : Int), .int .i64 (d.v : Int), .int .i64 (d.n : Int)] 86, o] from fun o => by
    rw [hw2, hw1]
    simp only [alloc_eq_grow10, Sort.grow, World.drew, World.drewN, Array.push_eq_append, Array.append_assoc]
    rfl)
  clear b1 b2
  go_enter Tryz.func68, Tryz.ntmps68
  go_wp2_with (fail)
  rw [← hw1]
  try rw [hz1]
  rw [← hw2]
  clear hw1 hw2
  refine wp_region_held_drew (S := fun z => z.cell? ⟨w.heap.size, 0, none⟩ = some (.int .i64 (c.t : Int)) ∧ z.cell? ⟨w.heap.size, 1, none⟩ = some (.int .i64 (c.v : Int)) ∧ z.cell? ⟨w.heap.size + 1, 0, none⟩ = some (.int .i64 (d.t : Int)) ∧ z.cell? ⟨w.heap.size + 1, 1, none⟩ = some (.int .i64 (d.v : Int))) (by kernel_rfl) ⟨c0, c1, c2, c3⟩ (fun hHeld => ?_)
  refine tk (oi := { dst := some 5, op := Op.fieldAddr 86 (Operand.tmp 2) 0, type := 0, pos := "entry.go:73", after := #[], guard := none }) (v := ?_) 0 rfl ?_ ?_
  rotate_left
  · (intro w hSw; (try dsimp only at hSw); first | (go_simp; done) | (go_simp; with_reducible rfl))
  try simp only [Act.put, List.setIfInBounds_toArray, List.set_cons_zero, List.set_cons_succ]
  refine tk (oi := { dst := some 6, op := Op.load 3 (Operand.tmp 5), type := 3, pos := "entry.go:73", after := #[{ on := 0, ground := Ground.data }], guard := none }) (v := ?_) 1 rfl ?_ ?_
  rotate_left
  · (intro w hSw; (try dsimp only at hSw); first | (go_simp; done) | (go_simp; with_reducible rfl))
  try simp only [Act.put, List.setIfInBounds_toArray, List.set_cons_zero, List.set_cons_succ]
  refine tk (oi := { dst := some 7, op := Op.fieldAddr 86 (Operand.tmp 3) 0, type := 0, pos := "entry.go:73", after := #[], guard := none }) (v := ?_) 2 rfl ?_ ?_
  rotate_left
  · (intro w hSw; (try dsimp only at hSw); first | (go_simp; done) | (go_simp; with_reducible rfl))
  try simp only [Act.put, List.setIfInBounds_toArray, List.set_cons_zero, List.set_cons_succ]
  refine tk (oi := { dst := some 8, op := Op.load 3 (Operand.tmp 7), type := 3, pos := "entry.go:73", after := #[{ on := 2, ground := Ground.data }], guard := none }) (v := ?_) 3 rfl ?_ ?_
  rotate_left
  · (intro w hSw; (try dsimp only at hSw); first | (go_simp; done) | (go_simp; with_reducible rfl))
  try simp only [Act.put, List.setIfInBounds_toArray, List.set_cons_zero, List.set_cons_succ]
  refine tk (oi := { dst := some 10, op := Op.fieldAddr 86 (Operand.tmp 2) 1, type := 0, pos := "entry.go:73", after := #[], guard := none }) (v := ?_) 5 rfl ?_ ?_
  rotate_left
  · (intro w hSw; (try dsimp only at hSw); first | (go_simp; done) | (go_simp; with_reducible rfl))
  try simp only [Act.put, List.setIfInBounds_toArray, List.set_cons_zero, List.set_cons_succ]
  refine tk (oi := { dst := some 11, op := Op.load 3 (Operand.tmp 10), type := 3, pos := "entry.go:73", after := #[{ on := 5, ground := Ground.data }], guard := none }) (v := ?_) 6 rfl ?_ ?_
  rotate_left
  · (intro w hSw; (try dsimp only at hSw); first | (go_simp; done) | (go_simp; with_reducible rfl))
  try simp only [Act.put, List.setIfInBounds_toArray, List.set_cons_zero, List.set_cons_succ]
  refine tk (oi := { dst := some 12, op := Op.fieldAddr 86 (Operand.tmp 3) 1, type := 0, pos := "entry.go:73", after := #[], guard := none }) (v := ?_) 7 rfl ?_ ?_
  rotate_left
  · (intro w hSw; (try dsimp only at hSw); first | (go_simp; done) | (go_simp; with_reducible rfl))
  try simp only [Act.put, List.setIfInBounds_toArray, List.set_cons_zero, List.set_cons_succ]
  refine tk (oi := { dst := some 13, op := Op.load 3 (Operand.tmp 12), type := 3, pos := "entry.go:73", after := #[{ on := 7, ground := Ground.data }], guard := none }) (v := ?_) 8 rfl ?_ ?_
  rotate_left
  · (intro w hSw; (try dsimp only at hSw); first | (go_simp; done) | (go_simp; with_reducible rfl))
  try simp only [Act.put, List.setIfInBounds_toArray, List.set_cons_zero, List.set_cons_succ]
  refine wpAnyH_ready (rs := [4]) (by kernel_rfl) (by simp) ?_
  refine AllReadyH.cons (o := { dst := some 9, op := Op.call { callee := Callee.value (Operand.func 95), args := #[Operand.tmp 6, Operand.tmp 8], argTypes := #[3, 3] }, type := 3, pos := "entry.go:73", after := #[{ on := 1, ground := Ground.data }, { on := 3, ground := Ground.data }], guard := none }) rfl (fun K hK => ?_) AllReadyH.nil
  go_simp
  refine (cmpi_any _ _ _).mono ?_
  rintro r w3 ⟨rfl, rfl⟩
  dsimp only
  refine hK.out _ _ hHeld (fun hHeld => ?_)
  clear hK K
  try simp only [Act.put, List.setIfInBounds_toArray, List.set_cons_zero, List.set_cons_succ]
  refine wpAnyH_ready (rs := [9]) (by kernel_rfl) (by simp) ?_
  refine AllReadyH.cons (o := { dst := some 14, op := Op.call { callee := Callee.value (Operand.func 95), args := #[Operand.tmp 11, Operand.tmp 13], argTypes := #[3, 3] }, type := 3, pos := "entry.go:73", after := #[{ on := 6, ground := Ground.data }, { on := 8, ground := Ground.data }, { on := 4, ground := Ground.chain }], guard := none }) rfl (fun K hK => ?_) AllReadyH.nil
  go_simp
  refine (cmpi_any _ _ _).mono ?_
  rintro r w4 ⟨rfl, rfl⟩
  dsimp only
  refine hK.out _ _ hHeld (fun hHeld => ?_)
  clear hK K
  try simp only [Act.put, List.setIfInBounds_toArray, List.set_cons_zero, List.set_cons_succ]
  refine wpAnyH_ready (rs := [10]) (by kernel_rfl) (by simp) ?_
  refine AllReadyH.cons (o := { dst := some 15, op := Op.buildSlice 179 2 #[(0, Operand.tmp 9), (1, Operand.tmp 14)], type := 179, pos := "entry.go:73", after := #[{ on := 4, ground := Ground.data }, { on := 9, ground := Ground.data }], guard := none }) rfl (fun K hK => ?_) AllReadyH.nil
  go_simp
  obtain ⟨w5, hw5⟩ : ∃ w5, w5 = (w2.alloc (.cells #[.int .i64 (Lib.compareInt ↑c.t ↑d.t), .int .i64 (Lib.compareInt ↑c.v ↑d.v)] 3)).drew := ⟨_, rfl⟩
  have HW5 := Lib.hid (hw5.trans (HG.out _))
  have e0 : w5.cell? ⟨w2.heap.size, 0, none⟩ = some (.int .i64 (Lib.compareInt ↑c.t ↑d.t)) := by rw [hw5]; exact (World.cell?_alloc_new ..).trans (by simp)
  have e1 : w5.cell? ⟨w2.heap.size, 1, none⟩ = some (.int .i64 (Lib.compareInt ↑c.v ↑d.v)) := by rw [hw5]; exact (World.cell?_alloc_new ..).trans (by simp)
  have hb5 : Bel w2 w5 := by rw [hw5]; exact ((Bel.refl w2).alloc _).drew
  rw [← hw5]
  have E0 := Lib.hid e0; have E1 := Lib.hid e1
  clear e0 e1 hw5
  refine hK.out _ _ ⟨cell_later hb5 hHeld.1, cell_later hb5 hHeld.2.1, cell_later hb5 hHeld.2.2.1, cell_later hb5 hHeld.2.2.2⟩ (fun hHeld => ?_)
  clear hK K
  try simp only [Act.put, List.setIfInBounds_toArray, List.set_cons_zero, List.set_cons_succ]
  refine wpAnyH_ready (rs := [11]) (by kernel_rfl) (by simp) ?_
  refine AllReadyH.cons (o := { dst := some 16, op := Op.call { callee := Callee.value (Operand.func 94), args := #[Operand.tmp 15], argTypes := #[179] }, type := 3, pos := "entry.go:73", after := #[{ on := 10, ground := Ground.data }, { on := 9, ground := Ground.chain }], guard := none }) rfl (fun K hK => ?_) AllReadyH.nil
  go_simp
  refine (or_any _ _ _ _ E0.out E1.out).mono ?_
  rintro r w6 ⟨rfl, rfl⟩
  dsimp only
  refine hK.out _ _ hHeld (fun hHeld => ?_)
  clear hK K
  try simp only [Act.put, List.setIfInBounds_toArray, List.set_cons_zero, List.set_cons_succ]
  refine tk (oi := { dst := some 4, op := Op.assign (Operand.tmp 16), type := 3, pos := "entry.go:73", after := #[{ on := 11, ground := Ground.data }, { on := 11, ground := Ground.chain }, { on := 0, ground := Ground.phase }, { on := 1, ground := Ground.phase }, { on := 2, ground := Ground.phase }, { on := 3, ground := Ground.phase }, { on := 4, ground := Ground.phase }, { on := 5, ground := Ground.phase }, { on := 6, ground := Ground.phase }, { on := 7, ground := Ground.phase }, { on := 8, ground := Ground.phase }, { on := 9, ground := Ground.phase }, { on := 10, ground := Ground.phase }, { on := 11, ground := Ground.phase }], guard := none }) (v := ?_) 12 rfl ?_ ?_
  rotate_left
  · (intro w hSw; (try dsimp only at hSw); first | (go_simp; done) | (go_simp; with_reducible rfl))
  try simp only [Act.put, List.setIfInBounds_toArray, List.set_cons_zero, List.set_cons_succ]
  refine wpAnyH_done (by kernel_rfl) ?_ _
  clear hHeld
  go_wp2_with (fail)
  go_ret
  exact ⟨by rw [HV.out]; rfl, _, _, HW5.out⟩
end Go.Proofs.YteimllgoelleeaaGreatDoor
/- slices.SortFunc at cites. -/
namespace Go.Proofs.YteimllgoelleeaaGreatDoor
open Go.RowKit Go.Deep

instance : Inhabited CT := ⟨⟨0, 0, 0⟩⟩
theorem ver_less (c d : CT) : ltOf verC c d = ctLess c d.t d.v := by
  unfold ltOf verC orV Lib.compareInt ctLess
  rcases Nat.lt_trichotomy c.t d.t with h | h | h
  · have h1 : (c.t : Int) < d.t := by omega
    simp [h, h1]
  · rw [h]
    simp
    rcases Nat.lt_trichotomy c.v d.v with g | g | g
    · have g1 : (c.v : Int) < d.v := by omega
      simp [g, g1]
    · rw [g]; simp
    · have g1 : ¬ (c.v : Int) < d.v := by omega
      have g2 : (d.v : Int) < c.v := by omega
      have g3 : ¬ c.v < d.v := by omega
      simp [g1, g2, g3, g]
  · have h1 : ¬ (c.t : Int) < d.t := by omega
    have h2 : (d.t : Int) < c.t := by omega
    have h3 : ¬ c.t < d.t := by omega
    have h4 : ¬ c.t = d.t := by omega
    simp [h1, h2, h3, h4]
theorem ver_swo : Sort.SWO (ltOf verC) where
  irrefl x := by rw [ver_less, ctLess_not]; omega
  trans x y z h1 h2 := by rw [ver_less, ctLess_iff] at *; omega
  ntrans x y z h1 h2 := by rw [ver_less, ctLess_not] at *; omega
theorem enc_len (x : CT) : (encC x).length = 3 := rfl
theorem enc_one (x : CT) : ∀ v ∈ encC x, v.oneCell' = true := fun v hv => by simp [encC] at hv; rcases hv with rfl | rfl | rfl <;> rfl
theorem flat_cell {C : List CT} {t : Nat} (h : t < C.length * 3) : (Sort.flatK encC 3 C.toArray)[t]! = (encC C[t / 3])[t % 3]! := by
  rw [Sort.get_flatK _ _ _ _ (by simpa using h)]
  congr 1
  rw [getElem!_pos C.toArray (t / 3) (by simp; omega)]
  simp
theorem holds_own {B : Nat} {w : World} {g cap : Nat} {C : List CT} (h : OwnG ctEl B w (.slice (some ⟨g, 0, none⟩) C.length cap) C) : Sort.HoldsK encC 3 w g 0 C.toArray := by
  rcases own_cts h with ⟨hv, _⟩ | ⟨g', cap', hv, _, _, _, _, hf, hc⟩
  · cases hv
  · simp only [Value.slice.injEq, Option.some.injEq, Addr.mk.injEq, and_true, true_and] at hv
    obtain ⟨rfl, rfl⟩ := hv
    intro t ht
    rw [Sort.size_flatK] at ht
    have ht' : t < C.length * 3 := by simpa using ht
    rw [flat_cell ht', Nat.zero_add]
    refine ⟨?_, hf t⟩
    obtain ⟨c, h0, h1, h2, h3⟩ := hc (t / 3) (by omega)
    rw [← h0]
    have hm : t % 3 = 0 ∨ t % 3 = 1 ∨ t % 3 = 2 := by omega
    rcases hm with e | e | e
    · have : t = t / 3 * 3 := by omega
      rw [e]; rw [← this] at h1; exact h1
    · have : t = t / 3 * 3 + 1 := by omega
      rw [e]; rw [← this] at h2; exact h2
    · have : t = t / 3 * 3 + 2 := by omega
      rw [e]; rw [← this] at h3; exact h3
theorem keep_sorted {w : World} {g n : Nat} {d : Array CT} {os : Array Obj} : Keep [g] w (sortWorldK encC 3 w g 0 n d os) := by
  refine ⟨rfl, rfl, rfl, ?_, fun k hk hn => ?_⟩
  · simp [sortWorldK, Sort.grow, Sort.putRowK, Sort.putRow, Sort.mapBlock, Sort.ahead]
  · have hne : ¬ g = k := fun e => hn (by rw [e]; simp)
    show ((Sort.putRowK encC 3 (Sort.ahead w n) g 0 d).heap ++ os)[k]? = _
    rw [Array.getElem?_append_left (by simp [Sort.putRowK, Sort.putRow, Sort.mapBlock, Sort.ahead]; exact hk)]
    simp [Sort.putRowK, Sort.putRow, Sort.mapBlock, Sort.ahead, Array.getElem?_modify, hne]
theorem cts_sorted {w : World} {g n : Nat} {d d' : Array CT} {os : Array Obj} (h : Sort.HoldsK encC 3 w g 0 d) (hg : g < w.heap.size) (hs : d'.size = d.size) : CtsAt (sortWorldK encC 3 w g 0 n d' os) (some ⟨g, 0, none⟩) d'.toList := by
  have h1 := Sort.holdsK_grow encC 3 (Sort.putRowK encC 3 (Sort.ahead w n) g 0 d') os g 0 d' (by simp [Sort.putRowK, Sort.putRow, Sort.mapBlock, Sort.ahead]; exact hg) (Sort.holdsK_putRowK encC 3 (Sort.ahead w n) g 0 d d' h hs)
  intro i hi
  have hi' : i < d'.size := by simpa using hi
  unfold sortWorldK
  refine ⟨_, rfl, g, i * 3, none, add3 g i, ?_, ?_, ?_⟩
  · have := (Sort.HoldsK.cell h1 (i := i) (c := 0) hi' (by decide)).1
    rw [getElem!_pos d' i hi'] at this
    simpa [encC] using this
  · have := (Sort.HoldsK.cell h1 (i := i) (c := 1) hi' (by decide)).1
    rw [getElem!_pos d' i hi'] at this
    simpa [encC] using this
  · have := (Sort.HoldsK.cell h1 (i := i) (c := 2) hi' (by decide)).1
    rw [getElem!_pos d' i hi'] at this
    simpa [encC] using this

def Tryz.sortCites_ren : Go.Shelf.Ren := ⟨fun | 6 => 67 | 15 => 93 | 14 => 92 | 28 => 117 | 29 => 118 | 20 => 109 | 21 => 110 | 22 => 111 | 23 => 112 | 24 => 113 | 25 => 114 | 26 => 115 | 27 => 116 | 46 => 125 | 47 => 126 | 48 => 127 | 49 => 128 | 50 => 129 | 57 => 134 | n => n, fun | 22 => 35 | 24 => 86 | 25 => 142 | 3 => 3 | 39 => 158 | 0 => 0 | 53 => 156 | 55 => 117 | 4 => 4 | 46 => 193 | 45 => 192 | 50 => 197 | 5 => 5 | 9 => 9 | 66 => 205 | 70 => 209 | 76 => 213 | 77 => 214 | n => n, fun | n => n⟩
theorem Tryz.sortCites : Go.Proofs.SlLaysF0.n6 Tryz.prog Tryz.sortCites_ren := {
  mixed := by kernel_rfl
  f6 := ⟨Tryz.f67.name, by decide, Tryz.func67.trans (congrArg some (by kernel_rfl))⟩
  f14 := ⟨Tryz.f92.name, by decide, Tryz.func92.trans (congrArg some (by kernel_rfl))⟩
  f15 := Tryz.func93.trans (congrArg some (by kernel_rfl))
  f20 := ⟨Tryz.f109.name, by decide, Tryz.func109.trans (congrArg some (by kernel_rfl))⟩
  f21 := ⟨Tryz.f110.name, by decide, Tryz.func110.trans (congrArg some (by kernel_rfl))⟩
  f22 := ⟨Tryz.f111.name, by decide, Tryz.func111.trans (congrArg some (by kernel_rfl))⟩
  f23 := ⟨Tryz.f112.name, by decide, Tryz.func112.trans (congrArg some (by kernel_rfl))⟩
  f24 := ⟨Tryz.f113.name, by decide, Tryz.func113.trans (congrArg some (by kernel_rfl))⟩
  f25 := ⟨Tryz.f114.name, by decide, Tryz.func114.trans (congrArg some (by kernel_rfl))⟩
  f26 := ⟨Tryz.f115.name, by decide, Tryz.func115.trans (congrArg some (by kernel_rfl))⟩
  f27 := ⟨Tryz.f116.name, by decide, Tryz.func116.trans (congrArg some (by kernel_rfl))⟩
  f28 := Tryz.func117.trans (congrArg some (by kernel_rfl))
  f29 := Tryz.func118.trans (congrArg some (by kernel_rfl))
  f46 := ⟨Tryz.f125.name, by decide, Tryz.func125.trans (congrArg some (by kernel_rfl))⟩
  f47 := Tryz.func126.trans (congrArg some (by kernel_rfl))
  f48 := Tryz.func127.trans (congrArg some (by kernel_rfl))
  f49 := ⟨Tryz.f128.name, by decide, Tryz.func128.trans (congrArg some (by kernel_rfl))⟩
  f50 := ⟨Tryz.f129.name, by decide, Tryz.func129.trans (congrArg some (by kernel_rfl))⟩
  f57 := ⟨Tryz.f134.name, by decide, Tryz.func134.trans (congrArg some (by kernel_rfl))⟩
  t0 := Tryz.underlying0
  a0 := Tryz.isAgg0
  z0 := Tryz.sizeOf0
  v0 := Tryz.zeroValue0
  t3 := Tryz.underlying3
  a3 := Tryz.isAgg3
  z3 := Tryz.sizeOf3
  v3 := Tryz.zeroValue3
  t4 := Tryz.underlying4
  a4 := Tryz.isAgg4
  z4 := Tryz.sizeOf4
  v4 := Tryz.zeroValue4
  t5 := Tryz.underlying5
  a5 := Tryz.isAgg5
  z5 := Tryz.sizeOf5
  v5 := Tryz.zeroValue5
  t9 := Tryz.underlying9
  a9 := Tryz.isAgg9
  z9 := Tryz.sizeOf9
  v9 := Tryz.zeroValue9
  t22 := Tryz.underlying35
  a22 := Tryz.isAgg35
  z22 := Tryz.sizeOf35
  v22 := Tryz.zeroValue35
  t25 := Tryz.underlying142
  a25 := Tryz.isAgg142
  z25 := Tryz.sizeOf142
  v25 := Tryz.zeroValue142
  t39 := Tryz.underlying158
  a39 := Tryz.isAgg158
  z39 := Tryz.sizeOf158
  v39 := Tryz.zeroValue158
  t45 := Tryz.underlying192
  a45 := Tryz.isAgg192
  z45 := Tryz.sizeOf192
  v45 := Tryz.zeroValue192
  t46 := Tryz.underlying193
  a46 := Tryz.isAgg193
  z46 := Tryz.sizeOf193
  v46 := Tryz.zeroValue193
  t50 := Tryz.underlying197
  a50 := Tryz.isAgg197
  z50 := Tryz.sizeOf197
  v50 := Tryz.zeroValue197
  t53 := Tryz.underlying156
  a53 := Tryz.isAgg156
  z53 := Tryz.sizeOf156
  v53 := Tryz.zeroValue156
  t55 := Tryz.underlying117
  a55 := Tryz.isAgg117
  z55 := Tryz.sizeOf117
  v55 := Tryz.zeroValue117
  t66 := Tryz.underlying205
  a66 := Tryz.isAgg205
  z66 := Tryz.sizeOf205
  v66 := Tryz.zeroValue205
  t70 := Tryz.underlying209
  a70 := Tryz.isAgg209
  z70 := Tryz.sizeOf209
  v70 := Tryz.zeroValue209
  t76 := Tryz.underlying213
  a76 := Tryz.isAgg213
  z76 := Tryz.sizeOf213
  v76 := Tryz.zeroValue213
  t77 := Tryz.underlying214
  a77 := Tryz.isAgg214
  z77 := Tryz.sizeOf214
  v77 := Tryz.zeroValue214 }
set_option maxHeartbeats 2000000 in
theorem ins_none (p : Option Addr) (cap : Nat) (fv : Value) (w : World) :
    Calls Tryz.prog 109 #[.slice p 0 cap, .int .i64 0, .int .i64 0, fv] w fun e w' => e = .returned (.tuple #[]) ∧ w' = w := by
  go_enter Tryz.func109, Tryz.ntmps109
  go_wp2
  refine wp_loop_rounds 1 ?_
  rw [rounds_succ]
  go_wp2
  go_end0
  exact ⟨rfl, rfl⟩
theorem bitl_any (w : World) : Calls Tryz.prog 93 #[.int .u64 0] w fun e w' => (∃ l : Int, e = .returned (.int .i64 l)) ∧ w' = w :=
  (Any.bits_Len Tryz.lays125 0 w (by omega) (by omega)).mono fun _ _ h => ⟨⟨_, h.1⟩, h.2⟩
set_option maxHeartbeats 2000000 in
theorem pdq_none (p : Option Addr) (cap : Nat) (lim : Int) (fv : Value) (w : World) :
    Calls Tryz.prog 92 #[.slice p 0 cap, .int .i64 0, .int .i64 0, .int .i64 lim, fv] w fun e w' => e = .returned (.tuple #[]) ∧ w' = w := by
  go_enter Tryz.func92, Tryz.ntmps92
  go_wp2
  refine wp_loop_rounds 1 ?_
  rw [rounds_succ]
  go_wp2_with (fail)
  refine (ins_none p cap fv w).mono ?_
  rintro e w' ⟨rfl, rfl⟩
  go_wp2_with (fail)
  (try simp only [Exit.inBlock, Exit.then]); refine bodyPost_ret (results_none rfl _ _ _) rfl ?_
  exact ⟨rfl, rfl⟩
set_option maxHeartbeats 2000000 in
theorem sort_none (p : Option Addr) (cap : Nat) (fv : Value) (w : World) :
    Calls Tryz.prog 67 #[.slice p 0 cap, fv] w fun e w' => e = .returned (.tuple #[]) ∧ w' = w := by
  go_enter Tryz.func67, Tryz.ntmps67
  go_wp2_with (fail)
  refine (bitl_any w).mono ?_
  rintro e w' ⟨⟨l, rfl⟩, rfl⟩
  go_wp2_with (fail)
  refine (pdq_none p cap l fv w').mono ?_
  rintro e w' ⟨rfl, rfl⟩
  go_wp2_with (fail)
  go_end0
  exact ⟨rfl, rfl⟩
theorem sortc_any (B : Nat) (v : Value) (C : List CT) (w : World) (ho : OwnG ctEl B w v C) (hC : C.length ≤ 100000) :
    Calls Tryz.prog 67 #[v, .func (.func 68) #[] #[]] w fun e w' => e = .returned (.tuple #[]) ∧
      ∃ P : List CT, P.Perm C ∧ P.Pairwise (fun c d => ctLess d c.t c.v = false) ∧ Keep v.ownBlock.toList w w' ∧ ∃ p cap, v = .slice p P.length cap ∧ CtsAt w' p P := by
  rcases own_cts ho with ⟨rfl, rfl⟩ | ⟨g, cap, rfl, _, hg, _, _, _, _⟩
  · refine (sort_none none 0 _ w).mono ?_
    rintro e w' ⟨rfl, rfl⟩
    exact ⟨rfl, [], List.Perm.refl _, List.Pairwise.nil, Keep.refl _ _, none, 0, rfl, CtsAt.nil _ _⟩
  · have hH := holds_own ho
    have eg : ∀ args w, (callFunc 68 args).run Tryz.prog w = .ok (.enter 68 args) w := enters_of Tryz.func68 (by kernel_rfl) rfl
    have hcmp : CmpLays Tryz.prog 68 #[] encC 3 verC g 0 C.toArray.size w := fun m os dk hdk x y => byver_any x y _
    have hcon := AnyQ.slices_SortFunc Tryz.sortCites 3 Tryz.isAgg86 Tryz.sizeOf86 encC enc_len enc_one verC ver_swo 68 #[] g 0 cap C.toArray w eg hcmp hH hg (by simp; omega)
    refine Calls.mono (show Calls Tryz.prog 67 _ _ _ from hcon) ?_
    rintro e w' ⟨rfl, d', n, os, hp, hs, rfl⟩
    obtain ⟨hsz, -, hpm⟩ := hp
    have e1 : (d'.extract 0 C.toArray.size).toList = d'.toList := by
      rw [← hsz, Array.extract_size]
    have e2 : (C.toArray.extract 0 C.toArray.size).toList = C := by rw [Array.extract_size]
    rw [e1, e2] at hpm
    have hl : d'.toList.length = C.length := hpm.length_eq
    refine ⟨rfl, d'.toList, hpm, ?_, keep_sorted, _, cap, by rw [hl], cts_sorted hH hg hsz⟩
    rw [List.pairwise_iff_getElem]
    intro i j hi hj hij
    have hi' : i < d'.size := by simpa using hi
    have hj' : j < d'.size := by simpa using hj
    have := hs i j (Nat.zero_le _) hij (by rw [← hsz]; exact hj')
    rw [getElem!_pos d' i hi', getElem!_pos d' j hj', ver_less] at this
    simpa using this
end Go.Proofs.YteimllgoelleeaaGreatDoor
/- table.cites. -/
namespace Go.Proofs.YteimllgoelleeaaGreatDoor
open Go.RowKit Go.Deep

theorem cite_right {e : EB} (h : rightB e = true) : citeE e = citeL e.v.data.toList := by
  unfold citeE
  cases hd : e.d with
  | false => rfl
  | true =>
    have := right_dead h hd
    rw [this]
    rfl
theorem fm_none {L : List EB} {k : Nat} (h : k < L.length) (hc : citeCT L[k] = none) : (L.take (k + 1)).filterMap citeCT = (L.take k).filterMap citeCT := by
  rw [List.take_add_one, List.getElem?_eq_getElem h, Option.toList_some, List.filterMap_append, List.filterMap_cons_none hc]
  simp
theorem fm_some {L : List EB} {k : Nat} {c : CT} (h : k < L.length) (hc : citeCT L[k] = some c) : (L.take (k + 1)).filterMap citeCT = (L.take k).filterMap citeCT ++ [c] := by
  rw [List.take_add_one, List.getElem?_eq_getElem h, Option.toList_some, List.filterMap_append, List.filterMap_cons_some hc]
  simp
theorem fm_len (L : List EB) (k : Nat) : ((L.take k).filterMap citeCT).length ≤ k := Nat.le_trans (List.length_filterMap_le _ _) (List.length_take_le _ _)
theorem step_same {N : List CT} {j : Nat} (hj : j + 1 = N.length) (c : CT) (h : N[j].t = c.t ∧ N[j].v = c.v) : stepQ N c = N.set j ⟨N[j].t, N[j].v, N[j].n + 1⟩ := by
  rcases snoc_cases N with rfl | ⟨M, d, rfl⟩
  · simp at hj
  · have hm : j = M.length := by simpa using hj
    subst hm
    have e : (M ++ [d])[M.length]'(by simp) = d := by simp
    rw [e] at h
    rw [stepQ_snoc, if_pos h]
    simp
theorem step_diff {N : List CT} {j : Nat} (hj : j + 1 = N.length) (c : CT) (h : ¬ (N[j].t = c.t ∧ N[j].v = c.v)) : stepQ N c = N ++ [c] := by
  rcases snoc_cases N with rfl | ⟨M, d, rfl⟩
  · simp at hj
  · have hm : j = M.length := by simpa using hj
    subst hm
    have e : (M ++ [d])[M.length]'(by simp) = d := by simp
    rw [e] at h
    rw [stepQ_snoc, if_neg h]
theorem sum_take {P : List CT} {k : Nat} (h : k < P.length) : sumC (P.take (k + 1)) = stepQ (sumC (P.take k)) P[k] := by
  rw [List.take_add_one, List.getElem?_eq_getElem h, Option.toList_some, sum_snoc]
theorem ver_zero (c d : CT) : (verC c d == 0) = decide (c.t = d.t ∧ c.v = d.v) := by
  unfold verC orV Lib.compareInt
  rcases Nat.lt_trichotomy c.t d.t with h | h | h
  · have h1 : (c.t : Int) < d.t := by omega
    have h2 : ¬ c.t = d.t := by omega
    simp [h1, h2]
  · rw [h]
    rcases Nat.lt_trichotomy c.v d.v with g | g | g
    · have g1 : (c.v : Int) < d.v := by omega
      have g2 : ¬ c.v = d.v := by omega
      simp [g1, g2]
    · rw [g]; simp
    · have g1 : ¬ (c.v : Int) < d.v := by omega
      have g2 : (d.v : Int) < c.v := by omega
      have g3 : ¬ c.v = d.v := by omega
      have g4 : ¬ c.v < d.v := by omega
      simp [g1, g2, g3, g, g4]
  · have h1 : ¬ (c.t : Int) < d.t := by omega
    have h2 : (d.t : Int) < c.t := by omega
    have h3 : ¬ c.t = d.t := by omega
    have h4 : ¬ c.t < d.t := by omega
    simp [h1, h2, h3, h, h4]
theorem grow_bel {w : World} (q : Nat) (os : Array Obj) : Bel w (Sort.grow (w.drewN q) os) := by
  refine ⟨rfl, rfl, rfl, ?_, fun k hk => ?_⟩
  · show w.heap.size ≤ ((w.drewN q).heap ++ os).size
    rw [Array.size_append]
    show w.heap.size ≤ w.heap.size + _
    omega
  · show ((w.drewN q).heap ++ os)[k]? = _
    rw [Array.getElem?_append_left (by show k < w.heap.size; exact hk)]
    rfl
theorem byver_bel (c d : CT) (w : World) :
    Calls Tryz.prog 68 #[.agg #[.int .i64 (c.t : Int), .int .i64 (c.v : Int), .int .i64 (c.n : Int)], .agg #[.int .i64 (d.t : Int), .int .i64 (d.v : Int), .int .i64 (d.n : Int)]] w fun e w' => e = .returned (.int .i64 (verC c d)) ∧ Bel w w' := by
  refine (byver_any c d w).mono ?_
  rintro e w' ⟨rfl, q, os, rfl⟩
  exact ⟨rfl, grow_bel q os⟩
theorem own_low {α : Type} {E : El α} {B B' : Nat} {w : World} {v : Value} {L : List α} (h : OwnG E B w v L) (hB : B' ≤ B) : OwnG E B' w v L := by
  obtain ⟨h1, h2⟩ := h
  refine ⟨h1, ?_⟩
  rcases h2 with h2 | ⟨g, cap, cur, rfl, hg, r⟩
  · exact Or.inl h2
  · exact Or.inr ⟨g, cap, cur, rfl, Nat.le_trans hB hg, r⟩
theorem sumC_small : ∀ (l out : List CT) (m : Nat), (∀ c ∈ l, c.n = 1) → (∀ d ∈ out, d.n ≤ m) → ∀ d ∈ l.foldl stepQ out, d.n ≤ m + l.length
  | [], out, m, _, h, d, hd => by have := h d hd; simpa using this
  | c :: l, out, m, h1, h, d, hd => by
    rw [List.foldl_cons] at hd
    have := sumC_small l (stepQ out c) (m + 1) (fun x hx => h1 x (by simp [hx])) (fun x hx => by
      rcases snoc_cases out with rfl | ⟨M, y, rfl⟩
      · rw [stepQ_nil] at hx; simp at hx; subst hx; have := h1 x (by simp); omega
      · rw [stepQ_snoc] at hx
        have hy := h y (by simp)
        split at hx
        · rcases List.mem_append.1 hx with hx | hx
          · have := h x (by simp [hx]); omega
          · simp at hx; subst hx; show y.n + 1 ≤ m + 1; omega
        · rcases List.mem_append.1 hx with hx | hx
          · have := h x hx; omega
          · simp at hx; subst hx; have := h1 x (by simp); omega) d hd
    rw [List.length_cons]; omega
theorem perm_ones {L : List EB} {P : List CT} (hp : P.Perm (L.filterMap citeCT)) : ∀ c ∈ P, c.n = 1 := fun c hc => by
  obtain ⟨e, -, he⟩ := List.mem_filterMap.1 (hp.mem_iff.1 hc)
  unfold citeCT at he
  cases h : citeE e with
  | none => rw [h] at he; cases he
  | some p => rw [h] at he; cases he; rfl
set_option maxHeartbeats 2000000 in
set_option maxRecDepth 20000 in
theorem pcites_any (p : Option Addr) (cap : Nat) (L : List EB) (w : World) (h : EntsAt w p L) (hL : L.length ≤ 10000) (hr : ∀ e ∈ L, rightB e = true) :
    Calls Tryz.prog 41 #[.slice p L.length cap] w fun e w' => ∃ v, e = .returned v ∧ OwnG ctEl w.heap.size w' v (citesB L) ∧ Bel w w' := by
  have H := Lib.hid h; clear h
  have HR := Lib.hid hr; clear hr
  go_enter Tryz.func41, Tryz.ntmps41
  go_wp2_with (fail)
  go_loopw [3, 15] (fun cv iv x => ∃ k : Nat, k ≤ L.length ∧ iv = .int .i64 k ∧ OwnG ctEl w.heap.size x cv ((L.take k).filterMap citeCT) ∧ Bel w x) (fun _ iv _ => L.length - (intOf iv).toNat)
  case atStart => exact ⟨0, Nat.zero_le _, rfl, OwnG.nil _ _ _, Bel.refl w⟩
  case round =>
    obtain ⟨k, hk, rfl, hown, hb⟩ := hrel
    have HB := Lib.hid hb
    by_cases hlt : k < L.length
    · obtain ⟨a, e0, rfl, he0, B, O, sp, ha, c0, c1, c2, c3⟩ := (H.out.bel hb).get hlt
      have hright := HR.out e0 (by rw [he0]; exact List.getElem_mem hlt)
      have hvz : e0.v.size ≤ 1000000 := by have := (right_parts hright).2.2.2.1; omega
      have HCE := Lib.hid (cite_right hright)
      have HE0 := Lib.hid he0
      have HLT := Lib.hid hlt
      have hki : (k : Int) < (L.length : Int) := by omega
      obtain ⟨cp, ccap, rfl⟩ := ownG_len hown
      have HOW := Lib.hid hown
      have hfl := fm_len L k
      clear hb he0 hright hown
      go_wp2_with (fail)
      refine (pcite_any e0.v _ hvz).mono ?_
      rintro r w1 ⟨rfl, hb⟩
      have HB1 := Lib.hid (show Bel wr w1 from Bel.trans ((Bel.refl wr).alloc _) hb)
      clear hb c0 c1 c2 c3
      cases hc : citeL e0.v.data.toList with
      | none =>
        rw [citeV_none hc]
        have HN := Lib.hid (fm_none HLT.out (by rw [← HE0.out]; unfold citeCT; rw [HCE.out, hc]; rfl))
        clear hc
        go_wp2_with (fail)
        go_roundw
        case rel => exact ⟨k + 1, hlt, by go_num, by rw [HN.out]; exact HOW.out.bel HB1.out, HB.out.trans HB1.out⟩
        case measure => simp [intOf]; omega
      | some ab =>
        obtain ⟨a1, b1⟩ := ab
        rw [citeV_some hc]
        have HN := Lib.hid (fm_some (c := ⟨a1, b1, 1⟩) HLT.out (by rw [← HE0.out]; unfold citeCT; rw [HCE.out, hc]; rfl))
        clear hc
        have HO1 := Lib.hid (HOW.out.bel HB1.out)
        have hz1 : w.heap.size ≤ w1.heap.size := (HB.out.trans HB1.out).size
        have HQ := Lib.hid (show ctEl.all [CT.mk a1 b1 1] = [.int .i64 (a1 : Int), .int .i64 (b1 : Int), .int .i64 1] from rfl)
        obtain ⟨C, hC⟩ : ∃ C, (L.take k).filterMap citeCT = C := ⟨_, rfl⟩
        rw [hC] at HO1 HN hfl ⊢
        clear hC
        go_wp2_with (at_builtin; refine stop_here ?_)
        refine go_on ?_
        refine append_all ctOk rfl _ _ rfl rfl (HO1.out.alloc _) [CT.mk a1 b1 1] rfl (src_at [CT.mk a1 b1 1] (heap_alloc_new w1 _) HQ.out.symm rfl) (by simp only [List.length_singleton]; unfold maxLen; omega) (by simp only [List.length_singleton]; omega) (by rw [World.size_alloc]; omega) ?_
        intro v5 w5 ho5 hk5 hv5
        have HB5 := Lib.hid (((HB.out.trans HB1.out).alloc _).trans_below (hk5.own (by rw [World.size_alloc]; omega) (fun k hk => (HO1.out.lt k hk).1)))
        have HO5 := Lib.hid ho5
        clear ho5 hk5 hv5
        go_wp2_with (fail)
        go_roundw
        case rel => exact ⟨k + 1, hlt, by go_num, by rw [HN.out]; exact HO5.out, HB5.out⟩
        case measure => simp [intOf]; omega
    · obtain rfl : k = L.length := by omega
      rw [List.take_length] at hown
      have hfl := List.length_filterMap_le citeCT L
      obtain ⟨cp, ccap, rfl⟩ := ownG_len hown
      have HOW := Lib.hid hown
      have HLO := Lib.hid (fun k hk => (HOW.out.lt k hk).1)
      clear hb hown
      go_wp2_with (fail)
      refine (sortc_any _ _ _ _ HOW.out (by omega)).mono ?_
      rintro r w1 ⟨rfl, P, hperm, hsort, hkeep, q, qc, hveq, hat⟩
      have HB1 := Lib.hid (HB.out.trans_below (hkeep.own HB.out.size HLO.out))
      have HSUM := Lib.hid (cites_sorted hperm hsort)
      have hPl : P.length ≤ 10000 := by have := hperm.length_eq; omega
      have HAT := Lib.hid hat
      have HONE := Lib.hid (perm_ones hperm)
      rw [hveq]
      clear hveq hat hkeep hperm hsort hfl
      go_wp2_with (fail)
      go_loopw [9, 38] (fun sv iv x => ∃ k : Nat, k ≤ P.length ∧ iv = .int .i64 k ∧ OwnG ctEl w1.heap.size x sv (sumC (P.take k)) ∧ Bel w1 x) (fun _ iv _ => P.length - (intOf iv).toNat)
      case atStart => exact ⟨0, Nat.zero_le _, rfl, OwnG.nil _ _ _, Bel.refl w1⟩
      case round =>
        obtain ⟨k, hk, rfl, hown, hb⟩ := hrel
        have HBX := Lib.hid hb
        by_cases hlt : k < P.length
        · obtain ⟨a, c, rfl, hc, B, O, sp, ha, c0, c1, c2⟩ := (HAT.out.bel hb).get hlt
          have HST := Lib.hid (sum_take hlt)
          rw [← hc] at HST
          have hnl : (sumC (P.take k)).length ≤ k := Nat.le_trans (sum_len _) (List.length_take_le _ _)
          have hsm : ∀ d ∈ sumC (P.take k), d.n ≤ 10000 := fun d hd => by
            have h1 := sumC_small (P.take k) [] 0 (fun x hx => HONE.out x (List.mem_of_mem_take hx)) (fun _ h => by cases h) d hd
            have h2 := List.length_take_le k P
            omega
          obtain ⟨N, hN⟩ : ∃ N, sumC (P.take k) = N := ⟨_, rfl⟩
          rw [hN] at HST hown hnl hsm
          have HSM := Lib.hid hsm
          clear hsm
          have hki : (k : Int) < (P.length : Int) := by omega
          have hbz := hb.size
          clear hN hb hc
          have hb0 := (Bel.refl wr).alloc (.cells #[.int .i64 (c.t : Int), .int .i64 (c.v : Int), .int .i64 (c.n : Int)] 86)
          have d0 : (wr.alloc (.cells #[.int .i64 (c.t : Int), .int .i64 (c.v : Int), .int .i64 (c.n : Int)] 86)).cell? ⟨wr.heap.size, 0, none⟩ = some (.int .i64 (c.t : Int)) := (World.cell?_alloc_new ..).trans (by simp)
          have d1 : (wr.alloc (.cells #[.int .i64 (c.t : Int), .int .i64 (c.v : Int), .int .i64 (c.n : Int)] 86)).cell? ⟨wr.heap.size, 1, none⟩ = some (.int .i64 (c.v : Int)) := (World.cell?_alloc_new ..).trans (by simp)
          have d2 : (wr.alloc (.cells #[.int .i64 (c.t : Int), .int .i64 (c.v : Int), .int .i64 (c.n : Int)] 86)).cell? ⟨wr.heap.size, 2, none⟩ = some (.int .i64 (c.n : Int)) := (World.cell?_alloc_new ..).trans (by simp)
          obtain ⟨X, hX⟩ : ∃ X, X = wr.heap.size := ⟨_, rfl⟩
          by_cases hN0 : N.length = 0
          · have HN0 := Lib.hid (List.length_eq_zero_iff.1 hN0)
            have HSQ := Lib.hid (show stepQ N c = N ++ [c] by rw [HN0.out]; rfl)
            obtain ⟨np, ncap, rfl⟩ := ownG_len hown
            have HOW := Lib.hid hown
            have hNi : (N.length : Int) = 0 := by omega
            have HN1 := Lib.hid hN0
            clear hown hN0
            go_wp2_with (fail)
            rw [← hX] at d0 d1 d2 ⊢
            clear hX
            generalize hw2 : wr.alloc (.cells #[.int .i64 (c.t : Int), .int .i64 (c.v : Int), .int .i64 (c.n : Int)] 86) = w2 at *
            have HB0 := Lib.hid hb0
            clear hw2 hb0
            refine wp_region_held_drew (S := fun z => z.cell? ⟨X, 0, none⟩ = some (.int .i64 (c.t : Int)) ∧ z.cell? ⟨X, 1, none⟩ = some (.int .i64 (c.v : Int)) ∧ z.cell? ⟨X, 2, none⟩ = some (.int .i64 (c.n : Int))) (by kernel_rfl) ⟨d0, d1, d2⟩ (fun hHeld => ?_)
            refine tk (oi := { dst := some 45, op := Op.move (Operand.tmp 12), type := 3, pos := "entry.go:63", after := #[], guard := none }) (v := ?_) 0 rfl ?_ ?_
            rotate_left
            · (intro w hSw; (try dsimp only at hSw); first | (go_simp; done) | (go_simp; with_reducible rfl))
            try simp only [Act.put, List.setIfInBounds_toArray, List.set_cons_zero, List.set_cons_succ]
            refine tk (oi := { dst := some 46, op := Op.binOp BinOp.geq 3 (Operand.tmp 45) (Operand.const (Value.int IntKind.i64 0)) 3, type := 4, pos := "entry.go:63", after := #[{ on := 0, ground := Ground.data }], guard := none }) (v := ?_) 1 rfl ?_ ?_
            rotate_left
            · (intro w hSw; (try dsimp only at hSw); first | (go_simp; done) | (go_simp; with_reducible rfl))
            try simp only [Act.put, List.setIfInBounds_toArray, List.set_cons_zero, List.set_cons_succ]
            refine tk (oi := { dst := some 47, op := Op.move (Operand.tmp 46), type := 4, pos := "entry.go:63", after := #[{ on := 1, ground := Ground.data }], guard := none }) (v := ?_) 2 rfl ?_ ?_
            rotate_left
            · (intro w hSw; (try dsimp only at hSw); first | (go_simp; done) | (go_simp; with_reducible rfl))
            try simp only [Act.put, List.setIfInBounds_toArray, List.set_cons_zero, List.set_cons_succ]
            refine wpAnyH_take (i := 3) (oi := { dst := some 48, op := Op.move (Operand.tmp 9), type := 35, pos := "entry.go:63", after := #[{ on := 2, ground := Ground.guard }], guard := some (2, true) }) (v := undef) rfl (by kernel_rfl) (by kernel_rfl) (by kernel_rfl) (fun _ _ _ h => h) (Or.inr ⟨by rfl, rfl⟩) (by assumption) ?_
            try simp only [Act.put, List.setIfInBounds_toArray, List.set_cons_zero, List.set_cons_succ]
            refine wpAnyH_take (i := 4) (oi := { dst := some 49, op := Op.move (Operand.tmp 12), type := 3, pos := "entry.go:63", after := #[{ on := 2, ground := Ground.guard }], guard := some (2, true) }) (v := undef) rfl (by kernel_rfl) (by kernel_rfl) (by kernel_rfl) (fun _ _ _ h => h) (Or.inr ⟨by rfl, rfl⟩) (by assumption) ?_
            try simp only [Act.put, List.setIfInBounds_toArray, List.set_cons_zero, List.set_cons_succ]
            refine wpAnyH_take (i := 5) (oi := { dst := some 50, op := Op.indexAddr 35 (Operand.tmp 48) (Operand.tmp 49), type := 0, pos := "entry.go:63", after := #[{ on := 3, ground := Ground.data }, { on := 4, ground := Ground.data }, { on := 2, ground := Ground.guard }], guard := some (2, true) }) (v := undef) rfl (by kernel_rfl) (by kernel_rfl) (by kernel_rfl) (fun _ _ _ h => h) (Or.inr ⟨by rfl, rfl⟩) (by assumption) ?_
            try simp only [Act.put, List.setIfInBounds_toArray, List.set_cons_zero, List.set_cons_succ]
            refine wpAnyH_take (i := 6) (oi := { dst := some 51, op := Op.load 86 (Operand.tmp 50), type := 86, pos := "entry.go:63", after := #[{ on := 5, ground := Ground.data }, { on := 2, ground := Ground.guard }], guard := some (2, true) }) (v := undef) rfl (by kernel_rfl) (by kernel_rfl) (by kernel_rfl) (fun _ _ _ h => h) (Or.inr ⟨by rfl, rfl⟩) (by assumption) ?_
            try simp only [Act.put, List.setIfInBounds_toArray, List.set_cons_zero, List.set_cons_succ]
            refine wpAnyH_take (i := 7) (oi := { dst := some 52, op := Op.load 86 (Operand.tmp 11), type := 86, pos := "entry.go:63", after := #[{ on := 2, ground := Ground.guard }], guard := some (2, true) }) (v := undef) rfl (by kernel_rfl) (by kernel_rfl) (by kernel_rfl) (fun _ _ _ h => h) (Or.inr ⟨by rfl, rfl⟩) (by assumption) ?_
            try simp only [Act.put, List.setIfInBounds_toArray, List.set_cons_zero, List.set_cons_succ]
            refine wpAnyH_take (i := 8) (oi := { dst := some 53, op := Op.call { callee := Callee.value (Operand.func 68), args := #[Operand.tmp 51, Operand.tmp 52], argTypes := #[86, 86] }, type := 3, pos := "entry.go:63", after := #[{ on := 6, ground := Ground.data }, { on := 7, ground := Ground.data }, { on := 2, ground := Ground.chain }, { on := 2, ground := Ground.guard }], guard := some (2, true) }) (v := undef) rfl (by kernel_rfl) (by kernel_rfl) (by kernel_rfl) (fun _ _ _ h => h) (Or.inr ⟨by rfl, rfl⟩) (by assumption) ?_
            try simp only [Act.put, List.setIfInBounds_toArray, List.set_cons_zero, List.set_cons_succ]
            refine wpAnyH_take (i := 9) (oi := { dst := some 54, op := Op.binOp BinOp.eql 3 (Operand.tmp 53) (Operand.const (Value.int IntKind.i64 0)) 3, type := 4, pos := "entry.go:63", after := #[{ on := 8, ground := Ground.data }, { on := 2, ground := Ground.guard }], guard := some (2, true) }) (v := undef) rfl (by kernel_rfl) (by kernel_rfl) (by kernel_rfl) (fun _ _ _ h => h) (Or.inr ⟨by rfl, rfl⟩) (by assumption) ?_
            try simp only [Act.put, List.setIfInBounds_toArray, List.set_cons_zero, List.set_cons_succ]
            refine tk (oi := { dst := some 55, op := Op.pick (Operand.tmp 47) (Operand.tmp 54) (Operand.const (Value.bool false)), type := 4, pos := "entry.go:63", after := #[{ on := 2, ground := Ground.data }, { on := 9, ground := Ground.data }], guard := none }) (v := ?_) 10 rfl ?_ ?_
            rotate_left
            · (intro w hSw; (try dsimp only at hSw); first | (go_simp; done) | (go_simp; with_reducible rfl))
            try simp only [Act.put, List.setIfInBounds_toArray, List.set_cons_zero, List.set_cons_succ]
            refine wpAnyH_done (by kernel_rfl) ?_ _
            obtain ⟨g0, g1, g2⟩ := hHeld
            have HBY := Lib.hid (show Bel wr w2.drew from HB0.out.drew)
            generalize w2.drew = w3 at *
            have HQ := Lib.hid (show ctEl.all [c] = [.int .i64 (c.t : Int), .int .i64 (c.v : Int), .int .i64 (c.n : Int)] from rfl)
            have HO4 := Lib.hid (HOW.out.bel HBY.out)
            have hz4 := HBY.out.size
            go_wp2_with (at_builtin; refine stop_here ?_)
            refine go_on ?_
            refine append_all ctOk rfl _ _ rfl rfl (HO4.out.alloc _) [c] rfl (src_at [c] (heap_alloc_new w3 _) HQ.out.symm rfl) (by simp only [List.length_singleton]; unfold maxLen; omega) (by simp only [List.length_singleton]; omega) (by rw [World.size_alloc]; omega) ?_
            intro v5 w5 ho5 hk5 hv5
            have HB5 := Lib.hid (((HBX.out.trans HBY.out).alloc _).trans_below (hk5.own (by rw [World.size_alloc]; omega) (fun k hk => (HO4.out.lt k hk).1)))
            have HO5 := Lib.hid ho5
            clear ho5 hk5 hv5
            go_wp2_with (fail)
            go_roundw
            case rel => exact ⟨k + 1, hlt, by go_num, by rw [HST.out, HSQ.out]; exact HO5.out, HB5.out⟩
            case measure => simp [intOf]; omega
          · obtain ⟨j, hj⟩ : ∃ j, j + 1 = N.length := ⟨N.length - 1, by omega⟩
            rcases own_cts hown with ⟨-, h9⟩ | ⟨g, cap2, rfl, hBg, hgl, hcap, hcm, hf, hcells⟩
            · exact absurd (by rw [h9]; rfl) hN0
            obtain ⟨d, hd, e0, e1, e2⟩ := hcells j (by omega)
            have hff := hf (j * 3 + 2)
            have hadd := add3 g j
            have hlast : (N.length : Int) - 1 = (j : Int) := by omega
            have hj1 : (j : Int) < (N.length : Int) := by omega
            have hjl : j < N.length := by omega
            have hdn : d.n ≤ 10000 := HSM.out d (by rw [hd]; exact List.getElem_mem hjl)
            have HS1 := Lib.hid (show (d.t = c.t ∧ d.v = c.v) → stepQ N c = N.set j ⟨d.t, d.v, d.n + 1⟩ from fun h => by rw [hd] at h ⊢; exact step_same hj c h)
            have HS2 := Lib.hid (show ¬ (d.t = c.t ∧ d.v = c.v) → stepQ N c = N ++ [c] from fun h => by rw [hd] at h; exact step_diff hj c h)
            have HS3 := Lib.hid (show ctEl.all (N.set j ⟨d.t, d.v, d.n + 1⟩) = (ctEl.all N).set (j * 3 + 2) (.int .i64 ((d.n : Int) + 1)) by rw [hd, cts_set N j (N[j].n + 1) hjl]; rfl)
            have HV0 := Lib.hid (ver_zero d c)
            have HOW := Lib.hid hown
            have i0 := cell_later hb0 e0
            have i1 := cell_later hb0 e1
            have i2 := cell_later hb0 e2
            clear hown hN0 hj hd hcells hf e0 e1 e2
            go_wp2_with (fail)
            rw [← hX] at d0 d1 d2 ⊢
            have hgX : g < X := by rw [hX]; exact hgl
            clear hX
            generalize hw2 : wr.alloc (.cells #[.int .i64 (c.t : Int), .int .i64 (c.v : Int), .int .i64 (c.n : Int)] 86) = w2 at *
            have HB0 := Lib.hid hb0
            clear hw2 hb0
            refine wp_region_held_drew (S := fun z => (z.cell? ⟨X, 0, none⟩ = some (.int .i64 (c.t : Int)) ∧ z.cell? ⟨X, 1, none⟩ = some (.int .i64 (c.v : Int)) ∧ z.cell? ⟨X, 2, none⟩ = some (.int .i64 (c.n : Int))) ∧ z.cell? ⟨g, j * 3, none⟩ = some (.int .i64 (d.t : Int)) ∧ z.cell? ⟨g, j * 3 + 1, none⟩ = some (.int .i64 (d.v : Int)) ∧ z.cell? ⟨g, j * 3 + 2, none⟩ = some (.int .i64 (d.n : Int))) (by kernel_rfl) ⟨⟨d0, d1, d2⟩, i0, i1, i2⟩ (fun hHeld => ?_)
            refine tk (oi := { dst := some 45, op := Op.move (Operand.tmp 12), type := 3, pos := "entry.go:63", after := #[], guard := none }) (v := ?_) 0 rfl ?_ ?_
            rotate_left
            · (intro w hSw; (try dsimp only at hSw); first | (go_simp; done) | (go_simp; with_reducible rfl))
            try simp only [Act.put, List.setIfInBounds_toArray, List.set_cons_zero, List.set_cons_succ]
            refine tk (oi := { dst := some 46, op := Op.binOp BinOp.geq 3 (Operand.tmp 45) (Operand.const (Value.int IntKind.i64 0)) 3, type := 4, pos := "entry.go:63", after := #[{ on := 0, ground := Ground.data }], guard := none }) (v := ?_) 1 rfl ?_ ?_
            rotate_left
            · (intro w hSw; (try dsimp only at hSw); first | (go_simp; done) | (go_simp; with_reducible rfl))
            try simp only [Act.put, List.setIfInBounds_toArray, List.set_cons_zero, List.set_cons_succ]
            refine tk (oi := { dst := some 47, op := Op.move (Operand.tmp 46), type := 4, pos := "entry.go:63", after := #[{ on := 1, ground := Ground.data }], guard := none }) (v := ?_) 2 rfl ?_ ?_
            rotate_left
            · (intro w hSw; (try dsimp only at hSw); first | (go_simp; done) | (go_simp; with_reducible rfl))
            try simp only [Act.put, List.setIfInBounds_toArray, List.set_cons_zero, List.set_cons_succ]
            refine tk (oi := { dst := some 48, op := Op.move (Operand.tmp 9), type := 35, pos := "entry.go:63", after := #[{ on := 2, ground := Ground.guard }], guard := some (2, true) }) (v := ?_) 3 rfl ?_ ?_
            rotate_left
            · (intro w hSw; (try dsimp only at hSw); first | (go_simp; done) | (go_simp; with_reducible rfl))
            try simp only [Act.put, List.setIfInBounds_toArray, List.set_cons_zero, List.set_cons_succ]
            refine tk (oi := { dst := some 49, op := Op.move (Operand.tmp 12), type := 3, pos := "entry.go:63", after := #[{ on := 2, ground := Ground.guard }], guard := some (2, true) }) (v := ?_) 4 rfl ?_ ?_
            rotate_left
            · (intro w hSw; (try dsimp only at hSw); first | (go_simp; done) | (go_simp; with_reducible rfl))
            try simp only [Act.put, List.setIfInBounds_toArray, List.set_cons_zero, List.set_cons_succ]
            refine tk (oi := { dst := some 50, op := Op.indexAddr 35 (Operand.tmp 48) (Operand.tmp 49), type := 0, pos := "entry.go:63", after := #[{ on := 3, ground := Ground.data }, { on := 4, ground := Ground.data }, { on := 2, ground := Ground.guard }], guard := some (2, true) }) (v := ?_) 5 rfl ?_ ?_
            rotate_left
            · (intro w hSw; (try dsimp only at hSw); first | (go_simp; done) | (go_simp; with_reducible rfl))
            try simp only [Act.put, List.setIfInBounds_toArray, List.set_cons_zero, List.set_cons_succ]
            refine tk (oi := { dst := some 51, op := Op.load 86 (Operand.tmp 50), type := 86, pos := "entry.go:63", after := #[{ on := 5, ground := Ground.data }, { on := 2, ground := Ground.guard }], guard := some (2, true) }) (v := ?_) 6 rfl ?_ ?_
            rotate_left
            · (intro w hSw; (try dsimp only at hSw); first | (go_simp; done) | (go_simp; with_reducible rfl))
            try simp only [Act.put, List.setIfInBounds_toArray, List.set_cons_zero, List.set_cons_succ]
            refine tk (oi := { dst := some 52, op := Op.load 86 (Operand.tmp 11), type := 86, pos := "entry.go:63", after := #[{ on := 2, ground := Ground.guard }], guard := some (2, true) }) (v := ?_) 7 rfl ?_ ?_
            rotate_left
            · (intro w hSw; (try dsimp only at hSw); first | (go_simp; done) | (go_simp; with_reducible rfl))
            try simp only [Act.put, List.setIfInBounds_toArray, List.set_cons_zero, List.set_cons_succ]
            refine wpAnyH_ready (rs := [8]) (by kernel_rfl) (by simp) ?_
            refine AllReadyH.cons (o := { dst := some 53, op := Op.call { callee := Callee.value (Operand.func 68), args := #[Operand.tmp 51, Operand.tmp 52], argTypes := #[86, 86] }, type := 3, pos := "entry.go:63", after := #[{ on := 6, ground := Ground.data }, { on := 7, ground := Ground.data }, { on := 2, ground := Ground.chain }, { on := 2, ground := Ground.guard }], guard := some (2, true) }) rfl (fun K hK => ?_) AllReadyH.nil
            go_simp
            refine (byver_bel d c w2.drew).mono ?_
            rintro r w3 ⟨rfl, hb3⟩
            have HBY := Lib.hid (show Bel wr w3 from HB0.out.drew.trans hb3)
            dsimp only
            refine hK.out _ _ ⟨⟨cell_later hb3 hHeld.1.1, cell_later hb3 hHeld.1.2.1, cell_later hb3 hHeld.1.2.2⟩, cell_later hb3 hHeld.2.1, cell_later hb3 hHeld.2.2.1, cell_later hb3 hHeld.2.2.2⟩ (fun hHeld => ?_)
            clear hK K hb3
            try simp only [Act.put, List.setIfInBounds_toArray, List.set_cons_zero, List.set_cons_succ]
            refine tk (oi := { dst := some 54, op := Op.binOp BinOp.eql 3 (Operand.tmp 53) (Operand.const (Value.int IntKind.i64 0)) 3, type := 4, pos := "entry.go:63", after := #[{ on := 8, ground := Ground.data }, { on := 2, ground := Ground.guard }], guard := some (2, true) }) (v := ?_) 9 rfl ?_ ?_
            rotate_left
            · (intro w hSw; (try dsimp only at hSw); first | (go_simp; done) | (go_simp; with_reducible rfl))
            try simp only [Act.put, List.setIfInBounds_toArray, List.set_cons_zero, List.set_cons_succ]
            refine tk (oi := { dst := some 55, op := Op.pick (Operand.tmp 47) (Operand.tmp 54) (Operand.const (Value.bool false)), type := 4, pos := "entry.go:63", after := #[{ on := 2, ground := Ground.data }, { on := 9, ground := Ground.data }], guard := none }) (v := ?_) 10 rfl ?_ ?_
            rotate_left
            · (intro w hSw; (try dsimp only at hSw); first | (go_simp; done) | (go_simp; with_reducible rfl))
            try simp only [Act.put, List.setIfInBounds_toArray, List.set_cons_zero, List.set_cons_succ]
            refine wpAnyH_done (by kernel_rfl) ?_ _
            obtain ⟨⟨g0, g1, g2⟩, k0, k1, k2⟩ := hHeld
            rw [HV0.out]
            by_cases hsame : d.t = c.t ∧ d.v = c.v
            · rw [decide_eq_true hsame]
              have HSQ := Lib.hid (HS1.out hsame)
              have HOWY := Lib.hid (HOW.out.bel HBY.out)
              have hfy : w3.frozen? ⟨g, j * 3 + 2, none⟩ = false := (HBY.out.frozen g (j * 3 + 2) hgl).trans hff
              clear hsame
              go_wp2_with (fail)
              go_roundw
              case rel =>
                refine ⟨k + 1, hlt, by go_num, ?_, (HBX.out.trans HBY.out).setCell hBg _⟩
                rw [HST.out, HSQ.out]
                have h9 := HOWY.out.put (L' := N.set j ⟨d.t, d.v, d.n + 1⟩) (j * 3 + 2) (.int .i64 ((d.n : Int) + 1)) (by show j * 3 + 2 < N.length * 3; omega) (by rw [List.length_set]) HS3.out
                exact h9
              case measure => simp [intOf]; omega
            · rw [decide_eq_false hsame]
              have HSQ := Lib.hid (HS2.out hsame)
              clear hsame
              have HQ := Lib.hid (show ctEl.all [c] = [.int .i64 (c.t : Int), .int .i64 (c.v : Int), .int .i64 (c.n : Int)] from rfl)
              have HO4 := Lib.hid (HOW.out.bel HBY.out)
              have hz4 := HBY.out.size
              go_wp2_with (at_builtin; refine stop_here ?_)
              refine go_on ?_
              refine append_all ctOk rfl _ _ rfl rfl (HO4.out.alloc _) [c] rfl (src_at [c] (heap_alloc_new w3 _) HQ.out.symm rfl) (by simp only [List.length_singleton]; unfold maxLen; omega) (by simp only [List.length_singleton]; omega) (by rw [World.size_alloc]; omega) ?_
              intro v5 w5 ho5 hk5 hv5
              have HB5 := Lib.hid (((HBX.out.trans HBY.out).alloc _).trans_below (hk5.own (by rw [World.size_alloc]; omega) (fun k hk => (HO4.out.lt k hk).1)))
              have HO5 := Lib.hid ho5
              clear ho5 hk5 hv5
              go_wp2_with (fail)
              go_roundw
              case rel => exact ⟨k + 1, hlt, by go_num, by rw [HST.out, HSQ.out]; exact HO5.out, HB5.out⟩
              case measure => simp [intOf]; omega
        · obtain rfl : k = P.length := by omega
          rw [List.take_length, HSUM.out] at hown
          have HOW2 := Lib.hid (own_low hown HB1.out.size)
          clear hb hown
          go_wp2_with (fail)
          go_ret
          exact ⟨_, rfl, HOW2.out, HB1.out.trans HBX.out⟩
end Go.Proofs.YteimllgoelleeaaGreatDoor
/- table.number, table.counts. -/
namespace Go.Proofs.YteimllgoelleeaaGreatDoor
open Go.RowKit Go.Deep

theorem num10_any (n : Nat) (x : Int) (w : World) (hn : n ≤ 1000000) (hx : (n : Int) = x) :
    Calls Tryz.prog 78 #[.int .i64 x] w fun e w' => ∃ b : ByteArray, b.data.toList = putL n ∧ b.size ≤ 9 ∧ e = .returned (.string b) ∧ Bel w w' := by
  subst hx
  have hw : IntKind.u64.wrap (n : Int) = n := by rw [wrap10_u64]; omega
  go_enter Tryz.func78, Tryz.ntmps78
  go_wp2_with (fail)
  refine (put_any n w (by omega)).mono ?_
  rintro e w1 ⟨rfl, hb⟩
  obtain ⟨b, hB⟩ : ∃ b : ByteArray, b = ⟨(putL n).toArray⟩ := ⟨_, rfl⟩
  rw [← hB]
  have HB := Lib.hid hB; clear hB
  go_wp2_with (fail)
  go_ret
  refine ⟨b, by rw [HB.out], ?_, rfl, hb⟩
  rw [HB.out, mk_size10]; exact put_le9 n
set_option maxHeartbeats 2000000 in
set_option maxRecDepth 20000 in
theorem counts_any (p : Option Addr) (cap : Nat) (L : List EB) (w : World) (h : EntsAt w p L) (hL : L.length ≤ 10000) (hr : ∀ e ∈ L, rightB e = true) :
    Calls Tryz.prog 52 #[.slice p L.length cap] w fun e w' => e = .returned (.string ⟨(footL L).toArray⟩) ∧ Bel w w' := by
  have H := Lib.hid h; clear h
  have HR := Lib.hid hr; clear hr
  have HF := Lib.hid (show footL L = putL L.length ++ putL (citesB L).length ++ (citesB L).flatMap citeBytes from rfl)
  have hcl := cites_len L
  have HCS := Lib.hid (cites_small L)
  go_enter Tryz.func52, Tryz.ntmps52
  go_wp2_with (fail)
  refine (pcites_any p cap L w H.out hL HR.out).mono ?_
  generalize citesB L = C at *
  rintro r w1 ⟨v, rfl, ho, hb⟩
  obtain ⟨q, qc, rfl, hat⟩ := ownG_cts ho
  have HAT := Lib.hid hat
  have HB := Lib.hid hb
  clear ho hat hb
  go_wp2_with (fail)
  refine (num10_any L.length _ w1 (by omega) rfl).mono ?_
  rintro r w2 ⟨b1, hl1, hz1, rfl, hb⟩
  replace HB := Lib.hid (HB.out.trans hb)
  replace HAT := Lib.hid (HAT.out.bel hb)
  have HL1 := Lib.hid hl1
  clear hb hl1
  go_wp2_with (fail)
  refine (num10_any C.length _ w2 (by omega) rfl).mono ?_
  rintro r w3 ⟨b2, hl2, hz2, rfl, hb⟩
  replace HB := Lib.hid (HB.out.trans hb)
  replace HAT := Lib.hid (HAT.out.bel hb)
  have HP := Lib.hid (show (b1 ++ b2).data.toList = putL L.length ++ putL C.length by rw [cat_list, HL1.out, hl2])
  have hpz : (b1 ++ b2).size ≤ 18 := by rw [cat_size]; omega
  clear hb hl2
  go_wp2_with (fail)
  generalize b1 ++ b2 = P at *
  go_loopw [4, 18] (fun sv iv x => ∃ (k : Nat) (r : ByteArray), k ≤ C.length ∧ iv = .int .i64 k ∧ sv = .string r ∧ r.data.toList = P.data.toList ++ (C.take k).flatMap citeBytes ∧ r.size ≤ 18 + 27 * k ∧ Bel w x ∧ CtsAt x q C) (fun _ iv _ => C.length - (intOf iv).toNat)
  case atStart => exact ⟨0, P, Nat.zero_le _, rfl, rfl, by simp, by omega, HB.out, HAT.out⟩
  case round =>
    obtain ⟨k, r, hk, rfl, rfl, hr, hrz, hbx, hat⟩ := hrel
    have HR := Lib.hid hr
    have HAX := Lib.hid hat
    by_cases hlt : k < C.length
    · obtain ⟨a, c, rfl, hc, B, O, sp, ha, c0, c1, c2⟩ := hat.get hlt
      have hcs := HCS.out c (by rw [hc]; exact List.getElem_mem hlt)
      have HN := Lib.hid (flat_take C k hlt c hc)
      obtain ⟨hc1, hc2, hc3⟩ := hcs
      have hki : (k : Int) < (C.length : Int) := by omega
      have HBX := Lib.hid (hbx.alloc (.cells #[.int .i64 (c.t : Int), .int .i64 (c.v : Int), .int .i64 (c.n : Int)] 86))
      have HA2 := Lib.hid (hat.bel ((Bel.refl wr).alloc (.cells #[.int .i64 (c.t : Int), .int .i64 (c.v : Int), .int .i64 (c.n : Int)] 86)))
      have d0 : (wr.alloc (.cells #[.int .i64 (c.t : Int), .int .i64 (c.v : Int), .int .i64 (c.n : Int)] 86)).cell? ⟨wr.heap.size, 0, none⟩ = some (.int .i64 (c.t : Int)) := (World.cell?_alloc_new ..).trans (by simp)
      have d1 : (wr.alloc (.cells #[.int .i64 (c.t : Int), .int .i64 (c.v : Int), .int .i64 (c.n : Int)] 86)).cell? ⟨wr.heap.size, 1, none⟩ = some (.int .i64 (c.v : Int)) := (World.cell?_alloc_new ..).trans (by simp)
      have d2 : (wr.alloc (.cells #[.int .i64 (c.t : Int), .int .i64 (c.v : Int), .int .i64 (c.n : Int)] 86)).cell? ⟨wr.heap.size, 2, none⟩ = some (.int .i64 (c.n : Int)) := (World.cell?_alloc_new ..).trans (by simp)
      clear hat hc hr hbx
      go_wp2_with (fail)
      obtain ⟨X, hX⟩ : ∃ X, X = wr.heap.size := ⟨_, rfl⟩
      rw [← hX] at d0 d1 d2 ⊢
      clear hX
      generalize hw2 : wr.alloc (.cells #[.int .i64 (c.t : Int), .int .i64 (c.v : Int), .int .i64 (c.n : Int)] 86) = w3 at *
      clear hw2
      refine wp_region_held_drew (S := fun z => z.cell? ⟨X, 0, none⟩ = some (.int .i64 (c.t : Int)) ∧ z.cell? ⟨X, 1, none⟩ = some (.int .i64 (c.v : Int)) ∧ z.cell? ⟨X, 2, none⟩ = some (.int .i64 (c.n : Int))) (by kernel_rfl) ⟨d0, d1, d2⟩ (fun hHeld => ?_)
      refine tk (oi := { dst := some 22, op := Op.move (Operand.tmp 4), type := 9, pos := "build.go:106", after := #[], guard := none }) (v := ?_) 0 rfl ?_ ?_
      rotate_left
      · (intro w hSw; (try dsimp only at hSw); first | (go_simp; done) | (go_simp; with_reducible rfl))
      try simp only [Act.put, List.setIfInBounds_toArray, List.set_cons_zero, List.set_cons_succ]
      refine tk (oi := { dst := some 23, op := Op.fieldAddr 86 (Operand.tmp 6) 0, type := 0, pos := "build.go:106", after := #[], guard := none }) (v := ?_) 1 rfl ?_ ?_
      rotate_left
      · (intro w hSw; (try dsimp only at hSw); first | (go_simp; done) | (go_simp; with_reducible rfl))
      try simp only [Act.put, List.setIfInBounds_toArray, List.set_cons_zero, List.set_cons_succ]
      refine tk (oi := { dst := some 24, op := Op.load 3 (Operand.tmp 23), type := 3, pos := "build.go:106", after := #[{ on := 1, ground := Ground.data }], guard := none }) (v := ?_) 2 rfl ?_ ?_
      rotate_left
      · (intro w hSw; (try dsimp only at hSw); first | (go_simp; done) | (go_simp; with_reducible rfl))
      try simp only [Act.put, List.setIfInBounds_toArray, List.set_cons_zero, List.set_cons_succ]
      refine tk (oi := { dst := some 26, op := Op.fieldAddr 86 (Operand.tmp 6) 1, type := 0, pos := "build.go:106", after := #[], guard := none }) (v := ?_) 4 rfl ?_ ?_
      rotate_left
      · (intro w hSw; (try dsimp only at hSw); first | (go_simp; done) | (go_simp; with_reducible rfl))
      try simp only [Act.put, List.setIfInBounds_toArray, List.set_cons_zero, List.set_cons_succ]
      refine tk (oi := { dst := some 27, op := Op.load 3 (Operand.tmp 26), type := 3, pos := "build.go:106", after := #[{ on := 4, ground := Ground.data }], guard := none }) (v := ?_) 5 rfl ?_ ?_
      rotate_left
      · (intro w hSw; (try dsimp only at hSw); first | (go_simp; done) | (go_simp; with_reducible rfl))
      try simp only [Act.put, List.setIfInBounds_toArray, List.set_cons_zero, List.set_cons_succ]
      refine tk (oi := { dst := some 30, op := Op.fieldAddr 86 (Operand.tmp 6) 2, type := 0, pos := "build.go:106", after := #[], guard := none }) (v := ?_) 8 rfl ?_ ?_
      rotate_left
      · (intro w hSw; (try dsimp only at hSw); first | (go_simp; done) | (go_simp; with_reducible rfl))
      try simp only [Act.put, List.setIfInBounds_toArray, List.set_cons_zero, List.set_cons_succ]
      refine tk (oi := { dst := some 31, op := Op.load 3 (Operand.tmp 30), type := 3, pos := "build.go:106", after := #[{ on := 8, ground := Ground.data }], guard := none }) (v := ?_) 9 rfl ?_ ?_
      rotate_left
      · (intro w hSw; (try dsimp only at hSw); first | (go_simp; done) | (go_simp; with_reducible rfl))
      try simp only [Act.put, List.setIfInBounds_toArray, List.set_cons_zero, List.set_cons_succ]
      refine wpAnyH_ready (rs := [3]) (by kernel_rfl) (by simp) ?_
      refine AllReadyH.cons (o := { dst := some 25, op := Op.call { callee := Callee.value (Operand.func 78), args := #[Operand.tmp 24], argTypes := #[3] }, type := 9, pos := "build.go:106", after := #[{ on := 2, ground := Ground.data }], guard := none }) rfl (fun K hK => ?_) AllReadyH.nil
      go_simp
      refine (num10_any c.t _ w3.drew (by omega) rfl).mono ?_
      rintro e w4 ⟨e1, he1, hz4, rfl, hb⟩
      have HB4 := Lib.hid (HBX.out.drew.trans hb)
      have HA4 := Lib.hid (HA2.out.bel ((Bel.refl w3).drew.trans hb))
      have HD1 := Lib.hid he1
      dsimp only
      refine hK.out _ _ ⟨cell_later hb hHeld.1, cell_later hb hHeld.2.1, cell_later hb hHeld.2.2⟩ (fun hHeld => ?_)
      clear hK K hb he1
      try simp only [Act.put, List.setIfInBounds_toArray, List.set_cons_zero, List.set_cons_succ]
      refine wpAnyH_ready (rs := [6]) (by kernel_rfl) (by simp) ?_
      refine AllReadyH.cons (o := { dst := some 28, op := Op.call { callee := Callee.value (Operand.func 78), args := #[Operand.tmp 27], argTypes := #[3] }, type := 9, pos := "build.go:106", after := #[{ on := 5, ground := Ground.data }, { on := 3, ground := Ground.chain }], guard := none }) rfl (fun K hK => ?_) AllReadyH.nil
      go_simp
      refine (num10_any c.v _ w4 (by omega) rfl).mono ?_
      rintro e w5 ⟨e2, he2, hz5, rfl, hb⟩
      have HB5 := Lib.hid (HB4.out.trans hb)
      have HA5 := Lib.hid (HA4.out.bel hb)
      have HD2 := Lib.hid he2
      dsimp only
      refine hK.out _ _ ⟨cell_later hb hHeld.1, cell_later hb hHeld.2.1, cell_later hb hHeld.2.2⟩ (fun hHeld => ?_)
      clear hK K hb he2
      try simp only [Act.put, List.setIfInBounds_toArray, List.set_cons_zero, List.set_cons_succ]
      have hs1 : (e1 ++ e2).size ≤ 18 := by rw [cat_size]; omega
      refine tk (oi := { dst := some 29, op := Op.binOp BinOp.add 9 (Operand.tmp 25) (Operand.tmp 28) 9, type := 9, pos := "build.go:106", after := #[{ on := 3, ground := Ground.data }, { on := 6, ground := Ground.data }], guard := none }) (v := ?_) 7 rfl ?_ ?_
      rotate_left
      · (intro w hSw; (try dsimp only at hSw); first | (go_simp; rw [if_neg (by omega)]; done))
      try simp only [Act.put, List.setIfInBounds_toArray, List.set_cons_zero, List.set_cons_succ]
      refine wpAnyH_ready (rs := [10]) (by kernel_rfl) (by simp) ?_
      refine AllReadyH.cons (o := { dst := some 32, op := Op.call { callee := Callee.value (Operand.func 78), args := #[Operand.tmp 31], argTypes := #[3] }, type := 9, pos := "build.go:106", after := #[{ on := 9, ground := Ground.data }, { on := 6, ground := Ground.chain }], guard := none }) rfl (fun K hK => ?_) AllReadyH.nil
      go_simp
      refine (num10_any c.n _ w5 (by omega) rfl).mono ?_
      rintro e w6 ⟨e3, he3, hz6, rfl, hb⟩
      have HB6 := Lib.hid (HB5.out.trans hb)
      have HA6 := Lib.hid (HA5.out.bel hb)
      have HD3 := Lib.hid he3
      dsimp only
      refine hK.out _ _ ⟨cell_later hb hHeld.1, cell_later hb hHeld.2.1, cell_later hb hHeld.2.2⟩ (fun hHeld => ?_)
      clear hK K hb he3
      try simp only [Act.put, List.setIfInBounds_toArray, List.set_cons_zero, List.set_cons_succ]
      have hs2 : (e1 ++ e2 ++ e3).size ≤ 27 := by rw [cat_size]; omega
      refine tk (oi := { dst := some 33, op := Op.binOp BinOp.add 9 (Operand.tmp 29) (Operand.tmp 32) 9, type := 9, pos := "build.go:106", after := #[{ on := 7, ground := Ground.data }, { on := 10, ground := Ground.data }], guard := none }) (v := ?_) 11 rfl ?_ ?_
      rotate_left
      · (intro w hSw; (try dsimp only at hSw); first | (go_simp; rw [if_neg (by omega)]; done))
      try simp only [Act.put, List.setIfInBounds_toArray, List.set_cons_zero, List.set_cons_succ]
      refine tk (oi := { dst := some 34, op := Op.binOp BinOp.add 9 (Operand.tmp 22) (Operand.tmp 33) 9, type := 9, pos := "build.go:106", after := #[{ on := 0, ground := Ground.data }, { on := 11, ground := Ground.data }], guard := none }) (v := ?_) 12 rfl ?_ ?_
      rotate_left
      · (intro w hSw; (try dsimp only at hSw); first | (go_simp; rw [if_neg (by omega)]; done))
      try simp only [Act.put, List.setIfInBounds_toArray, List.set_cons_zero, List.set_cons_succ]
      refine tk (oi := { dst := some 4, op := Op.assign (Operand.tmp 34), type := 9, pos := "build.go:106", after := #[{ on := 12, ground := Ground.data }, { on := 10, ground := Ground.chain }, { on := 0, ground := Ground.phase }, { on := 1, ground := Ground.phase }, { on := 2, ground := Ground.phase }, { on := 3, ground := Ground.phase }, { on := 4, ground := Ground.phase }, { on := 5, ground := Ground.phase }, { on := 6, ground := Ground.phase }, { on := 7, ground := Ground.phase }, { on := 8, ground := Ground.phase }, { on := 9, ground := Ground.phase }, { on := 10, ground := Ground.phase }, { on := 11, ground := Ground.phase }, { on := 12, ground := Ground.phase }], guard := none }) (v := ?_) 13 rfl ?_ ?_
      rotate_left
      · (intro w hSw; (try dsimp only at hSw); first | (go_simp; done) | (go_simp; with_reducible rfl))
      try simp only [Act.put, List.setIfInBounds_toArray, List.set_cons_zero, List.set_cons_succ]
      refine wpAnyH_done (by kernel_rfl) ?_ _
      have HF3 := Lib.hid (show (r ++ (e1 ++ e2 ++ e3)).data.toList = P.data.toList ++ (C.take (k + 1)).flatMap citeBytes by
        rw [cat_list, cat_list, cat_list, HR.out, HD1.out, HD2.out, HD3.out, HN.out]
        simp only [List.append_assoc])
      have hs3 : (r ++ (e1 ++ e2 ++ e3)).size ≤ 18 + 27 * (k + 1) := by rw [cat_size]; omega
      clear hHeld
      generalize r ++ (e1 ++ e2 ++ e3) = rr at *
      go_wp2_with (fail)
      go_roundw
      case rel => exact ⟨k + 1, rr, hlt, by go_num, rfl, HF3.out, hs3, HB6.out, HA6.out⟩
      case measure => simp [intOf]; omega
    · obtain rfl : k = C.length := by omega
      have HE := Lib.hid (ba_back r (footL L) (by rw [HR.out, List.take_length, HF.out, HP.out]))
      have HBX := Lib.hid hbx
      clear hat hr hbx
      go_wp2_with (fail)
      go_ret
      exact ⟨by rw [← HE.out]; rfl, HBX.out⟩
end Go.Proofs.YteimllgoelleeaaGreatDoor
