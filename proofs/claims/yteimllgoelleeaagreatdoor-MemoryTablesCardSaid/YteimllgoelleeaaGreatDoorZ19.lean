/- BRows, TRef7, TPEnt, TPPairs, TPKeys, laid together. -/
import Derived.Test.YteimllgoelleeaaGreatDoorZ18
import Derived.Test.YteimllgoelleeaaGreatDoorZ7
import Derived.Test.YteimllgoelleeaaGreatDoorZ11
import Derived.Test.YteimllgoelleeaaGreatDoorZ9
import Derived.Test.YteimllgoelleeaaGreatDoorZ15
import Derived.Laws.MakeOwn
import Derived.Test.YteimllgoelleeaaGreatDoorZ21
import Derived.Test.YteimllgoelleeaaGreatDoorZ12
import Derived.Shelf.Slices.CompactS
set_option linter.unusedSimpArgs false
set_option linter.unusedVariables false
/- Rows of pairs as they lie; Split of both sides, said so. -/
namespace Go.Proofs.YteimllgoelleeaaGreatDoor
open Go.RowKit Go.Deep

def RwAt (w : World) (p : Option Addr) (rows : List (List PB)) : Prop := ∀ i (h : i < rows.length), ∃ a q c, p = some a ∧ w.cell? (a.add i) = some (.slice q rows[i].length c) ∧ PairsAt w q rows[i]
theorem RwAt.bel {w x : World} {p : Option Addr} {rows : List (List PB)} (h : RwAt w p rows) (hb : Bel w x) : RwAt x p rows := by
  intro i hi
  obtain ⟨a, q, c, h1, h2, h3⟩ := h i hi
  exact ⟨a, q, c, h1, (Below.cell hb (block_of_cell h2)).trans h2, h3.bel hb⟩
theorem rows_at {E : El PB} {R : El SL} {b : Nat} (hR : ElOk R b) (hn : R.n = 1) (hc : R.cells = fun s => [s.val]) (hE : ∀ {B : Nat} {w : World} {v : Value} {L : List PB}, OwnG E B w v L → ∃ p cap, v = .slice p L.length cap ∧ PairsAt w p L) {n : Nat} {x : World} {rv cv : Value} {H : List SL} {rows : List (List PB)} {row : List PB} (h : RowsInv E R n x rv cv H rows row) :
    ∃ p cap, rv = .slice p rows.length cap ∧ RwAt x p rows := by
  by_cases hr : rows = []
  · subst hr
    obtain ⟨p, cap, e⟩ := ownG_len h.own
    exact ⟨p, cap, by rw [e, h.len], fun i hi => by simp at hi⟩
  · have hpos : 0 < H.length := by rw [h.len]; exact List.length_pos_iff.2 hr
    obtain ⟨g, cap, e, _, _, _, hcell⟩ := ownG_cells hR h.own (by intro e; rw [e] at hpos; simp at hpos)
    refine ⟨_, cap, by rw [e, h.len], fun i hi => ?_⟩
    have hi' : i < H.length := by rw [h.len]; exact hi
    obtain ⟨p, cap', hv, hat⟩ := hE (h.els i H[i] rows[i] (List.getElem?_eq_getElem hi') (List.getElem?_eq_getElem hi))
    refine ⟨_, p, cap', rfl, ?_, hat⟩
    have := hcell i H[i] (List.getElem?_eq_getElem hi') 0 H[i].val (by rw [hc]; rfl)
    rw [hn, hv] at this
    have e2 : (⟨g, 0, none⟩ : Addr).add i = ⟨g, i * 1 + 0, none⟩ := by cases i <;> simp [Addr.add]
    rw [e2]; exact this
theorem split_at (p : Option Addr) (cap : Nat) (L : List PB) (most : Int) (w : World) (h : PairsAt w p L) (hL : L.length ≤ 1000) (hs : smallP 100000 L) :
    Calls Tryz.prog 47 #[.slice p L.length cap, .int .i64 most] w fun e w' => ∃ q c, e = .returned (.slice q (splitB most L []).length c) ∧ RwAt w' q (splitB most L []) ∧ Bel w w' := by
  refine (split_any p cap L most w h hL hs).mono ?_
  rintro e w' ⟨v, H, cv, row, rfl, hi, hb⟩
  obtain ⟨q, c, rfl, hat⟩ := rows_at rowOk rfl rfl ownG_pairs hi
  exact ⟨q, c, rfl, hat, hb⟩
theorem splitB_len (most : Int) : ∀ (L row : List PB), (splitB most L row).length ≤ L.length + 1
  | [], row => by unfold splitB; split <;> simp
  | p :: L, row => by
    unfold splitB
    split
    · have := splitB_len most L []; simp; omega
    · have := splitB_len most L (row ++ [p]); simp; omega
theorem splitB_join (most : Int) : ∀ (L row : List PB), (splitB most L row).flatten = row ++ L
  | [], row => by
    unfold splitB
    by_cases h : row = []
    · rw [if_pos h, h]; rfl
    · rw [if_neg h]; simp
  | p :: L, row => by
    unfold splitB
    split
    · rw [List.flatten_cons, splitB_join most L []]; simp
    · rw [splitB_join most L (row ++ [p])]; simp
end Go.Proofs.YteimllgoelleeaaGreatDoor
/- moultref10.Build. -/
namespace Go.Proofs.YteimllgoelleeaaGreatDoor
open Go.RowKit Go.Deep

def pairB (e : EB) : PB := ⟨⟨(innerL e.k.data.toList e.q.toNat).toArray⟩, ⟨(recL e).toArray⟩⟩
theorem pairB_pr (e : EB) : (pairB e).pr = pairL e := by simp [pairB, PB.pr, pairL]
theorem pairsB_prs (L : List EB) : prs (L.map pairB) = pairsL L := by
  unfold prs pairsL
  rw [List.map_map]
  exact List.map_congr_left fun e _ => pairB_pr e
theorem rec_dead {e : EB} (h : e.d = true) : recL e = [0] := by unfold recL; rw [h]; rfl
theorem rec_live {e : EB} (h : e.d = false) : recL e = 1 :: e.v.data.toList := by unfold recL; rw [h]; rfl
theorem cl10 {w x : World} {a : Addr} {v : Value} (hb : Bel w x) (h : w.cell? a = some v) : x.cell? a = some v := (Below.cell hb (blk_of_cell h)).trans h
theorem str_lit (s : ByteArray) : (#[Value.string s] : Array Value).toList = strEl.all [s.data.toList] := by
  have e : (⟨s.data.toList.toArray⟩ : ByteArray) = s := by cases s; simp
  simp only [El.all, strEl, List.flatMap_cons, List.flatMap_nil, List.append_nil, e]
def buildV (L : List EB) : Value := .tuple #[.string ⟨(buildT L).1.toArray⟩, .int .i64 (buildT L).2]
theorem buildV_err {L : List EB} {e : Int} (h : buildT L = ([], e)) : buildV L = .tuple #[.string ⟨#[]⟩, .int .i64 e] := by unfold buildV; rw [h]
def sizesL (m : Nat) (L : List EB) : Prop := ∀ e ∈ L, e.k.size ≤ m ∧ e.v.size ≤ m
theorem pairB_small {e : EB} (h : rightB e = true) : (pairB e).k.size ≤ 100000 ∧ (pairB e).v.size ≤ 100000 := by
  have h1 := pair_small h
  have e1 : (pairB e).k.size = (pairL e).k.length := by unfold pairB; simp only []; rw [mk_size10]; rfl
  have e2 : (pairB e).v.size = (pairL e).v.length := by unfold pairB; simp only []; rw [mk_size10]; rfl
  omega
theorem rows_ok {L : List EB} (h : standB L = true) (hl : L.length ≤ 500) :
    (splitB 600 (L.map pairB) []).map prs = rowsOf L ∧ (splitB 600 (L.map pairB) []).length ≤ 501 ∧ ∀ r ∈ splitB 600 (L.map pairB) [], r.length ≤ 1000 ∧ smallP 100000 r ∧ incB (prs r) = true := by
  have e : (splitB 600 (L.map pairB) []).map prs = rowsOf L := by rw [splitB_prs, pairsB_prs]; rfl
  have hj := splitB_join 600 (L.map pairB) []
  rw [List.nil_append] at hj
  refine ⟨e, by have := splitB_len 600 (L.map pairB) []; rw [List.length_map] at this; omega, fun r hr => ⟨?_, fun i hi => ?_, ?_⟩⟩
  · have := (List.sublist_flatten_of_mem hr).length_le
    rw [hj, List.length_map] at this
    omega
  · have hm : r[i] ∈ (splitB 600 (L.map pairB) []).flatten := List.mem_flatten.2 ⟨r, hr, List.getElem_mem hi⟩
    rw [hj] at hm
    obtain ⟨x, hx, hxe⟩ := List.mem_map.1 hm
    rw [← hxe]
    exact pairB_small (stand_right h x hx)
  · refine rows_inc h _ ?_
    rw [← e]
    exact List.mem_map_of_mem hr
def blkB (r : List PB) : List UInt8 := (buildL (prs r)).1
theorem frames_snoc (l : List (List UInt8)) (t : List UInt8) : framesL (l ++ [t]) = framesL l ++ frameL t := by unfold framesL; rw [List.flatMap_append, List.flatMap_singleton]
theorem RwAt.get {w : World} {p : Option Addr} {rows : List (List PB)} (h : RwAt w p rows) {i : Nat} (hi : i < rows.length) : ∃ a q c r, p = some a ∧ r = rows[i] ∧ w.cell? (a.add i) = some (.slice q r.length c) ∧ PairsAt w q r := by
  obtain ⟨a, q, c, h1, h2, h3⟩ := h i hi
  exact ⟨a, q, c, _, h1, rfl, h2, h3⟩
theorem ok_take (R : List (List PB)) (k : Nat) (h : k < R.length) (r : List PB) (hr : r = R[k]) (h0 : (buildL (prs r)).2 = 0) (ha : ∀ x ∈ R.take k, (buildL (prs x)).2 = 0) : ∀ x ∈ R.take (k + 1), (buildL (prs x)).2 = 0 := by
  rw [List.take_add_one, List.getElem?_eq_getElem h, Option.toList_some]
  intro x hx
  rcases List.mem_append.1 hx with hx | hx
  · exact ha x hx
  · rw [List.mem_singleton] at hx
    rw [hx, ← hr]; exact h0
theorem err_row {L : List EB} {R : List (List PB)} (hR : R.map prs = rowsOf L) (k : Nat) (h : k < R.length) (r : List PB) (hr : r = R[k]) (h0 : (buildL (prs r)).2 ≠ 0) (ha : ∀ x ∈ R.take k, (buildL (prs x)).2 = 0) : rowsErr (rowsOf L) = (buildL (prs r)).2 := by
  have hk : k < (R.map prs).length := by rw [List.length_map]; exact h
  have e : (R.map prs)[k] = prs r := by rw [List.getElem_map, hr]
  rw [← hR, err_first hk (fun x hx => by
    rw [← List.map_take] at hx
    obtain ⟨y, hy, rfl⟩ := List.mem_map.1 hx
    exact ha y hy) (by rw [e]; exact h0), e]
theorem err_zero {L : List EB} {R : List (List PB)} (hR : R.map prs = rowsOf L) (ha : ∀ x ∈ R, (buildL (prs x)).2 = 0) : rowsErr (rowsOf L) = 0 := by
  rw [← hR]
  exact err_none fun x hx => by
    obtain ⟨y, hy, rfl⟩ := List.mem_map.1 hx
    exact ha y hy
theorem blocks_row {L : List EB} {R : List (List PB)} (hR : R.map prs = rowsOf L) : R.map blkB = blocksL L := by
  unfold blocksL
  rw [← hR, List.map_map]
  rfl
end Go.Proofs.YteimllgoelleeaaGreatDoor
/- table.entryOf at an entry's pair. -/
namespace Go.Proofs.YteimllgoelleeaaGreatDoor
open Go.RowKit Go.Deep

theorem one_head (D : ByteArray) : ((((⟨#[1]⟩ ++ D : ByteArray)).extract 0 1).toList == (⟨#[1]⟩ : ByteArray).toList) = true := by
  rw [ByteArray.toList_eq, ByteArray.toList_eq, ByteArray.data_extract, Array.toList_extract, List.extract_eq_take_drop]
  simp
theorem one_rest (D : ByteArray) : (⟨#[1]⟩ ++ D : ByteArray).extract 1 (⟨#[1]⟩ ++ D : ByteArray).size = D := by
  apply ba_ext
  rw [ByteArray.data_extract, Array.toList_extract, List.extract_eq_take_drop]
  simp
  refine List.take_of_length_le ?_
  have h1 : D.data.toList.length = D.size := rfl
  have h2 : (⟨#[1]⟩ : ByteArray).size = 1 := rfl
  omega
set_option maxRecDepth 20000 in
theorem cutlite_any (s D : ByteArray) (w : World) (h : s = ⟨#[1]⟩ ++ D) (hs : s.size ≤ 1000000) :
    Calls Tryz.prog 108 #[.string s, .string ⟨#[1]⟩] w fun e w' => e = .returned (.tuple #[.string D, .bool true]) ∧ Bel w w' := by
  have h1 : (⟨#[1]⟩ : ByteArray).size ≤ s.size := by rw [h, ByteArray.size_append]; omega
  have h1i : (1 : Int) ≤ (s.size : Int) := by have : (1 : Nat) ≤ s.size := h1; omega
  have HH := Lib.hid (show ((s.extract 0 (⟨#[1]⟩ : ByteArray).size).toList == (⟨#[1]⟩ : ByteArray).toList) = true by rw [h]; exact one_head D)
  have HR := Lib.hid (show s.extract 1 s.size = D by rw [h]; exact one_rest D)
  clear h
  go_enter Tryz.func108, Tryz.ntmps108
  go_wp2_with (fail)
  refine (prefix0_any s ⟨#[1]⟩ w hs h1).mono ?_
  rw [HH.out]
  rintro e w1 ⟨rfl, hb⟩
  go_wp2_with (fail)
  go_ret2
  exact ⟨by rw [← HR.out]; rfl, hb⟩
set_option maxRecDepth 20000 in
theorem cutp_any (s D : ByteArray) (w : World) (h : s = ⟨#[1]⟩ ++ D) (hs : s.size ≤ 1000000) :
    Calls Tryz.prog 91 #[.string s, .string ⟨#[1]⟩] w fun e w' => e = .returned (.tuple #[.string D, .bool true]) ∧ Bel w w' := by
  have H := Lib.hid h; clear h
  go_enter Tryz.func91, Tryz.ntmps91
  go_wp2_with (fail)
  refine (cutlite_any s D w H.out hs).mono ?_
  rintro e w1 ⟨rfl, hb⟩
  go_wp2_with (fail)
  go_ret2
  exact ⟨rfl, hb⟩
set_option maxHeartbeats 2000000 in
set_option maxRecDepth 20000 in
theorem entryof_any (e : EB) (K V : ByteArray) (w : World) (hM : MaxOk w) (hr : rightB e = true) (hK : K.data.toList = (pairL e).k) (hV : V.data.toList = (pairL e).v) :
    Calls Tryz.prog 62 #[.agg #[.string K, .string V]] w fun r w' => r = .returned (.tuple #[.agg #[.string e.k, .int .i64 e.q, .bool e.d, .string e.v], .bool true]) ∧ Bel w w' := by
  obtain ⟨r1, r2, r3, r4, -, -⟩ := right_parts hr
  obtain ⟨q, hq⟩ : ∃ q : Nat, e.q = q := ⟨e.q.toNat, by omega⟩
  have hKz : K.size ≤ 100000 := by
    have h1 := (pair_small hr).1
    have h2 : K.data.toList.length = K.size := rfl
    rw [hK] at h2; omega
  have hVz : V.size ≤ 100000 := by
    have h1 := (pair_small hr).2
    have h2 : V.data.toList.length = V.size := rfl
    rw [hV] at h2; omega
  have HIS := Lib.hid (show OuterIs K.data.toList e.k.data.toList q from ⟨by omega, by rw [hK, ← Int.toNat_natCast q, ← hq]; rfl⟩)
  have HD := Lib.hid (show e.d = true → e.v = ⟨#[]⟩ from right_dead hr)
  have hVd : V = ⟨(recL e).toArray⟩ := by
    apply ba_ext; rw [hV]; rfl
  obtain ⟨w1, hw1⟩ : ∃ w1, w1 = w.alloc (.cells #[.string K, .string V] 137) := ⟨_, rfl⟩
  obtain ⟨w2, hw2⟩ : ∃ w2, w2 = w1.alloc (.cells #[.string ⟨#[]⟩, .int .i64 0, .bool false, .string ⟨#[]⟩] 30) := ⟨_, rfl⟩
  have hz1 : w1.heap.size = w.heap.size + 1 := by rw [hw1]; simp
  have hb1 : Bel w w1 := by rw [hw1]; exact (Bel.refl w).alloc _
  have hb2 : Bel w1 w2 := by rw [hw2]; exact (Bel.refl w1).alloc _
  have c0 := cell_later hb2 (show w1.cell? ⟨w.heap.size, 0, none⟩ = some (.string K) by rw [hw1]; exact (World.cell?_alloc_new ..).trans (by simp))
  have c1 := cell_later hb2 (show w1.cell? ⟨w.heap.size, 1, none⟩ = some (.string V) by rw [hw1]; exact (World.cell?_alloc_new ..).trans (by simp))
  have z0 : w2.cell? ⟨w.heap.size + 1, 0, none⟩ = some (.string ⟨#[]⟩) := by rw [hw2, ← hz1]; exact (World.cell?_alloc_new ..).trans (by simp)
  have z1 : w2.cell? ⟨w.heap.size + 1, 1, none⟩ = some (.int .i64 0) := by rw [hw2, ← hz1]; exact (World.cell?_alloc_new ..).trans (by simp)
  have z2 : w2.cell? ⟨w.heap.size + 1, 2, none⟩ = some (.bool false) := by rw [hw2, ← hz1]; exact (World.cell?_alloc_new ..).trans (by simp)
  have z3 : w2.cell? ⟨w.heap.size + 1, 3, none⟩ = some (.string ⟨#[]⟩) := by rw [hw2, ← hz1]; exact (World.cell?_alloc_new ..).trans (by simp)
  have hbk : w2.heap[w.heap.size + 1]? = some (.cells #[.string ⟨#[]⟩, .int .i64 0, .bool false, .string ⟨#[]⟩] 30 (0, 0)) := by rw [hw2, ← hz1]; exact heap_alloc_new w1 _
  have zf : ∀ j, w2.frozen? ⟨w.heap.size + 1, j, none⟩ = false := fun j => by simp [World.frozen?, hbk]
  have hlt : w.heap.size + 1 < w2.heap.size := by rw [hw2, ← hz1]; simp
  have HB2 := Lib.hid (hb1.trans hb2)
  have HM2 := Lib.hid (hM.bel HB2.out)
  have HVD := Lib.hid hVd
  clear hb1 hb2 hK hV hr hM hbk hVd
  go_enter Tryz.func62, Tryz.ntmps62
  go_wp2_with (fail)
  rw [← hw1]
  try rw [hz1]
  rw [← hw2]
  clear hw1 hw2 hz1
  refine (pouter_any K w2 hKz HM2.out).mono ?_
  rintro r w3 ⟨ho, hb3⟩
  obtain rfl : r = .returned (.tuple #[.string e.k, .int .i64 (q : Nat), .bool true]) := by
    rcases ho with ⟨k, n, hk, rfl⟩ | ⟨hno, _⟩
    · obtain ⟨rfl, rfl⟩ := outer_one hk HIS.out
      rfl
    · exact absurd ⟨_, _, HIS.out⟩ hno
  clear ho
  have d1 := cell_later hb3 c1
  have y0 := cell_later hb3 z0
  have y1 := cell_later hb3 z1
  have y2 := cell_later hb3 z2
  have y3 := cell_later hb3 z3
  have f0 := (hb3.frozen (w.heap.size + 1) 0 hlt).trans (zf 0)
  have f1 := (hb3.frozen (w.heap.size + 1) 1 hlt).trans (zf 1)
  have f2 := (hb3.frozen (w.heap.size + 1) 2 hlt).trans (zf 2)
  have f3 := (hb3.frozen (w.heap.size + 1) 3 hlt).trans (zf 3)
  have HB3 := Lib.hid (HB2.out.trans hb3)
  have hlt3 : w.heap.size + 1 < w3.heap.size := Nat.lt_of_lt_of_le hlt hb3.size
  clear hb3 c0 c1 z0 z1 z2 z3 zf hlt
  have HQ := Lib.hid hq
  cases hd : e.d with
  | true =>
    have hV0 : V = ⟨#[0]⟩ := by rw [HVD.out, rec_dead hd]
    have HE := Lib.hid (HD.out hd)
    subst hV0
    have HDD := Lib.hid hd
    clear hd hq
    have hself : ((⟨#[0]⟩ : ByteArray).toList == (⟨#[0]⟩ : ByteArray).toList) = true := beq_self_eq_true _
    go_wp2_with (fail)
    refine bodyPost_ret (v := .tuple #[.agg #[.string e.k, .int .i64 (q : Nat), .bool true, .string ⟨#[]⟩], .bool true]) (by simp [results, Tryz.results62, go_sem, y0, y1, y2, y3, f0, f1, f2, f3]) rfl ⟨by rw [HE.out, HQ.out, HDD.out], ?_⟩
    repeat' first | exact HB3.out | refine Bel.setCell ?_ (by simp) _ | refine Bel.drewN ?_ _
  | false =>
    have HV0 := Lib.hid (show V = ⟨#[1]⟩ ++ e.v by
      rw [HVD.out, rec_live hd]; apply ByteArray.ext; simp)
    have hne : (V.toList == [0]) = false := by
      rw [ByteArray.toList_eq, beq_eq_false_iff_ne, HVD.out, rec_live hd]
      simp
    have HDD := Lib.hid hd
    clear hd hq
    go_wp2_with (fail)
    refine (cutp_any V e.v w3 HV0.out (by omega)).mono ?_
    rintro r w4 ⟨rfl, hb4⟩
    have x0 := cell_later hb4 y0
    have x1 := cell_later hb4 y1
    have x2 := cell_later hb4 y2
    have x3 := cell_later hb4 y3
    have g0 := (hb4.frozen (w.heap.size + 1) 0 hlt3).trans f0
    have g1 := (hb4.frozen (w.heap.size + 1) 1 hlt3).trans f1
    have g2 := (hb4.frozen (w.heap.size + 1) 2 hlt3).trans f2
    have g3 := (hb4.frozen (w.heap.size + 1) 3 hlt3).trans f3
    have HB4 := Lib.hid (HB3.out.trans hb4)
    clear hb4 y0 y1 y2 y3 f0 f1 f2 f3 d1
    go_wp2_with (fail)
    refine bodyPost_ret (v := .tuple #[.agg #[.string e.k, .int .i64 (q : Nat), .bool false, .string e.v], .bool true]) (by simp [results, Tryz.results62, go_sem, x0, x1, x2, x3, g0, g1, g2, g3]) rfl ⟨by rw [HQ.out, HDD.out], ?_⟩
    repeat' first | exact HB4.out | refine Bel.setCell ?_ (by simp) _ | refine Bel.drewN ?_ _
end Go.Proofs.YteimllgoelleeaaGreatDoor
/- table.pairs. -/
namespace Go.Proofs.YteimllgoelleeaaGreatDoor
open Go.RowKit Go.Deep

theorem infoPair10 : (Tryz.prog.info? 137).map (fun i => (i.zero, i.size, i.bytes)) = some (some (.agg #[.string ⟨#[]⟩, .string ⟨#[]⟩]), 2, 32) := by kernel_rfl
theorem run_make_pairs (n : Nat) (hn : n ≤ 100000) (w : World) :
    (Instr.makeSlice 110 (.int .i64 (n : Int)) (.int .i64 (n : Int))).run Tryz.prog w = .ok (.slice (some ⟨w.heap.size, 0, none⟩) n n) (w.alloc (.cells (madeCells #[.string ⟨#[]⟩, .string ⟨#[]⟩] (n * 2)) 137)) := by
  obtain ⟨i, hi, hzz⟩ := Option.map_eq_some_iff.1 infoPair10
  simp only [Prod.mk.injEq] at hzz
  obtain ⟨hz, hs, hb⟩ := hzz
  have hr := run_make (P := Tryz.prog) w 110 137 i _ Tryz.underlying110 hi hz .i64 .i64 n n (by omega) (Int.le_refl _) (by rw [hb]; omega) (by omega)
  rw [hs] at hr
  simp only [Int.toNat_natCast] at hr
  exact hr
def pcell (L : List EB) (k t : Nat) : Value := if t / 2 < k then (match L[t / 2]? with | none => .string ⟨#[]⟩ | some e => if t % 2 = 0 then .string (pairB e).k else .string (pairB e).v) else .string ⟨#[]⟩
theorem pcell_zero (L : List EB) (t : Nat) : pcell L 0 t = .string ⟨#[]⟩ := if_neg (by omega)
theorem pcell_k {L : List EB} {k i : Nat} {e : EB} (hi : i < k) (he : L[i]? = some e) : pcell L k (i * 2) = .string (pairB e).k := by
  unfold pcell
  rw [if_pos (by omega), show i * 2 / 2 = i by omega, he]
  exact if_pos (by omega)
theorem pcell_v {L : List EB} {k i : Nat} {e : EB} (hi : i < k) (he : L[i]? = some e) : pcell L k (i * 2 + 1) = .string (pairB e).v := by
  unfold pcell
  rw [if_pos (by omega), show (i * 2 + 1) / 2 = i by omega, he]
  exact if_neg (by omega)
theorem pcell_next {L : List EB} {k : Nat} {e : EB} (he : L[k]? = some e) (t : Nat) : pcell L (k + 1) t = if t = k * 2 + 1 then .string (pairB e).v else if t = k * 2 then .string (pairB e).k else pcell L k t := by
  by_cases h1 : t = k * 2 + 1
  · subst h1; rw [if_pos rfl, pcell_v (by omega) he]
  · rw [if_neg h1]
    by_cases h2 : t = k * 2
    · subst h2; rw [if_pos rfl, pcell_k (by omega) he]
    · rw [if_neg h2]
      unfold pcell
      by_cases h3 : t / 2 < k
      · rw [if_pos h3, if_pos (by omega)]
      · rw [if_neg h3, if_neg (by omega)]
theorem pairs_of_row {w : World} {b : Nat} {L : List EB} (h : w.rowIs b 137 (L.length * 2) (pcell L L.length)) : PairsAt w (some ⟨b, 0, none⟩) (L.map pairB) := by
  intro i hi
  have hi' : i < L.length := by simpa using hi
  have he : L[i]? = some L[i] := List.getElem?_eq_getElem hi'
  refine ⟨_, b, i * 2, none, rfl, ?_, ?_, ?_⟩
  · by_cases h0 : i * 2 = 0
    · rw [h0]; rfl
    · simp [Addr.add, h0]
  · rw [h.cell (by omega), pcell_k hi' he, List.getElem_map]
  · rw [h.cell (by omega), pcell_v hi' he, List.getElem_map]
theorem pair_key (e : EB) (q : Nat) (h : e.q = q) : (pairB e).k = ⟨(innerL e.k.data.toList q).toArray⟩ := by
  show (⟨(innerL e.k.data.toList e.q.toNat).toArray⟩ : ByteArray) = _
  rw [h, Int.toNat_natCast]
theorem pair_dead {e : EB} (h : e.d = true) : (pairB e).v = ⟨#[0]⟩ := by
  show (⟨(recL e).toArray⟩ : ByteArray) = _
  unfold recL
  rw [h]; rfl
theorem pair_live {e : EB} (h : e.d = false) : (pairB e).v = ⟨#[1]⟩ ++ e.v := by
  show (⟨(recL e).toArray⟩ : ByteArray) = _
  unfold recL
  rw [h]
  apply ByteArray.ext
  simp
theorem row_bel {w x : World} {b n : Nat} {T : TypeId} {f : Nat → Value} (h : w.rowIs b T n f) (hb : Bel w x) : x.rowIs b T n f := by
  obtain ⟨c, h1, h2⟩ := h
  exact ⟨c, (Below.block hb b (Array.getElem?_eq_some_iff.1 h1).1).trans h1, h2⟩
set_option maxHeartbeats 1000000 in
set_option maxRecDepth 20000 in
theorem pairs_any (p : Option Addr) (cap : Nat) (L : List EB) (w : World) (h : EntsAt w p L) (hL : L.length ≤ 100000) (hr : ∀ e ∈ L, rightB e = true) :
    Calls Tryz.prog 48 #[.slice p L.length cap] w fun e w' => ∃ b, e = .returned (.slice (some ⟨b, 0, none⟩) L.length L.length) ∧ PairsAt w' (some ⟨b, 0, none⟩) (L.map pairB) ∧ Bel w w' := by
  have H := Lib.hid h; clear h
  have HR := Lib.hid hr; clear hr
  have hmk := run_make_pairs L.length hL
  go_enter Tryz.func48, Tryz.ntmps48
  go_wp2_with (fail)
  go_loopw [12] (fun iv x => ∃ k : Nat, k ≤ L.length ∧ iv = .int .i64 k ∧ x.rowIs w.heap.size 137 (L.length * 2) (pcell L k) ∧ Bel w x) (fun iv _ => L.length - (intOf iv).toNat)
  case atStart =>
    refine ⟨0, Nat.zero_le _, rfl, ?_, (Bel.refl w).alloc _⟩
    have h1 := World.rowIs_alloc w (madeCells #[.string ⟨#[]⟩, .string ⟨#[]⟩] (L.length * 2)) 137 (pcell L 0) (fun i hi => by
      rw [size_madeCells] at hi
      rw [pcell_zero]
      have : i % 2 = 0 ∨ i % 2 = 1 := by omega
      rcases this with e | e <;> simp [madeCells, hi, e])
    rw [size_madeCells] at h1
    exact h1
  case round =>
    obtain ⟨k, hk, rfl, hrow, hb⟩ := hrel
    have HB := Lib.hid hb
    by_cases hlt : k < L.length
    · obtain ⟨a, e0, rfl, he0, B, O, sp, ha, c0, c1, c2, c3⟩ := (H.out.bel hb).get hlt
      have hright := HR.out e0 (by rw [he0]; exact List.getElem_mem hlt)
      obtain ⟨r1, r2, r3, r4, -, -⟩ := right_parts hright
      obtain ⟨q, hq⟩ : ∃ q : Nat, e0.q = q := ⟨e0.q.toNat, by omega⟩
      have hE : L[k]? = some e0 := by rw [he0]; exact List.getElem?_eq_getElem hlt
      have HX := Lib.hid (pcell_next hE)
      have HKY := Lib.hid (pair_key e0 q hq)
      have HROW := Lib.hid hrow
      have hkz : e0.k.size ≤ 100000 := by omega
      have hvz : e0.v.size ≤ 25000 := r4
      have hki : (k : Int) < (L.length : Int) := by omega
      have hqz : q ≤ 9223372036854775807 := by omega
      rw [hq] at c1
      clear hb hrow r1 r2 r3 r4 he0 hE hright
      cases hd : e0.d with
      | true =>
        have HPV := Lib.hid (pair_dead hd)
        rw [hd] at c2
        clear hd
        go_wp2_with (fail)
        refine (pinner_any e0.k q _ hkz hqz).mono ?_
        rw [← HKY.out]
        rintro r w2 ⟨rfl, hb2⟩
        have HB2 := Lib.hid (show Bel wr w2 from Bel.trans ((Bel.refl wr).alloc _) hb2)
        clear hb2
        obtain ⟨KB, hKB⟩ : ∃ KB, KB = (pairB e0).k := ⟨_, rfl⟩
        rw [← hKB]
        have HKB := Lib.hid hKB
        clear hKB
        have HR2 := Lib.hid (row_bel HROW.out HB2.out)
        have hf0 := HR2.out.frozen (k * 2)
        have hf1 := HR2.out.frozen (k * 2 + 1)
        have hp0 := HR2.out.cell (i := k * 2) (by omega)
        have hp1 := HR2.out.cell (i := k * 2 + 1) (by omega)
        go_wp2_with (fail)
        go_roundw
        case rel =>
          refine ⟨k + 1, hlt, by go_num, ?_, ((HB.out.trans HB2.out).setCell (Nat.le_refl _) _).setCell (Nat.le_refl _) _⟩
          refine ((HR2.out.set (k * 2) _).set (k * 2 + 1) _).congr fun t ht => ?_
          rw [HX.out, HPV.out, HKB.out]
        case measure => simp [intOf]; omega
      | false =>
        have HPV := Lib.hid (pair_live hd)
        rw [hd] at c2
        clear hd
        go_wp2_with (fail)
        refine (pinner_any e0.k q _ hkz hqz).mono ?_
        rw [← HKY.out]
        rintro r w2 ⟨rfl, hb2⟩
        have HB2 := Lib.hid (show Bel wr w2 from Bel.trans ((Bel.refl wr).alloc _) hb2)
        clear hb2
        obtain ⟨KB, hKB⟩ : ∃ KB, KB = (pairB e0).k := ⟨_, rfl⟩
        rw [← hKB]
        have HKB := Lib.hid hKB
        clear hKB
        have HR2 := Lib.hid (row_bel HROW.out HB2.out)
        have hf0 := HR2.out.frozen (k * 2)
        have hf1 := HR2.out.frozen (k * 2 + 1)
        have hp0 := HR2.out.cell (i := k * 2) (by omega)
        have hp1 := HR2.out.cell (i := k * 2 + 1) (by omega)
        go_wp2_with (fail)
        go_roundw
        case rel =>
          refine ⟨k + 1, hlt, by go_num, ?_, ((HB.out.trans HB2.out).setCell (Nat.le_refl _) _).setCell (Nat.le_refl _) _⟩
          refine ((HR2.out.set (k * 2) _).set (k * 2 + 1) _).congr fun t ht => ?_
          rw [HX.out, HPV.out, HKB.out]
        case measure => simp [intOf]; omega
    · obtain rfl : k = L.length := by omega
      have HROW := Lib.hid hrow
      clear hb hrow
      go_wp2_with (fail)
      go_ret
      exact ⟨w.heap.size, rfl, pairs_of_row HROW.out, HB.out⟩
end Go.Proofs.YteimllgoelleeaaGreatDoor
/- table.keys. -/
namespace Go.Proofs.YteimllgoelleeaaGreatDoor
open Go.RowKit Go.Deep

theorem infoStr10 : (Tryz.prog.info? 9).map (fun i => (i.zero, i.size, i.bytes)) = some (some (.string ⟨#[]⟩), 1, 16) := by kernel_rfl
def kcell (L : List EB) (k t : Nat) : Value := if t < k then (match L[t]? with | none => .string ⟨#[]⟩ | some e => .string e.k) else .string ⟨#[]⟩
theorem kcell_next {L : List EB} {k : Nat} {e : EB} (he : L[k]? = some e) (t : Nat) : kcell L (k + 1) t = if t = k then .string e.k else kcell L k t := by
  unfold kcell
  by_cases h1 : t = k
  · subst h1; rw [if_pos (by omega), if_pos rfl, he]
  · rw [if_neg h1]
    by_cases h2 : t < k
    · rw [if_pos h2, if_pos (by omega)]
    · rw [if_neg h2, if_neg (by omega)]
theorem kcell_all {L : List EB} {t : Nat} (h : t < L.length) : kcell L L.length t = .string L[t].k := by
  unfold kcell
  rw [if_pos h, List.getElem?_eq_getElem h]
def keyL (L : List EB) : List (List UInt8) := L.map fun e => e.k.data.toList
theorem holds_keys {w : World} {b : Nat} {L : List EB} (h : w.rowIs b 9 L.length (kcell L L.length)) : Sort.Holds encStr w b 0 (keyL L).toArray := by
  intro j hj
  have hj' : j < L.length := by simpa [keyL] using hj
  rw [Nat.zero_add]
  refine ⟨?_, h.frozen j⟩
  rw [h.cell hj', kcell_all hj', getElem!_pos _ j hj]
  simp [keyL, encStr]
theorem bel_put {w0 w : World} {b q : Nat} {d : Array (List UInt8)} (h : Bel w0 w) (hb : w0.heap.size ≤ b) : Bel w0 (Sort.putRow encStr (Sort.ahead w q) b 0 d) := by
  refine Bel.trans_below h ⟨rfl, rfl, rfl, ?_, fun k hk => ?_⟩
  · have := Below.size h
    (simp [Sort.putRow, Sort.mapBlock, Sort.ahead]; try exact this)
  · have hne : ¬ b = k := by omega
    simp [Sort.putRow, Sort.mapBlock, Sort.ahead, Array.getElem?_modify, hne]
theorem strs_put {w : World} {b q : Nat} {d d' : Array (List UInt8)} (h : Sort.Holds encStr w b 0 d) (hs : d'.size = d.size) (K : List (List UInt8)) (hK : ∀ i (hi : i < K.length), ∃ h : i < d'.size, d'[i] = K[i]) :
    StrsAt (Sort.putRow encStr (Sort.ahead w q) b 0 d') (some ⟨b, 0, none⟩) K := by
  have h1 := Sort.holds_putRow encStr (Sort.ahead w q) b 0 d d' h hs
  intro i hi
  obtain ⟨hi', he⟩ := hK i hi
  refine ⟨_, rfl, ?_⟩
  have := (h1 i hi').1
  rw [getElem!_pos d' i hi', Nat.zero_add, he] at this
  have ea : (⟨b, 0, none⟩ : Addr).add i = ⟨b, i, none⟩ := by cases i <;> simp [Addr.add]
  rw [ea]; exact this
set_option maxHeartbeats 1000000 in
set_option maxRecDepth 20000 in
theorem keys_any (p : Option Addr) (cap : Nat) (L : List EB) (w : World) (h : EntsAt w p L) (hL : L.length ≤ 100000) :
    Calls Tryz.prog 51 #[.slice p L.length cap] w fun e w' => ∃ b c, e = .returned (.slice (some ⟨b, 0, none⟩) (keysL L).length c) ∧ StrsAt w' (some ⟨b, 0, none⟩) (keysL L) ∧ Bel w w' := by
  have H := Lib.hid h; clear h
  have hmk := run_make_row' (P := Tryz.prog) 60 9 (.string ⟨#[]⟩) 16 Tryz.underlying60 infoStr10 rfl .i64 .i64 L.length (by omega) (by omega) w
  go_enter Tryz.func51, Tryz.ntmps51
  go_wp2_with (fail)
  go_loopw [11] (fun iv x => ∃ k : Nat, k ≤ L.length ∧ iv = .int .i64 k ∧ x.rowIs w.heap.size 9 L.length (kcell L k) ∧ Bel w x) (fun iv _ => L.length - (intOf iv).toNat)
  case atStart => exact ⟨0, Nat.zero_le _, rfl, (World.rowIs_made w (.string ⟨#[]⟩) L.length 9).congr fun j hj => (if_neg (by omega)).symm, (Bel.refl w).alloc _⟩
  case round =>
    obtain ⟨k, hk, rfl, hrow, hb⟩ := hrel
    have HB := Lib.hid hb
    by_cases hlt : k < L.length
    · obtain ⟨a, e0, rfl, he0, B, O, sp, ha, c0, c1, c2, c3⟩ := (H.out.bel hb).get hlt
      have hE : L[k]? = some e0 := by rw [he0]; exact List.getElem?_eq_getElem hlt
      have HX := Lib.hid (kcell_next hE)
      have hf := hrow.frozen k
      have hp := hrow.cell (i := k) hlt
      have HROW := Lib.hid hrow
      have hki : (k : Int) < (L.length : Int) := by omega
      clear hb hrow he0 hE
      have HA := Lib.hid ((Bel.refl wr).alloc (.cells #[.string e0.k, .int .i64 e0.q, .bool e0.d, .string e0.v] 30))
      have HR2 := Lib.hid (row_bel HROW.out HA.out)
      have hf := HR2.out.frozen k
      have hp := HR2.out.cell (i := k) hlt
      go_wp2_with (fail)
      go_roundw
      case rel =>
        refine ⟨k + 1, hlt, by go_num, ?_, (HB.out.trans HA.out).setCell (Nat.le_refl _) _⟩
        refine (HR2.out.set k _).congr fun t ht => ?_
        rw [HX.out]
      case measure => simp [intOf]; omega
    · obtain rfl : k = L.length := by omega
      have HH := Lib.hid (holds_keys hrow)
      have HC := Lib.hid (show Lib.compact (keyL L) = keysL L from keys_compact L)
      have hkl : (keyL L).length = L.length := by simp [keyL]
      have hcon := Any.slices_Compact_string Tryz.lays194 w.heap.size 0 L.length (keyL L) wr HH.out (by omega) (by omega)
      rw [HC.out, hkl] at hcon
      have HCON := Lib.hid hcon
      clear hb hrow hcon hkl
      go_wp2_with (fail)
      refine Calls.mono (show Calls Tryz.prog 77 _ _ _ from HCON.out) ?_
      rintro e w2 ⟨rfl, q, rfl⟩
      go_wp2_with (fail)
      go_ret
      refine ⟨w.heap.size, L.length, rfl, ?_, bel_put HB.out (Nat.le_refl _)⟩
      have hk2 := keys_len L
      refine strs_put HH.out (by simp [keyL]; omega) _ fun i hi => ⟨by simp; omega, ?_⟩
      simp [List.getElem_append_left hi]
end Go.Proofs.YteimllgoelleeaaGreatDoor
