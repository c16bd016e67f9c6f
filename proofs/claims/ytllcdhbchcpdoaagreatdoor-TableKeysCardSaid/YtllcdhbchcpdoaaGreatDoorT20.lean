/- BRows, TRef7, TPEnt, TPPairs, TPKeys, laid together. -/
import Derived.Test.YtllcdhbchcpdoaaGreatDoorT19
import Derived.Test.YtllcdhbchcpdoaaGreatDoorT10
import Derived.Test.YtllcdhbchcpdoaaGreatDoorT15
import Derived.Test.YtllcdhbchcpdoaaGreatDoorT12
import Derived.Test.YtllcdhbchcpdoaaGreatDoorT2
import Derived.Test.YtllcdhbchcpdoaaGreatDoorT14
import Derived.Laws.MakeOwn
import Derived.Test.YtllcdhbchcpdoaaGreatDoorT22
import Derived.Test.YtllcdhbchcpdoaaGreatDoorT4
import Derived.Shelf.Slices.CompactS
set_option linter.unusedSimpArgs false
set_option linter.unusedVariables false
/- Rows of pairs as they lie; Split of both sides, said so. -/
namespace Go.Proofs.YtllcdhbchcpdoaaGreatDoor
open Go.RowKit Go.Deep

def RwAt (w : World) (p : Option Addr) (rows : List (List PB)) : Prop := ∀ i (h : i < rows.length), ∃ a q c, p = some a ∧ w.cell? (a.add i) = some (.slice q rows[i].length c) ∧ PairsAt w q rows[i]
theorem RwAt.bel {w x : World} {p : Option Addr} {rows : List (List PB)} (h : RwAt w p rows) (hb : Bel w x) : RwAt x p rows := by
  intro i hi
  obtain ⟨a, q, c, h1, h2, h3⟩ := h i hi
  exact ⟨a, q, c, h1, (Below.cell hb (block_of_cell h2)).trans h2, h3.bel hb⟩
theorem rows_at {E : El PB} {R : El SL} {b : Nat} (hR : ElOk R b) (hn : R.n = 1) (hc : R.cells = fun s => [s.val]) (hE : ∀ {B : Nat} {w : World} {v : Value} {L : List PB}, OwnG E B w v L → ∃ p cap, v = .slice p L.length cap ∧ PairsAt w p L) {n : Nat} {x : World} {rv cv : Value} {H : List SL} {rows : List (List PB)} {row : List PB} (h : RowsInv E R n x rv cv H rows row) :
    ∃ p cap, rv = .slice p rows.length cap ∧ RwAt x p rows := by
  by_cases hr : rows = []
  · subst hr
    obtain ⟨p, cap, e⟩ := ownG_len h.own
    exact ⟨p, cap, by rw [e, h.len], fun i hi => by simp at hi⟩
  · have hpos : 0 < H.length := by rw [h.len]; exact List.length_pos_iff.2 hr
    obtain ⟨g, cap, e, _, _, _, hcell⟩ := ownG_cells hR h.own (by intro e; rw [e] at hpos; simp at hpos)
    refine ⟨_, cap, by rw [e, h.len], fun i hi => ?_⟩
    have hi' : i < H.length := by rw [h.len]; exact hi
    obtain ⟨p, cap', hv, hat⟩ := hE (h.els i H[i] rows[i] (List.getElem?_eq_getElem hi') (List.getElem?_eq_getElem hi))
    refine ⟨_, p, cap', rfl, ?_, hat⟩
    have := hcell i H[i] (List.getElem?_eq_getElem hi') 0 H[i].val (by rw [hc]; rfl)
    rw [hn, hv] at this
    have e2 : (⟨g, 0, none⟩ : Addr).add i = ⟨g, i * 1 + 0, none⟩ := by cases i <;> simp [Addr.add]
    rw [e2]; exact this
theorem split_at (p : Option Addr) (cap : Nat) (L : List PB) (most : Int) (w : World) (h : PairsAt w p L) (hL : L.length ≤ 1000) (hs : smallP 100000 L) :
    Calls Tryz.prog 62 #[.slice p L.length cap, .int .i64 most] w fun e w' => ∃ q c, e = .returned (.slice q (splitB most L []).length c) ∧ RwAt w' q (splitB most L []) ∧ Bel w w' := by
  refine (split_any p cap L most w h hL hs).mono ?_
  rintro e w' ⟨v, H, cv, row, rfl, hi, hb⟩
  obtain ⟨q, c, rfl, hat⟩ := rows_at rowOk rfl rfl ownG_pairs hi
  exact ⟨q, c, rfl, hat, hb⟩
theorem rsplit_at (p : Option Addr) (cap : Nat) (L : List PB) (most : Int) (w : World) (h : PairsAt w p L) (hL : L.length ≤ 1000) (hs : smallP 100000 L) :
    Calls Tryz.prog 44 #[.slice p L.length cap, .int .i64 most] w fun e w' => ∃ q c, e = .returned (.slice q (splitB most L []).length c) ∧ RwAt w' q (splitB most L []) ∧ Bel w w' := by
  refine (rsplit_any p cap L most w h hL hs).mono ?_
  rintro e w' ⟨v, H, cv, row, rfl, hi, hb⟩
  obtain ⟨q, c, rfl, hat⟩ := rows_at rrowOk rfl rfl ownG_rpairs hi
  exact ⟨q, c, rfl, hat, hb⟩
theorem splitB_len (most : Int) : ∀ (L row : List PB), (splitB most L row).length ≤ L.length + 1
  | [], row => by unfold splitB; split <;> simp
  | p :: L, row => by
    unfold splitB
    split
    · have := splitB_len most L []; simp; omega
    · have := splitB_len most L (row ++ [p]); simp; omega
theorem splitB_join (most : Int) : ∀ (L row : List PB), (splitB most L row).flatten = row ++ L
  | [], row => by
    unfold splitB
    by_cases h : row = []
    · rw [if_pos h, h]; rfl
    · rw [if_neg h]; simp
  | p :: L, row => by
    unfold splitB
    split
    · rw [List.flatten_cons, splitB_join most L []]; simp
    · rw [splitB_join most L (row ++ [p])]; simp
end Go.Proofs.YtllcdhbchcpdoaaGreatDoor
/- moultref10.Build. -/
namespace Go.Proofs.YtllcdhbchcpdoaaGreatDoor
open Go.RowKit Go.Deep

theorem rinner_at (s : ByteArray) (x : Int) (w : World) (hs : s.size ≤ 1000000) (h0 : 0 ≤ x) (h1 : x ≤ 1099511627776) :
    Calls Tryz.prog 21 #[.string s, .int .i64 x] w fun e w' => e = .returned (.string ⟨(innerL s.data.toList x.toNat).toArray⟩) ∧ Bel w w' := by
  obtain ⟨n, rfl⟩ : ∃ n : Nat, x = n := ⟨x.toNat, by omega⟩
  exact rinner_any s n w hs (by omega)
def pairB (e : EB) : PB := ⟨⟨(innerL e.k.data.toList e.q.toNat).toArray⟩, ⟨(recL e).toArray⟩⟩
theorem pairB_pr (e : EB) : (pairB e).pr = pairL e := by simp [pairB, PB.pr, pairL]
theorem pairsB_prs (L : List EB) : prs (L.map pairB) = pairsL L := by
  unfold prs pairsL
  rw [List.map_map]
  exact List.map_congr_left fun e _ => pairB_pr e
theorem map_take1 (L : List EB) (k : Nat) (h : k < L.length) (e : EB) (he : e = L[k]) : (L.take (k + 1)).map pairB = (L.take k).map pairB ++ [pairB e] := by
  rw [List.take_add_one, List.getElem?_eq_getElem h, Option.toList_some, List.map_append, he]
  rfl
theorem keys_take0 (L : List EB) (h : 0 < L.length) (e : EB) (he : e = L[0]) : keysL (L.take (0 + 1)) = keysL (L.take 0) ++ [e.k.data.toList] := by
  rw [List.take_add_one, List.getElem?_eq_getElem h, Option.toList_some, keys_snoc, he]
  rfl
theorem keys_take1 (L : List EB) (j : Nat) (h : j + 1 < L.length) (e f : EB) (he : e = L[j + 1]) (hf : f = L[j]) : keysL (L.take (j + 1 + 1)) = keysL (L.take (j + 1)) ++ (if e.k.data.toList = f.k.data.toList then [] else [e.k.data.toList]) := by
  rw [List.take_add_one, List.getElem?_eq_getElem h, Option.toList_some, keys_snoc]
  have e1 : (L.take (j + 1)).getLast? = some L[j] := by
    rw [List.take_add_one, List.getElem?_eq_getElem (by omega), Option.toList_some, List.getLast?_concat]
  rw [e1, he, hf]
theorem rec_dead {e : EB} (h : e.d = true) : recL e = [0] := by unfold recL; rw [h]; rfl
theorem rec_live {e : EB} (h : e.d = false) : recL e = 1 :: e.v.data.toList := by unfold recL; rw [h]; rfl
theorem cl10 {w x : World} {a : Addr} {v : Value} (hb : Bel w x) (h : w.cell? a = some v) : x.cell? a = some v := (Below.cell hb (blk_of_cell h)).trans h
theorem str_lit (s : ByteArray) : (#[Value.string s] : Array Value).toList = strEl.all [s.data.toList] := by
  have e : (⟨s.data.toList.toArray⟩ : ByteArray) = s := by cases s; simp
  simp only [El.all, strEl, List.flatMap_cons, List.flatMap_nil, List.append_nil, e]
def buildV (L : List EB) : Value := .tuple #[.string ⟨(buildT L).1.toArray⟩, .int .i64 (buildT L).2]
theorem buildV_err {L : List EB} {e : Int} (h : buildT L = ([], e)) : buildV L = .tuple #[.string ⟨#[]⟩, .int .i64 e] := by unfold buildV; rw [h]
def sizesL (m : Nat) (L : List EB) : Prop := ∀ e ∈ L, e.k.size ≤ m ∧ e.v.size ≤ m
theorem pairB_small {e : EB} (h : rightB e = true) : (pairB e).k.size ≤ 100000 ∧ (pairB e).v.size ≤ 100000 := by
  have h1 := pair_small h
  have e1 : (pairB e).k.size = (pairL e).k.length := by unfold pairB; simp only []; rw [mk_size10]; rfl
  have e2 : (pairB e).v.size = (pairL e).v.length := by unfold pairB; simp only []; rw [mk_size10]; rfl
  omega
theorem rows_ok {L : List EB} (h : standB L = true) (hl : L.length ≤ 500) :
    (splitB 600 (L.map pairB) []).map prs = rowsOf L ∧ (splitB 600 (L.map pairB) []).length ≤ 501 ∧ ∀ r ∈ splitB 600 (L.map pairB) [], r.length ≤ 1000 ∧ smallP 100000 r ∧ incB (prs r) = true := by
  have e : (splitB 600 (L.map pairB) []).map prs = rowsOf L := by rw [splitB_prs, pairsB_prs]; rfl
  have hj := splitB_join 600 (L.map pairB) []
  rw [List.nil_append] at hj
  refine ⟨e, by have := splitB_len 600 (L.map pairB) []; rw [List.length_map] at this; omega, fun r hr => ⟨?_, fun i hi => ?_, ?_⟩⟩
  · have := (List.sublist_flatten_of_mem hr).length_le
    rw [hj, List.length_map] at this
    omega
  · have hm : r[i] ∈ (splitB 600 (L.map pairB) []).flatten := List.mem_flatten.2 ⟨r, hr, List.getElem_mem hi⟩
    rw [hj] at hm
    obtain ⟨x, hx, hxe⟩ := List.mem_map.1 hm
    rw [← hxe]
    exact pairB_small (stand_right h x hx)
  · refine rows_inc h _ ?_
    rw [← e]
    exact List.mem_map_of_mem hr
def blkB (r : List PB) : List UInt8 := (buildL (prs r)).1
theorem frames_snoc (l : List (List UInt8)) (t : List UInt8) : framesL (l ++ [t]) = framesL l ++ frameL t := by unfold framesL; rw [List.flatMap_append, List.flatMap_singleton]
theorem blk_take (R : List (List PB)) (k : Nat) (h : k < R.length) (r : List PB) (hr : r = R[k]) : framesL ((R.take (k + 1)).map blkB) = framesL ((R.take k).map blkB) ++ frameL (blkB r) := by
  rw [List.take_add_one, List.getElem?_eq_getElem h, Option.toList_some, List.map_append, hr]
  exact frames_snoc _ _
theorem RwAt.get {w : World} {p : Option Addr} {rows : List (List PB)} (h : RwAt w p rows) {i : Nat} (hi : i < rows.length) : ∃ a q c r, p = some a ∧ r = rows[i] ∧ w.cell? (a.add i) = some (.slice q r.length c) ∧ PairsAt w q r := by
  obtain ⟨a, q, c, h1, h2, h3⟩ := h i hi
  exact ⟨a, q, c, _, h1, rfl, h2, h3⟩
theorem ok_take (R : List (List PB)) (k : Nat) (h : k < R.length) (r : List PB) (hr : r = R[k]) (h0 : (buildL (prs r)).2 = 0) (ha : ∀ x ∈ R.take k, (buildL (prs x)).2 = 0) : ∀ x ∈ R.take (k + 1), (buildL (prs x)).2 = 0 := by
  rw [List.take_add_one, List.getElem?_eq_getElem h, Option.toList_some]
  intro x hx
  rcases List.mem_append.1 hx with hx | hx
  · exact ha x hx
  · rw [List.mem_singleton] at hx
    rw [hx, ← hr]; exact h0
theorem err_row {L : List EB} {R : List (List PB)} (hR : R.map prs = rowsOf L) (k : Nat) (h : k < R.length) (r : List PB) (hr : r = R[k]) (h0 : (buildL (prs r)).2 ≠ 0) (ha : ∀ x ∈ R.take k, (buildL (prs x)).2 = 0) : rowsErr (rowsOf L) = (buildL (prs r)).2 := by
  have hk : k < (R.map prs).length := by rw [List.length_map]; exact h
  have e : (R.map prs)[k] = prs r := by rw [List.getElem_map, hr]
  rw [← hR, err_first hk (fun x hx => by
    rw [← List.map_take] at hx
    obtain ⟨y, hy, rfl⟩ := List.mem_map.1 hx
    exact ha y hy) (by rw [e]; exact h0), e]
theorem err_zero {L : List EB} {R : List (List PB)} (hR : R.map prs = rowsOf L) (ha : ∀ x ∈ R, (buildL (prs x)).2 = 0) : rowsErr (rowsOf L) = 0 := by
  rw [← hR]
  exact err_none fun x hx => by
    obtain ⟨y, hy, rfl⟩ := List.mem_map.1 hx
    exact ha y hy
theorem blocks_row {L : List EB} {R : List (List PB)} (hR : R.map prs = rowsOf L) : R.map blkB = blocksL L := by
  unfold blocksL
  rw [← hR, List.map_map]
  rfl
set_option maxHeartbeats 8000000 in
set_option maxRecDepth 20000 in
theorem rbuildT_any (p : Option Addr) (cap : Nat) (L : List EB) (w : World) (h : EntsAt w p L) (hL : L.length ≤ 1000) (hf : fitsL L) (hs : sizesL 100000 L) :
    Calls Tryz.prog 23 #[.slice p L.length cap] w fun e w' => e = .returned (buildV L) ∧ Bel w w' := by
  have H := Lib.hid h; clear h
  have HF := Lib.hid hf; clear hf
  have HS := Lib.hid hs; clear hs
  go_enter Tryz.func23, Tryz.ntmps23
  go_wp2_with (fail)
  refine (rstand_any p cap L w H.out (by omega) HF.out).mono ?_
  rintro r w1 ⟨rfl, hb⟩
  have HB := Lib.hid hb; clear hb
  by_cases h0 : L = []
  · subst h0
    have HV := Lib.hid (buildV_err (buildT_arg (Or.inl (rfl : ([] : List EB) = []))))
    go_wp2_with (fail)
    go_ret2
    exact ⟨by rw [HV.out]; rfl, HB.out⟩
  have hl0 : L.length ≠ 0 := fun e => h0 (List.length_eq_zero_iff.1 e)
  have hl0' : ((L.length : Int) == 0) = false := by rw [beq_eq_false_iff_ne]; omega
  cases hst : standB L with
  | false =>
    have HV := Lib.hid (buildV_err (buildT_arg (Or.inr hst)))
    clear hst
    go_wp2_with (fail)
    go_ret2
    exact ⟨by rw [HV.out]; rfl, HB.out⟩
  | true =>
    have HST := Lib.hid hst; clear hst
    by_cases h500 : L.length ≤ 500
    · have h500' : (L.length : Int) ≤ 500 := by omega
      have HNE := Lib.hid h0
      clear h0
      go_wp2_with (fail)
      go_loopw [5, 6, 7] (fun pv kv iv x => ∃ k : Nat, k ≤ L.length ∧ iv = .int .i64 k ∧ OwnG rpairEl w.heap.size x pv ((L.take k).map pairB) ∧ OwnG strEl w.heap.size x kv (keysL (L.take k)) ∧ Bel w x) (fun _ _ iv _ => L.length - (intOf iv).toNat)
      case atStart => exact ⟨0, Nat.zero_le _, rfl, OwnG.nil _ _ _, OwnG.nil _ _ _, HB.out⟩
      case round =>
        obtain ⟨k, hk, rfl, hop, hok, hbx⟩ := hrel
        have HBX := Lib.hid hbx
        have hkl := keys_len (L.take k)
        have hpl : ((L.take k).map pairB).length = k := by rw [List.length_map, List.length_take]; omega
        have htl : (L.take k).length = k := by rw [List.length_take]; omega
        rw [htl] at hkl
        by_cases hlt : k < L.length
        · obtain ⟨a, e0, rfl, he0, B, O, sp, ha, c0, c1, c2, c3⟩ := H.out.get hlt
          have HC0 := Lib.hid (And.intro c0 c1)
          replace c0 := cl10 hbx c0
          replace c1 := cl10 hbx c1
          replace c2 := cl10 hbx c2
          replace c3 := cl10 hbx c3
          have hright := stand_right HST.out e0 (by rw [he0]; exact List.getElem_mem hlt)
          obtain ⟨r1, r2, r3, r4, -, -⟩ := right_parts hright
          have HMP := Lib.hid (map_take1 L k hlt e0 he0)
          have HE0 := Lib.hid he0
          obtain ⟨PL, hPL⟩ : ∃ PL, (L.take k).map pairB = PL := ⟨_, rfl⟩
          obtain ⟨KL, hKL⟩ : ∃ KL, keysL (L.take k) = KL := ⟨_, rfl⟩
          have HKL := Lib.hid hKL
          rw [hPL] at hop hpl HMP
          rw [hKL] at hok hkl
          obtain ⟨pp, pcap, rfl⟩ := ownG_len hop
          obtain ⟨kp, kcap, rfl⟩ := ownG_len hok
          have HOP := Lib.hid hop
          have HOK := Lib.hid hok
          have HPLE := Lib.hid hpl
          have hplb : PL.length ≤ 1000 := by omega
          clear hop hok hbx hPL hKL he0 hright hpl
          have hkw : IntKind.i64.wrap (k : Int) = k := by rw [IntKind.wrap_i64]; omega
          have hki : (k : Int) < (L.length : Int) := by omega
          cases hd : e0.d with
          | true =>
            rw [hd] at c2
            go_wp2_with (fail)
            have HVS := Lib.hid (show (⟨#[0]⟩ : ByteArray) = ⟨(recL e0).toArray⟩ by rw [rec_dead hd])
            obtain ⟨vs, hvs⟩ : ∃ vs : ByteArray, vs = ⟨#[0]⟩ := ⟨_, rfl⟩
            rw [← hvs] at HVS ⊢
            clear hvs
            refine wp_region_held_drew (S := fun z => z.cell? ⟨B, O, sp⟩ = some (.string e0.k) ∧ z.cell? ⟨B, O + 1, none⟩ = some (.int .i64 e0.q)) (by kernel_rfl) ⟨c0, c1⟩ (fun hHeld => ?_)
            refine tk (oi := { dst := some 50, op := Op.move (Operand.tmp 5), type := 79, pos := "ref.go:147", after := #[], guard := none }) (v := ?_) 0 rfl ?_ ?_
            rotate_left
            · (intro w hSw; (try dsimp only at hSw); first | (go_simp; done) | (go_simp; with_reducible rfl))
            try simp only [Act.put, List.setIfInBounds_toArray, List.set_cons_zero, List.set_cons_succ]
            refine tk (oi := { dst := some 51, op := Op.move (Operand.tmp 0), type := 26, pos := "ref.go:147", after := #[], guard := none }) (v := ?_) 1 rfl ?_ ?_
            rotate_left
            · (intro w hSw; (try dsimp only at hSw); first | (go_simp; done) | (go_simp; with_reducible rfl))
            try simp only [Act.put, List.setIfInBounds_toArray, List.set_cons_zero, List.set_cons_succ]
            refine tk (oi := { dst := some 52, op := Op.move (Operand.tmp 7), type := 3, pos := "ref.go:147", after := #[], guard := none }) (v := ?_) 2 rfl ?_ ?_
            rotate_left
            · (intro w hSw; (try dsimp only at hSw); first | (go_simp; done) | (go_simp; with_reducible rfl))
            try simp only [Act.put, List.setIfInBounds_toArray, List.set_cons_zero, List.set_cons_succ]
            refine tk (oi := { dst := some 53, op := Op.indexAddr 26 (Operand.tmp 51) (Operand.tmp 52), type := 0, pos := "ref.go:147", after := #[{ on := 1, ground := Ground.data }, { on := 2, ground := Ground.data }], guard := none }) (v := ?_) 3 rfl ?_ ?_
            rotate_left
            · (intro w hSw; (try dsimp only at hSw); first | (go_simp; done) | (go_simp; with_reducible rfl))
            try simp only [Act.put, List.setIfInBounds_toArray, List.set_cons_zero, List.set_cons_succ]
            refine tk (oi := { dst := some 54, op := Op.fieldAddr 23 (Operand.tmp 53) 0, type := 0, pos := "ref.go:147", after := #[{ on := 3, ground := Ground.data }], guard := none }) (v := ?_) 4 rfl ?_ ?_
            rotate_left
            · (intro w hSw; (try dsimp only at hSw); first | (go_simp; done) | (go_simp; with_reducible rfl))
            try simp only [Act.put, List.setIfInBounds_toArray, List.set_cons_zero, List.set_cons_succ]
            refine tk (oi := { dst := some 55, op := Op.load 9 (Operand.tmp 54), type := 9, pos := "ref.go:147", after := #[{ on := 4, ground := Ground.data }], guard := none }) (v := ?_) 5 rfl ?_ ?_
            rotate_left
            · (intro w hSw; (try dsimp only at hSw); first | (go_simp; done) | (go_simp; with_reducible rfl))
            try simp only [Act.put, List.setIfInBounds_toArray, List.set_cons_zero, List.set_cons_succ]
            refine tk (oi := { dst := some 56, op := Op.move (Operand.tmp 0), type := 26, pos := "ref.go:147", after := #[], guard := none }) (v := ?_) 6 rfl ?_ ?_
            rotate_left
            · (intro w hSw; (try dsimp only at hSw); first | (go_simp; done) | (go_simp; with_reducible rfl))
            try simp only [Act.put, List.setIfInBounds_toArray, List.set_cons_zero, List.set_cons_succ]
            refine tk (oi := { dst := some 57, op := Op.move (Operand.tmp 7), type := 3, pos := "ref.go:147", after := #[], guard := none }) (v := ?_) 7 rfl ?_ ?_
            rotate_left
            · (intro w hSw; (try dsimp only at hSw); first | (go_simp; done) | (go_simp; with_reducible rfl))
            try simp only [Act.put, List.setIfInBounds_toArray, List.set_cons_zero, List.set_cons_succ]
            refine tk (oi := { dst := some 58, op := Op.indexAddr 26 (Operand.tmp 56) (Operand.tmp 57), type := 0, pos := "ref.go:147", after := #[{ on := 6, ground := Ground.data }, { on := 7, ground := Ground.data }], guard := none }) (v := ?_) 8 rfl ?_ ?_
            rotate_left
            · (intro w hSw; (try dsimp only at hSw); first | (go_simp; done) | (go_simp; with_reducible rfl))
            try simp only [Act.put, List.setIfInBounds_toArray, List.set_cons_zero, List.set_cons_succ]
            refine tk (oi := { dst := some 59, op := Op.fieldAddr 23 (Operand.tmp 58) 1, type := 0, pos := "ref.go:147", after := #[{ on := 8, ground := Ground.data }], guard := none }) (v := ?_) 9 rfl ?_ ?_
            rotate_left
            · (intro w hSw; (try dsimp only at hSw); first | (go_simp; done) | (go_simp; with_reducible rfl))
            try simp only [Act.put, List.setIfInBounds_toArray, List.set_cons_zero, List.set_cons_succ]
            refine tk (oi := { dst := some 60, op := Op.load 3 (Operand.tmp 59), type := 3, pos := "ref.go:147", after := #[{ on := 9, ground := Ground.data }], guard := none }) (v := ?_) 10 rfl ?_ ?_
            rotate_left
            · (intro w hSw; (try dsimp only at hSw); first | (go_simp; done) | (go_simp; with_reducible rfl))
            try simp only [Act.put, List.setIfInBounds_toArray, List.set_cons_zero, List.set_cons_succ]
            refine tk (oi := { dst := some 62, op := Op.move (Operand.tmp 8), type := 9, pos := "ref.go:147", after := #[], guard := none }) (v := ?_) 12 rfl ?_ ?_
            rotate_left
            · (intro w hSw; (try dsimp only at hSw); first | (go_simp; done) | (go_simp; with_reducible rfl))
            try simp only [Act.put, List.setIfInBounds_toArray, List.set_cons_zero, List.set_cons_succ]
            refine wpAnyH_ready (rs := [11]) (by kernel_rfl) (by simp) ?_
            refine AllReadyH.cons (o := { dst := some 61, op := Op.call { callee := Callee.value (Operand.func 21), args := #[Operand.tmp 55, Operand.tmp 60], argTypes := #[9, 3] }, type := 9, pos := "ref.go:147", after := #[{ on := 5, ground := Ground.data }, { on := 10, ground := Ground.data }], guard := none }) rfl (fun K hK => ?_) AllReadyH.nil
            go_simp
            refine (rinner_at e0.k e0.q wr.drew (by omega) (by omega) (by omega)).mono ?_
            rintro r w4 ⟨rfl, hb⟩
            have HB4 := Lib.hid (HBX.out.drew.trans hb)
            have HOP4 := Lib.hid (HOP.out.drew.bel hb)
            have HOK4 := Lib.hid (HOK.out.drew.bel hb)
            dsimp only
            refine hK.out _ _ ⟨cl10 hb hHeld.1, cl10 hb hHeld.2⟩ (fun hHeld => ?_)
            clear hb
            clear hK K
            try simp only [Act.put, List.setIfInBounds_toArray, List.set_cons_zero, List.set_cons_succ]
            obtain ⟨ik, hik⟩ : ∃ ik : ByteArray, ik = ⟨(innerL e0.k.data.toList e0.q.toNat).toArray⟩ := ⟨_, rfl⟩
            rw [← hik]
            have HIK := Lib.hid hik
            clear hik
            refine tk (oi := { dst := some 63, op := Op.build 81 #[(0, Operand.tmp 61), (1, Operand.tmp 62)], type := 81, pos := "ref.go:147", after := #[{ on := 11, ground := Ground.data }, { on := 12, ground := Ground.data }], guard := none }) (v := ?_) 13 rfl ?_ ?_
            rotate_left
            · (intro w hSw; (try dsimp only at hSw); first | (go_simp; done) | (go_simp; with_reducible rfl))
            try simp only [Act.put, List.setIfInBounds_toArray, List.set_cons_zero, List.set_cons_succ]
            refine wpAnyH_ready (rs := [14]) (by kernel_rfl) (by simp) ?_
            refine AllReadyH.cons (o := { dst := some 64, op := Op.buildSlice 79 1 #[(0, Operand.tmp 63)], type := 79, pos := "ref.go:147", after := #[{ on := 13, ground := Ground.data }], guard := none }) rfl (fun K hK => ?_) AllReadyH.nil
            go_simp
            have hb5 : Bel w4 (w4.alloc (.cells #[.string ik, .string vs] 81)) := (Bel.refl w4).alloc _
            have HLL := Lib.hid (heap_alloc_new w4 (.cells #[.string ik, .string vs] 81))
            have HB5 := Lib.hid (HB4.out.trans hb5)
            have HOP5 := Lib.hid (HOP4.out.bel hb5)
            have HOK5 := Lib.hid (HOK4.out.bel hb5)
            refine hK.out _ _ ⟨cl10 hb5 hHeld.1, cl10 hb5 hHeld.2⟩ (fun hHeld => ?_)
            clear hb5
            clear hK K
            try simp only [Act.put, List.setIfInBounds_toArray, List.set_cons_zero, List.set_cons_succ]
            obtain ⟨w5, hw5⟩ : ∃ x, x = w4.alloc (.cells #[.string ik, .string vs] 81) := ⟨_, rfl⟩
            rw [← hw5] at HLL HB5 HOP5 HOK5 hHeld ⊢
            clear hw5
            refine wpAnyH_ready (rs := [15]) (by kernel_rfl) (by simp) ?_
            refine AllReadyH.cons (o := { dst := some 65, op := Op.call { callee := Callee.builtin Builtin.append, args := #[Operand.tmp 50, Operand.tmp 64], argTypes := #[79, 79] }, type := 79, pos := "ref.go:147", after := #[{ on := 0, ground := Ground.data }, { on := 14, ground := Ground.data }, { on := 11, ground := Ground.chain }], guard := none }) rfl (fun K hK => ?_) AllReadyH.nil
            refine step_append_all (L := PL) rpairOk rfl (.tmp 50) (.tmp 64) rfl rfl HOP5.out [pairB e0] rfl (src_at [pairB e0] HLL.out (by rw [HIK.out, HVS.out]; rfl) rfl) (by simp only [List.length_singleton]; unfold maxLen; omega) (by simp only [List.length_singleton]; omega) HB5.out.size ?_
            intro v6 w6 ho6 hk6 _
            have HB6 := Lib.hid (show Bel w w6 from HB5.out.trans_below (hk6.own HB5.out.size (fun kk hkk => (HOP5.out.lt kk hkk).1)))
            have HOK6 := Lib.hid (HOK5.out.keep hk6 (fun kk hkk hm => by rw [Option.mem_toList] at hm; exact own_apart HOP5.out HOK5.out (by decide) kk hm hkk))
            obtain ⟨PN, hPN⟩ : ∃ PN, PL ++ [pairB e0] = PN := ⟨_, rfl⟩
            rw [hPN] at ho6
            obtain ⟨pp6, pcap6, hv6⟩ := ownG_len ho6
            rw [hv6] at ho6 ⊢
            clear hv6
            have HPNE := Lib.hid hPN
            clear hPN
            have HOP6 := Lib.hid ho6
            clear ho6 hk6
            refine hK.out _ _ ⟨cl10 HB6.out HC0.out.1, cl10 HB6.out HC0.out.2⟩ (fun hHeld => ?_)
            clear hK K
            try simp only [Act.put, List.setIfInBounds_toArray, List.set_cons_zero, List.set_cons_succ]
            refine tk (oi := { dst := some 5, op := Op.assign (Operand.tmp 65), type := 79, pos := "ref.go:147", after := #[{ on := 15, ground := Ground.data }, { on := 15, ground := Ground.chain }, { on := 0, ground := Ground.phase }, { on := 1, ground := Ground.phase }, { on := 2, ground := Ground.phase }, { on := 3, ground := Ground.phase }, { on := 4, ground := Ground.phase }, { on := 5, ground := Ground.phase }, { on := 6, ground := Ground.phase }, { on := 7, ground := Ground.phase }, { on := 8, ground := Ground.phase }, { on := 9, ground := Ground.phase }, { on := 10, ground := Ground.phase }, { on := 11, ground := Ground.phase }, { on := 12, ground := Ground.phase }, { on := 13, ground := Ground.phase }, { on := 14, ground := Ground.phase }, { on := 15, ground := Ground.phase }], guard := none }) (v := ?_) 16 rfl ?_ ?_
            rotate_left
            · (intro w hSw; (try dsimp only at hSw); first | (go_simp; done) | (go_simp; with_reducible rfl))
            try simp only [Act.put, List.setIfInBounds_toArray, List.set_cons_zero, List.set_cons_succ]
            refine wpAnyH_done (by kernel_rfl) ?_ _
            have HPN := Lib.hid (show PN.length = k + 1 by rw [← HPNE.out, List.length_append, HPLE.out]; rfl)
            rw [HPNE.out] at HMP
            replace c0 := cl10 HB6.out HC0.out.1
            clear c1 c2 c3 hHeld
            by_cases hk0 : k = 0
            · subst hk0
              go_wp2_with (fail)
              go_quiet (fail)
              obtain ⟨x7, hx7⟩ : ∃ x, x = w6.drewN nq := ⟨_, rfl⟩
              have hb7 : Bel w6 x7 := by rw [hx7]; exact (Bel.refl w6).drewN _
              have HB7 := Lib.hid (HB6.out.trans hb7)
              have HOP7 := Lib.hid (HOP6.out.bel hb7)
              have HOK7 := Lib.hid (HOK6.out.bel hb7)
              have d0 := cl10 hb7 c0
              rw [← hx7]
              clear hb7 hx7 c0
              have HKT := Lib.hid (show keysL (L.take (0 + 1)) = KL ++ [e0.k.data.toList] by rw [← HKL.out]; exact keys_take0 L (by omega) e0 HE0.out)
              go_wp2_with (at_builtin; refine stop_here ?_)
              refine go_on ?_
              have hll := heap_alloc_new x7 (.cells #[.string e0.k] 9)
              have hbl := (Bel.refl x7).alloc (.cells #[.string e0.k] 9)
              refine append_all strOk rfl _ _ rfl rfl (HOK7.out.bel hbl) [e0.k.data.toList] rfl (src_at [e0.k.data.toList] hll (str_lit _) rfl) (by simp only [List.length_singleton]; unfold maxLen; omega) (by simp only [List.length_singleton]; omega) (HB7.out.trans hbl).size ?_
              intro v8 w8 ho8 hk8 _
              have HB8 := Lib.hid (show Bel w w8 from (HB7.out.trans hbl).trans_below (hk8.own (HB7.out.trans hbl).size (fun kk hkk => ((HOK7.out.bel hbl).lt kk hkk).1)))
              have HOP8 := Lib.hid ((HOP7.out.bel hbl).keep hk8 (fun kk hkk hm => by rw [Option.mem_toList] at hm; exact own_apart (HOK7.out.bel hbl) (HOP7.out.bel hbl) (by decide) kk hm hkk))
              have HOK8 := Lib.hid ho8
              clear ho8 hk8 hll hbl
              go_wp2_with (fail)
              go_roundw
              case rel => exact ⟨0 + 1, hlt, by go_num, by rw [HMP.out]; exact HOP8.out, by rw [HKT.out]; exact HOK8.out, HB8.out⟩
              case measure => simp [intOf]; omega
            · obtain ⟨j, rfl⟩ : ∃ j, k = j + 1 := ⟨k - 1, by omega⟩
              have hjl : j < L.length := by omega
              obtain ⟨_, e1, ha1, he1, B1, O1, sp1, hb1, b0, b1, b2, b3⟩ := H.out.get hjl
              cases ha1
              have HE1 := Lib.hid he1
              have d1 := cl10 HB6.out b0
              have hji : (j : Int) < (L.length : Int) := by omega
              have hji2 : (j : Int) + 1 < (L.length : Int) := by omega
              have hj0 : (0 : Int) ≤ (j : Int) + 1 := by omega
              have hjw : IntKind.i64.wrap (j : Int) = j := by rw [IntKind.wrap_i64]; omega
              have hjw2 : IntKind.i64.wrap ((j : Int) + 1) = (j : Int) + 1 := by rw [IntKind.wrap_i64]; omega
              clear he1 b0 b1 b2 b3
              have HKT1 := Lib.hid (keys_take1 L j hlt e0 e1 HE0.out HE1.out)
              by_cases hsame : e0.k.data.toList = e1.k.data.toList
              · have hse : e1.k = e0.k := (ba_ext hsame).symm
                have HKT2 := Lib.hid (show keysL (L.take (j + 1 + 1)) = KL by rw [HKT1.out, if_pos hsame, List.append_nil, HKL.out])
                rw [hse] at d1
                clear hse hsame
                go_wp2_with (fail)
                go_quiet (fail)
                go_wp2_with (fail)
                go_roundw
                case rel => exact ⟨j + 1 + 1, hlt, by go_num, by rw [HMP.out]; exact (HOP6.out.drewN _), by rw [HKT2.out]; exact (HOK6.out.drewN _), HB6.out.drewN _⟩
                case measure => simp [intOf]; omega
              · have hneq : (e0.k.toList == e1.k.toList) = false := by rw [ByteArray.toList_eq, ByteArray.toList_eq, beq_eq_false_iff_ne]; exact hsame
                go_wp2_with (fail)
                go_quiet (fail)
                obtain ⟨x7, hx7⟩ : ∃ x, x = w6.drewN nq := ⟨_, rfl⟩
                have hb7 : Bel w6 x7 := by rw [hx7]; exact (Bel.refl w6).drewN _
                have HB7 := Lib.hid (HB6.out.trans hb7)
                have HOP7 := Lib.hid (HOP6.out.bel hb7)
                have HOK7 := Lib.hid (HOK6.out.bel hb7)
                have d0 := cl10 hb7 c0
                rw [← hx7]
                clear hb7 hx7 c0
                have HKT := Lib.hid (show keysL (L.take (j + 1 + 1)) = KL ++ [e0.k.data.toList] by rw [HKT1.out, if_neg hsame, HKL.out])
                go_wp2_with (at_builtin; refine stop_here ?_)
                refine go_on ?_
                have hll := heap_alloc_new x7 (.cells #[.string e0.k] 9)
                have hbl := (Bel.refl x7).alloc (.cells #[.string e0.k] 9)
                refine append_all strOk rfl _ _ rfl rfl (HOK7.out.bel hbl) [e0.k.data.toList] rfl (src_at [e0.k.data.toList] hll (str_lit _) rfl) (by simp only [List.length_singleton]; unfold maxLen; omega) (by simp only [List.length_singleton]; omega) (HB7.out.trans hbl).size ?_
                intro v8 w8 ho8 hk8 _
                have HB8 := Lib.hid (show Bel w w8 from (HB7.out.trans hbl).trans_below (hk8.own (HB7.out.trans hbl).size (fun kk hkk => ((HOK7.out.bel hbl).lt kk hkk).1)))
                have HOP8 := Lib.hid ((HOP7.out.bel hbl).keep hk8 (fun kk hkk hm => by rw [Option.mem_toList] at hm; exact own_apart (HOK7.out.bel hbl) (HOP7.out.bel hbl) (by decide) kk hm hkk))
                have HOK8 := Lib.hid ho8
                clear ho8 hk8 hll hbl
                go_wp2_with (fail)
                go_roundw
                case rel => exact ⟨j + 1 + 1, hlt, by go_num, by rw [HMP.out]; exact HOP8.out, by rw [HKT.out]; exact HOK8.out, HB8.out⟩
                case measure => simp [intOf]; omega
          | false =>
            rw [hd] at c2
            go_wp2_with (fail)
            have HVS := Lib.hid (show ((⟨#[1]⟩ ++ e0.v) : ByteArray) = ⟨(recL e0).toArray⟩ by rw [rec_live hd]; apply ByteArray.ext; simp)
            generalize ((⟨#[1]⟩ ++ e0.v) : ByteArray) = vs at *
            refine wp_region_held_drew (S := fun z => z.cell? ⟨B, O, sp⟩ = some (.string e0.k) ∧ z.cell? ⟨B, O + 1, none⟩ = some (.int .i64 e0.q)) (by kernel_rfl) ⟨c0, c1⟩ (fun hHeld => ?_)
            refine tk (oi := { dst := some 50, op := Op.move (Operand.tmp 5), type := 79, pos := "ref.go:147", after := #[], guard := none }) (v := ?_) 0 rfl ?_ ?_
            rotate_left
            · (intro w hSw; (try dsimp only at hSw); first | (go_simp; done) | (go_simp; with_reducible rfl))
            try simp only [Act.put, List.setIfInBounds_toArray, List.set_cons_zero, List.set_cons_succ]
            refine tk (oi := { dst := some 51, op := Op.move (Operand.tmp 0), type := 26, pos := "ref.go:147", after := #[], guard := none }) (v := ?_) 1 rfl ?_ ?_
            rotate_left
            · (intro w hSw; (try dsimp only at hSw); first | (go_simp; done) | (go_simp; with_reducible rfl))
            try simp only [Act.put, List.setIfInBounds_toArray, List.set_cons_zero, List.set_cons_succ]
            refine tk (oi := { dst := some 52, op := Op.move (Operand.tmp 7), type := 3, pos := "ref.go:147", after := #[], guard := none }) (v := ?_) 2 rfl ?_ ?_
            rotate_left
            · (intro w hSw; (try dsimp only at hSw); first | (go_simp; done) | (go_simp; with_reducible rfl))
            try simp only [Act.put, List.setIfInBounds_toArray, List.set_cons_zero, List.set_cons_succ]
            refine tk (oi := { dst := some 53, op := Op.indexAddr 26 (Operand.tmp 51) (Operand.tmp 52), type := 0, pos := "ref.go:147", after := #[{ on := 1, ground := Ground.data }, { on := 2, ground := Ground.data }], guard := none }) (v := ?_) 3 rfl ?_ ?_
            rotate_left
            · (intro w hSw; (try dsimp only at hSw); first | (go_simp; done) | (go_simp; with_reducible rfl))
            try simp only [Act.put, List.setIfInBounds_toArray, List.set_cons_zero, List.set_cons_succ]
            refine tk (oi := { dst := some 54, op := Op.fieldAddr 23 (Operand.tmp 53) 0, type := 0, pos := "ref.go:147", after := #[{ on := 3, ground := Ground.data }], guard := none }) (v := ?_) 4 rfl ?_ ?_
            rotate_left
            · (intro w hSw; (try dsimp only at hSw); first | (go_simp; done) | (go_simp; with_reducible rfl))
            try simp only [Act.put, List.setIfInBounds_toArray, List.set_cons_zero, List.set_cons_succ]
            refine tk (oi := { dst := some 55, op := Op.load 9 (Operand.tmp 54), type := 9, pos := "ref.go:147", after := #[{ on := 4, ground := Ground.data }], guard := none }) (v := ?_) 5 rfl ?_ ?_
            rotate_left
            · (intro w hSw; (try dsimp only at hSw); first | (go_simp; done) | (go_simp; with_reducible rfl))
            try simp only [Act.put, List.setIfInBounds_toArray, List.set_cons_zero, List.set_cons_succ]
            refine tk (oi := { dst := some 56, op := Op.move (Operand.tmp 0), type := 26, pos := "ref.go:147", after := #[], guard := none }) (v := ?_) 6 rfl ?_ ?_
            rotate_left
            · (intro w hSw; (try dsimp only at hSw); first | (go_simp; done) | (go_simp; with_reducible rfl))
            try simp only [Act.put, List.setIfInBounds_toArray, List.set_cons_zero, List.set_cons_succ]
            refine tk (oi := { dst := some 57, op := Op.move (Operand.tmp 7), type := 3, pos := "ref.go:147", after := #[], guard := none }) (v := ?_) 7 rfl ?_ ?_
            rotate_left
            · (intro w hSw; (try dsimp only at hSw); first | (go_simp; done) | (go_simp; with_reducible rfl))
            try simp only [Act.put, List.setIfInBounds_toArray, List.set_cons_zero, List.set_cons_succ]
            refine tk (oi := { dst := some 58, op := Op.indexAddr 26 (Operand.tmp 56) (Operand.tmp 57), type := 0, pos := "ref.go:147", after := #[{ on := 6, ground := Ground.data }, { on := 7, ground := Ground.data }], guard := none }) (v := ?_) 8 rfl ?_ ?_
            rotate_left
            · (intro w hSw; (try dsimp only at hSw); first | (go_simp; done) | (go_simp; with_reducible rfl))
            try simp only [Act.put, List.setIfInBounds_toArray, List.set_cons_zero, List.set_cons_succ]
            refine tk (oi := { dst := some 59, op := Op.fieldAddr 23 (Operand.tmp 58) 1, type := 0, pos := "ref.go:147", after := #[{ on := 8, ground := Ground.data }], guard := none }) (v := ?_) 9 rfl ?_ ?_
            rotate_left
            · (intro w hSw; (try dsimp only at hSw); first | (go_simp; done) | (go_simp; with_reducible rfl))
            try simp only [Act.put, List.setIfInBounds_toArray, List.set_cons_zero, List.set_cons_succ]
            refine tk (oi := { dst := some 60, op := Op.load 3 (Operand.tmp 59), type := 3, pos := "ref.go:147", after := #[{ on := 9, ground := Ground.data }], guard := none }) (v := ?_) 10 rfl ?_ ?_
            rotate_left
            · (intro w hSw; (try dsimp only at hSw); first | (go_simp; done) | (go_simp; with_reducible rfl))
            try simp only [Act.put, List.setIfInBounds_toArray, List.set_cons_zero, List.set_cons_succ]
            refine tk (oi := { dst := some 62, op := Op.move (Operand.tmp 8), type := 9, pos := "ref.go:147", after := #[], guard := none }) (v := ?_) 12 rfl ?_ ?_
            rotate_left
            · (intro w hSw; (try dsimp only at hSw); first | (go_simp; done) | (go_simp; with_reducible rfl))
            try simp only [Act.put, List.setIfInBounds_toArray, List.set_cons_zero, List.set_cons_succ]
            refine wpAnyH_ready (rs := [11]) (by kernel_rfl) (by simp) ?_
            refine AllReadyH.cons (o := { dst := some 61, op := Op.call { callee := Callee.value (Operand.func 21), args := #[Operand.tmp 55, Operand.tmp 60], argTypes := #[9, 3] }, type := 9, pos := "ref.go:147", after := #[{ on := 5, ground := Ground.data }, { on := 10, ground := Ground.data }], guard := none }) rfl (fun K hK => ?_) AllReadyH.nil
            go_simp
            refine (rinner_at e0.k e0.q wr.drew (by omega) (by omega) (by omega)).mono ?_
            rintro r w4 ⟨rfl, hb⟩
            have HB4 := Lib.hid (HBX.out.drew.trans hb)
            have HOP4 := Lib.hid (HOP.out.drew.bel hb)
            have HOK4 := Lib.hid (HOK.out.drew.bel hb)
            dsimp only
            refine hK.out _ _ ⟨cl10 hb hHeld.1, cl10 hb hHeld.2⟩ (fun hHeld => ?_)
            clear hb
            clear hK K
            try simp only [Act.put, List.setIfInBounds_toArray, List.set_cons_zero, List.set_cons_succ]
            obtain ⟨ik, hik⟩ : ∃ ik : ByteArray, ik = ⟨(innerL e0.k.data.toList e0.q.toNat).toArray⟩ := ⟨_, rfl⟩
            rw [← hik]
            have HIK := Lib.hid hik
            clear hik
            refine tk (oi := { dst := some 63, op := Op.build 81 #[(0, Operand.tmp 61), (1, Operand.tmp 62)], type := 81, pos := "ref.go:147", after := #[{ on := 11, ground := Ground.data }, { on := 12, ground := Ground.data }], guard := none }) (v := ?_) 13 rfl ?_ ?_
            rotate_left
            · (intro w hSw; (try dsimp only at hSw); first | (go_simp; done) | (go_simp; with_reducible rfl))
            try simp only [Act.put, List.setIfInBounds_toArray, List.set_cons_zero, List.set_cons_succ]
            refine wpAnyH_ready (rs := [14]) (by kernel_rfl) (by simp) ?_
            refine AllReadyH.cons (o := { dst := some 64, op := Op.buildSlice 79 1 #[(0, Operand.tmp 63)], type := 79, pos := "ref.go:147", after := #[{ on := 13, ground := Ground.data }], guard := none }) rfl (fun K hK => ?_) AllReadyH.nil
            go_simp
            have hb5 : Bel w4 (w4.alloc (.cells #[.string ik, .string vs] 81)) := (Bel.refl w4).alloc _
            have HLL := Lib.hid (heap_alloc_new w4 (.cells #[.string ik, .string vs] 81))
            have HB5 := Lib.hid (HB4.out.trans hb5)
            have HOP5 := Lib.hid (HOP4.out.bel hb5)
            have HOK5 := Lib.hid (HOK4.out.bel hb5)
            refine hK.out _ _ ⟨cl10 hb5 hHeld.1, cl10 hb5 hHeld.2⟩ (fun hHeld => ?_)
            clear hb5
            clear hK K
            try simp only [Act.put, List.setIfInBounds_toArray, List.set_cons_zero, List.set_cons_succ]
            obtain ⟨w5, hw5⟩ : ∃ x, x = w4.alloc (.cells #[.string ik, .string vs] 81) := ⟨_, rfl⟩
            rw [← hw5] at HLL HB5 HOP5 HOK5 hHeld ⊢
            clear hw5
            refine wpAnyH_ready (rs := [15]) (by kernel_rfl) (by simp) ?_
            refine AllReadyH.cons (o := { dst := some 65, op := Op.call { callee := Callee.builtin Builtin.append, args := #[Operand.tmp 50, Operand.tmp 64], argTypes := #[79, 79] }, type := 79, pos := "ref.go:147", after := #[{ on := 0, ground := Ground.data }, { on := 14, ground := Ground.data }, { on := 11, ground := Ground.chain }], guard := none }) rfl (fun K hK => ?_) AllReadyH.nil
            refine step_append_all (L := PL) rpairOk rfl (.tmp 50) (.tmp 64) rfl rfl HOP5.out [pairB e0] rfl (src_at [pairB e0] HLL.out (by rw [HIK.out, HVS.out]; rfl) rfl) (by simp only [List.length_singleton]; unfold maxLen; omega) (by simp only [List.length_singleton]; omega) HB5.out.size ?_
            intro v6 w6 ho6 hk6 _
            have HB6 := Lib.hid (show Bel w w6 from HB5.out.trans_below (hk6.own HB5.out.size (fun kk hkk => (HOP5.out.lt kk hkk).1)))
            have HOK6 := Lib.hid (HOK5.out.keep hk6 (fun kk hkk hm => by rw [Option.mem_toList] at hm; exact own_apart HOP5.out HOK5.out (by decide) kk hm hkk))
            obtain ⟨PN, hPN⟩ : ∃ PN, PL ++ [pairB e0] = PN := ⟨_, rfl⟩
            rw [hPN] at ho6
            obtain ⟨pp6, pcap6, hv6⟩ := ownG_len ho6
            rw [hv6] at ho6 ⊢
            clear hv6
            have HPNE := Lib.hid hPN
            clear hPN
            have HOP6 := Lib.hid ho6
            clear ho6 hk6
            refine hK.out _ _ ⟨cl10 HB6.out HC0.out.1, cl10 HB6.out HC0.out.2⟩ (fun hHeld => ?_)
            clear hK K
            try simp only [Act.put, List.setIfInBounds_toArray, List.set_cons_zero, List.set_cons_succ]
            refine tk (oi := { dst := some 5, op := Op.assign (Operand.tmp 65), type := 79, pos := "ref.go:147", after := #[{ on := 15, ground := Ground.data }, { on := 15, ground := Ground.chain }, { on := 0, ground := Ground.phase }, { on := 1, ground := Ground.phase }, { on := 2, ground := Ground.phase }, { on := 3, ground := Ground.phase }, { on := 4, ground := Ground.phase }, { on := 5, ground := Ground.phase }, { on := 6, ground := Ground.phase }, { on := 7, ground := Ground.phase }, { on := 8, ground := Ground.phase }, { on := 9, ground := Ground.phase }, { on := 10, ground := Ground.phase }, { on := 11, ground := Ground.phase }, { on := 12, ground := Ground.phase }, { on := 13, ground := Ground.phase }, { on := 14, ground := Ground.phase }, { on := 15, ground := Ground.phase }], guard := none }) (v := ?_) 16 rfl ?_ ?_
            rotate_left
            · (intro w hSw; (try dsimp only at hSw); first | (go_simp; done) | (go_simp; with_reducible rfl))
            try simp only [Act.put, List.setIfInBounds_toArray, List.set_cons_zero, List.set_cons_succ]
            refine wpAnyH_done (by kernel_rfl) ?_ _
            have HPN := Lib.hid (show PN.length = k + 1 by rw [← HPNE.out, List.length_append, HPLE.out]; rfl)
            rw [HPNE.out] at HMP
            replace c0 := cl10 HB6.out HC0.out.1
            clear c1 c2 c3 hHeld
            by_cases hk0 : k = 0
            · subst hk0
              go_wp2_with (fail)
              go_quiet (fail)
              obtain ⟨x7, hx7⟩ : ∃ x, x = w6.drewN nq := ⟨_, rfl⟩
              have hb7 : Bel w6 x7 := by rw [hx7]; exact (Bel.refl w6).drewN _
              have HB7 := Lib.hid (HB6.out.trans hb7)
              have HOP7 := Lib.hid (HOP6.out.bel hb7)
              have HOK7 := Lib.hid (HOK6.out.bel hb7)
              have d0 := cl10 hb7 c0
              rw [← hx7]
              clear hb7 hx7 c0
              have HKT := Lib.hid (show keysL (L.take (0 + 1)) = KL ++ [e0.k.data.toList] by rw [← HKL.out]; exact keys_take0 L (by omega) e0 HE0.out)
              go_wp2_with (at_builtin; refine stop_here ?_)
              refine go_on ?_
              have hll := heap_alloc_new x7 (.cells #[.string e0.k] 9)
              have hbl := (Bel.refl x7).alloc (.cells #[.string e0.k] 9)
              refine append_all strOk rfl _ _ rfl rfl (HOK7.out.bel hbl) [e0.k.data.toList] rfl (src_at [e0.k.data.toList] hll (str_lit _) rfl) (by simp only [List.length_singleton]; unfold maxLen; omega) (by simp only [List.length_singleton]; omega) (HB7.out.trans hbl).size ?_
              intro v8 w8 ho8 hk8 _
              have HB8 := Lib.hid (show Bel w w8 from (HB7.out.trans hbl).trans_below (hk8.own (HB7.out.trans hbl).size (fun kk hkk => ((HOK7.out.bel hbl).lt kk hkk).1)))
              have HOP8 := Lib.hid ((HOP7.out.bel hbl).keep hk8 (fun kk hkk hm => by rw [Option.mem_toList] at hm; exact own_apart (HOK7.out.bel hbl) (HOP7.out.bel hbl) (by decide) kk hm hkk))
              have HOK8 := Lib.hid ho8
              clear ho8 hk8 hll hbl
              go_wp2_with (fail)
              go_roundw
              case rel => exact ⟨0 + 1, hlt, by go_num, by rw [HMP.out]; exact HOP8.out, by rw [HKT.out]; exact HOK8.out, HB8.out⟩
              case measure => simp [intOf]; omega
            · obtain ⟨j, rfl⟩ : ∃ j, k = j + 1 := ⟨k - 1, by omega⟩
              have hjl : j < L.length := by omega
              obtain ⟨_, e1, ha1, he1, B1, O1, sp1, hb1, b0, b1, b2, b3⟩ := H.out.get hjl
              cases ha1
              have HE1 := Lib.hid he1
              have d1 := cl10 HB6.out b0
              have hji : (j : Int) < (L.length : Int) := by omega
              have hji2 : (j : Int) + 1 < (L.length : Int) := by omega
              have hj0 : (0 : Int) ≤ (j : Int) + 1 := by omega
              have hjw : IntKind.i64.wrap (j : Int) = j := by rw [IntKind.wrap_i64]; omega
              have hjw2 : IntKind.i64.wrap ((j : Int) + 1) = (j : Int) + 1 := by rw [IntKind.wrap_i64]; omega
              clear he1 b0 b1 b2 b3
              have HKT1 := Lib.hid (keys_take1 L j hlt e0 e1 HE0.out HE1.out)
              by_cases hsame : e0.k.data.toList = e1.k.data.toList
              · have hse : e1.k = e0.k := (ba_ext hsame).symm
                have HKT2 := Lib.hid (show keysL (L.take (j + 1 + 1)) = KL by rw [HKT1.out, if_pos hsame, List.append_nil, HKL.out])
                rw [hse] at d1
                clear hse hsame
                go_wp2_with (fail)
                go_quiet (fail)
                go_wp2_with (fail)
                go_roundw
                case rel => exact ⟨j + 1 + 1, hlt, by go_num, by rw [HMP.out]; exact (HOP6.out.drewN _), by rw [HKT2.out]; exact (HOK6.out.drewN _), HB6.out.drewN _⟩
                case measure => simp [intOf]; omega
              · have hneq : (e0.k.toList == e1.k.toList) = false := by rw [ByteArray.toList_eq, ByteArray.toList_eq, beq_eq_false_iff_ne]; exact hsame
                go_wp2_with (fail)
                go_quiet (fail)
                obtain ⟨x7, hx7⟩ : ∃ x, x = w6.drewN nq := ⟨_, rfl⟩
                have hb7 : Bel w6 x7 := by rw [hx7]; exact (Bel.refl w6).drewN _
                have HB7 := Lib.hid (HB6.out.trans hb7)
                have HOP7 := Lib.hid (HOP6.out.bel hb7)
                have HOK7 := Lib.hid (HOK6.out.bel hb7)
                have d0 := cl10 hb7 c0
                rw [← hx7]
                clear hb7 hx7 c0
                have HKT := Lib.hid (show keysL (L.take (j + 1 + 1)) = KL ++ [e0.k.data.toList] by rw [HKT1.out, if_neg hsame, HKL.out])
                go_wp2_with (at_builtin; refine stop_here ?_)
                refine go_on ?_
                have hll := heap_alloc_new x7 (.cells #[.string e0.k] 9)
                have hbl := (Bel.refl x7).alloc (.cells #[.string e0.k] 9)
                refine append_all strOk rfl _ _ rfl rfl (HOK7.out.bel hbl) [e0.k.data.toList] rfl (src_at [e0.k.data.toList] hll (str_lit _) rfl) (by simp only [List.length_singleton]; unfold maxLen; omega) (by simp only [List.length_singleton]; omega) (HB7.out.trans hbl).size ?_
                intro v8 w8 ho8 hk8 _
                have HB8 := Lib.hid (show Bel w w8 from (HB7.out.trans hbl).trans_below (hk8.own (HB7.out.trans hbl).size (fun kk hkk => ((HOK7.out.bel hbl).lt kk hkk).1)))
                have HOP8 := Lib.hid ((HOP7.out.bel hbl).keep hk8 (fun kk hkk hm => by rw [Option.mem_toList] at hm; exact own_apart (HOK7.out.bel hbl) (HOP7.out.bel hbl) (by decide) kk hm hkk))
                have HOK8 := Lib.hid ho8
                clear ho8 hk8 hll hbl
                go_wp2_with (fail)
                go_roundw
                case rel => exact ⟨j + 1 + 1, hlt, by go_num, by rw [HMP.out]; exact HOP8.out, by rw [HKT.out]; exact HOK8.out, HB8.out⟩
                case measure => simp [intOf]; omega
        · obtain rfl : k = L.length := by omega
          rw [List.take_length] at hop hok hkl hpl
          obtain ⟨pp, pcap, hpv, hpat⟩ := ownG_rpairs hop
          obtain ⟨kp, kcap, hkv, hkat⟩ := ownG_strs hok
          subst hpv hkv
          obtain ⟨hR, hRl, hRs⟩ := rows_ok HST.out h500
          have HPAT := Lib.hid hpat
          have HKAT := Lib.hid hkat
          have HPS := Lib.hid (show smallP 100000 (L.map pairB) from fun i hi => by
            have hm := List.getElem_mem hi
            obtain ⟨x, hx, hxe⟩ := List.mem_map.1 hm
            rw [← hxe]; exact pairB_small (stand_right HST.out x hx))
          have HPLL := Lib.hid (show (L.map pairB).length ≤ 1000 by rw [hpl]; omega)
          have HKL2 := Lib.hid (keys_len L)
          have HKM := Lib.hid (show strSmall maxLen (keysL L) from fun i hi => by
            obtain ⟨x, hx, hk⟩ := keys_mem (List.getElem_mem hi)
            have := (HS.out x hx).1
            have e1 : x.k.data.toList.length = x.k.size := rfl
            rw [hk, e1]; unfold maxLen; omega)
          obtain ⟨PL, hPL⟩ : ∃ PL, L.map pairB = PL := ⟨_, rfl⟩
          obtain ⟨KL, hKL⟩ : ∃ KL, keysL L = KL := ⟨_, rfl⟩
          rw [hPL] at HPAT HPS HPLL hR hRl hRs ⊢
          rw [hKL] at HKAT HKM HKL2 ⊢
          have HKLE := Lib.hid hKL
          clear hop hok hpat hkat hpl hkl htl hbx hPL hKL
          go_wp2_with (fail)
          refine (rsplit_at pp pcap PL 600 wr HPAT.out HPLL.out HPS.out).mono ?_
          obtain ⟨R, hRe⟩ : ∃ R, splitB 600 PL [] = R := ⟨_, rfl⟩
          rw [hRe] at hR hRl hRs ⊢
          rintro r w2 ⟨q, qc, rfl, hrw, hb⟩
          have HB2 := Lib.hid (HBX.out.trans hb)
          have HRW := Lib.hid hrw
          have HKA2 := Lib.hid (HKAT.out.bel hb)
          have HR := Lib.hid hR
          have HRS := Lib.hid hRs
          clear hrw hb hRe hR hRs
          go_wp2_with (fail)
          go_loopw [10, 11] (fun ov iv x => ∃ k : Nat, k ≤ R.length ∧ iv = .int .i64 k ∧ Own w2.heap.size x ov (framesL ((R.take k).map blkB)) ∧ (framesL ((R.take k).map blkB)).length ≤ 40020 * k ∧ (∀ y ∈ R.take k, (buildL (prs y)).2 = 0) ∧ Bel w2 x) (fun _ iv _ => R.length - (intOf iv).toNat)
          case atStart => exact ⟨0, Nat.zero_le _, rfl, Own.nil _ _, by simp [framesL], fun y hy => by simp at hy, Bel.refl w2⟩
          case round =>
            obtain ⟨k, hk, rfl, hown, hol, hall, hbx⟩ := hrel
            have HBX2 := Lib.hid hbx
            have HALL := Lib.hid hall
            obtain ⟨op, ocap, rfl⟩ := own_slice hown
            clear hall
            by_cases hlt : k < R.length
            · obtain ⟨a1, q1, c1, r1, rfl, hr1, hc1, hp1⟩ := (HRW.out.bel hbx).get hlt
              have hm1 : r1 ∈ R := by rw [hr1]; exact List.getElem_mem hlt
              obtain ⟨g1, g2, g3⟩ := HRS.out r1 hm1
              have HBT := Lib.hid (blk_take R k hlt r1 hr1)
              have HOT := Lib.hid (fun h0 => ok_take R k hlt r1 hr1 h0 HALL.out)
              have HET := Lib.hid (fun h0 => err_row HR.out k hlt r1 hr1 h0 HALL.out)
              have HP1 := Lib.hid hp1
              obtain ⟨OL, hOL⟩ : ∃ OL, framesL ((R.take k).map blkB) = OL := ⟨_, rfl⟩
              rw [hOL] at hown hol HBT ⊢
              have HO := Lib.hid hown
              have HG1 := Lib.hid g1
              have HG2 := Lib.hid g2
              have hol2 : OL.length ≤ 40020 * 501 := by have := Nat.mul_le_mul_left 40020 (show k ≤ 501 by omega); omega
              clear hown hp1 hbx hr1 hm1 hOL g1 g2
              go_wp2_with (fail)
              refine (rbuild_any q1 c1 r1 wr HP1.out HG1.out HG2.out).mono ?_
              unfold BuildPost
              rcases build_err2 g3 with h0 | h10
              · have hbo := build_ok (show buildL (prs r1) = ((buildL (prs r1)).1, 0) by rw [← h0])
                rw [h0]
                obtain ⟨bs, hbs⟩ : ∃ bs : ByteArray, bs = ⟨(buildL (prs r1)).1.toArray⟩ := ⟨_, rfl⟩
                have hbz : bs.size ≤ 40000 := by rw [hbs, mk_size10]; exact hbo.2.2
                have HBD := Lib.hid (show bs.data.toList = blkB r1 by rw [hbs]; rfl)
                rw [← hbs]
                have HOT2 := Lib.hid (HOT.out h0)
                rintro r w3 ⟨rfl, hb⟩
                have HB3 := Lib.hid (HBX2.out.trans hb)
                have HO3 := Lib.hid (HO.out.bel hb)
                clear hb hbs hbo h0 HOT HET
                go_wp2_with (fail)
                refine (rframe_ok bs w3 hbz).mono ?_
                unfold frameV
                obtain ⟨fr, hfr⟩ : ∃ fr : ByteArray, fr = ⟨(frameL bs.data.toList).toArray⟩ := ⟨_, rfl⟩
                have hfz : fr.size ≤ 40013 := by
                  rw [hfr, mk_size10, frame_len]
                  have := szN_le bs.data.toList.length
                  have e1 : bs.data.toList.length = bs.size := rfl
                  omega
                have HFD := Lib.hid (show fr.data.toList = frameL (blkB r1) by rw [hfr, ← HBD.out])
                rw [← hfr]
                rintro r w4 ⟨rfl, hb⟩
                have HB4 := Lib.hid (HB3.out.trans hb)
                have HO4 := Lib.hid (HO3.out.bel hb)
                clear hb hfr
                go_wp2_with (at_builtin; refine stop_here ?_)
                refine go_on ?_
                refine append_str rfl _ _ rfl rfl rfl HO4.out (by omega) HB4.out.size ?_
                intro v5 w5 ho5 hk5 _
                have HB5 := Lib.hid (show Bel w2 w5 from HB4.out.trans_below (hk5.own HB4.out.size (fun kk hkk => (HO4.out.lt kk hkk).1)))
                rw [HFD.out] at ho5
                have hn5 : (OL ++ frameL (blkB r1)).length ≤ 40020 * (k + 1) := by
                  have : (frameL (blkB r1)).length = fr.size := by rw [← HFD.out]; rfl
                  rw [List.length_append]
                  omega
                rw [← HBT.out] at ho5 hn5
                have HO5 := Lib.hid ho5
                have HN5 := Lib.hid hn5
                clear ho5 hk5 hn5
                go_wp2_with (fail)
                go_roundw
                case rel => exact ⟨k + 1, hlt, by go_num, HO5.out, HN5.out, HOT2.out, HB5.out⟩
                case measure => simp [intOf]; omega
              · have hre := HET.out (by rw [h10]; decide)
                rw [h10] at hre
                have HV := Lib.hid (buildV_err (e := 10) (by rw [buildT_err HNE.out HST.out h500 (by rw [hre]; decide), hre]))
                rw [h10]
                obtain ⟨bs, hbs⟩ : ∃ bs : ByteArray, bs = ⟨(buildL (prs r1)).1.toArray⟩ := ⟨_, rfl⟩
                rw [← hbs]
                rintro r w3 ⟨rfl, hb⟩
                have HB3 := Lib.hid (HBX2.out.trans hb)
                clear hb hbs hre h10
                go_wp2_with (fail)
                go_ret2
                exact ⟨by rw [HV.out]; rfl, HB2.out.trans HB3.out⟩
            · obtain rfl : k = R.length := by omega
              rw [List.take_length] at hown hol HALL
              have HZ := Lib.hid (err_zero HR.out HALL.out)
              have HV := Lib.hid (buildT_ok HNE.out HST.out h500 HZ.out)
              have HFP := Lib.hid (file_parts L)
              have HFL := Lib.hid (filter_len (l := L) h500)
              have HFO := Lib.hid (foot_len (l := L) h500)
              rw [blocks_row HR.out] at hown hol
              have hol2 : (framesL (blocksL L)).length ≤ 40020 * 501 := by have := Nat.mul_le_mul_left 40020 hRl; omega
              rw [List.take_length, show framesL (R.map blkB) = framesL (blocksL L) by rw [blocks_row HR.out]]
              obtain ⟨OL, hOL⟩ : ∃ OL, framesL (blocksL L) = OL := ⟨_, rfl⟩
              rw [hOL] at hown hol2 HFP ⊢
              have HO := Lib.hid hown
              clear hown hol hbx hOL
              go_wp2_with (fail)
              refine (rfbuild_any kp kcap KL wr (HKA2.out.bel HBX2.out) (by have := HKL2.out; omega) HKM.out).mono ?_
              rw [← HKLE.out]
              obtain ⟨ft, hft⟩ : ∃ ft : ByteArray, ft = ⟨(buildF (keysL L)).toArray⟩ := ⟨_, rfl⟩
              have hftz : ft.size ≤ 40000 := by rw [hft, mk_size10]; exact HFL.out
              have hftd : ft.data.toList = buildF (keysL L) := by rw [hft]
              rw [← hft]
              rw [← hftd] at HFP
              rintro r w3 ⟨rfl, hb⟩
              have HB3 := Lib.hid (HBX2.out.trans hb)
              have HO3 := Lib.hid (HO.out.bel hb)
              clear hb hft hftd
              go_wp2_with (fail)
              refine (rframe_ok ft w3 hftz).mono ?_
              unfold frameV
              obtain ⟨ff, hff⟩ : ∃ ff : ByteArray, ff = ⟨(frameL ft.data.toList).toArray⟩ := ⟨_, rfl⟩
              have hffz : ff.size ≤ 40013 := by
                rw [hff, mk_size10, frame_len]
                have := szN_le ft.data.toList.length
                have e1 : ft.data.toList.length = ft.size := rfl
                omega
              have hffd : ff.data.toList = frameL ft.data.toList := by rw [hff]
              rw [← hff]
              rw [← hffd] at HFP
              rintro r w4 ⟨rfl, hb⟩
              have HB4 := Lib.hid (HB3.out.trans hb)
              have HO4 := Lib.hid (HO3.out.bel hb)
              clear hb hff hffd hftz
              go_wp2_with (fail)
              refine (rfoot_any p cap L w4 (H.out.bel (HB2.out.trans HB4.out)) (by omega) (fun x hx => by have := (HS.out x hx).2; omega)).mono ?_
              obtain ⟨fo, hfo⟩ : ∃ fo : ByteArray, fo = ⟨(footL L).toArray⟩ := ⟨_, rfl⟩
              have hfoz : fo.size ≤ 40000 := by rw [hfo, mk_size10]; exact HFO.out
              have hfod : fo.data.toList = footL L := by rw [hfo]
              rw [← hfo]
              rw [← hfod] at HFP
              rintro r w5 ⟨rfl, hb⟩
              have HB5 := Lib.hid (HB4.out.trans hb)
              have HO5 := Lib.hid (HO4.out.bel hb)
              clear hb hfo hfod
              go_wp2_with (fail)
              refine (rframe_ok fo w5 hfoz).mono ?_
              unfold frameV
              obtain ⟨fg, hfg⟩ : ∃ fg : ByteArray, fg = ⟨(frameL fo.data.toList).toArray⟩ := ⟨_, rfl⟩
              have hfgz : fg.size ≤ 40013 := by
                rw [hfg, mk_size10, frame_len]
                have := szN_le fo.data.toList.length
                have e1 : fo.data.toList.length = fo.size := rfl
                omega
              have hfgd : fg.data.toList = frameL fo.data.toList := by rw [hfg]
              rw [← hfg]
              rw [← hfgd] at HFP
              rintro r w6 ⟨rfl, hb⟩
              have HB6 := Lib.hid (HB5.out.trans hb)
              have HO6 := Lib.hid (HO5.out.bel hb)
              clear hb hfg hfgd hfoz
              have hcv := own_string HO6.out
              obtain ⟨ob, hob⟩ : ∃ ob : ByteArray, ob = ⟨OL.toArray⟩ := ⟨_, rfl⟩
              have hobz : ob.size ≤ 40020 * 501 := by rw [hob, mk_size10]; exact hol2
              have HFIN := Lib.hid (show ob ++ ff ++ fg = ⟨(fileL L).toArray⟩ by
                refine ba_back _ _ ?_
                rw [cat_list, cat_list, hob]
                exact HFP.out.symm)
              rw [← hob] at hcv
              clear hob
              have hs1 : (ob ++ ff).size ≤ 40020 * 501 + 40013 := by rw [cat_size]; omega
              go_wp2_with (fail)
              go_ret2
              exact ⟨by unfold buildV; rw [HV.out, ← HFIN.out]; rfl, HB2.out.trans HB6.out⟩
    · have h500' : ¬ (L.length : Int) ≤ 500 := by omega
      have HV := Lib.hid (buildV_err (buildT_many h0 HST.out (by omega)))
      go_wp2_with (fail)
      go_ret2
      exact ⟨by rw [HV.out]; rfl, HB.out⟩
end Go.Proofs.YtllcdhbchcpdoaaGreatDoor
/- table.entryOf at an entry's pair. -/
namespace Go.Proofs.YtllcdhbchcpdoaaGreatDoor
open Go.RowKit Go.Deep

theorem one_head (D : ByteArray) : ((((⟨#[1]⟩ ++ D : ByteArray)).extract 0 1).toList == (⟨#[1]⟩ : ByteArray).toList) = true := by
  rw [ByteArray.toList_eq, ByteArray.toList_eq, ByteArray.data_extract, Array.toList_extract, List.extract_eq_take_drop]
  simp
theorem one_rest (D : ByteArray) : (⟨#[1]⟩ ++ D : ByteArray).extract 1 (⟨#[1]⟩ ++ D : ByteArray).size = D := by
  apply ba_ext
  rw [ByteArray.data_extract, Array.toList_extract, List.extract_eq_take_drop]
  simp
  refine List.take_of_length_le ?_
  have h1 : D.data.toList.length = D.size := rfl
  have h2 : (⟨#[1]⟩ : ByteArray).size = 1 := rfl
  omega
set_option maxRecDepth 20000 in
theorem cutlite_any (s D : ByteArray) (w : World) (h : s = ⟨#[1]⟩ ++ D) (hs : s.size ≤ 1000000) :
    Calls Tryz.prog 129 #[.string s, .string ⟨#[1]⟩] w fun e w' => e = .returned (.tuple #[.string D, .bool true]) ∧ Bel w w' := by
  have h1 : (⟨#[1]⟩ : ByteArray).size ≤ s.size := by rw [h, ByteArray.size_append]; omega
  have h1i : (1 : Int) ≤ (s.size : Int) := by have : (1 : Nat) ≤ s.size := h1; omega
  have HH := Lib.hid (show ((s.extract 0 (⟨#[1]⟩ : ByteArray).size).toList == (⟨#[1]⟩ : ByteArray).toList) = true by rw [h]; exact one_head D)
  have HR := Lib.hid (show s.extract 1 s.size = D by rw [h]; exact one_rest D)
  clear h
  go_enter Tryz.func129, Tryz.ntmps129
  go_wp2_with (fail)
  refine (prefix0_any s ⟨#[1]⟩ w hs h1).mono ?_
  rw [HH.out]
  rintro e w1 ⟨rfl, hb⟩
  go_wp2_with (fail)
  go_ret2
  exact ⟨by rw [← HR.out]; rfl, hb⟩
set_option maxRecDepth 20000 in
theorem cutp_any (s D : ByteArray) (w : World) (h : s = ⟨#[1]⟩ ++ D) (hs : s.size ≤ 1000000) :
    Calls Tryz.prog 111 #[.string s, .string ⟨#[1]⟩] w fun e w' => e = .returned (.tuple #[.string D, .bool true]) ∧ Bel w w' := by
  have H := Lib.hid h; clear h
  go_enter Tryz.func111, Tryz.ntmps111
  go_wp2_with (fail)
  refine (cutlite_any s D w H.out hs).mono ?_
  rintro e w1 ⟨rfl, hb⟩
  go_wp2_with (fail)
  go_ret2
  exact ⟨rfl, hb⟩
set_option maxHeartbeats 2000000 in
set_option maxRecDepth 20000 in
theorem entryof_any (e : EB) (K V : ByteArray) (w : World) (hM : MaxOk w) (hr : rightB e = true) (hK : K.data.toList = (pairL e).k) (hV : V.data.toList = (pairL e).v) :
    Calls Tryz.prog 80 #[.agg #[.string K, .string V]] w fun r w' => r = .returned (.tuple #[.agg #[.string e.k, .int .i64 e.q, .bool e.d, .string e.v], .bool true]) ∧ Bel w w' := by
  obtain ⟨r1, r2, r3, r4, -, -⟩ := right_parts hr
  obtain ⟨q, hq⟩ : ∃ q : Nat, e.q = q := ⟨e.q.toNat, by omega⟩
  have hKz : K.size ≤ 100000 := by
    have h1 := (pair_small hr).1
    have h2 : K.data.toList.length = K.size := rfl
    rw [hK] at h2; omega
  have hVz : V.size ≤ 100000 := by
    have h1 := (pair_small hr).2
    have h2 : V.data.toList.length = V.size := rfl
    rw [hV] at h2; omega
  have HIS := Lib.hid (show OuterIs K.data.toList e.k.data.toList q from ⟨by omega, by rw [hK, ← Int.toNat_natCast q, ← hq]; rfl⟩)
  have HD := Lib.hid (show e.d = true → e.v = ⟨#[]⟩ from right_dead hr)
  have hVd : V = ⟨(recL e).toArray⟩ := by
    apply ba_ext; rw [hV]; rfl
  obtain ⟨w1, hw1⟩ : ∃ w1, w1 = w.alloc (.cells #[.string K, .string V] 121) := ⟨_, rfl⟩
  obtain ⟨w2, hw2⟩ : ∃ w2, w2 = w1.alloc (.cells #[.string ⟨#[]⟩, .int .i64 0, .bool false, .string ⟨#[]⟩] 23) := ⟨_, rfl⟩
  have hz1 : w1.heap.size = w.heap.size + 1 := by rw [hw1]; simp
  have hb1 : Bel w w1 := by rw [hw1]; exact (Bel.refl w).alloc _
  have hb2 : Bel w1 w2 := by rw [hw2]; exact (Bel.refl w1).alloc _
  have c0 := cell_later hb2 (show w1.cell? ⟨w.heap.size, 0, none⟩ = some (.string K) by rw [hw1]; exact (World.cell?_alloc_new ..).trans (by simp))
  have c1 := cell_later hb2 (show w1.cell? ⟨w.heap.size, 1, none⟩ = some (.string V) by rw [hw1]; exact (World.cell?_alloc_new ..).trans (by simp))
  have z0 : w2.cell? ⟨w.heap.size + 1, 0, none⟩ = some (.string ⟨#[]⟩) := by rw [hw2, ← hz1]; exact (World.cell?_alloc_new ..).trans (by simp)
  have z1 : w2.cell? ⟨w.heap.size + 1, 1, none⟩ = some (.int .i64 0) := by rw [hw2, ← hz1]; exact (World.cell?_alloc_new ..).trans (by simp)
  have z2 : w2.cell? ⟨w.heap.size + 1, 2, none⟩ = some (.bool false) := by rw [hw2, ← hz1]; exact (World.cell?_alloc_new ..).trans (by simp)
  have z3 : w2.cell? ⟨w.heap.size + 1, 3, none⟩ = some (.string ⟨#[]⟩) := by rw [hw2, ← hz1]; exact (World.cell?_alloc_new ..).trans (by simp)
  have hbk : w2.heap[w.heap.size + 1]? = some (.cells #[.string ⟨#[]⟩, .int .i64 0, .bool false, .string ⟨#[]⟩] 23 (0, 0)) := by rw [hw2, ← hz1]; exact heap_alloc_new w1 _
  have zf : ∀ j, w2.frozen? ⟨w.heap.size + 1, j, none⟩ = false := fun j => by simp [World.frozen?, hbk]
  have hlt : w.heap.size + 1 < w2.heap.size := by rw [hw2, ← hz1]; simp
  have HB2 := Lib.hid (hb1.trans hb2)
  have HM2 := Lib.hid (hM.bel HB2.out)
  have HVD := Lib.hid hVd
  clear hb1 hb2 hK hV hr hM hbk hVd
  go_enter Tryz.func80, Tryz.ntmps80
  go_wp2_with (fail)
  rw [← hw1]
  try rw [hz1]
  rw [← hw2]
  clear hw1 hw2 hz1
  refine (pouter_any K w2 hKz HM2.out).mono ?_
  rintro r w3 ⟨ho, hb3⟩
  obtain rfl : r = .returned (.tuple #[.string e.k, .int .i64 (q : Nat), .bool true]) := by
    rcases ho with ⟨k, n, hk, rfl⟩ | ⟨hno, _⟩
    · obtain ⟨rfl, rfl⟩ := outer_one hk HIS.out
      rfl
    · exact absurd ⟨_, _, HIS.out⟩ hno
  clear ho
  have d1 := cell_later hb3 c1
  have y0 := cell_later hb3 z0
  have y1 := cell_later hb3 z1
  have y2 := cell_later hb3 z2
  have y3 := cell_later hb3 z3
  have f0 := (hb3.frozen (w.heap.size + 1) 0 hlt).trans (zf 0)
  have f1 := (hb3.frozen (w.heap.size + 1) 1 hlt).trans (zf 1)
  have f2 := (hb3.frozen (w.heap.size + 1) 2 hlt).trans (zf 2)
  have f3 := (hb3.frozen (w.heap.size + 1) 3 hlt).trans (zf 3)
  have HB3 := Lib.hid (HB2.out.trans hb3)
  have hlt3 : w.heap.size + 1 < w3.heap.size := Nat.lt_of_lt_of_le hlt hb3.size
  clear hb3 c0 c1 z0 z1 z2 z3 zf hlt
  have HQ := Lib.hid hq
  cases hd : e.d with
  | true =>
    have hV0 : V = ⟨#[0]⟩ := by rw [HVD.out, rec_dead hd]
    have HE := Lib.hid (HD.out hd)
    subst hV0
    have HDD := Lib.hid hd
    clear hd hq
    have hself : ((⟨#[0]⟩ : ByteArray).toList == (⟨#[0]⟩ : ByteArray).toList) = true := beq_self_eq_true _
    go_wp2_with (fail)
    refine bodyPost_ret (v := .tuple #[.agg #[.string e.k, .int .i64 (q : Nat), .bool true, .string ⟨#[]⟩], .bool true]) (by simp [results, Tryz.results80, go_sem, y0, y1, y2, y3, f0, f1, f2, f3]) rfl ⟨by rw [HE.out, HQ.out, HDD.out], ?_⟩
    repeat' first | exact HB3.out | refine Bel.setCell ?_ (by simp) _ | refine Bel.drewN ?_ _
  | false =>
    have HV0 := Lib.hid (show V = ⟨#[1]⟩ ++ e.v by
      rw [HVD.out, rec_live hd]; apply ByteArray.ext; simp)
    have hne : (V.toList == [0]) = false := by
      rw [ByteArray.toList_eq, beq_eq_false_iff_ne, HVD.out, rec_live hd]
      simp
    have HDD := Lib.hid hd
    clear hd hq
    go_wp2_with (fail)
    refine (cutp_any V e.v w3 HV0.out (by omega)).mono ?_
    rintro r w4 ⟨rfl, hb4⟩
    have x0 := cell_later hb4 y0
    have x1 := cell_later hb4 y1
    have x2 := cell_later hb4 y2
    have x3 := cell_later hb4 y3
    have g0 := (hb4.frozen (w.heap.size + 1) 0 hlt3).trans f0
    have g1 := (hb4.frozen (w.heap.size + 1) 1 hlt3).trans f1
    have g2 := (hb4.frozen (w.heap.size + 1) 2 hlt3).trans f2
    have g3 := (hb4.frozen (w.heap.size + 1) 3 hlt3).trans f3
    have HB4 := Lib.hid (HB3.out.trans hb4)
    clear hb4 y0 y1 y2 y3 f0 f1 f2 f3 d1
    go_wp2_with (fail)
    refine bodyPost_ret (v := .tuple #[.agg #[.string e.k, .int .i64 (q : Nat), .bool false, .string e.v], .bool true]) (by simp [results, Tryz.results80, go_sem, x0, x1, x2, x3, g0, g1, g2, g3]) rfl ⟨by rw [HQ.out, HDD.out], ?_⟩
    repeat' first | exact HB4.out | refine Bel.setCell ?_ (by simp) _ | refine Bel.drewN ?_ _
end Go.Proofs.YtllcdhbchcpdoaaGreatDoor
/- table.pairs. -/
namespace Go.Proofs.YtllcdhbchcpdoaaGreatDoor
open Go.RowKit Go.Deep

theorem infoPair10 : (Tryz.prog.info? 121).map (fun i => (i.zero, i.size, i.bytes)) = some (some (.agg #[.string ⟨#[]⟩, .string ⟨#[]⟩]), 2, 32) := by kernel_rfl
theorem run_make_pairs (n : Nat) (hn : n ≤ 100000) (w : World) :
    (Instr.makeSlice 102 (.int .i64 (n : Int)) (.int .i64 (n : Int))).run Tryz.prog w = .ok (.slice (some ⟨w.heap.size, 0, none⟩) n n) (w.alloc (.cells (madeCells #[.string ⟨#[]⟩, .string ⟨#[]⟩] (n * 2)) 121)) := by
  obtain ⟨i, hi, hzz⟩ := Option.map_eq_some_iff.1 infoPair10
  simp only [Prod.mk.injEq] at hzz
  obtain ⟨hz, hs, hb⟩ := hzz
  have hr := run_make (P := Tryz.prog) w 102 121 i _ Tryz.underlying102 hi hz .i64 .i64 n n (by omega) (Int.le_refl _) (by rw [hb]; omega) (by omega)
  rw [hs] at hr
  simp only [Int.toNat_natCast] at hr
  exact hr
def pcell (L : List EB) (k t : Nat) : Value := if t / 2 < k then (match L[t / 2]? with | none => .string ⟨#[]⟩ | some e => if t % 2 = 0 then .string (pairB e).k else .string (pairB e).v) else .string ⟨#[]⟩
theorem pcell_zero (L : List EB) (t : Nat) : pcell L 0 t = .string ⟨#[]⟩ := if_neg (by omega)
theorem pcell_k {L : List EB} {k i : Nat} {e : EB} (hi : i < k) (he : L[i]? = some e) : pcell L k (i * 2) = .string (pairB e).k := by
  unfold pcell
  rw [if_pos (by omega), show i * 2 / 2 = i by omega, he]
  exact if_pos (by omega)
theorem pcell_v {L : List EB} {k i : Nat} {e : EB} (hi : i < k) (he : L[i]? = some e) : pcell L k (i * 2 + 1) = .string (pairB e).v := by
  unfold pcell
  rw [if_pos (by omega), show (i * 2 + 1) / 2 = i by omega, he]
  exact if_neg (by omega)
theorem pcell_next {L : List EB} {k : Nat} {e : EB} (he : L[k]? = some e) (t : Nat) : pcell L (k + 1) t = if t = k * 2 + 1 then .string (pairB e).v else if t = k * 2 then .string (pairB e).k else pcell L k t := by
  by_cases h1 : t = k * 2 + 1
  · subst h1; rw [if_pos rfl, pcell_v (by omega) he]
  · rw [if_neg h1]
    by_cases h2 : t = k * 2
    · subst h2; rw [if_pos rfl, pcell_k (by omega) he]
    · rw [if_neg h2]
      unfold pcell
      by_cases h3 : t / 2 < k
      · rw [if_pos h3, if_pos (by omega)]
      · rw [if_neg h3, if_neg (by omega)]
theorem pairs_of_row {w : World} {b : Nat} {L : List EB} (h : w.rowIs b 121 (L.length * 2) (pcell L L.length)) : PairsAt w (some ⟨b, 0, none⟩) (L.map pairB) := by
  intro i hi
  have hi' : i < L.length := by simpa using hi
  have he : L[i]? = some L[i] := List.getElem?_eq_getElem hi'
  refine ⟨_, b, i * 2, none, rfl, ?_, ?_, ?_⟩
  · by_cases h0 : i * 2 = 0
    · rw [h0]; rfl
    · simp [Addr.add, h0]
  · rw [h.cell (by omega), pcell_k hi' he, List.getElem_map]
  · rw [h.cell (by omega), pcell_v hi' he, List.getElem_map]
theorem pair_key (e : EB) (q : Nat) (h : e.q = q) : (pairB e).k = ⟨(innerL e.k.data.toList q).toArray⟩ := by
  show (⟨(innerL e.k.data.toList e.q.toNat).toArray⟩ : ByteArray) = _
  rw [h, Int.toNat_natCast]
theorem pair_dead {e : EB} (h : e.d = true) : (pairB e).v = ⟨#[0]⟩ := by
  show (⟨(recL e).toArray⟩ : ByteArray) = _
  unfold recL
  rw [h]; rfl
theorem pair_live {e : EB} (h : e.d = false) : (pairB e).v = ⟨#[1]⟩ ++ e.v := by
  show (⟨(recL e).toArray⟩ : ByteArray) = _
  unfold recL
  rw [h]
  apply ByteArray.ext
  simp
theorem row_bel {w x : World} {b n : Nat} {T : TypeId} {f : Nat → Value} (h : w.rowIs b T n f) (hb : Bel w x) : x.rowIs b T n f := by
  obtain ⟨c, h1, h2⟩ := h
  exact ⟨c, (Below.block hb b (Array.getElem?_eq_some_iff.1 h1).1).trans h1, h2⟩
set_option maxHeartbeats 1000000 in
set_option maxRecDepth 20000 in
theorem pairs_any (p : Option Addr) (cap : Nat) (L : List EB) (w : World) (h : EntsAt w p L) (hL : L.length ≤ 100000) (hr : ∀ e ∈ L, rightB e = true) :
    Calls Tryz.prog 63 #[.slice p L.length cap] w fun e w' => ∃ b, e = .returned (.slice (some ⟨b, 0, none⟩) L.length L.length) ∧ PairsAt w' (some ⟨b, 0, none⟩) (L.map pairB) ∧ Bel w w' := by
  have H := Lib.hid h; clear h
  have HR := Lib.hid hr; clear hr
  have hmk := run_make_pairs L.length hL
  go_enter Tryz.func63, Tryz.ntmps63
  go_wp2_with (fail)
  go_loopw [12] (fun iv x => ∃ k : Nat, k ≤ L.length ∧ iv = .int .i64 k ∧ x.rowIs w.heap.size 121 (L.length * 2) (pcell L k) ∧ Bel w x) (fun iv _ => L.length - (intOf iv).toNat)
  case atStart =>
    refine ⟨0, Nat.zero_le _, rfl, ?_, (Bel.refl w).alloc _⟩
    have h1 := World.rowIs_alloc w (madeCells #[.string ⟨#[]⟩, .string ⟨#[]⟩] (L.length * 2)) 121 (pcell L 0) (fun i hi => by
      rw [size_madeCells] at hi
      rw [pcell_zero]
      have : i % 2 = 0 ∨ i % 2 = 1 := by omega
      rcases this with e | e <;> simp [madeCells, hi, e])
    rw [size_madeCells] at h1
    exact h1
  case round =>
    obtain ⟨k, hk, rfl, hrow, hb⟩ := hrel
    have HB := Lib.hid hb
    by_cases hlt : k < L.length
    · obtain ⟨a, e0, rfl, he0, B, O, sp, ha, c0, c1, c2, c3⟩ := (H.out.bel hb).get hlt
      have hright := HR.out e0 (by rw [he0]; exact List.getElem_mem hlt)
      obtain ⟨r1, r2, r3, r4, -, -⟩ := right_parts hright
      obtain ⟨q, hq⟩ : ∃ q : Nat, e0.q = q := ⟨e0.q.toNat, by omega⟩
      have hE : L[k]? = some e0 := by rw [he0]; exact List.getElem?_eq_getElem hlt
      have HX := Lib.hid (pcell_next hE)
      have HKY := Lib.hid (pair_key e0 q hq)
      have HROW := Lib.hid hrow
      have hkz : e0.k.size ≤ 100000 := by omega
      have hvz : e0.v.size ≤ 25000 := r4
      have hki : (k : Int) < (L.length : Int) := by omega
      have hqz : q ≤ 9223372036854775807 := by omega
      rw [hq] at c1
      clear hb hrow r1 r2 r3 r4 he0 hE hright
      cases hd : e0.d with
      | true =>
        have HPV := Lib.hid (pair_dead hd)
        rw [hd] at c2
        clear hd
        go_wp2_with (fail)
        refine (pinner_any e0.k q _ hkz hqz).mono ?_
        rw [← HKY.out]
        rintro r w2 ⟨rfl, hb2⟩
        have HB2 := Lib.hid (show Bel wr w2 from Bel.trans ((Bel.refl wr).alloc _) hb2)
        clear hb2
        obtain ⟨KB, hKB⟩ : ∃ KB, KB = (pairB e0).k := ⟨_, rfl⟩
        rw [← hKB]
        have HKB := Lib.hid hKB
        clear hKB
        have HR2 := Lib.hid (row_bel HROW.out HB2.out)
        have hf0 := HR2.out.frozen (k * 2)
        have hf1 := HR2.out.frozen (k * 2 + 1)
        have hp0 := HR2.out.cell (i := k * 2) (by omega)
        have hp1 := HR2.out.cell (i := k * 2 + 1) (by omega)
        go_wp2_with (fail)
        go_roundw
        case rel =>
          refine ⟨k + 1, hlt, by go_num, ?_, ((HB.out.trans HB2.out).setCell (Nat.le_refl _) _).setCell (Nat.le_refl _) _⟩
          refine ((HR2.out.set (k * 2) _).set (k * 2 + 1) _).congr fun t ht => ?_
          rw [HX.out, HPV.out, HKB.out]
        case measure => simp [intOf]; omega
      | false =>
        have HPV := Lib.hid (pair_live hd)
        rw [hd] at c2
        clear hd
        go_wp2_with (fail)
        refine (pinner_any e0.k q _ hkz hqz).mono ?_
        rw [← HKY.out]
        rintro r w2 ⟨rfl, hb2⟩
        have HB2 := Lib.hid (show Bel wr w2 from Bel.trans ((Bel.refl wr).alloc _) hb2)
        clear hb2
        obtain ⟨KB, hKB⟩ : ∃ KB, KB = (pairB e0).k := ⟨_, rfl⟩
        rw [← hKB]
        have HKB := Lib.hid hKB
        clear hKB
        have HR2 := Lib.hid (row_bel HROW.out HB2.out)
        have hf0 := HR2.out.frozen (k * 2)
        have hf1 := HR2.out.frozen (k * 2 + 1)
        have hp0 := HR2.out.cell (i := k * 2) (by omega)
        have hp1 := HR2.out.cell (i := k * 2 + 1) (by omega)
        go_wp2_with (fail)
        go_roundw
        case rel =>
          refine ⟨k + 1, hlt, by go_num, ?_, ((HB.out.trans HB2.out).setCell (Nat.le_refl _) _).setCell (Nat.le_refl _) _⟩
          refine ((HR2.out.set (k * 2) _).set (k * 2 + 1) _).congr fun t ht => ?_
          rw [HX.out, HPV.out, HKB.out]
        case measure => simp [intOf]; omega
    · obtain rfl : k = L.length := by omega
      have HROW := Lib.hid hrow
      clear hb hrow
      go_wp2_with (fail)
      go_ret
      exact ⟨w.heap.size, rfl, pairs_of_row HROW.out, HB.out⟩
end Go.Proofs.YtllcdhbchcpdoaaGreatDoor
/- table.keys. -/
namespace Go.Proofs.YtllcdhbchcpdoaaGreatDoor
open Go.RowKit Go.Deep

theorem infoStr10 : (Tryz.prog.info? 9).map (fun i => (i.zero, i.size, i.bytes)) = some (some (.string ⟨#[]⟩), 1, 16) := by kernel_rfl
def kcell (L : List EB) (k t : Nat) : Value := if t < k then (match L[t]? with | none => .string ⟨#[]⟩ | some e => .string e.k) else .string ⟨#[]⟩
theorem kcell_next {L : List EB} {k : Nat} {e : EB} (he : L[k]? = some e) (t : Nat) : kcell L (k + 1) t = if t = k then .string e.k else kcell L k t := by
  unfold kcell
  by_cases h1 : t = k
  · subst h1; rw [if_pos (by omega), if_pos rfl, he]
  · rw [if_neg h1]
    by_cases h2 : t < k
    · rw [if_pos h2, if_pos (by omega)]
    · rw [if_neg h2, if_neg (by omega)]
theorem kcell_all {L : List EB} {t : Nat} (h : t < L.length) : kcell L L.length t = .string L[t].k := by
  unfold kcell
  rw [if_pos h, List.getElem?_eq_getElem h]
def keyL (L : List EB) : List (List UInt8) := L.map fun e => e.k.data.toList
theorem holds_keys {w : World} {b : Nat} {L : List EB} (h : w.rowIs b 9 L.length (kcell L L.length)) : Sort.Holds encStr w b 0 (keyL L).toArray := by
  intro j hj
  have hj' : j < L.length := by simpa [keyL] using hj
  rw [Nat.zero_add]
  refine ⟨?_, h.frozen j⟩
  rw [h.cell hj', kcell_all hj', getElem!_pos _ j hj]
  simp [keyL, encStr]
theorem bel_put {w0 w : World} {b q : Nat} {d : Array (List UInt8)} (h : Bel w0 w) (hb : w0.heap.size ≤ b) : Bel w0 (Sort.putRow encStr (Sort.ahead w q) b 0 d) := by
  refine Bel.trans_below h ⟨rfl, rfl, rfl, ?_, fun k hk => ?_⟩
  · have := Below.size h
    (simp [Sort.putRow, Sort.mapBlock, Sort.ahead]; try exact this)
  · have hne : ¬ b = k := by omega
    simp [Sort.putRow, Sort.mapBlock, Sort.ahead, Array.getElem?_modify, hne]
theorem strs_put {w : World} {b q : Nat} {d d' : Array (List UInt8)} (h : Sort.Holds encStr w b 0 d) (hs : d'.size = d.size) (K : List (List UInt8)) (hK : ∀ i (hi : i < K.length), ∃ h : i < d'.size, d'[i] = K[i]) :
    StrsAt (Sort.putRow encStr (Sort.ahead w q) b 0 d') (some ⟨b, 0, none⟩) K := by
  have h1 := Sort.holds_putRow encStr (Sort.ahead w q) b 0 d d' h hs
  intro i hi
  obtain ⟨hi', he⟩ := hK i hi
  refine ⟨_, rfl, ?_⟩
  have := (h1 i hi').1
  rw [getElem!_pos d' i hi', Nat.zero_add, he] at this
  have ea : (⟨b, 0, none⟩ : Addr).add i = ⟨b, i, none⟩ := by cases i <;> simp [Addr.add]
  rw [ea]; exact this
set_option maxHeartbeats 1000000 in
set_option maxRecDepth 20000 in
theorem keys_any (p : Option Addr) (cap : Nat) (L : List EB) (w : World) (h : EntsAt w p L) (hL : L.length ≤ 100000) :
    Calls Tryz.prog 66 #[.slice p L.length cap] w fun e w' => ∃ b c, e = .returned (.slice (some ⟨b, 0, none⟩) (keysL L).length c) ∧ StrsAt w' (some ⟨b, 0, none⟩) (keysL L) ∧ Bel w w' := by
  have H := Lib.hid h; clear h
  have hmk := run_make_row' (P := Tryz.prog) 67 9 (.string ⟨#[]⟩) 16 Tryz.underlying67 infoStr10 rfl .i64 .i64 L.length (by omega) (by omega) w
  go_enter Tryz.func66, Tryz.ntmps66
  go_wp2_with (fail)
  go_loopw [11] (fun iv x => ∃ k : Nat, k ≤ L.length ∧ iv = .int .i64 k ∧ x.rowIs w.heap.size 9 L.length (kcell L k) ∧ Bel w x) (fun iv _ => L.length - (intOf iv).toNat)
  case atStart => exact ⟨0, Nat.zero_le _, rfl, (World.rowIs_made w (.string ⟨#[]⟩) L.length 9).congr fun j hj => (if_neg (by omega)).symm, (Bel.refl w).alloc _⟩
  case round =>
    obtain ⟨k, hk, rfl, hrow, hb⟩ := hrel
    have HB := Lib.hid hb
    by_cases hlt : k < L.length
    · obtain ⟨a, e0, rfl, he0, B, O, sp, ha, c0, c1, c2, c3⟩ := (H.out.bel hb).get hlt
      have hE : L[k]? = some e0 := by rw [he0]; exact List.getElem?_eq_getElem hlt
      have HX := Lib.hid (kcell_next hE)
      have hf := hrow.frozen k
      have hp := hrow.cell (i := k) hlt
      have HROW := Lib.hid hrow
      have hki : (k : Int) < (L.length : Int) := by omega
      clear hb hrow he0 hE
      have HA := Lib.hid ((Bel.refl wr).alloc (.cells #[.string e0.k, .int .i64 e0.q, .bool e0.d, .string e0.v] 23))
      have HR2 := Lib.hid (row_bel HROW.out HA.out)
      have hf := HR2.out.frozen k
      have hp := HR2.out.cell (i := k) hlt
      go_wp2_with (fail)
      go_roundw
      case rel =>
        refine ⟨k + 1, hlt, by go_num, ?_, (HB.out.trans HA.out).setCell (Nat.le_refl _) _⟩
        refine (HR2.out.set k _).congr fun t ht => ?_
        rw [HX.out]
      case measure => simp [intOf]; omega
    · obtain rfl : k = L.length := by omega
      have HH := Lib.hid (holds_keys hrow)
      have HC := Lib.hid (show Lib.compact (keyL L) = keysL L from keys_compact L)
      have hkl : (keyL L).length = L.length := by simp [keyL]
      have hcon := Any.slices_Compact_string Tryz.lays194 w.heap.size 0 L.length (keyL L) wr HH.out (by omega) (by omega)
      rw [HC.out, hkl] at hcon
      have HCON := Lib.hid hcon
      clear hb hrow hcon hkl
      go_wp2_with (fail)
      refine Calls.mono (show Calls Tryz.prog 99 _ _ _ from HCON.out) ?_
      rintro e w2 ⟨rfl, q, rfl⟩
      go_wp2_with (fail)
      go_ret
      refine ⟨w.heap.size, L.length, rfl, ?_, bel_put HB.out (Nat.le_refl _)⟩
      have hk2 := keys_len L
      refine strs_put HH.out (by simp [keyL]; omega) _ fun i hi => ⟨by simp; omega, ?_⟩
      simp [List.getElem_append_left hi]
end Go.Proofs.YtllcdhbchcpdoaaGreatDoor
