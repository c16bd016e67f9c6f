/- moultlaw8.shown: chapter 8's examples come out as they should; rows that lie as rows. -/
import Derived.Test.YtldkpomkgmilbaaBRFind
import Derived.Test.YtldkpomkgmilbaaBRSplit
set_option linter.unusedSimpArgs false
set_option linter.unusedVariables false
namespace Go.Proofs.Ytldkpomkgmilbaa
open Go.RowKit Go.Deep

/-- A literal's pairs, from the j-th on. -/
theorem pairs_lit {w : World} {B : Nat} {arr : Array Value} {T : TypeId} {fr : Nat × Nat} {L : List PB} (h : w.heap[B]? = some (.cells arr T fr)) (harr : arr.toList = pairEl.all L) (j : Nat) : PairsAt w (some ⟨B, j * 2, none⟩) (L.drop j) := by
  intro i hi
  rw [List.length_drop] at hi
  have hg := El.all_get pairOk L (j + i) L[j + i] (List.getElem?_eq_getElem (by omega))
  have h0 := hg 0 (by decide)
  have h1 := hg 1 (by decide)
  rw [← harr] at h0 h1
  refine ⟨_, B, j * 2 + i * 2, none, rfl, ?_, ?_, ?_⟩
  · by_cases e : i * 2 = 0
    · rw [e]; rfl
    · simp [Addr.add, e]
  · have e : (j + i) * pairEl.n + 0 = j * 2 + i * 2 := by show (j + i) * 2 + 0 = _; omega
    rw [e] at h0
    simp only [World.cell?, h]
    rw [List.getElem_drop]
    simpa [pairEl] using h0
  · have e : (j + i) * pairEl.n + 1 = j * 2 + i * 2 + 1 := by show (j + i) * 2 + 1 = _; omega
    rw [e] at h1
    simp only [World.cell?, h]
    rw [List.getElem_drop]
    simpa [pairEl] using h1

def exL : List PB := [⟨⟨#[97, 98]⟩, ⟨#[49]⟩⟩, ⟨⟨#[97, 98, 99]⟩, ⟨#[50]⟩⟩, ⟨⟨#[98]⟩, ⟨#[]⟩⟩]
def exM : List PB := [⟨⟨#[98]⟩, ⟨#[]⟩⟩, ⟨⟨#[97]⟩, ⟨#[]⟩⟩]
def exS : List UInt8 := [0, 2, 1, 97, 98, 49, 2, 1, 1, 99, 50, 0, 1, 0, 98]
theorem ex_enc : encL [] (prs exL) = exS := by decide +kernel
theorem ex_inc : incB (prs exL) = true := by decide +kernel
theorem ex_build : buildL (prs exL) = (exS, 0) := by decide +kernel
theorem ex_build2 : buildL (prs exM) = ([], 1) := by decide +kernel
theorem ex_read : readL exS = some (prs exL) := by
  rw [← ex_enc]
  exact read_build _ (by decide) ex_inc
theorem ex_find : findA exS [97, 98, 99] = ([50], true, 0) := by
  unfold findA
  rw [ex_read]
  decide +kernel
theorem ex_between : searchL exS (betB [97, 98, 99] []) = (prs (exL.drop 1), 0) := by
  rw [search_some ex_read]
  rfl
theorem build_at (p : Option Addr) (n : Nat) (cap : Nat) (L : List PB) (t : List UInt8) (E : Int) (w : World) (h : PairsAt w p L) (hn : n = L.length) (hL : L.length ≤ 1000) (hs : smallP 100000 L) (hb : buildL (prs L) = (t, E)) :
    Calls Try.prog 11 #[.slice p n cap] w fun e w' => e = .returned (.tuple #[.string ⟨t.toArray⟩, .int .i64 E]) ∧ Bel w w' := by
  subst hn
  refine (build_any p cap L w h hL hs).mono ?_
  rintro e w' ⟨rfl, hb'⟩
  exact ⟨by rw [hb], hb'⟩
theorem find_at' (s key : ByteArray) (a : List UInt8 × Bool × Int) (w : World) (hs : s.size ≤ 1000000) (h : findA s.data.toList key.data.toList = a) :
    Calls Try.prog 20 #[.string s, .string key] w fun e w' => e = .returned (.tuple #[.string ⟨a.1.toArray⟩, .bool a.2.1, .int .i64 a.2.2]) ∧ Bel w w' := by
  subst h; exact find_any s key w hs
theorem same8_at (p q : Option Addr) (n m cap cap' : Nat) (L : List PB) (w : World) (h : PairsAt w p L) (h' : PairsAt w q L) (hL : L.length ≤ 1000000) (hn : n = L.length) (hm : m = L.length) :
    Calls Try.prog 25 #[.slice p n cap, .slice q m cap'] w fun e w' => e = .returned (.bool true) ∧ Drw w w' := by
  subst hn hm; exact same8_any p q cap cap' L w h h' hL
theorem alike_at (p q : Option Addr) (n m cap cap' : Nat) (L : List PB) (w : World) (h : PairsAt w p L) (h' : PairsAt w q L) (hL : L.length ≤ 1000000) (hn : n = L.length) (hm : m = L.length) :
    Calls Try.prog 17 #[.slice p n cap, .slice q m cap'] w fun e w' => e = .returned (.bool true) ∧ Drw w w' := by
  subst hn hm; exact alike_any p q cap cap' L w h h' hL

set_option maxHeartbeats 4000000 in
set_option maxRecDepth 20000 in
theorem shown_any (w : World) : Calls Try.prog 9 #[] w fun e w' => e = .returned (.bool true) ∧ Bel w w' := by
  have hl1 := heap_alloc_new w (.cells #[.string ⟨#[97, 98]⟩, .string ⟨#[49]⟩, .string ⟨#[97, 98, 99]⟩, .string ⟨#[50]⟩, .string ⟨#[98]⟩, .string ⟨#[]⟩] 50)
  have h1 := pairs_lit (L := exL) hl1 rfl 0
  have h2 := pairs_lit (L := exL) hl1 rfl 1
  have HB := Lib.hid ((Bel.refl w).alloc (.cells #[.string ⟨#[97, 98]⟩, .string ⟨#[49]⟩, .string ⟨#[97, 98, 99]⟩, .string ⟨#[50]⟩, .string ⟨#[98]⟩, .string ⟨#[]⟩] 50))
  have H2 := Lib.hid h2
  have H1 := Lib.hid h1
  clear h1 h2 hl1
  go_enter Try.func9, Try.ntmps9
  go_wp2_with (fail)
  refine (build_at _ 3 3 exL exS 0 _ H1.out rfl (by decide) (by unfold smallP; decide) ex_build).mono ?_
  rintro e w1 ⟨rfl, hb⟩
  replace HB := Lib.hid (HB.out.trans hb)
  replace H2 := Lib.hid (H2.out.bel hb)
  clear hb H1
  have hl3 := heap_alloc_new w1 (.cells #[.string ⟨#[98]⟩, .string ⟨#[]⟩, .string ⟨#[97]⟩, .string ⟨#[]⟩] 50)
  have H3 := Lib.hid (pairs_lit (L := exM) hl3 rfl 0)
  have hb3 := (Bel.refl w1).alloc (.cells #[.string ⟨#[98]⟩, .string ⟨#[]⟩, .string ⟨#[97]⟩, .string ⟨#[]⟩] 50)
  replace HB := Lib.hid (HB.out.trans hb3)
  replace H2 := Lib.hid (H2.out.bel hb3)
  clear hb3 hl3
  go_wp2_with (fail)
  refine (build_at _ 2 2 exM [] 1 _ H3.out rfl (by decide) (by unfold smallP; decide) ex_build2).mono ?_
  rintro e w2 ⟨rfl, hb⟩
  replace HB := Lib.hid (HB.out.trans hb)
  replace H2 := Lib.hid (H2.out.bel hb)
  clear hb H3
  go_wp2_with (fail)
  refine (find_at' _ _ ([50], true, 0) _ (by decide) ex_find).mono ?_
  rintro e w3 ⟨rfl, hb⟩
  replace HB := Lib.hid (HB.out.trans hb)
  replace H2 := Lib.hid (H2.out.bel hb)
  clear hb
  go_wp2_with (fail)
  refine (between_any _ _ _ _ (by decide)).mono ?_
  rintro e w4 ⟨v, L, rfl, ho, hp, hb⟩
  have hex : searchL (⟨exS.toArray⟩ : ByteArray).data.toList (betB (⟨#[97, 98, 99]⟩ : ByteArray).data.toList (⟨#[]⟩ : ByteArray).data.toList) = (prs (exL.drop 1), 0) := ex_between
  rw [hex] at hp ⊢
  obtain rfl := prs_inj hp
  obtain ⟨q, qc, rfl, hat⟩ := ownG_pairs ho
  replace HB := Lib.hid (HB.out.trans hb)
  replace H2 := Lib.hid (H2.out.bel hb)
  have HA := Lib.hid hat
  clear hb ho hp hat hex
  have hl : (exL.drop 1).length = 2 := by decide
  rw [hl]
  have hxs : (exS == [0, 2, 1, 97, 98, 49, 2, 1, 1, 99, 50, 0, 1, 0, 98]) = true := by decide
  have hxs2 : exS = [0, 2, 1, 97, 98, 49, 2, 1, 1, 99, 50, 0, 1, 0, 98] := rfl
  go_wp2_with (fail)
  refine (same8_at q _ 2 2 qc 2 (exL.drop 1) w4 HA.out H2.out (by decide) rfl rfl).mono ?_
  rintro e w5 ⟨rfl, hb⟩
  replace HB := Lib.hid (HB.out.trans hb.bel)
  clear hb
  go_wp2_with (fail)
  go_ret
  exact ⟨rfl, HB.out⟩

/-- Rows as they lie. -/
def RwAt (w : World) (p : Option Addr) (rows : List (List PB)) : Prop := ∀ i (h : i < rows.length), ∃ a q c, p = some a ∧ w.cell? (a.add i) = some (.slice q rows[i].length c) ∧ PairsAt w q rows[i]
theorem add_block (a : Addr) (i : Nat) : (a.add i).block = a.block := by cases i <;> simp [Addr.add]
theorem RwAt.bel {w x : World} {p : Option Addr} {rows : List (List PB)} (h : RwAt w p rows) (hb : Bel w x) : RwAt x p rows := by
  intro i hi
  obtain ⟨a, q, c, h1, h2, h3⟩ := h i hi
  exact ⟨a, q, c, h1, (Below.cell hb (block_of_cell h2)).trans h2, h3.bel hb⟩
theorem rows_at {E : El PB} {R : El SL} {b : Nat} (hR : ElOk R b) (hn : R.n = 1) (hc : R.cells = fun s => [s.val]) (hE : ∀ {B : Nat} {w : World} {v : Value} {L : List PB}, OwnG E B w v L → ∃ p cap, v = .slice p L.length cap ∧ PairsAt w p L) {n : Nat} {x : World} {rv cv : Value} {H : List SL} {rows : List (List PB)} {row : List PB} (h : RowsInv E R n x rv cv H rows row) :
    ∃ p cap, rv = .slice p rows.length cap ∧ RwAt x p rows := by
  by_cases hr : rows = []
  · subst hr
    obtain ⟨p, cap, e⟩ := ownG_len h.own
    exact ⟨p, cap, by rw [e, h.len], fun i hi => by simp at hi⟩
  · have hpos : 0 < H.length := by rw [h.len]; exact List.length_pos_iff.2 hr
    obtain ⟨g, cap, e, _, _, _, hcell⟩ := ownG_cells hR h.own (by intro e; rw [e] at hpos; simp at hpos)
    refine ⟨_, cap, by rw [e, h.len], fun i hi => ?_⟩
    have hi' : i < H.length := by rw [h.len]; exact hi
    obtain ⟨p, cap', hv, hat⟩ := hE (h.els i H[i] rows[i] (List.getElem?_eq_getElem hi') (List.getElem?_eq_getElem hi))
    refine ⟨_, p, cap', rfl, ?_, hat⟩
    have := hcell i H[i] (List.getElem?_eq_getElem hi') 0 H[i].val (by rw [hc]; rfl)
    rw [hn, hv] at this
    have e2 : (⟨g, 0, none⟩ : Addr).add i = ⟨g, i * 1 + 0, none⟩ := by cases i <;> simp [Addr.add]
    rw [e2]; exact this
theorem split_at (p : Option Addr) (cap : Nat) (L : List PB) (most : Int) (w : World) (h : PairsAt w p L) (hL : L.length ≤ 1000) (hs : smallP 100000 L) :
    Calls Try.prog 13 #[.slice p L.length cap, .int .i64 most] w fun e w' => ∃ q c, e = .returned (.slice q (splitB most L []).length c) ∧ RwAt w' q (splitB most L []) ∧ Bel w w' := by
  refine (split_any p cap L most w h hL hs).mono ?_
  rintro e w' ⟨v, H, cv, row, rfl, hi, hb⟩
  obtain ⟨q, c, rfl, hat⟩ := rows_at rowOk rfl rfl ownG_pairs hi
  exact ⟨q, c, rfl, hat, hb⟩
theorem rsplit_at (p : Option Addr) (cap : Nat) (L : List PB) (most : Int) (w : World) (h : PairsAt w p L) (hL : L.length ≤ 1000) (hs : smallP 100000 L) :
    Calls Try.prog 14 #[.slice p L.length cap, .int .i64 most] w fun e w' => ∃ q c, e = .returned (.slice q (splitB most L []).length c) ∧ RwAt w' q (splitB most L []) ∧ Bel w w' := by
  refine (rsplit_any p cap L most w h hL hs).mono ?_
  rintro e w' ⟨v, H, cv, row, rfl, hi, hb⟩
  obtain ⟨q, c, rfl, hat⟩ := rows_at rrowOk rfl rfl ownG_rpairs hi
  exact ⟨q, c, rfl, hat, hb⟩
theorem splitB_len (most : Int) : ∀ (L row : List PB), (splitB most L row).length ≤ L.length + 1
  | [], row => by unfold splitB; split <;> simp
  | p :: L, row => by
    unfold splitB
    split
    · have := splitB_len most L []; simp; omega
    · have := splitB_len most L (row ++ [p]); simp; omega
theorem splitB_join (most : Int) : ∀ (L row : List PB), (splitB most L row).flatten = row ++ L
  | [], row => by
    unfold splitB
    by_cases h : row = []
    · rw [if_pos h, h]; rfl
    · rw [if_neg h]; simp
  | p :: L, row => by
    unfold splitB
    split
    · rw [List.flatten_cons, splitB_join most L []]; simp
    · rw [splitB_join most L (row ++ [p])]; simp
end Go.Proofs.Ytldkpomkgmilbaa
