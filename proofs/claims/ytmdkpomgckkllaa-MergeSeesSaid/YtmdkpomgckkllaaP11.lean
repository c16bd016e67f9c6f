/- GCon, GRVis, GRThin, GHas, GHas2, GLawC, GLaw1, GRSrt, GPSrt, GPClo, laid together. -/
import Derived.Test.YtmdkpomgckkllaaP10
import Derived.Deep.RegionHeld
import Derived.Deep.QuietTactic
import Derived.BigQuiet
import Derived.Test.YtmdkpomgckkllaaP7
import Derived.Lib.SliceRun
set_option linter.unusedSimpArgs false
set_option linter.unusedVariables false
/- moultlaw12.shown: the chapter's examples. -/
set_option maxRecDepth 100000
namespace Go.Proofs.Ytmdkpomgckkllaa
open Go.RowKit Go.Deep

set_option maxHeartbeats 1000000 in
theorem live12_any (s : ByteArray) (q : Int) (w : World) :
    Calls Try.prog 24 #[.string s, .int .i64 q] w fun r w' => r = .returned (.agg #[.string s, .int .i64 q, .bool false, .string ⟨#[120]⟩]) ∧ Bel w w' := by
  go_enter Try.func24, Try.ntmps24
  go_wp2_with (fail)
  refine bodyPost_ret (v := .agg #[.string s, .int .i64 q, .bool false, .string ⟨#[120]⟩]) (by simp [results, Try.results24, go_sem]) rfl ⟨rfl, (Bel.refl w).alloc _⟩
def x1 : EB := ⟨⟨#[97]⟩, 5, true, ⟨#[]⟩⟩
def x2 : EB := ⟨⟨#[97]⟩, 3, false, ⟨#[120]⟩⟩
def x3 : EB := ⟨⟨#[98]⟩, 4, false, ⟨#[120]⟩⟩
def e3L : List EB := [x1, x2, x3]
theorem ex_vis9 : visL 9 e3L = [x3] := by
  have h1 : (newB e3L 9 x1 && !x1.d) = false := by decide +kernel
  have h2 : (newB e3L 9 x2 && !x2.d) = false := by decide +kernel
  have h3 : (newB e3L 9 x3 && !x3.d) = true := by decide +kernel
  show [x1, x2, x3].filter (fun e => newB e3L 9 e && !e.d) = _
  simp only [List.filter_cons, h1, h2, h3]; rfl
theorem ex_vis4 : visL 4 e3L = [x2, x3] := by
  have h1 : (newB e3L 4 x1 && !x1.d) = false := by decide +kernel
  have h2 : (newB e3L 4 x2 && !x2.d) = true := by decide +kernel
  have h3 : (newB e3L 4 x3 && !x3.d) = true := by decide +kernel
  show [x1, x2, x3].filter (fun e => newB e3L 4 e && !e.d) = _
  simp only [List.filter_cons, h1, h2, h3]; rfl
theorem ex_l12 : lessB x1 x2 = true := by decide +kernel
theorem ex_l13 : lessB x1 x3 = true := by decide +kernel
theorem ex_l23 : lessB x2 x3 = true := by decide +kernel
theorem ex_l31 : lessB x3 x1 = false := by decide +kernel
theorem ex_l32 : lessB x3 x2 = false := by decide +kernel
theorem ex_l21 : lessB x2 x1 = false := by decide +kernel
theorem ex_srt : srtB e3L = true := by
  show (lessB x1 x2 && (lessB x2 x3 && true)) = true
  rw [ex_l12, ex_l23]; rfl
theorem ex_nsrt : srtB [x3, x1] = false := by
  show (lessB x3 x1 && true) = false
  rw [ex_l31]; rfl
theorem e3_srt : Srt e3L := srtB_iff.1 ex_srt
theorem ex_mrg : mergeB [[x3], [x1, x2]].flatten = e3L := by
  show insE x2 (insE x1 (insE x3 [])) = _
  simp only [insE, ex_l31, ex_l13, ex_l12, ex_l21, ex_l32, ex_l23, if_true, Bool.false_eq_true, if_false]; rfl
theorem ex_rows : ∀ L ∈ [[x3], [x1, x2]], Srt L ∧ L.length ≤ 500 ∧ fitsL L := by
  intro L hL
  have hf : ∀ e ∈ e3L, e.fits := fun e he => by
    simp only [e3L, List.mem_cons, List.not_mem_nil, or_false] at he
    rcases he with rfl | rfl | rfl <;> (unfold EB.fits; decide)
  simp only [List.mem_cons, List.not_mem_nil, or_false] at hL
  rcases hL with rfl | rfl
  · exact ⟨by simp [Srt], by decide, fun e he => hf e (by simp only [List.mem_singleton] at he; rw [he]; simp [e3L])⟩
  · exact ⟨by simp [Srt, ex_l12], by decide, fun e he => hf e (by
      simp only [List.mem_cons, List.not_mem_nil, or_false] at he
      rcases he with rfl | rfl <;> simp [e3L])⟩
theorem e3_fits : fitsL e3L := fun e he => by
  simp only [e3L, List.mem_cons, List.not_mem_nil, or_false] at he
  rcases he with rfl | rfl | rfl <;> (unfold EB.fits; decide)
theorem ex_fits2 : fitsL [x3, x1] := fun e he => by
  simp only [List.mem_cons, List.not_mem_nil, or_false] at he
  rcases he with rfl | rfl <;> (unfold EB.fits; decide)
theorem e3_q : ∀ e ∈ e3L, e.q ≤ 4611686018427387904 := fun e he => by
  simp only [e3L, List.mem_cons, List.not_mem_nil, or_false] at he
  rcases he with rfl | rfl | rfl <;> decide
theorem ex_need (S : List Int) (b : Bool) (h : needB e3L S x2 = b) : e3L.filter (needB e3L S) = x1 :: (if b = true then [x2, x3] else [x3]) := by
  have h1 : newB e3L 4611686018427387904 x1 = true := by decide +kernel
  have h3 : newB e3L 4611686018427387904 x3 = true := by decide +kernel
  have n1 : needB e3L S x1 = true := by unfold needB; rw [h1]; rfl
  have n3 : needB e3L S x3 = true := by unfold needB; rw [h3]; rfl
  show [x1, x2, x3].filter (needB e3L S) = _
  simp only [List.filter_cons, n1, h, n3, List.filter_nil]
  cases b <;> rfl
theorem ex_n0 : needB e3L [] x2 = false := by decide +kernel
theorem ex_n4 : needB e3L [4] x2 = true := by decide +kernel
theorem ex_thin0 : thinL [] false e3L = [x1, x3] := ex_need [] false ex_n0
theorem ex_thin4 : thinL [4] false e3L = e3L := ex_need [4] true ex_n4
theorem ex_thinT : thinL [] true e3L = [x3] := by
  have h1 : endsB [x1, x3] x1 = true := by decide +kernel
  have h3 : endsB [x1, x3] x3 = false := by decide +kernel
  have h0 : e3L.filter (needB e3L []) = [x1, x3] := ex_thin0
  show (e3L.filter (needB e3L [])).filter (fun e => !endsB (e3L.filter (needB e3L [])) e) = _
  rw [h0]
  simp only [List.filter_cons, h1, h3]; rfl
theorem ents_lit12 {w : World} {B : Nat} {L : List EB} {arr : Array Value} {T : TypeId} (h : w.heap[B]? = some (.cells arr T (0, 0))) (harr : arr.toList = entEl.all L) : EntsAt w (some ⟨B, 0, none⟩) L := by
  intro i hi
  have hall : ∀ j (u : Value), j < 4 → (entEl.cells L[i])[j]? = some u → w.cell? ⟨B, i * 4 + j, none⟩ = some u := fun j u hj hu => by
    have := El.all_get entOk L i L[i] (List.getElem?_eq_getElem hi) j hj
    rw [hu, show i * entEl.n + j = i * 4 + j from rfl, ← harr] at this
    simp [World.cell?, h]
    simpa using this
  have ha : (⟨B, 0, none⟩ : Addr).add (i * 4) = ⟨B, i * 4, none⟩ := by
    by_cases h0 : i * 4 = 0
    · rw [h0]; rfl
    · simp [Addr.add, h0]
  exact ⟨_, rfl, B, i * 4, none, ha, hall 0 _ (by decide) rfl, hall 1 _ (by decide) rfl, hall 2 _ (by decide) rfl, hall 3 _ (by decide) rfl⟩
theorem rows_lit2 {w : World} {B c d : Nat} {p q : Option Addr} {L M : List EB} (h : w.heap[B]? = some (.cells #[.slice p L.length c, .slice q M.length d] 27 (0, 0))) (hL : EntsAt w p L) (hM : EntsAt w q M) (hc : L.length ≤ c := by decide) (hd : M.length ≤ d := by decide) : RowsAt w (some ⟨B, 0, none⟩) [L, M] := by
  intro i hi
  have h2 : i < 2 := hi
  match i, h2 with
  | 0, _ => exact ⟨_, p, c, rfl, by show w.cell? ⟨B, 0, none⟩ = _; simp [World.cell?, h], hL, hc⟩
  | 1, _ => exact ⟨_, q, d, rfl, by show w.cell? ⟨B, 1, none⟩ = _; simp [World.cell?, h], hM, hd⟩
theorem ints_nil12 (w : World) (q : Option Addr) : IntsAt12 w q [] := fun i hi => by simp at hi
theorem ints_one12 {w : World} {B : Nat} {s : Int} {T : TypeId} (h : w.heap[B]? = some (.cells #[.int .i64 s] T (0, 0))) : IntsAt12 w (some ⟨B, 0, none⟩) [s] := fun i hi => by
  obtain rfl : i = 0 := by simpa using hi
  exact ⟨_, rfl, by show w.cell? ⟨B, 0, none⟩ = _; simp [World.cell?, h]⟩
theorem same12_at (p q : Option Addr) (n m cap cap' : Nat) (L : List EB) (w : World) (h : EntsAt w p L) (h' : EntsAt w q L) (hL : L.length ≤ 1000000) (hn : n = L.length) (hm : m = L.length) :
    Calls Try.prog 13 #[.slice p n cap, .slice q m cap'] w fun e w' => e = .returned (.bool true) ∧ Drw w w' := by
  subst hn hm; exact same12_any p q cap cap' L w h h' hL
theorem GK.vis_is (K : GK) (p : Option Addr) (cap : Nat) (L M : List EB) (s : Int) (w : World) (hM : visL s L = M) (ho : K.Ok w) (h : EntsAt w p L) (hc : L.length ≤ cap) (hS : Srt L) (hl : L.length ≤ 1000) (hf : fitsL L) : Calls Try.prog 14 #[.slice p L.length cap, .int .i64 s] w (Gives12 w M) := by
  subst hM; exact K.visible p cap L s w ho h hc hS hl hf
theorem GK.mrg_is (K : GK) (p : Option Addr) (cap : Nat) (R : List (List EB)) (M : List EB) (w : World) (hM : mergeB R.flatten = M) (ho : K.Ok w) (h : RowsAt w p R) (hc : R.length ≤ cap) (hl : R.length ≤ 10) (hR : ∀ L ∈ R, Srt L ∧ L.length ≤ 500 ∧ fitsL L) : Calls Try.prog 11 #[.slice p R.length cap] w (Gives12 w M) := by
  subst hM; exact K.merge p cap R w ho h hc hl hR
theorem GK.thin_is (K : GK) (p q : Option Addr) (cap cap' : Nat) (L M : List EB) (S : List Int) (last : Bool) (w : World) (hM : thinL S last L = M) (ho : K.Ok w) (h : EntsAt w p L) (hc : L.length ≤ cap) (hi : IntsAt12 w q S) (hS : Srt L) (hl : L.length ≤ 1000) (hs : S.length ≤ 20) (hf : fitsL L) (hq : ∀ e ∈ L, e.q ≤ 4611686018427387904) : Calls Try.prog 16 #[.slice p L.length cap, .slice q S.length cap', .bool last] w (Gives12 w M) := by
  subst hM; exact K.thin p q cap cap' L S last w ho h hc hi hS hl hs hf hq
theorem GK.srt_is (K : GK) (p : Option Addr) (cap : Nat) (L : List EB) (b : Bool) (w : World) (hb : srtB L = b) (ho : K.Ok w) (h : EntsAt w p L) (hl : L.length ≤ 1000) (hf : fitsL L) : Calls Try.prog 19 #[.slice p L.length cap] w fun r w' => r = .returned (.bool b) ∧ Bel w w' := by
  subst hb; exact K.sorted p cap L w ho h hl hf
set_option maxHeartbeats 8000000 in
theorem shown12_any {KG : GK} (w : World) (hok : KG.Ok w) : Calls Try.prog 9 #[] w fun e w' => e = .returned (.bool true) ∧ Bel w w' := by
  go_enter Try.func9, Try.ntmps9
  go_wp2_with (fail)
  refine (live12_any ⟨#[97]⟩ 3 w).mono ?_
  rintro e a1 ⟨rfl, hb1⟩
  go_wp2_with (fail)
  refine (live12_any ⟨#[98]⟩ 4 a1).mono ?_
  rintro e a2 ⟨rfl, hb2⟩
  have hb0 : Bel w a2 := hb1.trans hb2
  clear hb1 hb2
  go_wp2_with (fail)
  have hl1 : (a2.alloc (.cells #[.string ⟨#[97]⟩, .int .i64 5, .bool true, .string ⟨#[]⟩, .string ⟨#[97]⟩, .int .i64 3, .bool false, .string ⟨#[120]⟩, .string ⟨#[98]⟩, .int .i64 4, .bool false, .string ⟨#[120]⟩] 36)).heap[a2.heap.size]? = some (.cells #[.string ⟨#[97]⟩, .int .i64 5, .bool true, .string ⟨#[]⟩, .string ⟨#[97]⟩, .int .i64 3, .bool false, .string ⟨#[120]⟩, .string ⟨#[98]⟩, .int .i64 4, .bool false, .string ⟨#[120]⟩] 36 (0, 0)) := tnew12 a2 _
  obtain ⟨w1, hw1⟩ : ∃ z, z = a2.alloc (.cells #[.string ⟨#[97]⟩, .int .i64 5, .bool true, .string ⟨#[]⟩, .string ⟨#[97]⟩, .int .i64 3, .bool false, .string ⟨#[120]⟩, .string ⟨#[98]⟩, .int .i64 4, .bool false, .string ⟨#[120]⟩] 36) := ⟨_, rfl⟩
  have HB := Lib.hid (show Bel w w1 by rw [hw1]; exact hb0.alloc _)
  rw [← hw1] at hl1 ⊢
  clear hw1 hb0
  obtain ⟨B, hB⟩ : ∃ b, b = a2.heap.size := ⟨_, rfl⟩
  rw [← hB] at hl1 ⊢
  clear hB
  have HL1 := Lib.hid hl1
  have HOK := Lib.hid (KG.okBel hok HB.out)
  have HB1 := Lib.hid (Bel.refl w1)
  have HB1lt : B < w1.heap.size := (Array.getElem?_eq_some_iff.1 hl1).1
  have EN0 := Lib.hid (fun (z : World) (hz : z.heap[B]? = some (.cells #[.string ⟨#[97]⟩, .int .i64 5, .bool true, .string ⟨#[]⟩, .string ⟨#[97]⟩, .int .i64 3, .bool false, .string ⟨#[120]⟩, .string ⟨#[98]⟩, .int .i64 4, .bool false, .string ⟨#[120]⟩] 36 (0, 0))) => (show EntsAt z (some ⟨B, 0, none⟩) e3L from ents_lit12 hz rfl))
  have EN1 := Lib.hid (fun (z : World) (hz : z.heap[B]? = some (.cells #[.string ⟨#[97]⟩, .int .i64 5, .bool true, .string ⟨#[]⟩, .string ⟨#[97]⟩, .int .i64 3, .bool false, .string ⟨#[120]⟩, .string ⟨#[98]⟩, .int .i64 4, .bool false, .string ⟨#[120]⟩] 36 (0, 0))) => (show EntsAt z (some ⟨B, 4, none⟩) [x2, x3] from ents_drop (EN0.out z hz) 1 3 (by decide)))
  have EN2 := Lib.hid (fun (z : World) (hz : z.heap[B]? = some (.cells #[.string ⟨#[97]⟩, .int .i64 5, .bool true, .string ⟨#[]⟩, .string ⟨#[97]⟩, .int .i64 3, .bool false, .string ⟨#[120]⟩, .string ⟨#[98]⟩, .int .i64 4, .bool false, .string ⟨#[120]⟩] 36 (0, 0))) => (show EntsAt z (some ⟨B, 8, none⟩) [x3] from ents_drop (EN0.out z hz) 2 3 (by decide)))
  have EN3 := Lib.hid (fun (z : World) (hz : z.heap[B]? = some (.cells #[.string ⟨#[97]⟩, .int .i64 5, .bool true, .string ⟨#[]⟩, .string ⟨#[97]⟩, .int .i64 3, .bool false, .string ⟨#[120]⟩, .string ⟨#[98]⟩, .int .i64 4, .bool false, .string ⟨#[120]⟩] 36 (0, 0))) => (show EntsAt z (some ⟨B, 0, none⟩) [x1, x2] from ents_take (EN0.out z hz) 2))
  have HCC := Lib.hid (fun (z : World) (hz : z.heap[B]? = some (.cells #[.string ⟨#[97]⟩, .int .i64 5, .bool true, .string ⟨#[]⟩, .string ⟨#[97]⟩, .int .i64 3, .bool false, .string ⟨#[120]⟩, .string ⟨#[98]⟩, .int .i64 4, .bool false, .string ⟨#[120]⟩] 36 (0, 0))) => (show z.cell? ⟨B, 0, none⟩ = some (.string ⟨#[97]⟩) ∧ z.cell? ⟨B, 1, none⟩ = some (.int .i64 5) ∧ z.cell? ⟨B, 2, none⟩ = some (.bool true) ∧ z.cell? ⟨B, 3, none⟩ = some (.string ⟨#[]⟩) ∧ z.cell? ⟨B, 8, none⟩ = some (.string ⟨#[98]⟩) ∧ z.cell? ⟨B, 9, none⟩ = some (.int .i64 4) ∧ z.cell? ⟨B, 10, none⟩ = some (.bool false) ∧ z.cell? ⟨B, 11, none⟩ = some (.string ⟨#[120]⟩) from by simp [World.cell?, hz]))
  clear hl1 hok
  refine wp_region_held_drew (S := fun z => z.cell? ⟨B, 0, none⟩ = some (.string ⟨#[97]⟩) ∧ z.cell? ⟨B, 1, none⟩ = some (.int .i64 5) ∧ z.cell? ⟨B, 2, none⟩ = some (.bool true) ∧ z.cell? ⟨B, 3, none⟩ = some (.string ⟨#[]⟩) ∧ z.cell? ⟨B, 8, none⟩ = some (.string ⟨#[98]⟩) ∧ z.cell? ⟨B, 9, none⟩ = some (.int .i64 4) ∧ z.cell? ⟨B, 10, none⟩ = some (.bool false) ∧ z.cell? ⟨B, 11, none⟩ = some (.string ⟨#[120]⟩)) (by kernel_rfl) (HCC.out _ HL1.out) (fun hHeld => ?_)
  obtain ⟨w2, hw⟩ : ∃ z, z = World.drew w1 := ⟨_, rfl⟩
  have hb : Bel w1 w2 := by rw [hw]; exact (Bel.refl _).drew
  rw [← hw] at hHeld ⊢
  clear hw
  have HB2 := Lib.hid (HB1.out.trans hb)
  have HL2 := Lib.hid ((Below.block hb B HB1lt).trans HL1.out)
  have HB2lt : B < w2.heap.size := (Array.getElem?_eq_some_iff.1 HL2.out).1
  clear hb
  refine wpAnyH_take (i := 0) (oi := { dst := some 8, op := Op.move (Operand.tmp 1), type := 27, pos := "law.go:57", after := #[], guard := none }) (v := ?_) rfl (by kernel_rfl) (by kernel_rfl) (by kernel_rfl) (fun _ _ _ h => h) (Or.inl ⟨by rfl, ?_⟩) (by assumption) ?_
  rotate_left
  · (intro w hSw; (try dsimp only at hSw); first | (go_simp; done) | (go_simp; with_reducible rfl))
  try simp only [Act.put, List.setIfInBounds_toArray, List.set_cons_zero, List.set_cons_succ]
  refine wpAnyH_take (i := 2) (oi := { dst := some 10, op := Op.move (Operand.tmp 1), type := 27, pos := "law.go:57", after := #[], guard := none }) (v := ?_) rfl (by kernel_rfl) (by kernel_rfl) (by kernel_rfl) (fun _ _ _ h => h) (Or.inl ⟨by rfl, ?_⟩) (by assumption) ?_
  rotate_left
  · (intro w hSw; (try dsimp only at hSw); first | (go_simp; done) | (go_simp; with_reducible rfl))
  try simp only [Act.put, List.setIfInBounds_toArray, List.set_cons_zero, List.set_cons_succ]
  refine wpAnyH_take (i := 3) (oi := { dst := some 11, op := Op.slice 27 (Operand.tmp 10) (some (Operand.const (Value.int IntKind.i64 2))) none none, type := 27, pos := "law.go:57", after := #[{ on := 2, ground := Ground.data }], guard := none }) (v := ?_) rfl (by kernel_rfl) (by kernel_rfl) (by kernel_rfl) (fun _ _ _ h => h) (Or.inl ⟨by rfl, ?_⟩) (by assumption) ?_
  rotate_left
  · (intro w hSw; (try dsimp only at hSw); first | (go_simp; done) | (go_simp; with_reducible rfl))
  try simp only [Act.put, List.setIfInBounds_toArray, List.set_cons_zero, List.set_cons_succ]
  refine wpAnyH_ready (rs := [1]) (by kernel_rfl) (by simp) ?_
  refine AllReadyH.cons (o := { dst := some 9, op := Op.call { callee := Callee.value (Operand.func 14), args := #[Operand.tmp 8, Operand.const (Value.int IntKind.i64 9)], argTypes := #[27, 3] }, type := 27, pos := "law.go:57", after := #[{ on := 0, ground := Ground.data }], guard := none }) rfl (fun K hK => ?_) AllReadyH.nil
  go_simp
  refine (KG.vis_is (some ⟨B, 0, none⟩) 3 e3L [x3] 9 w2 ex_vis9 (KG.okBel HOK.out HB2.out) (EN0.out _ HL2.out) (by decide) e3_srt (by decide) e3_fits).mono ?_
  rintro r w3 ⟨pv, cv, rfl, he, hcap, hb⟩
  have HB3 := Lib.hid (HB2.out.trans hb)
  have HEv := Lib.hid (show EntsAt w3 pv [x3] from he)
  have HL3 := Lib.hid ((Below.block hb B HB2lt).trans HL2.out)
  have HB3lt : B < w3.heap.size := (Array.getElem?_eq_some_iff.1 HL3.out).1
  dsimp only
  refine hK.out _ _ (HCC.out _ HL3.out) (fun hHeld => ?_)
  clear hK K
  try simp only [Act.put, List.setIfInBounds_toArray, List.set_cons_zero, List.set_cons_succ]
  clear he hb
  refine wpAnyH_ready (rs := [4]) (by kernel_rfl) (by simp) ?_
  refine AllReadyH.cons (o := { dst := some 12, op := Op.call { callee := Callee.value (Operand.func 13), args := #[Operand.tmp 9, Operand.tmp 11], argTypes := #[27, 27] }, type := 4, pos := "law.go:57", after := #[{ on := 1, ground := Ground.data }, { on := 3, ground := Ground.data }, { on := 1, ground := Ground.chain }], guard := none }) rfl (fun K hK => ?_) AllReadyH.nil
  go_simp
  refine (same12_at pv (some ⟨B, 8, none⟩) 1 1 cv 1 [x3] w3 HEv.out (EN2.out _ HL3.out) (by decide) rfl rfl).mono ?_
  rintro r w4 ⟨rfl, hb⟩
  replace hb := hb.bel
  have HB4 := Lib.hid (HB3.out.trans hb)
  have HL4 := Lib.hid ((Below.block hb B HB3lt).trans HL3.out)
  have HB4lt : B < w4.heap.size := (Array.getElem?_eq_some_iff.1 HL4.out).1
  dsimp only
  refine hK.out _ _ (HCC.out _ HL4.out) (fun hHeld => ?_)
  clear hK K
  try simp only [Act.put, List.setIfInBounds_toArray, List.set_cons_zero, List.set_cons_succ]
  clear hb
  refine wpAnyH_take (i := 5) (oi := { dst := some 13, op := Op.move (Operand.tmp 12), type := 4, pos := "law.go:57", after := #[{ on := 4, ground := Ground.data }, { on := 4, ground := Ground.chain }], guard := none }) (v := ?_) rfl (by kernel_rfl) (by kernel_rfl) (by kernel_rfl) (fun _ _ _ h => h) (Or.inl ⟨by rfl, ?_⟩) (by assumption) ?_
  rotate_left
  · (intro w hSw; (try dsimp only at hSw); first | (go_simp; done) | (go_simp; with_reducible rfl))
  try simp only [Act.put, List.setIfInBounds_toArray, List.set_cons_zero, List.set_cons_succ]
  refine wpAnyH_take (i := 6) (oi := { dst := some 14, op := Op.move (Operand.tmp 1), type := 27, pos := "law.go:57", after := #[{ on := 5, ground := Ground.guard }], guard := some (5, true) }) (v := ?_) rfl (by kernel_rfl) (by kernel_rfl) (by kernel_rfl) (fun _ _ _ h => h) (Or.inl ⟨by rfl, ?_⟩) (by assumption) ?_
  rotate_left
  · (intro w hSw; (try dsimp only at hSw); first | (go_simp; done) | (go_simp; with_reducible rfl))
  try simp only [Act.put, List.setIfInBounds_toArray, List.set_cons_zero, List.set_cons_succ]
  refine wpAnyH_take (i := 8) (oi := { dst := some 16, op := Op.move (Operand.tmp 1), type := 27, pos := "law.go:57", after := #[{ on := 5, ground := Ground.guard }], guard := some (5, true) }) (v := ?_) rfl (by kernel_rfl) (by kernel_rfl) (by kernel_rfl) (fun _ _ _ h => h) (Or.inl ⟨by rfl, ?_⟩) (by assumption) ?_
  rotate_left
  · (intro w hSw; (try dsimp only at hSw); first | (go_simp; done) | (go_simp; with_reducible rfl))
  try simp only [Act.put, List.setIfInBounds_toArray, List.set_cons_zero, List.set_cons_succ]
  refine wpAnyH_take (i := 9) (oi := { dst := some 17, op := Op.slice 27 (Operand.tmp 16) (some (Operand.const (Value.int IntKind.i64 1))) none none, type := 27, pos := "law.go:57", after := #[{ on := 8, ground := Ground.data }, { on := 5, ground := Ground.guard }], guard := some (5, true) }) (v := ?_) rfl (by kernel_rfl) (by kernel_rfl) (by kernel_rfl) (fun _ _ _ h => h) (Or.inl ⟨by rfl, ?_⟩) (by assumption) ?_
  rotate_left
  · (intro w hSw; (try dsimp only at hSw); first | (go_simp; done) | (go_simp; with_reducible rfl))
  try simp only [Act.put, List.setIfInBounds_toArray, List.set_cons_zero, List.set_cons_succ]
  refine wpAnyH_ready (rs := [7]) (by kernel_rfl) (by simp) ?_
  refine AllReadyH.cons (o := { dst := some 15, op := Op.call { callee := Callee.value (Operand.func 14), args := #[Operand.tmp 14, Operand.const (Value.int IntKind.i64 4)], argTypes := #[27, 3] }, type := 27, pos := "law.go:57", after := #[{ on := 6, ground := Ground.data }, { on := 5, ground := Ground.chain }, { on := 5, ground := Ground.guard }], guard := some (5, true) }) rfl (fun K hK => ?_) AllReadyH.nil
  go_simp
  refine (KG.vis_is (some ⟨B, 0, none⟩) 3 e3L [x2, x3] 4 w4 ex_vis4 (KG.okBel HOK.out HB4.out) (EN0.out _ HL4.out) (by decide) e3_srt (by decide) e3_fits).mono ?_
  rintro r w5 ⟨pu, cu, rfl, he, hcap, hb⟩
  have HB5 := Lib.hid (HB4.out.trans hb)
  have HEu := Lib.hid (show EntsAt w5 pu [x2, x3] from he)
  have HL5 := Lib.hid ((Below.block hb B HB4lt).trans HL4.out)
  have HB5lt : B < w5.heap.size := (Array.getElem?_eq_some_iff.1 HL5.out).1
  dsimp only
  refine hK.out _ _ (HCC.out _ HL5.out) (fun hHeld => ?_)
  clear hK K
  try simp only [Act.put, List.setIfInBounds_toArray, List.set_cons_zero, List.set_cons_succ]
  clear he hb
  refine wpAnyH_ready (rs := [10]) (by kernel_rfl) (by simp) ?_
  refine AllReadyH.cons (o := { dst := some 18, op := Op.call { callee := Callee.value (Operand.func 13), args := #[Operand.tmp 15, Operand.tmp 17], argTypes := #[27, 27] }, type := 4, pos := "law.go:57", after := #[{ on := 7, ground := Ground.data }, { on := 9, ground := Ground.data }, { on := 7, ground := Ground.chain }, { on := 5, ground := Ground.guard }], guard := some (5, true) }) rfl (fun K hK => ?_) AllReadyH.nil
  go_simp
  refine (same12_at pu (some ⟨B, 4, none⟩) 2 2 cu 2 [x2, x3] w5 HEu.out (EN1.out _ HL5.out) (by decide) rfl rfl).mono ?_
  rintro r w6 ⟨rfl, hb⟩
  replace hb := hb.bel
  have HB6 := Lib.hid (HB5.out.trans hb)
  have HL6 := Lib.hid ((Below.block hb B HB5lt).trans HL5.out)
  have HB6lt : B < w6.heap.size := (Array.getElem?_eq_some_iff.1 HL6.out).1
  dsimp only
  refine hK.out _ _ (HCC.out _ HL6.out) (fun hHeld => ?_)
  clear hK K
  try simp only [Act.put, List.setIfInBounds_toArray, List.set_cons_zero, List.set_cons_succ]
  clear hb
  refine wpAnyH_take (i := 11) (oi := { dst := some 19, op := Op.pick (Operand.tmp 13) (Operand.tmp 18) (Operand.const (Value.bool false)), type := 4, pos := "law.go:57", after := #[{ on := 5, ground := Ground.data }, { on := 10, ground := Ground.data }], guard := none }) (v := ?_) rfl (by kernel_rfl) (by kernel_rfl) (by kernel_rfl) (fun _ _ _ h => h) (Or.inl ⟨by rfl, ?_⟩) (by assumption) ?_
  rotate_left
  · (intro w hSw; (try dsimp only at hSw); first | (go_simp; done) | (go_simp; with_reducible rfl))
  try simp only [Act.put, List.setIfInBounds_toArray, List.set_cons_zero, List.set_cons_succ]
  refine wpAnyH_take (i := 12) (oi := { dst := some 20, op := Op.move (Operand.tmp 19), type := 4, pos := "law.go:57", after := #[{ on := 11, ground := Ground.data }, { on := 10, ground := Ground.chain }], guard := none }) (v := ?_) rfl (by kernel_rfl) (by kernel_rfl) (by kernel_rfl) (fun _ _ _ h => h) (Or.inl ⟨by rfl, ?_⟩) (by assumption) ?_
  rotate_left
  · (intro w hSw; (try dsimp only at hSw); first | (go_simp; done) | (go_simp; with_reducible rfl))
  try simp only [Act.put, List.setIfInBounds_toArray, List.set_cons_zero, List.set_cons_succ]
  refine wpAnyH_take (i := 13) (oi := { dst := some 21, op := Op.move (Operand.tmp 1), type := 27, pos := "law.go:57", after := #[{ on := 12, ground := Ground.guard }], guard := some (12, true) }) (v := ?_) rfl (by kernel_rfl) (by kernel_rfl) (by kernel_rfl) (fun _ _ _ h => h) (Or.inl ⟨by rfl, ?_⟩) (by assumption) ?_
  rotate_left
  · (intro w hSw; (try dsimp only at hSw); first | (go_simp; done) | (go_simp; with_reducible rfl))
  try simp only [Act.put, List.setIfInBounds_toArray, List.set_cons_zero, List.set_cons_succ]
  refine wpAnyH_take (i := 14) (oi := { dst := some 22, op := Op.slice 27 (Operand.tmp 21) (some (Operand.const (Value.int IntKind.i64 2))) none none, type := 27, pos := "law.go:57", after := #[{ on := 13, ground := Ground.data }, { on := 12, ground := Ground.guard }], guard := some (12, true) }) (v := ?_) rfl (by kernel_rfl) (by kernel_rfl) (by kernel_rfl) (fun _ _ _ h => h) (Or.inl ⟨by rfl, ?_⟩) (by assumption) ?_
  rotate_left
  · (intro w hSw; (try dsimp only at hSw); first | (go_simp; done) | (go_simp; with_reducible rfl))
  try simp only [Act.put, List.setIfInBounds_toArray, List.set_cons_zero, List.set_cons_succ]
  refine wpAnyH_take (i := 15) (oi := { dst := some 23, op := Op.move (Operand.tmp 1), type := 27, pos := "law.go:57", after := #[{ on := 12, ground := Ground.guard }], guard := some (12, true) }) (v := ?_) rfl (by kernel_rfl) (by kernel_rfl) (by kernel_rfl) (fun _ _ _ h => h) (Or.inl ⟨by rfl, ?_⟩) (by assumption) ?_
  rotate_left
  · (intro w hSw; (try dsimp only at hSw); first | (go_simp; done) | (go_simp; with_reducible rfl))
  try simp only [Act.put, List.setIfInBounds_toArray, List.set_cons_zero, List.set_cons_succ]
  refine wpAnyH_take (i := 16) (oi := { dst := some 24, op := Op.slice 27 (Operand.tmp 23) none (some (Operand.const (Value.int IntKind.i64 2))) none, type := 27, pos := "law.go:57", after := #[{ on := 15, ground := Ground.data }, { on := 12, ground := Ground.guard }], guard := some (12, true) }) (v := ?_) rfl (by kernel_rfl) (by kernel_rfl) (by kernel_rfl) (fun _ _ _ h => h) (Or.inl ⟨by rfl, ?_⟩) (by assumption) ?_
  rotate_left
  · (intro w hSw; (try dsimp only at hSw); first | (go_simp; done) | (go_simp; with_reducible rfl))
  try simp only [Act.put, List.setIfInBounds_toArray, List.set_cons_zero, List.set_cons_succ]
  refine wpAnyH_take (i := 19) (oi := { dst := some 27, op := Op.move (Operand.tmp 1), type := 27, pos := "law.go:57", after := #[{ on := 12, ground := Ground.guard }], guard := some (12, true) }) (v := ?_) rfl (by kernel_rfl) (by kernel_rfl) (by kernel_rfl) (fun _ _ _ h => h) (Or.inl ⟨by rfl, ?_⟩) (by assumption) ?_
  rotate_left
  · (intro w hSw; (try dsimp only at hSw); first | (go_simp; done) | (go_simp; with_reducible rfl))
  try simp only [Act.put, List.setIfInBounds_toArray, List.set_cons_zero, List.set_cons_succ]
  refine wpAnyH_ready (rs := [17]) (by kernel_rfl) (by simp) ?_
  refine AllReadyH.cons (o := { dst := some 25, op := Op.buildSlice 22 2 #[(0, Operand.tmp 22), (1, Operand.tmp 24)], type := 22, pos := "law.go:57", after := #[{ on := 14, ground := Ground.data }, { on := 16, ground := Ground.data }, { on := 12, ground := Ground.guard }], guard := some (12, true) }) rfl (fun K hK => ?_) AllReadyH.nil
  go_simp
  have hb := (Bel.refl w6).alloc (.cells #[.slice (some ⟨B, 8, none⟩) 1 1, .slice (some ⟨B, 0, none⟩) 2 3] 27)
  have HLITm := Lib.hid (tnew12 w6 (.cells #[.slice (some ⟨B, 8, none⟩) 1 1, .slice (some ⟨B, 0, none⟩) 2 3] 27))
  refine hK.out _ _ (HCC.out _ ((Below.block hb B HB6lt).trans HL6.out)) (fun hHeld => ?_)
  clear hK K
  try simp only [Act.put, List.setIfInBounds_toArray, List.set_cons_zero, List.set_cons_succ]
  obtain ⟨w7, hw⟩ : ∃ z, z = World.alloc w6 (.cells #[.slice (some ⟨B, 8, none⟩) 1 1, .slice (some ⟨B, 0, none⟩) 2 3] 27) := ⟨_, rfl⟩
  rw [← hw] at hHeld HLITm hb ⊢
  clear hw
  obtain ⟨Bm, hBm⟩ : ∃ b, b = w6.heap.size := ⟨_, rfl⟩
  rw [← hBm] at HLITm ⊢
  clear hBm
  have HB7 := Lib.hid (HB6.out.trans hb)
  have HL7 := Lib.hid ((Below.block hb B HB6lt).trans HL6.out)
  have HB7lt : B < w7.heap.size := (Array.getElem?_eq_some_iff.1 HL7.out).1
  clear hb
  refine wpAnyH_ready (rs := [18]) (by kernel_rfl) (by simp) ?_
  refine AllReadyH.cons (o := { dst := some 26, op := Op.call { callee := Callee.value (Operand.func 11), args := #[Operand.tmp 25], argTypes := #[22] }, type := 27, pos := "law.go:57", after := #[{ on := 17, ground := Ground.data }, { on := 12, ground := Ground.chain }, { on := 12, ground := Ground.guard }], guard := some (12, true) }) rfl (fun K hK => ?_) AllReadyH.nil
  go_simp
  refine (KG.mrg_is (some ⟨Bm, 0, none⟩) 2 [[x3], [x1, x2]] e3L w7 ex_mrg (KG.okBel HOK.out HB7.out) (rows_lit2 HLITm.out (EN2.out _ HL7.out) (EN3.out _ HL7.out)) (by decide) (by decide) ex_rows).mono ?_
  rintro r w8 ⟨pm, cm, rfl, he, hcap, hb⟩
  have HB8 := Lib.hid (HB7.out.trans hb)
  have HEm := Lib.hid (show EntsAt w8 pm e3L from he)
  have HL8 := Lib.hid ((Below.block hb B HB7lt).trans HL7.out)
  have HB8lt : B < w8.heap.size := (Array.getElem?_eq_some_iff.1 HL8.out).1
  dsimp only
  refine hK.out _ _ (HCC.out _ HL8.out) (fun hHeld => ?_)
  clear hK K
  try simp only [Act.put, List.setIfInBounds_toArray, List.set_cons_zero, List.set_cons_succ]
  clear he hb
  refine wpAnyH_ready (rs := [20]) (by kernel_rfl) (by simp) ?_
  refine AllReadyH.cons (o := { dst := some 28, op := Op.call { callee := Callee.value (Operand.func 13), args := #[Operand.tmp 26, Operand.tmp 27], argTypes := #[27, 27] }, type := 4, pos := "law.go:57", after := #[{ on := 18, ground := Ground.data }, { on := 19, ground := Ground.data }, { on := 18, ground := Ground.chain }, { on := 12, ground := Ground.guard }], guard := some (12, true) }) rfl (fun K hK => ?_) AllReadyH.nil
  go_simp
  refine (same12_at pm (some ⟨B, 0, none⟩) 3 3 cm 3 e3L w8 HEm.out (EN0.out _ HL8.out) (by decide) rfl rfl).mono ?_
  rintro r w9 ⟨rfl, hb⟩
  replace hb := hb.bel
  have HB9 := Lib.hid (HB8.out.trans hb)
  have HL9 := Lib.hid ((Below.block hb B HB8lt).trans HL8.out)
  have HB9lt : B < w9.heap.size := (Array.getElem?_eq_some_iff.1 HL9.out).1
  dsimp only
  refine hK.out _ _ (HCC.out _ HL9.out) (fun hHeld => ?_)
  clear hK K
  try simp only [Act.put, List.setIfInBounds_toArray, List.set_cons_zero, List.set_cons_succ]
  clear hb
  refine wpAnyH_take (i := 21) (oi := { dst := some 29, op := Op.pick (Operand.tmp 20) (Operand.tmp 28) (Operand.const (Value.bool false)), type := 4, pos := "law.go:57", after := #[{ on := 12, ground := Ground.data }, { on := 20, ground := Ground.data }], guard := none }) (v := ?_) rfl (by kernel_rfl) (by kernel_rfl) (by kernel_rfl) (fun _ _ _ h => h) (Or.inl ⟨by rfl, ?_⟩) (by assumption) ?_
  rotate_left
  · (intro w hSw; (try dsimp only at hSw); first | (go_simp; done) | (go_simp; with_reducible rfl))
  try simp only [Act.put, List.setIfInBounds_toArray, List.set_cons_zero, List.set_cons_succ]
  refine wpAnyH_take (i := 22) (oi := { dst := some 2, op := Op.assign (Operand.tmp 29), type := 4, pos := "law.go:57", after := #[{ on := 21, ground := Ground.data }, { on := 20, ground := Ground.chain }, { on := 0, ground := Ground.phase }, { on := 1, ground := Ground.phase }, { on := 2, ground := Ground.phase }, { on := 3, ground := Ground.phase }, { on := 4, ground := Ground.phase }, { on := 5, ground := Ground.phase }, { on := 6, ground := Ground.phase }, { on := 7, ground := Ground.phase }, { on := 8, ground := Ground.phase }, { on := 9, ground := Ground.phase }, { on := 10, ground := Ground.phase }, { on := 11, ground := Ground.phase }, { on := 12, ground := Ground.phase }, { on := 13, ground := Ground.phase }, { on := 14, ground := Ground.phase }, { on := 15, ground := Ground.phase }, { on := 16, ground := Ground.phase }, { on := 17, ground := Ground.phase }, { on := 18, ground := Ground.phase }, { on := 19, ground := Ground.phase }, { on := 20, ground := Ground.phase }, { on := 21, ground := Ground.phase }], guard := none }) (v := ?_) rfl (by kernel_rfl) (by kernel_rfl) (by kernel_rfl) (fun _ _ _ h => h) (Or.inl ⟨by rfl, ?_⟩) (by assumption) ?_
  rotate_left
  · (intro w hSw; (try dsimp only at hSw); first | (go_simp; done) | (go_simp; with_reducible rfl))
  try simp only [Act.put, List.setIfInBounds_toArray, List.set_cons_zero, List.set_cons_succ]
  refine wpAnyH_done (by kernel_rfl) ?_ _
  clear hHeld
  go_wp2_with (fail)
  refine wp_region_held_drew (S := fun z => z.cell? ⟨B, 0, none⟩ = some (.string ⟨#[97]⟩) ∧ z.cell? ⟨B, 1, none⟩ = some (.int .i64 5) ∧ z.cell? ⟨B, 2, none⟩ = some (.bool true) ∧ z.cell? ⟨B, 3, none⟩ = some (.string ⟨#[]⟩) ∧ z.cell? ⟨B, 8, none⟩ = some (.string ⟨#[98]⟩) ∧ z.cell? ⟨B, 9, none⟩ = some (.int .i64 4) ∧ z.cell? ⟨B, 10, none⟩ = some (.bool false) ∧ z.cell? ⟨B, 11, none⟩ = some (.string ⟨#[120]⟩)) (by kernel_rfl) (HCC.out _ HL9.out) (fun hHeld => ?_)
  obtain ⟨w10, hw⟩ : ∃ z, z = World.drew w9 := ⟨_, rfl⟩
  have hb : Bel w9 w10 := by rw [hw]; exact (Bel.refl _).drew
  rw [← hw] at hHeld ⊢
  clear hw
  have HB10 := Lib.hid (HB9.out.trans hb)
  have HL10 := Lib.hid ((Below.block hb B HB9lt).trans HL9.out)
  have HB10lt : B < w10.heap.size := (Array.getElem?_eq_some_iff.1 HL10.out).1
  clear hb
  refine wpAnyH_take (i := 0) (oi := { dst := some 30, op := Op.move (Operand.tmp 1), type := 27, pos := "law.go:58", after := #[], guard := none }) (v := ?_) rfl (by kernel_rfl) (by kernel_rfl) (by kernel_rfl) (fun _ _ _ h => h) (Or.inl ⟨by rfl, ?_⟩) (by assumption) ?_
  rotate_left
  · (intro w hSw; (try dsimp only at hSw); first | (go_simp; done) | (go_simp; with_reducible rfl))
  try simp only [Act.put, List.setIfInBounds_toArray, List.set_cons_zero, List.set_cons_succ]
  refine wpAnyH_take (i := 2) (oi := { dst := some 32, op := Op.move (Operand.tmp 1), type := 27, pos := "law.go:58", after := #[], guard := none }) (v := ?_) rfl (by kernel_rfl) (by kernel_rfl) (by kernel_rfl) (fun _ _ _ h => h) (Or.inl ⟨by rfl, ?_⟩) (by assumption) ?_
  rotate_left
  · (intro w hSw; (try dsimp only at hSw); first | (go_simp; done) | (go_simp; with_reducible rfl))
  try simp only [Act.put, List.setIfInBounds_toArray, List.set_cons_zero, List.set_cons_succ]
  refine wpAnyH_take (i := 3) (oi := { dst := some 33, op := Op.indexAddr 27 (Operand.tmp 32) (Operand.const (Value.int IntKind.i64 0)), type := 0, pos := "law.go:58", after := #[{ on := 2, ground := Ground.data }], guard := none }) (v := ?_) rfl (by kernel_rfl) (by kernel_rfl) (by kernel_rfl) (fun _ _ _ h => h) (Or.inl ⟨by rfl, ?_⟩) (by assumption) ?_
  rotate_left
  · (intro w hSw; (try dsimp only at hSw); first | (go_simp; done) | (go_simp; with_reducible rfl))
  try simp only [Act.put, List.setIfInBounds_toArray, List.set_cons_zero, List.set_cons_succ]
  refine wpAnyH_take (i := 5) (oi := { dst := some 35, op := Op.move (Operand.tmp 1), type := 27, pos := "law.go:58", after := #[], guard := none }) (v := ?_) rfl (by kernel_rfl) (by kernel_rfl) (by kernel_rfl) (fun _ _ _ h => h) (Or.inl ⟨by rfl, ?_⟩) (by assumption) ?_
  rotate_left
  · (intro w hSw; (try dsimp only at hSw); first | (go_simp; done) | (go_simp; with_reducible rfl))
  try simp only [Act.put, List.setIfInBounds_toArray, List.set_cons_zero, List.set_cons_succ]
  refine wpAnyH_take (i := 6) (oi := { dst := some 36, op := Op.indexAddr 27 (Operand.tmp 35) (Operand.const (Value.int IntKind.i64 2)), type := 0, pos := "law.go:58", after := #[{ on := 5, ground := Ground.data }], guard := none }) (v := ?_) rfl (by kernel_rfl) (by kernel_rfl) (by kernel_rfl) (fun _ _ _ h => h) (Or.inl ⟨by rfl, ?_⟩) (by assumption) ?_
  rotate_left
  · (intro w hSw; (try dsimp only at hSw); first | (go_simp; done) | (go_simp; with_reducible rfl))
  try simp only [Act.put, List.setIfInBounds_toArray, List.set_cons_zero, List.set_cons_succ]
  refine wpAnyH_take (i := 4) (oi := { dst := some 34, op := Op.load 36 (Operand.tmp 33), type := 36, pos := "law.go:58", after := #[{ on := 3, ground := Ground.data }], guard := none }) (v := ?_) rfl (by kernel_rfl) (by kernel_rfl) (by kernel_rfl) (fun _ _ _ h => h) (Or.inl ⟨by rfl, ?_⟩) (by assumption) ?_
  rotate_left
  · (intro w hSw; (try dsimp only at hSw); first | (go_simp; done) | (go_simp; with_reducible rfl))
  try simp only [Act.put, List.setIfInBounds_toArray, List.set_cons_zero, List.set_cons_succ]
  refine wpAnyH_take (i := 7) (oi := { dst := some 37, op := Op.load 36 (Operand.tmp 36), type := 36, pos := "law.go:58", after := #[{ on := 6, ground := Ground.data }], guard := none }) (v := ?_) rfl (by kernel_rfl) (by kernel_rfl) (by kernel_rfl) (fun _ _ _ h => h) (Or.inl ⟨by rfl, ?_⟩) (by assumption) ?_
  rotate_left
  · (intro w hSw; (try dsimp only at hSw); first | (go_simp; done) | (go_simp; with_reducible rfl))
  try simp only [Act.put, List.setIfInBounds_toArray, List.set_cons_zero, List.set_cons_succ]
  refine wpAnyH_ready (rs := [1, 8]) (by kernel_rfl) (by simp) ?_
  refine (AllReadyH.cons (o := { dst := some 31, op := Op.call { callee := Callee.value (Operand.func 16), args := #[Operand.tmp 30, Operand.const (Value.slice none 0 0), Operand.const (Value.bool false)], argTypes := #[27, 23, 4] }, type := 27, pos := "law.go:58", after := #[{ on := 0, ground := Ground.data }], guard := none }) rfl (fun K hK => ?_) (AllReadyH.cons (o := { dst := some 38, op := Op.buildSlice 27 2 #[(0, Operand.tmp 34), (1, Operand.tmp 37)], type := 27, pos := "law.go:58", after := #[{ on := 4, ground := Ground.data }, { on := 7, ground := Ground.data }], guard := none }) rfl (fun K hK => ?_) AllReadyH.nil))
  · go_simp
    refine (KG.thin_is (some ⟨B, 0, none⟩) none 3 0 e3L [x1, x3] [] false w10 ex_thin0 (KG.okBel HOK.out HB10.out) (EN0.out _ HL10.out) (by decide) (ints_nil12 _ _) e3_srt (by decide) (by decide) e3_fits e3_q).mono ?_
    rintro r w11 ⟨pt, ct, rfl, he, hcap, hb⟩
    have HB11 := Lib.hid (HB10.out.trans hb)
    have HEt := Lib.hid (show EntsAt w11 pt [x1, x3] from he)
    have HL11 := Lib.hid ((Below.block hb B HB10lt).trans HL10.out)
    have HB11lt : B < w11.heap.size := (Array.getElem?_eq_some_iff.1 HL11.out).1
    dsimp only
    refine hK.out _ _ (HCC.out _ HL11.out) (fun hHeld => ?_)
    clear hK K
    try simp only [Act.put, List.setIfInBounds_toArray, List.set_cons_zero, List.set_cons_succ]
    clear he hb
    refine wpAnyH_ready (rs := [8]) (by kernel_rfl) (by simp) ?_
    refine AllReadyH.cons (o := { dst := some 38, op := Op.buildSlice 27 2 #[(0, Operand.tmp 34), (1, Operand.tmp 37)], type := 27, pos := "law.go:58", after := #[{ on := 4, ground := Ground.data }, { on := 7, ground := Ground.data }], guard := none }) rfl (fun K hK => ?_) AllReadyH.nil
    go_simp
    have hb := (Bel.refl w11).alloc (.cells #[.string ⟨#[97]⟩, .int .i64 5, .bool true, .string ⟨#[]⟩, .string ⟨#[98]⟩, .int .i64 4, .bool false, .string ⟨#[120]⟩] 36)
    have HLITx := Lib.hid (tnew12 w11 (.cells #[.string ⟨#[97]⟩, .int .i64 5, .bool true, .string ⟨#[]⟩, .string ⟨#[98]⟩, .int .i64 4, .bool false, .string ⟨#[120]⟩] 36))
    refine hK.out _ _ (HCC.out _ ((Below.block hb B HB11lt).trans HL11.out)) (fun hHeld => ?_)
    clear hK K
    try simp only [Act.put, List.setIfInBounds_toArray, List.set_cons_zero, List.set_cons_succ]
    obtain ⟨w12, hw⟩ : ∃ z, z = World.alloc w11 (.cells #[.string ⟨#[97]⟩, .int .i64 5, .bool true, .string ⟨#[]⟩, .string ⟨#[98]⟩, .int .i64 4, .bool false, .string ⟨#[120]⟩] 36) := ⟨_, rfl⟩
    rw [← hw] at hHeld HLITx hb ⊢
    clear hw
    obtain ⟨Bx, hBx⟩ : ∃ b, b = w11.heap.size := ⟨_, rfl⟩
    rw [← hBx] at HLITx ⊢
    clear hBx
    have HB12 := Lib.hid (HB11.out.trans hb)
    have HL12 := Lib.hid ((Below.block hb B HB11lt).trans HL11.out)
    have HB12lt : B < w12.heap.size := (Array.getElem?_eq_some_iff.1 HL12.out).1
    have hbx := hb
    clear hb
    have HEt2 := Lib.hid (HEt.out.bel (show Bel w11 w12 from hbx))
    refine wpAnyH_ready (rs := [9]) (by kernel_rfl) (by simp) ?_
    refine AllReadyH.cons (o := { dst := some 39, op := Op.call { callee := Callee.value (Operand.func 13), args := #[Operand.tmp 31, Operand.tmp 38], argTypes := #[27, 27] }, type := 4, pos := "law.go:58", after := #[{ on := 1, ground := Ground.data }, { on := 8, ground := Ground.data }, { on := 1, ground := Ground.chain }], guard := none }) rfl (fun K hK => ?_) AllReadyH.nil
    go_simp
    refine (same12_at pt (some ⟨Bx, 0, none⟩) 2 2 ct 2 [x1, x3] w12 (HEt2.out) (ents_lit12 HLITx.out rfl) (by decide) rfl rfl).mono ?_
    rintro r w13 ⟨rfl, hb⟩
    replace hb := hb.bel
    have HB13 := Lib.hid (HB12.out.trans hb)
    have HL13 := Lib.hid ((Below.block hb B HB12lt).trans HL12.out)
    have HB13lt : B < w13.heap.size := (Array.getElem?_eq_some_iff.1 HL13.out).1
    dsimp only
    refine hK.out _ _ (HCC.out _ HL13.out) (fun hHeld => ?_)
    clear hK K
    try simp only [Act.put, List.setIfInBounds_toArray, List.set_cons_zero, List.set_cons_succ]
    clear hb
    refine wpAnyH_take (i := 10) (oi := { dst := some 40, op := Op.move (Operand.tmp 39), type := 4, pos := "law.go:58", after := #[{ on := 9, ground := Ground.data }, { on := 9, ground := Ground.chain }], guard := none }) (v := ?_) rfl (by kernel_rfl) (by kernel_rfl) (by kernel_rfl) (fun _ _ _ h => h) (Or.inl ⟨by rfl, ?_⟩) (by assumption) ?_
    rotate_left
    · (intro w hSw; (try dsimp only at hSw); first | (go_simp; done) | (go_simp; with_reducible rfl))
    try simp only [Act.put, List.setIfInBounds_toArray, List.set_cons_zero, List.set_cons_succ]
    refine wpAnyH_take (i := 11) (oi := { dst := some 41, op := Op.move (Operand.tmp 1), type := 27, pos := "law.go:58", after := #[{ on := 10, ground := Ground.guard }], guard := some (10, true) }) (v := ?_) rfl (by kernel_rfl) (by kernel_rfl) (by kernel_rfl) (fun _ _ _ h => h) (Or.inl ⟨by rfl, ?_⟩) (by assumption) ?_
    rotate_left
    · (intro w hSw; (try dsimp only at hSw); first | (go_simp; done) | (go_simp; with_reducible rfl))
    try simp only [Act.put, List.setIfInBounds_toArray, List.set_cons_zero, List.set_cons_succ]
    refine wpAnyH_take (i := 14) (oi := { dst := some 44, op := Op.move (Operand.tmp 1), type := 27, pos := "law.go:58", after := #[{ on := 10, ground := Ground.guard }], guard := some (10, true) }) (v := ?_) rfl (by kernel_rfl) (by kernel_rfl) (by kernel_rfl) (fun _ _ _ h => h) (Or.inl ⟨by rfl, ?_⟩) (by assumption) ?_
    rotate_left
    · (intro w hSw; (try dsimp only at hSw); first | (go_simp; done) | (go_simp; with_reducible rfl))
    try simp only [Act.put, List.setIfInBounds_toArray, List.set_cons_zero, List.set_cons_succ]
    refine wpAnyH_ready (rs := [12]) (by kernel_rfl) (by simp) ?_
    refine AllReadyH.cons (o := { dst := some 42, op := Op.buildSlice 23 1 #[(0, Operand.const (Value.int IntKind.i64 4))], type := 23, pos := "law.go:58", after := #[{ on := 10, ground := Ground.guard }], guard := some (10, true) }) rfl (fun K hK => ?_) AllReadyH.nil
    go_simp
    have hb := (Bel.refl w13).alloc (.cells #[.int .i64 4] 3)
    have HLITi := Lib.hid (tnew12 w13 (.cells #[.int .i64 4] 3))
    refine hK.out _ _ (HCC.out _ ((Below.block hb B HB13lt).trans HL13.out)) (fun hHeld => ?_)
    clear hK K
    try simp only [Act.put, List.setIfInBounds_toArray, List.set_cons_zero, List.set_cons_succ]
    obtain ⟨w14, hw⟩ : ∃ z, z = World.alloc w13 (.cells #[.int .i64 4] 3) := ⟨_, rfl⟩
    rw [← hw] at hHeld HLITi hb ⊢
    clear hw
    obtain ⟨Bi, hBi⟩ : ∃ b, b = w13.heap.size := ⟨_, rfl⟩
    rw [← hBi] at HLITi ⊢
    clear hBi
    have HB14 := Lib.hid (HB13.out.trans hb)
    have HL14 := Lib.hid ((Below.block hb B HB13lt).trans HL13.out)
    have HB14lt : B < w14.heap.size := (Array.getElem?_eq_some_iff.1 HL14.out).1
    clear hb
    refine wpAnyH_ready (rs := [13]) (by kernel_rfl) (by simp) ?_
    refine AllReadyH.cons (o := { dst := some 43, op := Op.call { callee := Callee.value (Operand.func 16), args := #[Operand.tmp 41, Operand.tmp 42, Operand.const (Value.bool false)], argTypes := #[27, 23, 4] }, type := 27, pos := "law.go:58", after := #[{ on := 11, ground := Ground.data }, { on := 12, ground := Ground.data }, { on := 10, ground := Ground.chain }, { on := 10, ground := Ground.guard }], guard := some (10, true) }) rfl (fun K hK => ?_) AllReadyH.nil
    go_simp
    refine (KG.thin_is (some ⟨B, 0, none⟩) (some ⟨Bi, 0, none⟩) 3 1 e3L e3L [4] false w14 ex_thin4 (KG.okBel HOK.out HB14.out) (EN0.out _ HL14.out) (by decide) (ints_one12 HLITi.out) e3_srt (by decide) (by decide) e3_fits e3_q).mono ?_
    rintro r w15 ⟨ps, cs, rfl, he, hcap, hb⟩
    have HB15 := Lib.hid (HB14.out.trans hb)
    have HEs := Lib.hid (show EntsAt w15 ps e3L from he)
    have HL15 := Lib.hid ((Below.block hb B HB14lt).trans HL14.out)
    have HB15lt : B < w15.heap.size := (Array.getElem?_eq_some_iff.1 HL15.out).1
    dsimp only
    refine hK.out _ _ (HCC.out _ HL15.out) (fun hHeld => ?_)
    clear hK K
    try simp only [Act.put, List.setIfInBounds_toArray, List.set_cons_zero, List.set_cons_succ]
    clear he hb
    refine wpAnyH_ready (rs := [15]) (by kernel_rfl) (by simp) ?_
    refine AllReadyH.cons (o := { dst := some 45, op := Op.call { callee := Callee.value (Operand.func 13), args := #[Operand.tmp 43, Operand.tmp 44], argTypes := #[27, 27] }, type := 4, pos := "law.go:58", after := #[{ on := 13, ground := Ground.data }, { on := 14, ground := Ground.data }, { on := 13, ground := Ground.chain }, { on := 10, ground := Ground.guard }], guard := some (10, true) }) rfl (fun K hK => ?_) AllReadyH.nil
    go_simp
    refine (same12_at ps (some ⟨B, 0, none⟩) 3 3 cs 3 e3L w15 HEs.out (EN0.out _ HL15.out) (by decide) rfl rfl).mono ?_
    rintro r w16 ⟨rfl, hb⟩
    replace hb := hb.bel
    have HB16 := Lib.hid (HB15.out.trans hb)
    have HL16 := Lib.hid ((Below.block hb B HB15lt).trans HL15.out)
    have HB16lt : B < w16.heap.size := (Array.getElem?_eq_some_iff.1 HL16.out).1
    dsimp only
    refine hK.out _ _ (HCC.out _ HL16.out) (fun hHeld => ?_)
    clear hK K
    try simp only [Act.put, List.setIfInBounds_toArray, List.set_cons_zero, List.set_cons_succ]
    clear hb
    refine wpAnyH_take (i := 16) (oi := { dst := some 46, op := Op.pick (Operand.tmp 40) (Operand.tmp 45) (Operand.const (Value.bool false)), type := 4, pos := "law.go:58", after := #[{ on := 10, ground := Ground.data }, { on := 15, ground := Ground.data }], guard := none }) (v := ?_) rfl (by kernel_rfl) (by kernel_rfl) (by kernel_rfl) (fun _ _ _ h => h) (Or.inl ⟨by rfl, ?_⟩) (by assumption) ?_
    rotate_left
    · (intro w hSw; (try dsimp only at hSw); first | (go_simp; done) | (go_simp; with_reducible rfl))
    try simp only [Act.put, List.setIfInBounds_toArray, List.set_cons_zero, List.set_cons_succ]
    refine wpAnyH_take (i := 17) (oi := { dst := some 47, op := Op.move (Operand.tmp 46), type := 4, pos := "law.go:58", after := #[{ on := 16, ground := Ground.data }, { on := 15, ground := Ground.chain }], guard := none }) (v := ?_) rfl (by kernel_rfl) (by kernel_rfl) (by kernel_rfl) (fun _ _ _ h => h) (Or.inl ⟨by rfl, ?_⟩) (by assumption) ?_
    rotate_left
    · (intro w hSw; (try dsimp only at hSw); first | (go_simp; done) | (go_simp; with_reducible rfl))
    try simp only [Act.put, List.setIfInBounds_toArray, List.set_cons_zero, List.set_cons_succ]
    refine wpAnyH_take (i := 18) (oi := { dst := some 48, op := Op.move (Operand.tmp 1), type := 27, pos := "law.go:58", after := #[{ on := 17, ground := Ground.guard }], guard := some (17, true) }) (v := ?_) rfl (by kernel_rfl) (by kernel_rfl) (by kernel_rfl) (fun _ _ _ h => h) (Or.inl ⟨by rfl, ?_⟩) (by assumption) ?_
    rotate_left
    · (intro w hSw; (try dsimp only at hSw); first | (go_simp; done) | (go_simp; with_reducible rfl))
    try simp only [Act.put, List.setIfInBounds_toArray, List.set_cons_zero, List.set_cons_succ]
    refine wpAnyH_take (i := 20) (oi := { dst := some 50, op := Op.move (Operand.tmp 1), type := 27, pos := "law.go:58", after := #[{ on := 17, ground := Ground.guard }], guard := some (17, true) }) (v := ?_) rfl (by kernel_rfl) (by kernel_rfl) (by kernel_rfl) (fun _ _ _ h => h) (Or.inl ⟨by rfl, ?_⟩) (by assumption) ?_
    rotate_left
    · (intro w hSw; (try dsimp only at hSw); first | (go_simp; done) | (go_simp; with_reducible rfl))
    try simp only [Act.put, List.setIfInBounds_toArray, List.set_cons_zero, List.set_cons_succ]
    refine wpAnyH_take (i := 21) (oi := { dst := some 51, op := Op.slice 27 (Operand.tmp 50) (some (Operand.const (Value.int IntKind.i64 2))) none none, type := 27, pos := "law.go:58", after := #[{ on := 20, ground := Ground.data }, { on := 17, ground := Ground.guard }], guard := some (17, true) }) (v := ?_) rfl (by kernel_rfl) (by kernel_rfl) (by kernel_rfl) (fun _ _ _ h => h) (Or.inl ⟨by rfl, ?_⟩) (by assumption) ?_
    rotate_left
    · (intro w hSw; (try dsimp only at hSw); first | (go_simp; done) | (go_simp; with_reducible rfl))
    try simp only [Act.put, List.setIfInBounds_toArray, List.set_cons_zero, List.set_cons_succ]
    refine wpAnyH_ready (rs := [19]) (by kernel_rfl) (by simp) ?_
    refine AllReadyH.cons (o := { dst := some 49, op := Op.call { callee := Callee.value (Operand.func 16), args := #[Operand.tmp 48, Operand.const (Value.slice none 0 0), Operand.const (Value.bool true)], argTypes := #[27, 23, 4] }, type := 27, pos := "law.go:58", after := #[{ on := 18, ground := Ground.data }, { on := 17, ground := Ground.chain }, { on := 17, ground := Ground.guard }], guard := some (17, true) }) rfl (fun K hK => ?_) AllReadyH.nil
    go_simp
    refine (KG.thin_is (some ⟨B, 0, none⟩) none 3 0 e3L [x3] [] true w16 ex_thinT (KG.okBel HOK.out HB16.out) (EN0.out _ HL16.out) (by decide) (ints_nil12 _ _) e3_srt (by decide) (by decide) e3_fits e3_q).mono ?_
    rintro r w17 ⟨pr, cr, rfl, he, hcap, hb⟩
    have HB17 := Lib.hid (HB16.out.trans hb)
    have HEr := Lib.hid (show EntsAt w17 pr [x3] from he)
    have HL17 := Lib.hid ((Below.block hb B HB16lt).trans HL16.out)
    have HB17lt : B < w17.heap.size := (Array.getElem?_eq_some_iff.1 HL17.out).1
    dsimp only
    refine hK.out _ _ (HCC.out _ HL17.out) (fun hHeld => ?_)
    clear hK K
    try simp only [Act.put, List.setIfInBounds_toArray, List.set_cons_zero, List.set_cons_succ]
    clear he hb
    refine wpAnyH_ready (rs := [22]) (by kernel_rfl) (by simp) ?_
    refine AllReadyH.cons (o := { dst := some 52, op := Op.call { callee := Callee.value (Operand.func 13), args := #[Operand.tmp 49, Operand.tmp 51], argTypes := #[27, 27] }, type := 4, pos := "law.go:58", after := #[{ on := 19, ground := Ground.data }, { on := 21, ground := Ground.data }, { on := 19, ground := Ground.chain }, { on := 17, ground := Ground.guard }], guard := some (17, true) }) rfl (fun K hK => ?_) AllReadyH.nil
    go_simp
    refine (same12_at pr (some ⟨B, 8, none⟩) 1 1 cr 1 [x3] w17 HEr.out (EN2.out _ HL17.out) (by decide) rfl rfl).mono ?_
    rintro r w18 ⟨rfl, hb⟩
    replace hb := hb.bel
    have HB18 := Lib.hid (HB17.out.trans hb)
    have HL18 := Lib.hid ((Below.block hb B HB17lt).trans HL17.out)
    have HB18lt : B < w18.heap.size := (Array.getElem?_eq_some_iff.1 HL18.out).1
    dsimp only
    refine hK.out _ _ (HCC.out _ HL18.out) (fun hHeld => ?_)
    clear hK K
    try simp only [Act.put, List.setIfInBounds_toArray, List.set_cons_zero, List.set_cons_succ]
    clear hb
    refine wpAnyH_take (i := 23) (oi := { dst := some 53, op := Op.pick (Operand.tmp 47) (Operand.tmp 52) (Operand.const (Value.bool false)), type := 4, pos := "law.go:58", after := #[{ on := 17, ground := Ground.data }, { on := 22, ground := Ground.data }], guard := none }) (v := ?_) rfl (by kernel_rfl) (by kernel_rfl) (by kernel_rfl) (fun _ _ _ h => h) (Or.inl ⟨by rfl, ?_⟩) (by assumption) ?_
    rotate_left
    · (intro w hSw; (try dsimp only at hSw); first | (go_simp; done) | (go_simp; with_reducible rfl))
    try simp only [Act.put, List.setIfInBounds_toArray, List.set_cons_zero, List.set_cons_succ]
    refine wpAnyH_take (i := 24) (oi := { dst := some 3, op := Op.assign (Operand.tmp 53), type := 4, pos := "law.go:58", after := #[{ on := 23, ground := Ground.data }, { on := 22, ground := Ground.chain }, { on := 0, ground := Ground.phase }, { on := 1, ground := Ground.phase }, { on := 2, ground := Ground.phase }, { on := 3, ground := Ground.phase }, { on := 4, ground := Ground.phase }, { on := 5, ground := Ground.phase }, { on := 6, ground := Ground.phase }, { on := 7, ground := Ground.phase }, { on := 8, ground := Ground.phase }, { on := 9, ground := Ground.phase }, { on := 10, ground := Ground.phase }, { on := 11, ground := Ground.phase }, { on := 12, ground := Ground.phase }, { on := 13, ground := Ground.phase }, { on := 14, ground := Ground.phase }, { on := 15, ground := Ground.phase }, { on := 16, ground := Ground.phase }, { on := 17, ground := Ground.phase }, { on := 18, ground := Ground.phase }, { on := 19, ground := Ground.phase }, { on := 20, ground := Ground.phase }, { on := 21, ground := Ground.phase }, { on := 22, ground := Ground.phase }, { on := 23, ground := Ground.phase }], guard := none }) (v := ?_) rfl (by kernel_rfl) (by kernel_rfl) (by kernel_rfl) (fun _ _ _ h => h) (Or.inl ⟨by rfl, ?_⟩) (by assumption) ?_
    rotate_left
    · (intro w hSw; (try dsimp only at hSw); first | (go_simp; done) | (go_simp; with_reducible rfl))
    try simp only [Act.put, List.setIfInBounds_toArray, List.set_cons_zero, List.set_cons_succ]
    refine wpAnyH_done (by kernel_rfl) ?_ _
    clear hHeld
    go_wp2_with (fail)
    refine wp_region_held_drew (S := fun z => z.cell? ⟨B, 0, none⟩ = some (.string ⟨#[97]⟩) ∧ z.cell? ⟨B, 1, none⟩ = some (.int .i64 5) ∧ z.cell? ⟨B, 2, none⟩ = some (.bool true) ∧ z.cell? ⟨B, 3, none⟩ = some (.string ⟨#[]⟩) ∧ z.cell? ⟨B, 8, none⟩ = some (.string ⟨#[98]⟩) ∧ z.cell? ⟨B, 9, none⟩ = some (.int .i64 4) ∧ z.cell? ⟨B, 10, none⟩ = some (.bool false) ∧ z.cell? ⟨B, 11, none⟩ = some (.string ⟨#[120]⟩)) (by kernel_rfl) (HCC.out _ HL18.out) (fun hHeld => ?_)
    obtain ⟨w19, hw⟩ : ∃ z, z = World.drew w18 := ⟨_, rfl⟩
    have hb : Bel w18 w19 := by rw [hw]; exact (Bel.refl _).drew
    rw [← hw] at hHeld ⊢
    clear hw
    have HB19 := Lib.hid (HB18.out.trans hb)
    have HL19 := Lib.hid ((Below.block hb B HB18lt).trans HL18.out)
    have HB19lt : B < w19.heap.size := (Array.getElem?_eq_some_iff.1 HL19.out).1
    clear hb
    refine wpAnyH_take (i := 0) (oi := { dst := some 54, op := Op.move (Operand.tmp 2), type := 4, pos := "law.go:59", after := #[], guard := none }) (v := ?_) rfl (by kernel_rfl) (by kernel_rfl) (by kernel_rfl) (fun _ _ _ h => h) (Or.inl ⟨by rfl, ?_⟩) (by assumption) ?_
    rotate_left
    · (intro w hSw; (try dsimp only at hSw); first | (go_simp; done) | (go_simp; with_reducible rfl))
    try simp only [Act.put, List.setIfInBounds_toArray, List.set_cons_zero, List.set_cons_succ]
    refine wpAnyH_take (i := 1) (oi := { dst := some 55, op := Op.move (Operand.tmp 54), type := 4, pos := "law.go:59", after := #[{ on := 0, ground := Ground.data }], guard := none }) (v := ?_) rfl (by kernel_rfl) (by kernel_rfl) (by kernel_rfl) (fun _ _ _ h => h) (Or.inl ⟨by rfl, ?_⟩) (by assumption) ?_
    rotate_left
    · (intro w hSw; (try dsimp only at hSw); first | (go_simp; done) | (go_simp; with_reducible rfl))
    try simp only [Act.put, List.setIfInBounds_toArray, List.set_cons_zero, List.set_cons_succ]
    refine wpAnyH_take (i := 2) (oi := { dst := some 56, op := Op.move (Operand.tmp 3), type := 4, pos := "law.go:59", after := #[{ on := 1, ground := Ground.guard }], guard := some (1, true) }) (v := ?_) rfl (by kernel_rfl) (by kernel_rfl) (by kernel_rfl) (fun _ _ _ h => h) (Or.inl ⟨by rfl, ?_⟩) (by assumption) ?_
    rotate_left
    · (intro w hSw; (try dsimp only at hSw); first | (go_simp; done) | (go_simp; with_reducible rfl))
    try simp only [Act.put, List.setIfInBounds_toArray, List.set_cons_zero, List.set_cons_succ]
    refine wpAnyH_take (i := 3) (oi := { dst := some 57, op := Op.pick (Operand.tmp 55) (Operand.tmp 56) (Operand.const (Value.bool false)), type := 4, pos := "law.go:59", after := #[{ on := 1, ground := Ground.data }, { on := 2, ground := Ground.data }], guard := none }) (v := ?_) rfl (by kernel_rfl) (by kernel_rfl) (by kernel_rfl) (fun _ _ _ h => h) (Or.inl ⟨by rfl, ?_⟩) (by assumption) ?_
    rotate_left
    · (intro w hSw; (try dsimp only at hSw); first | (go_simp; done) | (go_simp; with_reducible rfl))
    try simp only [Act.put, List.setIfInBounds_toArray, List.set_cons_zero, List.set_cons_succ]
    refine wpAnyH_take (i := 4) (oi := { dst := some 58, op := Op.move (Operand.tmp 57), type := 4, pos := "law.go:59", after := #[{ on := 3, ground := Ground.data }, { on := 1, ground := Ground.chain }], guard := none }) (v := ?_) rfl (by kernel_rfl) (by kernel_rfl) (by kernel_rfl) (fun _ _ _ h => h) (Or.inl ⟨by rfl, ?_⟩) (by assumption) ?_
    rotate_left
    · (intro w hSw; (try dsimp only at hSw); first | (go_simp; done) | (go_simp; with_reducible rfl))
    try simp only [Act.put, List.setIfInBounds_toArray, List.set_cons_zero, List.set_cons_succ]
    refine wpAnyH_take (i := 5) (oi := { dst := some 59, op := Op.move (Operand.tmp 1), type := 27, pos := "law.go:59", after := #[{ on := 4, ground := Ground.guard }], guard := some (4, true) }) (v := ?_) rfl (by kernel_rfl) (by kernel_rfl) (by kernel_rfl) (fun _ _ _ h => h) (Or.inl ⟨by rfl, ?_⟩) (by assumption) ?_
    rotate_left
    · (intro w hSw; (try dsimp only at hSw); first | (go_simp; done) | (go_simp; with_reducible rfl))
    try simp only [Act.put, List.setIfInBounds_toArray, List.set_cons_zero, List.set_cons_succ]
    refine wpAnyH_ready (rs := [6]) (by kernel_rfl) (by simp) ?_
    refine AllReadyH.cons (o := { dst := some 60, op := Op.call { callee := Callee.value (Operand.func 19), args := #[Operand.tmp 59], argTypes := #[27] }, type := 4, pos := "law.go:59", after := #[{ on := 5, ground := Ground.data }, { on := 4, ground := Ground.chain }, { on := 4, ground := Ground.guard }], guard := some (4, true) }) rfl (fun K hK => ?_) AllReadyH.nil
    go_simp
    refine (KG.srt_is (some ⟨B, 0, none⟩) 3 e3L true w19 ex_srt (KG.okBel HOK.out HB19.out) (EN0.out _ HL19.out) (by decide) e3_fits).mono ?_
    rintro r w20 ⟨rfl, hb⟩
    skip
    have HB20 := Lib.hid (HB19.out.trans hb)
    have HL20 := Lib.hid ((Below.block hb B HB19lt).trans HL19.out)
    have HB20lt : B < w20.heap.size := (Array.getElem?_eq_some_iff.1 HL20.out).1
    dsimp only
    refine hK.out _ _ (HCC.out _ HL20.out) (fun hHeld => ?_)
    clear hK K
    try simp only [Act.put, List.setIfInBounds_toArray, List.set_cons_zero, List.set_cons_succ]
    clear hb
    refine wpAnyH_take (i := 7) (oi := { dst := some 61, op := Op.pick (Operand.tmp 58) (Operand.tmp 60) (Operand.const (Value.bool false)), type := 4, pos := "law.go:59", after := #[{ on := 4, ground := Ground.data }, { on := 6, ground := Ground.data }], guard := none }) (v := ?_) rfl (by kernel_rfl) (by kernel_rfl) (by kernel_rfl) (fun _ _ _ h => h) (Or.inl ⟨by rfl, ?_⟩) (by assumption) ?_
    rotate_left
    · (intro w hSw; (try dsimp only at hSw); first | (go_simp; done) | (go_simp; with_reducible rfl))
    try simp only [Act.put, List.setIfInBounds_toArray, List.set_cons_zero, List.set_cons_succ]
    refine wpAnyH_take (i := 8) (oi := { dst := some 62, op := Op.move (Operand.tmp 61), type := 4, pos := "law.go:59", after := #[{ on := 7, ground := Ground.data }, { on := 6, ground := Ground.chain }], guard := none }) (v := ?_) rfl (by kernel_rfl) (by kernel_rfl) (by kernel_rfl) (fun _ _ _ h => h) (Or.inl ⟨by rfl, ?_⟩) (by assumption) ?_
    rotate_left
    · (intro w hSw; (try dsimp only at hSw); first | (go_simp; done) | (go_simp; with_reducible rfl))
    try simp only [Act.put, List.setIfInBounds_toArray, List.set_cons_zero, List.set_cons_succ]
    refine wpAnyH_take (i := 9) (oi := { dst := some 63, op := Op.move (Operand.tmp 1), type := 27, pos := "law.go:59", after := #[{ on := 8, ground := Ground.guard }], guard := some (8, true) }) (v := ?_) rfl (by kernel_rfl) (by kernel_rfl) (by kernel_rfl) (fun _ _ _ h => h) (Or.inl ⟨by rfl, ?_⟩) (by assumption) ?_
    rotate_left
    · (intro w hSw; (try dsimp only at hSw); first | (go_simp; done) | (go_simp; with_reducible rfl))
    try simp only [Act.put, List.setIfInBounds_toArray, List.set_cons_zero, List.set_cons_succ]
    refine wpAnyH_take (i := 10) (oi := { dst := some 64, op := Op.indexAddr 27 (Operand.tmp 63) (Operand.const (Value.int IntKind.i64 2)), type := 0, pos := "law.go:59", after := #[{ on := 9, ground := Ground.data }, { on := 8, ground := Ground.guard }], guard := some (8, true) }) (v := ?_) rfl (by kernel_rfl) (by kernel_rfl) (by kernel_rfl) (fun _ _ _ h => h) (Or.inl ⟨by rfl, ?_⟩) (by assumption) ?_
    rotate_left
    · (intro w hSw; (try dsimp only at hSw); first | (go_simp; done) | (go_simp; with_reducible rfl))
    try simp only [Act.put, List.setIfInBounds_toArray, List.set_cons_zero, List.set_cons_succ]
    refine wpAnyH_take (i := 11) (oi := { dst := some 65, op := Op.load 36 (Operand.tmp 64), type := 36, pos := "law.go:59", after := #[{ on := 10, ground := Ground.data }, { on := 8, ground := Ground.guard }], guard := some (8, true) }) (v := ?_) rfl (by kernel_rfl) (by kernel_rfl) (by kernel_rfl) (fun _ _ _ h => h) (Or.inl ⟨by rfl, ?_⟩) (by assumption) ?_
    rotate_left
    · (intro w hSw; (try dsimp only at hSw); first | (go_simp; done) | (go_simp; with_reducible rfl))
    try simp only [Act.put, List.setIfInBounds_toArray, List.set_cons_zero, List.set_cons_succ]
    refine wpAnyH_take (i := 12) (oi := { dst := some 66, op := Op.move (Operand.tmp 1), type := 27, pos := "law.go:59", after := #[{ on := 8, ground := Ground.guard }], guard := some (8, true) }) (v := ?_) rfl (by kernel_rfl) (by kernel_rfl) (by kernel_rfl) (fun _ _ _ h => h) (Or.inl ⟨by rfl, ?_⟩) (by assumption) ?_
    rotate_left
    · (intro w hSw; (try dsimp only at hSw); first | (go_simp; done) | (go_simp; with_reducible rfl))
    try simp only [Act.put, List.setIfInBounds_toArray, List.set_cons_zero, List.set_cons_succ]
    refine wpAnyH_take (i := 13) (oi := { dst := some 67, op := Op.indexAddr 27 (Operand.tmp 66) (Operand.const (Value.int IntKind.i64 0)), type := 0, pos := "law.go:59", after := #[{ on := 12, ground := Ground.data }, { on := 8, ground := Ground.guard }], guard := some (8, true) }) (v := ?_) rfl (by kernel_rfl) (by kernel_rfl) (by kernel_rfl) (fun _ _ _ h => h) (Or.inl ⟨by rfl, ?_⟩) (by assumption) ?_
    rotate_left
    · (intro w hSw; (try dsimp only at hSw); first | (go_simp; done) | (go_simp; with_reducible rfl))
    try simp only [Act.put, List.setIfInBounds_toArray, List.set_cons_zero, List.set_cons_succ]
    refine wpAnyH_take (i := 14) (oi := { dst := some 68, op := Op.load 36 (Operand.tmp 67), type := 36, pos := "law.go:59", after := #[{ on := 13, ground := Ground.data }, { on := 8, ground := Ground.guard }], guard := some (8, true) }) (v := ?_) rfl (by kernel_rfl) (by kernel_rfl) (by kernel_rfl) (fun _ _ _ h => h) (Or.inl ⟨by rfl, ?_⟩) (by assumption) ?_
    rotate_left
    · (intro w hSw; (try dsimp only at hSw); first | (go_simp; done) | (go_simp; with_reducible rfl))
    try simp only [Act.put, List.setIfInBounds_toArray, List.set_cons_zero, List.set_cons_succ]
    refine wpAnyH_ready (rs := [15]) (by kernel_rfl) (by simp) ?_
    refine AllReadyH.cons (o := { dst := some 69, op := Op.buildSlice 27 2 #[(0, Operand.tmp 65), (1, Operand.tmp 68)], type := 27, pos := "law.go:59", after := #[{ on := 11, ground := Ground.data }, { on := 14, ground := Ground.data }, { on := 8, ground := Ground.guard }], guard := some (8, true) }) rfl (fun K hK => ?_) AllReadyH.nil
    go_simp
    have hb := (Bel.refl w20).alloc (.cells #[.string ⟨#[98]⟩, .int .i64 4, .bool false, .string ⟨#[120]⟩, .string ⟨#[97]⟩, .int .i64 5, .bool true, .string ⟨#[]⟩] 36)
    have HLITy := Lib.hid (tnew12 w20 (.cells #[.string ⟨#[98]⟩, .int .i64 4, .bool false, .string ⟨#[120]⟩, .string ⟨#[97]⟩, .int .i64 5, .bool true, .string ⟨#[]⟩] 36))
    refine hK.out _ _ (HCC.out _ ((Below.block hb B HB20lt).trans HL20.out)) (fun hHeld => ?_)
    clear hK K
    try simp only [Act.put, List.setIfInBounds_toArray, List.set_cons_zero, List.set_cons_succ]
    obtain ⟨w21, hw⟩ : ∃ z, z = World.alloc w20 (.cells #[.string ⟨#[98]⟩, .int .i64 4, .bool false, .string ⟨#[120]⟩, .string ⟨#[97]⟩, .int .i64 5, .bool true, .string ⟨#[]⟩] 36) := ⟨_, rfl⟩
    rw [← hw] at hHeld HLITy hb ⊢
    clear hw
    obtain ⟨By, hBy⟩ : ∃ b, b = w20.heap.size := ⟨_, rfl⟩
    rw [← hBy] at HLITy ⊢
    clear hBy
    have HB21 := Lib.hid (HB20.out.trans hb)
    have HL21 := Lib.hid ((Below.block hb B HB20lt).trans HL20.out)
    have HB21lt : B < w21.heap.size := (Array.getElem?_eq_some_iff.1 HL21.out).1
    clear hb
    refine wpAnyH_ready (rs := [16]) (by kernel_rfl) (by simp) ?_
    refine AllReadyH.cons (o := { dst := some 70, op := Op.call { callee := Callee.value (Operand.func 19), args := #[Operand.tmp 69], argTypes := #[27] }, type := 4, pos := "law.go:59", after := #[{ on := 15, ground := Ground.data }, { on := 8, ground := Ground.chain }, { on := 8, ground := Ground.guard }], guard := some (8, true) }) rfl (fun K hK => ?_) AllReadyH.nil
    go_simp
    refine (KG.srt_is (some ⟨By, 0, none⟩) 2 [x3, x1] false w21 ex_nsrt (KG.okBel HOK.out HB21.out) (ents_lit12 HLITy.out rfl) (by decide) ex_fits2).mono ?_
    rintro r w22 ⟨rfl, hb⟩
    skip
    have HB22 := Lib.hid (HB21.out.trans hb)
    have HL22 := Lib.hid ((Below.block hb B HB21lt).trans HL21.out)
    have HB22lt : B < w22.heap.size := (Array.getElem?_eq_some_iff.1 HL22.out).1
    dsimp only
    refine hK.out _ _ (HCC.out _ HL22.out) (fun hHeld => ?_)
    clear hK K
    try simp only [Act.put, List.setIfInBounds_toArray, List.set_cons_zero, List.set_cons_succ]
    clear hb
    refine wpAnyH_take (i := 17) (oi := { dst := some 71, op := Op.unOp UnOp.not 4 (Operand.tmp 70), type := 4, pos := "law.go:59", after := #[{ on := 16, ground := Ground.data }, { on := 8, ground := Ground.guard }], guard := some (8, true) }) (v := ?_) rfl (by kernel_rfl) (by kernel_rfl) (by kernel_rfl) (fun _ _ _ h => h) (Or.inl ⟨by rfl, ?_⟩) (by assumption) ?_
    rotate_left
    · (intro w hSw; (try dsimp only at hSw); first | (go_simp; done) | (go_simp; with_reducible rfl))
    try simp only [Act.put, List.setIfInBounds_toArray, List.set_cons_zero, List.set_cons_succ]
    refine wpAnyH_take (i := 18) (oi := { dst := some 72, op := Op.pick (Operand.tmp 62) (Operand.tmp 71) (Operand.const (Value.bool false)), type := 4, pos := "law.go:59", after := #[{ on := 8, ground := Ground.data }, { on := 17, ground := Ground.data }], guard := none }) (v := ?_) rfl (by kernel_rfl) (by kernel_rfl) (by kernel_rfl) (fun _ _ _ h => h) (Or.inl ⟨by rfl, ?_⟩) (by assumption) ?_
    rotate_left
    · (intro w hSw; (try dsimp only at hSw); first | (go_simp; done) | (go_simp; with_reducible rfl))
    try simp only [Act.put, List.setIfInBounds_toArray, List.set_cons_zero, List.set_cons_succ]
    refine wpAnyH_take (i := 19) (oi := { dst := some 0, op := Op.assign (Operand.tmp 72), type := 4, pos := "law.go:59", after := #[{ on := 18, ground := Ground.data }, { on := 16, ground := Ground.chain }, { on := 0, ground := Ground.phase }, { on := 1, ground := Ground.phase }, { on := 2, ground := Ground.phase }, { on := 3, ground := Ground.phase }, { on := 4, ground := Ground.phase }, { on := 5, ground := Ground.phase }, { on := 6, ground := Ground.phase }, { on := 7, ground := Ground.phase }, { on := 8, ground := Ground.phase }, { on := 9, ground := Ground.phase }, { on := 10, ground := Ground.phase }, { on := 11, ground := Ground.phase }, { on := 12, ground := Ground.phase }, { on := 13, ground := Ground.phase }, { on := 14, ground := Ground.phase }, { on := 15, ground := Ground.phase }, { on := 16, ground := Ground.phase }, { on := 17, ground := Ground.phase }, { on := 18, ground := Ground.phase }], guard := none }) (v := ?_) rfl (by kernel_rfl) (by kernel_rfl) (by kernel_rfl) (fun _ _ _ h => h) (Or.inl ⟨by rfl, ?_⟩) (by assumption) ?_
    rotate_left
    · (intro w hSw; (try dsimp only at hSw); first | (go_simp; done) | (go_simp; with_reducible rfl))
    try simp only [Act.put, List.setIfInBounds_toArray, List.set_cons_zero, List.set_cons_succ]
    refine wpAnyH_done (by kernel_rfl) ?_ _
    clear hHeld
    go_wp2_with (fail)
    go_ret
    exact ⟨rfl, HB.out.trans HB22.out⟩
  · go_simp
    have hb := (Bel.refl w10).alloc (.cells #[.string ⟨#[97]⟩, .int .i64 5, .bool true, .string ⟨#[]⟩, .string ⟨#[98]⟩, .int .i64 4, .bool false, .string ⟨#[120]⟩] 36)
    have HLITx := Lib.hid (tnew12 w10 (.cells #[.string ⟨#[97]⟩, .int .i64 5, .bool true, .string ⟨#[]⟩, .string ⟨#[98]⟩, .int .i64 4, .bool false, .string ⟨#[120]⟩] 36))
    refine hK.out _ _ (HCC.out _ ((Below.block hb B HB10lt).trans HL10.out)) (fun hHeld => ?_)
    clear hK K
    try simp only [Act.put, List.setIfInBounds_toArray, List.set_cons_zero, List.set_cons_succ]
    obtain ⟨w11, hw⟩ : ∃ z, z = World.alloc w10 (.cells #[.string ⟨#[97]⟩, .int .i64 5, .bool true, .string ⟨#[]⟩, .string ⟨#[98]⟩, .int .i64 4, .bool false, .string ⟨#[120]⟩] 36) := ⟨_, rfl⟩
    rw [← hw] at hHeld HLITx hb ⊢
    clear hw
    obtain ⟨Bx, hBx⟩ : ∃ b, b = w10.heap.size := ⟨_, rfl⟩
    rw [← hBx] at HLITx ⊢
    clear hBx
    have HB11 := Lib.hid (HB10.out.trans hb)
    have HL11 := Lib.hid ((Below.block hb B HB10lt).trans HL10.out)
    have HB11lt : B < w11.heap.size := (Array.getElem?_eq_some_iff.1 HL11.out).1
    clear hb
    refine wpAnyH_ready (rs := [1]) (by kernel_rfl) (by simp) ?_
    refine AllReadyH.cons (o := { dst := some 31, op := Op.call { callee := Callee.value (Operand.func 16), args := #[Operand.tmp 30, Operand.const (Value.slice none 0 0), Operand.const (Value.bool false)], argTypes := #[27, 23, 4] }, type := 27, pos := "law.go:58", after := #[{ on := 0, ground := Ground.data }], guard := none }) rfl (fun K hK => ?_) AllReadyH.nil
    go_simp
    refine (KG.thin_is (some ⟨B, 0, none⟩) none 3 0 e3L [x1, x3] [] false w11 ex_thin0 (KG.okBel HOK.out HB11.out) (EN0.out _ HL11.out) (by decide) (ints_nil12 _ _) e3_srt (by decide) (by decide) e3_fits e3_q).mono ?_
    rintro r w12 ⟨pt, ct, rfl, he, hcap, hb⟩
    have HB12 := Lib.hid (HB11.out.trans hb)
    have HEt := Lib.hid (show EntsAt w12 pt [x1, x3] from he)
    have HL12 := Lib.hid ((Below.block hb B HB11lt).trans HL11.out)
    have HB12lt : B < w12.heap.size := (Array.getElem?_eq_some_iff.1 HL12.out).1
    dsimp only
    refine hK.out _ _ (HCC.out _ HL12.out) (fun hHeld => ?_)
    clear hK K
    try simp only [Act.put, List.setIfInBounds_toArray, List.set_cons_zero, List.set_cons_succ]
    have hbt := hb
    clear he hb
    have HLITx2 := Lib.hid ((Below.block hbt Bx (Array.getElem?_eq_some_iff.1 HLITx.out).1).trans HLITx.out)
    refine wpAnyH_ready (rs := [9]) (by kernel_rfl) (by simp) ?_
    refine AllReadyH.cons (o := { dst := some 39, op := Op.call { callee := Callee.value (Operand.func 13), args := #[Operand.tmp 31, Operand.tmp 38], argTypes := #[27, 27] }, type := 4, pos := "law.go:58", after := #[{ on := 1, ground := Ground.data }, { on := 8, ground := Ground.data }, { on := 1, ground := Ground.chain }], guard := none }) rfl (fun K hK => ?_) AllReadyH.nil
    go_simp
    refine (same12_at pt (some ⟨Bx, 0, none⟩) 2 2 ct 2 [x1, x3] w12 (HEt.out) (ents_lit12 HLITx2.out rfl) (by decide) rfl rfl).mono ?_
    rintro r w13 ⟨rfl, hb⟩
    replace hb := hb.bel
    have HB13 := Lib.hid (HB12.out.trans hb)
    have HL13 := Lib.hid ((Below.block hb B HB12lt).trans HL12.out)
    have HB13lt : B < w13.heap.size := (Array.getElem?_eq_some_iff.1 HL13.out).1
    dsimp only
    refine hK.out _ _ (HCC.out _ HL13.out) (fun hHeld => ?_)
    clear hK K
    try simp only [Act.put, List.setIfInBounds_toArray, List.set_cons_zero, List.set_cons_succ]
    clear hb
    refine wpAnyH_take (i := 10) (oi := { dst := some 40, op := Op.move (Operand.tmp 39), type := 4, pos := "law.go:58", after := #[{ on := 9, ground := Ground.data }, { on := 9, ground := Ground.chain }], guard := none }) (v := ?_) rfl (by kernel_rfl) (by kernel_rfl) (by kernel_rfl) (fun _ _ _ h => h) (Or.inl ⟨by rfl, ?_⟩) (by assumption) ?_
    rotate_left
    · (intro w hSw; (try dsimp only at hSw); first | (go_simp; done) | (go_simp; with_reducible rfl))
    try simp only [Act.put, List.setIfInBounds_toArray, List.set_cons_zero, List.set_cons_succ]
    refine wpAnyH_take (i := 11) (oi := { dst := some 41, op := Op.move (Operand.tmp 1), type := 27, pos := "law.go:58", after := #[{ on := 10, ground := Ground.guard }], guard := some (10, true) }) (v := ?_) rfl (by kernel_rfl) (by kernel_rfl) (by kernel_rfl) (fun _ _ _ h => h) (Or.inl ⟨by rfl, ?_⟩) (by assumption) ?_
    rotate_left
    · (intro w hSw; (try dsimp only at hSw); first | (go_simp; done) | (go_simp; with_reducible rfl))
    try simp only [Act.put, List.setIfInBounds_toArray, List.set_cons_zero, List.set_cons_succ]
    refine wpAnyH_take (i := 14) (oi := { dst := some 44, op := Op.move (Operand.tmp 1), type := 27, pos := "law.go:58", after := #[{ on := 10, ground := Ground.guard }], guard := some (10, true) }) (v := ?_) rfl (by kernel_rfl) (by kernel_rfl) (by kernel_rfl) (fun _ _ _ h => h) (Or.inl ⟨by rfl, ?_⟩) (by assumption) ?_
    rotate_left
    · (intro w hSw; (try dsimp only at hSw); first | (go_simp; done) | (go_simp; with_reducible rfl))
    try simp only [Act.put, List.setIfInBounds_toArray, List.set_cons_zero, List.set_cons_succ]
    refine wpAnyH_ready (rs := [12]) (by kernel_rfl) (by simp) ?_
    refine AllReadyH.cons (o := { dst := some 42, op := Op.buildSlice 23 1 #[(0, Operand.const (Value.int IntKind.i64 4))], type := 23, pos := "law.go:58", after := #[{ on := 10, ground := Ground.guard }], guard := some (10, true) }) rfl (fun K hK => ?_) AllReadyH.nil
    go_simp
    have hb := (Bel.refl w13).alloc (.cells #[.int .i64 4] 3)
    have HLITi := Lib.hid (tnew12 w13 (.cells #[.int .i64 4] 3))
    refine hK.out _ _ (HCC.out _ ((Below.block hb B HB13lt).trans HL13.out)) (fun hHeld => ?_)
    clear hK K
    try simp only [Act.put, List.setIfInBounds_toArray, List.set_cons_zero, List.set_cons_succ]
    obtain ⟨w14, hw⟩ : ∃ z, z = World.alloc w13 (.cells #[.int .i64 4] 3) := ⟨_, rfl⟩
    rw [← hw] at hHeld HLITi hb ⊢
    clear hw
    obtain ⟨Bi, hBi⟩ : ∃ b, b = w13.heap.size := ⟨_, rfl⟩
    rw [← hBi] at HLITi ⊢
    clear hBi
    have HB14 := Lib.hid (HB13.out.trans hb)
    have HL14 := Lib.hid ((Below.block hb B HB13lt).trans HL13.out)
    have HB14lt : B < w14.heap.size := (Array.getElem?_eq_some_iff.1 HL14.out).1
    clear hb
    refine wpAnyH_ready (rs := [13]) (by kernel_rfl) (by simp) ?_
    refine AllReadyH.cons (o := { dst := some 43, op := Op.call { callee := Callee.value (Operand.func 16), args := #[Operand.tmp 41, Operand.tmp 42, Operand.const (Value.bool false)], argTypes := #[27, 23, 4] }, type := 27, pos := "law.go:58", after := #[{ on := 11, ground := Ground.data }, { on := 12, ground := Ground.data }, { on := 10, ground := Ground.chain }, { on := 10, ground := Ground.guard }], guard := some (10, true) }) rfl (fun K hK => ?_) AllReadyH.nil
    go_simp
    refine (KG.thin_is (some ⟨B, 0, none⟩) (some ⟨Bi, 0, none⟩) 3 1 e3L e3L [4] false w14 ex_thin4 (KG.okBel HOK.out HB14.out) (EN0.out _ HL14.out) (by decide) (ints_one12 HLITi.out) e3_srt (by decide) (by decide) e3_fits e3_q).mono ?_
    rintro r w15 ⟨ps, cs, rfl, he, hcap, hb⟩
    have HB15 := Lib.hid (HB14.out.trans hb)
    have HEs := Lib.hid (show EntsAt w15 ps e3L from he)
    have HL15 := Lib.hid ((Below.block hb B HB14lt).trans HL14.out)
    have HB15lt : B < w15.heap.size := (Array.getElem?_eq_some_iff.1 HL15.out).1
    dsimp only
    refine hK.out _ _ (HCC.out _ HL15.out) (fun hHeld => ?_)
    clear hK K
    try simp only [Act.put, List.setIfInBounds_toArray, List.set_cons_zero, List.set_cons_succ]
    clear he hb
    refine wpAnyH_ready (rs := [15]) (by kernel_rfl) (by simp) ?_
    refine AllReadyH.cons (o := { dst := some 45, op := Op.call { callee := Callee.value (Operand.func 13), args := #[Operand.tmp 43, Operand.tmp 44], argTypes := #[27, 27] }, type := 4, pos := "law.go:58", after := #[{ on := 13, ground := Ground.data }, { on := 14, ground := Ground.data }, { on := 13, ground := Ground.chain }, { on := 10, ground := Ground.guard }], guard := some (10, true) }) rfl (fun K hK => ?_) AllReadyH.nil
    go_simp
    refine (same12_at ps (some ⟨B, 0, none⟩) 3 3 cs 3 e3L w15 HEs.out (EN0.out _ HL15.out) (by decide) rfl rfl).mono ?_
    rintro r w16 ⟨rfl, hb⟩
    replace hb := hb.bel
    have HB16 := Lib.hid (HB15.out.trans hb)
    have HL16 := Lib.hid ((Below.block hb B HB15lt).trans HL15.out)
    have HB16lt : B < w16.heap.size := (Array.getElem?_eq_some_iff.1 HL16.out).1
    dsimp only
    refine hK.out _ _ (HCC.out _ HL16.out) (fun hHeld => ?_)
    clear hK K
    try simp only [Act.put, List.setIfInBounds_toArray, List.set_cons_zero, List.set_cons_succ]
    clear hb
    refine wpAnyH_take (i := 16) (oi := { dst := some 46, op := Op.pick (Operand.tmp 40) (Operand.tmp 45) (Operand.const (Value.bool false)), type := 4, pos := "law.go:58", after := #[{ on := 10, ground := Ground.data }, { on := 15, ground := Ground.data }], guard := none }) (v := ?_) rfl (by kernel_rfl) (by kernel_rfl) (by kernel_rfl) (fun _ _ _ h => h) (Or.inl ⟨by rfl, ?_⟩) (by assumption) ?_
    rotate_left
    · (intro w hSw; (try dsimp only at hSw); first | (go_simp; done) | (go_simp; with_reducible rfl))
    try simp only [Act.put, List.setIfInBounds_toArray, List.set_cons_zero, List.set_cons_succ]
    refine wpAnyH_take (i := 17) (oi := { dst := some 47, op := Op.move (Operand.tmp 46), type := 4, pos := "law.go:58", after := #[{ on := 16, ground := Ground.data }, { on := 15, ground := Ground.chain }], guard := none }) (v := ?_) rfl (by kernel_rfl) (by kernel_rfl) (by kernel_rfl) (fun _ _ _ h => h) (Or.inl ⟨by rfl, ?_⟩) (by assumption) ?_
    rotate_left
    · (intro w hSw; (try dsimp only at hSw); first | (go_simp; done) | (go_simp; with_reducible rfl))
    try simp only [Act.put, List.setIfInBounds_toArray, List.set_cons_zero, List.set_cons_succ]
    refine wpAnyH_take (i := 18) (oi := { dst := some 48, op := Op.move (Operand.tmp 1), type := 27, pos := "law.go:58", after := #[{ on := 17, ground := Ground.guard }], guard := some (17, true) }) (v := ?_) rfl (by kernel_rfl) (by kernel_rfl) (by kernel_rfl) (fun _ _ _ h => h) (Or.inl ⟨by rfl, ?_⟩) (by assumption) ?_
    rotate_left
    · (intro w hSw; (try dsimp only at hSw); first | (go_simp; done) | (go_simp; with_reducible rfl))
    try simp only [Act.put, List.setIfInBounds_toArray, List.set_cons_zero, List.set_cons_succ]
    refine wpAnyH_take (i := 20) (oi := { dst := some 50, op := Op.move (Operand.tmp 1), type := 27, pos := "law.go:58", after := #[{ on := 17, ground := Ground.guard }], guard := some (17, true) }) (v := ?_) rfl (by kernel_rfl) (by kernel_rfl) (by kernel_rfl) (fun _ _ _ h => h) (Or.inl ⟨by rfl, ?_⟩) (by assumption) ?_
    rotate_left
    · (intro w hSw; (try dsimp only at hSw); first | (go_simp; done) | (go_simp; with_reducible rfl))
    try simp only [Act.put, List.setIfInBounds_toArray, List.set_cons_zero, List.set_cons_succ]
    refine wpAnyH_take (i := 21) (oi := { dst := some 51, op := Op.slice 27 (Operand.tmp 50) (some (Operand.const (Value.int IntKind.i64 2))) none none, type := 27, pos := "law.go:58", after := #[{ on := 20, ground := Ground.data }, { on := 17, ground := Ground.guard }], guard := some (17, true) }) (v := ?_) rfl (by kernel_rfl) (by kernel_rfl) (by kernel_rfl) (fun _ _ _ h => h) (Or.inl ⟨by rfl, ?_⟩) (by assumption) ?_
    rotate_left
    · (intro w hSw; (try dsimp only at hSw); first | (go_simp; done) | (go_simp; with_reducible rfl))
    try simp only [Act.put, List.setIfInBounds_toArray, List.set_cons_zero, List.set_cons_succ]
    refine wpAnyH_ready (rs := [19]) (by kernel_rfl) (by simp) ?_
    refine AllReadyH.cons (o := { dst := some 49, op := Op.call { callee := Callee.value (Operand.func 16), args := #[Operand.tmp 48, Operand.const (Value.slice none 0 0), Operand.const (Value.bool true)], argTypes := #[27, 23, 4] }, type := 27, pos := "law.go:58", after := #[{ on := 18, ground := Ground.data }, { on := 17, ground := Ground.chain }, { on := 17, ground := Ground.guard }], guard := some (17, true) }) rfl (fun K hK => ?_) AllReadyH.nil
    go_simp
    refine (KG.thin_is (some ⟨B, 0, none⟩) none 3 0 e3L [x3] [] true w16 ex_thinT (KG.okBel HOK.out HB16.out) (EN0.out _ HL16.out) (by decide) (ints_nil12 _ _) e3_srt (by decide) (by decide) e3_fits e3_q).mono ?_
    rintro r w17 ⟨pr, cr, rfl, he, hcap, hb⟩
    have HB17 := Lib.hid (HB16.out.trans hb)
    have HEr := Lib.hid (show EntsAt w17 pr [x3] from he)
    have HL17 := Lib.hid ((Below.block hb B HB16lt).trans HL16.out)
    have HB17lt : B < w17.heap.size := (Array.getElem?_eq_some_iff.1 HL17.out).1
    dsimp only
    refine hK.out _ _ (HCC.out _ HL17.out) (fun hHeld => ?_)
    clear hK K
    try simp only [Act.put, List.setIfInBounds_toArray, List.set_cons_zero, List.set_cons_succ]
    clear he hb
    refine wpAnyH_ready (rs := [22]) (by kernel_rfl) (by simp) ?_
    refine AllReadyH.cons (o := { dst := some 52, op := Op.call { callee := Callee.value (Operand.func 13), args := #[Operand.tmp 49, Operand.tmp 51], argTypes := #[27, 27] }, type := 4, pos := "law.go:58", after := #[{ on := 19, ground := Ground.data }, { on := 21, ground := Ground.data }, { on := 19, ground := Ground.chain }, { on := 17, ground := Ground.guard }], guard := some (17, true) }) rfl (fun K hK => ?_) AllReadyH.nil
    go_simp
    refine (same12_at pr (some ⟨B, 8, none⟩) 1 1 cr 1 [x3] w17 HEr.out (EN2.out _ HL17.out) (by decide) rfl rfl).mono ?_
    rintro r w18 ⟨rfl, hb⟩
    replace hb := hb.bel
    have HB18 := Lib.hid (HB17.out.trans hb)
    have HL18 := Lib.hid ((Below.block hb B HB17lt).trans HL17.out)
    have HB18lt : B < w18.heap.size := (Array.getElem?_eq_some_iff.1 HL18.out).1
    dsimp only
    refine hK.out _ _ (HCC.out _ HL18.out) (fun hHeld => ?_)
    clear hK K
    try simp only [Act.put, List.setIfInBounds_toArray, List.set_cons_zero, List.set_cons_succ]
    clear hb
    refine wpAnyH_take (i := 23) (oi := { dst := some 53, op := Op.pick (Operand.tmp 47) (Operand.tmp 52) (Operand.const (Value.bool false)), type := 4, pos := "law.go:58", after := #[{ on := 17, ground := Ground.data }, { on := 22, ground := Ground.data }], guard := none }) (v := ?_) rfl (by kernel_rfl) (by kernel_rfl) (by kernel_rfl) (fun _ _ _ h => h) (Or.inl ⟨by rfl, ?_⟩) (by assumption) ?_
    rotate_left
    · (intro w hSw; (try dsimp only at hSw); first | (go_simp; done) | (go_simp; with_reducible rfl))
    try simp only [Act.put, List.setIfInBounds_toArray, List.set_cons_zero, List.set_cons_succ]
    refine wpAnyH_take (i := 24) (oi := { dst := some 3, op := Op.assign (Operand.tmp 53), type := 4, pos := "law.go:58", after := #[{ on := 23, ground := Ground.data }, { on := 22, ground := Ground.chain }, { on := 0, ground := Ground.phase }, { on := 1, ground := Ground.phase }, { on := 2, ground := Ground.phase }, { on := 3, ground := Ground.phase }, { on := 4, ground := Ground.phase }, { on := 5, ground := Ground.phase }, { on := 6, ground := Ground.phase }, { on := 7, ground := Ground.phase }, { on := 8, ground := Ground.phase }, { on := 9, ground := Ground.phase }, { on := 10, ground := Ground.phase }, { on := 11, ground := Ground.phase }, { on := 12, ground := Ground.phase }, { on := 13, ground := Ground.phase }, { on := 14, ground := Ground.phase }, { on := 15, ground := Ground.phase }, { on := 16, ground := Ground.phase }, { on := 17, ground := Ground.phase }, { on := 18, ground := Ground.phase }, { on := 19, ground := Ground.phase }, { on := 20, ground := Ground.phase }, { on := 21, ground := Ground.phase }, { on := 22, ground := Ground.phase }, { on := 23, ground := Ground.phase }], guard := none }) (v := ?_) rfl (by kernel_rfl) (by kernel_rfl) (by kernel_rfl) (fun _ _ _ h => h) (Or.inl ⟨by rfl, ?_⟩) (by assumption) ?_
    rotate_left
    · (intro w hSw; (try dsimp only at hSw); first | (go_simp; done) | (go_simp; with_reducible rfl))
    try simp only [Act.put, List.setIfInBounds_toArray, List.set_cons_zero, List.set_cons_succ]
    refine wpAnyH_done (by kernel_rfl) ?_ _
    clear hHeld
    go_wp2_with (fail)
    refine wp_region_held_drew (S := fun z => z.cell? ⟨B, 0, none⟩ = some (.string ⟨#[97]⟩) ∧ z.cell? ⟨B, 1, none⟩ = some (.int .i64 5) ∧ z.cell? ⟨B, 2, none⟩ = some (.bool true) ∧ z.cell? ⟨B, 3, none⟩ = some (.string ⟨#[]⟩) ∧ z.cell? ⟨B, 8, none⟩ = some (.string ⟨#[98]⟩) ∧ z.cell? ⟨B, 9, none⟩ = some (.int .i64 4) ∧ z.cell? ⟨B, 10, none⟩ = some (.bool false) ∧ z.cell? ⟨B, 11, none⟩ = some (.string ⟨#[120]⟩)) (by kernel_rfl) (HCC.out _ HL18.out) (fun hHeld => ?_)
    obtain ⟨w19, hw⟩ : ∃ z, z = World.drew w18 := ⟨_, rfl⟩
    have hb : Bel w18 w19 := by rw [hw]; exact (Bel.refl _).drew
    rw [← hw] at hHeld ⊢
    clear hw
    have HB19 := Lib.hid (HB18.out.trans hb)
    have HL19 := Lib.hid ((Below.block hb B HB18lt).trans HL18.out)
    have HB19lt : B < w19.heap.size := (Array.getElem?_eq_some_iff.1 HL19.out).1
    clear hb
    refine wpAnyH_take (i := 0) (oi := { dst := some 54, op := Op.move (Operand.tmp 2), type := 4, pos := "law.go:59", after := #[], guard := none }) (v := ?_) rfl (by kernel_rfl) (by kernel_rfl) (by kernel_rfl) (fun _ _ _ h => h) (Or.inl ⟨by rfl, ?_⟩) (by assumption) ?_
    rotate_left
    · (intro w hSw; (try dsimp only at hSw); first | (go_simp; done) | (go_simp; with_reducible rfl))
    try simp only [Act.put, List.setIfInBounds_toArray, List.set_cons_zero, List.set_cons_succ]
    refine wpAnyH_take (i := 1) (oi := { dst := some 55, op := Op.move (Operand.tmp 54), type := 4, pos := "law.go:59", after := #[{ on := 0, ground := Ground.data }], guard := none }) (v := ?_) rfl (by kernel_rfl) (by kernel_rfl) (by kernel_rfl) (fun _ _ _ h => h) (Or.inl ⟨by rfl, ?_⟩) (by assumption) ?_
    rotate_left
    · (intro w hSw; (try dsimp only at hSw); first | (go_simp; done) | (go_simp; with_reducible rfl))
    try simp only [Act.put, List.setIfInBounds_toArray, List.set_cons_zero, List.set_cons_succ]
    refine wpAnyH_take (i := 2) (oi := { dst := some 56, op := Op.move (Operand.tmp 3), type := 4, pos := "law.go:59", after := #[{ on := 1, ground := Ground.guard }], guard := some (1, true) }) (v := ?_) rfl (by kernel_rfl) (by kernel_rfl) (by kernel_rfl) (fun _ _ _ h => h) (Or.inl ⟨by rfl, ?_⟩) (by assumption) ?_
    rotate_left
    · (intro w hSw; (try dsimp only at hSw); first | (go_simp; done) | (go_simp; with_reducible rfl))
    try simp only [Act.put, List.setIfInBounds_toArray, List.set_cons_zero, List.set_cons_succ]
    refine wpAnyH_take (i := 3) (oi := { dst := some 57, op := Op.pick (Operand.tmp 55) (Operand.tmp 56) (Operand.const (Value.bool false)), type := 4, pos := "law.go:59", after := #[{ on := 1, ground := Ground.data }, { on := 2, ground := Ground.data }], guard := none }) (v := ?_) rfl (by kernel_rfl) (by kernel_rfl) (by kernel_rfl) (fun _ _ _ h => h) (Or.inl ⟨by rfl, ?_⟩) (by assumption) ?_
    rotate_left
    · (intro w hSw; (try dsimp only at hSw); first | (go_simp; done) | (go_simp; with_reducible rfl))
    try simp only [Act.put, List.setIfInBounds_toArray, List.set_cons_zero, List.set_cons_succ]
    refine wpAnyH_take (i := 4) (oi := { dst := some 58, op := Op.move (Operand.tmp 57), type := 4, pos := "law.go:59", after := #[{ on := 3, ground := Ground.data }, { on := 1, ground := Ground.chain }], guard := none }) (v := ?_) rfl (by kernel_rfl) (by kernel_rfl) (by kernel_rfl) (fun _ _ _ h => h) (Or.inl ⟨by rfl, ?_⟩) (by assumption) ?_
    rotate_left
    · (intro w hSw; (try dsimp only at hSw); first | (go_simp; done) | (go_simp; with_reducible rfl))
    try simp only [Act.put, List.setIfInBounds_toArray, List.set_cons_zero, List.set_cons_succ]
    refine wpAnyH_take (i := 5) (oi := { dst := some 59, op := Op.move (Operand.tmp 1), type := 27, pos := "law.go:59", after := #[{ on := 4, ground := Ground.guard }], guard := some (4, true) }) (v := ?_) rfl (by kernel_rfl) (by kernel_rfl) (by kernel_rfl) (fun _ _ _ h => h) (Or.inl ⟨by rfl, ?_⟩) (by assumption) ?_
    rotate_left
    · (intro w hSw; (try dsimp only at hSw); first | (go_simp; done) | (go_simp; with_reducible rfl))
    try simp only [Act.put, List.setIfInBounds_toArray, List.set_cons_zero, List.set_cons_succ]
    refine wpAnyH_ready (rs := [6]) (by kernel_rfl) (by simp) ?_
    refine AllReadyH.cons (o := { dst := some 60, op := Op.call { callee := Callee.value (Operand.func 19), args := #[Operand.tmp 59], argTypes := #[27] }, type := 4, pos := "law.go:59", after := #[{ on := 5, ground := Ground.data }, { on := 4, ground := Ground.chain }, { on := 4, ground := Ground.guard }], guard := some (4, true) }) rfl (fun K hK => ?_) AllReadyH.nil
    go_simp
    refine (KG.srt_is (some ⟨B, 0, none⟩) 3 e3L true w19 ex_srt (KG.okBel HOK.out HB19.out) (EN0.out _ HL19.out) (by decide) e3_fits).mono ?_
    rintro r w20 ⟨rfl, hb⟩
    skip
    have HB20 := Lib.hid (HB19.out.trans hb)
    have HL20 := Lib.hid ((Below.block hb B HB19lt).trans HL19.out)
    have HB20lt : B < w20.heap.size := (Array.getElem?_eq_some_iff.1 HL20.out).1
    dsimp only
    refine hK.out _ _ (HCC.out _ HL20.out) (fun hHeld => ?_)
    clear hK K
    try simp only [Act.put, List.setIfInBounds_toArray, List.set_cons_zero, List.set_cons_succ]
    clear hb
    refine wpAnyH_take (i := 7) (oi := { dst := some 61, op := Op.pick (Operand.tmp 58) (Operand.tmp 60) (Operand.const (Value.bool false)), type := 4, pos := "law.go:59", after := #[{ on := 4, ground := Ground.data }, { on := 6, ground := Ground.data }], guard := none }) (v := ?_) rfl (by kernel_rfl) (by kernel_rfl) (by kernel_rfl) (fun _ _ _ h => h) (Or.inl ⟨by rfl, ?_⟩) (by assumption) ?_
    rotate_left
    · (intro w hSw; (try dsimp only at hSw); first | (go_simp; done) | (go_simp; with_reducible rfl))
    try simp only [Act.put, List.setIfInBounds_toArray, List.set_cons_zero, List.set_cons_succ]
    refine wpAnyH_take (i := 8) (oi := { dst := some 62, op := Op.move (Operand.tmp 61), type := 4, pos := "law.go:59", after := #[{ on := 7, ground := Ground.data }, { on := 6, ground := Ground.chain }], guard := none }) (v := ?_) rfl (by kernel_rfl) (by kernel_rfl) (by kernel_rfl) (fun _ _ _ h => h) (Or.inl ⟨by rfl, ?_⟩) (by assumption) ?_
    rotate_left
    · (intro w hSw; (try dsimp only at hSw); first | (go_simp; done) | (go_simp; with_reducible rfl))
    try simp only [Act.put, List.setIfInBounds_toArray, List.set_cons_zero, List.set_cons_succ]
    refine wpAnyH_take (i := 9) (oi := { dst := some 63, op := Op.move (Operand.tmp 1), type := 27, pos := "law.go:59", after := #[{ on := 8, ground := Ground.guard }], guard := some (8, true) }) (v := ?_) rfl (by kernel_rfl) (by kernel_rfl) (by kernel_rfl) (fun _ _ _ h => h) (Or.inl ⟨by rfl, ?_⟩) (by assumption) ?_
    rotate_left
    · (intro w hSw; (try dsimp only at hSw); first | (go_simp; done) | (go_simp; with_reducible rfl))
    try simp only [Act.put, List.setIfInBounds_toArray, List.set_cons_zero, List.set_cons_succ]
    refine wpAnyH_take (i := 10) (oi := { dst := some 64, op := Op.indexAddr 27 (Operand.tmp 63) (Operand.const (Value.int IntKind.i64 2)), type := 0, pos := "law.go:59", after := #[{ on := 9, ground := Ground.data }, { on := 8, ground := Ground.guard }], guard := some (8, true) }) (v := ?_) rfl (by kernel_rfl) (by kernel_rfl) (by kernel_rfl) (fun _ _ _ h => h) (Or.inl ⟨by rfl, ?_⟩) (by assumption) ?_
    rotate_left
    · (intro w hSw; (try dsimp only at hSw); first | (go_simp; done) | (go_simp; with_reducible rfl))
    try simp only [Act.put, List.setIfInBounds_toArray, List.set_cons_zero, List.set_cons_succ]
    refine wpAnyH_take (i := 11) (oi := { dst := some 65, op := Op.load 36 (Operand.tmp 64), type := 36, pos := "law.go:59", after := #[{ on := 10, ground := Ground.data }, { on := 8, ground := Ground.guard }], guard := some (8, true) }) (v := ?_) rfl (by kernel_rfl) (by kernel_rfl) (by kernel_rfl) (fun _ _ _ h => h) (Or.inl ⟨by rfl, ?_⟩) (by assumption) ?_
    rotate_left
    · (intro w hSw; (try dsimp only at hSw); first | (go_simp; done) | (go_simp; with_reducible rfl))
    try simp only [Act.put, List.setIfInBounds_toArray, List.set_cons_zero, List.set_cons_succ]
    refine wpAnyH_take (i := 12) (oi := { dst := some 66, op := Op.move (Operand.tmp 1), type := 27, pos := "law.go:59", after := #[{ on := 8, ground := Ground.guard }], guard := some (8, true) }) (v := ?_) rfl (by kernel_rfl) (by kernel_rfl) (by kernel_rfl) (fun _ _ _ h => h) (Or.inl ⟨by rfl, ?_⟩) (by assumption) ?_
    rotate_left
    · (intro w hSw; (try dsimp only at hSw); first | (go_simp; done) | (go_simp; with_reducible rfl))
    try simp only [Act.put, List.setIfInBounds_toArray, List.set_cons_zero, List.set_cons_succ]
    refine wpAnyH_take (i := 13) (oi := { dst := some 67, op := Op.indexAddr 27 (Operand.tmp 66) (Operand.const (Value.int IntKind.i64 0)), type := 0, pos := "law.go:59", after := #[{ on := 12, ground := Ground.data }, { on := 8, ground := Ground.guard }], guard := some (8, true) }) (v := ?_) rfl (by kernel_rfl) (by kernel_rfl) (by kernel_rfl) (fun _ _ _ h => h) (Or.inl ⟨by rfl, ?_⟩) (by assumption) ?_
    rotate_left
    · (intro w hSw; (try dsimp only at hSw); first | (go_simp; done) | (go_simp; with_reducible rfl))
    try simp only [Act.put, List.setIfInBounds_toArray, List.set_cons_zero, List.set_cons_succ]
    refine wpAnyH_take (i := 14) (oi := { dst := some 68, op := Op.load 36 (Operand.tmp 67), type := 36, pos := "law.go:59", after := #[{ on := 13, ground := Ground.data }, { on := 8, ground := Ground.guard }], guard := some (8, true) }) (v := ?_) rfl (by kernel_rfl) (by kernel_rfl) (by kernel_rfl) (fun _ _ _ h => h) (Or.inl ⟨by rfl, ?_⟩) (by assumption) ?_
    rotate_left
    · (intro w hSw; (try dsimp only at hSw); first | (go_simp; done) | (go_simp; with_reducible rfl))
    try simp only [Act.put, List.setIfInBounds_toArray, List.set_cons_zero, List.set_cons_succ]
    refine wpAnyH_ready (rs := [15]) (by kernel_rfl) (by simp) ?_
    refine AllReadyH.cons (o := { dst := some 69, op := Op.buildSlice 27 2 #[(0, Operand.tmp 65), (1, Operand.tmp 68)], type := 27, pos := "law.go:59", after := #[{ on := 11, ground := Ground.data }, { on := 14, ground := Ground.data }, { on := 8, ground := Ground.guard }], guard := some (8, true) }) rfl (fun K hK => ?_) AllReadyH.nil
    go_simp
    have hb := (Bel.refl w20).alloc (.cells #[.string ⟨#[98]⟩, .int .i64 4, .bool false, .string ⟨#[120]⟩, .string ⟨#[97]⟩, .int .i64 5, .bool true, .string ⟨#[]⟩] 36)
    have HLITy := Lib.hid (tnew12 w20 (.cells #[.string ⟨#[98]⟩, .int .i64 4, .bool false, .string ⟨#[120]⟩, .string ⟨#[97]⟩, .int .i64 5, .bool true, .string ⟨#[]⟩] 36))
    refine hK.out _ _ (HCC.out _ ((Below.block hb B HB20lt).trans HL20.out)) (fun hHeld => ?_)
    clear hK K
    try simp only [Act.put, List.setIfInBounds_toArray, List.set_cons_zero, List.set_cons_succ]
    obtain ⟨w21, hw⟩ : ∃ z, z = World.alloc w20 (.cells #[.string ⟨#[98]⟩, .int .i64 4, .bool false, .string ⟨#[120]⟩, .string ⟨#[97]⟩, .int .i64 5, .bool true, .string ⟨#[]⟩] 36) := ⟨_, rfl⟩
    rw [← hw] at hHeld HLITy hb ⊢
    clear hw
    obtain ⟨By, hBy⟩ : ∃ b, b = w20.heap.size := ⟨_, rfl⟩
    rw [← hBy] at HLITy ⊢
    clear hBy
    have HB21 := Lib.hid (HB20.out.trans hb)
    have HL21 := Lib.hid ((Below.block hb B HB20lt).trans HL20.out)
    have HB21lt : B < w21.heap.size := (Array.getElem?_eq_some_iff.1 HL21.out).1
    clear hb
    refine wpAnyH_ready (rs := [16]) (by kernel_rfl) (by simp) ?_
    refine AllReadyH.cons (o := { dst := some 70, op := Op.call { callee := Callee.value (Operand.func 19), args := #[Operand.tmp 69], argTypes := #[27] }, type := 4, pos := "law.go:59", after := #[{ on := 15, ground := Ground.data }, { on := 8, ground := Ground.chain }, { on := 8, ground := Ground.guard }], guard := some (8, true) }) rfl (fun K hK => ?_) AllReadyH.nil
    go_simp
    refine (KG.srt_is (some ⟨By, 0, none⟩) 2 [x3, x1] false w21 ex_nsrt (KG.okBel HOK.out HB21.out) (ents_lit12 HLITy.out rfl) (by decide) ex_fits2).mono ?_
    rintro r w22 ⟨rfl, hb⟩
    skip
    have HB22 := Lib.hid (HB21.out.trans hb)
    have HL22 := Lib.hid ((Below.block hb B HB21lt).trans HL21.out)
    have HB22lt : B < w22.heap.size := (Array.getElem?_eq_some_iff.1 HL22.out).1
    dsimp only
    refine hK.out _ _ (HCC.out _ HL22.out) (fun hHeld => ?_)
    clear hK K
    try simp only [Act.put, List.setIfInBounds_toArray, List.set_cons_zero, List.set_cons_succ]
    clear hb
    refine wpAnyH_take (i := 17) (oi := { dst := some 71, op := Op.unOp UnOp.not 4 (Operand.tmp 70), type := 4, pos := "law.go:59", after := #[{ on := 16, ground := Ground.data }, { on := 8, ground := Ground.guard }], guard := some (8, true) }) (v := ?_) rfl (by kernel_rfl) (by kernel_rfl) (by kernel_rfl) (fun _ _ _ h => h) (Or.inl ⟨by rfl, ?_⟩) (by assumption) ?_
    rotate_left
    · (intro w hSw; (try dsimp only at hSw); first | (go_simp; done) | (go_simp; with_reducible rfl))
    try simp only [Act.put, List.setIfInBounds_toArray, List.set_cons_zero, List.set_cons_succ]
    refine wpAnyH_take (i := 18) (oi := { dst := some 72, op := Op.pick (Operand.tmp 62) (Operand.tmp 71) (Operand.const (Value.bool false)), type := 4, pos := "law.go:59", after := #[{ on := 8, ground := Ground.data }, { on := 17, ground := Ground.data }], guard := none }) (v := ?_) rfl (by kernel_rfl) (by kernel_rfl) (by kernel_rfl) (fun _ _ _ h => h) (Or.inl ⟨by rfl, ?_⟩) (by assumption) ?_
    rotate_left
    · (intro w hSw; (try dsimp only at hSw); first | (go_simp; done) | (go_simp; with_reducible rfl))
    try simp only [Act.put, List.setIfInBounds_toArray, List.set_cons_zero, List.set_cons_succ]
    refine wpAnyH_take (i := 19) (oi := { dst := some 0, op := Op.assign (Operand.tmp 72), type := 4, pos := "law.go:59", after := #[{ on := 18, ground := Ground.data }, { on := 16, ground := Ground.chain }, { on := 0, ground := Ground.phase }, { on := 1, ground := Ground.phase }, { on := 2, ground := Ground.phase }, { on := 3, ground := Ground.phase }, { on := 4, ground := Ground.phase }, { on := 5, ground := Ground.phase }, { on := 6, ground := Ground.phase }, { on := 7, ground := Ground.phase }, { on := 8, ground := Ground.phase }, { on := 9, ground := Ground.phase }, { on := 10, ground := Ground.phase }, { on := 11, ground := Ground.phase }, { on := 12, ground := Ground.phase }, { on := 13, ground := Ground.phase }, { on := 14, ground := Ground.phase }, { on := 15, ground := Ground.phase }, { on := 16, ground := Ground.phase }, { on := 17, ground := Ground.phase }, { on := 18, ground := Ground.phase }], guard := none }) (v := ?_) rfl (by kernel_rfl) (by kernel_rfl) (by kernel_rfl) (fun _ _ _ h => h) (Or.inl ⟨by rfl, ?_⟩) (by assumption) ?_
    rotate_left
    · (intro w hSw; (try dsimp only at hSw); first | (go_simp; done) | (go_simp; with_reducible rfl))
    try simp only [Act.put, List.setIfInBounds_toArray, List.set_cons_zero, List.set_cons_succ]
    refine wpAnyH_done (by kernel_rfl) ?_ _
    clear hHeld
    go_wp2_with (fail)
    go_ret
    exact ⟨rfl, HB.out.trans HB22.out⟩
end Go.Proofs.Ytmdkpomgckkllaa
/- moultref12's Visible. -/
set_option maxRecDepth 100000
namespace Go.Proofs.Ytmdkpomgckkllaa
open Go.RowKit Go.Deep

theorem bI_eq {b : Option Nat} {i : Nat} : (bI b == (i : Int)) = true ↔ b = some i := by
  cases b with
  | none =>
    constructor
    · intro h
      exfalso
      have h1 : ((-1 : Int) == (i : Int)) = true := h
      rw [beq_iff_eq] at h1
      omega
    · intro h; cases h
  | some j =>
    simp only [bI, beq_iff_eq, Option.some.injEq]
    omega
theorem newest_is {L : List EB} (h : Srt L) {s : Int} {i : Nat} {b : Option Nat} (hi : i < L.length) (hb : Best L L[i].k.data.toList s L.length b) : (bI b == (i : Int)) = newB L s L[i] := by
  have h1 := best_new h hi hb
  cases hn : newB L s L[i] with
  | true => exact bI_eq.2 (h1.2 hn)
  | false =>
    cases hc : (bI b == (i : Int)) with
    | false => rfl
    | true => rw [h1.1 (bI_eq.1 hc)] at hn; cases hn
theorem filter_step12 {L : List EB} (P : EB → Bool) {k : Nat} (hk : k < L.length) : (L.take (k + 1)).filter P = (L.take k).filter P ++ if P L[k] = true then [L[k]] else [] := by
  rw [take_snoc12 hk, List.filter_append]
  congr 1
  rw [List.filter_cons, List.filter_nil]
theorem filter_le12 (L : List EB) (P : EB → Bool) (k : Nat) : ((L.take k).filter P).length ≤ k := by
  have := List.length_filter_le P (L.take k)
  rw [List.length_take] at this
  omega
set_option maxHeartbeats 4000000 in
theorem rvis_any (p : Option Addr) (cap : Nat) (L : List EB) (s : Int) (w : World) (h : EntsAt w p L) (hS : Srt L) (hL : L.length ≤ 1000) :
    Calls Try.prog 15 #[.slice p L.length cap, .int .i64 s] w fun r w' => ∃ v, r = .returned v ∧ OwnG entEl w.heap.size w' v (visL s L) ∧ Bel w w' := by
  have H := Lib.hid h; have HS := Lib.hid hS
  clear h hS
  obtain ⟨P, hP⟩ : ∃ P : EB → Bool, P = fun e => newB L s e && !e.d := ⟨_, rfl⟩
  have HV := Lib.hid (show visL s L = L.filter P by rw [hP]; rfl)
  have HP := Lib.hid (fun e => congrFun hP e)
  clear hP
  go_enter Try.func15, Try.ntmps15
  go_wp2_with (fail)
  go_loopw [5, 6] (fun ov iv x => ∃ k : Nat, k ≤ L.length ∧ iv = .int .i64 k ∧ OwnG entEl w.heap.size x ov ((L.take k).filter P) ∧ Bel w x) (fun _ iv _ => L.length - (intOf iv).toNat)
  case atStart => exact ⟨0, Nat.zero_le _, rfl, OwnG.nil _ _ _, Bel.refl w⟩
  case round =>
    obtain ⟨k, hk, rfl, hown, hw⟩ := hrel
    have HW := Lib.hid hw
    by_cases hkl : k < L.length
    · obtain ⟨a, ha0, -⟩ := (H.out.bel hw) k hkl
      subst ha0
      obtain ⟨B, O, sp, ha, z0, z1, z2, z3⟩ := ent_at12 (H.out.bel hw) hkl
      have HN := Lib.hid (rnewest_any (some a) cap L L[k].k s wr (H.out.bel hw) (by omega))
      have HNW := Lib.hid (fun (b : Option Nat) (hb : Best L L[k].k.data.toList s L.length b) => newest_is HS.out hkl hb)
      have HST := Lib.hid (filter_step12 P hkl)
      have hle := filter_le12 L P k
      have HPK := Lib.hid (HP.out L[k])
      obtain ⟨A, hA⟩ : ∃ A, A = (L.take k).filter P := ⟨_, rfl⟩
      rw [← hA] at hown HST hle
      obtain ⟨ap, ac, rfl⟩ := ownG_len hown
      have HO := Lib.hid hown
      generalize hB0 : newB L s L[k] = nb at *
      generalize L[k] = e0 at *
      clear hA hown hw hB0
      go_wp2_with (fail)
      refine HN.out.mono ?_
      rintro r w2 ⟨b, rfl, hbest, hb2⟩
      have hnw := HNW.out _ hbest
      have HB2 := Lib.hid hb2
      have y0 := cl12 hb2 z0
      have y1 := cl12 hb2 z1
      have y2 := cl12 hb2 z2
      have y3 := cl12 hb2 z3
      clear hbest hb2 z0 z1 z2 z3 HNW HN
      generalize bI b = bi at *
      cases nb with
      | false =>
        have HI := Lib.hid (show P e0 = false by rw [HPK.out]; rfl)
        go_wp2_with (fail)
        go_roundw
        case rel => exact ⟨k + 1, hkl, by go_num, by rw [HST.out, HI.out]; simp only [Bool.false_eq_true, if_false, List.append_nil]; exact HO.out.bel HB2.out, HW.out.trans HB2.out⟩
        case measure => simp [intOf]; omega
      | true =>
        cases hd : e0.d with
        | true =>
          have HI := Lib.hid (show P e0 = false by rw [HPK.out, hd]; rfl)
          rw [hd] at y2
          clear hd
          go_wp2_with (fail)
          go_roundw
          case rel => exact ⟨k + 1, hkl, by go_num, by rw [HST.out, HI.out]; simp only [Bool.false_eq_true, if_false, List.append_nil]; exact HO.out.bel HB2.out, HW.out.trans HB2.out⟩
          case measure => simp [intOf]; omega
        | false =>
          have HI := Lib.hid (show P e0 = true by rw [HPK.out, hd]; rfl)
          have hed := hd
          rw [hd] at y2
          have HAL := Lib.hid ((Bel.refl w2).alloc (.cells #[.string e0.k, .int .i64 e0.q, .bool e0.d, .string e0.v] 36))
          have HWA := Lib.hid ((HW.out.trans HB2.out).trans HAL.out)
          have HO1 := Lib.hid ((HO.out.bel HB2.out).bel HAL.out)
          have HLIT := Lib.hid (tnew12 w2 (.cells #[.string e0.k, .int .i64 e0.q, .bool e0.d, .string e0.v] 36))
          rw [hd] at HAL HWA HO1 HLIT
          have HED := Lib.hid hed
          clear hd hed
          go_wp2_with (at_builtin; refine stop_here ?_)
          refine go_on ?_
          refine append_all entOk rfl _ _ rfl rfl HO1.out [e0] rfl (src_at [e0] HLIT.out (by rw [show El.all entEl [e0] = [.string e0.k, .int .i64 e0.q, .bool e0.d, .string e0.v] from rfl, HED.out]) rfl) (by simp only [List.length_singleton]; unfold maxLen; omega) (by simp only [List.length_singleton]; omega) HWA.out.size ?_
          intro v7 w7 ho7 hk7 _
          have HO7 := Lib.hid (show OwnG entEl w.heap.size w7 v7 ((L.take (k + 1)).filter P) by rw [HST.out, HI.out]; exact ho7)
          have HW7 := Lib.hid (HWA.out.trans_below (hk7.own HWA.out.size (fun kk hkk => (HO1.out.lt kk hkk).1)))
          obtain ⟨p7, c7, hv7⟩ := ownG_len HO7.out
          rw [hv7] at HO7 ⊢
          clear ho7 hk7 hv7
          generalize ((L.take (k + 1)).filter P).length = n7 at *
          go_wp2_with (fail)
          go_roundw
          case rel => exact ⟨k + 1, hkl, by go_num, HO7.out, HW7.out⟩
          case measure => simp [intOf]; omega
    · obtain rfl : k = L.length := by omega
      rw [List.take_length] at hown
      obtain ⟨ap, ac, rfl⟩ := ownG_len hown
      have HO := Lib.hid hown
      clear hown hw
      go_wp2_with (fail)
      go_ret
      exact ⟨_, rfl, by rw [HV.out]; exact HO.out, HW.out⟩
end Go.Proofs.Ytmdkpomgckkllaa
/- moultref12's Thin: three loops. -/
set_option maxRecDepth 100000
namespace Go.Proofs.Ytmdkpomgckkllaa
open Go.RowKit Go.Deep

theorem ints_at12 {w : World} {q : Option Addr} {S : List Int} (h : IntsAt12 w q S) {m : Nat} (hm : m < S.length) : ∃ B O sp, ∃ a : Addr, q = some a ∧ a.add m = ⟨B, O, sp⟩ ∧ w.cell? ⟨B, O, sp⟩ = some (.int .i64 S[m]) := by
  obtain ⟨a, ha, hc⟩ := h m hm
  exact ⟨_, _, _, a, ha, rfl, hc⟩
theorem ends_at12 {N : List EB} (h : Srt N) {i : Nat} (hi : i < N.length) : runDead N[i].k.data.toList (N.drop i) = endsB N N[i] := by
  have hd : N.drop i = N[i] :: N.drop (i + 1) := List.drop_eq_getElem_cons hi
  have hN : N = N.take i ++ N[i] :: N.drop (i + 1) := by rw [← hd, List.take_append_drop]
  rw [hd]
  have := run_ends (p := N.take i) (e := N[i]) (r := N.drop (i + 1)) (by rw [← hN]; exact h)
  rw [← hN] at this
  exact this
set_option maxHeartbeats 4000000 in
theorem rthin_any (p q : Option Addr) (cap cap' : Nat) (L : List EB) (S : List Int) (last : Bool) (w : World) (h : EntsAt w p L) (hI : IntsAt12 w q S) (hS : Srt L) (hL : L.length ≤ 1000) (hSl : S.length ≤ 1000) :
    Calls Try.prog 17 #[.slice p L.length cap, .slice q S.length cap', .bool last] w fun r w' => ∃ v, r = .returned v ∧ OwnG entEl w.heap.size w' v (thinL S last L) ∧ Bel w w' := by
  have H := Lib.hid h; have HS := Lib.hid hS; have HI := Lib.hid hI
  clear h hS hI
  obtain ⟨P, hP⟩ : ∃ P : EB → Bool, P = needB L S := ⟨_, rfl⟩
  have HV := Lib.hid (show thinL S last L = if last = true then (L.filter P).filter (fun e => !endsB (L.filter P) e) else L.filter P by rw [hP]; rfl)
  have HP := Lib.hid (fun e => congrFun hP e)
  clear hP
  go_enter Try.func17, Try.ntmps17
  go_wp2_with (fail)
  go_loopw [7, 8] (fun ov iv x => ∃ k : Nat, k ≤ L.length ∧ iv = .int .i64 k ∧ OwnG entEl w.heap.size x ov ((L.take k).filter P) ∧ Bel w x) (fun _ iv _ => L.length - (intOf iv).toNat)
  case atStart => exact ⟨0, Nat.zero_le _, rfl, OwnG.nil _ _ _, Bel.refl w⟩
  case round =>
    obtain ⟨k, hk, rfl, hown, hw⟩ := hrel
    have HW := Lib.hid hw
    by_cases hkl : k < L.length
    · obtain ⟨a, ha0, -⟩ := (H.out.bel hw) k hkl
      subst ha0
      obtain ⟨B, O, sp, ha, z0, z1, z2, z3⟩ := ent_at12 (H.out.bel hw) hkl
      have HZ := Lib.hid (And.intro z0 (And.intro z1 (And.intro z2 z3)))
      have HNA := Lib.hid (fun (z : World) (hz : Bel w z) (s : Int) => rnewest_any (some a) cap L L[k].k s z (H.out.bel hz) (by omega))
      have HNW := Lib.hid (fun (s : Int) (b : Option Nat) (hb : Best L L[k].k.data.toList s L.length b) => newest_is (s := s) HS.out hkl hb)
      have HST := Lib.hid (filter_step12 P hkl)
      have hle := filter_le12 L P k
      have HPK := Lib.hid (show P L[k] = (newB L 4611686018427387904 L[k] || S.any (fun s => newB L s L[k])) from HP.out L[k])
      obtain ⟨A, hA⟩ : ∃ A, A = (L.take k).filter P := ⟨_, rfl⟩
      rw [← hA] at hown HST hle
      obtain ⟨ap, ac, rfl⟩ := ownG_len hown
      have HO := Lib.hid hown
      generalize L[k] = e0 at *
      have hii : (k : Int) < (L.length : Int) := by omega
      clear hA hown hw
      go_wp2_with (fail)
      refine (HNA.out wr HW.out 4611686018427387904).mono ?_
      rintro r w2 ⟨b, rfl, hbest, hb2⟩
      have hnw := HNW.out _ _ hbest
      have HB2 := Lib.hid hb2
      clear hbest hb2 z0 z1 z2 z3
      generalize bI b = bi at *
      obtain ⟨nd0, hnd0⟩ : ∃ nd0, nd0 = newB L 4611686018427387904 e0 := ⟨_, rfl⟩
      rw [← hnd0] at hnw HPK
      clear hnd0
      go_wp2_with (fail)
      go_loopw [9, 10] (fun nv jv x => ∃ m : Nat, m ≤ S.length ∧ jv = .int .i64 m ∧ nv = .bool (nd0 || (S.take m).any (fun s => newB L s e0)) ∧ Bel wr x) (fun _ jv _ => S.length - (intOf jv).toNat)
      case atStart => exact ⟨0, Nat.zero_le _, rfl, by simp, HB2.out⟩
      case round =>
        obtain ⟨m, hm, rfl, rfl, hw2⟩ := hrel
        have HW2 := Lib.hid hw2
        have HWW := Lib.hid (HW.out.trans hw2)
        by_cases hml : m < S.length
        · obtain ⟨B1, O1, sp1, a1, ha1, hb1, y0⟩ := ints_at12 (HI.out) hml
          have y0' := cl12 HWW.out y0
          have z0' := cl12 hw2 HZ.out.1
          have HSN := Lib.hid (show (S.take (m + 1)).any (fun s => newB L s e0) = ((S.take m).any (fun s => newB L s e0) || newB L S[m] e0) by
            rw [List.take_add_one, List.getElem?_eq_getElem hml, Option.toList_some, List.any_append]; simp)
          have HNMm := Lib.hid (HNW.out S[m])
          subst ha1
          have hmi : (m : Int) < (S.length : Int) := by omega
          generalize S[m] = s0 at *
          generalize (S.take m).any (fun s => newB L s e0) = an at *
          clear hw2 y0
          cases hn : (nd0 || an) with
          | true =>
            have HR := Lib.hid (show (nd0 || (an || newB L s0 e0)) = true by rw [← Bool.or_assoc, hn]; rfl)
            go_wp2_with (fail)
            go_quiet (fail)
            go_wp2_with (fail)
            go_roundw
            case rel => exact ⟨m + 1, hml, by go_num, by rw [HSN.out, HR.out], HW2.out.drewN nq⟩
            case measure => simp [intOf]; omega
          | false =>
            have HR := Lib.hid (show (nd0 || (an || newB L s0 e0)) = newB L s0 e0 by rw [← Bool.or_assoc, hn]; rfl)
            have HSS := Lib.hid (show ∀ z, Bel wr z → z.cell? ⟨B, O, sp⟩ = some (.string e0.k) ∧ z.cell? ⟨B1, O1, sp1⟩ = some (.int .i64 s0) from fun z hz => ⟨cl12 hz z0', cl12 hz y0'⟩)
            go_wp2_with (fail)
            refine wp_region_held_drew (S := fun z => z.cell? ⟨B, O, sp⟩ = some (.string e0.k) ∧ z.cell? ⟨B1, O1, sp1⟩ = some (.int .i64 s0)) (by kernel_rfl) (HSS.out _ (Bel.refl wr).drew) (fun hHeld => ?_)
            refine wpAnyH_take (i := 0) (oi := { dst := some 34, op := Op.move (Operand.tmp 9), type := 4, pos := "ref.go:69", after := #[], guard := none }) (v := ?_) rfl (by kernel_rfl) (by kernel_rfl) (by kernel_rfl) (fun _ _ _ h => h) (Or.inl ⟨by rfl, ?_⟩) (by assumption) ?_
            rotate_left
            · (intro w hSw; (try dsimp only at hSw); first | (go_simp; done) | (go_simp; with_reducible rfl))
            try simp only [Act.put, List.setIfInBounds_toArray, List.set_cons_zero, List.set_cons_succ]
            refine wpAnyH_take (i := 1) (oi := { dst := some 35, op := Op.move (Operand.tmp 34), type := 4, pos := "ref.go:69", after := #[{ on := 0, ground := Ground.data }], guard := none }) (v := ?_) rfl (by kernel_rfl) (by kernel_rfl) (by kernel_rfl) (fun _ _ _ h => h) (Or.inl ⟨by rfl, ?_⟩) (by assumption) ?_
            rotate_left
            · (intro w hSw; (try dsimp only at hSw); first | (go_simp; done) | (go_simp; with_reducible rfl))
            try simp only [Act.put, List.setIfInBounds_toArray, List.set_cons_zero, List.set_cons_succ]
            refine wpAnyH_take (i := 2) (oi := { dst := some 36, op := Op.move (Operand.tmp 0), type := 27, pos := "ref.go:69", after := #[{ on := 1, ground := Ground.guard }], guard := some (1, false) }) (v := ?_) rfl (by kernel_rfl) (by kernel_rfl) (by kernel_rfl) (fun _ _ _ h => h) (Or.inl ⟨by rfl, ?_⟩) (by assumption) ?_
            rotate_left
            · (intro w hSw; (try dsimp only at hSw); first | (go_simp; done) | (go_simp; with_reducible rfl))
            try simp only [Act.put, List.setIfInBounds_toArray, List.set_cons_zero, List.set_cons_succ]
            refine wpAnyH_take (i := 3) (oi := { dst := some 37, op := Op.move (Operand.tmp 0), type := 27, pos := "ref.go:69", after := #[{ on := 1, ground := Ground.guard }], guard := some (1, false) }) (v := ?_) rfl (by kernel_rfl) (by kernel_rfl) (by kernel_rfl) (fun _ _ _ h => h) (Or.inl ⟨by rfl, ?_⟩) (by assumption) ?_
            rotate_left
            · (intro w hSw; (try dsimp only at hSw); first | (go_simp; done) | (go_simp; with_reducible rfl))
            try simp only [Act.put, List.setIfInBounds_toArray, List.set_cons_zero, List.set_cons_succ]
            refine wpAnyH_take (i := 4) (oi := { dst := some 38, op := Op.move (Operand.tmp 8), type := 3, pos := "ref.go:69", after := #[{ on := 1, ground := Ground.guard }], guard := some (1, false) }) (v := ?_) rfl (by kernel_rfl) (by kernel_rfl) (by kernel_rfl) (fun _ _ _ h => h) (Or.inl ⟨by rfl, ?_⟩) (by assumption) ?_
            rotate_left
            · (intro w hSw; (try dsimp only at hSw); first | (go_simp; done) | (go_simp; with_reducible rfl))
            try simp only [Act.put, List.setIfInBounds_toArray, List.set_cons_zero, List.set_cons_succ]
            refine wpAnyH_take (i := 5) (oi := { dst := some 39, op := Op.indexAddr 27 (Operand.tmp 37) (Operand.tmp 38), type := 0, pos := "ref.go:69", after := #[{ on := 3, ground := Ground.data }, { on := 4, ground := Ground.data }, { on := 1, ground := Ground.guard }], guard := some (1, false) }) (v := ?_) rfl (by kernel_rfl) (by kernel_rfl) (by kernel_rfl) (fun _ _ _ h => h) (Or.inl ⟨by rfl, ?_⟩) (by assumption) ?_
            rotate_left
            · (intro w hSw; (try dsimp only at hSw); first | (go_simp; done) | (go_simp; with_reducible rfl))
            try simp only [Act.put, List.setIfInBounds_toArray, List.set_cons_zero, List.set_cons_succ]
            refine wpAnyH_take (i := 6) (oi := { dst := some 40, op := Op.fieldAddr 36 (Operand.tmp 39) 0, type := 0, pos := "ref.go:69", after := #[{ on := 5, ground := Ground.data }, { on := 1, ground := Ground.guard }], guard := some (1, false) }) (v := ?_) rfl (by kernel_rfl) (by kernel_rfl) (by kernel_rfl) (fun _ _ _ h => h) (Or.inl ⟨by rfl, ?_⟩) (by assumption) ?_
            rotate_left
            · (intro w hSw; (try dsimp only at hSw); first | (go_simp; done) | (go_simp; with_reducible rfl))
            try simp only [Act.put, List.setIfInBounds_toArray, List.set_cons_zero, List.set_cons_succ]
            refine wpAnyH_take (i := 7) (oi := { dst := some 41, op := Op.load 9 (Operand.tmp 40), type := 9, pos := "ref.go:69", after := #[{ on := 6, ground := Ground.data }, { on := 1, ground := Ground.guard }], guard := some (1, false) }) (v := ?_) rfl (by kernel_rfl) (by kernel_rfl) (by kernel_rfl) (fun _ _ _ h => h) (Or.inl ⟨by rfl, ?_⟩) (by assumption) ?_
            rotate_left
            · (intro w hSw; (try dsimp only at hSw); first | (go_simp; done) | (go_simp; with_reducible rfl))
            try simp only [Act.put, List.setIfInBounds_toArray, List.set_cons_zero, List.set_cons_succ]
            refine wpAnyH_take (i := 8) (oi := { dst := some 42, op := Op.move (Operand.tmp 1), type := 23, pos := "ref.go:69", after := #[{ on := 1, ground := Ground.guard }], guard := some (1, false) }) (v := ?_) rfl (by kernel_rfl) (by kernel_rfl) (by kernel_rfl) (fun _ _ _ h => h) (Or.inl ⟨by rfl, ?_⟩) (by assumption) ?_
            rotate_left
            · (intro w hSw; (try dsimp only at hSw); first | (go_simp; done) | (go_simp; with_reducible rfl))
            try simp only [Act.put, List.setIfInBounds_toArray, List.set_cons_zero, List.set_cons_succ]
            refine wpAnyH_take (i := 9) (oi := { dst := some 43, op := Op.move (Operand.tmp 10), type := 3, pos := "ref.go:69", after := #[{ on := 1, ground := Ground.guard }], guard := some (1, false) }) (v := ?_) rfl (by kernel_rfl) (by kernel_rfl) (by kernel_rfl) (fun _ _ _ h => h) (Or.inl ⟨by rfl, ?_⟩) (by assumption) ?_
            rotate_left
            · (intro w hSw; (try dsimp only at hSw); first | (go_simp; done) | (go_simp; with_reducible rfl))
            try simp only [Act.put, List.setIfInBounds_toArray, List.set_cons_zero, List.set_cons_succ]
            refine wpAnyH_take (i := 10) (oi := { dst := some 44, op := Op.indexAddr 23 (Operand.tmp 42) (Operand.tmp 43), type := 0, pos := "ref.go:69", after := #[{ on := 8, ground := Ground.data }, { on := 9, ground := Ground.data }, { on := 1, ground := Ground.guard }], guard := some (1, false) }) (v := ?_) rfl (by kernel_rfl) (by kernel_rfl) (by kernel_rfl) (fun _ _ _ h => h) (Or.inl ⟨by rfl, ?_⟩) (by assumption) ?_
            rotate_left
            · (intro w hSw; (try dsimp only at hSw); first | (go_simp; done) | (go_simp; with_reducible rfl))
            try simp only [Act.put, List.setIfInBounds_toArray, List.set_cons_zero, List.set_cons_succ]
            refine wpAnyH_take (i := 11) (oi := { dst := some 45, op := Op.load 3 (Operand.tmp 44), type := 3, pos := "ref.go:69", after := #[{ on := 10, ground := Ground.data }, { on := 1, ground := Ground.guard }], guard := some (1, false) }) (v := ?_) rfl (by kernel_rfl) (by kernel_rfl) (by kernel_rfl) (fun _ _ _ h => h) (Or.inl ⟨by rfl, ?_⟩) (by assumption) ?_
            rotate_left
            · (intro w hSw; (try dsimp only at hSw); first | (go_simp; done) | (go_simp; with_reducible rfl))
            try simp only [Act.put, List.setIfInBounds_toArray, List.set_cons_zero, List.set_cons_succ]
            refine wpAnyH_take (i := 13) (oi := { dst := some 47, op := Op.move (Operand.tmp 8), type := 3, pos := "ref.go:69", after := #[{ on := 1, ground := Ground.guard }], guard := some (1, false) }) (v := ?_) rfl (by kernel_rfl) (by kernel_rfl) (by kernel_rfl) (fun _ _ _ h => h) (Or.inl ⟨by rfl, ?_⟩) (by assumption) ?_
            rotate_left
            · (intro w hSw; (try dsimp only at hSw); first | (go_simp; done) | (go_simp; with_reducible rfl))
            try simp only [Act.put, List.setIfInBounds_toArray, List.set_cons_zero, List.set_cons_succ]
            refine wpAnyH_ready (rs := [12]) (by kernel_rfl) (by simp) ?_
            refine AllReadyH.cons (o := { dst := some 46, op := Op.call { callee := Callee.value (Operand.func 31), args := #[Operand.tmp 36, Operand.tmp 41, Operand.tmp 45], argTypes := #[27, 9, 3] }, type := 3, pos := "ref.go:69", after := #[{ on := 2, ground := Ground.data }, { on := 7, ground := Ground.data }, { on := 11, ground := Ground.data }, { on := 1, ground := Ground.chain }, { on := 1, ground := Ground.guard }], guard := some (1, false) }) rfl (fun K hK => ?_) AllReadyH.nil
            go_simp
            refine (HNA.out _ (HWW.out.drew) s0).mono ?_
            rintro r w3 ⟨b3, rfl, hbest3, hb3⟩
            have hnw3 := HNMm.out _ hbest3
            have HB3 := Lib.hid ((Bel.refl wr).drew.trans hb3)
            dsimp only
            refine hK.out _ _ (HSS.out _ HB3.out) (fun hHeld => ?_)
            clear hK K hbest3 hb3
            try simp only [Act.put, List.setIfInBounds_toArray, List.set_cons_zero, List.set_cons_succ]
            generalize bI b3 = bi3 at *
            refine wpAnyH_take (i := 14) (oi := { dst := some 48, op := Op.binOp BinOp.eql 3 (Operand.tmp 46) (Operand.tmp 47) 3, type := 4, pos := "ref.go:69", after := #[{ on := 12, ground := Ground.data }, { on := 13, ground := Ground.data }, { on := 1, ground := Ground.guard }], guard := some (1, false) }) (v := ?_) rfl (by kernel_rfl) (by kernel_rfl) (by kernel_rfl) (fun _ _ _ h => h) (Or.inl ⟨by rfl, ?_⟩) (by assumption) ?_
            rotate_left
            · (intro w hSw; (try dsimp only at hSw); first | (go_simp; done) | (go_simp; with_reducible rfl))
            try simp only [Act.put, List.setIfInBounds_toArray, List.set_cons_zero, List.set_cons_succ]
            refine wpAnyH_take (i := 15) (oi := { dst := some 49, op := Op.pick (Operand.tmp 35) (Operand.const (Value.bool true)) (Operand.tmp 48), type := 4, pos := "ref.go:69", after := #[{ on := 1, ground := Ground.data }, { on := 14, ground := Ground.data }], guard := none }) (v := ?_) rfl (by kernel_rfl) (by kernel_rfl) (by kernel_rfl) (fun _ _ _ h => h) (Or.inl ⟨by rfl, ?_⟩) (by assumption) ?_
            rotate_left
            · (intro w hSw; (try dsimp only at hSw); first | (go_simp; done) | (go_simp; with_reducible rfl))
            try simp only [Act.put, List.setIfInBounds_toArray, List.set_cons_zero, List.set_cons_succ]
            refine wpAnyH_take (i := 16) (oi := { dst := some 9, op := Op.assign (Operand.tmp 49), type := 4, pos := "ref.go:69", after := #[{ on := 15, ground := Ground.data }, { on := 12, ground := Ground.chain }, { on := 0, ground := Ground.phase }, { on := 1, ground := Ground.phase }, { on := 2, ground := Ground.phase }, { on := 3, ground := Ground.phase }, { on := 4, ground := Ground.phase }, { on := 5, ground := Ground.phase }, { on := 6, ground := Ground.phase }, { on := 7, ground := Ground.phase }, { on := 8, ground := Ground.phase }, { on := 9, ground := Ground.phase }, { on := 10, ground := Ground.phase }, { on := 11, ground := Ground.phase }, { on := 12, ground := Ground.phase }, { on := 13, ground := Ground.phase }, { on := 14, ground := Ground.phase }, { on := 15, ground := Ground.phase }], guard := none }) (v := ?_) rfl (by kernel_rfl) (by kernel_rfl) (by kernel_rfl) (fun _ _ _ h => h) (Or.inl ⟨by rfl, ?_⟩) (by assumption) ?_
            rotate_left
            · (intro w hSw; (try dsimp only at hSw); first | (go_simp; done) | (go_simp; with_reducible rfl))
            try simp only [Act.put, List.setIfInBounds_toArray, List.set_cons_zero, List.set_cons_succ]
            refine wpAnyH_done (by kernel_rfl) ?_ _
            clear hHeld
            go_wp2_with (fail)
            go_roundw
            case rel => exact ⟨m + 1, hml, by go_num, by rw [HSN.out, HR.out], HW2.out.trans HB3.out⟩
            case measure => simp [intOf]; omega
        · obtain rfl : m = S.length := by omega
          have hmi : ¬ (S.length : Int) < (S.length : Int) := by omega
          have HPE := Lib.hid (show P e0 = (nd0 || (S.take S.length).any (fun s => newB L s e0)) by rw [List.take_length]; exact HPK.out)
          generalize (nd0 || (S.take S.length).any (fun s => newB L s e0)) = nd at *
          have q0 := cl12 hw2 HZ.out.1
          have q1 := cl12 hw2 HZ.out.2.1
          have q2 := cl12 hw2 HZ.out.2.2.1
          have q3 := cl12 hw2 HZ.out.2.2.2
          clear hw2
          cases nd with
          | false =>
            go_wp2_with (fail)
            go_roundw
            case rel => exact ⟨k + 1, hkl, by go_num, by rw [HST.out, HPE.out]; simp only [Bool.false_eq_true, if_false, List.append_nil]; exact HO.out.bel HW2.out, HWW.out⟩
            case measure => simp [intOf]; omega
          | true =>
            have HNL := Lib.hid (show (L.take (k + 1)).filter P = A ++ [e0] by rw [HST.out, HPE.out]; rfl)
            have HLIT0 := Lib.hid (tnew12 wr (.cells #[.string e0.k, .int .i64 e0.q, .bool e0.d, .string e0.v] 36))
            have HAL := Lib.hid ((Bel.refl wr).alloc (.cells #[.string e0.k, .int .i64 e0.q, .bool e0.d, .string e0.v] 36))
            have HO1 := Lib.hid ((HO.out.bel HW2.out).bel HAL.out)
            have HWA := Lib.hid (HWW.out.trans HAL.out)
            go_wp2_with (at_builtin; refine stop_here ?_)
            refine go_on ?_
            refine append_all entOk rfl _ _ rfl rfl HO1.out [e0] rfl (src_at [e0] HLIT0.out rfl rfl) (by simp only [List.length_singleton]; unfold maxLen; omega) (by simp only [List.length_singleton]; omega) HWA.out.size ?_
            intro v7 w7 ho7 hk7 _
            obtain ⟨p7, c7, hv7⟩ := ownG_len ho7
            generalize (A ++ [e0]).length = m7 at hv7
            subst hv7
            have HO7 := Lib.hid ho7
            have HW7 := Lib.hid (HWA.out.trans_below (hk7.own HWA.out.size (fun kk hkk => (HO1.out.lt kk hkk).1)))
            clear ho7 hk7
            go_wp2_with (fail)
            go_roundw
            case rel => exact ⟨k + 1, hkl, by go_num, by rw [HNL.out]; exact HO7.out, HW7.out⟩
            case measure => simp [intOf]; omega
    · obtain rfl : k = L.length := by omega
      rw [List.take_length] at hown
      obtain ⟨N, hN⟩ : ∃ N, N = L.filter P := ⟨_, rfl⟩
      have hNs : Srt N := by rw [hN]; exact List.Pairwise.filter _ HS.out
      have hNl : N.length ≤ 1000 := by rw [hN]; exact Nat.le_trans (List.length_filter_le _ _) hL
      rw [← hN] at hown HV
      obtain ⟨np, nc, rfl, hne, -⟩ := ownG_ents12 hown
      have HO := Lib.hid hown
      have HNE := Lib.hid hne
      have HNS := Lib.hid hNs
      have hkk : ¬ (L.length : Int) < (L.length : Int) := by omega
      clear hown hw hN hne hNs
      cases last with
      | false =>
        go_wp2_with (fail)
        go_ret
        exact ⟨_, rfl, by rw [HV.out]; exact HO.out, HW.out⟩
      | true =>
        have HV2 := Lib.hid (show thinL S true L = N.filter (fun e => !endsB N e) by rw [HV.out]; rfl)
        obtain ⟨R, hR⟩ : ∃ R : EB → Bool, R = fun e => !endsB N e := ⟨_, rfl⟩
        have HR := Lib.hid (fun e => congrFun hR e)
        rw [← hR] at HV2
        clear hR
        go_wp2_with (fail)
        go_loopw [11, 12] (fun lv iv x => ∃ i : Nat, i ≤ N.length ∧ iv = .int .i64 i ∧ OwnG entEl wr.heap.size x lv ((N.take i).filter R) ∧ Bel wr x) (fun _ iv _ => N.length - (intOf iv).toNat)
        case atStart => exact ⟨0, Nat.zero_le _, rfl, OwnG.nil _ _ _, Bel.refl wr⟩
        case round =>
          obtain ⟨i, hi, rfl, hown2, hw2⟩ := hrel
          have HW2 := Lib.hid hw2
          by_cases hil : i < N.length
          · obtain ⟨a, ha0, -⟩ := (HNE.out.bel hw2) i hil
            subst ha0
            obtain ⟨B, O, sp, ha, z0, z1, z2, z3⟩ := ent_at12 (HNE.out.bel hw2) hil
            have HEN := Lib.hid (rends_any (some a) nc N i wr (HNE.out.bel hw2) (by omega) hil)
            rw [ends_at12 HNS.out hil] at HEN
            have HST := Lib.hid (filter_step12 R hil)
            have hle := filter_le12 N R i
            have HRK := Lib.hid (show R N[i] = !endsB N N[i] from HR.out N[i])
            obtain ⟨A, hA⟩ : ∃ A, A = (N.take i).filter R := ⟨_, rfl⟩
            rw [← hA] at hown2 HST hle
            obtain ⟨ap, ac, rfl⟩ := ownG_len hown2
            have HO2 := Lib.hid hown2
            generalize hen : endsB N N[i] = en at *
            generalize N[i] = e0 at *
            have hii : (i : Int) < (N.length : Int) := by omega
            clear hA hown2 hw2 hen
            go_wp2_with (fail)
            refine HEN.out.mono ?_
            rintro r w2 ⟨rfl, hb2⟩
            have HB2 := Lib.hid hb2
            have y0 := cl12 hb2 z0
            have y1 := cl12 hb2 z1
            have y2 := cl12 hb2 z2
            have y3 := cl12 hb2 z3
            clear hb2 z0 z1 z2 z3
            cases en with
            | true =>
              have HNL := Lib.hid (show (N.take (i + 1)).filter R = A by rw [HST.out, HRK.out]; simp)
              go_wp2_with (fail)
              go_roundw
              case rel => exact ⟨i + 1, hil, by go_num, by rw [HNL.out]; exact HO2.out.bel HB2.out, HW2.out.trans HB2.out⟩
              case measure => simp [intOf]; omega
            | false =>
              have HNL := Lib.hid (show (N.take (i + 1)).filter R = A ++ [e0] by rw [HST.out, HRK.out]; simp)
              have HLIT0 := Lib.hid (tnew12 w2 (.cells #[.string e0.k, .int .i64 e0.q, .bool e0.d, .string e0.v] 36))
              have HAL := Lib.hid ((Bel.refl w2).alloc (.cells #[.string e0.k, .int .i64 e0.q, .bool e0.d, .string e0.v] 36))
              have HO1 := Lib.hid ((HO2.out.bel HB2.out).bel HAL.out)
              have HWA := Lib.hid ((HW2.out.trans HB2.out).trans HAL.out)
              go_wp2_with (at_builtin; refine stop_here ?_)
              refine go_on ?_
              refine append_all entOk rfl _ _ rfl rfl HO1.out [e0] rfl (src_at [e0] HLIT0.out rfl rfl) (by simp only [List.length_singleton]; unfold maxLen; omega) (by simp only [List.length_singleton]; omega) HWA.out.size ?_
              intro v7 w7 ho7 hk7 _
              obtain ⟨p7, c7, hv7⟩ := ownG_len ho7
              generalize (A ++ [e0]).length = m7 at hv7
              subst hv7
              have HO7 := Lib.hid ho7
              have HW7 := Lib.hid (HWA.out.trans_below (hk7.own HWA.out.size (fun kk hkk => (HO1.out.lt kk hkk).1)))
              clear ho7 hk7
              go_wp2_with (fail)
              go_roundw
              case rel => exact ⟨i + 1, hil, by go_num, by rw [HNL.out]; exact HO7.out, HW7.out⟩
              case measure => simp [intOf]; omega
          · obtain rfl : i = N.length := by omega
            rw [List.take_length] at hown2
            obtain ⟨ap, ac, rfl⟩ := ownG_len hown2
            have HO2 := Lib.hid hown2
            have hii : ¬ (N.length : Int) < (N.length : Int) := by omega
            clear hown2 hw2
            go_wp2_with (fail)
            go_ret
            exact ⟨_, rfl, by rw [HV2.out]; exact HO2.out.low HW.out.size, HW.out.trans HW2.out⟩
end Go.Proofs.Ytmdkpomgckkllaa
/- moultlaw12.newest, known. -/
set_option maxRecDepth 20000
namespace Go.Proofs.Ytmdkpomgckkllaa
open Go.RowKit Go.Deep

theorem newB_of {L : List EB} {s : Int} {e : EB} (h : ∀ i (h : i < L.length), ¬ (L[i].k.data.toList = e.k.data.toList ∧ L[i].q ≤ s ∧ e.q < L[i].q)) : newB L s e = decide (e.q ≤ s) := by
  by_cases hs : e.q ≤ s
  · rw [decide_eq_true hs]
    refine newB_iff.2 ⟨hs, fun c hc hk hq => ?_⟩
    obtain ⟨i, hi, rfl⟩ := List.getElem_of_mem hc
    exact Int.not_lt.1 (fun hh => h i hi ⟨hk, hq, hh⟩)
  · rw [decide_eq_false hs]
    cases hn : newB L s e with
    | false => rfl
    | true => exact absurd (newB_iff.1 hn).1 hs
theorem newB_not {L : List EB} {s : Int} {e : EB} {i : Nat} (hi : i < L.length) (h : L[i].k.data.toList = e.k.data.toList ∧ L[i].q ≤ s ∧ e.q < L[i].q) : newB L s e = false := by
  cases hn : newB L s e with
  | false => rfl
  | true => exact absurd ((newB_iff.1 hn).2 _ (List.getElem_mem hi) h.1 h.2.1) (by omega)
set_option maxHeartbeats 4000000 in
theorem lnewest_any (p : Option Addr) (cap : Nat) (L : List EB) (e : EB) (s : Int) (w : World) (h : EntsAt w p L) (hL : L.length ≤ 100000) :
    Calls Try.prog 23 #[.slice p L.length cap, .agg #[.string e.k, .int .i64 e.q, .bool e.d, .string e.v], .int .i64 s] w fun r w' => r = .returned (.bool (newB L s e)) ∧ Bel w w' := by
  obtain ⟨w1, hw1⟩ : ∃ z, z = w.alloc (.cells #[.string e.k, .int .i64 e.q, .bool e.d, .string e.v] 36) := ⟨_, rfl⟩
  have hB1 : Bel w w1 := by rw [hw1]; exact (Bel.refl w).alloc _
  have kx : w1.heap[w.heap.size]? = some (.cells #[.string e.k, .int .i64 e.q, .bool e.d, .string e.v] 36 (0, 0)) := by rw [hw1]; exact tnew12 w _
  have x0 : w1.cell? ⟨w.heap.size, 0, none⟩ = some (.string e.k) := by simp [World.cell?, kx]
  have x1 : w1.cell? ⟨w.heap.size, 1, none⟩ = some (.int .i64 e.q) := by simp [World.cell?, kx]
  have H := Lib.hid (h.bel hB1); clear h
  have HB1 := Lib.hid hB1
  have X0 := Lib.hid x0
  have X1 := Lib.hid x1
  clear hB1 kx x0 x1
  go_enter Try.func23, Try.ntmps23
  go_wp2_with (fail)
  rw [show (w.alloc (.cells #[.string e.k, .int .i64 e.q, .bool e.d, .string e.v] 36)) = w1 from hw1.symm]
  clear hw1
  go_loopw [7] (fun iv x => ∃ k : Nat, k ≤ L.length ∧ iv = .int .i64 k ∧ (∀ i (h : i < L.length), i < k → ¬ (L[i].k.data.toList = e.k.data.toList ∧ L[i].q ≤ s ∧ e.q < L[i].q)) ∧ Bel w1 x) (fun iv _ => L.length - (intOf iv).toNat)
  case atStart => exact ⟨0, Nat.zero_le _, rfl, fun i _ h => by omega, Bel.refl w1⟩
  case round =>
    obtain ⟨k, hk, rfl, hall, hw⟩ := hrel
    have HW := Lib.hid hw
    have q0 := cl12 hw X0.out
    have q1 := cl12 hw X1.out
    by_cases hkl : k < L.length
    · obtain ⟨a, ha0, -⟩ := (H.out.bel hw) k hkl
      subst ha0
      obtain ⟨B, O, sp, ha, z0, z1, z2, z3⟩ := ent_at12 (H.out.bel hw) hkl
      have HNX := Lib.hid (show ¬ (L[k].k.data.toList = e.k.data.toList ∧ L[k].q ≤ s ∧ e.q < L[k].q) → ∀ i (h : i < L.length), i < k + 1 → ¬ (L[i].k.data.toList = e.k.data.toList ∧ L[i].q ≤ s ∧ e.q < L[i].q) from fun hh i h hi => by
        by_cases e : i = k
        · subst e; exact hh
        · exact hall i h (by omega))
      cases hkey : (L[k].k.toList == e.k.toList) with
      | false =>
        have HB := Lib.hid (HNX.out (fun hh => by
          rw [ByteArray.toList_eq, ByteArray.toList_eq, beq_eq_false_iff_ne] at hkey
          exact hkey hh.1))
        clear hall hw HNX
        generalize L[k] = e0 at *
        go_wp2_with (fail)
        go_quiet (fail)
        go_wp2_with (fail)
        go_roundw
        case rel => exact ⟨k + 1, hkl, by go_num, HB.out, HW.out.drewN nq⟩
        case measure => simp [intOf]; omega
      | true =>
        have hke : L[k].k.data.toList = e.k.data.toList := by rw [beq_iff_eq, ByteArray.toList_eq, ByteArray.toList_eq] at hkey; exact hkey
        by_cases hq : L[k].q ≤ s
        · have hqd : decide (L[k].q ≤ s) = true := decide_eq_true hq
          by_cases hg : e.q < L[k].q
          · have hgd : decide (e.q < L[k].q) = true := decide_eq_true hg
            have HB := Lib.hid (newB_not hkl ⟨hke, hq, hg⟩)
            clear hall hw hke HNX
            generalize L[k] = e0 at *
            go_wp2_with (fail)
            go_quiet (fail)
            go_wp2_with (fail)
            go_ret
            exact ⟨by rw [HB.out]; rfl, (HB1.out.trans HW.out).drewN nq⟩
          · have hgd : decide (e.q < L[k].q) = false := decide_eq_false hg
            have HB := Lib.hid (HNX.out (fun hh => hg hh.2.2))
            clear hall hw hke HNX
            generalize L[k] = e0 at *
            go_wp2_with (fail)
            go_quiet (fail)
            go_wp2_with (fail)
            go_roundw
            case rel => exact ⟨k + 1, hkl, by go_num, HB.out, HW.out.drewN nq⟩
            case measure => simp [intOf]; omega
        · have hqd : decide (L[k].q ≤ s) = false := decide_eq_false hq
          have HB := Lib.hid (HNX.out (fun hh => hq hh.2.1))
          clear hall hw hke HNX
          generalize L[k] = e0 at *
          go_wp2_with (fail)
          go_quiet (fail)
          go_wp2_with (fail)
          go_roundw
          case rel => exact ⟨k + 1, hkl, by go_num, HB.out, HW.out.drewN nq⟩
          case measure => simp [intOf]; omega
    · have HB := Lib.hid (newB_of (fun i h => hall i h (by omega)))
      clear hall hw
      go_wp2_with (fail)
      go_ret
      exact ⟨by rw [HB.out]; rfl, HB1.out.trans HW.out⟩
set_option maxHeartbeats 4000000 in
theorem lknown_any (p : Option Addr) (cap : Nat) (L : List EB) (e : EB) (w : World) (h : EntsAt w p L) (hL : L.length ≤ 100000) :
    Calls Try.prog 22 #[.slice p L.length cap, .agg #[.string e.k, .int .i64 e.q, .bool e.d, .string e.v]] w fun r w' => r = .returned (.bool (L.any (fun c => decide (sameB c e)))) ∧ Bel w w' := by
  obtain ⟨w1, hw1⟩ : ∃ z, z = w.alloc (.cells #[.string e.k, .int .i64 e.q, .bool e.d, .string e.v] 36) := ⟨_, rfl⟩
  have hB1 : Bel w w1 := by rw [hw1]; exact (Bel.refl w).alloc _
  have kx : w1.heap[w.heap.size]? = some (.cells #[.string e.k, .int .i64 e.q, .bool e.d, .string e.v] 36 (0, 0)) := by rw [hw1]; exact tnew12 w _
  have x0 : w1.cell? ⟨w.heap.size, 0, none⟩ = some (.string e.k) := by simp [World.cell?, kx]
  have x1 : w1.cell? ⟨w.heap.size, 1, none⟩ = some (.int .i64 e.q) := by simp [World.cell?, kx]
  have H := Lib.hid (h.bel hB1); clear h
  have HB1 := Lib.hid hB1
  have X0 := Lib.hid x0
  have X1 := Lib.hid x1
  clear hB1 kx x0 x1
  go_enter Try.func22, Try.ntmps22
  go_wp2_with (fail)
  rw [show (w.alloc (.cells #[.string e.k, .int .i64 e.q, .bool e.d, .string e.v] 36)) = w1 from hw1.symm]
  clear hw1
  go_loopw [5] (fun iv x => ∃ k : Nat, k ≤ L.length ∧ iv = .int .i64 k ∧ (∀ i (h : i < L.length), i < k → ¬ sameB L[i] e) ∧ Bel w1 x) (fun iv _ => L.length - (intOf iv).toNat)
  case atStart => exact ⟨0, Nat.zero_le _, rfl, fun i _ h => by omega, Bel.refl w1⟩
  case round =>
    obtain ⟨k, hk, rfl, hall, hw⟩ := hrel
    have HW := Lib.hid hw
    have q0 := cl12 hw X0.out
    have q1 := cl12 hw X1.out
    by_cases hkl : k < L.length
    · obtain ⟨a, ha0, -⟩ := (H.out.bel hw) k hkl
      subst ha0
      obtain ⟨B, O, sp, ha, z0, z1, z2, z3⟩ := ent_at12 (H.out.bel hw) hkl
      have HNX := Lib.hid (show ¬ sameB L[k] e → ∀ i (h : i < L.length), i < k + 1 → ¬ sameB L[i] e from fun hh i h hi => by
        by_cases e : i = k
        · subst e; exact hh
        · exact hall i h (by omega))
      cases hkey : (L[k].k.toList == e.k.toList) with
      | false =>
        have HB := Lib.hid (HNX.out (fun hh => by
          rw [ByteArray.toList_eq, ByteArray.toList_eq, beq_eq_false_iff_ne] at hkey
          exact hkey hh.1))
        clear hall hw HNX
        generalize L[k] = e0 at *
        go_wp2_with (fail)
        go_quiet (fail)
        go_wp2_with (fail)
        go_roundw
        case rel => exact ⟨k + 1, hkl, by go_num, HB.out, HW.out.drewN nq⟩
        case measure => simp [intOf]; omega
      | true =>
        have hke : L[k].k.data.toList = e.k.data.toList := by rw [beq_iff_eq, ByteArray.toList_eq, ByteArray.toList_eq] at hkey; exact hkey
        cases hg : (L[k].q == e.q) with
        | true =>
          have HB := Lib.hid (show L.any (fun c => decide (sameB c e)) = true from List.any_eq_true.2 ⟨_, List.getElem_mem hkl, decide_eq_true ⟨hke, eq_of_beq hg⟩⟩)
          clear hall hw hke HNX
          generalize L[k] = e0 at *
          go_wp2_with (fail)
          go_quiet (fail)
          go_wp2_with (fail)
          go_ret
          exact ⟨by rw [HB.out]; rfl, (HB1.out.trans HW.out).drewN nq⟩
        | false =>
          have HB := Lib.hid (HNX.out (fun hh => (beq_eq_false_iff_ne.1 hg) hh.2))
          clear hall hw hke HNX
          generalize L[k] = e0 at *
          go_wp2_with (fail)
          go_quiet (fail)
          go_wp2_with (fail)
          go_roundw
          case rel => exact ⟨k + 1, hkl, by go_num, HB.out, HW.out.drewN nq⟩
          case measure => simp [intOf]; omega
    · have HB := Lib.hid (show L.any (fun c => decide (sameB c e)) = false from List.any_eq_false.2 (fun c hc => by
        obtain ⟨i, hi, rfl⟩ := List.getElem_of_mem hc
        simp [hall i hi (by omega)]))
      clear hall hw
      go_wp2_with (fail)
      go_ret
      exact ⟨by rw [HB.out]; rfl, HB1.out.trans HW.out⟩
end Go.Proofs.Ytmdkpomgckkllaa
/- moultlaw12.has: an entry in one of some rows. -/
set_option maxRecDepth 20000
namespace Go.Proofs.Ytmdkpomgckkllaa
open Go.RowKit Go.Deep

theorem ent_ne12 {a b : EB} (h : a ≠ b) : (a.k.toList == b.k.toList) = false ∨ ((a.k.toList == b.k.toList) = true ∧ (a.q == b.q) = false) ∨ ((a.k.toList == b.k.toList) = true ∧ (a.q == b.q) = true ∧ (a.d == b.d) = false) ∨ ((a.k.toList == b.k.toList) = true ∧ (a.q == b.q) = true ∧ (a.d == b.d) = true ∧ (a.v.toList == b.v.toList) = false) := by
  cases h1 : (a.k.toList == b.k.toList) with
  | false => exact Or.inl rfl
  | true =>
    cases h2 : (a.q == b.q) with
    | false => exact Or.inr (Or.inl ⟨rfl, rfl⟩)
    | true =>
      cases h3 : (a.d == b.d) with
      | false => exact Or.inr (Or.inr (Or.inl ⟨rfl, rfl, rfl⟩))
      | true =>
        cases h4 : (a.v.toList == b.v.toList) with
        | false => exact Or.inr (Or.inr (Or.inr ⟨rfl, rfl, rfl, rfl⟩))
        | true =>
          exfalso; apply h
          obtain ⟨k, q, d, v⟩ := a
          obtain ⟨k', q', d', v'⟩ := b
          rw [beq_iff_eq, ByteArray.toList_eq, ByteArray.toList_eq] at h1 h4
          have g1 : k = k' := ByteArray.ext (Array.toList_inj.1 h1)
          have g2 : q = q' := eq_of_beq h2
          have g3 : d = d' := eq_of_beq h3
          have g4 : v = v' := ByteArray.ext (Array.toList_inj.1 h4)
          rw [g1, g2, g3, g4]
set_option maxHeartbeats 4000000 in
theorem lhas_any (p : Option Addr) (cap : Nat) (R : List (List EB)) (e : EB) (w : World) (h : RowsAt w p R) (hR : R.length ≤ 1000) (hL : ∀ L ∈ R, L.length ≤ 100000) (he : e ∈ R.flatten) :
    Calls Try.prog 21 #[.slice p R.length cap, .agg #[.string e.k, .int .i64 e.q, .bool e.d, .string e.v]] w fun r w' => r = .returned (.bool true) ∧ Bel w w' := by
  obtain ⟨w1, hw1⟩ : ∃ z, z = w.alloc (.cells #[.string e.k, .int .i64 e.q, .bool e.d, .string e.v] 36) := ⟨_, rfl⟩
  have hB1 : Bel w w1 := by rw [hw1]; exact (Bel.refl w).alloc _
  have kx : w1.heap[w.heap.size]? = some (.cells #[.string e.k, .int .i64 e.q, .bool e.d, .string e.v] 36 (0, 0)) := by rw [hw1]; exact tnew12 w _
  have x0 : w1.cell? ⟨w.heap.size, 0, none⟩ = some (.string e.k) := by simp [World.cell?, kx]
  have x1 : w1.cell? ⟨w.heap.size, 1, none⟩ = some (.int .i64 e.q) := by simp [World.cell?, kx]
  have x2 : w1.cell? ⟨w.heap.size, 2, none⟩ = some (.bool e.d) := by simp [World.cell?, kx]
  have x3 : w1.cell? ⟨w.heap.size, 3, none⟩ = some (.string e.v) := by simp [World.cell?, kx]
  have H := Lib.hid (h.bel hB1); clear h
  have HLL := Lib.hid hL; clear hL
  have HB1 := Lib.hid hB1
  have X0 := Lib.hid x0
  have X1 := Lib.hid x1
  have X2 := Lib.hid x2
  have X3 := Lib.hid x3
  have HE := Lib.hid he
  clear hB1 kx x0 x1 x2 x3 he
  go_enter Try.func21, Try.ntmps21
  go_wp2_with (fail)
  rw [show (w.alloc (.cells #[.string e.k, .int .i64 e.q, .bool e.d, .string e.v] 36)) = w1 from hw1.symm]
  clear hw1
  go_loopw [5] (fun iv x => ∃ k : Nat, k ≤ R.length ∧ iv = .int .i64 k ∧ (∀ i (h : i < R.length), i < k → e ∉ R[i]) ∧ Bel w1 x) (fun iv _ => R.length - (intOf iv).toNat)
  case atStart => exact ⟨0, Nat.zero_le _, rfl, fun i _ h => by omega, Bel.refl w1⟩
  case round =>
    obtain ⟨i, hi, rfl, hall, hw⟩ := hrel
    have HW := Lib.hid hw
    have HALL := Lib.hid hall
    by_cases hil : i < R.length
    · obtain ⟨a, q, c, rfl, hq, hrow, -⟩ := (H.out.bel hw) i hil
      have HROW := Lib.hid hrow
      have HQ := Lib.hid hq
      have hLL := HLL.out _ (List.getElem_mem hil)
      have HNX := Lib.hid (show e ∉ R[i] → ∀ j (h : j < R.length), j < i + 1 → e ∉ R[j] from fun hh j h hj => by
        by_cases e : j = i
        · subst e; exact hh
        · exact hall j h (by omega))
      generalize R[i] = L at *
      clear hw hrow hall
      go_wp2_with (fail)
      go_loopw [6] (fun kv x => ∃ k : Nat, k ≤ L.length ∧ kv = .int .i64 k ∧ (∀ j (h : j < L.length), j < k → L[j] ≠ e) ∧ Bel wr x) (fun kv _ => L.length - (intOf kv).toNat)
      case atStart => exact ⟨0, Nat.zero_le _, rfl, fun j _ h => by omega, Bel.refl wr⟩
      case round =>
        obtain ⟨k, hk, rfl, hall2, hw2⟩ := hrel
        have HW2 := Lib.hid hw2
        have HWW := Lib.hid (HW.out.trans hw2)
        have hq' := cl12 hw2 HQ.out
        have q0 := cl12 HWW.out X0.out
        have q1 := cl12 HWW.out X1.out
        have q2 := cl12 HWW.out X2.out
        have q3 := cl12 HWW.out X3.out
        by_cases hkl : k < L.length
        · obtain ⟨a2, ha2, -⟩ := (HROW.out.bel hw2) k hkl
          subst ha2
          obtain ⟨B, O, sp, ha, z0, z1, z2, z3⟩ := ent_at12 (HROW.out.bel hw2) hkl
          have HNY := Lib.hid (show L[k] ≠ e → ∀ j (h : j < L.length), j < k + 1 → L[j] ≠ e from fun hh j h hj => by
            by_cases e : j = k
            · subst e; exact hh
            · exact hall2 j h (by omega))
          generalize L[k] = e0 at *
          clear hw2 hall2 hq
          by_cases hee : e0 = e
          · subst hee
            go_wp2_with (fail)
            go_quiet (fail)
            go_wp2_with (fail)
            go_ret
            exact ⟨rfl, (HB1.out.trans HWW.out).drewN nq⟩
          · have HN := Lib.hid (HNY.out hee)
            clear HNY
            rcases ent_ne12 hee with g1 | ⟨g1, g2⟩ | ⟨g1, g2, g3⟩ | ⟨g1, g2, g3, g4⟩
            all_goals
              clear hee
              go_wp2_with (fail)
              go_quiet (fail)
              go_wp2_with (fail)
              go_roundw
              case rel => exact ⟨k + 1, hkl, by go_num, HN.out, HW2.out.drewN nq⟩
              case measure => simp [intOf]; omega
        · have HN := Lib.hid (HNX.out (fun hh => by
            obtain ⟨j, hj, he⟩ := List.getElem_of_mem hh
            exact hall2 j hj (by omega) he))
          clear hall2 hw2 hq
          go_wp2_with (fail)
          go_roundw
          case rel => exact ⟨i + 1, hil, by go_num, HN.out, HWW.out⟩
          case measure => simp [intOf]; omega
    · exfalso
      obtain ⟨L, hL, heL⟩ := List.mem_flatten.1 HE.out
      obtain ⟨j, hj, rfl⟩ := List.getElem_of_mem hL
      exact hall j hj (by omega) heL
end Go.Proofs.Ytmdkpomgckkllaa
/- What the laws of chapter 12 know of their rows. -/
set_option maxRecDepth 100000
namespace Go.Proofs.Ytmdkpomgckkllaa
open Go.RowKit Go.Deep

/-- A sorted row of not too many entries, none with a number too great. -/
structure Good12 (Q : List EB) : Prop where
  srt : Srt Q
  len : Q.length ≤ 60
  fits : fitsL Q
  low : ∀ e ∈ Q, e.q ≤ 1099511627776 ∧ 0 ≤ e.q
theorem good_merge {L : List EB} (h : Small12 L) (hf : fitsL L) : Good12 (mergeB L) :=
  ⟨merge_pair L, Nat.le_trans (merge_len L) h.1, merge_fits hf, fun e he => by
    obtain ⟨i, hi, rfl⟩ := List.getElem_of_mem (merge_mem he)
    exact ⟨(h.2 i hi).2.2.1, (h.2 i hi).2.2.2⟩⟩
theorem good_rows {R : List (List EB)} (h : Rows12 R) (hf : ∀ L ∈ R, fitsL L) : ∀ Q ∈ R.map mergeB, Good12 Q := fun Q hQ => by
  obtain ⟨L, hL, rfl⟩ := List.mem_map.1 hQ
  exact good_merge (h.2 L hL) (hf L hL)
theorem good_kit {Q : List (List EB)} (h : ∀ L ∈ Q, Good12 L) : ∀ L ∈ Q, Srt L ∧ L.length ≤ 500 ∧ fitsL L := fun L hL => ⟨(h L hL).srt, Nat.le_trans (h L hL).len (by decide), (h L hL).fits⟩
theorem flat_good {Q : List (List EB)} (hQ : Q.length ≤ 8) (h : ∀ L ∈ Q, Good12 L) : Q.flatten.length ≤ 480 ∧ fitsL Q.flatten ∧ ∀ e ∈ Q.flatten, e.q ≤ 1099511627776 ∧ 0 ≤ e.q := by
  refine ⟨?_, fun e he => ?_, fun e he => ?_⟩
  · have : Q.flatten.length ≤ Q.length * 60 := by
      clear hQ
      induction Q with
      | nil => simp
      | cons L Q ih =>
        have h1 := (h L (by simp)).len
        have h2 := ih (fun L hL => h L (by simp [hL]))
        simp only [List.flatten_cons, List.length_append, List.length_cons]
        omega
    omega
  · obtain ⟨L, hL, he⟩ := List.mem_flatten.1 he
    exact (h L hL).fits e he
  · obtain ⟨L, hL, he⟩ := List.mem_flatten.1 he
    exact (h L hL).low e he
theorem gives_own {w w' : World} {v : Value} {M : List EB} (h : OwnG entEl w.heap.size w' v M) (hb : Bel w w') : Gives12 w M (.returned v) w' := by
  obtain ⟨p, c, rfl, he, hc⟩ := ownG_ents12 h
  exact ⟨p, c, rfl, he, hc, hb⟩
end Go.Proofs.Ytmdkpomgckkllaa
/- The law MergePlays over the program's contracts. -/
set_option maxRecDepth 100000
namespace Go.Proofs.Ytmdkpomgckkllaa
open Go.RowKit Go.Deep

set_option maxHeartbeats 4000000 in
theorem law_plays12 {KG : GK} (p qs : Option Addr) (cap cs : Nat) (R : List (List EB)) (s : Int) (S : List Int) (last : Bool) (w : World) (hok : KG.Ok w) (h : RowsAt w p R) (hI : IntsAt12 w qs S) (hR : R.length ≤ 9223372036854775807) (hl : ∀ L ∈ R, L.length ≤ 9223372036854775807 ∧ fitsL L) (hSl : S.length ≤ 9223372036854775807) :
    Calls Try.prog 3 #[.slice p R.length cap, .int .i64 s, .slice qs S.length cs, .bool last] w fun r w' => r = .returned (.bool true) ∧ Bel w w' := by
  have HOK := Lib.hid hok; have H := Lib.hid h; have HI := Lib.hid hI; have HL := Lib.hid hl
  have HB0 := Lib.hid (Bel.refl w)
  clear hok h hI hl
  go_enter Try.func3, Try.ntmps3
  go_wp2_with (fail)
  refine (shown12_any w HOK.out).mono ?_
  rintro r w1 ⟨rfl, hb⟩
  have HB1 := Lib.hid hb
  clear hb
  go_wp2_with (fail)
  refine (lrows_any p cap R w1 (H.out.bel HB1.out) hR HL.out).mono ?_
  rintro r w2 ⟨hb, hcase⟩
  have HB2 := Lib.hid (HB1.out.trans hb)
  clear hb
  rcases hcase with ⟨hrw, q2, c2, rfl, hcc, hrr⟩ | ⟨v, rfl⟩
  · by_cases hS20 : S.length ≤ 20
    · have hS20' : (S.length : Int) ≤ 20 := by omega
      have hgd := good_rows hrw (fun L hL => (HL.out L hL).2)
      have hR8 := hrw.1
      obtain ⟨Q, hQ⟩ : ∃ Q, Q = R.map mergeB := ⟨_, rfl⟩
      have hQl : R.length = Q.length := by rw [hQ, List.length_map]
      rw [← hQ] at hgd hrr
      rw [hQl] at hcc ⊢
      have hQ8 : Q.length ≤ 8 := by omega
      have HRR := Lib.hid hrr
      have HGD := Lib.hid hgd
      have HFL := Lib.hid (flat_good hQ8 hgd)
      clear hrw hrr hgd hQ hQl hR8
      go_wp2_with (fail)
      refine (KG.merge q2 c2 Q w2 (KG.okBel HOK.out HB2.out) HRR.out hcc (by omega) (good_kit HGD.out)).mono ?_
      rintro r w3 ⟨pm, cm, rfl, he, hcp, hb⟩
      have HS3 := Lib.hid hb
      have HB3 := Lib.hid (HB2.out.trans hb)
      have HEm := Lib.hid (show ∀ z, Bel w3 z → EntsAt z pm (mergeB Q.flatten) from fun z hz => he.bel hz)
      have HCm := Lib.hid hcp
      clear he hb
      go_wp2_with (fail)
      refine (rmerge_any q2 c2 Q w3 (HRR.out.bel HS3.out) (by have := HFL.out.1; omega) (by omega) HFL.out.2.1).mono ?_
      rintro r w4 ⟨v, rfl, ho, hb⟩
      obtain ⟨pn, cn, rfl, he, hcp⟩ := ownG_ents12 ho
      have HS4 := Lib.hid hb
      have HB4 := Lib.hid (HB3.out.trans hb)
      have HEn := Lib.hid (show ∀ z, Bel w4 z → EntsAt z pn (mergeB Q.flatten) from fun z hz => he.bel hz)
      have HCn := Lib.hid hcp
      clear he hb ho hcp
      have hml := merge_len Q.flatten
      have hfl480 := HFL.out.1
      have hm480 : (mergeB Q.flatten).length ≤ 480 := by omega
      have HMS := Lib.hid (merge_pair Q.flatten)
      have HMF := Lib.hid (merge_fits HFL.out.2.1)
      have HMQ := Lib.hid (show ∀ e ∈ mergeB Q.flatten, e.q ≤ 4611686018427387904 from fun e he => by have := (HFL.out.2.2 e (merge_mem he)).1; omega)
      obtain ⟨M, hM⟩ : ∃ M, M = mergeB Q.flatten := ⟨_, rfl⟩
      rw [← hM] at hm480 HMS HMF HMQ HEm HEn HCm HCn ⊢
      clear hM hml hfl480
      go_wp2_with (fail)
      refine (same12_any pm pn cm cn M w4 (HEm.out _ HS4.out) (HEn.out _ (Bel.refl w4)) (by omega)).mono ?_
      rintro r w5 ⟨rfl, hb⟩
      replace hb := hb.bel
      have HS5 := Lib.hid hb
      have HB5 := Lib.hid (HB4.out.trans hb)
      clear hb
      go_wp2_with (fail)
      refine (KG.visible pn cn M s w5 (KG.okBel HOK.out HB5.out) (HEn.out _ HS5.out) HCn.out HMS.out (by omega) HMF.out).mono ?_
      rintro r w6 ⟨pa, ca, rfl, he, hcp, hb⟩
      have HS6 := Lib.hid hb
      have HB6 := Lib.hid (HB5.out.trans hb)
      have HEa := Lib.hid (show ∀ z, Bel w6 z → EntsAt z pa (visL s M) from fun z hz => he.bel hz)
      have HCa := Lib.hid hcp
      clear he hb
      go_wp2_with (fail)
      refine (rvis_any pn cn M s w6 (HEn.out _ (HS5.out.trans HS6.out)) HMS.out (by omega)).mono ?_
      rintro r w7 ⟨v, rfl, ho, hb⟩
      obtain ⟨pb, cb, rfl, he, hcp⟩ := ownG_ents12 ho
      have HS7 := Lib.hid hb
      have HB7 := Lib.hid (HB6.out.trans hb)
      have HEb := Lib.hid (show ∀ z, Bel w7 z → EntsAt z pb (visL s M) from fun z hz => he.bel hz)
      have HCb := Lib.hid hcp
      clear he hb ho hcp
      go_wp2_with (fail)
      refine (same12_any pa pb ca cb (visL s M) w7 (HEa.out _ HS7.out) (HEb.out _ (Bel.refl w7)) (by have := List.length_filter_le (fun e => newB M s e && !e.d) M; unfold visL; omega)).mono ?_
      rintro r w8 ⟨rfl, hb⟩
      replace hb := hb.bel
      have HS8 := Lib.hid hb
      have HB8 := Lib.hid (HB7.out.trans hb)
      clear hb
      go_wp2_with (fail)
      refine (KG.thin pn qs cn cs M S last w8 (KG.okBel HOK.out HB8.out) (HEn.out _ (((HS5.out.trans HS6.out).trans HS7.out).trans HS8.out)) HCn.out (HI.out.bel HB8.out) HMS.out (by omega) hS20 HMF.out HMQ.out).mono ?_
      rintro r w9 ⟨pt, ct, rfl, he, hcp, hb⟩
      have HS9 := Lib.hid hb
      have HB9 := Lib.hid (HB8.out.trans hb)
      have HEt := Lib.hid (show ∀ z, Bel w9 z → EntsAt z pt (thinL S last M) from fun z hz => he.bel hz)
      have HCt := Lib.hid hcp
      clear he hb
      go_wp2_with (fail)
      refine (rthin_any pn qs cn cs M S last w9 (HEn.out _ ((((HS5.out.trans HS6.out).trans HS7.out).trans HS8.out).trans HS9.out)) (HI.out.bel HB9.out) HMS.out (by omega) (by omega)).mono ?_
      rintro r w10 ⟨v, rfl, ho, hb⟩
      obtain ⟨pu, cu, rfl, he, hcp⟩ := ownG_ents12 ho
      have HS10 := Lib.hid hb
      have HB10 := Lib.hid (HB9.out.trans hb)
      have HEu := Lib.hid (show ∀ z, Bel w10 z → EntsAt z pu (thinL S last M) from fun z hz => he.bel hz)
      have HCu := Lib.hid hcp
      clear he hb ho hcp
      go_wp2_with (fail)
      refine (same12_any pt pu ct cu (thinL S last M) w10 (HEt.out _ HS10.out) (HEu.out _ (Bel.refl w10)) (by have := (thin_sublist S last M).length_le; omega)).mono ?_
      rintro r w11 ⟨rfl, hb⟩
      replace hb := hb.bel
      have HS11 := Lib.hid hb
      have HB11 := Lib.hid (HB10.out.trans hb)
      clear hb
      go_wp2_with (fail)
      go_ret
      exact ⟨rfl, HB11.out⟩
    · have hS20' : ¬ (S.length : Int) ≤ 20 := by omega
      clear hrw hrr
      go_wp2_with (fail)
      go_ret
      exact ⟨rfl, HB2.out⟩
  · go_wp2_with (fail)
    go_ret
    exact ⟨rfl, HB2.out⟩
end Go.Proofs.Ytmdkpomgckkllaa
/- moultref12's Sorted. -/
set_option maxRecDepth 100000
namespace Go.Proofs.Ytmdkpomgckkllaa
open Go.RowKit Go.Deep

theorem srtB_all : ∀ {l : List EB}, srtB l = true ↔ ∀ m (h : m + 1 < l.length), lessB (l[m]'(by omega)) l[m + 1] = true
  | [] => by simp [srtB]
  | [a] => by simp [srtB]
  | a :: b :: l => by
    rw [srtB, Bool.and_eq_true, srtB_all (l := b :: l)]
    constructor
    · rintro ⟨h1, h2⟩ m h
      cases m with
      | zero => exact h1
      | succ m => exact h2 m (by simp at h ⊢; omega)
    · intro h
      exact ⟨h 0 (by simp), fun m hm => h (m + 1) (by simp at hm ⊢; omega)⟩
set_option maxHeartbeats 4000000 in
theorem rsorted_any (p : Option Addr) (cap : Nat) (L : List EB) (w : World) (h : EntsAt w p L) (hL : L.length ≤ 100000) (hf : fitsL L) :
    Calls Try.prog 20 #[.slice p L.length cap] w fun r w' => r = .returned (.bool (srtB L)) ∧ Bel w w' := by
  have H := Lib.hid h; have HF := Lib.hid hf
  clear h hf
  go_enter Try.func20, Try.ntmps20
  go_wp2_with (fail)
  go_loopw [3] (fun iv x => ∃ j : Nat, j ≤ L.length ∧ iv = .int .i64 ((j : Int) + 1) ∧ (∀ m (h : m + 1 < L.length), m < j → lessB (L[m]'(by omega)) L[m + 1] = true) ∧ Bel w x) (fun iv _ => L.length + 1 - (intOf iv).toNat)
  case atStart => exact ⟨0, Nat.zero_le _, rfl, fun m _ h => by omega, Bel.refl w⟩
  case round =>
    obtain ⟨j, hj, rfl, hall, hw⟩ := hrel
    have HW := Lib.hid hw
    have HALL := Lib.hid hall
    by_cases hjl : j + 1 < L.length
    · obtain ⟨a, ha0, -⟩ := (H.out.bel hw) j (by omega)
      subst ha0
      obtain ⟨B, O, sp, ha, z0, z1, z2, z3⟩ := ent_at12 (H.out.bel hw) (show j < L.length by omega)
      obtain ⟨B2, O2, sp2, hb, y0, y1, y2, y3⟩ := ent_at12 (H.out.bel hw) hjl
      have hjli : (j : Int) + 1 < (L.length : Int) := by omega
      have HF0 := Lib.hid (fits_at HF.out (show j < L.length by omega))
      have HF1 := Lib.hid (fits_at HF.out hjl)
      have HNX := Lib.hid (show lessB (L[j]'(by omega)) L[j + 1] = true → ∀ m (h : m + 1 < L.length), m < j + 1 → lessB (L[m]'(by omega)) L[m + 1] = true from fun hh m h hm => by
        by_cases e : m = j
        · subst e; exact hh
        · exact hall m h (by omega))
      have HNO := Lib.hid (show lessB (L[j]'(by omega)) L[j + 1] = false → srtB L = false from fun hh => by
        cases hs : srtB L with
        | false => rfl
        | true => rw [srtB_all.1 hs j hjl] at hh; cases hh)
      have hw0 : IntKind.i64.wrap (j : Int) = j := by rw [IntKind.wrap_i64]; omega
      have hw1 : IntKind.i64.wrap ((j : Int) + 1) = (j : Int) + 1 := by rw [IntKind.wrap_i64]; omega
      have h0j : (0 : Int) ≤ (j : Int) + 1 := by omega
      have hjp : (j : Int) < (L.length : Int) := by omega
      have htn : ((j : Int) + 1).toNat = j + 1 := by omega
      generalize L[j] = e0 at *
      generalize L[j + 1] = e1 at *
      clear hw hall
      go_wp2_with (fail)
      refine wp_region_held_drew (S := fun z => (z.cell? ⟨B, O, sp⟩ = some (.string e0.k) ∧ z.cell? ⟨B, O + 1, none⟩ = some (.int .i64 e0.q) ∧ z.cell? ⟨B, O + 2, none⟩ = some (.bool e0.d) ∧ z.cell? ⟨B, O + 3, none⟩ = some (.string e0.v)) ∧ z.cell? ⟨B2, O2, sp2⟩ = some (.string e1.k) ∧ z.cell? ⟨B2, O2 + 1, none⟩ = some (.int .i64 e1.q) ∧ z.cell? ⟨B2, O2 + 2, none⟩ = some (.bool e1.d) ∧ z.cell? ⟨B2, O2 + 3, none⟩ = some (.string e1.v)) (by kernel_rfl) ⟨⟨z0, z1, z2, z3⟩, y0, y1, y2, y3⟩ (fun hHeld => ?_)
      refine wpAnyH_take (i := 0) (oi := { dst := some 10, op := Op.move (Operand.tmp 0), type := 27, pos := "ref.go:12", after := #[], guard := none }) (v := ?_) rfl (by kernel_rfl) (by kernel_rfl) (by kernel_rfl) (fun _ _ _ h => h) (Or.inl ⟨by rfl, ?_⟩) (by assumption) ?_
      rotate_left
      · (intro w hSw; (try dsimp only at hSw); first | (go_simp; done) | (go_simp; with_reducible rfl))
      try simp only [Act.put, List.setIfInBounds_toArray, List.set_cons_zero, List.set_cons_succ]
      refine wpAnyH_take (i := 1) (oi := { dst := some 11, op := Op.move (Operand.tmp 3), type := 3, pos := "ref.go:12", after := #[], guard := none }) (v := ?_) rfl (by kernel_rfl) (by kernel_rfl) (by kernel_rfl) (fun _ _ _ h => h) (Or.inl ⟨by rfl, ?_⟩) (by assumption) ?_
      rotate_left
      · (intro w hSw; (try dsimp only at hSw); first | (go_simp; done) | (go_simp; with_reducible rfl))
      try simp only [Act.put, List.setIfInBounds_toArray, List.set_cons_zero, List.set_cons_succ]
      refine wpAnyH_take (i := 2) (oi := { dst := some 12, op := Op.binOp BinOp.sub 3 (Operand.tmp 11) (Operand.const (Value.int IntKind.i64 1)) 3, type := 3, pos := "ref.go:12", after := #[{ on := 1, ground := Ground.data }], guard := none }) (v := ?_) rfl (by kernel_rfl) (by kernel_rfl) (by kernel_rfl) (fun _ _ _ h => h) (Or.inl ⟨by rfl, ?_⟩) (by assumption) ?_
      rotate_left
      · (intro w hSw; (try dsimp only at hSw); first | (go_simp; done) | (go_simp; with_reducible rfl))
      try simp only [Act.put, List.setIfInBounds_toArray, List.set_cons_zero, List.set_cons_succ]
      refine wpAnyH_take (i := 3) (oi := { dst := some 13, op := Op.indexAddr 27 (Operand.tmp 10) (Operand.tmp 12), type := 0, pos := "ref.go:12", after := #[{ on := 0, ground := Ground.data }, { on := 2, ground := Ground.data }], guard := none }) (v := ?_) rfl (by kernel_rfl) (by kernel_rfl) (by kernel_rfl) (fun _ _ _ h => h) (Or.inl ⟨by rfl, ?_⟩) (by assumption) ?_
      rotate_left
      · (intro w hSw; (try dsimp only at hSw); first | (go_simp; done) | (go_simp; with_reducible rfl))
      try simp only [Act.put, List.setIfInBounds_toArray, List.set_cons_zero, List.set_cons_succ]
      refine wpAnyH_take (i := 4) (oi := { dst := some 14, op := Op.load 36 (Operand.tmp 13), type := 36, pos := "ref.go:12", after := #[{ on := 3, ground := Ground.data }], guard := none }) (v := ?_) rfl (by kernel_rfl) (by kernel_rfl) (by kernel_rfl) (fun _ _ _ h => h) (Or.inl ⟨by rfl, ?_⟩) (by assumption) ?_
      rotate_left
      · (intro w hSw; (try dsimp only at hSw); first | (go_simp; done) | (go_simp; with_reducible rfl))
      try simp only [Act.put, List.setIfInBounds_toArray, List.set_cons_zero, List.set_cons_succ]
      refine wpAnyH_take (i := 5) (oi := { dst := some 15, op := Op.move (Operand.tmp 0), type := 27, pos := "ref.go:12", after := #[], guard := none }) (v := ?_) rfl (by kernel_rfl) (by kernel_rfl) (by kernel_rfl) (fun _ _ _ h => h) (Or.inl ⟨by rfl, ?_⟩) (by assumption) ?_
      rotate_left
      · (intro w hSw; (try dsimp only at hSw); first | (go_simp; done) | (go_simp; with_reducible rfl))
      try simp only [Act.put, List.setIfInBounds_toArray, List.set_cons_zero, List.set_cons_succ]
      refine wpAnyH_take (i := 6) (oi := { dst := some 16, op := Op.move (Operand.tmp 3), type := 3, pos := "ref.go:12", after := #[], guard := none }) (v := ?_) rfl (by kernel_rfl) (by kernel_rfl) (by kernel_rfl) (fun _ _ _ h => h) (Or.inl ⟨by rfl, ?_⟩) (by assumption) ?_
      rotate_left
      · (intro w hSw; (try dsimp only at hSw); first | (go_simp; done) | (go_simp; with_reducible rfl))
      try simp only [Act.put, List.setIfInBounds_toArray, List.set_cons_zero, List.set_cons_succ]
      refine wpAnyH_take (i := 7) (oi := { dst := some 17, op := Op.indexAddr 27 (Operand.tmp 15) (Operand.tmp 16), type := 0, pos := "ref.go:12", after := #[{ on := 5, ground := Ground.data }, { on := 6, ground := Ground.data }], guard := none }) (v := ?_) rfl (by kernel_rfl) (by kernel_rfl) (by kernel_rfl) (fun _ _ _ h => h) (Or.inl ⟨by rfl, ?_⟩) (by assumption) ?_
      rotate_left
      · (intro w hSw; (try dsimp only at hSw); first | (go_simp; done) | (go_simp; with_reducible rfl))
      try simp only [Act.put, List.setIfInBounds_toArray, List.set_cons_zero, List.set_cons_succ]
      refine wpAnyH_take (i := 8) (oi := { dst := some 18, op := Op.load 36 (Operand.tmp 17), type := 36, pos := "ref.go:12", after := #[{ on := 7, ground := Ground.data }], guard := none }) (v := ?_) rfl (by kernel_rfl) (by kernel_rfl) (by kernel_rfl) (fun _ _ _ h => h) (Or.inl ⟨by rfl, ?_⟩) (by assumption) ?_
      rotate_left
      · (intro w hSw; (try dsimp only at hSw); first | (go_simp; done) | (go_simp; with_reducible rfl))
      try simp only [Act.put, List.setIfInBounds_toArray, List.set_cons_zero, List.set_cons_succ]
      refine wpAnyH_ready (rs := [9]) (by kernel_rfl) (by simp) ?_
      refine AllReadyH.cons (o := { dst := some 19, op := Op.call { callee := Callee.value (Operand.func 38), args := #[Operand.tmp 14, Operand.tmp 18], argTypes := #[36, 36] }, type := 4, pos := "ref.go:12", after := #[{ on := 4, ground := Ground.data }, { on := 8, ground := Ground.data }], guard := none }) rfl (fun K hK => ?_) AllReadyH.nil
      go_simp
      refine (rless_any e0 e1 wr.drew HF0.out HF1.out).mono ?_
      rintro r w2 ⟨rfl, hb2⟩
      have hb3 : Bel wr w2 := (Bel.refl wr).drew.trans hb2
      have HX2 := Lib.hid (HW.out.trans hb3)
      dsimp only
      refine hK.out _ _ ⟨⟨cl12 hb3 z0, cl12 hb3 z1, cl12 hb3 z2, cl12 hb3 z3⟩, cl12 hb3 y0, cl12 hb3 y1, cl12 hb3 y2, cl12 hb3 y3⟩ (fun hHeld => ?_)
      clear hK K hb2 hb3
      try simp only [Act.put, List.setIfInBounds_toArray, List.set_cons_zero, List.set_cons_succ]
      refine wpAnyH_take (i := 10) (oi := { dst := some 20, op := Op.unOp UnOp.not 4 (Operand.tmp 19), type := 4, pos := "ref.go:12", after := #[{ on := 9, ground := Ground.data }], guard := none }) (v := ?_) rfl (by kernel_rfl) (by kernel_rfl) (by kernel_rfl) (fun _ _ _ h => h) (Or.inl ⟨by rfl, ?_⟩) (by assumption) ?_
      rotate_left
      · (intro w hSw; (try dsimp only at hSw); first | (go_simp; done) | (go_simp; with_reducible rfl))
      try simp only [Act.put, List.setIfInBounds_toArray, List.set_cons_zero, List.set_cons_succ]
      refine wpAnyH_done (by kernel_rfl) ?_ _
      clear hHeld z0 z1 z2 z3 y0 y1 y2 y3
      cases hlb : lessB e0 e1 with
      | true =>
        have HA2 := Lib.hid (HNX.out hlb)
        clear hlb
        go_wp2_with (fail)
        go_roundw
        case rel => exact ⟨j + 1, by omega, by go_num, HA2.out, HX2.out⟩
        case measure => simp [intOf]; omega
      | false =>
        have HA2 := Lib.hid (HNO.out hlb)
        clear hlb
        go_wp2_with (fail)
        go_ret
        exact ⟨by rw [HA2.out]; rfl, HX2.out⟩
    · have hjn : ¬ (j : Int) + 1 < (L.length : Int) := by omega
      have HX := Lib.hid (show srtB L = true from srtB_all.2 (fun m h => HALL.out m h (by omega)))
      clear hw hall
      go_wp2_with (fail)
      go_ret
      exact ⟨by rw [HX.out]; rfl, HW.out⟩
end Go.Proofs.Ytmdkpomgckkllaa
/- The program's Sorted: a generic function over what is compared. -/
set_option maxRecDepth 100000
namespace Go.Proofs.Ytmdkpomgckkllaa
open Go.RowKit Go.Deep

set_option maxHeartbeats 4000000 in
theorem psorted_gen (p : Option Addr) (cap : Nat) (L : List EB) (w : World) (h : EntsAt w p L) (hL : L.length ≤ 100000) :
    Calls Try.prog 37 #[.slice p L.length cap, .func (.func 26) #[] #[]] w fun r w' => r = .returned (.bool (srtB L)) ∧ Bel w w' := by
  have H := Lib.hid h
  clear h
  go_enter Try.func37, Try.ntmps37
  go_wp2_with (fail)
  go_loopw [5] (fun iv x => ∃ j : Nat, j ≤ L.length ∧ iv = .int .i64 ((j : Int) + 1) ∧ (∀ m (h : m + 1 < L.length), m < j → lessB (L[m]'(by omega)) L[m + 1] = true) ∧ Bel w x) (fun iv _ => L.length + 1 - (intOf iv).toNat)
  case atStart => exact ⟨0, Nat.zero_le _, rfl, fun m _ h => by omega, Bel.refl w⟩
  case round =>
    obtain ⟨j, hj, rfl, hall, hw⟩ := hrel
    have HW := Lib.hid hw
    have HALL := Lib.hid hall
    by_cases hjl : j + 1 < L.length
    · obtain ⟨a, ha0, -⟩ := (H.out.bel hw) j (by omega)
      subst ha0
      obtain ⟨B, O, sp, ha, z0, z1, z2, z3⟩ := ent_at12 (H.out.bel hw) (show j < L.length by omega)
      obtain ⟨B2, O2, sp2, hb, y0, y1, y2, y3⟩ := ent_at12 (H.out.bel hw) hjl
      have hjli : (j : Int) + 1 < (L.length : Int) := by omega
      have HNX := Lib.hid (show lessB (L[j]'(by omega)) L[j + 1] = true → ∀ m (h : m + 1 < L.length), m < j + 1 → lessB (L[m]'(by omega)) L[m + 1] = true from fun hh m h hm => by
        by_cases e : m = j
        · subst e; exact hh
        · exact hall m h (by omega))
      have HNO := Lib.hid (show lessB (L[j]'(by omega)) L[j + 1] = false → srtB L = false from fun hh => by
        cases hs : srtB L with
        | false => rfl
        | true => rw [srtB_all.1 hs j hjl] at hh; cases hh)
      have hw0 : IntKind.i64.wrap (j : Int) = j := by rw [IntKind.wrap_i64]; omega
      have hw1 : IntKind.i64.wrap ((j : Int) + 1) = (j : Int) + 1 := by rw [IntKind.wrap_i64]; omega
      have h0j : (0 : Int) ≤ (j : Int) + 1 := by omega
      have hjp : (j : Int) < (L.length : Int) := by omega
      have htn : ((j : Int) + 1).toNat = j + 1 := by omega
      generalize L[j] = e0 at *
      generalize L[j + 1] = e1 at *
      clear hw hall
      go_wp2_with (fail)
      refine wp_region_held_drew (S := fun z => (z.cell? ⟨B, O, sp⟩ = some (.string e0.k) ∧ z.cell? ⟨B, O + 1, none⟩ = some (.int .i64 e0.q) ∧ z.cell? ⟨B, O + 2, none⟩ = some (.bool e0.d) ∧ z.cell? ⟨B, O + 3, none⟩ = some (.string e0.v)) ∧ z.cell? ⟨B2, O2, sp2⟩ = some (.string e1.k) ∧ z.cell? ⟨B2, O2 + 1, none⟩ = some (.int .i64 e1.q) ∧ z.cell? ⟨B2, O2 + 2, none⟩ = some (.bool e1.d) ∧ z.cell? ⟨B2, O2 + 3, none⟩ = some (.string e1.v)) (by kernel_rfl) ⟨⟨z0, z1, z2, z3⟩, y0, y1, y2, y3⟩ (fun hHeld => ?_)
      refine wpAnyH_take (i := 0) (oi := { dst := some 12, op := Op.move (Operand.tmp 1), type := 45, pos := "row.go:8", after := #[], guard := none }) (v := ?_) rfl (by kernel_rfl) (by kernel_rfl) (by kernel_rfl) (fun _ _ _ h => h) (Or.inl ⟨by rfl, ?_⟩) (by assumption) ?_
      rotate_left
      · (intro w hSw; (try dsimp only at hSw); first | (go_simp; done) | (go_simp; with_reducible rfl))
      try simp only [Act.put, List.setIfInBounds_toArray, List.set_cons_zero, List.set_cons_succ]
      refine wpAnyH_take (i := 1) (oi := { dst := some 13, op := Op.move (Operand.tmp 0), type := 27, pos := "row.go:8", after := #[], guard := none }) (v := ?_) rfl (by kernel_rfl) (by kernel_rfl) (by kernel_rfl) (fun _ _ _ h => h) (Or.inl ⟨by rfl, ?_⟩) (by assumption) ?_
      rotate_left
      · (intro w hSw; (try dsimp only at hSw); first | (go_simp; done) | (go_simp; with_reducible rfl))
      try simp only [Act.put, List.setIfInBounds_toArray, List.set_cons_zero, List.set_cons_succ]
      refine wpAnyH_take (i := 2) (oi := { dst := some 14, op := Op.move (Operand.tmp 5), type := 3, pos := "row.go:8", after := #[], guard := none }) (v := ?_) rfl (by kernel_rfl) (by kernel_rfl) (by kernel_rfl) (fun _ _ _ h => h) (Or.inl ⟨by rfl, ?_⟩) (by assumption) ?_
      rotate_left
      · (intro w hSw; (try dsimp only at hSw); first | (go_simp; done) | (go_simp; with_reducible rfl))
      try simp only [Act.put, List.setIfInBounds_toArray, List.set_cons_zero, List.set_cons_succ]
      refine wpAnyH_take (i := 3) (oi := { dst := some 15, op := Op.binOp BinOp.sub 3 (Operand.tmp 14) (Operand.const (Value.int IntKind.i64 1)) 3, type := 3, pos := "row.go:8", after := #[{ on := 2, ground := Ground.data }], guard := none }) (v := ?_) rfl (by kernel_rfl) (by kernel_rfl) (by kernel_rfl) (fun _ _ _ h => h) (Or.inl ⟨by rfl, ?_⟩) (by assumption) ?_
      rotate_left
      · (intro w hSw; (try dsimp only at hSw); first | (go_simp; done) | (go_simp; with_reducible rfl))
      try simp only [Act.put, List.setIfInBounds_toArray, List.set_cons_zero, List.set_cons_succ]
      refine wpAnyH_take (i := 4) (oi := { dst := some 16, op := Op.indexAddr 27 (Operand.tmp 13) (Operand.tmp 15), type := 0, pos := "row.go:8", after := #[{ on := 1, ground := Ground.data }, { on := 3, ground := Ground.data }], guard := none }) (v := ?_) rfl (by kernel_rfl) (by kernel_rfl) (by kernel_rfl) (fun _ _ _ h => h) (Or.inl ⟨by rfl, ?_⟩) (by assumption) ?_
      rotate_left
      · (intro w hSw; (try dsimp only at hSw); first | (go_simp; done) | (go_simp; with_reducible rfl))
      try simp only [Act.put, List.setIfInBounds_toArray, List.set_cons_zero, List.set_cons_succ]
      refine wpAnyH_take (i := 5) (oi := { dst := some 17, op := Op.load 36 (Operand.tmp 16), type := 36, pos := "row.go:8", after := #[{ on := 4, ground := Ground.data }], guard := none }) (v := ?_) rfl (by kernel_rfl) (by kernel_rfl) (by kernel_rfl) (fun _ _ _ h => h) (Or.inl ⟨by rfl, ?_⟩) (by assumption) ?_
      rotate_left
      · (intro w hSw; (try dsimp only at hSw); first | (go_simp; done) | (go_simp; with_reducible rfl))
      try simp only [Act.put, List.setIfInBounds_toArray, List.set_cons_zero, List.set_cons_succ]
      refine wpAnyH_take (i := 6) (oi := { dst := some 18, op := Op.move (Operand.tmp 0), type := 27, pos := "row.go:8", after := #[], guard := none }) (v := ?_) rfl (by kernel_rfl) (by kernel_rfl) (by kernel_rfl) (fun _ _ _ h => h) (Or.inl ⟨by rfl, ?_⟩) (by assumption) ?_
      rotate_left
      · (intro w hSw; (try dsimp only at hSw); first | (go_simp; done) | (go_simp; with_reducible rfl))
      try simp only [Act.put, List.setIfInBounds_toArray, List.set_cons_zero, List.set_cons_succ]
      refine wpAnyH_take (i := 7) (oi := { dst := some 19, op := Op.move (Operand.tmp 5), type := 3, pos := "row.go:8", after := #[], guard := none }) (v := ?_) rfl (by kernel_rfl) (by kernel_rfl) (by kernel_rfl) (fun _ _ _ h => h) (Or.inl ⟨by rfl, ?_⟩) (by assumption) ?_
      rotate_left
      · (intro w hSw; (try dsimp only at hSw); first | (go_simp; done) | (go_simp; with_reducible rfl))
      try simp only [Act.put, List.setIfInBounds_toArray, List.set_cons_zero, List.set_cons_succ]
      refine wpAnyH_take (i := 8) (oi := { dst := some 20, op := Op.indexAddr 27 (Operand.tmp 18) (Operand.tmp 19), type := 0, pos := "row.go:8", after := #[{ on := 6, ground := Ground.data }, { on := 7, ground := Ground.data }], guard := none }) (v := ?_) rfl (by kernel_rfl) (by kernel_rfl) (by kernel_rfl) (fun _ _ _ h => h) (Or.inl ⟨by rfl, ?_⟩) (by assumption) ?_
      rotate_left
      · (intro w hSw; (try dsimp only at hSw); first | (go_simp; done) | (go_simp; with_reducible rfl))
      try simp only [Act.put, List.setIfInBounds_toArray, List.set_cons_zero, List.set_cons_succ]
      refine wpAnyH_take (i := 9) (oi := { dst := some 21, op := Op.load 36 (Operand.tmp 20), type := 36, pos := "row.go:8", after := #[{ on := 8, ground := Ground.data }], guard := none }) (v := ?_) rfl (by kernel_rfl) (by kernel_rfl) (by kernel_rfl) (fun _ _ _ h => h) (Or.inl ⟨by rfl, ?_⟩) (by assumption) ?_
      rotate_left
      · (intro w hSw; (try dsimp only at hSw); first | (go_simp; done) | (go_simp; with_reducible rfl))
      try simp only [Act.put, List.setIfInBounds_toArray, List.set_cons_zero, List.set_cons_succ]
      refine wpAnyH_ready (rs := [10]) (by kernel_rfl) (by simp) ?_
      refine AllReadyH.cons (o := { dst := some 22, op := Op.call { callee := Callee.value (Operand.tmp 12), args := #[Operand.tmp 17, Operand.tmp 21], argTypes := #[36, 36] }, type := 4, pos := "row.go:8", after := #[{ on := 0, ground := Ground.data }, { on := 5, ground := Ground.data }, { on := 9, ground := Ground.data }], guard := none }) rfl (fun K hK => ?_) AllReadyH.nil
      go_simp
      refine (pless_any e0 e1 wr.drew).mono ?_
      rintro r w2 ⟨rfl, hb2⟩
      have hb3 : Bel wr w2 := (Bel.refl wr).drew.trans hb2
      have HX2 := Lib.hid (HW.out.trans hb3)
      dsimp only
      refine hK.out _ _ ⟨⟨cl12 hb3 z0, cl12 hb3 z1, cl12 hb3 z2, cl12 hb3 z3⟩, cl12 hb3 y0, cl12 hb3 y1, cl12 hb3 y2, cl12 hb3 y3⟩ (fun hHeld => ?_)
      clear hK K hb2 hb3
      try simp only [Act.put, List.setIfInBounds_toArray, List.set_cons_zero, List.set_cons_succ]
      refine wpAnyH_take (i := 11) (oi := { dst := some 23, op := Op.unOp UnOp.not 4 (Operand.tmp 22), type := 4, pos := "row.go:8", after := #[{ on := 10, ground := Ground.data }], guard := none }) (v := ?_) rfl (by kernel_rfl) (by kernel_rfl) (by kernel_rfl) (fun _ _ _ h => h) (Or.inl ⟨by rfl, ?_⟩) (by assumption) ?_
      rotate_left
      · (intro w hSw; (try dsimp only at hSw); first | (go_simp; done) | (go_simp; with_reducible rfl))
      try simp only [Act.put, List.setIfInBounds_toArray, List.set_cons_zero, List.set_cons_succ]
      refine wpAnyH_done (by kernel_rfl) ?_ _
      clear hHeld z0 z1 z2 z3 y0 y1 y2 y3
      cases hlb : lessB e0 e1 with
      | true =>
        have HA2 := Lib.hid (HNX.out hlb)
        clear hlb
        go_wp2_with (fail)
        go_roundw
        case rel => exact ⟨j + 1, by omega, by go_num, HA2.out, HX2.out⟩
        case measure => simp [intOf]; omega
      | false =>
        have HA2 := Lib.hid (HNO.out hlb)
        clear hlb
        go_wp2_with (fail)
        go_ret
        exact ⟨by rw [HA2.out]; rfl, HX2.out⟩
    · have hjn : ¬ (j : Int) + 1 < (L.length : Int) := by omega
      have HX := Lib.hid (show srtB L = true from srtB_all.2 (fun m h => HALL.out m h (by omega)))
      clear hw hall
      go_wp2_with (fail)
      go_ret
      exact ⟨by rw [HX.out]; rfl, HW.out⟩
set_option maxHeartbeats 1000000 in
theorem psorted_any (p : Option Addr) (cap : Nat) (L : List EB) (w : World) (h : EntsAt w p L) (hL : L.length ≤ 100000) :
    Calls Try.prog 19 #[.slice p L.length cap] w fun r w' => r = .returned (.bool (srtB L)) ∧ Bel w w' := by
  have HC := Lib.hid (psorted_gen p cap L w h hL)
  clear h
  go_enter Try.func19, Try.ntmps19
  go_wp2_with (fail)
  refine HC.out.mono ?_
  rintro r w2 ⟨rfl, hb2⟩
  have HB2 := Lib.hid hb2
  clear hb2
  go_wp2_with (fail)
  go_ret
  exact ⟨rfl, HB2.out⟩
end Go.Proofs.Ytmdkpomgckkllaa
/- slices.Clone of entries. -/
set_option maxRecDepth 100000
namespace Go.Proofs.Ytmdkpomgckkllaa
open Go.RowKit Go.Deep

theorem ents_none {w : World} {L : List EB} (h : EntsAt w none L) : L = [] := by
  cases L with
  | nil => rfl
  | cons x L => obtain ⟨a, ha, -⟩ := h 0 (by simp); cases ha
set_option maxHeartbeats 1000000 in
theorem pclone_any (p : Option Addr) (cap : Nat) (L : List EB) (w : World) (h : EntsAt w p L) (hL : L.length ≤ 1000) :
    Calls Try.prog 39 #[.slice p L.length cap] w fun r w' => ∃ v, r = .returned v ∧ OwnG entEl w.heap.size w' v L ∧ Bel w w' := by
  cases p with
  | none =>
    obtain rfl := ents_none h
    have hnil : (binOp .eql 27 (.slice none 0 cap) (.slice none 0 0)).run Try.prog w = .ok (.bool true) w := Lib.run_eql_slice_nil w _ _ _ _ _ _ _ Try.underlying27
    go_enter Try.func39, Try.ntmps39
    go_wp2_with (fail)
    go_ret
    exact ⟨_, rfl, OwnG.nil _ _ _, Bel.refl w⟩
  | some a =>
    have HSRC := Lib.hid (SrcAt.of_ents (c := cap) h (fun e => by cases e))
    have HLL := Lib.hid hL
    clear h
    have hnil : (binOp .eql 27 (.slice (some a) L.length cap) (.slice none 0 0)).run Try.prog w = .ok (.bool false) w := Lib.run_eql_slice_nil w _ _ _ _ _ _ _ Try.underlying27
    obtain ⟨w1, hw1⟩ : ∃ z, z = w.alloc (.cells #[] 36) := ⟨_, rfl⟩
    have hB1 : Bel w w1 := by rw [hw1]; exact (Bel.refl w).alloc _
    have HB1 := Lib.hid hB1
    have HS1 := Lib.hid (show SrcAt entEl w1 (.slice (some a) L.length cap) L from by
      rcases HSRC.out with ⟨h, -⟩ | ⟨ad, c, h, hc⟩
      · cases h
      · refine Or.inr ⟨ad, c, h, fun j u hj => ?_⟩
        exact (Below.cell hB1 (blk_of_cell (hc j u hj))).trans (hc j u hj))
    have HO1 := Lib.hid (ownG_empty (E := entEl) (n := w.heap.size) (B := w.heap.size) (W := w1) (by rw [hw1]; exact tnew12 w _) (Nat.le_refl _))
    clear hB1
    go_enter Try.func39, Try.ntmps39
    go_wp2_with (at_builtin; refine stop_here ?_)
    refine go_on ?_
    rw [show (w.alloc (.cells #[] 36)) = w1 from hw1.symm]
    refine append_all entOk rfl _ _ rfl rfl HO1.out L rfl HS1.out (by simp only [List.length_nil]; have := HLL.out; unfold maxLen; omega) (by simp only [List.length_nil]; have := HLL.out; omega) HB1.out.size ?_
    intro v7 w7 ho7 hk7 _
    have HO7 := Lib.hid ho7
    have HW7 := Lib.hid (HB1.out.trans_below (hk7.own HB1.out.size (fun kk hkk => (HO1.out.lt kk hkk).1)))
    clear ho7 hk7
    go_wp2_with (fail)
    go_ret
    exact ⟨_, rfl, by simpa using HO7.out, HW7.out⟩
end Go.Proofs.Ytmdkpomgckkllaa
