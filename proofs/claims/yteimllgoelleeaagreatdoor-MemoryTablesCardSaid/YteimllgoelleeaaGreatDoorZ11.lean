/- TRef4, TRef5, TStand, MCon, MStep, TRef6, TPOrd, MPLess, MNodE, MWithE, MPutE, MPFst, MPGet, MPAdd, MPCall, MNodC, MWithC, MPutC, MPCMath, laid together. -/
import Derived.Test.YteimllgoelleeaaGreatDoorZ8
import Derived.Deep.RegionHeld
import Derived.Test.YteimllgoelleeaaGreatDoorZ2
import Derived.Test.YteimllgoelleeaaGreatDoorZ9
import Derived.Test.YteimllgoelleeaaGreatDoorZ6
import Derived.Deep.QuietTactic
import Derived.BigQuiet
import Derived.LaidEqlPtr
import Derived.Test.YteimllgoelleeaaGreatDoorZ4
import Derived.Laws.BitsLemmas
set_option linter.unusedSimpArgs false
set_option linter.unusedVariables false
/- moultref10.Stand. -/
namespace Go.Proofs.YteimllgoelleeaaGreatDoor
open Go.RowKit Go.Deep

theorem stand_take {L : List EB} {k : Nat} (h : k < L.length) : standB (L.take (k + 1)) = (standB (L.take k) && rightB L[k] && (match (L.take k).getLast? with | none => true | some a => lessB a L[k])) := by
  rw [List.take_add_one, List.getElem?_eq_getElem h, Option.toList_some, stand_snoc]
  rfl
theorem stand_zero {L : List EB} (h : 0 < L.length) : standB (L.take 1) = rightB L[0] := by
  rw [stand_take h]; simp [standB]
theorem stand_next {L : List EB} {j : Nat} (h : j + 1 < L.length) : standB (L.take (j + 2)) = (standB (L.take (j + 1)) && rightB L[j + 1] && lessB L[j] L[j + 1]) := by
  rw [stand_take h]
  have e : (L.take (j + 1)).getLast? = some L[j] := by
    rw [List.take_add_one, List.getElem?_eq_getElem (by omega), Option.toList_some, List.getLast?_concat]
  rw [e]
theorem stand_more {L : List EB} {k : Nat} (h : standB (L.take k) = false) : standB L = false := by
  cases hs : standB L with
  | false => rfl
  | true =>
    have hr := stand_right hs
    have hp := stand_pair hs
    have : standB (L.take k) = true := stand_of _ (fun e he => hr e (List.mem_of_mem_take he)) (List.Pairwise.sublist (List.take_sublist k L) hp)
    rw [h] at this; cases this
end Go.Proofs.YteimllgoelleeaaGreatDoor
/- moultref10.Cites. -/
namespace Go.Proofs.YteimllgoelleeaaGreatDoor
open Go.RowKit Go.Deep

theorem OwnG.put {α : Type} {E : El α} {B : Nat} {w : World} {g n cap : Nat} {L L' : List α} (h : OwnG E B w (.slice (some ⟨g, 0, none⟩) n cap) L) (m : Nat) (u : Value) (hm : m < L.length * E.n) (hL : L'.length = L.length) (hset : E.all L' = (E.all L).set m u) :
    OwnG E B (w.setCell ⟨g, m, none⟩ u) (.slice (some ⟨g, 0, none⟩) n cap) L' := by
  obtain ⟨h1, h2⟩ := h
  rcases h2 with ⟨hv, _⟩ | ⟨g', cap', cur, hv, hg, hh, hc, hcm, hcs, htk⟩
  · cases hv
  · simp only [Value.slice.injEq, Option.some.injEq, Addr.mk.injEq, and_true, true_and] at hv
    obtain ⟨rfl, rfl, rfl⟩ := hv
    refine ⟨by rw [hset, List.length_set, hL]; exact h1, Or.inr ⟨g, cap, cur.setIfInBounds m u, by rw [hL], hg, ?_, by rw [hL]; exact hc, hcm, by simpa using hcs, ?_⟩⟩
    · simp [World.setCell, Array.getElem?_modify, hh]
    · rw [hset, ← htk, hL, Array.toList_setIfInBounds, List.take_set]
theorem cts_set : ∀ (C : List CT) (k : Nat) (n : Nat) (h : k < C.length), ctEl.all (C.set k ⟨C[k].t, C[k].v, n⟩) = (ctEl.all C).set (k * 3 + 2) (.int .i64 (n : Int))
  | [], k, n, h => by simp at h
  | c :: C, 0, n, h => by
    simp [El.all, ctEl]
  | c :: C, k + 1, n, h => by
    have ih := cts_set C k n (by simpa using h)
    have e : (k + 1) * 3 + 2 = k * 3 + 2 + 1 + 1 + 1 := by omega
    rw [e]
    simp only [List.set_cons_succ, List.getElem_cons_succ]
    have e1 : ∀ (x : CT) (l : List CT), ctEl.all (x :: l) = .int .i64 (x.t : Int) :: .int .i64 (x.v : Int) :: .int .i64 (x.n : Int) :: ctEl.all l := fun x l => by simp [El.all, ctEl]
    rw [e1, e1, ih]
    simp only [List.set_cons_succ]
theorem own_cts {B : Nat} {w : World} {v : Value} {C : List CT} (h : OwnG ctEl B w v C) : (v = .slice none 0 0 ∧ C = []) ∨ ∃ g cap, v = .slice (some ⟨g, 0, none⟩) C.length cap ∧ B ≤ g ∧ g < w.heap.size ∧ C.length ≤ cap ∧ cap ≤ maxLen ∧ (∀ j, w.frozen? ⟨g, j, none⟩ = false) ∧
    ∀ i (hi : i < C.length), ∃ c, c = C[i] ∧ w.cell? ⟨g, i * 3, none⟩ = some (.int .i64 (c.t : Int)) ∧ w.cell? ⟨g, i * 3 + 1, none⟩ = some (.int .i64 (c.v : Int)) ∧ w.cell? ⟨g, i * 3 + 2, none⟩ = some (.int .i64 (c.n : Int)) := by
  have h0 := h
  rcases h.2 with ⟨hv, hl⟩ | ⟨g, cap, cur, rfl, hg, hh, hcap, hcm, _⟩
  · exact Or.inl ⟨hv, List.length_eq_zero_iff.1 hl⟩
  · have hlt : g < w.heap.size := (Array.getElem?_eq_some_iff.1 hh).1
    refine Or.inr ⟨g, cap, rfl, hg, hlt, hcap, hcm, fun j => by simp [World.frozen?, hh], fun i hi => ?_⟩
    obtain ⟨g', cap', hv, _, _, _, hc'⟩ := ownG_cells ctOk h0 (fun e => by rw [e] at hi; simp at hi)
    simp only [Value.slice.injEq, Option.some.injEq, Addr.mk.injEq, and_true, true_and] at hv
    obtain ⟨rfl, rfl⟩ := hv
    exact ⟨C[i], rfl, hc' i C[i] (List.getElem?_eq_getElem hi) 0 _ rfl, hc' i C[i] (List.getElem?_eq_getElem hi) 1 _ rfl, hc' i C[i] (List.getElem?_eq_getElem hi) 2 _ rfl⟩
theorem El.all_drop {α : Type} {E : El α} {b : Nat} (hE : ElOk E b) (L : List α) (i : Nat) (hi : i ≤ L.length) : E.all (L.drop i) = (E.all L).drop (i * E.n) := by
  conv => rhs; rw [← List.take_append_drop i L, El.all_append]
  rw [List.drop_left' (by rw [El.all_len hE, List.length_take]; congr 1; omega)]
theorem El.all_take {α : Type} {E : El α} {b : Nat} (hE : ElOk E b) (L : List α) (i : Nat) (hi : i ≤ L.length) : E.all (L.take i) = (E.all L).take (i * E.n) := by
  conv => rhs; rw [← List.take_append_drop i L, El.all_append]
  rw [List.take_left' (by rw [El.all_len hE, List.length_take]; congr 1; omega)]
theorem add_any (g m : Nat) : (⟨g, 0, none⟩ : Addr).add m = ⟨g, m, none⟩ := by cases m <;> simp [Addr.add]
theorem add3 (g k : Nat) : (⟨g, 0, none⟩ : Addr).add (k * 3) = ⟨g, k * 3, none⟩ := by
  by_cases h : k * 3 = 0
  · rw [h]; rfl
  · simp [Addr.add, h]
end Go.Proofs.YteimllgoelleeaaGreatDoor
/- moultlaw10.standing. -/
namespace Go.Proofs.YteimllgoelleeaaGreatDoor
open Go.RowKit Go.Deep

theorem cl11 {w x : World} {a : Addr} {v : Value} (hb : Bel w x) (h : w.cell? a = some v) : x.cell? a = some v := (Below.cell hb (blk_of_cell h)).trans h
theorem standing_take {L : List EB} {k : Nat} (h : k < L.length) (e : EB) (he : e = L[k]) : standingB (L.take (k + 1)) = stepS (standingB (L.take k)) e := by
  rw [List.take_add_one, List.getElem?_eq_getElem h, Option.toList_some, standing_snoc, he]
theorem cells4 {w x : World} {B O : Nat} {sp : Option Nat} {e : EB} (hb : Bel w x) (h : w.cell? ⟨B, O, sp⟩ = some (.string e.k) ∧ w.cell? ⟨B, O + 1, none⟩ = some (.int .i64 e.q) ∧ w.cell? ⟨B, O + 2, none⟩ = some (.bool e.d) ∧ w.cell? ⟨B, O + 3, none⟩ = some (.string e.v)) :
    x.cell? ⟨B, O, sp⟩ = some (.string e.k) ∧ x.cell? ⟨B, O + 1, none⟩ = some (.int .i64 e.q) ∧ x.cell? ⟨B, O + 2, none⟩ = some (.bool e.d) ∧ x.cell? ⟨B, O + 3, none⟩ = some (.string e.v) :=
  ⟨cl11 hb h.1, cl11 hb h.2.1, cl11 hb h.2.2.1, cl11 hb h.2.2.2⟩
end Go.Proofs.YteimllgoelleeaaGreatDoor
/- moultlaw11.plain, shown. -/
namespace Go.Proofs.YteimllgoelleeaaGreatDoor
open Go.RowKit Go.Deep

set_option maxHeartbeats 1000000 in
theorem plain_any (s : ByteArray) (q : Int) (w : World) :
    Calls Tryz.prog 20 #[.string s, .int .i64 q] w fun r w' => r = .returned (.agg #[.string s, .int .i64 q, .bool false, .string ⟨#[1, 1]⟩]) ∧ Bel w w' := by
  go_enter Tryz.func20, Tryz.ntmps20
  go_wp2_with (fail)
  refine bodyPost_ret (v := .agg #[.string s, .int .i64 q, .bool false, .string ⟨#[1, 1]⟩]) (by simp [results, Tryz.results20, go_sem]) rfl ⟨rfl, (Bel.refl w).alloc _⟩
def eB1 : EB := ⟨⟨#[98]⟩, 1, false, ⟨#[1, 1]⟩⟩
def eA2 : EB := ⟨⟨#[97]⟩, 2, false, ⟨#[1, 1]⟩⟩
def eA5 : EB := ⟨⟨#[97]⟩, 5, false, ⟨#[1, 1]⟩⟩
theorem eB1_right : rightB eB1 = true := by decide +kernel
theorem eA2_right : rightB eA2 = true := by decide +kernel
theorem eA5_right : rightB eA5 = true := by decide +kernel
theorem ex_add1 : errM [] eB1 = 0 ∧ stepS [] eB1 = [eB1] := by
  obtain ⟨h1, h2⟩ := err_ok (C := []) eB1_right (by rintro ⟨c, hc, _⟩; cases hc)
  exact ⟨h1, h2⟩
theorem ex_ins2 : insE eA2 [eB1] = [eA2, eB1] := by
  have h1 : lessB eB1 eA2 = false := by decide +kernel
  have h2 : lessB eA2 eB1 = true := by decide +kernel
  unfold insE; rw [h1, h2]; rfl
theorem ex_add2 : errM [eB1] eA2 = 0 ∧ stepS [eB1] eA2 = [eA2, eB1] := by
  obtain ⟨h1, h2⟩ := err_ok (C := [eB1]) eA2_right (by
    rintro ⟨c, hc, hs⟩
    rw [List.mem_singleton] at hc; subst hc
    exact absurd hs.2 (by decide))
  exact ⟨h1, h2.trans ex_ins2⟩
theorem ex_ins3 : insE eA5 [eA2, eB1] = [eA5, eA2, eB1] := by
  have h1 : lessB eA2 eA5 = false := by decide +kernel
  have h2 : lessB eA5 eA2 = true := by decide +kernel
  unfold insE; rw [h1, h2]; rfl
theorem ex_add3 : errM [eA2, eB1] eA5 = 0 ∧ stepS [eA2, eB1] eA5 = [eA5, eA2, eB1] := by
  obtain ⟨h1, h2⟩ := err_ok (C := [eA2, eB1]) eA5_right (by
    rintro ⟨c, hc, hs⟩
    rw [List.mem_cons, List.mem_singleton] at hc
    rcases hc with rfl | rfl
    · exact absurd hs.2 (by decide)
    · exact absurd hs.2 (by decide))
  exact ⟨h1, h2.trans ex_ins3⟩
theorem ex_stand3 : standB [eA5, eA2, eB1] = true := by decide +kernel
theorem ex_stand2 : standB [eA2, eB1] = true := by decide +kernel
theorem ex_stand1 : standB [eB1] = true := by decide +kernel
theorem ex_add4 : errM [eA5, eA2, eB1] eA2 = 5 ∧ stepS [eA5, eA2, eB1] eA2 = [eA5, eA2, eB1] :=
  err_there (stand_pair ex_stand3) eA2_right ⟨eA2, by simp, rfl, rfl⟩
theorem ex_get4 : getE (⟨#[97]⟩ : ByteArray).data.toList 4 [eA5, eA2, eB1] = some eA2 := by
  have h1 : hitB (⟨#[97]⟩ : ByteArray).data.toList 4 eA5 = false := by decide +kernel
  have h2 : hitB (⟨#[97]⟩ : ByteArray).data.toList 4 eA2 = true := by decide +kernel
  unfold getE; rw [List.find?_cons, h1, List.find?_cons, h2]
theorem ex_get0 : getE (⟨#[97]⟩ : ByteArray).data.toList 1 [eA5, eA2, eB1] = none := by
  have h1 : hitB (⟨#[97]⟩ : ByteArray).data.toList 1 eA5 = false := by decide +kernel
  have h2 : hitB (⟨#[97]⟩ : ByteArray).data.toList 1 eA2 = false := by decide +kernel
  have h3 : hitB (⟨#[97]⟩ : ByteArray).data.toList 1 eB1 = false := by decide +kernel
  unfold getE; rw [List.find?_cons, h1, List.find?_cons, h2, List.find?_cons, h3]; rfl
theorem ents_lit11 {w : World} {B : Nat} {L : List EB} {arr : Array Value} {T : TypeId} (h : w.heap[B]? = some (.cells arr T (0, 0))) (harr : arr.toList = entEl.all L) : EntsAt w (some ⟨B, 0, none⟩) L := by
  intro i hi
  have hc : ∀ j (u : Value), (entEl.all L)[i * 4 + j]? = some u → w.cell? ⟨B, i * 4 + j, none⟩ = some u := fun j u hj => by
    rw [← harr] at hj
    simp [World.cell?, h]
    simpa using hj
  have hall : ∀ j (u : Value), (entEl.cells L[i])[j]? = some u → (entEl.all L)[i * 4 + j]? = some u := fun j u hj => by
    have e : entEl.all L = entEl.all (L.take i) ++ (entEl.cells L[i] ++ entEl.all (L.drop (i + 1))) := by
      conv => lhs; rw [← List.take_append_drop i L, List.drop_eq_getElem_cons hi, El.all_append]
      congr 1
    have hl : (entEl.all (L.take i)).length = i * 4 := by
      rw [El.all_len entOk, List.length_take]
      show min i L.length * 4 = i * 4
      omega
    have hjl : j < (entEl.cells L[i]).length := (List.getElem?_eq_some_iff.1 hj).1
    rw [e, List.getElem?_append_right (by omega), hl, List.getElem?_append_left (by omega), show i * 4 + j - i * 4 = j by omega]
    exact hj
  exact ⟨_, rfl, B, i * 4, none, add_any B (i * 4), hc 0 _ (hall 0 _ rfl), hc 1 _ (hall 1 _ rfl), hc 2 _ (hall 2 _ rfl), hc 3 _ (hall 3 _ rfl)⟩
theorem same11_at (p q : Option Addr) (n m cap cap' : Nat) (L : List EB) (w : World) (h : EntsAt w p L) (h' : EntsAt w q L) (hL : L.length ≤ 1000000) (hn : n = L.length) (hm : m = L.length) :
    Calls Tryz.prog 15 #[.slice p n cap, .slice q m cap'] w fun e w' => e = .returned (.bool true) ∧ Drw w w' := by
  subst hn hm; exact same11_any p q cap cap' L w h h' hL
theorem samecites11_at (p q : Option Addr) (n m cap cap' : Nat) (L : List CT) (w : World) (h : CtsAt w p L) (h' : CtsAt w q L) (hL : L.length ≤ 1000000) (hn : n = L.length) (hm : m = L.length) :
    Calls Tryz.prog 17 #[.slice p n cap, .slice q m cap'] w fun e w' => e = .returned (.bool true) ∧ Drw w w' := by
  subst hn hm; exact samecites11_any p q cap cap' L w h h' hL
section
theorem MK.add_is {KM : MK} (b : Nat) (F : List Nat) (C C' : List EB) (k : ByteArray) (q : Int) (d : Bool) (v : ByteArray) (n : Int) (w : World) (hn : errM C ⟨k, q, d, v⟩ = n ∧ stepS C ⟨k, q, d, v⟩ = C') (h : KM.At w b F C) (hC : Holds C) (hf : EB.fits ⟨k, q, d, v⟩) (hv : v.size ≤ 1000000) :
    Calls Tryz.prog 7 #[.pointer (some ⟨b, 0, none⟩), .agg #[.string k, .int .i64 q, .bool d, .string v]] w fun r w' => ∃ F', r = .returned (.int .i64 n) ∧ KM.At w' b F' C' ∧ (∀ k ∈ F', k ∈ F ∨ w.heap.size ≤ k) ∧ Keep F w w' := by
  obtain ⟨rfl, rfl⟩ := hn; exact KM.add b F C ⟨k, q, d, v⟩ w h hC hf hv
theorem MK.get_is {KM : MK} (b : Nat) (F : List Nat) (C : List EB) (key : ByteArray) (q : Int) (o : Option EB) (w : World) (ho : getE key.data.toList q C = o) (h : KM.At w b F C) (hC : Holds C) :
    Calls Tryz.prog 13 #[.pointer (some ⟨b, 0, none⟩), .string key, .int .i64 q] w fun r w' => r = .returned (getM o) ∧ Bel w w' := by
  subst ho; exact KM.get b F C key q w h hC
theorem MK.all {KM : MK} (b : Nat) (F : List Nat) (C : List EB) (w : World) (h : KM.At w b F C) (hC : Holds C) :
    Calls Tryz.prog 8 #[.pointer (some ⟨b, 0, none⟩), .string ⟨#[]⟩, .string ⟨#[]⟩] w fun r w' => ∃ p cap, r = .returned (.slice p C.length cap) ∧ EntsAt w' p C ∧ Bel w w' := by
  refine (KM.between b F C ⟨#[]⟩ ⟨#[]⟩ w h hC).mono ?_
  rintro r w' ⟨v, rfl, ho, hb⟩
  rw [show (⟨#[]⟩ : ByteArray).data.toList = [] from rfl, bet_all] at ho
  obtain ⟨p, cap, rfl, he⟩ := ownG_ents ho
  exact ⟨p, cap, rfl, he, hb⟩
set_option maxHeartbeats 4000000 in
set_option maxRecDepth 20000 in
theorem shown11_any {KM : MK} (w : World) (hok : KM.Ok w) : Calls Tryz.prog 4 #[] w fun e w' => e = .returned (.bool true) ∧ Bel w w' := by
  have HK := Lib.hid hok; clear hok
  go_enter Tryz.func4, Tryz.ntmps4
  go_wp2_with (fail)
  refine (KM.new w HK.out).mono ?_
  rintro e w1 ⟨b, F0, rfl, hat, hn, hb⟩
  have HB1 := Lib.hid hb; have HAT := Lib.hid hat; have HN := Lib.hid hn
  clear hb hat hn
  have HAT1 := HAT; have HN1 := HN
  go_wp2_with (fail)
  refine (plain_any ⟨#[98]⟩ 1 w1).mono ?_
  rintro e p1 ⟨rfl, hb⟩
  have HBp1 := Lib.hid (HB1.out.trans hb)
  have HATp1 := Lib.hid (KM.bel HAT1.out hb)
  clear hb
  go_wp2_with (fail)
  refine (MK.add_is (KM := KM) b F0 [] [eB1] ⟨#[98]⟩ 1 false ⟨#[1, 1]⟩ 0 p1 ex_add1 HATp1.out ⟨rfl, by decide⟩ (by unfold EB.fits; decide) (by decide)).mono ?_
  rintro e w2 ⟨F1, rfl, hat, hn, hk⟩
  have HAT2 := Lib.hid hat
  have HN2 := Lib.hid (new_low hn HBp1.out HN1.out)
  have HB2 := Lib.hid (keep_new hk HBp1.out HN1.out)
  clear hat hn hk
  go_wp2_with (fail)
  refine (plain_any ⟨#[97]⟩ 2 w2).mono ?_
  rintro e p2 ⟨rfl, hb⟩
  have HBp2 := Lib.hid (HB2.out.trans hb)
  have HATp2 := Lib.hid (KM.bel HAT2.out hb)
  clear hb
  go_wp2_with (fail)
  refine (MK.add_is (KM := KM) b F1 [eB1] [eA2, eB1] ⟨#[97]⟩ 2 false ⟨#[1, 1]⟩ 0 p2 ex_add2 HATp2.out ⟨ex_stand1, by simp⟩ (by unfold EB.fits; decide) (by decide)).mono ?_
  rintro e w3 ⟨F2, rfl, hat, hn, hk⟩
  have HAT3 := Lib.hid hat
  have HN3 := Lib.hid (new_low hn HBp2.out HN2.out)
  have HB3 := Lib.hid (keep_new hk HBp2.out HN2.out)
  clear hat hn hk
  go_wp2_with (fail)
  refine (plain_any ⟨#[97]⟩ 5 w3).mono ?_
  rintro e p3 ⟨rfl, hb⟩
  have HBp3 := Lib.hid (HB3.out.trans hb)
  have HATp3 := Lib.hid (KM.bel HAT3.out hb)
  clear hb
  go_wp2_with (fail)
  refine (MK.add_is (KM := KM) b F2 [eA2, eB1] [eA5, eA2, eB1] ⟨#[97]⟩ 5 false ⟨#[1, 1]⟩ 0 p3 ex_add3 HATp3.out ⟨ex_stand2, by simp⟩ (by unfold EB.fits; decide) (by decide)).mono ?_
  rintro e w4 ⟨F3, rfl, hat, hn, hk⟩
  have HAT4 := Lib.hid hat
  have HN4 := Lib.hid (new_low hn HBp3.out HN3.out)
  have HB4 := Lib.hid (keep_new hk HBp3.out HN3.out)
  clear hat hn hk
  go_wp2_with (fail)
  refine (plain_any ⟨#[97]⟩ 2 w4).mono ?_
  rintro e p4 ⟨rfl, hb⟩
  have HBp4 := Lib.hid (HB4.out.trans hb)
  have HATp4 := Lib.hid (KM.bel HAT4.out hb)
  clear hb
  go_wp2_with (fail)
  refine (MK.add_is (KM := KM) b F3 [eA5, eA2, eB1] [eA5, eA2, eB1] ⟨#[97]⟩ 2 false ⟨#[1, 1]⟩ 5 p4 ex_add4 HATp4.out ⟨ex_stand3, by simp⟩ (by unfold EB.fits; decide) (by decide)).mono ?_
  rintro e w5 ⟨F4, rfl, hat, hn, hk⟩
  have HAT5 := Lib.hid hat
  have HN5 := Lib.hid (new_low hn HBp4.out HN4.out)
  have HB5 := Lib.hid (keep_new hk HBp4.out HN4.out)
  clear hat hn hk
  have HH := Lib.hid (show Holds [eA5, eA2, eB1] from ⟨ex_stand3, by simp⟩)
  go_wp2_with (fail)
  refine (KM.len b F4 _ w5 HAT5.out HH.out).mono ?_
  rintro e w6 ⟨rfl, hb⟩
  have HB6 := Lib.hid (HB5.out.trans hb)
  have HAT6 := Lib.hid (KM.bel HAT5.out hb)
  clear hb
  rw [show ([eA5, eA2, eB1] : List EB).length = 3 from rfl]
  go_wp2_with (fail)
  refine (MK.get_is (KM := KM) b F4 _ ⟨#[97]⟩ 4 (some eA2) w6 ex_get4 HAT6.out HH.out).mono ?_
  rintro e w7 ⟨rfl, hb⟩
  unfold getM eA2
  have HB7 := Lib.hid ((HB6.out.trans hb).alloc (.cells #[.string ⟨#[97]⟩, .int .i64 2, .bool false, .string ⟨#[1, 1]⟩] 30))
  have HAT7 := Lib.hid (KM.bel HAT6.out (hb.alloc (.cells #[.string ⟨#[97]⟩, .int .i64 2, .bool false, .string ⟨#[1, 1]⟩] 30)))
  clear hb
  go_wp2_with (fail)
  obtain ⟨X, hX⟩ : ∃ X, X = w7.heap.size := ⟨_, rfl⟩
  obtain ⟨y7, hy7⟩ : ∃ y, y = w7.alloc (.cells #[.string ⟨#[97]⟩, .int .i64 2, .bool false, .string ⟨#[1, 1]⟩] 30) := ⟨_, rfl⟩
  rw [← hy7] at HB7 HAT7 ⊢
  have HX := Lib.hid (show y7.cell? ⟨X, 0, none⟩ = some (.string ⟨#[97]⟩) ∧ y7.cell? ⟨X, 1, none⟩ = some (.int .i64 2) ∧ y7.cell? ⟨X, 2, none⟩ = some (.bool false) ∧ y7.cell? ⟨X, 3, none⟩ = some (.string ⟨#[1, 1]⟩) by
    rw [hy7, hX]; exact ⟨(World.cell?_alloc_new ..).trans (by simp), (World.cell?_alloc_new ..).trans (by simp), (World.cell?_alloc_new ..).trans (by simp), (World.cell?_alloc_new ..).trans (by simp)⟩)
  rw [← hX]
  clear hX hy7
  refine (MK.get_is (KM := KM) b F4 _ ⟨#[97]⟩ 1 none y7 ex_get0 HAT7.out HH.out).mono ?_
  rintro e w8 ⟨rfl, hb⟩
  unfold getM
  have hb8 := hb.alloc (.cells #[.string ⟨#[]⟩, .int .i64 0, .bool false, .string ⟨#[]⟩] 30)
  have HB8 := Lib.hid (HB7.out.trans hb8)
  have HAT8 := Lib.hid (KM.bel HAT7.out hb8)
  have HX8 := Lib.hid (And.intro (cl11 hb8 HX.out.1) (And.intro (cl11 hb8 HX.out.2.1) (And.intro (cl11 hb8 HX.out.2.2.1) (cl11 hb8 HX.out.2.2.2))))
  clear hb hb8
  go_wp2_with (fail)
  refine wp_region_held_drew (S := fun z => z.cell? ⟨X, 0, none⟩ = some (.string ⟨#[97]⟩) ∧ z.cell? ⟨X, 1, none⟩ = some (.int .i64 2) ∧ z.cell? ⟨X, 2, none⟩ = some (.bool false) ∧ z.cell? ⟨X, 3, none⟩ = some (.string ⟨#[1, 1]⟩)) (by kernel_rfl) HX8.out (fun hHeld => ?_)
  obtain ⟨y8, hy8⟩ : ∃ y, y = (w8.alloc (.cells #[.string ⟨#[]⟩, .int .i64 0, .bool false, .string ⟨#[]⟩] 30)).drew := ⟨_, rfl⟩
  skip
  refine tk (oi := { dst := some 48, op := Op.move (Operand.tmp 3), type := 4, pos := "law.go:60", after := #[], guard := none }) (v := ?_) 0 rfl ?_ ?_
  rotate_left
  · (intro w hSw; (try dsimp only at hSw); first | (go_simp; done) | (go_simp; with_reducible rfl))
  try simp only [Act.put, List.setIfInBounds_toArray, List.set_cons_zero, List.set_cons_succ]
  refine tk (oi := { dst := some 49, op := Op.move (Operand.tmp 48), type := 4, pos := "law.go:60", after := #[{ on := 0, ground := Ground.data }], guard := none }) (v := ?_) 1 rfl ?_ ?_
  rotate_left
  · (intro w hSw; (try dsimp only at hSw); first | (go_simp; done) | (go_simp; with_reducible rfl))
  try simp only [Act.put, List.setIfInBounds_toArray, List.set_cons_zero, List.set_cons_succ]
  refine tk (oi := { dst := some 50, op := Op.move (Operand.tmp 5), type := 4, pos := "law.go:60", after := #[{ on := 1, ground := Ground.guard }], guard := some (1, true) }) (v := ?_) 2 rfl ?_ ?_
  rotate_left
  · (intro w hSw; (try dsimp only at hSw); first | (go_simp; done) | (go_simp; with_reducible rfl))
  try simp only [Act.put, List.setIfInBounds_toArray, List.set_cons_zero, List.set_cons_succ]
  refine tk (oi := { dst := some 51, op := Op.unOp UnOp.not 4 (Operand.tmp 50), type := 4, pos := "law.go:60", after := #[{ on := 2, ground := Ground.data }, { on := 1, ground := Ground.guard }], guard := some (1, true) }) (v := ?_) 3 rfl ?_ ?_
  rotate_left
  · (intro w hSw; (try dsimp only at hSw); first | (go_simp; done) | (go_simp; with_reducible rfl))
  try simp only [Act.put, List.setIfInBounds_toArray, List.set_cons_zero, List.set_cons_succ]
  refine tk (oi := { dst := some 52, op := Op.pick (Operand.tmp 49) (Operand.tmp 51) (Operand.const (Value.bool false)), type := 4, pos := "law.go:60", after := #[{ on := 1, ground := Ground.data }, { on := 3, ground := Ground.data }], guard := none }) (v := ?_) 4 rfl ?_ ?_
  rotate_left
  · (intro w hSw; (try dsimp only at hSw); first | (go_simp; done) | (go_simp; with_reducible rfl))
  try simp only [Act.put, List.setIfInBounds_toArray, List.set_cons_zero, List.set_cons_succ]
  refine tk (oi := { dst := some 53, op := Op.move (Operand.tmp 52), type := 4, pos := "law.go:60", after := #[{ on := 4, ground := Ground.data }, { on := 1, ground := Ground.chain }], guard := none }) (v := ?_) 5 rfl ?_ ?_
  rotate_left
  · (intro w hSw; (try dsimp only at hSw); first | (go_simp; done) | (go_simp; with_reducible rfl))
  try simp only [Act.put, List.setIfInBounds_toArray, List.set_cons_zero, List.set_cons_succ]
  refine tk (oi := { dst := some 54, op := Op.load 30 (Operand.tmp 2), type := 30, pos := "law.go:60", after := #[{ on := 5, ground := Ground.guard }], guard := some (5, true) }) (v := ?_) 6 rfl ?_ ?_
  rotate_left
  · (intro w hSw; (try dsimp only at hSw); first | (go_simp; done) | (go_simp; with_reducible rfl))
  try simp only [Act.put, List.setIfInBounds_toArray, List.set_cons_zero, List.set_cons_succ]
  refine wpAnyH_ready (rs := [7]) (by kernel_rfl) (by simp) ?_
  refine AllReadyH.cons (o := { dst := some 55, op := Op.call { callee := Callee.value (Operand.func 20), args := #[Operand.const (Value.string { data := #[97] }), Operand.const (Value.int IntKind.i64 2)], argTypes := #[9, 3] }, type := 30, pos := "law.go:60", after := #[{ on := 5, ground := Ground.chain }, { on := 5, ground := Ground.guard }], guard := some (5, true) }) rfl (fun K hK => ?_) AllReadyH.nil
  go_simp
  refine (plain_any ⟨#[97]⟩ 2 _).mono ?_
  rintro r z1 ⟨rfl, hb⟩
  dsimp only
  refine hK.out _ _ ⟨cl11 hb hHeld.1, cl11 hb hHeld.2.1, cl11 hb hHeld.2.2.1, cl11 hb hHeld.2.2.2⟩ (fun hHeld => ?_)
  clear hK K
  try simp only [Act.put, List.setIfInBounds_toArray, List.set_cons_zero, List.set_cons_succ]
  have HB9 := Lib.hid (HB8.out.drew.trans hb)
  have HAT9 := Lib.hid (KM.bel HAT8.out ((Bel.refl _).drew.trans hb))
  clear hb
  refine tk (oi := { dst := some 56, op := Op.binOp BinOp.eql 30 (Operand.tmp 54) (Operand.tmp 55) 30, type := 4, pos := "law.go:60", after := #[{ on := 6, ground := Ground.data }, { on := 7, ground := Ground.data }, { on := 5, ground := Ground.guard }], guard := some (5, true) }) (v := ?_) 8 rfl ?_ ?_
  rotate_left
  · (intro w hSw; (try dsimp only at hSw); first | (go_simp; done) | (go_simp; with_reducible rfl))
  try simp only [Act.put, List.setIfInBounds_toArray, List.set_cons_zero, List.set_cons_succ]
  refine tk (oi := { dst := some 57, op := Op.pick (Operand.tmp 53) (Operand.tmp 56) (Operand.const (Value.bool false)), type := 4, pos := "law.go:60", after := #[{ on := 5, ground := Ground.data }, { on := 8, ground := Ground.data }], guard := none }) (v := ?_) 9 rfl ?_ ?_
  rotate_left
  · (intro w hSw; (try dsimp only at hSw); first | (go_simp; done) | (go_simp; with_reducible rfl))
  try simp only [Act.put, List.setIfInBounds_toArray, List.set_cons_zero, List.set_cons_succ]
  refine tk (oi := { dst := some 58, op := Op.move (Operand.tmp 57), type := 4, pos := "law.go:60", after := #[{ on := 9, ground := Ground.data }, { on := 7, ground := Ground.chain }], guard := none }) (v := ?_) 10 rfl ?_ ?_
  rotate_left
  · (intro w hSw; (try dsimp only at hSw); first | (go_simp; done) | (go_simp; with_reducible rfl))
  try simp only [Act.put, List.setIfInBounds_toArray, List.set_cons_zero, List.set_cons_succ]
  refine tk (oi := { dst := some 59, op := Op.move (Operand.tmp 1), type := 25, pos := "law.go:60", after := #[{ on := 10, ground := Ground.guard }], guard := some (10, true) }) (v := ?_) 11 rfl ?_ ?_
  rotate_left
  · (intro w hSw; (try dsimp only at hSw); first | (go_simp; done) | (go_simp; with_reducible rfl))
  try simp only [Act.put, List.setIfInBounds_toArray, List.set_cons_zero, List.set_cons_succ]
  refine wpAnyH_ready (rs := [12]) (by kernel_rfl) (by simp) ?_
  refine AllReadyH.cons (o := { dst := some 60, op := Op.call { callee := Callee.value (Operand.func 8), args := #[Operand.tmp 59, Operand.const (Value.string { data := #[] }), Operand.const (Value.string { data := #[] })], argTypes := #[25, 9, 9] }, type := 22, pos := "law.go:60", after := #[{ on := 11, ground := Ground.data }, { on := 10, ground := Ground.chain }, { on := 10, ground := Ground.guard }], guard := some (10, true) }) rfl (fun K hK => ?_) AllReadyH.nil
  go_simp
  refine (MK.all (KM := KM) b F4 _ z1 HAT9.out HH.out).mono ?_
  rintro r z2 ⟨q, qc, rfl, he, hb⟩
  dsimp only
  refine hK.out _ _ ⟨cl11 hb hHeld.1, cl11 hb hHeld.2.1, cl11 hb hHeld.2.2.1, cl11 hb hHeld.2.2.2⟩ (fun hHeld => ?_)
  clear hK K
  try simp only [Act.put, List.setIfInBounds_toArray, List.set_cons_zero, List.set_cons_succ]
  have HB10 := Lib.hid (HB9.out.trans hb)
  have HE := Lib.hid he
  clear hb he
  refine wpAnyH_ready (rs := [13]) (by kernel_rfl) (by simp) ?_
  refine AllReadyH.cons (o := { dst := some 61, op := Op.call { callee := Callee.value (Operand.func 20), args := #[Operand.const (Value.string { data := #[97] }), Operand.const (Value.int IntKind.i64 5)], argTypes := #[9, 3] }, type := 30, pos := "law.go:60", after := #[{ on := 12, ground := Ground.chain }, { on := 10, ground := Ground.guard }], guard := some (10, true) }) rfl (fun K hK => ?_) AllReadyH.nil
  go_simp
  refine (plain_any ⟨#[97]⟩ 5 z2).mono ?_
  rintro r z3 ⟨rfl, hb⟩
  dsimp only
  refine hK.out _ _ ⟨cl11 hb hHeld.1, cl11 hb hHeld.2.1, cl11 hb hHeld.2.2.1, cl11 hb hHeld.2.2.2⟩ (fun hHeld => ?_)
  clear hK K
  try simp only [Act.put, List.setIfInBounds_toArray, List.set_cons_zero, List.set_cons_succ]
  have HB11 := Lib.hid (HB10.out.trans hb)
  have HE3 := Lib.hid (HE.out.bel hb)
  clear hb
  refine wpAnyH_ready (rs := [14]) (by kernel_rfl) (by simp) ?_
  refine AllReadyH.cons (o := { dst := some 62, op := Op.call { callee := Callee.value (Operand.func 20), args := #[Operand.const (Value.string { data := #[97] }), Operand.const (Value.int IntKind.i64 2)], argTypes := #[9, 3] }, type := 30, pos := "law.go:60", after := #[{ on := 13, ground := Ground.chain }, { on := 10, ground := Ground.guard }], guard := some (10, true) }) rfl (fun K hK => ?_) AllReadyH.nil
  go_simp
  refine (plain_any ⟨#[97]⟩ 2 z3).mono ?_
  rintro r z4 ⟨rfl, hb⟩
  dsimp only
  refine hK.out _ _ ⟨cl11 hb hHeld.1, cl11 hb hHeld.2.1, cl11 hb hHeld.2.2.1, cl11 hb hHeld.2.2.2⟩ (fun hHeld => ?_)
  clear hK K
  try simp only [Act.put, List.setIfInBounds_toArray, List.set_cons_zero, List.set_cons_succ]
  have HB12 := Lib.hid (HB11.out.trans hb)
  have HE4 := Lib.hid (HE3.out.bel hb)
  clear hb
  refine wpAnyH_ready (rs := [15]) (by kernel_rfl) (by simp) ?_
  refine AllReadyH.cons (o := { dst := some 63, op := Op.call { callee := Callee.value (Operand.func 20), args := #[Operand.const (Value.string { data := #[98] }), Operand.const (Value.int IntKind.i64 1)], argTypes := #[9, 3] }, type := 30, pos := "law.go:60", after := #[{ on := 14, ground := Ground.chain }, { on := 10, ground := Ground.guard }], guard := some (10, true) }) rfl (fun K hK => ?_) AllReadyH.nil
  go_simp
  refine (plain_any ⟨#[98]⟩ 1 z4).mono ?_
  rintro r z5 ⟨rfl, hb⟩
  dsimp only
  refine hK.out _ _ ⟨cl11 hb hHeld.1, cl11 hb hHeld.2.1, cl11 hb hHeld.2.2.1, cl11 hb hHeld.2.2.2⟩ (fun hHeld => ?_)
  clear hK K
  try simp only [Act.put, List.setIfInBounds_toArray, List.set_cons_zero, List.set_cons_succ]
  have HB13 := Lib.hid (HB12.out.trans hb)
  have HE5 := Lib.hid (HE4.out.bel hb)
  clear hb
  refine wpAnyH_ready (rs := [16]) (by kernel_rfl) (by simp) ?_
  refine AllReadyH.cons (o := { dst := some 64, op := Op.buildSlice 22 3 #[(0, Operand.tmp 61), (1, Operand.tmp 62), (2, Operand.tmp 63)], type := 22, pos := "law.go:60", after := #[{ on := 13, ground := Ground.data }, { on := 14, ground := Ground.data }, { on := 15, ground := Ground.data }, { on := 10, ground := Ground.guard }], guard := some (10, true) }) rfl (fun K hK => ?_) AllReadyH.nil
  go_simp
  have hb := (Bel.refl z5).alloc (.cells #[.string ⟨#[97]⟩, .int .i64 5, .bool false, .string ⟨#[1, 1]⟩, .string ⟨#[97]⟩, .int .i64 2, .bool false, .string ⟨#[1, 1]⟩, .string ⟨#[98]⟩, .int .i64 1, .bool false, .string ⟨#[1, 1]⟩] 30)
  refine hK.out _ _ ⟨cl11 hb hHeld.1, cl11 hb hHeld.2.1, cl11 hb hHeld.2.2.1, cl11 hb hHeld.2.2.2⟩ (fun hHeld => ?_)
  clear hK K
  try simp only [Act.put, List.setIfInBounds_toArray, List.set_cons_zero, List.set_cons_succ]
  have HB14 := Lib.hid (HB13.out.trans hb)
  have HE6 := Lib.hid (HE5.out.bel hb)
  have HLIT := Lib.hid (ents_lit11 (L := [eA5, eA2, eB1]) (heap_alloc_new z5 (.cells #[.string ⟨#[97]⟩, .int .i64 5, .bool false, .string ⟨#[1, 1]⟩, .string ⟨#[97]⟩, .int .i64 2, .bool false, .string ⟨#[1, 1]⟩, .string ⟨#[98]⟩, .int .i64 1, .bool false, .string ⟨#[1, 1]⟩] 30)) rfl)
  clear hb
  refine wpAnyH_ready (rs := [17]) (by kernel_rfl) (by simp) ?_
  refine AllReadyH.cons (o := { dst := some 65, op := Op.call { callee := Callee.value (Operand.func 15), args := #[Operand.tmp 60, Operand.tmp 64], argTypes := #[22, 22] }, type := 4, pos := "law.go:60", after := #[{ on := 12, ground := Ground.data }, { on := 16, ground := Ground.data }, { on := 15, ground := Ground.chain }, { on := 10, ground := Ground.guard }], guard := some (10, true) }) rfl (fun K hK => ?_) AllReadyH.nil
  go_simp
  refine (same11_at q (some ⟨z5.heap.size, 0, none⟩) _ 3 qc 3 [eA5, eA2, eB1] _ HE6.out HLIT.out (by decide) rfl rfl).mono ?_
  rintro r z7 ⟨rfl, hd⟩
  dsimp only
  have hb := hd.bel
  refine hK.out _ _ ⟨cl11 hb hHeld.1, cl11 hb hHeld.2.1, cl11 hb hHeld.2.2.1, cl11 hb hHeld.2.2.2⟩ (fun hHeld => ?_)
  clear hK K
  try simp only [Act.put, List.setIfInBounds_toArray, List.set_cons_zero, List.set_cons_succ]
  have HB15 := Lib.hid (HB14.out.trans hb)
  clear hb hd
  refine tk (oi := { dst := some 66, op := Op.pick (Operand.tmp 58) (Operand.tmp 65) (Operand.const (Value.bool false)), type := 4, pos := "law.go:60", after := #[{ on := 10, ground := Ground.data }, { on := 17, ground := Ground.data }], guard := none }) (v := ?_) 18 rfl ?_ ?_
  rotate_left
  · (intro w hSw; (try dsimp only at hSw); first | (go_simp; done) | (go_simp; with_reducible rfl))
  try simp only [Act.put, List.setIfInBounds_toArray, List.set_cons_zero, List.set_cons_succ]
  refine tk (oi := { dst := some 0, op := Op.assign (Operand.tmp 66), type := 4, pos := "law.go:60", after := #[{ on := 18, ground := Ground.data }, { on := 17, ground := Ground.chain }, { on := 0, ground := Ground.phase }, { on := 1, ground := Ground.phase }, { on := 2, ground := Ground.phase }, { on := 3, ground := Ground.phase }, { on := 4, ground := Ground.phase }, { on := 5, ground := Ground.phase }, { on := 6, ground := Ground.phase }, { on := 7, ground := Ground.phase }, { on := 8, ground := Ground.phase }, { on := 9, ground := Ground.phase }, { on := 10, ground := Ground.phase }, { on := 11, ground := Ground.phase }, { on := 12, ground := Ground.phase }, { on := 13, ground := Ground.phase }, { on := 14, ground := Ground.phase }, { on := 15, ground := Ground.phase }, { on := 16, ground := Ground.phase }, { on := 17, ground := Ground.phase }, { on := 18, ground := Ground.phase }], guard := none }) (v := ?_) 19 rfl ?_ ?_
  rotate_left
  · (intro w hSw; (try dsimp only at hSw); first | (go_simp; done) | (go_simp; with_reducible rfl))
  try simp only [Act.put, List.setIfInBounds_toArray, List.set_cons_zero, List.set_cons_succ]
  refine wpAnyH_done (by kernel_rfl) ?_ _
  go_wp2_with (fail)
  go_ret
  exact ⟨rfl, HB15.out⟩
end
end Go.Proofs.YteimllgoelleeaaGreatDoor
/- A memory to which the entries of a list are added one by one. -/
namespace Go.Proofs.YteimllgoelleeaaGreatDoor
open Go.RowKit Go.Deep

def MInv (KM : MK) (W : World) (L : List EB) (b k : Nat) (x : World) : Prop := ∃ F, KM.At x b F (standingB (L.take k)) ∧ (∀ f ∈ F, W.heap.size ≤ f) ∧ Bel W x
theorem hold_standing {L : List EB} (h : L.length ≤ 100) (k : Nat) : Holds (standingB (L.take k)) := by
  refine ⟨standing_stand _, ?_⟩
  have h1 := standing_len (L.take k)
  rw [List.length_take] at h1
  omega
theorem hold_all {L : List EB} (h : L.length ≤ 100) : Holds (standingB L) := by
  have := hold_standing h L.length
  rwa [List.take_length] at this
theorem small_data {L : List EB} (h : Small11 L) {k : Nat} (hk : k < L.length) (e : EB) (he : e = L[k]) : e.v.size ≤ 1000000 := by
  have := (h.2 k hk).2
  rw [he]; omega
section
variable {KM : MK} {W x y : World} {L : List EB} {b k : Nat}
theorem MInv.bel (h : MInv KM W L b k x) (hb : Bel x y) : MInv KM W L b k y := by
  obtain ⟨F, h1, h2, h3⟩ := h
  exact ⟨F, KM.bel h1 hb, h2, h3.trans hb⟩
theorem MInv.old (h : MInv KM W L b k x) : Bel W x := by
  obtain ⟨F, h1, h2, h3⟩ := h
  exact h3
theorem MInv.start {F : List Nat} (h : KM.At x b F []) (hn : ∀ f ∈ F, y.heap.size ≤ f) (hy : Bel W y) (hb : Bel y x) : MInv KM W L b 0 x :=
  ⟨F, by rw [List.take_zero]; exact h, fun f hf => by have := hn f hf; have := hy.size; omega, hy.trans hb⟩
theorem minv_add (h : MInv KM W L b k x) (hs : Small11 L) (hk : k < L.length) (e : EB) (he : e = L[k]) (hf : e.fits) :
    Calls Tryz.prog 7 #[.pointer (some ⟨b, 0, none⟩), .agg #[.string e.k, .int .i64 e.q, .bool e.d, .string e.v]] x fun r w' => r = .returned (.int .i64 (errM (standingB (L.take k)) e)) ∧ MInv KM W L b (k + 1) w' := by
  obtain ⟨F, h1, h2, h3⟩ := h
  refine (KM.add b F _ e x h1 (hold_standing hs.1 k) hf (small_data hs hk e he)).mono ?_
  rintro r w' ⟨F', rfl, hat, hn, hkp⟩
  exact ⟨rfl, F', by rw [standing_take hk e he]; exact hat, new_low hn h3 h2, keep_new hkp h3 h2⟩
theorem MInv.full (h : MInv KM W L b L.length x) : ∃ F, KM.At x b F (standingB L) ∧ (∀ f ∈ F, W.heap.size ≤ f) ∧ Bel W x := by
  obtain ⟨F, h1, h2, h3⟩ := h
  rw [List.take_length] at h1
  exact ⟨F, h1, h2, h3⟩
end
end Go.Proofs.YteimllgoelleeaaGreatDoor
/- moultref10.foot. -/
namespace Go.Proofs.YteimllgoelleeaaGreatDoor
open Go.RowKit Go.Deep

theorem cat_list (a b : ByteArray) : (a ++ b).data.toList = a.data.toList ++ b.data.toList := by simp
theorem cat_size (a b : ByteArray) : (a ++ b).size = a.size + b.size := by simp
theorem ba_back (a : ByteArray) (l : List UInt8) (h : a.data.toList = l) : a = ⟨l.toArray⟩ := by rw [← h]
theorem flat_take (C : List CT) (k : Nat) (h : k < C.length) (c : CT) (hc : c = C[k]) : (C.take (k + 1)).flatMap citeBytes = (C.take k).flatMap citeBytes ++ (putL c.t ++ putL c.v ++ putL c.n) := by
  rw [List.take_add_one, List.getElem?_eq_getElem h, Option.toList_some, List.flatMap_append, List.flatMap_singleton, hc]
  rfl
end Go.Proofs.YteimllgoelleeaaGreatDoor
/- table.areRight, table.areOrdered. -/
namespace Go.Proofs.YteimllgoelleeaaGreatDoor
open Go.RowKit Go.Deep

theorem allr_take {L : List EB} {k : Nat} (h : k < L.length) : (L.take (k + 1)).all rightB = ((L.take k).all rightB && rightB L[k]) := by
  rw [List.take_add_one, List.getElem?_eq_getElem h, Option.toList_some, List.all_append]
  simp
theorem allr_more {L : List EB} {k : Nat} (h : (L.take k).all rightB = false) : L.all rightB = false := by
  cases hs : L.all rightB with
  | false => rfl
  | true =>
    rw [List.all_eq_true] at hs
    have : (L.take k).all rightB = true := List.all_eq_true.2 fun e he => hs e (List.mem_of_mem_take he)
    rw [h] at this; cases this
set_option maxHeartbeats 2000000 in
theorem areright_any (p : Option Addr) (cap : Nat) (L : List EB) (w : World) (h : EntsAt w p L) (hL : L.length ≤ 100000) (hf : fitsL L) (hs : ∀ e ∈ L, e.v.size ≤ 1000000) :
    Calls Tryz.prog 45 #[.slice p L.length cap] w fun e w' => e = .returned (.bool (L.all rightB)) ∧ Bel w w' := by
  have H := Lib.hid h; clear h
  have HF := Lib.hid hf; clear hf
  have HS := Lib.hid hs; clear hs
  go_enter Tryz.func45, Tryz.ntmps45
  go_wp2_with (fail)
  go_loopw [7] (fun iv x => (∃ k : Nat, k ≤ L.length ∧ iv = .int .i64 k ∧ (L.take k).all rightB = true) ∧ Bel w x) (fun iv _ => L.length - (intOf iv).toNat)
  case atStart => exact ⟨⟨0, Nat.zero_le _, rfl, rfl⟩, Bel.refl w⟩
  case round =>
    obtain ⟨⟨k, hk, rfl, hst⟩, hb⟩ := hrel
    have HST := Lib.hid hst; clear hst
    have HB := Lib.hid hb
    by_cases hlt : k < L.length
    · obtain ⟨a, e0, rfl, he0, B, O, sp, ha, c0, c1, c2, c3⟩ := (H.out.bel hb).get hlt
      have HE := Lib.hid (show e0.fits by rw [he0]; exact fits_at HF.out hlt)
      have HV := Lib.hid (show e0.v.size ≤ 1000000 by rw [he0]; exact HS.out _ (List.getElem_mem hlt))
      have HN := Lib.hid (allr_take hlt)
      rw [HST.out, ← he0, Bool.true_and] at HN
      clear hb he0
      go_wp2_with (fail)
      refine (pright_any e0 _ HE.out HV.out).mono ?_
      rintro r w1 ⟨rfl, hb⟩
      have HB1 := Lib.hid (show Bel w w1 from Bel.trans (HB.out.alloc _) hb)
      clear hb
      cases hr : rightB e0 with
      | false =>
        rw [hr] at HN
        have HR := Lib.hid (allr_more HN.out)
        clear hr
        go_wp2_with (fail)
        go_ret
        exact ⟨by rw [HR.out]; rfl, HB1.out⟩
      | true =>
        rw [hr] at HN
        clear hr
        go_wp2_with (fail)
        go_roundw
        case rel => exact ⟨⟨k + 1, hlt, by go_num, HN.out⟩, HB1.out⟩
        case measure => simp [intOf]; omega
    · obtain rfl : k = L.length := by omega
      clear hb
      rw [List.take_length] at HST
      go_wp2_with (fail)
      go_ret
      exact ⟨by rw [HST.out]; rfl, HB.out⟩
set_option maxHeartbeats 4000000 in
set_option maxRecDepth 20000 in
theorem areord_any (p : Option Addr) (cap : Nat) (L : List EB) (w : World) (h : EntsAt w p L) (hL : L.length ≤ 100000) (h0 : L ≠ []) (hr : ∀ e ∈ L, rightB e = true) :
    Calls Tryz.prog 46 #[.slice p L.length cap] w fun e w' => e = .returned (.bool (standB L)) ∧ Bel w w' := by
  have H := Lib.hid h; clear h
  have HR := Lib.hid hr; clear hr
  have h1 : 1 ≤ L.length := List.length_pos_iff.2 h0
  have H1 := Lib.hid (show standB (L.take 1) = true by rw [stand_zero (by omega)]; exact HR.out _ (List.getElem_mem _))
  clear h0
  go_enter Tryz.func46, Tryz.ntmps46
  go_wp2_with (fail)
  go_loopw [3] (fun iv x => (∃ j : Nat, j + 1 ≤ L.length ∧ iv = .int .i64 ((j : Int) + 1) ∧ standB (L.take (j + 1)) = true) ∧ Bel w x) (fun iv _ => L.length - (intOf iv).toNat)
  case atStart => exact ⟨⟨0, h1, rfl, H1.out⟩, Bel.refl w⟩
  case round =>
    obtain ⟨⟨j, hj, rfl, hst⟩, hb⟩ := hrel
    have HST := Lib.hid hst; clear hst
    have HB := Lib.hid hb
    by_cases hlt : j + 1 < L.length
    · obtain ⟨a, e0, rfl, he0, B, O, sp, ha, c0, c1, c2, c3⟩ := (H.out.bel hb).get hlt
      have hjl : j < L.length := by omega
      obtain ⟨_, e1, ha', he1, B', O', sp', ha2, b0, b1, b2, b3⟩ := (H.out.bel hb).get hjl
      cases ha'
      have HN := Lib.hid (stand_next hlt)
      rw [HST.out, ← he0, ← he1, Bool.true_and, show rightB e0 = true by rw [he0]; exact HR.out _ (List.getElem_mem hlt), Bool.true_and] at HN
      have hji : (j : Int) < (L.length : Int) := by omega
      have hji2 : (j : Int) + 1 < (L.length : Int) := by omega
      have hjw : IntKind.i64.wrap (j : Int) = j := by rw [IntKind.wrap_i64]; omega
      have hj0 : (0 : Int) ≤ (j : Int) + 1 := by omega
      have hjw2 : IntKind.i64.wrap ((j : Int) + 1) = (j : Int) + 1 := by rw [IntKind.wrap_i64]; omega
      clear he1 he0 hb
      go_wp2_with (fail)
      refine wp_region_held_drew (S := fun z => (z.cell? ⟨B, O, sp⟩ = some (.string e0.k) ∧ z.cell? ⟨B, O + 1, none⟩ = some (.int .i64 e0.q) ∧ z.cell? ⟨B, O + 2, none⟩ = some (.bool e0.d) ∧ z.cell? ⟨B, O + 3, none⟩ = some (.string e0.v)) ∧ z.cell? ⟨B', O', sp'⟩ = some (.string e1.k) ∧ z.cell? ⟨B', O' + 1, none⟩ = some (.int .i64 e1.q) ∧ z.cell? ⟨B', O' + 2, none⟩ = some (.bool e1.d) ∧ z.cell? ⟨B', O' + 3, none⟩ = some (.string e1.v)) (by kernel_rfl) ⟨⟨c0, c1, c2, c3⟩, b0, b1, b2, b3⟩ (fun hHeld => ?_)
      refine tk (oi := { dst := some 10, op := Op.move (Operand.tmp 0), type := 22, pos := "build.go:72", after := #[], guard := none }) (v := ?_) 0 rfl ?_ ?_
      rotate_left
      · (intro w hSw; (try dsimp only at hSw); first | (go_simp; done) | (go_simp; with_reducible rfl))
      try simp only [Act.put, List.setIfInBounds_toArray, List.set_cons_zero, List.set_cons_succ]
      refine tk (oi := { dst := some 11, op := Op.move (Operand.tmp 3), type := 3, pos := "build.go:72", after := #[], guard := none }) (v := ?_) 1 rfl ?_ ?_
      rotate_left
      · (intro w hSw; (try dsimp only at hSw); first | (go_simp; done) | (go_simp; with_reducible rfl))
      try simp only [Act.put, List.setIfInBounds_toArray, List.set_cons_zero, List.set_cons_succ]
      refine tk (oi := { dst := some 12, op := Op.binOp BinOp.sub 3 (Operand.tmp 11) (Operand.const (Value.int IntKind.i64 1)) 3, type := 3, pos := "build.go:72", after := #[{ on := 1, ground := Ground.data }], guard := none }) (v := ?_) 2 rfl ?_ ?_
      rotate_left
      · (intro w hSw; (try dsimp only at hSw); first | (go_simp; done) | (go_simp; with_reducible rfl))
      try simp only [Act.put, List.setIfInBounds_toArray, List.set_cons_zero, List.set_cons_succ]
      refine tk (oi := { dst := some 13, op := Op.indexAddr 22 (Operand.tmp 10) (Operand.tmp 12), type := 0, pos := "build.go:72", after := #[{ on := 0, ground := Ground.data }, { on := 2, ground := Ground.data }], guard := none }) (v := ?_) 3 rfl ?_ ?_
      rotate_left
      · (intro w hSw; (try dsimp only at hSw); first | (go_simp; done) | (go_simp; with_reducible rfl))
      try simp only [Act.put, List.setIfInBounds_toArray, List.set_cons_zero, List.set_cons_succ]
      refine tk (oi := { dst := some 14, op := Op.load 30 (Operand.tmp 13), type := 30, pos := "build.go:72", after := #[{ on := 3, ground := Ground.data }], guard := none }) (v := ?_) 4 rfl ?_ ?_
      rotate_left
      · (intro w hSw; (try dsimp only at hSw); first | (go_simp; done) | (go_simp; with_reducible rfl))
      try simp only [Act.put, List.setIfInBounds_toArray, List.set_cons_zero, List.set_cons_succ]
      refine tk (oi := { dst := some 15, op := Op.move (Operand.tmp 0), type := 22, pos := "build.go:72", after := #[], guard := none }) (v := ?_) 5 rfl ?_ ?_
      rotate_left
      · (intro w hSw; (try dsimp only at hSw); first | (go_simp; done) | (go_simp; with_reducible rfl))
      try simp only [Act.put, List.setIfInBounds_toArray, List.set_cons_zero, List.set_cons_succ]
      refine tk (oi := { dst := some 16, op := Op.move (Operand.tmp 3), type := 3, pos := "build.go:72", after := #[], guard := none }) (v := ?_) 6 rfl ?_ ?_
      rotate_left
      · (intro w hSw; (try dsimp only at hSw); first | (go_simp; done) | (go_simp; with_reducible rfl))
      try simp only [Act.put, List.setIfInBounds_toArray, List.set_cons_zero, List.set_cons_succ]
      refine tk (oi := { dst := some 17, op := Op.indexAddr 22 (Operand.tmp 15) (Operand.tmp 16), type := 0, pos := "build.go:72", after := #[{ on := 5, ground := Ground.data }, { on := 6, ground := Ground.data }], guard := none }) (v := ?_) 7 rfl ?_ ?_
      rotate_left
      · (intro w hSw; (try dsimp only at hSw); first | (go_simp; done) | (go_simp; with_reducible rfl))
      try simp only [Act.put, List.setIfInBounds_toArray, List.set_cons_zero, List.set_cons_succ]
      refine tk (oi := { dst := some 18, op := Op.load 30 (Operand.tmp 17), type := 30, pos := "build.go:72", after := #[{ on := 7, ground := Ground.data }], guard := none }) (v := ?_) 8 rfl ?_ ?_
      rotate_left
      · (intro w hSw; (try dsimp only at hSw); first | (go_simp; done) | (go_simp; with_reducible rfl))
      try simp only [Act.put, List.setIfInBounds_toArray, List.set_cons_zero, List.set_cons_succ]
      refine wpAnyH_ready (rs := [9]) (by kernel_rfl) (by simp) ?_
      refine AllReadyH.cons (o := { dst := some 19, op := Op.call { callee := Callee.value (Operand.func 38), args := #[Operand.tmp 14, Operand.tmp 18], argTypes := #[30, 30] }, type := 4, pos := "build.go:72", after := #[{ on := 4, ground := Ground.data }, { on := 8, ground := Ground.data }], guard := none }) rfl (fun K hK => ?_) AllReadyH.nil
      go_simp
      refine (pless_any e1 e0 wr.drew).mono ?_
      rintro r w2 ⟨rfl, hb2⟩
      have HB2 := Lib.hid (HB.out.drew.trans hb2)
      dsimp only
      refine hK.out _ _ ⟨⟨cell_later hb2 hHeld.1.1, cell_later hb2 hHeld.1.2.1, cell_later hb2 hHeld.1.2.2.1, cell_later hb2 hHeld.1.2.2.2⟩, cell_later hb2 hHeld.2.1, cell_later hb2 hHeld.2.2.1, cell_later hb2 hHeld.2.2.2.1, cell_later hb2 hHeld.2.2.2.2⟩ (fun hHeld => ?_)
      clear hK K
      try simp only [Act.put, List.setIfInBounds_toArray, List.set_cons_zero, List.set_cons_succ]
      refine tk (oi := { dst := some 20, op := Op.unOp UnOp.not 4 (Operand.tmp 19), type := 4, pos := "build.go:72", after := #[{ on := 9, ground := Ground.data }], guard := none }) (v := ?_) 10 rfl ?_ ?_
      rotate_left
      · (intro w hSw; (try dsimp only at hSw); first | (go_simp; done) | (go_simp; with_reducible rfl))
      try simp only [Act.put, List.setIfInBounds_toArray, List.set_cons_zero, List.set_cons_succ]
      refine wpAnyH_done (by kernel_rfl) ?_ _
      clear hHeld hb2 b0 b1 b2 b3 c0 c1 c2 c3
      cases hlb : lessB e1 e0 with
      | false =>
        rw [hlb] at HN
        have HR := Lib.hid (stand_more HN.out)
        clear hlb
        go_wp2_with (fail)
        go_ret
        exact ⟨by rw [HR.out]; rfl, HB2.out⟩
      | true =>
        rw [hlb] at HN
        clear hlb
        go_wp2_with (fail)
        go_roundw
        case rel => exact ⟨⟨j + 1, hlt, by go_num, HN.out⟩, HB2.out⟩
        case measure => simp [intOf]; omega
    · obtain hjl : j + 1 = L.length := by omega
      have hlt' : ¬ (j : Int) + 1 < (L.length : Int) := by omega
      clear hb
      rw [hjl, List.take_length] at HST
      go_wp2_with (fail)
      go_ret
      exact ⟨by rw [HST.out]; rfl, HB.out⟩
end Go.Proofs.YteimllgoelleeaaGreatDoor
/- The program's orders: of entries, and of tables and versions. -/
namespace Go.Proofs.YteimllgoelleeaaGreatDoor
open Go.RowKit Go.Deep

set_option maxHeartbeats 1000000 in
theorem eless_any (a b : EB) (w : World) :
    Calls Tryz.prog 163 #[.agg #[.string a.k, .int .i64 a.q, .bool a.d, .string a.v], .agg #[.string b.k, .int .i64 b.q, .bool b.d, .string b.v]] w fun r w' => r = .returned (.bool (lessB a b)) ∧ Bel w w' := by
  obtain ⟨k, q, d, v⟩ := a
  obtain ⟨k', q', d', v'⟩ := b
  have HB := Lib.hid (((Bel.refl w).alloc (.cells #[.string k, .int .i64 q, .bool d, .string v] 55)).alloc (.cells #[.string k', .int .i64 q', .bool d', .string v'] 55))
  go_enter Tryz.func163, Tryz.ntmps163
  go_wp2_with (fail)
  refine (pless_any ⟨k, q, d, v⟩ ⟨k', q', d', v'⟩ _).mono ?_
  rintro e w1 ⟨rfl, hb⟩
  have H1 := Lib.hid (HB.out.trans hb); clear hb
  go_wp2_with (fail)
  go_ret
  exact ⟨rfl, H1.out⟩
theorem isNaN_any (a : Int) (w : World) : Calls Tryz.prog 119 #[.int .i64 a] w fun r w' => r = .returned (.bool false) ∧ w' = w := by
  go_enter Tryz.func119, Tryz.ntmps119
  go_wp2_with (fail)
  go_ret
  exact ⟨by simp, rfl⟩
def cmpN (a b : Int) : Int := if a < b then -1 else if b < a then 1 else 0
set_option maxHeartbeats 1000000 in
theorem compare_any (a b : Int) (w : World) : Calls Tryz.prog 95 #[.int .i64 a, .int .i64 b] w fun r w' => r = .returned (.int .i64 (cmpN a b)) ∧ w' = w := by
  have main : ∀ c : Int, ((a < b ∧ c = -1) ∨ (¬ a < b ∧ b < a ∧ c = 1) ∨ (¬ a < b ∧ ¬ b < a ∧ c = 0)) → Calls Tryz.prog 95 #[.int .i64 a, .int .i64 b] w fun r w' => r = .returned (.int .i64 c) ∧ w' = w := by
    rintro c (⟨h, rfl⟩ | ⟨h, h', rfl⟩ | ⟨h, h', rfl⟩)
    all_goals
      go_enter Tryz.func95, Tryz.ntmps95
      go_wp2_with (fail)
      refine (isNaN_any _ _).mono ?_
      rintro e w1 ⟨rfl, rfl⟩
      go_wp2_with (fail)
      refine (isNaN_any _ _).mono ?_
      rintro e w1 ⟨rfl, rfl⟩
      go_wp2_with (fail)
      go_ret
      exact ⟨rfl, rfl⟩
  unfold cmpN
  refine main _ ?_
  by_cases h : a < b
  · rw [if_pos h]; exact .inl ⟨h, rfl⟩
  · by_cases h' : b < a
    · rw [if_neg h, if_pos h']; exact .inr (.inl ⟨h, h', rfl⟩)
    · rw [if_neg h, if_neg h']; exact .inr (.inr ⟨h, h', rfl⟩)
def orN (a b : Int) : Int := if a = 0 then b else a
set_option maxHeartbeats 1000000 in
theorem or11_any0 (B : Nat) (a b : Int) (w : World) (h0 : w.cell? ⟨B, 0, none⟩ = some (.int .i64 a)) (h1 : w.cell? ⟨B, 1, none⟩ = some (.int .i64 b)) :
    Calls Tryz.prog 94 #[.slice (some ⟨B, 0, none⟩) 2 2] w fun r w' => r = .returned (.int .i64 (if a = 0 then b else a)) ∧ w' = w := by
  go_enter Tryz.func94, Tryz.ntmps94
  go_wp2_with (fail)
  go_loopw [8] (fun iv x => ∃ k : Nat, k ≤ 2 ∧ iv = .int .i64 k ∧ x = w ∧ (1 ≤ k → a = 0) ∧ (2 ≤ k → b = 0)) (fun iv _ => 2 - (intOf iv).toNat)
  case atStart => exact ⟨0, by omega, rfl, rfl, fun h => by omega, fun h => by omega⟩
  case round =>
    obtain ⟨k, hk, rfl, rfl, ha, hb⟩ := hrel
    have hk3 : k = 0 ∨ k = 1 ∨ k = 2 := by omega
    rcases hk3 with rfl | rfl | rfl
    · by_cases h : a = 0
      · subst h
        clear ha hb
        go_wp2_with (fail)
        go_roundw
        case rel => exact ⟨1, by omega, by first | trivial | rfl, by first | trivial | rfl, fun _ => by trivial, fun h => by omega⟩
        case measure => simp [intOf]
      · clear ha hb
        have h' : (a == 0) = false := by simpa using h
        go_wp2_with (fail)
        go_ret
        exact ⟨by first | rfl | simp [h], rfl⟩
    · obtain rfl := ha (by omega)
      clear ha hb
      by_cases h : b = 0
      · subst h
        go_wp2_with (fail)
        go_roundw
        case rel => exact ⟨2, by omega, by first | trivial | rfl, by first | trivial | rfl, fun _ => by trivial, fun _ => by trivial⟩
        case measure => simp [intOf]
      · have h' : (b == 0) = false := by simpa using h
        go_wp2_with (fail)
        go_ret
        exact ⟨by first | rfl | simp, rfl⟩
    · obtain rfl := ha (by omega)
      obtain rfl := hb (by omega)
      go_wp2_with (fail)
      go_ret
      exact ⟨by first | rfl | simp, rfl⟩
theorem or11_any (B : Nat) (a b : Int) (w : World) (h0 : w.cell? ⟨B, 0, none⟩ = some (.int .i64 a)) (h1 : w.cell? ⟨B, 1, none⟩ = some (.int .i64 b)) :
    Calls Tryz.prog 94 #[.slice (some ⟨B, 0, none⟩) 2 2] w fun r w' => r = .returned (.int .i64 (orN a b)) ∧ w' = w := or11_any0 B a b w h0 h1
def ltC (a b : CT) : Bool := decide (a.t < b.t) || (decide (a.t = b.t) && decide (a.v < b.v))
theorem ltC_trans (a b c : CT) (h : ltC a b = true) (h' : ltC b c = true) : ltC a c = true := by
  unfold ltC at *
  simp only [Bool.or_eq_true, Bool.and_eq_true, decide_eq_true_eq] at *
  omega
theorem ltC_cmp (a b : CT) : decide (orN (cmpN a.t b.t) (cmpN a.v b.v) < 0) = ltC a b := by
  unfold ltC orN cmpN
  by_cases h1 : a.t < b.t
  · have h1' : (a.t : Int) < b.t := by omega
    rw [if_pos h1', decide_eq_true h1]; rfl
  · have h1' : ¬ (a.t : Int) < b.t := by omega
    by_cases h2 : b.t < a.t
    · have h2' : (b.t : Int) < a.t := by omega
      rw [if_neg h1', if_pos h2', decide_eq_false h1, decide_eq_false (by omega : ¬ a.t = b.t)]; rfl
    · have h2' : ¬ (b.t : Int) < a.t := by omega
      have e : a.t = b.t := by omega
      rw [if_neg h1', if_neg h2', if_pos rfl, decide_eq_false h1, decide_eq_true e]
      by_cases h3 : a.v < b.v
      · have h3' : (a.v : Int) < b.v := by omega
        rw [if_pos h3', decide_eq_true h3]; rfl
      · have h3' : ¬ (a.v : Int) < b.v := by omega
        rw [if_neg h3', decide_eq_false h3]
        split <;> rfl
theorem cell_at_new {W : World} {B i : Nat} {cs : Array Value} {T : TypeId} (hB : B = W.heap.size) : (W.alloc (.cells cs T)).cell? ⟨B, i, none⟩ = cs[i]? := by
  subst hB; exact World.cell?_alloc_new ..
theorem cell_at_drew {W : World} {B i : Nat} {cs : Array Value} {T : TypeId} (hB : B = W.heap.size) : (W.alloc (.cells cs T)).drew.cell? ⟨B, i, none⟩ = cs[i]? := cell_at_new hB
set_option maxHeartbeats 2000000 in
theorem cless_any (a b : CT) (w : World) :
    Calls Tryz.prog 165 #[.agg #[.int .i64 (a.t : Int), .int .i64 (a.v : Int), .int .i64 (a.n : Int)], .agg #[.int .i64 (b.t : Int), .int .i64 (b.v : Int), .int .i64 (b.n : Int)]] w fun r w' => r = .returned (.bool (ltC a b)) ∧ Bel w w' := by
  rw [← ltC_cmp]
  obtain ⟨t, v, n⟩ := a
  obtain ⟨t', v', n'⟩ := b
  simp only
  obtain ⟨x, hx⟩ : ∃ x, x = cmpN t t' := ⟨_, rfl⟩
  obtain ⟨y, hy⟩ : ∃ y, y = cmpN v v' := ⟨_, rfl⟩
  rw [← hx, ← hy]
  have HX := Lib.hid hx
  have HY := Lib.hid hy
  clear hx hy
  obtain ⟨w2, hw2⟩ : ∃ z, z = (w.alloc (.cells #[.int .i64 (t : Int), .int .i64 (v : Int), .int .i64 (n : Int)] 82)).alloc (.cells #[.int .i64 (t' : Int), .int .i64 (v' : Int), .int .i64 (n' : Int)] 82) := ⟨_, rfl⟩
  have HB := Lib.hid (show Bel w w2 by rw [hw2]; exact ((Bel.refl w).alloc _).alloc _)
  have HS := Lib.hid (show w.heap.size + 1 + 1 = w2.heap.size by rw [hw2]; simp)
  have HC := Lib.hid (show (w2.cell? ⟨w.heap.size, 0, none⟩ = some (.int .i64 (t : Int)) ∧ w2.cell? ⟨w.heap.size, 1, none⟩ = some (.int .i64 (v : Int))) ∧ w2.cell? ⟨w.heap.size + 1, 0, none⟩ = some (.int .i64 (t' : Int)) ∧ w2.cell? ⟨w.heap.size + 1, 1, none⟩ = some (.int .i64 (v' : Int)) by
    rw [hw2]
    refine ⟨⟨?_, ?_⟩, ?_, ?_⟩
    · exact cell_later ((Bel.refl _).alloc _) ((cell_at_new rfl).trans rfl)
    · exact cell_later ((Bel.refl _).alloc _) ((cell_at_new rfl).trans rfl)
    · exact (cell_at_new (by simp)).trans rfl
    · exact (cell_at_new (by simp)).trans rfl)
  have HD := Lib.hid (show ((w2.alloc (.cells #[.int .i64 x, .int .i64 y] 3)).cell? ⟨w.heap.size, 0, none⟩ = some (.int .i64 (t : Int)) ∧ (w2.alloc (.cells #[.int .i64 x, .int .i64 y] 3)).cell? ⟨w.heap.size, 1, none⟩ = some (.int .i64 (v : Int))) ∧ (w2.alloc (.cells #[.int .i64 x, .int .i64 y] 3)).cell? ⟨w.heap.size + 1, 0, none⟩ = some (.int .i64 (t' : Int)) ∧ (w2.alloc (.cells #[.int .i64 x, .int .i64 y] 3)).cell? ⟨w.heap.size + 1, 1, none⟩ = some (.int .i64 (v' : Int)) by
    have hb := (Bel.refl w2).alloc (.cells #[.int .i64 x, .int .i64 y] 3)
    obtain ⟨⟨c1, c2⟩, c3, c4⟩ := HC.out
    exact ⟨⟨cell_later hb c1, cell_later hb c2⟩, cell_later hb c3, cell_later hb c4⟩)
  go_enter Tryz.func165, Tryz.ntmps165
  go_wp2_with (fail)
  rw [← hw2]
  clear hw2
  refine wp_region_held_drew (S := fun z => (z.cell? ⟨w.heap.size, 0, none⟩ = some (.int .i64 (t : Int)) ∧ z.cell? ⟨w.heap.size, 1, none⟩ = some (.int .i64 (v : Int))) ∧ z.cell? ⟨w.heap.size + 1, 0, none⟩ = some (.int .i64 (t' : Int)) ∧ z.cell? ⟨w.heap.size + 1, 1, none⟩ = some (.int .i64 (v' : Int))) (by kernel_rfl) HC.out (fun hHeld => ?_)
  refine tk (oi := { dst := some 5, op := Op.fieldAddr 82 (Operand.tmp 2) 0, type := 0, pos := "memory.go:29", after := #[], guard := none }) (v := ?_) 0 rfl ?_ ?_
  rotate_left
  · (intro w hSw; (try dsimp only at hSw); first | (go_simp; done) | (go_simp; with_reducible rfl))
  try simp only [Act.put, List.setIfInBounds_toArray, List.set_cons_zero, List.set_cons_succ]
  refine tk (oi := { dst := some 6, op := Op.load 3 (Operand.tmp 5), type := 3, pos := "memory.go:29", after := #[{ on := 0, ground := Ground.data }], guard := none }) (v := ?_) 1 rfl ?_ ?_
  rotate_left
  · (intro w hSw; (try dsimp only at hSw); first | (go_simp; done) | (go_simp; with_reducible rfl))
  try simp only [Act.put, List.setIfInBounds_toArray, List.set_cons_zero, List.set_cons_succ]
  refine tk (oi := { dst := some 7, op := Op.fieldAddr 82 (Operand.tmp 3) 0, type := 0, pos := "memory.go:29", after := #[], guard := none }) (v := ?_) 2 rfl ?_ ?_
  rotate_left
  · (intro w hSw; (try dsimp only at hSw); first | (go_simp; done) | (go_simp; with_reducible rfl))
  try simp only [Act.put, List.setIfInBounds_toArray, List.set_cons_zero, List.set_cons_succ]
  refine tk (oi := { dst := some 8, op := Op.load 3 (Operand.tmp 7), type := 3, pos := "memory.go:29", after := #[{ on := 2, ground := Ground.data }], guard := none }) (v := ?_) 3 rfl ?_ ?_
  rotate_left
  · (intro w hSw; (try dsimp only at hSw); first | (go_simp; done) | (go_simp; with_reducible rfl))
  try simp only [Act.put, List.setIfInBounds_toArray, List.set_cons_zero, List.set_cons_succ]
  refine tk (oi := { dst := some 10, op := Op.fieldAddr 82 (Operand.tmp 2) 1, type := 0, pos := "memory.go:29", after := #[], guard := none }) (v := ?_) 5 rfl ?_ ?_
  rotate_left
  · (intro w hSw; (try dsimp only at hSw); first | (go_simp; done) | (go_simp; with_reducible rfl))
  try simp only [Act.put, List.setIfInBounds_toArray, List.set_cons_zero, List.set_cons_succ]
  refine tk (oi := { dst := some 11, op := Op.load 3 (Operand.tmp 10), type := 3, pos := "memory.go:29", after := #[{ on := 5, ground := Ground.data }], guard := none }) (v := ?_) 6 rfl ?_ ?_
  rotate_left
  · (intro w hSw; (try dsimp only at hSw); first | (go_simp; done) | (go_simp; with_reducible rfl))
  try simp only [Act.put, List.setIfInBounds_toArray, List.set_cons_zero, List.set_cons_succ]
  refine tk (oi := { dst := some 12, op := Op.fieldAddr 82 (Operand.tmp 3) 1, type := 0, pos := "memory.go:29", after := #[], guard := none }) (v := ?_) 7 rfl ?_ ?_
  rotate_left
  · (intro w hSw; (try dsimp only at hSw); first | (go_simp; done) | (go_simp; with_reducible rfl))
  try simp only [Act.put, List.setIfInBounds_toArray, List.set_cons_zero, List.set_cons_succ]
  refine tk (oi := { dst := some 13, op := Op.load 3 (Operand.tmp 12), type := 3, pos := "memory.go:29", after := #[{ on := 7, ground := Ground.data }], guard := none }) (v := ?_) 8 rfl ?_ ?_
  rotate_left
  · (intro w hSw; (try dsimp only at hSw); first | (go_simp; done) | (go_simp; with_reducible rfl))
  try simp only [Act.put, List.setIfInBounds_toArray, List.set_cons_zero, List.set_cons_succ]
  refine wpAnyH_ready (rs := [4]) (by kernel_rfl) (by simp) ?_
  refine AllReadyH.cons (o := { dst := some 9, op := Op.call { callee := Callee.value (Operand.func 95), args := #[Operand.tmp 6, Operand.tmp 8], argTypes := #[3, 3] }, type := 3, pos := "memory.go:29", after := #[{ on := 1, ground := Ground.data }, { on := 3, ground := Ground.data }], guard := none }) rfl (fun K hK => ?_) AllReadyH.nil
  go_simp
  refine (compare_any _ _ _).mono ?_
  rintro r w3 ⟨rfl, rfl⟩
  rw [← HX.out]
  dsimp only
  refine hK.out _ _ HC.out (fun hHeld => ?_)
  clear hK K
  try simp only [Act.put, List.setIfInBounds_toArray, List.set_cons_zero, List.set_cons_succ]
  refine wpAnyH_ready (rs := [9]) (by kernel_rfl) (by simp) ?_
  refine AllReadyH.cons (o := { dst := some 14, op := Op.call { callee := Callee.value (Operand.func 95), args := #[Operand.tmp 11, Operand.tmp 13], argTypes := #[3, 3] }, type := 3, pos := "memory.go:29", after := #[{ on := 6, ground := Ground.data }, { on := 8, ground := Ground.data }, { on := 4, ground := Ground.chain }], guard := none }) rfl (fun K hK => ?_) AllReadyH.nil
  go_simp
  refine (compare_any _ _ _).mono ?_
  rintro r w3 ⟨rfl, rfl⟩
  rw [← HY.out]
  dsimp only
  refine hK.out _ _ HC.out (fun hHeld => ?_)
  clear hK K
  try simp only [Act.put, List.setIfInBounds_toArray, List.set_cons_zero, List.set_cons_succ]
  refine wpAnyH_ready (rs := [10]) (by kernel_rfl) (by simp) ?_
  refine AllReadyH.cons (o := { dst := some 15, op := Op.buildSlice 179 2 #[(0, Operand.tmp 9), (1, Operand.tmp 14)], type := 179, pos := "memory.go:29", after := #[{ on := 4, ground := Ground.data }, { on := 9, ground := Ground.data }], guard := none }) rfl (fun K hK => ?_) AllReadyH.nil
  go_simp
  refine hK.out _ _ HD.out (fun hHeld => ?_)
  clear hK K
  try simp only [Act.put, List.setIfInBounds_toArray, List.set_cons_zero, List.set_cons_succ]
  refine wpAnyH_ready (rs := [11]) (by kernel_rfl) (by simp) ?_
  refine AllReadyH.cons (o := { dst := some 16, op := Op.call { callee := Callee.value (Operand.func 94), args := #[Operand.tmp 15], argTypes := #[179] }, type := 3, pos := "memory.go:29", after := #[{ on := 10, ground := Ground.data }, { on := 9, ground := Ground.chain }], guard := none }) rfl (fun K hK => ?_) AllReadyH.nil
  go_simp
  refine (or11_any _ x y _ ((cell_at_drew rfl).trans rfl) ((cell_at_drew rfl).trans rfl)).mono ?_
  rintro r w3 ⟨rfl, rfl⟩
  dsimp only
  refine hK.out _ _ HD.out (fun hHeld => ?_)
  clear hK K
  try simp only [Act.put, List.setIfInBounds_toArray, List.set_cons_zero, List.set_cons_succ]
  refine tk (oi := { dst := some 17, op := Op.binOp BinOp.lss 3 (Operand.tmp 16) (Operand.const (Value.int IntKind.i64 0)) 3, type := 4, pos := "memory.go:29", after := #[{ on := 11, ground := Ground.data }], guard := none }) (v := ?_) 12 rfl ?_ ?_
  rotate_left
  · (intro w hSw; (try dsimp only at hSw); first | (go_simp; done) | (go_simp; with_reducible rfl))
  try simp only [Act.put, List.setIfInBounds_toArray, List.set_cons_zero, List.set_cons_succ]
  refine tk (oi := { dst := some 4, op := Op.assign (Operand.tmp 17), type := 4, pos := "memory.go:29", after := #[{ on := 12, ground := Ground.data }, { on := 11, ground := Ground.chain }, { on := 0, ground := Ground.phase }, { on := 1, ground := Ground.phase }, { on := 2, ground := Ground.phase }, { on := 3, ground := Ground.phase }, { on := 4, ground := Ground.phase }, { on := 5, ground := Ground.phase }, { on := 6, ground := Ground.phase }, { on := 7, ground := Ground.phase }, { on := 8, ground := Ground.phase }, { on := 9, ground := Ground.phase }, { on := 10, ground := Ground.phase }, { on := 11, ground := Ground.phase }, { on := 12, ground := Ground.phase }], guard := none }) (v := ?_) 13 rfl ?_ ?_
  rotate_left
  · (intro w hSw; (try dsimp only at hSw); first | (go_simp; done) | (go_simp; with_reducible rfl))
  try simp only [Act.put, List.setIfInBounds_toArray, List.set_cons_zero, List.set_cons_succ]
  refine wpAnyH_done (by kernel_rfl) ?_ _
  go_wp2_with (fail)
  go_ret
  exact ⟨rfl, (HB.out.alloc _).drew⟩
end Go.Proofs.YteimllgoelleeaaGreatDoor
/- A tree of entrys: a node's calls that write: a child goes up; a node goes in. -/
namespace Go.Proofs.YteimllgoelleeaaGreatDoor
open Go.RowKit Go.Deep

def NE : NL EB := ⟨fun x v p q => #[.string x.k, .int .i64 x.q, .bool x.d, .string x.v, .int .i64 v, .pointer p, .pointer q], 103, 4, fun _ _ _ _ _ => rfl, fun _ _ _ _ _ => rfl, fun _ _ _ _ _ => rfl⟩
section
variable {w : World} {b : Nat} {x : EB} {v : Int} {p q : Option Addr}
theorem cellE (h : w.heap[b]? = some (.cells (NE.nd x v p q) NE.T (0, 0))) : (w.cell? ⟨b, 0, none⟩ = some (.string x.k) ∧ w.cell? ⟨b, 1, none⟩ = some (.int .i64 x.q) ∧ w.cell? ⟨b, 2, none⟩ = some (.bool x.d) ∧ w.cell? ⟨b, 3, none⟩ = some (.string x.v)) ∧ w.cell? ⟨b, 4, none⟩ = some (.int .i64 v) ∧ w.cell? ⟨b, 5, none⟩ = some (.pointer p) ∧ w.cell? ⟨b, 6, none⟩ = some (.pointer q) :=
  ⟨⟨tblk_cell h _, tblk_cell h _, tblk_cell h _, tblk_cell h _⟩, tblk_cell h _, tblk_cell h _, tblk_cell h _⟩
end
set_option maxHeartbeats 2000000 in
theorem leanedE_any (b : Nat) (x : EB) (v : Int) (l r : TT EB) (w : World) (h : TAt NE w (.node b x v l r)) (hn : (TT.node b x v l r).bs.Nodup) :
    Calls Tryz.prog 69 #[.pointer (some ⟨b, 0, none⟩)] w fun e w' => ∃ b' x' v' l' r', e = .returned (.pointer (some ⟨b', 0, none⟩)) ∧ TAt NE w' (.node b' x' v' l' r') ∧ (TT.node b' x' v' l' r').nodes = (TT.node b x v l r).nodes ∧ Keep (TT.node b x v l r).bs w w' := by
  cases l with
  | nil =>
    have HH := Lib.hid h
    obtain ⟨-, c4, c5, c6⟩ := cellE h.1
    clear h
    simp only [TT.ptr] at c5
    go_enter Tryz.func69, Tryz.ntmps69
    go_wp2_with (fail)
    go_quiet (fail)
    go_wp2_with (fail)
    go_ret
    exact ⟨b, x, v, .nil, r, rfl, HH.out.bel ((Bel.refl w).drewN nq), rfl, (Keep.refl _ w).drewN nq⟩
  | node c y u ll lr =>
    have HH := Lib.hid h
    have HN := Lib.hid hn
    obtain ⟨-, c4, c5, c6⟩ := cellE h.1
    obtain ⟨-, d4, d5, d6⟩ := cellE h.2.1.1
    have fb := tblk_frozen h.1 5
    have fc := tblk_frozen h.2.1.1 6
    have hbc : ¬ c = b := fun e => by
      rw [TT.bs_node, TT.bs_node, List.append_assoc, List.cons_append, List.nodup_append] at hn
      exact (List.nodup_cons.1 hn.2.1).1 (by simp [e])
    clear h hn
    simp only [TT.ptr] at c5
    by_cases hv : u < v
    · have hd : decide (u < v) = true := decide_eq_true hv
      clear fb fc
      go_enter Tryz.func69, Tryz.ntmps69
      go_wp2_with (fail)
      go_quiet (fail)
      go_wp2_with (fail)
      go_ret
      exact ⟨b, x, v, .node c y u ll lr, r, rfl, HH.out.bel ((Bel.refl w).drewN nq), rfl, (Keep.refl _ w).drewN nq⟩
    · have hd : decide (u < v) = false := decide_eq_false hv
      go_enter Tryz.func69, Tryz.ntmps69
      go_wp2_with (fail)
      go_quiet (fail)
      go_wp2_with (fail)
      go_ret
      obtain ⟨q1, q2⟩ := HH.out.lean_right HN.out ((Bel.refl w).drewN nq)
      exact ⟨c, y, u, ll, .node b x v lr r, rfl, q1, by simp [TT.nodes], q2⟩
set_option maxHeartbeats 2000000 in
theorem liftedE_any (b : Nat) (x : EB) (v : Int) (l r : TT EB) (w : World) (h : TAt NE w (.node b x v l r)) (hn : (TT.node b x v l r).bs.Nodup) :
    Calls Tryz.prog 70 #[.pointer (some ⟨b, 0, none⟩)] w fun e w' => ∃ b' x' v' l' r', e = .returned (.pointer (some ⟨b', 0, none⟩)) ∧ TAt NE w' (.node b' x' v' l' r') ∧ (TT.node b' x' v' l' r').nodes = (TT.node b x v l r).nodes ∧ Keep (TT.node b x v l r).bs w w' := by
  cases r with
  | nil =>
    have HH := Lib.hid h
    obtain ⟨-, c4, c5, c6⟩ := cellE h.1
    clear h
    simp only [TT.ptr] at c6
    go_enter Tryz.func70, Tryz.ntmps70
    go_wp2_with (fail)
    go_quiet (fail)
    go_wp2_with (fail)
    go_ret
    exact ⟨b, x, v, l, .nil, rfl, HH.out.bel ((Bel.refl w).drewN nq), rfl, (Keep.refl _ w).drewN nq⟩
  | node c y u rl rr =>
    have HH := Lib.hid h
    have HN := Lib.hid hn
    obtain ⟨-, c4, c5, c6⟩ := cellE h.1
    obtain ⟨-, d4, d5, d6⟩ := cellE h.2.2.1
    have fb := tblk_frozen h.1 6
    have fc := tblk_frozen h.2.2.1 5
    have fd := tblk_frozen h.2.2.1 4
    have hbc : ¬ c = b := fun e => by
      rw [TT.bs_node, TT.bs_node, List.nodup_append] at hn
      exact (List.nodup_cons.1 hn.2.1).1 (by simp [e])
    simp only [TT.ptr] at c6
    cases rr with
    | nil =>
      clear h hn fb fc fd
      simp only [TT.ptr] at d6
      go_enter Tryz.func70, Tryz.ntmps70
      go_wp2_with (fail)
      go_quiet (fail)
      go_wp2_with (fail)
      go_ret
      exact ⟨b, x, v, l, .node c y u rl .nil, rfl, HH.out.bel ((Bel.refl w).drewN nq), rfl, (Keep.refl _ w).drewN nq⟩
    | node g z t gl gr =>
      obtain ⟨-, e4, -, -⟩ := cellE h.2.2.2.2.1
      clear h hn
      simp only [TT.ptr] at d6
      by_cases hv : t < v
      · have hd : decide (t < v) = true := decide_eq_true hv
        clear fb fc fd
        go_enter Tryz.func70, Tryz.ntmps70
        go_wp2_with (fail)
        go_quiet (fail)
        go_wp2_with (fail)
        go_ret
        exact ⟨b, x, v, l, .node c y u rl (.node g z t gl gr), rfl, HH.out.bel ((Bel.refl w).drewN nq), rfl, (Keep.refl _ w).drewN nq⟩
      · have hd : decide (t < v) = false := decide_eq_false hv
        go_enter Tryz.func70, Tryz.ntmps70
        go_wp2_with (fail)
        go_quiet (fail)
        go_wp2_with (fail)
        go_ret
        obtain ⟨q1, q2⟩ := HH.out.lift_left _ HN.out ((Bel.refl w).drewN nq)
        exact ⟨c, y, _, .node b x v l rl, .node g z t gl gr, rfl, q1, by simp [TT.nodes], q2⟩
end Go.Proofs.YteimllgoelleeaaGreatDoor
/- A tree of entrys: a node goes in below another one, and into the tree. -/
set_option maxRecDepth 100000
namespace Go.Proofs.YteimllgoelleeaaGreatDoor
open Go.RowKit Go.Deep

theorem methE (v : Value) (w : World) : Sem.run Tryz.prog (method 338 55 v "moult/memory.less") w = .ok (163, v) w := by kernel_rfl
set_option maxHeartbeats 4000000 in
theorem withE_any (e : EB) (fb : Nat) (fv : Int) (t : TT EB) : ∀ (w : World), TAt NE w t → t.bs.Nodup → fb ∉ t.bs → w.heap[fb]? = some (.cells (NE.nd e fv none none) NE.T (0, 0)) → t.nodes.Pairwise (fun p q => lessB p.2 q.2 = true) →
    Calls Tryz.prog 42 #[.pointer t.ptr, .pointer (some ⟨fb, 0, none⟩)] w fun r w' => ∃ t' g, r = .returned (.tuple #[.pointer t'.ptr, .pointer (some ⟨g, 0, none⟩)]) ∧ Wound NE lessB e fb t t' g w w' := by
  induction t with
  | nil =>
    intro w h hn hf hfb hp
    have HF := Lib.hid hfb
    clear h hn hf hfb hp
    show Calls _ _ #[.pointer none, _] _ _
    go_enter Tryz.func42, Tryz.ntmps42
    go_wp2_with (fail)
    go_ret2
    exact ⟨.node fb e fv .nil .nil, fb, rfl, ⟨HF.out, trivial, trivial⟩, by simp [TT.bs, TT.nodes], Put.nil, Keep.refl _ _, by simp [TT.bs, TT.nodes], ⟨_, _, HF.out⟩⟩
  | node b x v l r ihl ihr =>
    intro w h hn hf hfb hp
    obtain ⟨⟨c0, c1, c2, c3⟩, c4, c5, c6⟩ := cellE h.1
    obtain ⟨⟨d0, d1, d2, d3⟩, -, -, -⟩ := cellE hfb
    have IL := Lib.hid (fun w1 (hB : Bel w w1) => ihl w1 (h.2.1.bel hB) (TT.parts hn).1 (TT.notin hf).1 ((Keep.of_bel hB []).at hfb (by simp)) (TT.order hp).1)
    have IR := Lib.hid (fun w1 (hB : Bel w w1) => ihr w1 (h.2.2.bel hB) (TT.parts hn).2.2.2.1 (TT.notin hf).2.2 ((Keep.of_bel hB []).at hfb (by simp)) (TT.order hp).2.1)
    have WL := Lib.hid (fun (hlt : lessB e x = true) {g : Nat} {l' : TT EB} {w1 w2 : World} (hB : Bel w w1) (hW : Wound NE lessB e fb l l' g w1 w2) => wound_left (E := NE) (lt := lessB) (x := x) (e := e) (fun _ _ _ => lessB_trans) h hn hf hp hlt hB hW.1 hW.2.2.1 hW.2.2.2.1 hW.2.2.2.2.2)
    have WR := Lib.hid (fun (hlt : lessB x e = true) {g : Nat} {r' : TT EB} {w1 w2 : World} (hB : Bel w w1) (hW : Wound NE lessB e fb r r' g w1 w2) => wound_right (E := NE) (lt := lessB) (x := x) (e := e) (fun _ _ _ => lessB_trans) h hn hf hp hlt hB hW.1 hW.2.2.1 hW.2.2.2.1 hW.2.2.2.2.2)
    have WH := Lib.hid (fun (h1 : lessB x e = false) (h2 : lessB e x = false) {w1 : World} (hB : Bel w w1) => (wound_here (E := NE) (lt := lessB) (x := x) (e := e) (fb := fb) h hn h1 h2 hB ⟨_, _, (Keep.of_bel hB []).at hfb (by simp)⟩))
    have FL := Lib.hid (fun (w1 w2 : World) (hB : Bel w w1) (hK : Keep (fb :: l.bs) w1 w2) => (show w2.cell? ⟨b, 5, none⟩ = some (.pointer l.ptr) ∧ w2.frozen? ⟨b, 5, none⟩ = false from by
      have hx := hK.at ((Keep.of_bel hB []).at h.1 (by simp)) (fun hm => by rcases List.mem_cons.1 hm with hh | hh; exact (TT.notin hf).2.1 hh; exact (TT.parts hn).2.1 hh)
      exact ⟨tblk_cell hx _, tblk_frozen hx _⟩))
    have FR := Lib.hid (fun (w1 w2 : World) (hB : Bel w w1) (hK : Keep (fb :: r.bs) w1 w2) => (show w2.cell? ⟨b, 6, none⟩ = some (.pointer r.ptr) ∧ w2.frozen? ⟨b, 6, none⟩ = false from by
      have hx := hK.at ((Keep.of_bel hB []).at h.1 (by simp)) (fun hm => by rcases List.mem_cons.1 hm with hh | hh; exact (TT.notin hf).2.1 hh; exact (TT.parts hn).2.2.1 hh)
      exact ⟨tblk_cell hx _, tblk_frozen hx _⟩))
    show Calls _ _ #[.pointer (some ⟨b, 0, none⟩), _] _ _
    clear h hn hf hfb hp ihl ihr
    have hm := fun v w => methE v w
    cases hlt : lessB e x with
    | true =>
      go_enter Tryz.func42, Tryz.ntmps42
      go_wp2_with (fail)
      go_region_with (go_at_call 163; refine (eless_any e x _).mono ?_; rw [hlt]; rintro r1 w1 ⟨rfl, hb⟩)
      all_goals
        have HB := Lib.hid ((Bel.refl w).drew.trans hb)
        have b5 := cell_later HB.out c5
        clear c0 c1 c2 c3 c4 c5 c6 d0 d1 d2 d3 hm hb
        go_wp2_with (fail)
        refine (IL.out w1 HB.out).mono ?_
        rintro r2 w2 ⟨l', g, rfl, hW⟩
        obtain ⟨z5, zf⟩ := FL.out _ _ HB.out hW.2.2.2.1
        have HW := Lib.hid (WL.out hlt HB.out hW)
        clear hW b5
        go_wp2_with (fail)
        refine (leanedE_any b x v l' r _ HW.out.1 HW.out.2.1).mono ?_
        rintro r3 w3 ⟨b3, x3, v3, l3, r3, rfl, hT3, hN3, hK3⟩
        have HW3 := Lib.hid (HW.out.turn hT3 hN3 hK3)
        clear hT3 hN3 hK3 z5 zf HW
        go_wp2_with (fail)
        refine (liftedE_any b3 x3 v3 l3 r3 _ HW3.out.1 HW3.out.2.1).mono ?_
        rintro r4 w4 ⟨b4, x4, v4, l4, r4, rfl, hT4, hN4, hK4⟩
        have HW4 := Lib.hid (HW3.out.turn hT4 hN4 hK4)
        clear hT4 hN4 hK4 HW3
        go_wp2_with (fail)
        go_ret2
        exact ⟨.node b4 x4 v4 l4 r4, g, rfl, HW4.out⟩
    | false =>
      cases hgt : lessB x e with
      | true =>
        go_enter Tryz.func42, Tryz.ntmps42
        go_wp2_with (fail)
        go_region_with (go_at_call 163; refine (eless_any e x _).mono ?_; rw [hlt]; rintro r1 w1 ⟨rfl, hb⟩)
        all_goals
          have HB := Lib.hid ((Bel.refl w).drew.trans hb)
          have hb0 := HB.out
          have a0 := cell_later hb0 c0
          have b0 := cell_later hb0 d0
          have a1 := cell_later hb0 c1
          have b1 := cell_later hb0 d1
          have a2 := cell_later hb0 c2
          have b2 := cell_later hb0 d2
          have a3 := cell_later hb0 c3
          have b3 := cell_later hb0 d3
          have a6 := cell_later hb0 c6
          clear c0 c1 c2 c3 c4 c5 c6 d0 d1 d2 d3 hb hb0
          go_wp2_with (fail)
          go_region_with (go_at_call 163; refine (eless_any x e _).mono ?_; rw [hgt]; rintro r2 w2 ⟨rfl, hb⟩)
        all_goals
          replace HB := Lib.hid (HB.out.trans ((Bel.refl _).drew.trans hb))
          have b6 := cell_later ((Bel.refl _).drew.trans hb) a6
          clear a0 a1 a2 a3 a6 b0 b1 b2 b3 hm hb
          go_wp2_with (fail)
          refine (IR.out w2 HB.out).mono ?_
          rintro r3 w3 ⟨r', g, rfl, hW⟩
          obtain ⟨z6, zf⟩ := FR.out _ _ HB.out hW.2.2.2.1
          have HW := Lib.hid (WR.out hgt HB.out hW)
          clear hW b6
          go_wp2_with (fail)
          refine (leanedE_any b x v l r' _ HW.out.1 HW.out.2.1).mono ?_
          rintro r3 w3 ⟨b3, x3, v3, l3, r3, rfl, hT3, hN3, hK3⟩
          have HW3 := Lib.hid (HW.out.turn hT3 hN3 hK3)
          clear hT3 hN3 hK3 z6 zf HW
          go_wp2_with (fail)
          refine (liftedE_any b3 x3 v3 l3 r3 _ HW3.out.1 HW3.out.2.1).mono ?_
          rintro r4 w4 ⟨b4, x4, v4, l4, r4, rfl, hT4, hN4, hK4⟩
          have HW4 := Lib.hid (HW3.out.turn hT4 hN4 hK4)
          clear hT4 hN4 hK4 HW3
          go_wp2_with (fail)
          go_ret2
          exact ⟨.node b4 x4 v4 l4 r4, g, rfl, HW4.out⟩
      | false =>
        go_enter Tryz.func42, Tryz.ntmps42
        go_wp2_with (fail)
        go_region_with (go_at_call 163; refine (eless_any e x _).mono ?_; rw [hlt]; rintro r1 w1 ⟨rfl, hb⟩)
        all_goals
          have HB := Lib.hid ((Bel.refl w).drew.trans hb)
          have hb0 := HB.out
          have a0 := cell_later hb0 c0
          have b0 := cell_later hb0 d0
          have a1 := cell_later hb0 c1
          have b1 := cell_later hb0 d1
          have a2 := cell_later hb0 c2
          have b2 := cell_later hb0 d2
          have a3 := cell_later hb0 c3
          have b3 := cell_later hb0 d3
          clear c0 c1 c2 c3 c4 c5 c6 d0 d1 d2 d3 hb hb0
          go_wp2_with (fail)
          go_region_with (go_at_call 163; refine (eless_any x e _).mono ?_; rw [hgt]; rintro r2 w2 ⟨rfl, hb⟩)
        all_goals
          replace HB := Lib.hid (HB.out.trans ((Bel.refl _).drew.trans hb))
          have HW := Lib.hid (WH.out hgt hlt HB.out)
          clear a0 a1 a2 a3 b0 b1 b2 b3 hm hb
          go_wp2_with (fail)
          refine (leanedE_any b x v l r _ HW.out.1 HW.out.2.1).mono ?_
          rintro r3 w3 ⟨b3, x3, v3, l3, r3, rfl, hT3, hN3, hK3⟩
          have HW3 := Lib.hid (HW.out.turn hT3 hN3 hK3)
          clear hT3 hN3 hK3 HW
          go_wp2_with (fail)
          refine (liftedE_any b3 x3 v3 l3 r3 _ HW3.out.1 HW3.out.2.1).mono ?_
          rintro r4 w4 ⟨b4, x4, v4, l4, r4, rfl, hT4, hN4, hK4⟩
          have HW4 := Lib.hid (HW3.out.turn hT4 hN4 hK4)
          clear hT4 hN4 hK4 HW3
          go_wp2_with (fail)
          go_ret2
          exact ⟨.node b4 x4 v4 l4 r4, b, rfl, HW4.out⟩
end Go.Proofs.YteimllgoelleeaaGreatDoor
/- A tree of entrys: put. -/
set_option maxRecDepth 100000
namespace Go.Proofs.YteimllgoelleeaaGreatDoor
open Go.RowKit Go.Deep

theorem neq_sameE (a : Addr) (w : World) : Sem.run Tryz.prog (binOp BinOp.neq 46 (.pointer (some a)) (.pointer (some a))) w = .ok (.bool false) w := by
  obtain ⟨j, hj⟩ : ∃ j, Tryz.prog.info? 103 = some j := Option.isSome_iff_exists.1 (by kernel_rfl)
  have hp : Tryz.prog.underlying 46 = some (.pointer 103) := by kernel_rfl
  have h : ∀ d : Nat, (Op.equalIn (d + 1) 46 (.pointer (some a)) (.pointer (some a))).run Tryz.prog w = .ok true w := fun d => by
    simp [Op.equalIn, run_underlying hp, sizeOf, typeInfo, hj, run_sameAddr_same]
  simp only [binOp]
  simp [Op.equal, Op.maxDepth, h 9999]
theorem neq_otherE {a b : Addr} {w : World} (hne : a ≠ b) (ha : Cel w a.block) (hb : Cel w b.block) : Sem.run Tryz.prog (binOp BinOp.neq 46 (.pointer (some a)) (.pointer (some b))) w = .ok (.bool true) w := by
  obtain ⟨ca, ta, ha⟩ := ha
  obtain ⟨cb, tb, hb⟩ := hb
  have hi : (Tryz.prog.info? 103).map (fun i => i.size) = some 7 := by kernel_rfl
  obtain ⟨j, hj, hsz⟩ := Option.map_eq_some_iff.1 hi
  have hp : Tryz.prog.underlying 46 = some (.pointer 103) := by kernel_rfl
  have h : ∀ d : Nat, (Op.equalIn (d + 1) 46 (.pointer (some a)) (.pointer (some b))).run Tryz.prog w = .ok false w := fun d => by
    simp [Op.equalIn, run_underlying hp, sizeOf, typeInfo, hj, hsz, run_sameAddr_other w hne ha hb]
  simp only [binOp]
  simp [Op.equal, Op.maxDepth, h 9999]
def PutToE (lt : EB → EB → Bool) (t t' : TT EB) (e : EB) (g : Nat) (nw : Bool) (w : World) : Prop :=
  (nw = true ∧ w.heap.size ≤ g ∧ ∃ l r, t.nodes = l ++ r ∧ t'.nodes = l ++ (g, e) :: r ∧ (∀ p ∈ l, lt p.2 e = true) ∧ (∀ p ∈ r, lt e p.2 = true)) ∨
  (nw = false ∧ t'.nodes = t.nodes ∧ ∃ x, (g, x) ∈ t.nodes ∧ lt x e = false ∧ lt e x = false)
def MBE (t : TT EB) (n : Int) (s : Value) : Array Value := #[.pointer t.ptr, .int .i64 n, s]
set_option maxHeartbeats 4000000 in
theorem putE_any (e : EB) (t : TT EB) (n : Int) (s : Value) (b : Nat) (w : World) (h : w.heap[b]? = some (.cells (MBE t n s) 50 (0, 0))) (hT : TAt NE w t) (hn : t.bs.Nodup) (hb : b ∉ t.bs) (hp : t.nodes.Pairwise (fun p q => lessB p.2 q.2 = true)) (h0 : 0 ≤ n) (h1 : n ≤ 1000000) :
    Calls Tryz.prog 22 #[.pointer (some ⟨b, 0, none⟩), .agg #[.string e.k, .int .i64 e.q, .bool e.d, .string e.v]] w fun r w' => ∃ t' g nw, r = .returned (.tuple #[.pointer (some ⟨g, 0, none⟩), .bool nw]) ∧
      w'.heap[b]? = some (.cells (MBE t' (if nw then n + 1 else n) s) 50 (0, 0)) ∧ TAt NE w' t' ∧ t'.bs.Nodup ∧ PutToE lessB t t' e g nw w ∧ Keep (b :: t.bs) w w' ∧ ∀ k ∈ t'.bs, k ∈ t.bs ∨ w.heap.size ≤ k := by
  have hlt := (Array.getElem?_eq_some_iff.1 h).1
  have hltT := hT.lt
  obtain ⟨w2, hw2⟩ : ∃ z, z = (w.alloc (.cells #[.string e.k, .int .i64 e.q, .bool e.d, .string e.v] 55)).alloc (.cells #[.string e.k, .int .i64 e.q, .bool e.d, .string e.v, .int .i64 1, .pointer none, .pointer none] 103) := ⟨_, rfl⟩
  have hB : Bel w w2 := by rw [hw2]; exact ((Bel.refl w).alloc _).alloc _
  have hsz : w2.heap.size = w.heap.size + 1 + 1 := by rw [hw2]; simp
  have hfb : w2.heap[w.heap.size + 1]? = some (.cells (NE.nd e 1 none none) NE.T (0, 0)) := by
    rw [hw2]
    have := tnew (w.alloc (.cells #[.string e.k, .int .i64 e.q, .bool e.d, .string e.v] 55)) (.cells #[.string e.k, .int .i64 e.q, .bool e.d, .string e.v, .int .i64 1, .pointer none, .pointer none] 103)
    rw [World.size_alloc] at this
    exact this
  have hnf : w.heap.size + 1 ∉ t.bs := fun hm => by have := hltT _ hm; omega
  have C0 := Lib.hid (withE_any e (w.heap.size + 1) 1 t w2 (hT.bel hB) hn hnf hfb hp)
  have hb2 := (Keep.of_bel hB []).at h (by simp)
  have c0 : w2.cell? ⟨b, 0, none⟩ = some (.pointer t.ptr) := (tblk_cell hb2 0).trans rfl
  rw [hw2] at c0
  have HB := Lib.hid hB
  have HN := Lib.hid hnf
  have HS := Lib.hid hsz
  have HX := Lib.hid hb
  have HL := Lib.hid hlt
  have HK := Lib.hid (fun (g : Nat) (t' : TT EB) (w3 : World) (hW : Wound NE lessB e (w.heap.size + 1) t t' g w2 w3) => (show w3.heap[b]? = some (.cells (MBE t n s) 50 (0, 0)) from
    hW.2.2.2.1.at hb2 (fun hm => by rcases List.mem_cons.1 hm with hh | hh; omega; exact hb hh)))
  clear hb2 hb hnf hB hfb hltT hlt hp hn hT h
  go_enter Tryz.func22, Tryz.ntmps22
  go_wp2_with (fail)
  rw [← hw2]
  clear hw2 c0
  refine C0.out.mono ?_
  rintro r w3 ⟨t', g, rfl, hW⟩
  have hx := HK.out _ _ _ hW
  have z0 : w3.cell? ⟨b, 0, none⟩ = some (.pointer t.ptr) := (tblk_cell hx 0).trans rfl
  have z1 : w3.cell? ⟨b, 1, none⟩ = some (.int .i64 n) := (tblk_cell hx 1).trans rfl
  have f0 := tblk_frozen hx 0
  have f1 := tblk_frozen hx 1
  have HW := Lib.hid hW
  have HH := Lib.hid hx
  clear hW hx HK C0
  by_cases hg : g = w.heap.size + 1
  · subst hg
    have hq := neq_sameE ⟨w.heap.size + 1, 0, none⟩ (w3.setCell ⟨b, 0, none⟩ (.pointer t'.ptr))
    go_wp2_with (fail)
    go_ret2
    obtain ⟨a1, a2, a3, a4, a5, a6⟩ := HW.out
    have hK2 : Keep [b] w3 ((w3.setCell ⟨b, 0, none⟩ (.pointer t'.ptr)).setCell ⟨b, 1, none⟩ (.int .i64 (n + 1))) :=
      ((Keep.refl _ w3).setCell (p := ⟨b, 0, none⟩) (Or.inl (by simp)) _).setCell (p := ⟨b, 1, none⟩) (Or.inl (by simp)) _
    have hbt : ∀ k ∈ t'.bs, k ∉ [b] := fun k hk hh => by
      rw [List.mem_singleton] at hh; subst hh
      rcases List.mem_cons.1 (a5 k hk) with h | h
      · have := HL.out; omega
      · exact HX.out h
    have hlt2 : w.heap.size ≤ w.heap.size + 1 := by omega
    refine ⟨t', w.heap.size + 1, true, rfl, tblk_set (tblk_set HH.out 0 _) 1 _, a1.keep hK2 hbt, a2, .inl ⟨rfl, hlt2, a3.new HN.out⟩, ?_, fun k hk => ?_⟩
    · exact ((Keep.of_bel HB.out _).trans ((a4.mono (G := b :: (w.heap.size + 1) :: t.bs) (fun k hk => List.mem_cons_of_mem _ hk)).trans (G := [b]) (hK2) (fun k hk => Or.inl (by simp at hk; simp [hk]))) (fun k hk => by
        rcases List.mem_cons.1 hk with h | h
        · exact .inl (by simp [h])
        · rcases List.mem_cons.1 h with h | h
          · right; omega
          · exact .inl (by simp [h])))
    · rcases List.mem_cons.1 (a5 k hk) with h | h
      · right; omega
      · exact .inl h
  · have hC := HW.out.2.2.2.2.2
    have hbf : ¬ w.heap.size + 1 = b := by have := HL.out; omega
    have hg1 : g ∈ t'.bs := HW.out.2.2.1.in
    have hgb : ¬ g = b := fun e => by
      subst e
      rcases List.mem_cons.1 (HW.out.2.2.2.2.1 g hg1) with h | h
      · exact hg h
      · exact HX.out h
    have hq := neq_otherE (a := ⟨g, 0, none⟩) (b := ⟨w.heap.size + 1, 0, none⟩) (w := w3.setCell ⟨b, 0, none⟩ (.pointer t'.ptr)) (fun e => hg (by injection e)) ((HW.out.1.cel hg1).keep (tkeep_set w3 b 0 _) (not_one hgb)) (hC.keep (tkeep_set w3 b 0 _) (not_one hbf))
    clear hC hbf hg1 hgb
    go_wp2_with (fail)
    go_ret2
    obtain ⟨a1, a2, a3, a4, a5, a6⟩ := HW.out
    have hK2 : Keep [b] w3 (w3.setCell ⟨b, 0, none⟩ (.pointer t'.ptr)) := tkeep_set w3 b 0 _
    have hbt : ∀ k ∈ t'.bs, k ∉ [b] := fun k hk hh => by
      rw [List.mem_singleton] at hh; subst hh
      rcases List.mem_cons.1 (a5 k hk) with h | h
      · have := HL.out; omega
      · exact HX.out h
    refine ⟨t', g, false, rfl, tblk_set HH.out 0 _, a1.keep hK2 hbt, a2, .inr ⟨rfl, a3.old HN.out hg⟩, ?_, fun k hk => ?_⟩
    · exact ((Keep.of_bel HB.out _).trans ((a4.mono (G := b :: (w.heap.size + 1) :: t.bs) (fun k hk => List.mem_cons_of_mem _ hk)).trans (G := [b]) (hK2) (fun k hk => Or.inl (by simp at hk; simp [hk]))) (fun k hk => by
        rcases List.mem_cons.1 hk with h | h
        · exact .inl (by simp [h])
        · rcases List.mem_cons.1 h with h | h
          · right; omega
          · exact .inl (by simp [h])))
    · rcases List.mem_cons.1 (a5 k hk) with h | h
      · right; omega
      · exact .inl h
end Go.Proofs.YteimllgoelleeaaGreatDoor
/- The least entry of a tree that is not less than a given one: first, over each with a function that stops at once. -/
set_option maxRecDepth 100000
namespace Go.Proofs.YteimllgoelleeaaGreatDoor
open Go.RowKit Go.Deep

def geE (c : EB) (t : TT EB) : List (Nat × EB) := t.nodes.filter (fun p => !lessB p.2 c)
def cellsE (x : EB) : Array Value := #[.string x.k, .int .i64 x.q, .bool x.d, .string x.v]
def FirstW (p : Option (Nat × EB)) (B4 B5 : Nat) (w w' : World) : Prop :=
  match p with
  | none => Bel w w'
  | some p => w'.heap[B4]? = some (.cells (cellsE p.2) 55 (0, 0)) ∧ w'.heap[B5]? = some (.cells #[.bool true] 4 (0, 0)) ∧ Keep [B4, B5] w w'
def FirstTo (c : EB) (t : TT EB) (B4 B5 : Nat) (w : World) (r : Ending) (w' : World) : Prop := r = .returned (.bool (geE c t).head?.isNone) ∧ FirstW (geE c t).head? B4 B5 w w'
theorem FirstW.from {p : Option (Nat × EB)} {B4 B5 : Nat} {w w1 w' : World} (hB : Bel w w1) (h : FirstW p B4 B5 w1 w') : FirstW p B4 B5 w w' := by
  cases p with
  | none => exact hB.trans h
  | some p => exact ⟨h.1, h.2.1, (Keep.of_bel hB _).trans h.2.2 (fun k hk => Or.inl hk)⟩
set_option maxHeartbeats 1000000 in
theorem first1_any11 (x y : EB) (o : Bool) (B4 B5 : Nat) (w : World) (h4 : w.heap[B4]? = some (.cells (cellsE y) 55 (0, 0))) (h5 : w.heap[B5]? = some (.cells #[.bool o] 4 (0, 0))) (hn : ¬ B4 = B5) :
    Calls Tryz.prog 63 #[.agg #[.string x.k, .int .i64 x.q, .bool x.d, .string x.v], .pointer (some ⟨B4, 0, none⟩), .pointer (some ⟨B5, 0, none⟩)] w fun r w' => r = .returned (.bool false) ∧ w'.heap[B4]? = some (.cells (cellsE x) 55 (0, 0)) ∧ w'.heap[B5]? = some (.cells #[.bool true] 4 (0, 0)) ∧ Keep [B4, B5] w w' := by
  have hB := (Bel.refl w).alloc (.cells #[.string x.k, .int .i64 x.q, .bool x.d, .string x.v] 55)
  have hs : w.heap.size ≤ (w.alloc (.cells #[.string x.k, .int .i64 x.q, .bool x.d, .string x.v] 55)).heap.size := hB.size
  obtain ⟨w1, hw1⟩ : ∃ z, z = w.alloc (.cells #[.string x.k, .int .i64 x.q, .bool x.d, .string x.v] 55) := ⟨_, rfl⟩
  rw [← hw1] at hB
  have k4 := (Keep.of_bel hB []).at h4 (by simp)
  have k5 := (Keep.of_bel hB []).at h5 (by simp)
  have c0 : w1.cell? ⟨B4, 0, none⟩ = some (.string y.k) := (tblk_cell k4 0).trans rfl
  have c1 : w1.cell? ⟨B4, 1, none⟩ = some (.int .i64 y.q) := (tblk_cell k4 1).trans rfl
  have c2 : w1.cell? ⟨B4, 2, none⟩ = some (.bool y.d) := (tblk_cell k4 2).trans rfl
  have c3 : w1.cell? ⟨B4, 3, none⟩ = some (.string y.v) := (tblk_cell k4 3).trans rfl
  have d0 : w1.cell? ⟨B5, 0, none⟩ = some (.bool o) := (tblk_cell k5 0).trans rfl
  have f0 := tblk_frozen k4 0
  have f1 := tblk_frozen k4 1
  have f2 := tblk_frozen k4 2
  have f3 := tblk_frozen k4 3
  have g0 := tblk_frozen k5 0

  have H4 := Lib.hid k4; have H5 := Lib.hid k5
  have HB := Lib.hid hB
  rw [hw1] at c0 c1 c2 c3 d0 f0 f1 f2 f3 g0
  clear h4 h5 k4 k5 hB hs
  go_enter Tryz.func63, Tryz.ntmps63
  go_wp2_with (fail)
  rw [← hw1]
  go_ret
  have hK : Keep [B4] w1 ((((w1.setCell ⟨B4, 0, none⟩ (.string x.k)).setCell ⟨B4, 1, none⟩ (.int .i64 x.q)).setCell ⟨B4, 2, none⟩ (.bool x.d)).setCell ⟨B4, 3, none⟩ (.string x.v)) :=
    ((((Keep.refl _ w1).setCell (p := ⟨B4, 0, none⟩) (Or.inl (by simp)) _).setCell (p := ⟨B4, 1, none⟩) (Or.inl (by simp)) _).setCell (p := ⟨B4, 2, none⟩) (Or.inl (by simp)) _).setCell (p := ⟨B4, 3, none⟩) (Or.inl (by simp)) _
  refine ⟨rfl, ?_, ?_, ?_⟩
  · exact (tkeep_set _ B5 0 (.bool true)).at (tblk_set (tblk_set (tblk_set (tblk_set H4.out 0 (.string x.k)) 1 (.int .i64 x.q)) 2 (.bool x.d)) 3 (.string x.v)) (not_one hn)
  · exact tblk_set (hK.at H5.out (not_one (Ne.symm hn))) 0 (.bool true)
  · exact ((Keep.of_bel HB.out _).trans ((hK.mono (G := [B4, B5]) (by simp)).setCell (p := ⟨B5, 0, none⟩) (Or.inl (by simp)) (.bool true)) (fun k hk => Or.inl hk))
set_option maxHeartbeats 4000000 in
theorem eachF_any (c : EB) (B4 B5 : Nat) (hn : ¬ B4 = B5) (t : TT EB) : (∀ k ∈ t.bs, k ∉ [B4, B5]) → ∀ (w : World) (y : EB) (o : Bool), TAt NE w t → t.nodes.Pairwise (fun p q => lessB p.2 q.2 = true) → w.heap[B4]? = some (.cells (cellsE y) 55 (0, 0)) → w.heap[B5]? = some (.cells #[.bool o] 4 (0, 0)) →
    Calls Tryz.prog 44 #[.pointer t.ptr, .agg #[.string c.k, .int .i64 c.q, .bool c.d, .string c.v], .func (.func 63) #[] #[.pointer (some ⟨B4, 0, none⟩), .pointer (some ⟨B5, 0, none⟩)]] w (FirstTo c t B4 B5 w) := by
  induction t with
  | nil =>
    intro hbs w y o h hp h4 h5
    have HB := Lib.hid ((Bel.refl w).alloc (.cells #[.string c.k, .int .i64 c.q, .bool c.d, .string c.v] 55))
    clear h hp h4 h5
    show Calls _ _ #[.pointer none, _, _] _ _
    go_enter Tryz.func44, Tryz.ntmps44
    go_wp2_with (fail)
    go_ret
    exact ⟨rfl, HB.out⟩
  | node b x v l r ihl ihr =>
    intro hbs w y o h hp h4 h5
    have hbb : b ∉ [B4, B5] := hbs b (by rw [TT.bs_node]; simp)
    have hwb : w.heap.size ∉ [B4, B5] := fun hm => by
      have q4 := (Array.getElem?_eq_some_iff.1 h4).1
      have q5 := (Array.getElem?_eq_some_iff.1 h5).1
      simp only [List.mem_cons, List.not_mem_nil, or_false] at hm
      omega
    replace ihl := ihl (fun k hk => hbs k (by rw [TT.bs_node]; simp [hk]))
    replace ihr := ihr (fun k hk => hbs k (by rw [TT.bs_node]; simp [hk]))
    have HBB := Lib.hid hbb; have HWB := Lib.hid hwb
    clear hbs hbb hwb
    obtain ⟨p1, p2, p3, p4⟩ := TT.order hp
    have IL := Lib.hid (fun w1 (hB : Bel w w1) => ihl w1 y o (h.2.1.bel hB) p1 ((Keep.of_bel hB []).at h4 (by simp)) ((Keep.of_bel hB []).at h5 (by simp)))
    have IR := Lib.hid (fun w1 (hB : Bel w w1) => ihr w1 y o (h.2.2.bel hB) p2 ((Keep.of_bel hB []).at h4 (by simp)) ((Keep.of_bel hB []).at h5 (by simp)))
    have IY := Lib.hid (fun w1 (hB : Bel w w1) => first1_any11 x y o B4 B5 w1 ((Keep.of_bel hB []).at h4 (by simp)) ((Keep.of_bel hB []).at h5 (by simp)) hn)
    have FB := Lib.hid (fun w1 (hB : Bel w w1) => cellE ((Keep.of_bel hB []).at h.1 (by simp)))
    have hp' : (l.nodes ++ (b, x) :: r.nodes).Pairwise (fun p q => lessB p.2 q.2 = true) := hp
    have GR := Lib.hid (fun hlt : lessB x c = true => geq_right hp' (fun _ _ _ => lessB_trans) hlt)
    have GL := Lib.hid (fun hlt : lessB x c = false => (geq_left hp' (fun _ _ _ => lessB_trans) hlt).1)
    obtain ⟨⟨c0, c1, c2, c3⟩, c4, c5, c6⟩ := cellE h.1
    obtain ⟨w0, hw0⟩ : ∃ z, z = w.alloc (.cells #[.string c.k, .int .i64 c.q, .bool c.d, .string c.v] 55) := ⟨_, rfl⟩
    have hB0 : Bel w w0 := by rw [hw0]; exact (Bel.refl w).alloc _
    have HB0 := Lib.hid hB0
    have hbx : ¬ b = w.heap.size := by have := (Array.getElem?_eq_some_iff.1 h.1).1; omega
    have e0 : w0.cell? ⟨w.heap.size, 0, none⟩ = some (.string c.k) := by rw [hw0]; exact (cell_at_new rfl).trans rfl
    have e1 : w0.cell? ⟨w.heap.size, 1, none⟩ = some (.int .i64 c.q) := by rw [hw0]; exact (cell_at_new rfl).trans rfl
    have e2 : w0.cell? ⟨w.heap.size, 2, none⟩ = some (.bool c.d) := by rw [hw0]; exact (cell_at_new rfl).trans rfl
    have e3 : w0.cell? ⟨w.heap.size, 3, none⟩ = some (.string c.v) := by rw [hw0]; exact (cell_at_new rfl).trans rfl
    replace c0 := cell_later hB0 c0
    replace c1 := cell_later hB0 c1
    replace c2 := cell_later hB0 c2
    replace c3 := cell_later hB0 c3
    replace c5 := cell_later hB0 c5
    replace c6 := cell_later hB0 c6
    show Calls _ _ #[.pointer (some ⟨b, 0, none⟩), _, _] _ _
    clear h hp hp' h4 h5 ihl ihr p1 p2 p3 p4 c4
    have hm := fun v w => methE v w
    cases hlt : lessB x c with
    | true =>
      have hG := GR.out hlt
      clear GL GR
      go_enter Tryz.func44, Tryz.ntmps44
      go_wp2_with (fail)
      rw [← hw0]
      refine wp_region_held_drew (S := fun z => (z.cell? ⟨b, 0, none⟩ = some (.string x.k) ∧ z.cell? ⟨b, 1, none⟩ = some (.int .i64 x.q) ∧ z.cell? ⟨b, 2, none⟩ = some (.bool x.d) ∧ z.cell? ⟨b, 3, none⟩ = some (.string x.v)) ∧ z.cell? ⟨w.heap.size, 0, none⟩ = some (.string c.k) ∧ z.cell? ⟨w.heap.size, 1, none⟩ = some (.int .i64 c.q) ∧ z.cell? ⟨w.heap.size, 2, none⟩ = some (.bool c.d) ∧ z.cell? ⟨w.heap.size, 3, none⟩ = some (.string c.v)) (by kernel_rfl) ⟨⟨c0, c1, c2, c3⟩, e0, e1, e2, e3⟩ (fun hHeld => ?_)
      refine tk (oi := { dst := some 9, op := Op.move (Operand.tmp 0), type := 46, pos := "tree.go:95", after := #[], guard := none }) (v := ?_) 0 rfl ?_ ?_
      rotate_left
      · (intro w hSw; (try dsimp only at hSw); first | (go_simp; done) | (go_simp; with_reducible rfl))
      try simp only [Act.put, List.setIfInBounds_toArray, List.set_cons_zero, List.set_cons_succ]
      refine tk (oi := { dst := some 10, op := Op.nilCheck (Operand.tmp 9), type := 0, pos := "tree.go:95", after := #[{ on := 0, ground := Ground.data }], guard := none }) (v := ?_) 1 rfl ?_ ?_
      rotate_left
      · (intro w hSw; (try dsimp only at hSw); first | (go_simp; done) | (go_simp; with_reducible rfl))
      try simp only [Act.put, List.setIfInBounds_toArray, List.set_cons_zero, List.set_cons_succ]
      refine tk (oi := { dst := some 11, op := Op.fieldAddr 103 (Operand.tmp 10) 0, type := 0, pos := "tree.go:95", after := #[{ on := 1, ground := Ground.data }], guard := none }) (v := ?_) 2 rfl ?_ ?_
      rotate_left
      · (intro w hSw; (try dsimp only at hSw); first | (go_simp; done) | (go_simp; with_reducible rfl))
      try simp only [Act.put, List.setIfInBounds_toArray, List.set_cons_zero, List.set_cons_succ]
      refine tk (oi := { dst := some 12, op := Op.load 55 (Operand.tmp 11), type := 55, pos := "tree.go:95", after := #[{ on := 2, ground := Ground.data }], guard := none }) (v := ?_) 3 rfl ?_ ?_
      rotate_left
      · (intro w hSw; (try dsimp only at hSw); first | (go_simp; done) | (go_simp; with_reducible rfl))
      try simp only [Act.put, List.setIfInBounds_toArray, List.set_cons_zero, List.set_cons_succ]
      refine tk (oi := { dst := some 13, op := Op.makeInterface 55 (Operand.tmp 12), type := 20, pos := "tree.go:95", after := #[{ on := 3, ground := Ground.data }], guard := none }) (v := ?_) 4 rfl ?_ ?_
      rotate_left
      · (intro w hSw; (try dsimp only at hSw); first | (go_simp; done) | (go_simp; with_reducible rfl))
      try simp only [Act.put, List.setIfInBounds_toArray, List.set_cons_zero, List.set_cons_succ]
      refine tk (oi := { dst := some 14, op := Op.load 55 (Operand.tmp 4), type := 55, pos := "tree.go:95", after := #[], guard := none }) (v := ?_) 5 rfl ?_ ?_
      rotate_left
      · (intro w hSw; (try dsimp only at hSw); first | (go_simp; done) | (go_simp; with_reducible rfl))
      try simp only [Act.put, List.setIfInBounds_toArray, List.set_cons_zero, List.set_cons_succ]
      refine wpAnyH_ready (rs := [6]) (by kernel_rfl) (by simp) ?_
      refine AllReadyH.cons (o := { dst := some 15, op := Op.call { callee := Callee.invoke (Operand.tmp 13) "moult/memory.less", args := #[Operand.tmp 14], argTypes := #[55] }, type := 4, pos := "tree.go:95", after := #[{ on := 4, ground := Ground.data }, { on := 5, ground := Ground.data }], guard := none }) rfl (fun K hK => ?_) AllReadyH.nil
      go_simp
      refine (eless_any x c _).mono ?_
      rw [hlt]
      rintro r1 w1 ⟨rfl, hb⟩
      dsimp only
      have hb1 : Bel w0 w1 := by rw [hw0]; exact (Bel.refl _).drew.trans hb
      replace e0 := cell_later hb1 e0
      replace e1 := cell_later hb1 e1
      replace e2 := cell_later hb1 e2
      replace e3 := cell_later hb1 e3
      refine hK.out _ _ ⟨⟨cell_later hb1 c0, cell_later hb1 c1, cell_later hb1 c2, cell_later hb1 c3⟩, e0, e1, e2, e3⟩ (fun hHeld => ?_)
      clear hK K
      try simp only [Act.put, List.setIfInBounds_toArray, List.set_cons_zero, List.set_cons_succ]
      refine wpAnyH_done (by kernel_rfl) ?_ _
      have HB1 := Lib.hid (HB0.out.trans hb1)
      replace c5 := cell_later hb1 c5
      replace c6 := cell_later hb1 c6
      replace c0 := cell_later hb1 c0
      replace c1 := cell_later hb1 c1
      replace c2 := cell_later hb1 c2
      replace c3 := cell_later hb1 c3
      clear hb hb1
      clear c0 c1 c2 c3 c5
      go_wp2_with (fail)
      go_region_with (go_at_call 44; refine (IR.out _ HB1.out.drew).mono ?_; rintro r2 w2 ⟨rfl, hW⟩)
      all_goals
        have HW := Lib.hid hW
        clear hW
        go_wp2_with (fail)
        go_ret
        have hg : geE c (.node b x v l r) = geE c r := hG
        unfold FirstTo
        rw [hg]
        exact ⟨rfl, HW.out.from HB1.out.drew⟩
    | false =>
      have hG := GL.out hlt
      clear GL GR
      go_enter Tryz.func44, Tryz.ntmps44
      go_wp2_with (fail)
      rw [← hw0]
      refine wp_region_held_drew (S := fun z => (z.cell? ⟨b, 0, none⟩ = some (.string x.k) ∧ z.cell? ⟨b, 1, none⟩ = some (.int .i64 x.q) ∧ z.cell? ⟨b, 2, none⟩ = some (.bool x.d) ∧ z.cell? ⟨b, 3, none⟩ = some (.string x.v)) ∧ z.cell? ⟨w.heap.size, 0, none⟩ = some (.string c.k) ∧ z.cell? ⟨w.heap.size, 1, none⟩ = some (.int .i64 c.q) ∧ z.cell? ⟨w.heap.size, 2, none⟩ = some (.bool c.d) ∧ z.cell? ⟨w.heap.size, 3, none⟩ = some (.string c.v)) (by kernel_rfl) ⟨⟨c0, c1, c2, c3⟩, e0, e1, e2, e3⟩ (fun hHeld => ?_)
      refine tk (oi := { dst := some 9, op := Op.move (Operand.tmp 0), type := 46, pos := "tree.go:95", after := #[], guard := none }) (v := ?_) 0 rfl ?_ ?_
      rotate_left
      · (intro w hSw; (try dsimp only at hSw); first | (go_simp; done) | (go_simp; with_reducible rfl))
      try simp only [Act.put, List.setIfInBounds_toArray, List.set_cons_zero, List.set_cons_succ]
      refine tk (oi := { dst := some 10, op := Op.nilCheck (Operand.tmp 9), type := 0, pos := "tree.go:95", after := #[{ on := 0, ground := Ground.data }], guard := none }) (v := ?_) 1 rfl ?_ ?_
      rotate_left
      · (intro w hSw; (try dsimp only at hSw); first | (go_simp; done) | (go_simp; with_reducible rfl))
      try simp only [Act.put, List.setIfInBounds_toArray, List.set_cons_zero, List.set_cons_succ]
      refine tk (oi := { dst := some 11, op := Op.fieldAddr 103 (Operand.tmp 10) 0, type := 0, pos := "tree.go:95", after := #[{ on := 1, ground := Ground.data }], guard := none }) (v := ?_) 2 rfl ?_ ?_
      rotate_left
      · (intro w hSw; (try dsimp only at hSw); first | (go_simp; done) | (go_simp; with_reducible rfl))
      try simp only [Act.put, List.setIfInBounds_toArray, List.set_cons_zero, List.set_cons_succ]
      refine tk (oi := { dst := some 12, op := Op.load 55 (Operand.tmp 11), type := 55, pos := "tree.go:95", after := #[{ on := 2, ground := Ground.data }], guard := none }) (v := ?_) 3 rfl ?_ ?_
      rotate_left
      · (intro w hSw; (try dsimp only at hSw); first | (go_simp; done) | (go_simp; with_reducible rfl))
      try simp only [Act.put, List.setIfInBounds_toArray, List.set_cons_zero, List.set_cons_succ]
      refine tk (oi := { dst := some 13, op := Op.makeInterface 55 (Operand.tmp 12), type := 20, pos := "tree.go:95", after := #[{ on := 3, ground := Ground.data }], guard := none }) (v := ?_) 4 rfl ?_ ?_
      rotate_left
      · (intro w hSw; (try dsimp only at hSw); first | (go_simp; done) | (go_simp; with_reducible rfl))
      try simp only [Act.put, List.setIfInBounds_toArray, List.set_cons_zero, List.set_cons_succ]
      refine tk (oi := { dst := some 14, op := Op.load 55 (Operand.tmp 4), type := 55, pos := "tree.go:95", after := #[], guard := none }) (v := ?_) 5 rfl ?_ ?_
      rotate_left
      · (intro w hSw; (try dsimp only at hSw); first | (go_simp; done) | (go_simp; with_reducible rfl))
      try simp only [Act.put, List.setIfInBounds_toArray, List.set_cons_zero, List.set_cons_succ]
      refine wpAnyH_ready (rs := [6]) (by kernel_rfl) (by simp) ?_
      refine AllReadyH.cons (o := { dst := some 15, op := Op.call { callee := Callee.invoke (Operand.tmp 13) "moult/memory.less", args := #[Operand.tmp 14], argTypes := #[55] }, type := 4, pos := "tree.go:95", after := #[{ on := 4, ground := Ground.data }, { on := 5, ground := Ground.data }], guard := none }) rfl (fun K hK => ?_) AllReadyH.nil
      go_simp
      refine (eless_any x c _).mono ?_
      rw [hlt]
      rintro r1 w1 ⟨rfl, hb⟩
      dsimp only
      have hb1 : Bel w0 w1 := by rw [hw0]; exact (Bel.refl _).drew.trans hb
      replace e0 := cell_later hb1 e0
      replace e1 := cell_later hb1 e1
      replace e2 := cell_later hb1 e2
      replace e3 := cell_later hb1 e3
      refine hK.out _ _ ⟨⟨cell_later hb1 c0, cell_later hb1 c1, cell_later hb1 c2, cell_later hb1 c3⟩, e0, e1, e2, e3⟩ (fun hHeld => ?_)
      clear hK K
      try simp only [Act.put, List.setIfInBounds_toArray, List.set_cons_zero, List.set_cons_succ]
      refine wpAnyH_done (by kernel_rfl) ?_ _
      have HB1 := Lib.hid (HB0.out.trans hb1)
      replace c5 := cell_later hb1 c5
      replace c6 := cell_later hb1 c6
      replace c0 := cell_later hb1 c0
      replace c1 := cell_later hb1 c1
      replace c2 := cell_later hb1 c2
      replace c3 := cell_later hb1 c3
      clear hb hb1
      clear c6
      go_wp2_with (fail)
      cases hh : (geE c l).head? with
      | none =>
        have hg : (geE c (.node b x v l r)).head? = some (b, x) := by
          have : geE c (.node b x v l r) = geE c l ++ (b, x) :: r.nodes := hG
          rw [this, List.head?_append, hh]; rfl
        refine wp_region_held_drew (S := fun z => ((z.cell? ⟨b, 0, none⟩ = some (.string x.k) ∧ z.cell? ⟨b, 1, none⟩ = some (.int .i64 x.q) ∧ z.cell? ⟨b, 2, none⟩ = some (.bool x.d) ∧ z.cell? ⟨b, 3, none⟩ = some (.string x.v)) ∧ z.cell? ⟨b, 5, none⟩ = some (.pointer l.ptr)) ∧ z.cell? ⟨w.heap.size, 0, none⟩ = some (.string c.k) ∧ z.cell? ⟨w.heap.size, 1, none⟩ = some (.int .i64 c.q) ∧ z.cell? ⟨w.heap.size, 2, none⟩ = some (.bool c.d) ∧ z.cell? ⟨w.heap.size, 3, none⟩ = some (.string c.v)) (by kernel_rfl) ⟨⟨⟨c0, c1, c2, c3⟩, c5⟩, e0, e1, e2, e3⟩ (fun hHeld => ?_)
        refine tk (oi := { dst := some 23, op := Op.move (Operand.tmp 0), type := 46, pos := "tree.go:98", after := #[], guard := none }) (v := ?_) 0 rfl ?_ ?_
        rotate_left
        · (intro w hSw; (try dsimp only at hSw); first | (go_simp; done) | (go_simp; with_reducible rfl))
        try simp only [Act.put, List.setIfInBounds_toArray, List.set_cons_zero, List.set_cons_succ]
        refine tk (oi := { dst := some 24, op := Op.nilCheck (Operand.tmp 23), type := 0, pos := "tree.go:98", after := #[{ on := 0, ground := Ground.data }], guard := none }) (v := ?_) 1 rfl ?_ ?_
        rotate_left
        · (intro w hSw; (try dsimp only at hSw); first | (go_simp; done) | (go_simp; with_reducible rfl))
        try simp only [Act.put, List.setIfInBounds_toArray, List.set_cons_zero, List.set_cons_succ]
        refine tk (oi := { dst := some 25, op := Op.fieldAddr 103 (Operand.tmp 24) 2, type := 0, pos := "tree.go:98", after := #[{ on := 1, ground := Ground.data }], guard := none }) (v := ?_) 2 rfl ?_ ?_
        rotate_left
        · (intro w hSw; (try dsimp only at hSw); first | (go_simp; done) | (go_simp; with_reducible rfl))
        try simp only [Act.put, List.setIfInBounds_toArray, List.set_cons_zero, List.set_cons_succ]
        refine tk (oi := { dst := some 26, op := Op.load 46 (Operand.tmp 25), type := 46, pos := "tree.go:98", after := #[{ on := 2, ground := Ground.data }], guard := none }) (v := ?_) 3 rfl ?_ ?_
        rotate_left
        · (intro w hSw; (try dsimp only at hSw); first | (go_simp; done) | (go_simp; with_reducible rfl))
        try simp only [Act.put, List.setIfInBounds_toArray, List.set_cons_zero, List.set_cons_succ]
        refine tk (oi := { dst := some 27, op := Op.load 55 (Operand.tmp 4), type := 55, pos := "tree.go:98", after := #[], guard := none }) (v := ?_) 4 rfl ?_ ?_
        rotate_left
        · (intro w hSw; (try dsimp only at hSw); first | (go_simp; done) | (go_simp; with_reducible rfl))
        try simp only [Act.put, List.setIfInBounds_toArray, List.set_cons_zero, List.set_cons_succ]
        refine tk (oi := { dst := some 28, op := Op.move (Operand.tmp 2), type := 106, pos := "tree.go:98", after := #[], guard := none }) (v := ?_) 5 rfl ?_ ?_
        rotate_left
        · (intro w hSw; (try dsimp only at hSw); first | (go_simp; done) | (go_simp; with_reducible rfl))
        try simp only [Act.put, List.setIfInBounds_toArray, List.set_cons_zero, List.set_cons_succ]
        refine wpAnyH_ready (rs := [6]) (by kernel_rfl) (by simp) ?_
        refine AllReadyH.cons (o := { dst := some 29, op := Op.call { callee := Callee.value (Operand.func 44), args := #[Operand.tmp 26, Operand.tmp 27, Operand.tmp 28], argTypes := #[46, 55, 106] }, type := 4, pos := "tree.go:98", after := #[{ on := 3, ground := Ground.data }, { on := 4, ground := Ground.data }, { on := 5, ground := Ground.data }], guard := none }) rfl (fun K hK => ?_) AllReadyH.nil
        go_simp
        refine (IL.out _ HB1.out.drew).mono ?_
        unfold FirstTo
        rw [hh]
        rintro r2 w2 ⟨rfl, hW⟩
        have hb2 : Bel w1 w2 := (Bel.refl w1).drew.trans hW
        dsimp only
        refine hK.out _ _ ⟨⟨⟨cell_later hb2 c0, cell_later hb2 c1, cell_later hb2 c2, cell_later hb2 c3⟩, cell_later hb2 c5⟩, cell_later hb2 e0, cell_later hb2 e1, cell_later hb2 e2, cell_later hb2 e3⟩ (fun hHeld => ?_)
        clear hK K
        try simp only [Act.put, List.setIfInBounds_toArray, List.set_cons_zero, List.set_cons_succ]
        refine tk (oi := { dst := some 30, op := Op.move (Operand.tmp 29), type := 4, pos := "tree.go:98", after := #[{ on := 6, ground := Ground.data }, { on := 6, ground := Ground.chain }], guard := none }) (v := ?_) 7 rfl ?_ ?_
        rotate_left
        · (intro w hSw; (try dsimp only at hSw); first | (go_simp; done) | (go_simp; with_reducible rfl))
        try simp only [Act.put, List.setIfInBounds_toArray, List.set_cons_zero, List.set_cons_succ]
        refine tk (oi := { dst := some 31, op := Op.move (Operand.tmp 2), type := 106, pos := "tree.go:98", after := #[{ on := 7, ground := Ground.guard }], guard := some (7, true) }) (v := ?_) 8 rfl ?_ ?_
        rotate_left
        · (intro w hSw; (try dsimp only at hSw); first | (go_simp; done) | (go_simp; with_reducible rfl))
        try simp only [Act.put, List.setIfInBounds_toArray, List.set_cons_zero, List.set_cons_succ]
        refine tk (oi := { dst := some 32, op := Op.move (Operand.tmp 0), type := 46, pos := "tree.go:98", after := #[{ on := 7, ground := Ground.guard }], guard := some (7, true) }) (v := ?_) 9 rfl ?_ ?_
        rotate_left
        · (intro w hSw; (try dsimp only at hSw); first | (go_simp; done) | (go_simp; with_reducible rfl))
        try simp only [Act.put, List.setIfInBounds_toArray, List.set_cons_zero, List.set_cons_succ]
        refine tk (oi := { dst := some 33, op := Op.nilCheck (Operand.tmp 32), type := 0, pos := "tree.go:98", after := #[{ on := 9, ground := Ground.data }, { on := 7, ground := Ground.guard }], guard := some (7, true) }) (v := ?_) 10 rfl ?_ ?_
        rotate_left
        · (intro w hSw; (try dsimp only at hSw); first | (go_simp; done) | (go_simp; with_reducible rfl))
        try simp only [Act.put, List.setIfInBounds_toArray, List.set_cons_zero, List.set_cons_succ]
        refine tk (oi := { dst := some 34, op := Op.fieldAddr 103 (Operand.tmp 33) 0, type := 0, pos := "tree.go:98", after := #[{ on := 10, ground := Ground.data }, { on := 7, ground := Ground.guard }], guard := some (7, true) }) (v := ?_) 11 rfl ?_ ?_
        rotate_left
        · (intro w hSw; (try dsimp only at hSw); first | (go_simp; done) | (go_simp; with_reducible rfl))
        try simp only [Act.put, List.setIfInBounds_toArray, List.set_cons_zero, List.set_cons_succ]
        refine tk (oi := { dst := some 35, op := Op.load 55 (Operand.tmp 34), type := 55, pos := "tree.go:98", after := #[{ on := 11, ground := Ground.data }, { on := 7, ground := Ground.guard }], guard := some (7, true) }) (v := ?_) 12 rfl ?_ ?_
        rotate_left
        · (intro w hSw; (try dsimp only at hSw); first | (go_simp; done) | (go_simp; with_reducible rfl))
        try simp only [Act.put, List.setIfInBounds_toArray, List.set_cons_zero, List.set_cons_succ]
        refine wpAnyH_ready (rs := [13]) (by kernel_rfl) (by simp) ?_
        refine AllReadyH.cons (o := { dst := some 36, op := Op.call { callee := Callee.value (Operand.tmp 31), args := #[Operand.tmp 35], argTypes := #[55] }, type := 4, pos := "tree.go:98", after := #[{ on := 8, ground := Ground.data }, { on := 12, ground := Ground.data }, { on := 7, ground := Ground.chain }, { on := 7, ground := Ground.guard }], guard := some (7, true) }) rfl (fun K hK => ?_) AllReadyH.nil
        go_simp
        refine (IY.out _ (HB1.out.trans hb2)).mono ?_
        rintro r3 w3 ⟨rfl, hx1, hx2, hx3⟩
        dsimp only
        refine hK.out _ _ ⟨⟨⟨hx3.cell (cell_later hb2 c0) HBB.out, hx3.cell (cell_later hb2 c1) HBB.out, hx3.cell (cell_later hb2 c2) HBB.out, hx3.cell (cell_later hb2 c3) HBB.out⟩, hx3.cell (cell_later hb2 c5) HBB.out⟩, hx3.cell (cell_later hb2 e0) HWB.out, hx3.cell (cell_later hb2 e1) HWB.out, hx3.cell (cell_later hb2 e2) HWB.out, hx3.cell (cell_later hb2 e3) HWB.out⟩ (fun hHeld => ?_)
        clear hK K
        try simp only [Act.put, List.setIfInBounds_toArray, List.set_cons_zero, List.set_cons_succ]
        refine tk (oi := { dst := some 37, op := Op.pick (Operand.tmp 30) (Operand.tmp 36) (Operand.const (Value.bool false)), type := 4, pos := "tree.go:98", after := #[{ on := 7, ground := Ground.data }, { on := 13, ground := Ground.data }], guard := none }) (v := ?_) 14 rfl ?_ ?_
        rotate_left
        · (intro w hSw; (try dsimp only at hSw); first | (go_simp; done) | (go_simp; with_reducible rfl))
        try simp only [Act.put, List.setIfInBounds_toArray, List.set_cons_zero, List.set_cons_succ]
        refine tk (oi := { dst := some 38, op := Op.move (Operand.tmp 37), type := 4, pos := "tree.go:98", after := #[{ on := 14, ground := Ground.data }, { on := 13, ground := Ground.chain }], guard := none }) (v := ?_) 15 rfl ?_ ?_
        rotate_left
        · (intro w hSw; (try dsimp only at hSw); first | (go_simp; done) | (go_simp; with_reducible rfl))
        try simp only [Act.put, List.setIfInBounds_toArray, List.set_cons_zero, List.set_cons_succ]
        refine wpAnyH_take (i := 16) (oi := { dst := some 39, op := Op.move (Operand.tmp 0), type := 46, pos := "tree.go:98", after := #[{ on := 15, ground := Ground.guard }], guard := some (15, true) }) (v := undef) rfl (by kernel_rfl) (by kernel_rfl) (by kernel_rfl) (fun _ _ _ h => h) (Or.inr ⟨by rfl, rfl⟩) (by assumption) ?_
        try simp only [Act.put, List.setIfInBounds_toArray, List.set_cons_zero, List.set_cons_succ]
        refine wpAnyH_take (i := 17) (oi := { dst := some 40, op := Op.nilCheck (Operand.tmp 39), type := 0, pos := "tree.go:98", after := #[{ on := 16, ground := Ground.data }, { on := 15, ground := Ground.guard }], guard := some (15, true) }) (v := undef) rfl (by kernel_rfl) (by kernel_rfl) (by kernel_rfl) (fun _ _ _ h => h) (Or.inr ⟨by rfl, rfl⟩) (by assumption) ?_
        try simp only [Act.put, List.setIfInBounds_toArray, List.set_cons_zero, List.set_cons_succ]
        refine wpAnyH_take (i := 18) (oi := { dst := some 41, op := Op.fieldAddr 103 (Operand.tmp 40) 3, type := 0, pos := "tree.go:98", after := #[{ on := 17, ground := Ground.data }, { on := 15, ground := Ground.guard }], guard := some (15, true) }) (v := undef) rfl (by kernel_rfl) (by kernel_rfl) (by kernel_rfl) (fun _ _ _ h => h) (Or.inr ⟨by rfl, rfl⟩) (by assumption) ?_
        try simp only [Act.put, List.setIfInBounds_toArray, List.set_cons_zero, List.set_cons_succ]
        refine wpAnyH_take (i := 19) (oi := { dst := some 42, op := Op.load 46 (Operand.tmp 41), type := 46, pos := "tree.go:98", after := #[{ on := 18, ground := Ground.data }, { on := 15, ground := Ground.guard }], guard := some (15, true) }) (v := undef) rfl (by kernel_rfl) (by kernel_rfl) (by kernel_rfl) (fun _ _ _ h => h) (Or.inr ⟨by rfl, rfl⟩) (by assumption) ?_
        try simp only [Act.put, List.setIfInBounds_toArray, List.set_cons_zero, List.set_cons_succ]
        refine wpAnyH_take (i := 20) (oi := { dst := some 43, op := Op.load 55 (Operand.tmp 4), type := 55, pos := "tree.go:98", after := #[{ on := 15, ground := Ground.guard }], guard := some (15, true) }) (v := undef) rfl (by kernel_rfl) (by kernel_rfl) (by kernel_rfl) (fun _ _ _ h => h) (Or.inr ⟨by rfl, rfl⟩) (by assumption) ?_
        try simp only [Act.put, List.setIfInBounds_toArray, List.set_cons_zero, List.set_cons_succ]
        refine wpAnyH_take (i := 21) (oi := { dst := some 44, op := Op.move (Operand.tmp 2), type := 106, pos := "tree.go:98", after := #[{ on := 15, ground := Ground.guard }], guard := some (15, true) }) (v := undef) rfl (by kernel_rfl) (by kernel_rfl) (by kernel_rfl) (fun _ _ _ h => h) (Or.inr ⟨by rfl, rfl⟩) (by assumption) ?_
        try simp only [Act.put, List.setIfInBounds_toArray, List.set_cons_zero, List.set_cons_succ]
        refine wpAnyH_take (i := 22) (oi := { dst := some 45, op := Op.call { callee := Callee.value (Operand.func 44), args := #[Operand.tmp 42, Operand.tmp 43, Operand.tmp 44], argTypes := #[46, 55, 106] }, type := 4, pos := "tree.go:98", after := #[{ on := 19, ground := Ground.data }, { on := 20, ground := Ground.data }, { on := 21, ground := Ground.data }, { on := 15, ground := Ground.chain }, { on := 15, ground := Ground.guard }], guard := some (15, true) }) (v := undef) rfl (by kernel_rfl) (by kernel_rfl) (by kernel_rfl) (fun _ _ _ h => h) (Or.inr ⟨by rfl, rfl⟩) (by assumption) ?_
        try simp only [Act.put, List.setIfInBounds_toArray, List.set_cons_zero, List.set_cons_succ]
        refine tk (oi := { dst := some 46, op := Op.pick (Operand.tmp 38) (Operand.tmp 45) (Operand.const (Value.bool false)), type := 4, pos := "tree.go:98", after := #[{ on := 15, ground := Ground.data }, { on := 22, ground := Ground.data }], guard := none }) (v := ?_) 23 rfl ?_ ?_
        rotate_left
        · (intro w hSw; (try dsimp only at hSw); first | (go_simp; done) | (go_simp; with_reducible rfl))
        try simp only [Act.put, List.setIfInBounds_toArray, List.set_cons_zero, List.set_cons_succ]
        refine tk (oi := { dst := some 6, op := Op.assign (Operand.tmp 46), type := 4, pos := "tree.go:98", after := #[{ on := 23, ground := Ground.data }, { on := 22, ground := Ground.chain }, { on := 0, ground := Ground.phase }, { on := 1, ground := Ground.phase }, { on := 2, ground := Ground.phase }, { on := 3, ground := Ground.phase }, { on := 4, ground := Ground.phase }, { on := 5, ground := Ground.phase }, { on := 6, ground := Ground.phase }, { on := 7, ground := Ground.phase }, { on := 8, ground := Ground.phase }, { on := 9, ground := Ground.phase }, { on := 10, ground := Ground.phase }, { on := 11, ground := Ground.phase }, { on := 12, ground := Ground.phase }, { on := 13, ground := Ground.phase }, { on := 14, ground := Ground.phase }, { on := 15, ground := Ground.phase }, { on := 16, ground := Ground.phase }, { on := 17, ground := Ground.phase }, { on := 18, ground := Ground.phase }, { on := 19, ground := Ground.phase }, { on := 20, ground := Ground.phase }, { on := 21, ground := Ground.phase }, { on := 22, ground := Ground.phase }, { on := 23, ground := Ground.phase }], guard := none }) (v := ?_) 24 rfl ?_ ?_
        rotate_left
        · (intro w hSw; (try dsimp only at hSw); first | (go_simp; done) | (go_simp; with_reducible rfl))
        try simp only [Act.put, List.setIfInBounds_toArray, List.set_cons_zero, List.set_cons_succ]
        refine wpAnyH_done (by kernel_rfl) ?_ _
        have HX := Lib.hid (show FirstW (some (b, x)) B4 B5 w w3 from ⟨hx1, hx2, (Keep.of_bel (HB1.out.trans hb2) _).trans hx3 (fun k hk => Or.inl hk)⟩)
        clear hb2 hx1 hx2 hx3 hW
        go_wp2_with (fail)
        go_ret
        unfold FirstTo
        rw [hg]
        exact ⟨rfl, HX.out⟩
      | some p0 =>
        have hg : (geE c (.node b x v l r)).head? = some p0 := by
          have : geE c (.node b x v l r) = geE c l ++ (b, x) :: r.nodes := hG
          rw [this, List.head?_append, hh]; rfl
        refine wp_region_held_drew (S := fun z => ((z.cell? ⟨b, 0, none⟩ = some (.string x.k) ∧ z.cell? ⟨b, 1, none⟩ = some (.int .i64 x.q) ∧ z.cell? ⟨b, 2, none⟩ = some (.bool x.d) ∧ z.cell? ⟨b, 3, none⟩ = some (.string x.v)) ∧ z.cell? ⟨b, 5, none⟩ = some (.pointer l.ptr)) ∧ z.cell? ⟨w.heap.size, 0, none⟩ = some (.string c.k) ∧ z.cell? ⟨w.heap.size, 1, none⟩ = some (.int .i64 c.q) ∧ z.cell? ⟨w.heap.size, 2, none⟩ = some (.bool c.d) ∧ z.cell? ⟨w.heap.size, 3, none⟩ = some (.string c.v)) (by kernel_rfl) ⟨⟨⟨c0, c1, c2, c3⟩, c5⟩, e0, e1, e2, e3⟩ (fun hHeld => ?_)
        refine tk (oi := { dst := some 23, op := Op.move (Operand.tmp 0), type := 46, pos := "tree.go:98", after := #[], guard := none }) (v := ?_) 0 rfl ?_ ?_
        rotate_left
        · (intro w hSw; (try dsimp only at hSw); first | (go_simp; done) | (go_simp; with_reducible rfl))
        try simp only [Act.put, List.setIfInBounds_toArray, List.set_cons_zero, List.set_cons_succ]
        refine tk (oi := { dst := some 24, op := Op.nilCheck (Operand.tmp 23), type := 0, pos := "tree.go:98", after := #[{ on := 0, ground := Ground.data }], guard := none }) (v := ?_) 1 rfl ?_ ?_
        rotate_left
        · (intro w hSw; (try dsimp only at hSw); first | (go_simp; done) | (go_simp; with_reducible rfl))
        try simp only [Act.put, List.setIfInBounds_toArray, List.set_cons_zero, List.set_cons_succ]
        refine tk (oi := { dst := some 25, op := Op.fieldAddr 103 (Operand.tmp 24) 2, type := 0, pos := "tree.go:98", after := #[{ on := 1, ground := Ground.data }], guard := none }) (v := ?_) 2 rfl ?_ ?_
        rotate_left
        · (intro w hSw; (try dsimp only at hSw); first | (go_simp; done) | (go_simp; with_reducible rfl))
        try simp only [Act.put, List.setIfInBounds_toArray, List.set_cons_zero, List.set_cons_succ]
        refine tk (oi := { dst := some 26, op := Op.load 46 (Operand.tmp 25), type := 46, pos := "tree.go:98", after := #[{ on := 2, ground := Ground.data }], guard := none }) (v := ?_) 3 rfl ?_ ?_
        rotate_left
        · (intro w hSw; (try dsimp only at hSw); first | (go_simp; done) | (go_simp; with_reducible rfl))
        try simp only [Act.put, List.setIfInBounds_toArray, List.set_cons_zero, List.set_cons_succ]
        refine tk (oi := { dst := some 27, op := Op.load 55 (Operand.tmp 4), type := 55, pos := "tree.go:98", after := #[], guard := none }) (v := ?_) 4 rfl ?_ ?_
        rotate_left
        · (intro w hSw; (try dsimp only at hSw); first | (go_simp; done) | (go_simp; with_reducible rfl))
        try simp only [Act.put, List.setIfInBounds_toArray, List.set_cons_zero, List.set_cons_succ]
        refine tk (oi := { dst := some 28, op := Op.move (Operand.tmp 2), type := 106, pos := "tree.go:98", after := #[], guard := none }) (v := ?_) 5 rfl ?_ ?_
        rotate_left
        · (intro w hSw; (try dsimp only at hSw); first | (go_simp; done) | (go_simp; with_reducible rfl))
        try simp only [Act.put, List.setIfInBounds_toArray, List.set_cons_zero, List.set_cons_succ]
        refine wpAnyH_ready (rs := [6]) (by kernel_rfl) (by simp) ?_
        refine AllReadyH.cons (o := { dst := some 29, op := Op.call { callee := Callee.value (Operand.func 44), args := #[Operand.tmp 26, Operand.tmp 27, Operand.tmp 28], argTypes := #[46, 55, 106] }, type := 4, pos := "tree.go:98", after := #[{ on := 3, ground := Ground.data }, { on := 4, ground := Ground.data }, { on := 5, ground := Ground.data }], guard := none }) rfl (fun K hK => ?_) AllReadyH.nil
        go_simp
        refine (IL.out _ HB1.out.drew).mono ?_
        unfold FirstTo
        rw [hh]
        rintro r2 w2 ⟨rfl, hW⟩
        have hx3 : Keep [B4, B5] w1 w2 := (Keep.of_bel (Bel.refl w1).drew _).trans hW.2.2 (fun k hk => Or.inl hk)
        dsimp only
        refine hK.out _ _ ⟨⟨⟨hx3.cell c0 HBB.out, hx3.cell c1 HBB.out, hx3.cell c2 HBB.out, hx3.cell c3 HBB.out⟩, hx3.cell c5 HBB.out⟩, hx3.cell e0 HWB.out, hx3.cell e1 HWB.out, hx3.cell e2 HWB.out, hx3.cell e3 HWB.out⟩ (fun hHeld => ?_)
        clear hK K
        try simp only [Act.put, List.setIfInBounds_toArray, List.set_cons_zero, List.set_cons_succ]
        refine tk (oi := { dst := some 30, op := Op.move (Operand.tmp 29), type := 4, pos := "tree.go:98", after := #[{ on := 6, ground := Ground.data }, { on := 6, ground := Ground.chain }], guard := none }) (v := ?_) 7 rfl ?_ ?_
        rotate_left
        · (intro w hSw; (try dsimp only at hSw); first | (go_simp; done) | (go_simp; with_reducible rfl))
        try simp only [Act.put, List.setIfInBounds_toArray, List.set_cons_zero, List.set_cons_succ]
        refine wpAnyH_take (i := 8) (oi := { dst := some 31, op := Op.move (Operand.tmp 2), type := 106, pos := "tree.go:98", after := #[{ on := 7, ground := Ground.guard }], guard := some (7, true) }) (v := undef) rfl (by kernel_rfl) (by kernel_rfl) (by kernel_rfl) (fun _ _ _ h => h) (Or.inr ⟨by rfl, rfl⟩) (by assumption) ?_
        try simp only [Act.put, List.setIfInBounds_toArray, List.set_cons_zero, List.set_cons_succ]
        refine wpAnyH_take (i := 9) (oi := { dst := some 32, op := Op.move (Operand.tmp 0), type := 46, pos := "tree.go:98", after := #[{ on := 7, ground := Ground.guard }], guard := some (7, true) }) (v := undef) rfl (by kernel_rfl) (by kernel_rfl) (by kernel_rfl) (fun _ _ _ h => h) (Or.inr ⟨by rfl, rfl⟩) (by assumption) ?_
        try simp only [Act.put, List.setIfInBounds_toArray, List.set_cons_zero, List.set_cons_succ]
        refine wpAnyH_take (i := 10) (oi := { dst := some 33, op := Op.nilCheck (Operand.tmp 32), type := 0, pos := "tree.go:98", after := #[{ on := 9, ground := Ground.data }, { on := 7, ground := Ground.guard }], guard := some (7, true) }) (v := undef) rfl (by kernel_rfl) (by kernel_rfl) (by kernel_rfl) (fun _ _ _ h => h) (Or.inr ⟨by rfl, rfl⟩) (by assumption) ?_
        try simp only [Act.put, List.setIfInBounds_toArray, List.set_cons_zero, List.set_cons_succ]
        refine wpAnyH_take (i := 11) (oi := { dst := some 34, op := Op.fieldAddr 103 (Operand.tmp 33) 0, type := 0, pos := "tree.go:98", after := #[{ on := 10, ground := Ground.data }, { on := 7, ground := Ground.guard }], guard := some (7, true) }) (v := undef) rfl (by kernel_rfl) (by kernel_rfl) (by kernel_rfl) (fun _ _ _ h => h) (Or.inr ⟨by rfl, rfl⟩) (by assumption) ?_
        try simp only [Act.put, List.setIfInBounds_toArray, List.set_cons_zero, List.set_cons_succ]
        refine wpAnyH_take (i := 12) (oi := { dst := some 35, op := Op.load 55 (Operand.tmp 34), type := 55, pos := "tree.go:98", after := #[{ on := 11, ground := Ground.data }, { on := 7, ground := Ground.guard }], guard := some (7, true) }) (v := undef) rfl (by kernel_rfl) (by kernel_rfl) (by kernel_rfl) (fun _ _ _ h => h) (Or.inr ⟨by rfl, rfl⟩) (by assumption) ?_
        try simp only [Act.put, List.setIfInBounds_toArray, List.set_cons_zero, List.set_cons_succ]
        refine wpAnyH_take (i := 13) (oi := { dst := some 36, op := Op.call { callee := Callee.value (Operand.tmp 31), args := #[Operand.tmp 35], argTypes := #[55] }, type := 4, pos := "tree.go:98", after := #[{ on := 8, ground := Ground.data }, { on := 12, ground := Ground.data }, { on := 7, ground := Ground.chain }, { on := 7, ground := Ground.guard }], guard := some (7, true) }) (v := undef) rfl (by kernel_rfl) (by kernel_rfl) (by kernel_rfl) (fun _ _ _ h => h) (Or.inr ⟨by rfl, rfl⟩) (by assumption) ?_
        try simp only [Act.put, List.setIfInBounds_toArray, List.set_cons_zero, List.set_cons_succ]
        refine tk (oi := { dst := some 37, op := Op.pick (Operand.tmp 30) (Operand.tmp 36) (Operand.const (Value.bool false)), type := 4, pos := "tree.go:98", after := #[{ on := 7, ground := Ground.data }, { on := 13, ground := Ground.data }], guard := none }) (v := ?_) 14 rfl ?_ ?_
        rotate_left
        · (intro w hSw; (try dsimp only at hSw); first | (go_simp; done) | (go_simp; with_reducible rfl))
        try simp only [Act.put, List.setIfInBounds_toArray, List.set_cons_zero, List.set_cons_succ]
        refine tk (oi := { dst := some 38, op := Op.move (Operand.tmp 37), type := 4, pos := "tree.go:98", after := #[{ on := 14, ground := Ground.data }, { on := 13, ground := Ground.chain }], guard := none }) (v := ?_) 15 rfl ?_ ?_
        rotate_left
        · (intro w hSw; (try dsimp only at hSw); first | (go_simp; done) | (go_simp; with_reducible rfl))
        try simp only [Act.put, List.setIfInBounds_toArray, List.set_cons_zero, List.set_cons_succ]
        refine wpAnyH_take (i := 16) (oi := { dst := some 39, op := Op.move (Operand.tmp 0), type := 46, pos := "tree.go:98", after := #[{ on := 15, ground := Ground.guard }], guard := some (15, true) }) (v := undef) rfl (by kernel_rfl) (by kernel_rfl) (by kernel_rfl) (fun _ _ _ h => h) (Or.inr ⟨by rfl, rfl⟩) (by assumption) ?_
        try simp only [Act.put, List.setIfInBounds_toArray, List.set_cons_zero, List.set_cons_succ]
        refine wpAnyH_take (i := 17) (oi := { dst := some 40, op := Op.nilCheck (Operand.tmp 39), type := 0, pos := "tree.go:98", after := #[{ on := 16, ground := Ground.data }, { on := 15, ground := Ground.guard }], guard := some (15, true) }) (v := undef) rfl (by kernel_rfl) (by kernel_rfl) (by kernel_rfl) (fun _ _ _ h => h) (Or.inr ⟨by rfl, rfl⟩) (by assumption) ?_
        try simp only [Act.put, List.setIfInBounds_toArray, List.set_cons_zero, List.set_cons_succ]
        refine wpAnyH_take (i := 18) (oi := { dst := some 41, op := Op.fieldAddr 103 (Operand.tmp 40) 3, type := 0, pos := "tree.go:98", after := #[{ on := 17, ground := Ground.data }, { on := 15, ground := Ground.guard }], guard := some (15, true) }) (v := undef) rfl (by kernel_rfl) (by kernel_rfl) (by kernel_rfl) (fun _ _ _ h => h) (Or.inr ⟨by rfl, rfl⟩) (by assumption) ?_
        try simp only [Act.put, List.setIfInBounds_toArray, List.set_cons_zero, List.set_cons_succ]
        refine wpAnyH_take (i := 19) (oi := { dst := some 42, op := Op.load 46 (Operand.tmp 41), type := 46, pos := "tree.go:98", after := #[{ on := 18, ground := Ground.data }, { on := 15, ground := Ground.guard }], guard := some (15, true) }) (v := undef) rfl (by kernel_rfl) (by kernel_rfl) (by kernel_rfl) (fun _ _ _ h => h) (Or.inr ⟨by rfl, rfl⟩) (by assumption) ?_
        try simp only [Act.put, List.setIfInBounds_toArray, List.set_cons_zero, List.set_cons_succ]
        refine wpAnyH_take (i := 20) (oi := { dst := some 43, op := Op.load 55 (Operand.tmp 4), type := 55, pos := "tree.go:98", after := #[{ on := 15, ground := Ground.guard }], guard := some (15, true) }) (v := undef) rfl (by kernel_rfl) (by kernel_rfl) (by kernel_rfl) (fun _ _ _ h => h) (Or.inr ⟨by rfl, rfl⟩) (by assumption) ?_
        try simp only [Act.put, List.setIfInBounds_toArray, List.set_cons_zero, List.set_cons_succ]
        refine wpAnyH_take (i := 21) (oi := { dst := some 44, op := Op.move (Operand.tmp 2), type := 106, pos := "tree.go:98", after := #[{ on := 15, ground := Ground.guard }], guard := some (15, true) }) (v := undef) rfl (by kernel_rfl) (by kernel_rfl) (by kernel_rfl) (fun _ _ _ h => h) (Or.inr ⟨by rfl, rfl⟩) (by assumption) ?_
        try simp only [Act.put, List.setIfInBounds_toArray, List.set_cons_zero, List.set_cons_succ]
        refine wpAnyH_take (i := 22) (oi := { dst := some 45, op := Op.call { callee := Callee.value (Operand.func 44), args := #[Operand.tmp 42, Operand.tmp 43, Operand.tmp 44], argTypes := #[46, 55, 106] }, type := 4, pos := "tree.go:98", after := #[{ on := 19, ground := Ground.data }, { on := 20, ground := Ground.data }, { on := 21, ground := Ground.data }, { on := 15, ground := Ground.chain }, { on := 15, ground := Ground.guard }], guard := some (15, true) }) (v := undef) rfl (by kernel_rfl) (by kernel_rfl) (by kernel_rfl) (fun _ _ _ h => h) (Or.inr ⟨by rfl, rfl⟩) (by assumption) ?_
        try simp only [Act.put, List.setIfInBounds_toArray, List.set_cons_zero, List.set_cons_succ]
        refine tk (oi := { dst := some 46, op := Op.pick (Operand.tmp 38) (Operand.tmp 45) (Operand.const (Value.bool false)), type := 4, pos := "tree.go:98", after := #[{ on := 15, ground := Ground.data }, { on := 22, ground := Ground.data }], guard := none }) (v := ?_) 23 rfl ?_ ?_
        rotate_left
        · (intro w hSw; (try dsimp only at hSw); first | (go_simp; done) | (go_simp; with_reducible rfl))
        try simp only [Act.put, List.setIfInBounds_toArray, List.set_cons_zero, List.set_cons_succ]
        refine tk (oi := { dst := some 6, op := Op.assign (Operand.tmp 46), type := 4, pos := "tree.go:98", after := #[{ on := 23, ground := Ground.data }, { on := 22, ground := Ground.chain }, { on := 0, ground := Ground.phase }, { on := 1, ground := Ground.phase }, { on := 2, ground := Ground.phase }, { on := 3, ground := Ground.phase }, { on := 4, ground := Ground.phase }, { on := 5, ground := Ground.phase }, { on := 6, ground := Ground.phase }, { on := 7, ground := Ground.phase }, { on := 8, ground := Ground.phase }, { on := 9, ground := Ground.phase }, { on := 10, ground := Ground.phase }, { on := 11, ground := Ground.phase }, { on := 12, ground := Ground.phase }, { on := 13, ground := Ground.phase }, { on := 14, ground := Ground.phase }, { on := 15, ground := Ground.phase }, { on := 16, ground := Ground.phase }, { on := 17, ground := Ground.phase }, { on := 18, ground := Ground.phase }, { on := 19, ground := Ground.phase }, { on := 20, ground := Ground.phase }, { on := 21, ground := Ground.phase }, { on := 22, ground := Ground.phase }, { on := 23, ground := Ground.phase }], guard := none }) (v := ?_) 24 rfl ?_ ?_
        rotate_left
        · (intro w hSw; (try dsimp only at hSw); first | (go_simp; done) | (go_simp; with_reducible rfl))
        try simp only [Act.put, List.setIfInBounds_toArray, List.set_cons_zero, List.set_cons_succ]
        refine wpAnyH_done (by kernel_rfl) ?_ _
        have HX := Lib.hid (hW.from HB1.out.drew)
        clear hx3 hW
        go_wp2_with (fail)
        go_ret
        unfold FirstTo
        rw [hg]
        exact ⟨rfl, HX.out⟩
end Go.Proofs.YteimllgoelleeaaGreatDoor
/- The program's memory: first; where a memory lies; New, Len, Size, Get. -/
set_option maxRecDepth 100000
namespace Go.Proofs.YteimllgoelleeaaGreatDoor
open Go.RowKit Go.Deep

def zeroE : EB := ⟨⟨#[]⟩, 0, false, ⟨#[]⟩⟩
def fstE : Option (Nat × EB) → EB
  | none => zeroE
  | some p => p.2
theorem FirstW.cells {p : Option (Nat × EB)} {B4 B5 : Nat} {w w' : World} (h : FirstW p B4 B5 w w') (h4 : w.heap[B4]? = some (.cells (cellsE zeroE) 55 (0, 0))) (h5 : w.heap[B5]? = some (.cells #[.bool false] 4 (0, 0))) :
    w'.heap[B4]? = some (.cells (cellsE (fstE p)) 55 (0, 0)) ∧ w'.heap[B5]? = some (.cells #[.bool p.isSome] 4 (0, 0)) ∧ Keep [B4, B5] w w' := by
  cases p with
  | none => exact ⟨(Keep.of_bel h []).at h4 (by simp), (Keep.of_bel h []).at h5 (by simp), Keep.of_bel h _⟩
  | some p => exact ⟨h.1, h.2.1, h.2.2⟩
set_option maxHeartbeats 2000000 in
theorem first_any11 (c : EB) (t : TT EB) (n : Int) (s : Value) (b : Nat) (w : World) (h : w.heap[b]? = some (.cells (MBE t n s) 50 (0, 0))) (hT : TAt NE w t) (hp : t.nodes.Pairwise (fun p q => lessB p.2 q.2 = true)) :
    Calls Tryz.prog 35 #[.pointer (some ⟨b, 0, none⟩), .agg #[.string c.k, .int .i64 c.q, .bool c.d, .string c.v]] w fun r w' => r = .returned (.tuple #[.agg #[.string (fstE (geE c t).head?).k, .int .i64 (fstE (geE c t).head?).q, .bool (fstE (geE c t).head?).d, .string (fstE (geE c t).head?).v], .bool (geE c t).head?.isSome]) ∧ Bel w w' := by
  have hlt := (Array.getElem?_eq_some_iff.1 h).1
  obtain ⟨w0, hw0⟩ : ∃ z, z = ((w.alloc (.cells #[.string c.k, .int .i64 c.q, .bool c.d, .string c.v] 55)).alloc (.cells #[.string ⟨#[]⟩, .int .i64 0, .bool false, .string ⟨#[]⟩] 55)).alloc (.cells #[.bool false] 4) := ⟨_, rfl⟩
  have hB0 : Bel w w0 := by rw [hw0]; exact (((Bel.refl w).alloc _).alloc _).alloc _
  have hk : w0.heap[w.heap.size]? = some (.cells (cellsE c) 55 (0, 0)) ∧ w0.heap[w.heap.size + 1]? = some (.cells (cellsE zeroE) 55 (0, 0)) ∧ w0.heap[w.heap.size + 1 + 1]? = some (.cells #[.bool false] 4 (0, 0)) := by
    rw [hw0]
    have q1 := tnew w (.cells #[.string c.k, .int .i64 c.q, .bool c.d, .string c.v] 55)
    have q2 := tnew (w.alloc (.cells #[.string c.k, .int .i64 c.q, .bool c.d, .string c.v] 55)) (.cells #[.string ⟨#[]⟩, .int .i64 0, .bool false, .string ⟨#[]⟩] 55)
    have q3 := tnew ((w.alloc (.cells #[.string c.k, .int .i64 c.q, .bool c.d, .string c.v] 55)).alloc (.cells #[.string ⟨#[]⟩, .int .i64 0, .bool false, .string ⟨#[]⟩] 55)) (.cells #[.bool false] 4)
    simp only [World.size_alloc] at q2 q3
    exact ⟨(Keep.of_bel (((Bel.refl _).alloc _).alloc _) []).at q1 (by simp), (Keep.of_bel ((Bel.refl _).alloc _) []).at q2 (by simp), q3⟩
  obtain ⟨k3, k4, k5⟩ := hk
  have c0 : w0.cell? ⟨b, 0, none⟩ = some (.pointer t.ptr) := (tblk_cell ((Keep.of_bel hB0 []).at h (by simp)) 0).trans rfl
  have e0 : w0.cell? ⟨w.heap.size, 0, none⟩ = some (.string c.k) := (tblk_cell k3 0).trans rfl
  have e1 : w0.cell? ⟨w.heap.size, 1, none⟩ = some (.int .i64 c.q) := (tblk_cell k3 1).trans rfl
  have e2 : w0.cell? ⟨w.heap.size, 2, none⟩ = some (.bool c.d) := (tblk_cell k3 2).trans rfl
  have e3 : w0.cell? ⟨w.heap.size, 3, none⟩ = some (.string c.v) := (tblk_cell k3 3).trans rfl
  have hbt : ∀ k ∈ t.bs, k ∉ [w.heap.size + 1, w.heap.size + 1 + 1] := fun k hk hm => by
    have := hT.lt k hk
    simp only [List.mem_cons, List.not_mem_nil, or_false] at hm
    omega
  have C0 := Lib.hid (eachF_any c (w.heap.size + 1) (w.heap.size + 1 + 1) (by omega) t hbt w0.drew zeroE false (hT.bel hB0.drew) hp k4 k5)
  have hb4 : b ∉ [w.heap.size + 1, w.heap.size + 1 + 1] := fun hm => by
    simp only [List.mem_cons, List.not_mem_nil, or_false] at hm
    omega
  have hs4 : w.heap.size ∉ [w.heap.size + 1, w.heap.size + 1 + 1] := fun hm => by
    simp only [List.mem_cons, List.not_mem_nil, or_false] at hm
    omega
  have HB4 := Lib.hid hb4; have HS4 := Lib.hid hs4; have HB0 := Lib.hid hB0
  have K4 := Lib.hid k4; have K5 := Lib.hid k5
  have HW := Lib.hid hw0
  clear h hT hp k3 k4 k5 hbt hb4 hs4 hlt
  obtain ⟨P, hP⟩ : ∃ P, (geE c t).head? = P := ⟨_, rfl⟩
  rw [hP]
  go_enter Tryz.func35, Tryz.ntmps35
  go_wp2_with (fail)
  rw [← hw0]
  clear hw0
  refine wp_region_held_drew (S := fun z => z.cell? ⟨b, 0, none⟩ = some (.pointer t.ptr) ∧ z.cell? ⟨w.heap.size, 0, none⟩ = some (.string c.k) ∧ z.cell? ⟨w.heap.size, 1, none⟩ = some (.int .i64 c.q) ∧ z.cell? ⟨w.heap.size, 2, none⟩ = some (.bool c.d) ∧ z.cell? ⟨w.heap.size, 3, none⟩ = some (.string c.v)) (by kernel_rfl) ⟨c0, e0, e1, e2, e3⟩ (fun hHeld => ?_)
  refine tk (oi := { dst := some 6, op := Op.move (Operand.tmp 0), type := 101, pos := "tree.go:78", after := #[], guard := none }) (v := ?_) 0 rfl ?_ ?_
  rotate_left
  · (intro w hSw; (try dsimp only at hSw); first | (go_simp; done) | (go_simp; with_reducible rfl))
  try simp only [Act.put, List.setIfInBounds_toArray, List.set_cons_zero, List.set_cons_succ]
  refine tk (oi := { dst := some 7, op := Op.nilCheck (Operand.tmp 6), type := 0, pos := "tree.go:78", after := #[{ on := 0, ground := Ground.data }], guard := none }) (v := ?_) 1 rfl ?_ ?_
  rotate_left
  · (intro w hSw; (try dsimp only at hSw); first | (go_simp; done) | (go_simp; with_reducible rfl))
  try simp only [Act.put, List.setIfInBounds_toArray, List.set_cons_zero, List.set_cons_succ]
  refine tk (oi := { dst := some 8, op := Op.fieldAddr 48 (Operand.tmp 7) 0, type := 0, pos := "tree.go:78", after := #[{ on := 1, ground := Ground.data }], guard := none }) (v := ?_) 2 rfl ?_ ?_
  rotate_left
  · (intro w hSw; (try dsimp only at hSw); first | (go_simp; done) | (go_simp; with_reducible rfl))
  try simp only [Act.put, List.setIfInBounds_toArray, List.set_cons_zero, List.set_cons_succ]
  refine tk (oi := { dst := some 9, op := Op.load 46 (Operand.tmp 8), type := 46, pos := "tree.go:78", after := #[{ on := 2, ground := Ground.data }], guard := none }) (v := ?_) 3 rfl ?_ ?_
  rotate_left
  · (intro w hSw; (try dsimp only at hSw); first | (go_simp; done) | (go_simp; with_reducible rfl))
  try simp only [Act.put, List.setIfInBounds_toArray, List.set_cons_zero, List.set_cons_succ]
  refine tk (oi := { dst := some 10, op := Op.load 55 (Operand.tmp 3), type := 55, pos := "tree.go:78", after := #[], guard := none }) (v := ?_) 4 rfl ?_ ?_
  rotate_left
  · (intro w hSw; (try dsimp only at hSw); first | (go_simp; done) | (go_simp; with_reducible rfl))
  try simp only [Act.put, List.setIfInBounds_toArray, List.set_cons_zero, List.set_cons_succ]
  refine tk (oi := { dst := some 11, op := Op.makeFunc (Fn.func 63) #[] #[Operand.tmp 4, Operand.tmp 5], type := 106, pos := "tree.go:78", after := #[], guard := none }) (v := ?_) 5 rfl ?_ ?_
  rotate_left
  · (intro w hSw; (try dsimp only at hSw); first | (go_simp; done) | (go_simp; with_reducible rfl))
  try simp only [Act.put, List.setIfInBounds_toArray, List.set_cons_zero, List.set_cons_succ]
  refine wpAnyH_ready (rs := [6]) (by kernel_rfl) (by simp) ?_
  refine AllReadyH.cons (o := { dst := some 12, op := Op.call { callee := Callee.value (Operand.func 44), args := #[Operand.tmp 9, Operand.tmp 10, Operand.tmp 11], argTypes := #[46, 55, 106] }, type := 4, pos := "tree.go:78", after := #[{ on := 3, ground := Ground.data }, { on := 4, ground := Ground.data }, { on := 5, ground := Ground.data }], guard := none }) rfl (fun K hK => ?_) AllReadyH.nil
  go_simp
  refine C0.out.mono ?_
  unfold FirstTo
  rw [hP]
  rintro r2 w2 ⟨rfl, hW⟩
  obtain ⟨k4, k5, hK2⟩ := hW.cells K4.out K5.out
  replace hK2 : Keep [w.heap.size + 1, w.heap.size + 1 + 1] w0 w2 := (Keep.of_bel (Bel.refl w0).drew _).trans hK2 (fun k hk => Or.inl hk)
  dsimp only
  refine hK.out _ _ ⟨hK2.cell c0 HB4.out, hK2.cell e0 HS4.out, hK2.cell e1 HS4.out, hK2.cell e2 HS4.out, hK2.cell e3 HS4.out⟩ (fun hHeld => ?_)
  clear hK K
  try simp only [Act.put, List.setIfInBounds_toArray, List.set_cons_zero, List.set_cons_succ]
  refine wpAnyH_done (by kernel_rfl) ?_ _
  have d0 : w2.cell? ⟨w.heap.size + 1, 0, none⟩ = some (.string (fstE P).k) := (tblk_cell k4 0).trans rfl
  have d1 : w2.cell? ⟨w.heap.size + 1, 1, none⟩ = some (.int .i64 (fstE P).q) := (tblk_cell k4 1).trans rfl
  have d2 : w2.cell? ⟨w.heap.size + 1, 2, none⟩ = some (.bool (fstE P).d) := (tblk_cell k4 2).trans rfl
  have d3 : w2.cell? ⟨w.heap.size + 1, 3, none⟩ = some (.string (fstE P).v) := (tblk_cell k4 3).trans rfl
  have d4 : w2.cell? ⟨w.heap.size + 1 + 1, 0, none⟩ = some (.bool P.isSome) := (tblk_cell k5 0).trans rfl
  have f0 := tblk_frozen k4 0
  have f1 := tblk_frozen k4 1
  have f2 := tblk_frozen k4 2
  have f3 := tblk_frozen k4 3
  have f4 := tblk_frozen k5 0
  have HB2 := Lib.hid (show Bel w w2 from ((Keep.of_bel HB0.out [w.heap.size + 1, w.heap.size + 1 + 1]).trans hK2 (fun k hk => Or.inl hk)).bel (fun k hk => by
    simp only [List.mem_cons, List.not_mem_nil, or_false] at hk
    omega))
  clear hW k4 k5 hK2 c0 e0 e1 e2 e3 hHeld C0
  go_wp2_with (fail)
  go_region_with (fail)
  all_goals go_wp2_with (fail)
  all_goals
    refine bodyPost_ret (v := .tuple #[.agg #[.string (fstE P).k, .int .i64 (fstE P).q, .bool (fstE P).d, .string (fstE P).v], .bool P.isSome]) (by simp [results, Tryz.results35, go_sem, d0, d1, d2, d3, d4, f0, f1, f2, f3, f4]) rfl ⟨rfl, ?_⟩
    repeat' first | exact HB2.out | refine Bel.setCell ?_ (by dsimp only; omega) _ | refine Bel.drew ?_ | refine Bel.drewN ?_ _
def PMAt (w : World) (b : Nat) (F : List Nat) (C : List EB) : Prop :=
  ∃ t : TT EB, w.heap[b]? = some (.cells (MBE t (C.length : Nat) (.int .i64 (sizeM C : Nat))) 50 (0, 0)) ∧ TAt NE w t ∧ t.bs.Nodup ∧ b ∉ t.bs ∧ t.flat = C ∧ F = b :: t.bs
theorem PMAt.lt {w : World} {b : Nat} {F : List Nat} {C : List EB} (h : PMAt w b F C) : ∀ k ∈ F, k < w.heap.size := by
  obtain ⟨t, h0, h1, -, -, -, rfl⟩ := h
  intro k hk
  rcases List.mem_cons.1 hk with rfl | hk
  · exact (Array.getElem?_eq_some_iff.1 h0).1
  · exact h1.lt k hk
theorem PMAt.keep {w x : World} {b : Nat} {F G : List Nat} {C : List EB} (h : PMAt w b F C) (hk : Keep G w x) (hF : ∀ k ∈ F, k ∉ G) : PMAt x b F C := by
  obtain ⟨t, h0, h1, h2, h3, h4, rfl⟩ := h
  exact ⟨t, hk.at h0 (hF b (by simp)), h1.keep hk (fun k hm => hF k (by simp [hm])), h2, h3, h4, rfl⟩
theorem order_of {t : TT EB} {C : List EB} (h : t.flat = C) (hs : standB C = true) : t.nodes.Pairwise (fun p q => lessB p.2 q.2 = true) := by
  have := stand_pair hs
  rw [← h, TT.flat, List.pairwise_map] at this
  exact this
set_option maxHeartbeats 1000000 in
theorem pnew_any (w : World) : Calls Tryz.prog 6 #[] w fun e w' => ∃ b F, e = .returned (.pointer (some ⟨b, 0, none⟩)) ∧ PMAt w' b F [] ∧ (∀ k ∈ F, w.heap.size ≤ k) ∧ Bel w w' := by
  go_enter Tryz.func6, Tryz.ntmps6
  go_wp2_with (fail)
  go_ret
  refine ⟨w.heap.size, [w.heap.size], rfl, ⟨.nil, tnew _ _, trivial, List.nodup_nil, by simp [TT.bs, TT.nodes], rfl, rfl⟩, by simp, (Bel.refl w).alloc _⟩
set_option maxHeartbeats 1000000 in
theorem plen_any (b : Nat) (F : List Nat) (C : List EB) (w : World) (h : PMAt w b F C) : Calls Tryz.prog 10 #[.pointer (some ⟨b, 0, none⟩)] w fun r w' => r = .returned (.int .i64 (C.length : Nat)) ∧ Bel w w' := by
  obtain ⟨t, h0, h1, h2, h3, h4, -⟩ := h
  have c1 : w.cell? ⟨b, 1, none⟩ = some (.int .i64 (C.length : Nat)) := (tblk_cell h0 1).trans rfl
  clear h0 h1 h2 h3 h4
  go_enter Tryz.func10, Tryz.ntmps10
  go_wp2_with (fail)
  go_ret
  exact ⟨rfl, Bel.refl w⟩
end Go.Proofs.YteimllgoelleeaaGreatDoor
/- The program's memory: Add. -/
set_option maxRecDepth 100000
namespace Go.Proofs.YteimllgoelleeaaGreatDoor
open Go.RowKit Go.Deep

theorem ins_split {e : EB} {r : List EB} (hr : ∀ x ∈ r, lessB e x = true) : ∀ {l : List EB}, (∀ x ∈ l, lessB x e = true) → insE e (l ++ r) = l ++ e :: r
  | [], _ => by
    cases r with
    | nil => rfl
    | cons x r =>
      show insE e (x :: r) = e :: x :: r
      rw [insE, if_neg (by rw [lessB_asymm (hr x (by simp))]; simp), if_pos (hr x (by simp))]
  | c :: l, h => by rw [List.cons_append, insE, if_pos (h c (by simp)), ins_split hr (fun x hx => h x (by simp [hx])), List.cons_append]
theorem put_new {t t' : TT EB} {C : List EB} {e : EB} {g : Nat} (hC : t.flat = C) (hr : rightB e = true) (h : ∃ l r, t.nodes = l ++ r ∧ t'.nodes = l ++ (g, e) :: r ∧ (∀ p ∈ l, lessB p.2 e = true) ∧ (∀ p ∈ r, lessB e p.2 = true)) :
    errM C e = 0 ∧ t'.flat = stepS C e ∧ (stepS C e).length = C.length + 1 ∧ sizeM (stepS C e) = sizeM C + (e.k.size + e.v.size) := by
  obtain ⟨l, r, h1, h2, h3, h4⟩ := h
  have e1 : C = l.map Prod.snd ++ r.map Prod.snd := by rw [← hC, TT.flat, h1, List.map_append]
  have a3 : ∀ x ∈ l.map Prod.snd, lessB x e = true := fun x hx => by obtain ⟨p, hp, rfl⟩ := List.mem_map.1 hx; exact h3 p hp
  have a4 : ∀ x ∈ r.map Prod.snd, lessB e x = true := fun x hx => by obtain ⟨p, hp, rfl⟩ := List.mem_map.1 hx; exact h4 p hp
  have hno : ¬ ∃ c ∈ C, sameB c e := by
    rintro ⟨c, hc, hs⟩
    rw [e1] at hc
    rcases List.mem_append.1 hc with hc | hc
    · have := a3 c hc; rw [same_less hs] at this; cases this
    · have := a4 c hc; rw [same_less (sameB_symm hs)] at this; cases this
  obtain ⟨b1, b2⟩ := err_ok hr hno
  have hi : stepS C e = l.map Prod.snd ++ e :: r.map Prod.snd := by rw [b2, e1]; exact ins_split a4 a3
  refine ⟨b1, by rw [hi, TT.flat, h2, List.map_append, List.map_cons], by rw [hi, e1]; simp only [List.length_append, List.length_cons]; omega, ?_⟩
  rw [hi, e1, size_app, size_app, sizeM]; omega
theorem put_old {t : TT EB} {C : List EB} {e : EB} {g : Nat} (hC : t.flat = C) (hs : standB C = true) (hr : rightB e = true) (h : ∃ x, (g, x) ∈ t.nodes ∧ lessB x e = false ∧ lessB e x = false) : errM C e = 5 ∧ stepS C e = C := by
  obtain ⟨x, h1, h2, h3⟩ := h
  refine err_there (stand_pair hs) hr ⟨x, ?_, ?_⟩
  · rw [← hC, TT.flat]; exact List.mem_map_of_mem (f := Prod.snd) h1
  · rcases less_or x e with h | h | h
    · rw [h2] at h; cases h
    · exact h
    · rw [h3] at h; cases h
theorem wrap64_small {a : Int} (h : -9223372036854775808 ≤ a) (h' : a < 9223372036854775808) : IntKind.i64.wrap a = a := by
  rw [IntKind.wrap_i64]; omega
theorem size_holds {C : List EB} (h : Holds C) : sizeM C ≤ 26200000 := by
  have h1 : ∀ e ∈ C, e.k.size + e.v.size ≤ 26200 := fun e he => by
    have hr := stand_right h.1 e he
    unfold rightB at hr
    rw [Bool.and_eq_true, Bool.and_eq_true, Bool.and_eq_true, Bool.and_eq_true, decide_eq_true_iff, decide_eq_true_iff, decide_eq_true_iff, decide_eq_true_iff] at hr
    obtain ⟨⟨⟨⟨h1, h2⟩, h3⟩, h4⟩, -⟩ := hr
    omega
  have h2 := size_le h1
  have h3 := h.2
  omega
set_option maxHeartbeats 4000000 in
theorem padd_any (b : Nat) (F : List Nat) (C : List EB) (e : EB) (w : World) (h : PMAt w b F C) (hH : Holds C) (hf : e.fits) (hv : e.v.size ≤ 1000000) :
    Calls Tryz.prog 7 #[.pointer (some ⟨b, 0, none⟩), .agg #[.string e.k, .int .i64 e.q, .bool e.d, .string e.v]] w fun r w' => ∃ F', r = .returned (.int .i64 (errM C e)) ∧ PMAt w' b F' (stepS C e) ∧ (∀ k ∈ F', k ∈ F ∨ w.heap.size ≤ k) ∧ Keep F w w' := by
  have hSZ := size_holds hH
  obtain ⟨w0, hw0⟩ : ∃ z, z = w.alloc (.cells #[.string e.k, .int .i64 e.q, .bool e.d, .string e.v] 30) := ⟨_, rfl⟩
  have hB0 : Bel w w0 := by rw [hw0]; exact (Bel.refl w).alloc _
  have k0 : w0.heap[w.heap.size]? = some (.cells #[.string e.k, .int .i64 e.q, .bool e.d, .string e.v] 30 (0, 0)) := by rw [hw0]; exact tnew w _
  have HB0 := Lib.hid hB0
  have FE := Lib.hid (fun w1 (hb : Bel w0 w1) => (show w1.cell? ⟨w.heap.size, 0, none⟩ = some (.string e.k) ∧ w1.cell? ⟨w.heap.size, 1, none⟩ = some (.int .i64 e.q) ∧ w1.cell? ⟨w.heap.size, 2, none⟩ = some (.bool e.d) ∧ w1.cell? ⟨w.heap.size, 3, none⟩ = some (.string e.v) from
    ⟨(cell_at_later k0 hb 0).trans rfl, (cell_at_later k0 hb 1).trans rfl, (cell_at_later k0 hb 2).trans rfl, (cell_at_later k0 hb 3).trans rfl⟩))
  obtain ⟨e0, e1, e2, e3⟩ := FE.out w0 (Bel.refl _)
  rw [hw0] at e0 e1 e2 e3
  have HH := Lib.hid h
  clear h k0
  go_enter Tryz.func7, Tryz.ntmps7
  go_wp2_with (fail)
  refine (pright_any e _ hf hv).mono ?_
  rintro r1 w1 ⟨rfl, hb⟩
  have hb1 : Bel w0 w1 := by rw [hw0]; exact hb
  clear e0 e1 e2 e3 hb
  have HB1 := Lib.hid hb1
  cases hr : rightB e with
  | false =>
    obtain ⟨q1, q2⟩ := err_arg (C := C) hr
    have HQ := Lib.hid (And.intro q1 q2)
    clear q1 q2 hb1
    go_wp2_with (fail)
    go_ret
    exact ⟨F, by rw [HQ.out.1]; rfl, by rw [HQ.out.2]; exact HH.out.keep (Keep.of_bel (HB0.out.trans HB1.out) []) (fun _ _ hm => by cases hm), fun k hk => .inl hk, Keep.of_bel (HB0.out.trans HB1.out) _⟩
  | true =>
    obtain ⟨e0, e1, e2, e3⟩ := FE.out w1 hb1
    have hke : e.k.size ≤ 1200 ∧ e.v.size ≤ 25000 := by
      unfold rightB at hr
      rw [Bool.and_eq_true, Bool.and_eq_true, Bool.and_eq_true, Bool.and_eq_true, decide_eq_true_iff, decide_eq_true_iff, decide_eq_true_iff, decide_eq_true_iff] at hr
      exact ⟨hr.1.1.1.1, hr.1.2⟩
    obtain ⟨hk1, hk2⟩ := hke
    have HR := Lib.hid hr
    obtain ⟨t, h0, hT, hn, hbt, hC, rfl⟩ := HH.out.keep (Keep.of_bel (HB0.out.trans HB1.out) []) (fun _ _ hm => by cases hm)
    have hlt0 := HH.out.lt
    have C0 := Lib.hid (putE_any e t (C.length : Nat) (.int .i64 (sizeM C : Nat)) b w1.drew h0 (hT.bel (Bel.refl w1).drew) hn hbt (order_of hC hH.1) (by omega) (by have := hH.2; omega))
    have HBX := Lib.hid (show w.heap.size ∉ b :: t.bs from fun hm => by have := hlt0 _ hm; omega)
    have HC := Lib.hid hC
    have HX0 := Lib.hid h0
    have HNB := Lib.hid hbt
    have HST := Lib.hid hH
    have HSub := Lib.hid hw0
    clear hb1 HH h0 hT hn hbt hC hlt0 hr hw0 hH
    go_wp2_with (fail)
    refine wp_region_held_drew (S := fun z => z.cell? ⟨w.heap.size, 0, none⟩ = some (.string e.k) ∧ z.cell? ⟨w.heap.size, 1, none⟩ = some (.int .i64 e.q) ∧ z.cell? ⟨w.heap.size, 2, none⟩ = some (.bool e.d) ∧ z.cell? ⟨w.heap.size, 3, none⟩ = some (.string e.v)) (by kernel_rfl) ⟨e0, e1, e2, e3⟩ (fun hHeld => ?_)
    refine tk (oi := { dst := some 11, op := Op.move (Operand.tmp 0), type := 25, pos := "memory.go:38", after := #[], guard := none }) (v := ?_) 0 rfl ?_ ?_
    rotate_left
    · (intro w hSw; (try dsimp only at hSw); first | (go_simp; done) | (go_simp; with_reducible rfl))
    try simp only [Act.put, List.setIfInBounds_toArray, List.set_cons_zero, List.set_cons_succ]
    refine tk (oi := { dst := some 12, op := Op.nilCheck (Operand.tmp 11), type := 0, pos := "memory.go:38", after := #[{ on := 0, ground := Ground.data }], guard := none }) (v := ?_) 1 rfl ?_ ?_
    rotate_left
    · (intro w hSw; (try dsimp only at hSw); first | (go_simp; done) | (go_simp; with_reducible rfl))
    try simp only [Act.put, List.setIfInBounds_toArray, List.set_cons_zero, List.set_cons_succ]
    refine tk (oi := { dst := some 13, op := Op.fieldAddr 50 (Operand.tmp 12) 0, type := 0, pos := "memory.go:38", after := #[{ on := 1, ground := Ground.data }], guard := none }) (v := ?_) 2 rfl ?_ ?_
    rotate_left
    · (intro w hSw; (try dsimp only at hSw); first | (go_simp; done) | (go_simp; with_reducible rfl))
    try simp only [Act.put, List.setIfInBounds_toArray, List.set_cons_zero, List.set_cons_succ]
    refine tk (oi := { dst := some 14, op := Op.load 30 (Operand.tmp 3), type := 30, pos := "memory.go:38", after := #[], guard := none }) (v := ?_) 3 rfl ?_ ?_
    rotate_left
    · (intro w hSw; (try dsimp only at hSw); first | (go_simp; done) | (go_simp; with_reducible rfl))
    try simp only [Act.put, List.setIfInBounds_toArray, List.set_cons_zero, List.set_cons_succ]
    refine wpAnyH_ready (rs := [4]) (by kernel_rfl) (by simp) ?_
    refine AllReadyH.cons (o := { dst := some 15, op := Op.call { callee := Callee.value (Operand.func 22), args := #[Operand.tmp 13, Operand.tmp 14], argTypes := #[48, 55] }, type := 53, pos := "memory.go:38", after := #[{ on := 2, ground := Ground.data }, { on := 3, ground := Ground.data }], guard := none }) rfl (fun K hK => ?_) AllReadyH.nil
    go_simp
    refine C0.out.mono ?_
    rintro r2 w2 ⟨t', g, nw, rfl, hx, hT2, hn2, hP, hK2, hs2⟩
    have hkx : Keep (b :: t.bs) w1 w2 := (Keep.of_bel (Bel.refl w1).drew _).trans hK2 (fun k hk => Or.inl hk)
    replace e0 := hkx.cell e0 HBX.out
    replace e1 := hkx.cell e1 HBX.out
    replace e2 := hkx.cell e2 HBX.out
    replace e3 := hkx.cell e3 HBX.out
    dsimp only
    refine hK.out _ _ ⟨e0, e1, e2, e3⟩ (fun hHeld => ?_)
    clear hK K
    try simp only [Act.put, List.setIfInBounds_toArray, List.set_cons_zero, List.set_cons_succ]
    refine tk (oi := { dst := some 10, op := Op.move (Operand.tmp 15), type := 53, pos := "memory.go:38", after := #[{ on := 4, ground := Ground.data }], guard := none }) (v := ?_) 5 rfl ?_ ?_
    rotate_left
    · (intro w hSw; (try dsimp only at hSw); first | (go_simp; done) | (go_simp; with_reducible rfl))
    try simp only [Act.put, List.setIfInBounds_toArray, List.set_cons_zero, List.set_cons_succ]
    refine tk (oi := { dst := some 16, op := Op.extract (Operand.tmp 10) 0, type := 52, pos := "memory.go:38", after := #[{ on := 5, ground := Ground.data }], guard := none }) (v := ?_) 6 rfl ?_ ?_
    rotate_left
    · (intro w hSw; (try dsimp only at hSw); first | (go_simp; done) | (go_simp; with_reducible rfl))
    try simp only [Act.put, List.setIfInBounds_toArray, List.set_cons_zero, List.set_cons_succ]
    refine tk (oi := { dst := some 17, op := Op.extract (Operand.tmp 10) 1, type := 4, pos := "memory.go:38", after := #[{ on := 5, ground := Ground.data }, { on := 8, ground := Ground.gcOnly Departure.lateStores }], guard := none }) (v := ?_) 7 rfl ?_ ?_
    rotate_left
    · (intro w hSw; (try dsimp only at hSw); first | (go_simp; done) | (go_simp; with_reducible rfl))
    try simp only [Act.put, List.setIfInBounds_toArray, List.set_cons_zero, List.set_cons_succ]
    refine tk (oi := { dst := some 5, op := Op.assign (Operand.tmp 16), type := 52, pos := "memory.go:38", after := #[{ on := 6, ground := Ground.data }, { on := 4, ground := Ground.chain }, { on := 0, ground := Ground.phase }, { on := 1, ground := Ground.phase }, { on := 2, ground := Ground.phase }, { on := 3, ground := Ground.phase }, { on := 4, ground := Ground.phase }, { on := 5, ground := Ground.phase }, { on := 6, ground := Ground.phase }, { on := 7, ground := Ground.textOnly Departure.lateStores }], guard := none }) (v := ?_) 8 rfl ?_ ?_
    rotate_left
    · (intro w hSw; (try dsimp only at hSw); first | (go_simp; done) | (go_simp; with_reducible rfl))
    try simp only [Act.put, List.setIfInBounds_toArray, List.set_cons_zero, List.set_cons_succ]
    refine tk (oi := { dst := some 6, op := Op.assign (Operand.tmp 17), type := 4, pos := "memory.go:38", after := #[{ on := 7, ground := Ground.data }, { on := 8, ground := Ground.chain }, { on := 0, ground := Ground.phase }, { on := 1, ground := Ground.phase }, { on := 2, ground := Ground.phase }, { on := 3, ground := Ground.phase }, { on := 4, ground := Ground.phase }, { on := 5, ground := Ground.phase }, { on := 6, ground := Ground.phase }, { on := 7, ground := Ground.phase }, { on := 8, ground := Ground.phase }], guard := none }) (v := ?_) 9 rfl ?_ ?_
    rotate_left
    · (intro w hSw; (try dsimp only at hSw); first | (go_simp; done) | (go_simp; with_reducible rfl))
    try simp only [Act.put, List.setIfInBounds_toArray, List.set_cons_zero, List.set_cons_succ]
    refine wpAnyH_done (by kernel_rfl) ?_ _
    have HX := Lib.hid hx
    have HW := Lib.hid (And.intro hT2 (And.intro hn2 (And.intro hkx hs2)))
    cases nw with
    | false =>
      have hP2 : t'.nodes = t.nodes ∧ ∃ x, (g, x) ∈ t.nodes ∧ lessB x e = false ∧ lessB e x = false := by
        rcases hP with ⟨h, -⟩ | ⟨-, h⟩
        · cases h
        · exact h
      have HP := Lib.hid hP2
      clear hP hP2 hx hT2 hn2 hkx hs2 hK2 e0 e1 e2 e3 hHeld
      go_wp2_with (fail)
      go_ret
      obtain ⟨a1, a2, a3, a4⟩ := HW.out
      obtain ⟨q1, q2⟩ := put_old HC.out HST.out.1 HR.out HP.out.2
      have hf : t'.flat = C := by rw [← HC.out]; unfold TT.flat; rw [HP.out.1]
      have hbs : t'.bs = t.bs := by unfold TT.bs; rw [HP.out.1]
      refine ⟨b :: t'.bs, by rw [q1]; rfl, ?_, fun k hk => .inl (by rw [← hbs]; exact hk), (Keep.of_bel (HB0.out.trans HB1.out) _).trans a3 (fun k hk => Or.inl hk)⟩
      rw [q2]
      exact ⟨t', HX.out, a1, a2, by rw [hbs]; exact HNB.out, hf, rfl⟩
    | true =>
      have hP2 : w1.heap.size ≤ g ∧ ∃ l r, t.nodes = l ++ r ∧ t'.nodes = l ++ (g, e) :: r ∧ (∀ p ∈ l, lessB p.2 e = true) ∧ (∀ p ∈ r, lessB e p.2 = true) := by
        rcases hP with ⟨-, h⟩ | ⟨h, -⟩
        · exact h
        · cases h
      have HP := Lib.hid hP2
      have m2 : w2.cell? ⟨b, 2, none⟩ = some (.int .i64 (sizeM C : Nat)) := (tblk_cell hx 2).trans rfl
      have f2 := tblk_frozen hx 2
      clear hP hP2 hx hT2 hn2 hkx hs2 hK2 hHeld e1 e2
      go_wp2_with (fail)
      have hq1 : ((sizeM C : Nat) : Int) ≤ 26200000 := by omega
      refine region_L 14 (S := fun z => z.cell? ⟨w.heap.size, 0, none⟩ = some (.string e.k) ∧ z.cell? ⟨w.heap.size, 3, none⟩ = some (.string e.v) ∧ z.cell? ⟨b, 2, none⟩ = some (.int .i64 (sizeM C : Nat)) ∧ z.frozen? ⟨b, 2, none⟩ = false) (by kernel_rfl) ⟨e0, e3, m2, f2⟩ (fun hHeld => ?_)
      refine AnyL.take (i := 0) (oi := { dst := some 20, op := Op.move (Operand.tmp 0), type := 25, pos := "memory.go:41", after := #[], guard := none }) (v := ?_) rfl (by decide) (by kernel_rfl) (by kernel_rfl) (by kernel_rfl) (by kernel_rfl) (fun _ _ _ h => h) (Or.inl ⟨by rfl, ?_⟩) (by assumption) ?_
      rotate_left
      · (intro w hSw; (try dsimp only at hSw); first | (go_simp; done) | (go_simp; with_reducible rfl))
      try simp only [Act.put, List.setIfInBounds_toArray, List.set_cons_zero, List.set_cons_succ]
      refine AnyL.take (i := 1) (oi := { dst := some 21, op := Op.nilCheck (Operand.tmp 20), type := 0, pos := "memory.go:41", after := #[{ on := 0, ground := Ground.data }], guard := none }) (v := ?_) rfl (by decide) (by kernel_rfl) (by kernel_rfl) (by kernel_rfl) (by kernel_rfl) (fun _ _ _ h => h) (Or.inl ⟨by rfl, ?_⟩) (by assumption) ?_
      rotate_left
      · (intro w hSw; (try dsimp only at hSw); first | (go_simp; done) | (go_simp; with_reducible rfl))
      try simp only [Act.put, List.setIfInBounds_toArray, List.set_cons_zero, List.set_cons_succ]
      refine AnyL.take (i := 2) (oi := { dst := some 22, op := Op.fieldAddr 50 (Operand.tmp 21) 1, type := 0, pos := "memory.go:41", after := #[{ on := 1, ground := Ground.data }], guard := none }) (v := ?_) rfl (by decide) (by kernel_rfl) (by kernel_rfl) (by kernel_rfl) (by kernel_rfl) (fun _ _ _ h => h) (Or.inl ⟨by rfl, ?_⟩) (by assumption) ?_
      rotate_left
      · (intro w hSw; (try dsimp only at hSw); first | (go_simp; done) | (go_simp; with_reducible rfl))
      try simp only [Act.put, List.setIfInBounds_toArray, List.set_cons_zero, List.set_cons_succ]
      refine AnyL.take (i := 3) (oi := { dst := some 23, op := Op.load 3 (Operand.tmp 22), type := 3, pos := "memory.go:41", after := #[{ on := 2, ground := Ground.data }], guard := none }) (v := ?_) rfl (by decide) (by kernel_rfl) (by kernel_rfl) (by kernel_rfl) (by kernel_rfl) (fun _ _ _ h => h) (Or.inl ⟨by rfl, ?_⟩) (by assumption) ?_
      rotate_left
      · (intro w hSw; (try dsimp only at hSw); first | (go_simp; done) | (go_simp; with_reducible rfl))
      try simp only [Act.put, List.setIfInBounds_toArray, List.set_cons_zero, List.set_cons_succ]
      refine AnyL.take (i := 4) (oi := { dst := some 24, op := Op.fieldAddr 30 (Operand.tmp 3) 0, type := 0, pos := "memory.go:41", after := #[], guard := none }) (v := ?_) rfl (by decide) (by kernel_rfl) (by kernel_rfl) (by kernel_rfl) (by kernel_rfl) (fun _ _ _ h => h) (Or.inl ⟨by rfl, ?_⟩) (by assumption) ?_
      rotate_left
      · (intro w hSw; (try dsimp only at hSw); first | (go_simp; done) | (go_simp; with_reducible rfl))
      try simp only [Act.put, List.setIfInBounds_toArray, List.set_cons_zero, List.set_cons_succ]
      refine AnyL.take (i := 5) (oi := { dst := some 25, op := Op.load 9 (Operand.tmp 24), type := 9, pos := "memory.go:41", after := #[{ on := 4, ground := Ground.data }], guard := none }) (v := ?_) rfl (by decide) (by kernel_rfl) (by kernel_rfl) (by kernel_rfl) (by kernel_rfl) (fun _ _ _ h => h) (Or.inl ⟨by rfl, ?_⟩) (by assumption) ?_
      rotate_left
      · (intro w hSw; (try dsimp only at hSw); first | (go_simp; done) | (go_simp; with_reducible rfl))
      try simp only [Act.put, List.setIfInBounds_toArray, List.set_cons_zero, List.set_cons_succ]
      refine AnyL.take (i := 6) (oi := { dst := some 26, op := Op.call { callee := Callee.builtin Builtin.len, args := #[Operand.tmp 25], argTypes := #[9] }, type := 3, pos := "memory.go:41", after := #[{ on := 5, ground := Ground.data }], guard := none }) (v := ?_) rfl (by decide) (by kernel_rfl) (by kernel_rfl) (by kernel_rfl) (by kernel_rfl) (fun _ _ _ h => h) (Or.inl ⟨by rfl, ?_⟩) (by assumption) ?_
      rotate_left
      · (intro w hSw; (try dsimp only at hSw); first | (go_simp; done) | (go_simp; with_reducible rfl))
      try simp only [Act.put, List.setIfInBounds_toArray, List.set_cons_zero, List.set_cons_succ]
      refine AnyL.take (i := 7) (oi := { dst := some 27, op := Op.fieldAddr 30 (Operand.tmp 3) 3, type := 0, pos := "memory.go:41", after := #[], guard := none }) (v := ?_) rfl (by decide) (by kernel_rfl) (by kernel_rfl) (by kernel_rfl) (by kernel_rfl) (fun _ _ _ h => h) (Or.inl ⟨by rfl, ?_⟩) (by assumption) ?_
      rotate_left
      · (intro w hSw; (try dsimp only at hSw); first | (go_simp; done) | (go_simp; with_reducible rfl))
      try simp only [Act.put, List.setIfInBounds_toArray, List.set_cons_zero, List.set_cons_succ]
      refine AnyL.take (i := 8) (oi := { dst := some 28, op := Op.load 9 (Operand.tmp 27), type := 9, pos := "memory.go:41", after := #[{ on := 7, ground := Ground.data }], guard := none }) (v := ?_) rfl (by decide) (by kernel_rfl) (by kernel_rfl) (by kernel_rfl) (by kernel_rfl) (fun _ _ _ h => h) (Or.inl ⟨by rfl, ?_⟩) (by assumption) ?_
      rotate_left
      · (intro w hSw; (try dsimp only at hSw); first | (go_simp; done) | (go_simp; with_reducible rfl))
      try simp only [Act.put, List.setIfInBounds_toArray, List.set_cons_zero, List.set_cons_succ]
      refine AnyL.take (i := 9) (oi := { dst := some 29, op := Op.call { callee := Callee.builtin Builtin.len, args := #[Operand.tmp 28], argTypes := #[9] }, type := 3, pos := "memory.go:41", after := #[{ on := 8, ground := Ground.data }], guard := none }) (v := ?_) rfl (by decide) (by kernel_rfl) (by kernel_rfl) (by kernel_rfl) (by kernel_rfl) (fun _ _ _ h => h) (Or.inl ⟨by rfl, ?_⟩) (by assumption) ?_
      rotate_left
      · (intro w hSw; (try dsimp only at hSw); first | (go_simp; done) | (go_simp; with_reducible rfl))
      try simp only [Act.put, List.setIfInBounds_toArray, List.set_cons_zero, List.set_cons_succ]
      refine AnyL.take (i := 10) (oi := { dst := some 30, op := Op.binOp BinOp.add 3 (Operand.tmp 26) (Operand.tmp 29) 3, type := 3, pos := "memory.go:41", after := #[{ on := 6, ground := Ground.data }, { on := 9, ground := Ground.data }], guard := none }) (v := ?_) rfl (by decide) (by kernel_rfl) (by kernel_rfl) (by kernel_rfl) (by kernel_rfl) (fun _ _ _ h => h) (Or.inl ⟨by rfl, ?_⟩) (by assumption) ?_
      rotate_left
      · (intro w hSw; (try dsimp only at hSw); first | (go_simp; done) | (go_simp; with_reducible rfl))
      try simp only [Act.put, List.setIfInBounds_toArray, List.set_cons_zero, List.set_cons_succ]
      refine AnyL.take (i := 11) (oi := { dst := some 31, op := Op.binOp BinOp.add 3 (Operand.tmp 23) (Operand.tmp 30) 3, type := 3, pos := "memory.go:41", after := #[{ on := 3, ground := Ground.data }, { on := 10, ground := Ground.data }], guard := none }) (v := ?_) rfl (by decide) (by kernel_rfl) (by kernel_rfl) (by kernel_rfl) (by kernel_rfl) (fun _ _ _ h => h) (Or.inl ⟨by rfl, ?_⟩) (by assumption) ?_
      rotate_left
      · (intro w hSw; (try dsimp only at hSw); first | (go_simp; done) | (go_simp; with_reducible rfl))
      try simp only [Act.put, List.setIfInBounds_toArray, List.set_cons_zero, List.set_cons_succ]
      refine AnyL.ready (rs := [12]) (by kernel_rfl) (by simp) ?_
      refine (AllL.cons (o := { dst := some 32, op := Op.nilCheck (Operand.tmp 20), type := 0, pos := "memory.go:41", after := #[{ on := 0, ground := Ground.data }, { on := 0, ground := Ground.phase }, { on := 1, ground := Ground.phase }, { on := 2, ground := Ground.phase }, { on := 3, ground := Ground.phase }, { on := 4, ground := Ground.phase }, { on := 5, ground := Ground.phase }, { on := 6, ground := Ground.phase }, { on := 7, ground := Ground.phase }, { on := 8, ground := Ground.phase }, { on := 9, ground := Ground.phase }, { on := 10, ground := Ground.phase }, { on := 11, ground := Ground.phase }], guard := none }) rfl (fun K hK => ?_) AllL.nil)
      go_simp
      refine hK.out _ _ (fun _ => ⟨e0, e3, m2, f2⟩) ?_
      clear hK K
      try simp only [Act.put, List.setIfInBounds_toArray, List.set_cons_zero, List.set_cons_succ]
      refine AnyL.take (i := 13) (oi := { dst := some 33, op := Op.fieldAddr 50 (Operand.tmp 32) 1, type := 0, pos := "memory.go:41", after := #[{ on := 12, ground := Ground.data }, { on := 0, ground := Ground.phase }, { on := 1, ground := Ground.phase }, { on := 2, ground := Ground.phase }, { on := 3, ground := Ground.phase }, { on := 4, ground := Ground.phase }, { on := 5, ground := Ground.phase }, { on := 6, ground := Ground.phase }, { on := 7, ground := Ground.phase }, { on := 8, ground := Ground.phase }, { on := 9, ground := Ground.phase }, { on := 10, ground := Ground.phase }, { on := 11, ground := Ground.phase }], guard := none }) (v := ?_) rfl (by decide) (by kernel_rfl) (by kernel_rfl) (by kernel_rfl) (by kernel_rfl) (fun _ _ _ h => h) (Or.inl ⟨by rfl, ?_⟩) (by assumption) ?_
      rotate_left
      · (intro w hSw; (try dsimp only at hSw); first | (go_simp; done) | (go_simp; with_reducible rfl))
      try simp only [Act.put, List.setIfInBounds_toArray, List.set_cons_zero, List.set_cons_succ]
      refine AnyL.ready (rs := [14]) (by kernel_rfl) (by simp) ?_
      refine (AllL.cons (o := { dst := none, op := Op.store 3 (Operand.tmp 33) (Operand.tmp 31), type := 0, pos := "memory.go:41", after := #[{ on := 13, ground := Ground.data }, { on := 11, ground := Ground.data }, { on := 0, ground := Ground.phase }, { on := 1, ground := Ground.phase }, { on := 2, ground := Ground.phase }, { on := 3, ground := Ground.phase }, { on := 4, ground := Ground.phase }, { on := 5, ground := Ground.phase }, { on := 6, ground := Ground.phase }, { on := 7, ground := Ground.phase }, { on := 8, ground := Ground.phase }, { on := 9, ground := Ground.phase }, { on := 10, ground := Ground.phase }, { on := 11, ground := Ground.phase }], guard := none }) rfl (fun K hK => ?_) AllL.nil)
      go_simp
      refine hK.out _ _ (fun h => absurd rfl h) ?_
      clear hK K
      refine AnyL.done (by kernel_rfl) ?_ _
      go_wp2_with (fail)
      go_ret
      obtain ⟨a1, a2, a3, a4⟩ := HW.out
      obtain ⟨q0, q1, q2, q3⟩ := put_new HC.out HR.out HP.out.2
      have hadd : IntKind.i64.wrap (((sizeM C : Nat) : Int) + IntKind.i64.wrap ((e.k.size : Int) + (e.v.size : Int))) = ((sizeM (stepS C e) : Nat) : Int) := by
        have w1 : IntKind.i64.wrap ((e.k.size : Int) + (e.v.size : Int)) = (e.k.size : Int) + (e.v.size : Int) := wrap64_small (by omega) (by omega)
        rw [w1, q3]
        rw [wrap64_small (by omega) (by omega)]
        omega
      rw [hadd]
      have hbt : b ∉ t'.bs := fun hm => by
        rcases a4 b hm with h | h
        · exact HNB.out h
        · have q := (Array.getElem?_eq_some_iff.1 HX0.out).1
          have h : w1.heap.size ≤ b := h
          omega
      have hks : Keep [b] w2 (w2.setCell ⟨b, 2, none⟩ (.int .i64 ((sizeM (stepS C e) : Nat) : Int))).drew := (tkeep_set w2 b 2 _).then (Bel.refl _).drew
      refine ⟨b :: t'.bs, by rw [q0]; rfl, ⟨t', ?_, a1.keep hks (fun k hk hh => by rw [List.mem_singleton] at hh; subst hh; exact hbt hk), a2, hbt, q1, rfl⟩, fun k hk => ?_, ?_⟩
      · have hset := tblk_set HX.out 2 (.int .i64 ((sizeM (stepS C e) : Nat) : Int))
        rw [q2]
        exact hset
      · rcases List.mem_cons.1 hk with rfl | hk
        · exact .inl (by simp)
        · rcases a4 k hk with h | h
          · exact .inl (by simp [h])
          · have h : w1.heap.size ≤ k := h
            right; have := (HB0.out.trans HB1.out).size; omega
      · exact ((Keep.of_bel (HB0.out.trans HB1.out) _).trans a3 (fun k hk => Or.inl hk)).trans hks (fun k hk => by rw [List.mem_singleton] at hk; exact .inl (by simp [hk]))
end Go.Proofs.YteimllgoelleeaaGreatDoor
/- The program's memory: Get; headOf. -/
set_option maxRecDepth 100000
namespace Go.Proofs.YteimllgoelleeaaGreatDoor
open Go.RowKit Go.Deep

theorem get_first {c : EB} : ∀ {C : List EB}, C.Pairwise (fun a b => lessB a b = true) → getE c.k.data.toList c.q C = (match C.find? (fun x => !lessB x c) with | some x => if x.k.data.toList = c.k.data.toList then some x else none | none => none)
  | [], _ => rfl
  | x :: C, hp => by
    rw [List.pairwise_cons] at hp
    have ih := get_first (c := c) hp.2
    cases h : lessB x c with
    | true =>
      have hn : hitB c.k.data.toList c.q x = false := by
        cases hh : hitB c.k.data.toList c.q x with
        | false => rfl
        | true =>
          unfold hitB at hh
          rw [Bool.and_eq_true, beq_iff_eq, decide_eq_true_iff] at hh
          unfold lessB at h
          rw [hh.1, less_irrefl, Bool.false_or, Bool.and_eq_true, decide_eq_true_iff] at h
          omega
      rw [List.find?_cons_of_neg (by simp [h]), ← ih]
      unfold getE
      rw [List.find?_cons_of_neg (by rw [hn]; simp)]
    | false =>
      rw [List.find?_cons_of_pos (by simp [h])]
      by_cases hk : x.k.data.toList = c.k.data.toList
      · have hq : x.q ≤ c.q := by
          unfold lessB at h
          rw [hk, less_irrefl, Bool.false_or, beq_self_eq_true, Bool.true_and, decide_eq_false_iff_not] at h
          omega
        simp only [hk, if_true]
        unfold getE
        rw [List.find?_cons_of_pos (by unfold hitB; rw [hk, beq_self_eq_true, decide_eq_true hq]; rfl)]
      · simp only [hk, if_false]
        unfold getE
        rw [List.find?_eq_none]
        intro y hy hh
        unfold hitB at hh
        rw [Bool.and_eq_true, beq_iff_eq, decide_eq_true_iff] at hh
        rcases List.mem_cons.1 hy with rfl | hy
        · exact hk hh.1
        · have h1 := hp.1 y hy
          unfold lessB at h h1
          rw [Bool.or_eq_false_iff] at h
          rw [hh.1, h.1, Bool.false_or, Bool.and_eq_true, beq_iff_eq] at h1
          exact hk h1.1
theorem first11_of {t : TT EB} {C : List EB} {c : EB} (h : t.flat = C) : (geE c t).head?.map Prod.snd = C.find? (fun x => !lessB x c) := by
  rw [← h, TT.flat, geE, List.head?_filter, List.find?_map]
  rfl
theorem get_of {t : TT EB} {C : List EB} {c : EB} (h : t.flat = C) (hs : standB C = true) : getE c.k.data.toList c.q C = (match (geE c t).head? with | some p => if p.2.k.data.toList = c.k.data.toList then some p.2 else none | none => none) := by
  rw [get_first (stand_pair hs), ← first11_of h]
  cases (geE c t).head? <;> rfl
set_option maxHeartbeats 1000000 in
theorem headOf_any (key : ByteArray) (w : World) :
    Calls Tryz.prog 24 #[.string key] w fun r w' => r = .returned (.agg #[.string key, .int .i64 9223372036854775807, .bool false, .string ⟨#[]⟩]) ∧ Bel w w' := by
  obtain ⟨w1, hw1⟩ : ∃ z, z = w.alloc (.cells #[.string ⟨#[]⟩, .int .i64 0, .bool false, .string ⟨#[]⟩] 55) := ⟨_, rfl⟩
  have HB := Lib.hid (show Bel w w1 by rw [hw1]; exact (Bel.refl w).alloc _)
  go_enter Tryz.func24, Tryz.ntmps24
  go_wp2_with (fail)
  refine bodyPost_ret (v := .agg #[.string key, .int .i64 9223372036854775807, .bool false, .string ⟨#[]⟩]) (by simp [results, Tryz.results24, go_sem]) rfl ⟨rfl, ?_⟩
  repeat' first | exact Bel.refl w | refine Bel.setCell ?_ (by simp) _ | refine Bel.alloc ?_ _
set_option maxHeartbeats 4000000 in
theorem pget_any (b : Nat) (F : List Nat) (C : List EB) (key : ByteArray) (q : Int) (w : World) (h : PMAt w b F C) (hH : Holds C) :
    Calls Tryz.prog 13 #[.pointer (some ⟨b, 0, none⟩), .string key, .int .i64 q] w fun r w' => r = .returned (getM (getE key.data.toList q C)) ∧ Bel w w' := by
  obtain ⟨t, h0, hT, hn, hbt, hC, -⟩ := h
  have HG := Lib.hid (get_of (c := ⟨key, q, false, ⟨#[]⟩⟩) hC hH.1)
  obtain ⟨w1, hw1⟩ : ∃ z, z = w.alloc (.cells #[.string ⟨#[]⟩, .int .i64 0, .bool false, .string ⟨#[]⟩] 30) := ⟨_, rfl⟩
  have hB : Bel w w1 := by rw [hw1]; exact (Bel.refl w).alloc _
  have k0 : w1.heap[w.heap.size]? = some (.cells #[.string ⟨#[]⟩, .int .i64 0, .bool false, .string ⟨#[]⟩] 30 (0, 0)) := by rw [hw1]; exact tnew w _
  have C0 := Lib.hid (first_any11 ⟨key, q, false, ⟨#[]⟩⟩ t (C.length : Nat) (.int .i64 (sizeM C : Nat)) b w1 ((Keep.of_bel hB []).at h0 (by simp)) (hT.bel hB) (order_of hC hH.1))
  have FY := Lib.hid (fun w2 (hb : Bel w1 w2) => (show (w2.cell? ⟨w.heap.size, 0, none⟩ = some (.string ⟨#[]⟩) ∧ w2.cell? ⟨w.heap.size, 1, none⟩ = some (.int .i64 0) ∧ w2.cell? ⟨w.heap.size, 2, none⟩ = some (.bool false) ∧ w2.cell? ⟨w.heap.size, 3, none⟩ = some (.string ⟨#[]⟩)) ∧ (w2.frozen? ⟨w.heap.size, 0, none⟩ = false ∧ w2.frozen? ⟨w.heap.size, 1, none⟩ = false ∧ w2.frozen? ⟨w.heap.size, 2, none⟩ = false ∧ w2.frozen? ⟨w.heap.size, 3, none⟩ = false) ∧ w.heap.size < w2.heap.size from by
    have k := (Keep.of_bel hb []).at k0 (by simp)
    exact ⟨⟨(tblk_cell k 0).trans rfl, (tblk_cell k 1).trans rfl, (tblk_cell k 2).trans rfl, (tblk_cell k 3).trans rfl⟩, ⟨tblk_frozen k 0, tblk_frozen k 1, tblk_frozen k 2, tblk_frozen k 3⟩, (Array.getElem?_eq_some_iff.1 k).1⟩))
  have HB := Lib.hid hB
  clear h0 hT hn hbt hC k0 hB
  obtain ⟨P, hP⟩ : ∃ P, (geE ⟨key, q, false, ⟨#[]⟩⟩ t).head? = P := ⟨_, rfl⟩
  rw [hP] at HG C0
  clear hP
  go_enter Tryz.func13, Tryz.ntmps13
  go_wp2_with (fail)
  rw [← hw1]
  refine C0.out.mono ?_
  rintro r w2 ⟨rfl, hb⟩
  obtain ⟨⟨y0, y1, y2, y3⟩, ⟨f0, f1, f2, f3⟩, hlt⟩ := FY.out w2 hb
  have HB2 := Lib.hid (HB.out.trans hb)
  have hne : ¬ w.heap.size = w2.heap.size := by omega
  clear hb hw1
  cases P with
  | none =>
    simp only [fstE, zeroE, Option.isSome_none]
    go_wp2_with (fail)
    refine bodyPost_ret (v := .tuple #[.agg #[.string ⟨#[]⟩, .int .i64 0, .bool false, .string ⟨#[]⟩], .bool false]) (by simp [results, Tryz.results13, go_sem, y0, y1, y2, y3, f0, f1, f2, f3, hne, World.cell?_alloc_old]) rfl ⟨by rw [HG.out]; rfl, ?_⟩
    repeat' first | exact HB2.out | refine Bel.setCell ?_ (by simp) _ | refine Bel.drewN ?_ _ | refine Bel.alloc ?_ _
  | some p =>
    simp only [fstE, Option.isSome_some]
    by_cases hk : p.2.k = key
    · have hkb : (p.2.k.toList == key.toList) = true := by rw [hk]; simp
      have hk2 : p.2.k.data.toList = key.data.toList := by rw [hk]
      have HG2 := Lib.hid (show getE key.data.toList q C = some p.2 by rw [HG.out]; exact if_pos hk2)
      clear hk hk2
      go_wp2_with (fail)
      refine bodyPost_ret (v := .tuple #[.agg #[.string p.2.k, .int .i64 p.2.q, .bool p.2.d, .string p.2.v], .bool true]) (by simp [results, Tryz.results13, go_sem, y0, y1, y2, y3, f0, f1, f2, f3, hne, World.cell?_alloc_old]) rfl ⟨by rw [HG2.out]; rfl, ?_⟩
      repeat' first | exact HB2.out | refine Bel.setCell ?_ (by simp) _ | refine Bel.drewN ?_ _ | refine Bel.alloc ?_ _
    · have hkb : (p.2.k.toList == key.toList) = false := by
        rw [ByteArray.toList_eq, ByteArray.toList_eq, beq_eq_false_iff_ne]
        exact fun h => hk (ba_ext h)
      have hk2 : ¬ p.2.k.data.toList = key.data.toList := fun h => hk (ba_ext h)
      have HG2 := Lib.hid (show getE key.data.toList q C = none by rw [HG.out]; exact if_neg hk2)
      clear hk hk2
      go_wp2_with (fail)
      refine bodyPost_ret (v := .tuple #[.agg #[.string ⟨#[]⟩, .int .i64 0, .bool false, .string ⟨#[]⟩], .bool false]) (by simp [results, Tryz.results13, go_sem, y0, y1, y2, y3, f0, f1, f2, f3, hne, World.cell?_alloc_old]) rfl ⟨by rw [HG2.out]; rfl, ?_⟩
      repeat' first | exact HB2.out | refine Bel.setCell ?_ (by simp) _ | refine Bel.drewN ?_ _ | refine Bel.alloc ?_ _
end Go.Proofs.YteimllgoelleeaaGreatDoor
/- A tree of cites: a node's calls that write: a child goes up; a node goes in. -/
namespace Go.Proofs.YteimllgoelleeaaGreatDoor
open Go.RowKit Go.Deep

def NC : NL CT := ⟨fun x v p q => #[.int .i64 (x.t : Int), .int .i64 (x.v : Int), .int .i64 (x.n : Int), .int .i64 v, .pointer p, .pointer q], 124, 3, fun _ _ _ _ _ => rfl, fun _ _ _ _ _ => rfl, fun _ _ _ _ _ => rfl⟩
section
variable {w : World} {b : Nat} {x : CT} {v : Int} {p q : Option Addr}
theorem cellC (h : w.heap[b]? = some (.cells (NC.nd x v p q) NC.T (0, 0))) : (w.cell? ⟨b, 0, none⟩ = some (.int .i64 (x.t : Int)) ∧ w.cell? ⟨b, 1, none⟩ = some (.int .i64 (x.v : Int)) ∧ w.cell? ⟨b, 2, none⟩ = some (.int .i64 (x.n : Int))) ∧ w.cell? ⟨b, 3, none⟩ = some (.int .i64 v) ∧ w.cell? ⟨b, 4, none⟩ = some (.pointer p) ∧ w.cell? ⟨b, 5, none⟩ = some (.pointer q) :=
  ⟨⟨tblk_cell h _, tblk_cell h _, tblk_cell h _⟩, tblk_cell h _, tblk_cell h _, tblk_cell h _⟩
end
set_option maxHeartbeats 2000000 in
theorem leanedC_any (b : Nat) (x : CT) (v : Int) (l r : TT CT) (w : World) (h : TAt NC w (.node b x v l r)) (hn : (TT.node b x v l r).bs.Nodup) :
    Calls Tryz.prog 84 #[.pointer (some ⟨b, 0, none⟩)] w fun e w' => ∃ b' x' v' l' r', e = .returned (.pointer (some ⟨b', 0, none⟩)) ∧ TAt NC w' (.node b' x' v' l' r') ∧ (TT.node b' x' v' l' r').nodes = (TT.node b x v l r).nodes ∧ Keep (TT.node b x v l r).bs w w' := by
  cases l with
  | nil =>
    have HH := Lib.hid h
    obtain ⟨-, c4, c5, c6⟩ := cellC h.1
    clear h
    simp only [TT.ptr] at c5
    go_enter Tryz.func84, Tryz.ntmps84
    go_wp2_with (fail)
    go_quiet (fail)
    go_wp2_with (fail)
    go_ret
    exact ⟨b, x, v, .nil, r, rfl, HH.out.bel ((Bel.refl w).drewN nq), rfl, (Keep.refl _ w).drewN nq⟩
  | node c y u ll lr =>
    have HH := Lib.hid h
    have HN := Lib.hid hn
    obtain ⟨-, c4, c5, c6⟩ := cellC h.1
    obtain ⟨-, d4, d5, d6⟩ := cellC h.2.1.1
    have fb := tblk_frozen h.1 4
    have fc := tblk_frozen h.2.1.1 5
    have hbc : ¬ c = b := fun e => by
      rw [TT.bs_node, TT.bs_node, List.append_assoc, List.cons_append, List.nodup_append] at hn
      exact (List.nodup_cons.1 hn.2.1).1 (by simp [e])
    clear h hn
    simp only [TT.ptr] at c5
    by_cases hv : u < v
    · have hd : decide (u < v) = true := decide_eq_true hv
      clear fb fc
      go_enter Tryz.func84, Tryz.ntmps84
      go_wp2_with (fail)
      go_quiet (fail)
      go_wp2_with (fail)
      go_ret
      exact ⟨b, x, v, .node c y u ll lr, r, rfl, HH.out.bel ((Bel.refl w).drewN nq), rfl, (Keep.refl _ w).drewN nq⟩
    · have hd : decide (u < v) = false := decide_eq_false hv
      go_enter Tryz.func84, Tryz.ntmps84
      go_wp2_with (fail)
      go_quiet (fail)
      go_wp2_with (fail)
      go_ret
      obtain ⟨q1, q2⟩ := HH.out.lean_right HN.out ((Bel.refl w).drewN nq)
      exact ⟨c, y, u, ll, .node b x v lr r, rfl, q1, by simp [TT.nodes], q2⟩
set_option maxHeartbeats 2000000 in
theorem liftedC_any (b : Nat) (x : CT) (v : Int) (l r : TT CT) (w : World) (h : TAt NC w (.node b x v l r)) (hn : (TT.node b x v l r).bs.Nodup) :
    Calls Tryz.prog 85 #[.pointer (some ⟨b, 0, none⟩)] w fun e w' => ∃ b' x' v' l' r', e = .returned (.pointer (some ⟨b', 0, none⟩)) ∧ TAt NC w' (.node b' x' v' l' r') ∧ (TT.node b' x' v' l' r').nodes = (TT.node b x v l r).nodes ∧ Keep (TT.node b x v l r).bs w w' := by
  cases r with
  | nil =>
    have HH := Lib.hid h
    obtain ⟨-, c4, c5, c6⟩ := cellC h.1
    clear h
    simp only [TT.ptr] at c6
    go_enter Tryz.func85, Tryz.ntmps85
    go_wp2_with (fail)
    go_quiet (fail)
    go_wp2_with (fail)
    go_ret
    exact ⟨b, x, v, l, .nil, rfl, HH.out.bel ((Bel.refl w).drewN nq), rfl, (Keep.refl _ w).drewN nq⟩
  | node c y u rl rr =>
    have HH := Lib.hid h
    have HN := Lib.hid hn
    obtain ⟨-, c4, c5, c6⟩ := cellC h.1
    obtain ⟨-, d4, d5, d6⟩ := cellC h.2.2.1
    have fb := tblk_frozen h.1 5
    have fc := tblk_frozen h.2.2.1 4
    have fd := tblk_frozen h.2.2.1 3
    have hbc : ¬ c = b := fun e => by
      rw [TT.bs_node, TT.bs_node, List.nodup_append] at hn
      exact (List.nodup_cons.1 hn.2.1).1 (by simp [e])
    simp only [TT.ptr] at c6
    cases rr with
    | nil =>
      clear h hn fb fc fd
      simp only [TT.ptr] at d6
      go_enter Tryz.func85, Tryz.ntmps85
      go_wp2_with (fail)
      go_quiet (fail)
      go_wp2_with (fail)
      go_ret
      exact ⟨b, x, v, l, .node c y u rl .nil, rfl, HH.out.bel ((Bel.refl w).drewN nq), rfl, (Keep.refl _ w).drewN nq⟩
    | node g z t gl gr =>
      obtain ⟨-, e4, -, -⟩ := cellC h.2.2.2.2.1
      clear h hn
      simp only [TT.ptr] at d6
      by_cases hv : t < v
      · have hd : decide (t < v) = true := decide_eq_true hv
        clear fb fc fd
        go_enter Tryz.func85, Tryz.ntmps85
        go_wp2_with (fail)
        go_quiet (fail)
        go_wp2_with (fail)
        go_ret
        exact ⟨b, x, v, l, .node c y u rl (.node g z t gl gr), rfl, HH.out.bel ((Bel.refl w).drewN nq), rfl, (Keep.refl _ w).drewN nq⟩
      · have hd : decide (t < v) = false := decide_eq_false hv
        go_enter Tryz.func85, Tryz.ntmps85
        go_wp2_with (fail)
        go_quiet (fail)
        go_wp2_with (fail)
        go_ret
        obtain ⟨q1, q2⟩ := HH.out.lift_left _ HN.out ((Bel.refl w).drewN nq)
        exact ⟨c, y, _, .node b x v l rl, .node g z t gl gr, rfl, q1, by simp [TT.nodes], q2⟩
end Go.Proofs.YteimllgoelleeaaGreatDoor
/- A tree of cites: a node goes in below another one, and into the tree. -/
set_option maxRecDepth 100000
namespace Go.Proofs.YteimllgoelleeaaGreatDoor
open Go.RowKit Go.Deep

theorem methC (v : Value) (w : World) : Sem.run Tryz.prog (method 338 82 v "moult/memory.less") w = .ok (165, v) w := by kernel_rfl
set_option maxHeartbeats 4000000 in
theorem withC_any (e : CT) (fb : Nat) (fv : Int) (t : TT CT) : ∀ (w : World), TAt NC w t → t.bs.Nodup → fb ∉ t.bs → w.heap[fb]? = some (.cells (NC.nd e fv none none) NC.T (0, 0)) → t.nodes.Pairwise (fun p q => ltC p.2 q.2 = true) →
    Calls Tryz.prog 57 #[.pointer t.ptr, .pointer (some ⟨fb, 0, none⟩)] w fun r w' => ∃ t' g, r = .returned (.tuple #[.pointer t'.ptr, .pointer (some ⟨g, 0, none⟩)]) ∧ Wound NC ltC e fb t t' g w w' := by
  induction t with
  | nil =>
    intro w h hn hf hfb hp
    have HF := Lib.hid hfb
    clear h hn hf hfb hp
    show Calls _ _ #[.pointer none, _] _ _
    go_enter Tryz.func57, Tryz.ntmps57
    go_wp2_with (fail)
    go_ret2
    exact ⟨.node fb e fv .nil .nil, fb, rfl, ⟨HF.out, trivial, trivial⟩, by simp [TT.bs, TT.nodes], Put.nil, Keep.refl _ _, by simp [TT.bs, TT.nodes], ⟨_, _, HF.out⟩⟩
  | node b x v l r ihl ihr =>
    intro w h hn hf hfb hp
    obtain ⟨⟨c0, c1, c2⟩, c4, c5, c6⟩ := cellC h.1
    obtain ⟨⟨d0, d1, d2⟩, -, -, -⟩ := cellC hfb
    have IL := Lib.hid (fun w1 (hB : Bel w w1) => ihl w1 (h.2.1.bel hB) (TT.parts hn).1 (TT.notin hf).1 ((Keep.of_bel hB []).at hfb (by simp)) (TT.order hp).1)
    have IR := Lib.hid (fun w1 (hB : Bel w w1) => ihr w1 (h.2.2.bel hB) (TT.parts hn).2.2.2.1 (TT.notin hf).2.2 ((Keep.of_bel hB []).at hfb (by simp)) (TT.order hp).2.1)
    have WL := Lib.hid (fun (hlt : ltC e x = true) {g : Nat} {l' : TT CT} {w1 w2 : World} (hB : Bel w w1) (hW : Wound NC ltC e fb l l' g w1 w2) => wound_left (E := NC) (lt := ltC) (x := x) (e := e) ltC_trans h hn hf hp hlt hB hW.1 hW.2.2.1 hW.2.2.2.1 hW.2.2.2.2.2)
    have WR := Lib.hid (fun (hlt : ltC x e = true) {g : Nat} {r' : TT CT} {w1 w2 : World} (hB : Bel w w1) (hW : Wound NC ltC e fb r r' g w1 w2) => wound_right (E := NC) (lt := ltC) (x := x) (e := e) ltC_trans h hn hf hp hlt hB hW.1 hW.2.2.1 hW.2.2.2.1 hW.2.2.2.2.2)
    have WH := Lib.hid (fun (h1 : ltC x e = false) (h2 : ltC e x = false) {w1 : World} (hB : Bel w w1) => (wound_here (E := NC) (lt := ltC) (x := x) (e := e) (fb := fb) h hn h1 h2 hB ⟨_, _, (Keep.of_bel hB []).at hfb (by simp)⟩))
    have FL := Lib.hid (fun (w1 w2 : World) (hB : Bel w w1) (hK : Keep (fb :: l.bs) w1 w2) => (show w2.cell? ⟨b, 4, none⟩ = some (.pointer l.ptr) ∧ w2.frozen? ⟨b, 4, none⟩ = false from by
      have hx := hK.at ((Keep.of_bel hB []).at h.1 (by simp)) (fun hm => by rcases List.mem_cons.1 hm with hh | hh; exact (TT.notin hf).2.1 hh; exact (TT.parts hn).2.1 hh)
      exact ⟨tblk_cell hx _, tblk_frozen hx _⟩))
    have FR := Lib.hid (fun (w1 w2 : World) (hB : Bel w w1) (hK : Keep (fb :: r.bs) w1 w2) => (show w2.cell? ⟨b, 5, none⟩ = some (.pointer r.ptr) ∧ w2.frozen? ⟨b, 5, none⟩ = false from by
      have hx := hK.at ((Keep.of_bel hB []).at h.1 (by simp)) (fun hm => by rcases List.mem_cons.1 hm with hh | hh; exact (TT.notin hf).2.1 hh; exact (TT.parts hn).2.2.1 hh)
      exact ⟨tblk_cell hx _, tblk_frozen hx _⟩))
    show Calls _ _ #[.pointer (some ⟨b, 0, none⟩), _] _ _
    clear h hn hf hfb hp ihl ihr
    have hm := fun v w => methC v w
    cases hlt : ltC e x with
    | true =>
      go_enter Tryz.func57, Tryz.ntmps57
      go_wp2_with (fail)
      go_region_with (go_at_call 165; refine (cless_any e x _).mono ?_; rw [hlt]; rintro r1 w1 ⟨rfl, hb⟩)
      all_goals
        have HB := Lib.hid ((Bel.refl w).drew.trans hb)
        have b5 := cell_later HB.out c5
        clear c0 c1 c2 c4 c5 c6 d0 d1 d2 hm hb
        go_wp2_with (fail)
        refine (IL.out w1 HB.out).mono ?_
        rintro r2 w2 ⟨l', g, rfl, hW⟩
        obtain ⟨z5, zf⟩ := FL.out _ _ HB.out hW.2.2.2.1
        have HW := Lib.hid (WL.out hlt HB.out hW)
        clear hW b5
        go_wp2_with (fail)
        refine (leanedC_any b x v l' r _ HW.out.1 HW.out.2.1).mono ?_
        rintro r3 w3 ⟨b3, x3, v3, l3, r3, rfl, hT3, hN3, hK3⟩
        have HW3 := Lib.hid (HW.out.turn hT3 hN3 hK3)
        clear hT3 hN3 hK3 z5 zf HW
        go_wp2_with (fail)
        refine (liftedC_any b3 x3 v3 l3 r3 _ HW3.out.1 HW3.out.2.1).mono ?_
        rintro r4 w4 ⟨b4, x4, v4, l4, r4, rfl, hT4, hN4, hK4⟩
        have HW4 := Lib.hid (HW3.out.turn hT4 hN4 hK4)
        clear hT4 hN4 hK4 HW3
        go_wp2_with (fail)
        go_ret2
        exact ⟨.node b4 x4 v4 l4 r4, g, rfl, HW4.out⟩
    | false =>
      cases hgt : ltC x e with
      | true =>
        go_enter Tryz.func57, Tryz.ntmps57
        go_wp2_with (fail)
        go_region_with (go_at_call 165; refine (cless_any e x _).mono ?_; rw [hlt]; rintro r1 w1 ⟨rfl, hb⟩)
        all_goals
          have HB := Lib.hid ((Bel.refl w).drew.trans hb)
          have hb0 := HB.out
          have a0 := cell_later hb0 c0
          have b0 := cell_later hb0 d0
          have a1 := cell_later hb0 c1
          have b1 := cell_later hb0 d1
          have a2 := cell_later hb0 c2
          have b2 := cell_later hb0 d2
          have a6 := cell_later hb0 c6
          clear c0 c1 c2 c4 c5 c6 d0 d1 d2 hb hb0
          go_wp2_with (fail)
          go_region_with (go_at_call 165; refine (cless_any x e _).mono ?_; rw [hgt]; rintro r2 w2 ⟨rfl, hb⟩)
        all_goals
          replace HB := Lib.hid (HB.out.trans ((Bel.refl _).drew.trans hb))
          have b6 := cell_later ((Bel.refl _).drew.trans hb) a6
          clear a0 a1 a2 a6 b0 b1 b2 hm hb
          go_wp2_with (fail)
          refine (IR.out w2 HB.out).mono ?_
          rintro r3 w3 ⟨r', g, rfl, hW⟩
          obtain ⟨z6, zf⟩ := FR.out _ _ HB.out hW.2.2.2.1
          have HW := Lib.hid (WR.out hgt HB.out hW)
          clear hW b6
          go_wp2_with (fail)
          refine (leanedC_any b x v l r' _ HW.out.1 HW.out.2.1).mono ?_
          rintro r3 w3 ⟨b3, x3, v3, l3, r3, rfl, hT3, hN3, hK3⟩
          have HW3 := Lib.hid (HW.out.turn hT3 hN3 hK3)
          clear hT3 hN3 hK3 z6 zf HW
          go_wp2_with (fail)
          refine (liftedC_any b3 x3 v3 l3 r3 _ HW3.out.1 HW3.out.2.1).mono ?_
          rintro r4 w4 ⟨b4, x4, v4, l4, r4, rfl, hT4, hN4, hK4⟩
          have HW4 := Lib.hid (HW3.out.turn hT4 hN4 hK4)
          clear hT4 hN4 hK4 HW3
          go_wp2_with (fail)
          go_ret2
          exact ⟨.node b4 x4 v4 l4 r4, g, rfl, HW4.out⟩
      | false =>
        go_enter Tryz.func57, Tryz.ntmps57
        go_wp2_with (fail)
        go_region_with (go_at_call 165; refine (cless_any e x _).mono ?_; rw [hlt]; rintro r1 w1 ⟨rfl, hb⟩)
        all_goals
          have HB := Lib.hid ((Bel.refl w).drew.trans hb)
          have hb0 := HB.out
          have a0 := cell_later hb0 c0
          have b0 := cell_later hb0 d0
          have a1 := cell_later hb0 c1
          have b1 := cell_later hb0 d1
          have a2 := cell_later hb0 c2
          have b2 := cell_later hb0 d2
          clear c0 c1 c2 c4 c5 c6 d0 d1 d2 hb hb0
          go_wp2_with (fail)
          go_region_with (go_at_call 165; refine (cless_any x e _).mono ?_; rw [hgt]; rintro r2 w2 ⟨rfl, hb⟩)
        all_goals
          replace HB := Lib.hid (HB.out.trans ((Bel.refl _).drew.trans hb))
          have HW := Lib.hid (WH.out hgt hlt HB.out)
          clear a0 a1 a2 b0 b1 b2 hm hb
          go_wp2_with (fail)
          refine (leanedC_any b x v l r _ HW.out.1 HW.out.2.1).mono ?_
          rintro r3 w3 ⟨b3, x3, v3, l3, r3, rfl, hT3, hN3, hK3⟩
          have HW3 := Lib.hid (HW.out.turn hT3 hN3 hK3)
          clear hT3 hN3 hK3 HW
          go_wp2_with (fail)
          refine (liftedC_any b3 x3 v3 l3 r3 _ HW3.out.1 HW3.out.2.1).mono ?_
          rintro r4 w4 ⟨b4, x4, v4, l4, r4, rfl, hT4, hN4, hK4⟩
          have HW4 := Lib.hid (HW3.out.turn hT4 hN4 hK4)
          clear hT4 hN4 hK4 HW3
          go_wp2_with (fail)
          go_ret2
          exact ⟨.node b4 x4 v4 l4 r4, b, rfl, HW4.out⟩
end Go.Proofs.YteimllgoelleeaaGreatDoor
/- A tree of cites: put. -/
set_option maxRecDepth 100000
namespace Go.Proofs.YteimllgoelleeaaGreatDoor
open Go.RowKit Go.Deep

theorem neq_sameC (a : Addr) (w : World) : Sem.run Tryz.prog (binOp BinOp.neq 73 (.pointer (some a)) (.pointer (some a))) w = .ok (.bool false) w := by
  obtain ⟨j, hj⟩ : ∃ j, Tryz.prog.info? 124 = some j := Option.isSome_iff_exists.1 (by kernel_rfl)
  have hp : Tryz.prog.underlying 73 = some (.pointer 124) := by kernel_rfl
  have h : ∀ d : Nat, (Op.equalIn (d + 1) 73 (.pointer (some a)) (.pointer (some a))).run Tryz.prog w = .ok true w := fun d => by
    simp [Op.equalIn, run_underlying hp, sizeOf, typeInfo, hj, run_sameAddr_same]
  simp only [binOp]
  simp [Op.equal, Op.maxDepth, h 9999]
theorem neq_otherC {a b : Addr} {w : World} (hne : a ≠ b) (ha : Cel w a.block) (hb : Cel w b.block) : Sem.run Tryz.prog (binOp BinOp.neq 73 (.pointer (some a)) (.pointer (some b))) w = .ok (.bool true) w := by
  obtain ⟨ca, ta, ha⟩ := ha
  obtain ⟨cb, tb, hb⟩ := hb
  have hi : (Tryz.prog.info? 124).map (fun i => i.size) = some 6 := by kernel_rfl
  obtain ⟨j, hj, hsz⟩ := Option.map_eq_some_iff.1 hi
  have hp : Tryz.prog.underlying 73 = some (.pointer 124) := by kernel_rfl
  have h : ∀ d : Nat, (Op.equalIn (d + 1) 73 (.pointer (some a)) (.pointer (some b))).run Tryz.prog w = .ok false w := fun d => by
    simp [Op.equalIn, run_underlying hp, sizeOf, typeInfo, hj, hsz, run_sameAddr_other w hne ha hb]
  simp only [binOp]
  simp [Op.equal, Op.maxDepth, h 9999]
def PutToC (lt : CT → CT → Bool) (t t' : TT CT) (e : CT) (g : Nat) (nw : Bool) (w : World) : Prop :=
  (nw = true ∧ w.heap.size ≤ g ∧ ∃ l r, t.nodes = l ++ r ∧ t'.nodes = l ++ (g, e) :: r ∧ (∀ p ∈ l, lt p.2 e = true) ∧ (∀ p ∈ r, lt e p.2 = true)) ∨
  (nw = false ∧ t'.nodes = t.nodes ∧ ∃ x, (g, x) ∈ t.nodes ∧ lt x e = false ∧ lt e x = false)
def MBC (t : TT CT) (n : Int) : Array Value := #[.pointer t.ptr, .int .i64 n]
set_option maxHeartbeats 4000000 in
theorem putC_any (e : CT) (t : TT CT) (n : Int) (b : Nat) (w : World) (h : w.heap[b]? = some (.cells (MBC t n) 75 (0, 0))) (hT : TAt NC w t) (hn : t.bs.Nodup) (hb : b ∉ t.bs) (hp : t.nodes.Pairwise (fun p q => ltC p.2 q.2 = true)) (h0 : 0 ≤ n) (h1 : n ≤ 1000000) :
    Calls Tryz.prog 30 #[.pointer (some ⟨b, 0, none⟩), .agg #[.int .i64 (e.t : Int), .int .i64 (e.v : Int), .int .i64 (e.n : Int)]] w fun r w' => ∃ t' g nw, r = .returned (.tuple #[.pointer (some ⟨g, 0, none⟩), .bool nw]) ∧
      w'.heap[b]? = some (.cells (MBC t' (if nw then n + 1 else n)) 75 (0, 0)) ∧ TAt NC w' t' ∧ t'.bs.Nodup ∧ PutToC ltC t t' e g nw w ∧ Keep (b :: t.bs) w w' ∧ ∀ k ∈ t'.bs, k ∈ t.bs ∨ w.heap.size ≤ k := by
  have hlt := (Array.getElem?_eq_some_iff.1 h).1
  have hltT := hT.lt
  obtain ⟨w2, hw2⟩ : ∃ z, z = (w.alloc (.cells #[.int .i64 (e.t : Int), .int .i64 (e.v : Int), .int .i64 (e.n : Int)] 82)).alloc (.cells #[.int .i64 (e.t : Int), .int .i64 (e.v : Int), .int .i64 (e.n : Int), .int .i64 1, .pointer none, .pointer none] 124) := ⟨_, rfl⟩
  have hB : Bel w w2 := by rw [hw2]; exact ((Bel.refl w).alloc _).alloc _
  have hsz : w2.heap.size = w.heap.size + 1 + 1 := by rw [hw2]; simp
  have hfb : w2.heap[w.heap.size + 1]? = some (.cells (NC.nd e 1 none none) NC.T (0, 0)) := by
    rw [hw2]
    have := tnew (w.alloc (.cells #[.int .i64 (e.t : Int), .int .i64 (e.v : Int), .int .i64 (e.n : Int)] 82)) (.cells #[.int .i64 (e.t : Int), .int .i64 (e.v : Int), .int .i64 (e.n : Int), .int .i64 1, .pointer none, .pointer none] 124)
    rw [World.size_alloc] at this
    exact this
  have hnf : w.heap.size + 1 ∉ t.bs := fun hm => by have := hltT _ hm; omega
  have C0 := Lib.hid (withC_any e (w.heap.size + 1) 1 t w2 (hT.bel hB) hn hnf hfb hp)
  have hb2 := (Keep.of_bel hB []).at h (by simp)
  have c0 : w2.cell? ⟨b, 0, none⟩ = some (.pointer t.ptr) := (tblk_cell hb2 0).trans rfl
  rw [hw2] at c0
  have HB := Lib.hid hB
  have HN := Lib.hid hnf
  have HS := Lib.hid hsz
  have HX := Lib.hid hb
  have HL := Lib.hid hlt
  have HK := Lib.hid (fun (g : Nat) (t' : TT CT) (w3 : World) (hW : Wound NC ltC e (w.heap.size + 1) t t' g w2 w3) => (show w3.heap[b]? = some (.cells (MBC t n) 75 (0, 0)) from
    hW.2.2.2.1.at hb2 (fun hm => by rcases List.mem_cons.1 hm with hh | hh; omega; exact hb hh)))
  clear hb2 hb hnf hB hfb hltT hlt hp hn hT h
  go_enter Tryz.func30, Tryz.ntmps30
  go_wp2_with (fail)
  rw [← hw2]
  clear hw2 c0
  refine C0.out.mono ?_
  rintro r w3 ⟨t', g, rfl, hW⟩
  have hx := HK.out _ _ _ hW
  have z0 : w3.cell? ⟨b, 0, none⟩ = some (.pointer t.ptr) := (tblk_cell hx 0).trans rfl
  have z1 : w3.cell? ⟨b, 1, none⟩ = some (.int .i64 n) := (tblk_cell hx 1).trans rfl
  have f0 := tblk_frozen hx 0
  have f1 := tblk_frozen hx 1
  have HW := Lib.hid hW
  have HH := Lib.hid hx
  clear hW hx HK C0
  by_cases hg : g = w.heap.size + 1
  · subst hg
    have hq := neq_sameC ⟨w.heap.size + 1, 0, none⟩ (w3.setCell ⟨b, 0, none⟩ (.pointer t'.ptr))
    go_wp2_with (fail)
    go_ret2
    obtain ⟨a1, a2, a3, a4, a5, a6⟩ := HW.out
    have hK2 : Keep [b] w3 ((w3.setCell ⟨b, 0, none⟩ (.pointer t'.ptr)).setCell ⟨b, 1, none⟩ (.int .i64 (n + 1))) :=
      ((Keep.refl _ w3).setCell (p := ⟨b, 0, none⟩) (Or.inl (by simp)) _).setCell (p := ⟨b, 1, none⟩) (Or.inl (by simp)) _
    have hbt : ∀ k ∈ t'.bs, k ∉ [b] := fun k hk hh => by
      rw [List.mem_singleton] at hh; subst hh
      rcases List.mem_cons.1 (a5 k hk) with h | h
      · have := HL.out; omega
      · exact HX.out h
    have hlt2 : w.heap.size ≤ w.heap.size + 1 := by omega
    refine ⟨t', w.heap.size + 1, true, rfl, tblk_set (tblk_set HH.out 0 _) 1 _, a1.keep hK2 hbt, a2, .inl ⟨rfl, hlt2, a3.new HN.out⟩, ?_, fun k hk => ?_⟩
    · exact ((Keep.of_bel HB.out _).trans ((a4.mono (G := b :: (w.heap.size + 1) :: t.bs) (fun k hk => List.mem_cons_of_mem _ hk)).trans (G := [b]) (hK2) (fun k hk => Or.inl (by simp at hk; simp [hk]))) (fun k hk => by
        rcases List.mem_cons.1 hk with h | h
        · exact .inl (by simp [h])
        · rcases List.mem_cons.1 h with h | h
          · right; omega
          · exact .inl (by simp [h])))
    · rcases List.mem_cons.1 (a5 k hk) with h | h
      · right; omega
      · exact .inl h
  · have hC := HW.out.2.2.2.2.2
    have hbf : ¬ w.heap.size + 1 = b := by have := HL.out; omega
    have hg1 : g ∈ t'.bs := HW.out.2.2.1.in
    have hgb : ¬ g = b := fun e => by
      subst e
      rcases List.mem_cons.1 (HW.out.2.2.2.2.1 g hg1) with h | h
      · exact hg h
      · exact HX.out h
    have hq := neq_otherC (a := ⟨g, 0, none⟩) (b := ⟨w.heap.size + 1, 0, none⟩) (w := w3.setCell ⟨b, 0, none⟩ (.pointer t'.ptr)) (fun e => hg (by injection e)) ((HW.out.1.cel hg1).keep (tkeep_set w3 b 0 _) (not_one hgb)) (hC.keep (tkeep_set w3 b 0 _) (not_one hbf))
    clear hC hbf hg1 hgb
    go_wp2_with (fail)
    go_ret2
    obtain ⟨a1, a2, a3, a4, a5, a6⟩ := HW.out
    have hK2 : Keep [b] w3 (w3.setCell ⟨b, 0, none⟩ (.pointer t'.ptr)) := tkeep_set w3 b 0 _
    have hbt : ∀ k ∈ t'.bs, k ∉ [b] := fun k hk hh => by
      rw [List.mem_singleton] at hh; subst hh
      rcases List.mem_cons.1 (a5 k hk) with h | h
      · have := HL.out; omega
      · exact HX.out h
    refine ⟨t', g, false, rfl, tblk_set HH.out 0 _, a1.keep hK2 hbt, a2, .inr ⟨rfl, a3.old HN.out hg⟩, ?_, fun k hk => ?_⟩
    · exact ((Keep.of_bel HB.out _).trans ((a4.mono (G := b :: (w.heap.size + 1) :: t.bs) (fun k hk => List.mem_cons_of_mem _ hk)).trans (G := [b]) (hK2) (fun k hk => Or.inl (by simp at hk; simp [hk]))) (fun k hk => by
        rcases List.mem_cons.1 hk with h | h
        · exact .inl (by simp [h])
        · rcases List.mem_cons.1 h with h | h
          · right; omega
          · exact .inl (by simp [h])))
    · rcases List.mem_cons.1 (a5 k hk) with h | h
      · right; omega
      · exact .inl h
end Go.Proofs.YteimllgoelleeaaGreatDoor
/- The tree that counts cites: what a put, and a count behind it, make of it. -/
namespace Go.Proofs.YteimllgoelleeaaGreatDoor
open Go.RowKit Go.Deep

theorem add_new11 {a b n : Nat} {r : List CT} (hr : ∀ c ∈ r, ltC ⟨a, b, n⟩ c = true) : ∀ {l : List CT}, (∀ c ∈ l, ltC c ⟨a, b, n⟩ = true) → addC a b (l ++ r) = l ++ ⟨a, b, 1⟩ :: r
  | [], _ => by
    cases r with
    | nil => rfl
    | cons c r =>
      have h := hr c (by simp)
      unfold ltC at h
      simp only [Bool.or_eq_true, Bool.and_eq_true, decide_eq_true_eq] at h
      have h1 : ctLess c a b = false := by
        unfold ctLess
        rw [Bool.or_eq_false_iff, Bool.and_eq_false_iff]
        simp only [decide_eq_false_iff_not]
        omega
      show addC a b (c :: r) = _
      rw [addC, h1, if_neg (by simp), if_neg (by omega)]
      rfl
  | c :: l, h => by
    have h0 : ctLess c a b = true := h c (by simp)
    rw [List.cons_append, addC, if_pos h0, add_new11 hr (fun x hx => h x (by simp [hx])), List.cons_append]
theorem add_old11 {x : CT} {r : List CT} : ∀ {l : List CT}, (∀ c ∈ l, ltC c x = true) → addC x.t x.v (l ++ x :: r) = l ++ ⟨x.t, x.v, x.n + 1⟩ :: r
  | [], _ => by
    show addC x.t x.v (x :: r) = _
    have h1 : ctLess x x.t x.v = false := by
      unfold ctLess
      simp
    rw [addC, h1, if_neg (by simp), if_pos ⟨rfl, rfl⟩]
    rfl
  | c :: l, h => by
    have h0 : ctLess c x.t x.v = true := h c (by simp)
    rw [List.cons_append, addC, if_pos h0, add_old11 (fun y hy => h y (by simp [hy])), List.cons_append]
theorem cit_step {u u' : TT CT} {a b g : Nat} {nw : Bool} {w : World} (hp : u.nodes.Pairwise (fun p q => ltC p.2 q.2 = true)) (hP : PutToC ltC u u' ⟨a, b, 0⟩ g nw w) :
    ∃ L R y, u'.nodes = L ++ (g, y) :: R ∧ y.t = a ∧ y.v = b ∧ (y.n = 0 ∨ y ∈ u.flat) ∧ addC a b u.flat = L.map Prod.snd ++ ⟨a, b, y.n + 1⟩ :: R.map Prod.snd ∧ u'.nodes.Pairwise (fun p q => ltC p.2 q.2 = true) := by
  rcases hP with ⟨-, -, l, r, h1, h2, h3, h4⟩ | ⟨-, h1, x, h2, h3, h4⟩
  · refine ⟨l, r, ⟨a, b, 0⟩, h2, rfl, rfl, .inl rfl, ?_, ?_⟩
    · rw [TT.flat, h1, List.map_append]
      exact add_new11 (n := 0) (fun c hc => by obtain ⟨p, hp, rfl⟩ := List.mem_map.1 hc; exact h4 p hp) (fun c hc => by obtain ⟨p, hp, rfl⟩ := List.mem_map.1 hc; exact h3 p hp)
    · rw [h1, List.pairwise_append] at hp
      rw [h2, List.pairwise_append, List.pairwise_cons]
      refine ⟨hp.1, ⟨fun p hp => h4 p hp, hp.2.1⟩, fun p hpm q hq => ?_⟩
      rcases List.mem_cons.1 hq with rfl | hq
      · exact h3 p hpm
      · exact hp.2.2 p hpm q hq
  · obtain ⟨L, R, hLR⟩ := List.append_of_mem h2
    have hx : x.t = a ∧ x.v = b := by
      unfold ltC at h3 h4
      rw [Bool.or_eq_false_iff, Bool.and_eq_false_iff] at h3 h4
      simp only [decide_eq_false_iff_not] at h3 h4
      omega
    have hp2 := hp
    rw [hLR, List.pairwise_append] at hp2
    refine ⟨L, R, x, by rw [h1]; exact hLR, hx.1, hx.2, .inr (by rw [TT.flat]; exact List.mem_map_of_mem (f := Prod.snd) h2), ?_, by rw [h1]; exact hp⟩
    rw [TT.flat, hLR, List.map_append, List.map_cons, ← hx.1, ← hx.2]
    exact add_old11 (fun c hc => by obtain ⟨p, hpm, rfl⟩ := List.mem_map.1 hc; exact hp2.2.2 p hpm (g, x) (by simp))
def CB (B0 n₀ m : Nat) (L : List CT) (W : World) : Prop := ∃ (u : TT CT) (n : Int), W.heap[B0]? = some (.cells (MBC u n) 75 (0, 0)) ∧ TAt NC W u ∧ u.bs.Nodup ∧ B0 ∉ u.bs ∧ (∀ k ∈ u.bs, n₀ ≤ k) ∧ u.nodes.Pairwise (fun p q => ltC p.2 q.2 = true) ∧ u.flat = L ∧ smallC m L ∧ 0 ≤ n ∧ n ≤ m
theorem put_at {u : TT CT} {g : Nat} {y z : CT} {L R : List (Nat × CT)} (hn : u.bs.Nodup) (h : u.nodes = L ++ (g, y) :: R) : (u.put g z).nodes = L ++ (g, z) :: R := by
  rw [TT.put_nodes, h, List.map_append, List.map_cons]
  unfold TT.bs at hn
  rw [h, List.map_append, List.map_cons, List.nodup_append, List.nodup_cons] at hn
  obtain ⟨-, ⟨h2, -⟩, h3⟩ := hn
  have e1 : L.map (fun p => if p.1 = g then (g, z) else p) = L := by
    rw [List.map_congr_left (g := id) (fun p hp => ?_), List.map_id]
    rw [if_neg (fun e => h3 p.1 (List.mem_map_of_mem hp) g (by simp) e)]; rfl
  have e2 : R.map (fun p => if p.1 = g then (g, z) else p) = R := by
    rw [List.map_congr_left (g := id) (fun p hp => ?_), List.map_id]
    have hm : p.1 ∈ List.map Prod.fst R := List.mem_map_of_mem (f := Prod.fst) hp
    have hne : ¬ p.1 = g := fun e => h2 (by rw [e] at hm; exact hm)
    rw [if_neg hne]; rfl
  rw [e1, e2]; simp
theorem cb_step {B0 n₀ m : Nat} {u u' : TT CT} {n : Int} {a b g : Nat} {nw : Bool} {W W2 : World} (hn₀ : n₀ ≤ W.heap.size) (hB0 : B0 < W.heap.size) (ha : a ≤ 1000000) (hb : b ≤ 1000000)
    (h3 : u.bs.Nodup) (h4 : B0 ∉ u.bs) (h5 : ∀ k ∈ u.bs, n₀ ≤ k) (h6 : u.nodes.Pairwise (fun p q => ltC p.2 q.2 = true)) (h8 : smallC m u.flat) (h9 : 0 ≤ n) (h10 : n ≤ m)
    (hx : W2.heap[B0]? = some (.cells (MBC u' (if nw then n + 1 else n)) 75 (0, 0))) (hT : TAt NC W2 u') (hn : u'.bs.Nodup) (hP : PutToC ltC u u' ⟨a, b, 0⟩ g nw W) (hK : Keep (B0 :: u.bs) W W2) (hs : ∀ k ∈ u'.bs, k ∈ u.bs ∨ W.heap.size ≤ k) :
    ∃ y : CT, W2.cell? ⟨g, 2, none⟩ = some (.int .i64 (y.n : Int)) ∧ W2.frozen? ⟨g, 2, none⟩ = false ∧ y.n ≤ m ∧
      CB B0 n₀ (m + 1) (addC a b u.flat) (W2.setCell ⟨g, 2, none⟩ (.int .i64 ((y.n : Int) + 1))) ∧ Keep (B0 :: u.bs) W (W2.setCell ⟨g, 2, none⟩ (.int .i64 ((y.n : Int) + 1))) := by
  obtain ⟨L, R, y, q1, q2, q3, q4, q5, q6⟩ := cit_step h6 hP
  obtain ⟨v, p, q, hh⟩ := hT.look (g := g) (y := y) (by rw [q1]; simp)
  have hy : y.n ≤ m := by
    rcases q4 with h | h
    · omega
    · exact (h8 y h).2.2
  have hg : g ∈ u'.bs := by unfold TT.bs; rw [q1]; simp
  have hgB : g ≠ B0 := fun e => by
    rcases hs g hg with h | h
    · exact h4 (e ▸ h)
    · omega
  have hKg := tkeep_set W2 g 2 (.int .i64 ((y.n : Int) + 1))
  have hpn := put_at (z := ⟨a, b, y.n + 1⟩) hn q1
  have hbs : (u'.put g ⟨a, b, y.n + 1⟩).bs = u'.bs := by unfold TT.bs; rw [hpn, q1]; simp
  refine ⟨y, (tblk_cell hh 2).trans rfl, tblk_frozen hh 2, hy, ⟨u'.put g ⟨a, b, y.n + 1⟩, if nw then n + 1 else n, ?_, ?_, by rw [hbs]; exact hn, ?_, ?_, ?_, ?_, add_small ha hb h8, by split <;> omega, by split <;> omega⟩, ?_⟩
  · have := hKg.at hx (not_one (Ne.symm hgB))
    rw [this]
    unfold MBC
    rw [TT.put_ptr]
  · refine hT.put hn hg hKg (fun z v p q hz hzh => ?_)
    have hzy : z = y := by
      rw [hh] at hzh
      have e := congrArg (fun o => match o with | some (Obj.cells c _ _) => (c[0]?, c[1]?, c[2]?) | _ => (none, none, none)) hzh
      simp only [NC] at e
      obtain ⟨zt, zv, zn⟩ := z
      obtain ⟨yt, yv, yn⟩ := y
      simp at e
      obtain ⟨e1, e2, e3⟩ := e
      congr 1 <;> omega
    subst hzy
    have h2 := tblk_set hzh 2 (.int .i64 ((z.n : Int) + 1))
    rw [h2]
    congr 3
    simp only [NC]
    rw [q2, q3]
    simp
  · rw [hbs]; intro h; rcases hs B0 h with h | h
    · exact h4 h
    · omega
  · rw [hbs]; intro k hk; rcases hs k hk with h | h
    · exact h5 k h
    · omega
  · rw [hpn]
    rw [q1] at q6
    rw [List.pairwise_append, List.pairwise_cons] at q6 ⊢
    obtain ⟨r1, ⟨r2, r3⟩, r4⟩ := q6
    have eL : ∀ c : CT, ltC c ⟨a, b, y.n + 1⟩ = ltC c y := fun c => by unfold ltC; rw [q2, q3]
    have eR : ∀ c : CT, ltC ⟨a, b, y.n + 1⟩ c = ltC y c := fun c => by unfold ltC; rw [q2, q3]
    refine ⟨r1, ⟨fun p hp => by rw [eR]; exact r2 p hp, r3⟩, fun p hp q hq => ?_⟩
    rcases List.mem_cons.1 hq with rfl | hq
    · rw [eL]; exact r4 p hp (g, y) (by simp)
    · exact r4 p hp q (by simp [hq])
  · rw [q5, TT.flat, hpn, List.map_append, List.map_cons]
  · exact hK.trans hKg (fun k hk => by
      rw [List.mem_singleton] at hk; subst hk
      rcases hs k hg with h | h
      · exact .inl (by simp [h])
      · exact .inr h)
end Go.Proofs.YteimllgoelleeaaGreatDoor
