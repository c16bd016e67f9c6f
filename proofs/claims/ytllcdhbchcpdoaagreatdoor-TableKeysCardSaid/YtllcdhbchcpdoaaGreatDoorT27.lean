/- TPBet, TCon, laid together. -/
import Derived.Test.YtllcdhbchcpdoaaGreatDoorT26
import Derived.Shelf.SlicesE.Clone
import Derived.Shelf.Lay
import Derived.Ground.SlgnProg
import Derived.Test.YtllcdhbchcpdoaaGreatDoorT11
set_option linter.unusedSimpArgs false
set_option linter.unusedVariables false
/- table's atLeast, Between, Cites, Len. -/
namespace Go.Proofs.YtllcdhbchcpdoaaGreatDoor
open Go.RowKit Go.Deep

theorem len10_any (b : Nat) (L : List EB) (w : World) (ht : TabAt w b L) :
    Calls Tryz.prog 33 #[.pointer (some ⟨b, 0, none⟩)] w fun e w' => e = .returned (.int .i64 (L.length : Nat)) ∧ Bel w w' := by
  obtain ⟨ge, cap, hcell, -, -, -⟩ := ht
  go_enter Tryz.func33, Tryz.ntmps33
  go_wp2_with (fail)
  go_ret
  exact ⟨rfl, Bel.refl w⟩
set_option maxRecDepth 20000 in
theorem tcites_any (b : Nat) (L : List EB) (w : World) (ht : TabAt w b L) (hL : L.length ≤ 10000) (hr : ∀ e ∈ L, rightB e = true) :
    Calls Tryz.prog 29 #[.pointer (some ⟨b, 0, none⟩)] w fun e w' => ∃ v, e = .returned v ∧ OwnG ctEl w.heap.size w' v (citesB L) ∧ Bel w w' := by
  obtain ⟨ge, cap, hcell, hents, -, -⟩ := ht
  have HC := Lib.hid (pcites_any (some ⟨ge, 0, none⟩) cap L w hents hL hr)
  clear hents hr
  go_enter Tryz.func29, Tryz.ntmps29
  go_wp2_with (fail)
  refine HC.out.mono ?_
  rintro e w1 ⟨v, rfl, ho, hb⟩
  go_wp2_with (fail)
  go_ret
  exact ⟨v, rfl, ho, hb⟩
end Go.Proofs.YtllcdhbchcpdoaaGreatDoor
/- moultlaw10.shown. -/
namespace Go.Proofs.YtllcdhbchcpdoaaGreatDoor
open Go.RowKit Go.Deep

def exE : EB := ⟨⟨#[107]⟩, 3, false, ⟨#[1, 2]⟩⟩
def exT : List EB := [exE]
theorem exT_stand : standB exT = true := by decide +kernel
theorem exT_rows : rowsErr (rowsOf exT) = 0 := by decide +kernel
theorem ex_cite1 : citeV (⟨#[1, 2, 9]⟩ : ByteArray).data.toList = .tuple #[.int .i64 1, .int .i64 2, .bool true] := by
  have h : citeL (⟨#[1, 2, 9]⟩ : ByteArray).data.toList = some (1, 2) := by decide +kernel
  rw [citeV_some h]; rfl
theorem ex_cite2 : citeV (⟨#[1]⟩ : ByteArray).data.toList = .tuple #[.int .i64 0, .int .i64 0, .bool false] := citeV_none (by decide +kernel)
theorem ex_inner : innerL (⟨#[107]⟩ : ByteArray).data.toList 1 = [107, 0, 0, 127, 255, 255, 255, 255, 255, 255, 254] := by decide +kernel
theorem ex_get1 : getE (⟨#[107]⟩ : ByteArray).data.toList 2 exT = none := by
  unfold getE exT
  rw [List.find?_cons]
  have : hitB (⟨#[107]⟩ : ByteArray).data.toList 2 exE = false := by decide +kernel
  rw [this]; rfl
theorem ex_get2 : getE (⟨#[107]⟩ : ByteArray).data.toList 9 exT = some exE := by
  unfold getE exT
  rw [List.find?_cons]
  have : hitB (⟨#[107]⟩ : ByteArray).data.toList 9 exE = true := by decide +kernel
  rw [this]
theorem ex_cites : citesB exT = [⟨1, 2, 1⟩] := by
  have h : citeE exE = some (1, 2) := by decide +kernel
  show stepC [] exE = _
  unfold stepC
  rw [h]; rfl
theorem ents_lit {w : World} {B : Nat} {L : List EB} {arr : Array Value} {T : TypeId} (h : w.heap[B]? = some (.cells arr T (0, 0))) (harr : arr.toList = entEl.all L) : EntsAt w (some ⟨B, 0, none⟩) L := by
  intro i hi
  have hc : ∀ j (u : Value), (entEl.all L)[i * 4 + j]? = some u → w.cell? ⟨B, i * 4 + j, none⟩ = some u := fun j u hj => by
    rw [← harr] at hj
    simp [World.cell?, h]
    simpa using hj
  have hall : ∀ j (u : Value), (entEl.cells L[i])[j]? = some u → (entEl.all L)[i * 4 + j]? = some u := fun j u hj => by
    have e : entEl.all L = entEl.all (L.take i) ++ (entEl.cells L[i] ++ entEl.all (L.drop (i + 1))) := by
      conv => lhs; rw [← List.take_append_drop i L, List.drop_eq_getElem_cons hi, El.all_append]
      congr 1
    have hl : (entEl.all (L.take i)).length = i * 4 := by
      rw [El.all_len entOk, List.length_take]
      show min i L.length * 4 = i * 4
      omega
    have hjl : j < (entEl.cells L[i]).length := (List.getElem?_eq_some_iff.1 hj).1
    rw [e, List.getElem?_append_right (by omega), hl, List.getElem?_append_left (by omega), show i * 4 + j - i * 4 = j by omega]
    exact hj
  exact ⟨_, rfl, B, i * 4, none, add_any B (i * 4), hc 0 _ (hall 0 _ rfl), hc 1 _ (hall 1 _ rfl), hc 2 _ (hall 2 _ rfl), hc 3 _ (hall 3 _ rfl)⟩
theorem get_is (b : Nat) (key : ByteArray) (q : Int) (L : List EB) (o : Option EB) (w : World) (ho : getE key.data.toList q L = o) (ht : TabAt w b L) (hL : L.length ≤ 100000) (hp : L.Pairwise (fun a b => lessB a b = true)) :
    Calls Tryz.prog 28 #[.pointer (some ⟨b, 0, none⟩), .string key, .int .i64 q] w fun e w' => e = .returned (getV o) ∧ Bel w w' := by
  subst ho; exact get_any b key q L w ht hL hp
theorem samecites_at (p q : Option Addr) (n m cap cap' : Nat) (L : List CT) (w : World) (h : CtsAt w p L) (h' : CtsAt w q L) (hL : L.length ≤ 1000000) (hn : n = L.length) (hm : m = L.length) :
    Calls Tryz.prog 32 #[.slice p n cap, .slice q m cap'] w fun e w' => e = .returned (.bool true) ∧ Drw w w' := by
  subst hn hm; exact samecites_any p q cap cap' L w h h' hL
theorem cts_lit1 {w : World} {B : Nat} {c : CT} {T : TypeId} (h : w.heap[B]? = some (.cells #[.int .i64 (c.t : Int), .int .i64 (c.v : Int), .int .i64 (c.n : Int)] T (0, 0))) : CtsAt w (some ⟨B, 0, none⟩) [c] := by
  intro i hi
  have : i = 0 := by simpa using hi
  subst this
  exact ⟨_, rfl, B, 0, none, rfl, by simp [World.cell?, h], by simp [World.cell?, h], by simp [World.cell?, h]⟩
set_option maxHeartbeats 4000000 in
set_option maxRecDepth 20000 in
theorem shown10_any (w : World) (hM : MaxOk w) : Calls Tryz.prog 9 #[] w fun e w' => e = .returned (.bool true) ∧ Bel w w' := by
  have HM := Lib.hid hM; clear hM
  go_enter Tryz.func9, Tryz.ntmps9
  go_wp2_with (fail)
  refine (pcite_any ⟨#[1, 2, 9]⟩ w (by decide)).mono ?_
  rw [ex_cite1]
  rintro e w1 ⟨rfl, hb⟩
  have HB1 := Lib.hid hb; clear hb
  go_wp2_with (fail)
  refine (pcite_any ⟨#[1]⟩ w1 (by decide)).mono ?_
  rw [ex_cite2]
  rintro e w2 ⟨rfl, hb⟩
  have HB2 := Lib.hid (HB1.out.trans hb); clear hb
  have HE := Lib.hid (ents_lit (L := exT) (heap_new2 w2 (.cells #[.string ⟨#[107]⟩, .int .i64 3, .bool false, .string ⟨#[1, 2]⟩] 23) (.cells #[.string ⟨#[107]⟩, .int .i64 3, .bool false, .string ⟨#[1, 2]⟩] 23)) rfl)
  obtain ⟨X, hX⟩ : ∃ X, X = w2.heap.size := ⟨_, rfl⟩
  have x0 : ((w2.alloc (.cells #[.string ⟨#[107]⟩, .int .i64 3, .bool false, .string ⟨#[1, 2]⟩] 23)).alloc (.cells #[.string ⟨#[107]⟩, .int .i64 3, .bool false, .string ⟨#[1, 2]⟩] 23)).cell? ⟨X, 0, none⟩ = some (.string ⟨#[107]⟩) := cl10 ((Bel.refl _).alloc _) (by rw [hX]; exact (World.cell?_alloc_new ..).trans (by simp))
  have x1 : ((w2.alloc (.cells #[.string ⟨#[107]⟩, .int .i64 3, .bool false, .string ⟨#[1, 2]⟩] 23)).alloc (.cells #[.string ⟨#[107]⟩, .int .i64 3, .bool false, .string ⟨#[1, 2]⟩] 23)).cell? ⟨X, 1, none⟩ = some (.int .i64 3) := cl10 ((Bel.refl _).alloc _) (by rw [hX]; exact (World.cell?_alloc_new ..).trans (by simp))
  have x2 : ((w2.alloc (.cells #[.string ⟨#[107]⟩, .int .i64 3, .bool false, .string ⟨#[1, 2]⟩] 23)).alloc (.cells #[.string ⟨#[107]⟩, .int .i64 3, .bool false, .string ⟨#[1, 2]⟩] 23)).cell? ⟨X, 2, none⟩ = some (.bool false) := cl10 ((Bel.refl _).alloc _) (by rw [hX]; exact (World.cell?_alloc_new ..).trans (by simp))
  have x3 : ((w2.alloc (.cells #[.string ⟨#[107]⟩, .int .i64 3, .bool false, .string ⟨#[1, 2]⟩] 23)).alloc (.cells #[.string ⟨#[107]⟩, .int .i64 3, .bool false, .string ⟨#[1, 2]⟩] 23)).cell? ⟨X, 3, none⟩ = some (.string ⟨#[1, 2]⟩) := cl10 ((Bel.refl _).alloc _) (by rw [hX]; exact (World.cell?_alloc_new ..).trans (by simp))
  have hbx := (HB2.out.alloc (.cells #[.string ⟨#[107]⟩, .int .i64 3, .bool false, .string ⟨#[1, 2]⟩] 23)).alloc (.cells #[.string ⟨#[107]⟩, .int .i64 3, .bool false, .string ⟨#[1, 2]⟩] 23)
  have HX := Lib.hid (And.intro x0 (And.intro x1 (And.intro x2 x3)))
  have HBX := Lib.hid hbx
  have hright : ∀ e ∈ exT, rightB e = true := stand_right exT_stand
  obtain ⟨hf, hsz⟩ := right_fits hright
  have HF := Lib.hid hf; have HZ := Lib.hid hsz; have HR := Lib.hid hright
  have HV := Lib.hid (buildT_ok (l := exT) (by simp [exT]) exT_stand (by decide) exT_rows)
  clear hf hsz hright x0 x1 x2 x3 hbx
  go_wp2_with (fail)
  refine (pbuildT_any (some ⟨w2.heap.size + 1, 0, none⟩) 1 exT _ HE.out (by decide) HF.out HZ.out).mono ?_
  unfold buildV
  rw [HV.out]
  obtain ⟨S, hS⟩ : ∃ S : ByteArray, S = ⟨(fileL exT).toArray⟩ := ⟨_, rfl⟩
  have HSD := Lib.hid (show S.data.toList = fileL exT by rw [hS])
  rw [← hS]
  rintro e w3 ⟨rfl, hb⟩
  have HB3 := Lib.hid (HBX.out.trans hb)
  have HX3 := Lib.hid (And.intro (cl10 hb HX.out.1) (And.intro (cl10 hb HX.out.2.1) (And.intro (cl10 hb HX.out.2.2.1) (cl10 hb HX.out.2.2.2))))
  clear hb hS
  go_wp2_with (fail)
  refine (open_ok exT S w3 HSD.out (HM.out.bel HB3.out) exT_stand (by simp [exT]) (by decide) (by decide) exT_rows).mono ?_
  rintro e w4 ⟨b, rfl, ht, hb⟩
  have HB4 := Lib.hid (HB3.out.trans hb)
  have HT4 := Lib.hid ht
  have HX4 := Lib.hid (And.intro (cl10 hb HX3.out.1) (And.intro (cl10 hb HX3.out.2.1) (And.intro (cl10 hb HX3.out.2.2.1) (cl10 hb HX3.out.2.2.2))))
  clear hb ht
  go_wp2_with (fail)
  refine (open_none w4).mono ?_
  rintro e w5 ⟨rfl, hb⟩
  have HB5 := Lib.hid (HB4.out.trans hb)
  have HT5 := Lib.hid (HT4.out.bel hb)
  have HX5 := Lib.hid (And.intro (cl10 hb HX4.out.1) (And.intro (cl10 hb HX4.out.2.1) (And.intro (cl10 hb HX4.out.2.2.1) (cl10 hb HX4.out.2.2.2))))
  clear hb
  go_wp2_with (fail)
  refine (pinner_at ⟨#[107]⟩ 1 1 w5 (by decide) (by decide) rfl).mono ?_
  rw [ex_inner]
  rintro e w6 ⟨rfl, hb⟩
  have HB6 := Lib.hid (HB5.out.trans hb)
  have HT6 := Lib.hid (HT5.out.bel hb)
  have HX6 := Lib.hid (And.intro (cl10 hb HX5.out.1) (And.intro (cl10 hb HX5.out.2.1) (And.intro (cl10 hb HX5.out.2.2.1) (cl10 hb HX5.out.2.2.2))))
  clear hb
  have HPW := Lib.hid (stand_pair exT_stand)
  go_wp2_with (fail)
  refine (get_is b ⟨#[107]⟩ 2 exT none w6 ex_get1 HT6.out (by decide) HPW.out).mono ?_
  rintro e w7 ⟨rfl, hb⟩
  have HB7 := Lib.hid (HB6.out.trans hb)
  have HT7 := Lib.hid (HT6.out.bel hb)
  have HX7 := Lib.hid (And.intro (cl10 hb HX6.out.1) (And.intro (cl10 hb HX6.out.2.1) (And.intro (cl10 hb HX6.out.2.2.1) (cl10 hb HX6.out.2.2.2))))
  clear hb
  unfold getV
  have ha7 := (Bel.refl w7).alloc (.cells #[.string ⟨#[]⟩, .int .i64 0, .bool false, .string ⟨#[]⟩] 23)
  have HB7a := Lib.hid (HB7.out.trans ha7)
  have HT7a := Lib.hid (HT7.out.bel ha7)
  have HX7a := Lib.hid (And.intro (cl10 ha7 HX7.out.1) (And.intro (cl10 ha7 HX7.out.2.1) (And.intro (cl10 ha7 HX7.out.2.2.1) (cl10 ha7 HX7.out.2.2.2))))
  clear ha7
  go_wp2_with (fail)
  refine (get_is b ⟨#[107]⟩ 9 exT (some exE) _ ex_get2 HT7a.out (by decide) HPW.out).mono ?_
  rintro e w8 ⟨rfl, hb⟩
  have HB8 := Lib.hid (HB7a.out.trans hb)
  have HT8 := Lib.hid (HT7a.out.bel hb)
  have HX8 := Lib.hid (And.intro (cl10 hb HX7a.out.1) (And.intro (cl10 hb HX7a.out.2.1) (And.intro (cl10 hb HX7a.out.2.2.1) (cl10 hb HX7a.out.2.2.2))))
  clear hb
  have ha8 := (Bel.refl w8).alloc (.cells #[.string ⟨#[107]⟩, .int .i64 3, .bool false, .string ⟨#[1, 2]⟩] 23)
  have HB8a := Lib.hid (HB8.out.trans ha8)
  have HT8a := Lib.hid (HT8.out.bel ha8)
  have y0 := cl10 ha8 HX8.out.1
  have y1 := cl10 ha8 HX8.out.2.1
  have y2 := cl10 ha8 HX8.out.2.2.1
  have y3 := cl10 ha8 HX8.out.2.2.2
  rw [hX] at y0 y1 y2 y3
  clear ha8
  have HC := Lib.hid ex_cites
  show _
  unfold getV exE
  go_wp2_with (fail)
  refine (tcites_any b exT _ HT8a.out (by decide) HR.out).mono ?_
  rintro e w9 ⟨v, rfl, ho, hb⟩
  rw [HC.out] at ho
  obtain ⟨q, qc, rfl, hat⟩ := ownG_cts ho
  have HB9 := Lib.hid (HB8a.out.trans hb)
  have HT9 := Lib.hid (HT8a.out.bel hb)
  have hal := (Bel.refl w9).alloc (.cells #[.int .i64 1, .int .i64 2, .int .i64 1] 50)
  have HAT := Lib.hid (hat.bel hal)
  have HLT := Lib.hid (cts_lit1 (c := ⟨1, 2, 1⟩) (heap_alloc_new w9 (.cells #[.int .i64 1, .int .i64 2, .int .i64 1] 50)))
  have HB10 := Lib.hid (HB9.out.trans hal)
  have HT10 := Lib.hid (HT9.out.bel hal)
  clear ho hb hat hal y0 y1 y2 y3
  go_wp2_with (fail)
  refine (samecites_at q (some ⟨w9.heap.size, 0, none⟩) _ 1 qc 1 [⟨1, 2, 1⟩] _ HAT.out HLT.out (by decide) rfl rfl).mono ?_
  rintro e w11 ⟨rfl, hd⟩
  have HB11 := Lib.hid (HB10.out.trans hd.bel)
  have HT11 := Lib.hid (HT10.out.bel hd.bel)
  clear hd
  go_wp2_with (fail)
  refine (len10_any b exT w11 HT11.out).mono ?_
  rintro e w12 ⟨rfl, hb⟩
  have HB12 := Lib.hid (HB11.out.trans hb)
  have hl1 : exT.length = 1 := rfl
  rw [hl1]
  go_wp2_with (fail)
  go_ret
  exact ⟨rfl, HB12.out⟩
end Go.Proofs.YtllcdhbchcpdoaaGreatDoor
