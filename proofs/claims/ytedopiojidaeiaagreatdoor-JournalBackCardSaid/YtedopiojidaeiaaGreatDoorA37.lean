/- JAct, JLaw1, laid together. -/
import Derived.Test.YtedopiojidaeiaaGreatDoorA36
import Derived.Test.YtedopiojidaeiaaGreatDoorA27
/- moultlaw7's acts, as they lie; small. -/
set_option linter.unusedSimpArgs false
set_option linter.unusedVariables false
namespace Go.Proofs.YtedopiojidaeiaaGreatDoor
open Go.RowKit Go.Deep Go.Maps

/-- An act as it came in. -/
structure JV where
  op : Int
  n : Int
  bp : Option Addr
  bc : Nat
  bl : List (List UInt8)
  left : SI
  spoil : SI
structure JV.ok (w : World) (x : JV) : Prop where
  op : in64 x.op
  n : in64 x.n
  at_ : StrsAt w x.bp x.bl
  len : x.bl.length ≤ maxLen
  each : ∀ t ∈ x.bl, t.length ≤ maxLen
  left : SI.ok w x.left
  spoil : SI.ok w x.spoil
def JV.cells (x : JV) : List Value := [.int .i64 x.op, .int .i64 x.n, .slice x.bp x.bl.length x.bc, x.left.val, x.spoil.val]
/-- The slice at p holds the acts L. -/
def JActs (w : World) (p : Option Addr) (L : List JV) : Prop := ∀ i (h : i < L.length), ∃ B O sp, p.map (fun a => a.add (i * 5)) = some ⟨B, O, sp⟩ ∧
  (∀ j u, L[i].cells[j]? = some u → w.cell? ((⟨B, O, sp⟩ : Addr).add j) = some u) ∧ JV.ok w L[i]
theorem JV.ok.bel {w x : World} {v : JV} (h : JV.ok w v) (hb : Bel w x) : JV.ok x v := ⟨h.op, h.n, h.at_.bel hb, h.len, h.each, h.left.bel hb, h.spoil.bel hb⟩
theorem JActs.bel {w x : World} {p : Option Addr} {L : List JV} (h : JActs w p L) (hb : Bel w x) : JActs x p L := by
  intro i hi
  obtain ⟨B, O, sp, hp, hc, ho⟩ := h i hi
  exact ⟨B, O, sp, hp, fun j u hj => (Below.cell hb (block_lt_of_cell (hc j u hj))).trans (hc j u hj), ho.bel hb⟩
theorem jact_cells {w : World} {p : Option Addr} {L : List JV} (h : JActs w p L) {k : Nat} (hk : k < L.length) : ∃ B O sp, p.map (fun a => a.add (k * 5)) = some ⟨B, O, sp⟩ ∧
    w.cell? ⟨B, O, sp⟩ = some (.int .i64 L[k].op) ∧ w.cell? ⟨B, O + 1, none⟩ = some (.int .i64 L[k].n) ∧ w.cell? ⟨B, O + 2, none⟩ = some (.slice L[k].bp L[k].bl.length L[k].bc) ∧ w.cell? ⟨B, O + 3, none⟩ = some L[k].left.val ∧
    w.cell? ⟨B, O + 4, none⟩ = some L[k].spoil.val ∧ JV.ok w L[k] := by
  obtain ⟨B, O, sp, hp, hc, ho⟩ := h k hk
  refine ⟨B, O, sp, hp, ?_, ?_, ?_, ?_, ?_, ho⟩
  · simpa [Addr.add] using hc 0 _ rfl
  · simpa [Addr.add] using hc 1 _ rfl
  · simpa [Addr.add] using hc 2 _ rfl
  · simpa [Addr.add] using hc 3 _ rfl
  · simpa [Addr.add] using hc 4 _ rfl
def strsB (l : List (List UInt8)) : Bool := l.all fun t => decide (t.length ≤ 900)
def JV.small (x : JV) : Bool := (decide (x.bl.length ≤ 60) && (decide (x.left.L.length ≤ 60) && decide (x.spoil.L.length ≤ 60))) && strsB x.bl
def jsmallB (L : List JV) : Bool := decide (L.length ≤ 60) && L.all JV.small
theorem drw_cell {w x : World} (h : Drw w x) (a : Addr) : x.cell? a = w.cell? a := by obtain ⟨m, rfl⟩ := h; rfl
theorem strs_drw {w x y : World} {p : Option Addr} {l : List (List UInt8)} (hx : Drw w x) (hy : Drw w y) (h : StrsAt x p l) : StrsAt y p l := fun i hi => by
  obtain ⟨a, ha, hc⟩ := h i hi
  exact ⟨a, ha, (drw_cell hy _).trans ((drw_cell hx _).symm.trans hc)⟩
def JsRel (L : List JV) (i : Value) : Prop := ∃ k : Nat, i = .int .i64 k ∧ k ≤ L.length ∧ (L.take k).all JV.small = true
set_option maxHeartbeats 4000000 in
theorem jsmall_any (w : World) (p : Option Addr) (cap : Nat) (L : List JV) (h : JActs w p L) (hL : L.length ≤ maxLen) :
    Calls Tryz.prog 10 #[.slice p L.length cap] w fun e w' => e = .returned (.bool (jsmallB L)) ∧ Drw w w' := by
  unfold maxLen at hL
  have H := Lib.hid h; clear h
  by_cases h60 : 60 < L.length
  · have HB := Lib.hid (show jsmallB L = false by unfold jsmallB; rw [decide_eq_false (by omega)]; rfl)
    go_enter Tryz.func10, Tryz.ntmps10
    go_wp2_with (fail)
    go_ret
    exact ⟨ret_bool (by rw [HB.out]), Drw.refl w⟩
  have h60' : L.length ≤ 60 := by omega
  go_enter Tryz.func10, Tryz.ntmps10
  go_wp2_with (fail)
  go_loopw [3] (fun i x => JsRel L i ∧ Drw w x) (fun i _ => L.length - (intOf i).toNat)
  case atStart => exact ⟨⟨0, rfl, Nat.zero_le _, rfl⟩, Drw.refl w⟩
  case round =>
    obtain ⟨⟨k, rfl, hk, hall⟩, hw⟩ := hrel
    have HW := Lib.hid hw; clear hw
    have HA := Lib.hid hall; clear hall
    by_cases hlt : k < L.length
    · obtain ⟨B, O, sp, hp, c0, c1, c2, c3, c4, hok⟩ := jact_cells (H.out.bel HW.out.bel) hlt
      cases p with
      | none => cases hp
      | some a =>
      simp only [Option.map_some, Option.some.injEq] at hp
      obtain ⟨y, hy⟩ : ∃ y, y = L[k] := ⟨_, rfl⟩
      have HT := Lib.hid (show (L.take (k + 1)).all JV.small = JV.small y by
        rw [List.take_add_one, List.getElem?_eq_getElem hlt, List.all_append, HA.out, hy]; simp)
      have HF := Lib.hid (show JV.small y = false → jsmallB L = false by
        intro hs
        unfold jsmallB
        have : L.all JV.small = false := by rw [List.all_eq_false]; exact ⟨L[k], List.getElem_mem hlt, by rw [← hy, hs]; simp⟩
        rw [this, Bool.and_false])
      rw [← hy] at c0 c1 c2 c3 c4 hok
      have k1 := hok.len
      have k4 := hok.left.2.1
      have k5 := hok.spoil.2.1
      have HOK := Lib.hid hok
      unfold SI.val at c3 c4
      unfold maxLen at k1 k4 k5
      clear hok hy
      by_cases q1 : y.bl.length ≤ 60
      · by_cases q4 : y.left.L.length ≤ 60
        · by_cases q5 : y.spoil.L.length ≤ 60
          · have HE := Lib.hid (show JV.small y = strsB y.bl by unfold JV.small; rw [decide_eq_true q1, decide_eq_true q4, decide_eq_true q5]; simp)
            go_wp2_with (fail)
            go_loopw [4] (fun i x => (∃ j : Nat, i = .int .i64 j ∧ j ≤ y.bl.length ∧ strsB (y.bl.take j) = true) ∧ Drw w x) (fun i _ => y.bl.length - (intOf i).toNat)
            case atStart => exact ⟨⟨0, rfl, Nat.zero_le _, rfl⟩, HW.out⟩
            case round =>
              obtain ⟨⟨j, rfl, hj, hst⟩, hw2⟩ := hrel
              have HST := Lib.hid hst
              have HW2 := Lib.hid hw2
              clear hst hw2
              have d2 := (drw_cell HW2.out ⟨B, O + 2, none⟩).trans ((drw_cell HW.out _).symm.trans c2)
              have HSX := Lib.hid (strs_drw HW.out HW2.out HOK.out.at_)
              clear c0 c1 c2 c3 c4
              by_cases hjl : j < y.bl.length
              · obtain ⟨q, hq, hcq⟩ := HSX.out j hjl
                have htl := HOK.out.each y.bl[j] (List.getElem_mem hjl)
                have HTJ := Lib.hid (show strsB (y.bl.take (j + 1)) = decide (y.bl[j].length ≤ 900) by
                  unfold strsB at HST ⊢
                  rw [List.take_add_one, List.getElem?_eq_getElem hjl, List.all_append, HST.out]; simp)
                have HFJ := Lib.hid (show ¬ y.bl[j].length ≤ 900 → strsB y.bl = false from fun hn => by
                  unfold strsB
                  rw [List.all_eq_false]
                  exact ⟨y.bl[j], List.getElem_mem hjl, by simp; omega⟩)
                obtain ⟨t, ht⟩ : ∃ t, t = y.bl[j] := ⟨_, rfl⟩
                rw [← ht] at hcq htl HTJ HFJ
                have htz := str_len t
                unfold maxLen at htl
                rw [hq] at d2
                clear ht
                by_cases h9 : t.length ≤ 900
                · have HT9 := Lib.hid (HTJ.out.trans (decide_eq_true h9))
                  go_wp2_with (fail)
                  go_roundw
                  case rel => exact ⟨⟨j + 1, by go_num, by omega, HT9.out⟩, HW2.out⟩
                  case measure => simp [intOf]; omega
                · have HS := Lib.hid (HF.out (by rw [HE.out, HFJ.out h9]))
                  go_wp2_with (fail)
                  go_ret
                  exact ⟨ret_bool (by rw [HS.out]), HW2.out⟩
              · obtain rfl : j = y.bl.length := by omega
                have HSM := Lib.hid (show JV.small y = true by
                  rw [HE.out]
                  have := HST.out
                  rwa [List.take_length] at this)
                go_wp2_with (fail)
                go_roundw
                case rel => exact ⟨⟨k + 1, by go_num, by omega, by rw [HT.out, HSM.out]⟩, HW2.out⟩
                case measure => simp [intOf]; omega
          · have HS := Lib.hid (HF.out (by unfold JV.small; rw [decide_eq_false q5]; simp))
            go_wp2_with (fail)
            go_ret
            exact ⟨ret_bool (by rw [HS.out]), HW.out⟩
        · have HS := Lib.hid (HF.out (by unfold JV.small; rw [decide_eq_false q4]; simp))
          go_wp2_with (fail)
          go_ret
          exact ⟨ret_bool (by rw [HS.out]), HW.out⟩
      · have HS := Lib.hid (HF.out (by unfold JV.small; rw [decide_eq_false q1]; simp))
        go_wp2_with (fail)
        go_ret
        exact ⟨ret_bool (by rw [HS.out]), HW.out⟩
    · obtain rfl : k = L.length := by omega
      have HS := Lib.hid (show jsmallB L = true by
        have := HA.out
        rw [List.take_length] at this
        unfold jsmallB
        rw [this]; simp; omega)
      go_wp2_with (fail)
      go_ret
      exact ⟨ret_bool (by rw [HS.out]), HW.out⟩
end Go.Proofs.YtedopiojidaeiaaGreatDoor
/- moultlaw7.JournalBatches, JournalBack. -/
set_option linter.unusedSimpArgs false
set_option linter.unusedVariables false
namespace Go.Proofs.YtedopiojidaeiaaGreatDoor
open Go.RowKit Go.Deep Go.Maps

theorem lit_act (W : World) (lp : Option Addr) (lc : Nat) (L : List (List UInt8)) (h : StrsAt W lp L) (hl : L.length ≤ maxLen) (he : ∀ t ∈ L, t.length ≤ maxLen) :
    JActs (W.alloc (.cells #[.int .i64 0, .int .i64 0, .slice lp L.length lc, .slice none 0 0, .slice none 0 0] 27)) (some ⟨W.heap.size, 0, none⟩) [⟨0, 0, lp, lc, L, nilI, nilI⟩] := by
  intro i hi
  have hi0 : i = 0 := by simp at hi; exact hi
  subst hi0
  refine ⟨W.heap.size, 0, none, rfl, fun j u hj => ?_, ⟨(show in64 (0 : Int) from ⟨by decide, by decide⟩), (show in64 (0 : Int) from ⟨by decide, by decide⟩), h.bel ((Bel.refl W).alloc _), hl, he, nilI_ok _, nilI_ok _⟩⟩
  have e : (⟨W.heap.size, 0, none⟩ : Addr).add j = ⟨W.heap.size, j, none⟩ := by cases j <;> simp [Addr.add]
  rw [e]
  have e2 : (W.alloc (.cells #[.int .i64 0, .int .i64 0, .slice lp L.length lc, .slice none 0 0, .slice none 0 0] 27)).cell? ⟨W.heap.size, j, none⟩ = (#[.int .i64 0, .int .i64 0, .slice lp L.length lc, .slice none 0 0, .slice none 0 0] : Array Value)[j]? := World.cell?_alloc_new ..
  rw [e2]
  match j, hj with
  | 0, hj => exact hj
  | 1, hj => exact hj
  | 2, hj => exact hj
  | 3, hj => exact hj
  | 4, hj => exact hj
  | j + 5, hj => simp [JV.cells] at hj
theorem ba_back (s : ByteArray) : (⟨s.data.toList.toArray⟩ : ByteArray) = s := by apply ByteArray.ext; simp
theorem small_one (lp : Option Addr) (lc : Nat) (L : List (List UInt8)) : jsmallB [⟨0, 0, lp, lc, L, nilI, nilI⟩] = (decide (L.length ≤ 60) && strsB L) := by
  simp [jsmallB, JV.small, nilI]
theorem strsB_le {L : List (List UInt8)} (h : strsB L = true) : ∀ t ∈ L, t.length ≤ 900 := fun t ht => by
  unfold strsB at h
  rw [List.all_eq_true] at h
  simpa using h t ht
def BcRel (s : List UInt8) (w1 : World) (n : Nat) (ov iv : Value) (x : World) : Prop := ∃ k : Nat, iv = .int .i64 k ∧ k ≤ n ∧ OwnG strEl w1.heap.size x ov (List.replicate k s) ∧ Bel w1 x
set_option maxHeartbeats 4000000 in
theorem law_batches_any (w : World) (lp : Option Addr) (lc : Nat) (L : List (List UInt8)) (s : ByteArray) (many : Int) (hstd : Std w) (h : StrsAt w lp L) (hl : L.length ≤ maxLen) (he : ∀ t ∈ L, t.length ≤ maxLen) (hs : s.size ≤ maxLen) (hmany : -9223372036854775808 ≤ many ∧ many ≤ 9223372036854775807) :
    Calls Tryz.prog 3 #[.slice lp L.length lc, .string s, .int .i64 many] w fun e w' => e = .returned (.bool true) ∧ Bel w w' := by
  have HS := Lib.hid hstd
  have H := Lib.hid h
  have HL := Lib.hid hl
  have HE := Lib.hid he
  have HMN := Lib.hid (show in64 many from hmany)
  unfold maxLen at hs
  clear hstd h hl he
  cases hsm : jsmallB [⟨0, 0, lp, lc, L, nilI, nilI⟩] with
  | false =>
    have HSM := Lib.hid hsm; clear hsm
    go_enter Tryz.func3, Tryz.ntmps3
    go_wp2_with (fail)
    refine (jshown_any w HS.out).mono ?_
    rintro e w1 ⟨rfl, hb1⟩
    have HB1 := Lib.hid hb1; clear hb1
    go_wp2_with (fail)
    refine (jsmall_any _ (some ⟨w1.heap.size, 0, none⟩) 1 [⟨0, 0, lp, lc, L, nilI, nilI⟩] (lit_act w1 lp lc L (H.out.bel HB1.out) HL.out HE.out) (by unfold maxLen; simp)).mono ?_
    rintro e w2 ⟨rfl, hd2⟩
    rw [HSM.out]
    have HB2 := Lib.hid ((HB1.out.alloc _).trans hd2.bel); clear hd2
    go_wp2_with (fail)
    go_ret
    exact ⟨rfl, HB2.out⟩
  | true =>
  have hL60 : L.length ≤ 60 := by rw [small_one] at hsm; simp at hsm; exact hsm.1
  have HT := Lib.hid (show ∀ t ∈ L, t.length ≤ 900 from strsB_le (by rw [small_one] at hsm; simp at hsm; exact hsm.2))
  have HT6 := Lib.hid (show ∀ t ∈ L, t.length ≤ 1000000 from fun t ht => Nat.le_trans (HT.out t ht) (by omega))
  have HSM := Lib.hid hsm; clear hsm
  by_cases h3 : 3000 < s.size
  · go_enter Tryz.func3, Tryz.ntmps3
    go_wp2_with (fail)
    refine (jshown_any w HS.out).mono ?_
    rintro e w1 ⟨rfl, hb1⟩
    have HB1 := Lib.hid hb1; clear hb1
    go_wp2_with (fail)
    refine (jsmall_any _ (some ⟨w1.heap.size, 0, none⟩) 1 [⟨0, 0, lp, lc, L, nilI, nilI⟩] (lit_act w1 lp lc L (H.out.bel HB1.out) HL.out HE.out) (by unfold maxLen; simp)).mono ?_
    rintro e w2 ⟨rfl, hd2⟩
    rw [HSM.out]
    have HB2 := Lib.hid ((HB1.out.alloc _).trans hd2.bel); clear hd2
    go_wp2_with (fail)
    go_ret
    exact ⟨rfl, HB2.out⟩
  · obtain ⟨bs, be, hb⟩ : ∃ bs be, batchV L = .tuple #[.string bs, .int .i64 be] := ⟨_, _, rfl⟩
    have HBV := Lib.hid hb
    obtain ⟨lu, eu, hu⟩ : ∃ lu eu, unbS s.data.toList = (lu, eu) := ⟨_, _, rfl⟩
    have HU := Lib.hid hu
    have hlu : lu.length ≤ 50 := by
      unfold unbS at hu
      cases hq : unbL s.data.toList with
      | none => rw [hq] at hu; simp only [Prod.mk.injEq] at hu; rw [← hu.1]; simp
      | some l => rw [hq] at hu; simp only [Prod.mk.injEq] at hu; rw [← hu.1]; exact (unb_back hq).2
    obtain ⟨m, hm⟩ : ∃ m, m = pickN many 53 := ⟨_, rfl⟩
    have HM := Lib.hid hm
    have hm53 : m < 53 := by rw [hm]; exact pickN_lt many (by omega)
    clear hb hu hm
    have hbe : (be != be) = false := by simp
    have hbe2 : (be == be) = true := by simp
    have heu : (eu != eu) = false := by simp
    go_enter Tryz.func3, Tryz.ntmps3
    go_wp2_with (fail)
    refine (jshown_any w HS.out).mono ?_
    rintro e w1 ⟨rfl, hb1⟩
    have HB1 := Lib.hid hb1; clear hb1
    go_wp2_with (fail)
    refine (jsmall_any _ (some ⟨w1.heap.size, 0, none⟩) 1 [⟨0, 0, lp, lc, L, nilI, nilI⟩] (lit_act w1 lp lc L (H.out.bel HB1.out) HL.out HE.out) (by unfold maxLen; simp)).mono ?_
    rintro e w2 ⟨rfl, hd2⟩
    rw [HSM.out]
    have HB2 := Lib.hid ((HB1.out.alloc _).trans hd2.bel); clear hd2
    go_wp2_with (fail)
    refine (batch_any w2 lp lc L (H.out.bel HB2.out) HL.out HT6.out).mono ?_
    rintro e w3 ⟨rfl, hb3⟩
    rw [HBV.out]
    have HB3 := Lib.hid (HB2.out.trans hb3); clear hb3
    go_wp2_with (fail)
    refine (rbatch_any w3 lp lc L (H.out.bel HB3.out) HL.out HT6.out).mono ?_
    rintro e w4 ⟨rfl, hb4⟩
    rw [HBV.out]
    have HB4 := Lib.hid (HB3.out.trans hb4); clear hb4
    go_wp2_with (fail)
    refine (unbatch_any s w4 (by omega)).mono ?_
    rintro e w5 ⟨v5, rfl, ho5, hb5⟩
    rw [HU.out] at ho5 ⊢
    obtain ⟨p5, c5, rfl, hat5⟩ := ownG_strs ho5
    have HA5 := Lib.hid hat5
    have HB5 := Lib.hid (HB4.out.trans hb5); clear hb5 ho5 hat5
    go_wp2_with (fail)
    refine (runbatch_any s w5 (by omega)).mono ?_
    rintro e w6 ⟨v6, rfl, ho6, hb6⟩
    rw [HU.out] at ho6 ⊢
    obtain ⟨p6, c6, rfl, hat6⟩ := ownG_strs ho6
    have HA6 := Lib.hid hat6
    have HA56 := Lib.hid (HA5.out.bel hb6)
    have HB6 := Lib.hid (HB5.out.trans hb6); clear hb6 ho6 hat6
    go_wp2_with (first
      | (go_at_call 15; refine (jsame_any _ p5 p6 c5 c6 lu lu HA56.out HA6.out (by omega) (by omega)).mono ?_; rintro e w7 ⟨rfl, hd7⟩; rw [decide_eq_true (rfl : lu = lu)]; have HB7 := Lib.hid (HB6.out.trans hd7.bel); clear hd7))
    go_loopw [17, 18] (fun ov iv x => BcRel s.data.toList w7 m ov iv x) (fun _ iv _ => m - (intOf iv).toNat)
    case atStart => exact ⟨0, rfl, Nat.zero_le _, OwnG.nil _ _ _, Bel.refl _⟩
    case round =>
      obtain ⟨k, rfl, hk, hown, hb⟩ := hrel
      have HB := Lib.hid hb
      have HO := Lib.hid hown
      obtain ⟨op, oc, hov⟩ := ownG_len hown
      rw [List.length_replicate] at hov
      subst hov
      clear hown hb
      have hrl : (List.replicate k s.data.toList).length = k := List.length_replicate
      by_cases hlt : k < m
      · have HRS := Lib.hid (show List.replicate (k + 1) s.data.toList = List.replicate k s.data.toList ++ [s.data.toList] from List.replicate_succ')
        go_wp2_with (first
          | (go_at_call 16; refine (jpick_at _ _ 53 _ HMN.out (by omega) (by omega) rfl).mono ?_; rintro e w' ⟨rfl, rfl⟩; rw [← HM.out])
          | (at_builtin; refine stop_here ?_))
        refine go_on ?_
        refine append_glit (L := List.replicate k s.data.toList) strOk rfl _ _ rfl rfl HO.out _ _ _ [s.data.toList] rfl rfl (by rw [show strEl.all [s.data.toList] = [.string ⟨s.data.toList.toArray⟩] from rfl, ba_back]) (by unfold maxLen; simp only [List.length_singleton]; omega) (by simp only [List.length_singleton]; omega) HB.out.size (Or.inl rfl) ?_
        intro v3 w3 hown3 hb3 hZ3
        obtain ⟨p3, c3, hv3⟩ := ownG_len hown3
        rw [List.length_append, hrl, List.length_singleton] at hv3
        subst hv3
        have HV3 := Lib.hid hown3
        have HB3 := Lib.hid (HB.out.trans_below hb3)
        clear hown3 hb3
        go_wp2_with (fail)
        go_roundw
        case rel => exact ⟨k + 1, by go_num, by omega, by rw [HRS.out]; exact HV3.out, HB3.out⟩
        case measure => simp [intOf]; omega
      · obtain rfl : k = m := by omega
        obtain ⟨p', c', hv', hat⟩ := ownG_strs HO.out
        rw [hrl] at hv'
        simp only [Value.slice.injEq, true_and] at hv'
        obtain ⟨rfl, rfl⟩ := hv'
        have HA := Lib.hid hat
        obtain ⟨cs, ce, hcb⟩ : ∃ cs ce, batchV (List.replicate k s.data.toList) = .tuple #[.string cs, .int .i64 ce] := ⟨_, _, rfl⟩
        have HCB := Lib.hid hcb
        have hce : (ce == ce) = true := by simp
        have HRP := Lib.hid (show ∀ t ∈ List.replicate k s.data.toList, t.length ≤ 1000000 from fun t ht => by
          rw [List.eq_of_mem_replicate ht]
          show s.size ≤ _
          omega)
        have HC1 := Lib.hid (fun z (hz : StrsAt z op (List.replicate k s.data.toList)) => batch_any z op oc (List.replicate k s.data.toList) hz (by unfold maxLen; omega) HRP.out)
        have HC2 := Lib.hid (fun z (hz : StrsAt z op (List.replicate k s.data.toList)) => rbatch_any z op oc (List.replicate k s.data.toList) hz (by unfold maxLen; omega) HRP.out)
        rw [hrl] at HC1 HC2
        clear hcb hat
        go_wp2_with (first
          | (go_at_call 16; refine (jpick_at _ _ 53 _ HMN.out (by omega) (by omega) rfl).mono ?_; rintro e w' ⟨rfl, rfl⟩; rw [← HM.out])
          | (go_at_call 11; refine (HC1.out _ HA.out).mono ?_; rintro e w8 ⟨rfl, hb8⟩; rw [HCB.out]; have HB8 := Lib.hid (HB.out.trans hb8); have HA8 := Lib.hid (HA.out.bel hb8); clear hb8)
          | (go_at_call 12; refine (HC2.out _ HA8.out).mono ?_; rintro e w9 ⟨rfl, hb9⟩; rw [HCB.out]; have HB9 := Lib.hid (HB8.out.trans hb9); clear hb9))
        go_ret
        exact ⟨rfl, HB7.out.trans HB9.out⟩
set_option maxHeartbeats 4000000 in
theorem law_back7_any (w : World) (lp : Option Addr) (lc : Nat) (L : List (List UInt8)) (s : ByteArray) (at_ : Int) (hstd : Std w) (h : StrsAt w lp L) (hl : L.length ≤ maxLen) (he : ∀ t ∈ L, t.length ≤ maxLen) (hs : s.size ≤ maxLen) (hat : -9223372036854775808 ≤ at_ ∧ at_ ≤ 9223372036854775807) :
    Calls Tryz.prog 4 #[.slice lp L.length lc, .string s, .int .i64 at_] w fun e w' => e = .returned (.bool true) ∧ Bel w w' := by
  have HS := Lib.hid hstd
  have H := Lib.hid h
  have HL := Lib.hid hl
  have HE := Lib.hid he
  have HAT := Lib.hid (show in64 at_ from hat)
  unfold maxLen at hs
  clear hstd h hl he
  cases hsm : jsmallB [⟨0, 0, lp, lc, L, nilI, nilI⟩] with
  | false =>
    have HSM := Lib.hid hsm; clear hsm
    go_enter Tryz.func4, Tryz.ntmps4
    go_wp2_with (fail)
    refine (jshown_any w HS.out).mono ?_
    rintro e w1 ⟨rfl, hb1⟩
    have HB1 := Lib.hid hb1; clear hb1
    go_wp2_with (fail)
    refine (jsmall_any _ (some ⟨w1.heap.size, 0, none⟩) 1 [⟨0, 0, lp, lc, L, nilI, nilI⟩] (lit_act w1 lp lc L (H.out.bel HB1.out) HL.out HE.out) (by unfold maxLen; simp)).mono ?_
    rintro e w2 ⟨rfl, hd2⟩
    rw [HSM.out]
    have HB2 := Lib.hid ((HB1.out.alloc _).trans hd2.bel); clear hd2
    go_wp2_with (fail)
    go_ret
    exact ⟨rfl, HB2.out⟩
  | true =>
  have hL60 : L.length ≤ 60 := by rw [small_one] at hsm; simp at hsm; exact hsm.1
  have HT := Lib.hid (show ∀ t ∈ L, t.length ≤ 900 from strsB_le (by rw [small_one] at hsm; simp at hsm; exact hsm.2))
  have HT6 := Lib.hid (show ∀ t ∈ L, t.length ≤ 1000000 from fun t ht => Nat.le_trans (HT.out t ht) (by omega))
  have HSM := Lib.hid hsm; clear hsm
  by_cases h3 : 3000 < s.size
  · go_enter Tryz.func4, Tryz.ntmps4
    go_wp2_with (fail)
    refine (jshown_any w HS.out).mono ?_
    rintro e w1 ⟨rfl, hb1⟩
    have HB1 := Lib.hid hb1; clear hb1
    go_wp2_with (fail)
    refine (jsmall_any _ (some ⟨w1.heap.size, 0, none⟩) 1 [⟨0, 0, lp, lc, L, nilI, nilI⟩] (lit_act w1 lp lc L (H.out.bel HB1.out) HL.out HE.out) (by unfold maxLen; simp)).mono ?_
    rintro e w2 ⟨rfl, hd2⟩
    rw [HSM.out]
    have HB2 := Lib.hid ((HB1.out.alloc _).trans hd2.bel); clear hd2
    go_wp2_with (fail)
    go_ret
    exact ⟨rfl, HB2.out⟩
  obtain ⟨lu, eu, hu⟩ : ∃ lu eu, unbS s.data.toList = (lu, eu) := ⟨_, _, rfl⟩
  have hlu : lu.length ≤ 50 ∧ (eu = 0 → encL lu = s.data.toList) ∧ ∀ t ∈ lu, t.length ≤ 3000 := by
    unfold unbS at hu
    cases hq : unbL s.data.toList with
    | none => rw [hq] at hu; simp only [Prod.mk.injEq] at hu; obtain ⟨rfl, rfl⟩ := hu; simp
    | some l =>
      rw [hq] at hu; simp only [Prod.mk.injEq] at hu; obtain ⟨rfl, rfl⟩ := hu
      obtain ⟨q1, q2⟩ := unb_back hq
      exact ⟨q2, fun _ => q1, fun t ht => by have := enc_mem q1 t ht; have hh : s.data.toList.length = s.size := rfl; omega⟩
  have HLU := Lib.hid (show ∀ t ∈ lu, t.length ≤ 1000000 from fun t ht => Nat.le_trans (hlu.2.2 t ht) (by omega))
  have HSB := Lib.hid (show eu = 0 → batchV lu = .tuple #[.string s, .int .i64 0] from fun h => by
    have q := hlu.2.1 h
    have hh : s.data.toList.length = s.size := rfl
    unfold batchV
    rw [batch_of hlu.1 (by rw [q]; omega), q, ba_back])
  have hlu50 := hlu.1
  clear hlu
  by_cases hok : (batchS L).2 = 0
  · obtain ⟨hb1, hb2, hb3⟩ := batch_ok hok
    have HBV := Lib.hid (show batchV L = .tuple #[.string ⟨(encL L).toArray⟩, .int .i64 0] by unfold batchV; rw [hok, hb1])
    have hel := str_len (encL L)
    have hpos : 0 < (encL L).length := by have := enc_len L; have := szN_pos L.length; omega
    have hmem : ∀ t ∈ L, t.length < 18446744073709551616 := fun t ht => by have := HT.out t ht; omega
    have HU1 := Lib.hid (show unbS (⟨(encL L).toArray⟩ : ByteArray).data.toList = (L, 0) by
      rw [str_list]
      have := unb_enc L [] hb2 hmem
      rw [List.append_nil, if_pos rfl] at this
      exact unbs_some this)
    obtain ⟨c, hc⟩ : ∃ c, c = pickN at_ (encL L).length := ⟨_, rfl⟩
    have hcl : c < (encL L).length := by rw [hc]; exact pickN_lt at_ hpos
    have HC := Lib.hid hc
    have HU2 := Lib.hid (show unbS ((⟨(encL L).toArray⟩ : ByteArray).extract 0 c).data.toList = ([], 8) by
      rw [ext_data, List.drop_zero, str_list]
      exact unbs_none (unb_cut L hb2 (by omega) c hcl))
    have hex : ((⟨(encL L).toArray⟩ : ByteArray).extract 0 c).size ≤ 40000 := by rw [ByteArray.size_extract]; omega
    have HU3 := Lib.hid (show unbS ((⟨(encL L).toArray⟩ : ByteArray) ++ ⟨#[120]⟩).data.toList = ([], 8) by
      rw [ByteArray.data_append, Array.toList_append, str_list]
      have := unb_enc L [120] hb2 hmem
      rw [if_neg (by simp)] at this
      exact unbs_none this)
    have hap : ((⟨(encL L).toArray⟩ : ByteArray) ++ ⟨#[120]⟩).size ≤ 40001 := by rw [ByteArray.size_append]; show _ + 1 ≤ _; omega
    clear hb1 hok hc hmem
    go_enter Tryz.func4, Tryz.ntmps4
    go_wp2_with (fail)
    refine (jshown_any w HS.out).mono ?_
    rintro e w1 ⟨rfl, hb1⟩
    have HB1 := Lib.hid hb1; clear hb1
    go_wp2_with (fail)
    refine (jsmall_any _ (some ⟨w1.heap.size, 0, none⟩) 1 [⟨0, 0, lp, lc, L, nilI, nilI⟩] (lit_act w1 lp lc L (H.out.bel HB1.out) HL.out HE.out) (by unfold maxLen; simp)).mono ?_
    rintro e w2 ⟨rfl, hd2⟩
    rw [HSM.out]
    have HB2 := Lib.hid ((HB1.out.alloc _).trans hd2.bel); clear hd2
    go_wp2_with (fail)
    refine (batch_any w2 lp lc L (H.out.bel HB2.out) HL.out HT6.out).mono ?_
    rintro e w3 ⟨rfl, hb⟩
    rw [HBV.out]
    have HB3 := Lib.hid (HB2.out.trans hb); clear hb
    go_wp2_with (fail)
    refine (unbatch_any _ w3 (by omega)).mono ?_
    rintro e w4 ⟨v4, rfl, ho4, hb⟩
    rw [HU1.out] at ho4 ⊢
    obtain ⟨p4, c4, rfl, hat4⟩ := ownG_strs ho4
    have HA4 := Lib.hid hat4
    have HB4 := Lib.hid (HB3.out.trans hb); clear hb ho4 hat4
    go_wp2_with (first
      | (go_at_call 16; refine (jpick_at _ _ (encL L).length _ HAT.out hpos (by omega) (by first | rfl | (simp; done) | omega)).mono ?_; rintro e w' ⟨rfl, rfl⟩; rw [← HC.out]))
    refine (unbatch_any _ _ (by omega)).mono ?_
    rintro e w5 ⟨v5, rfl, -, hb⟩
    rw [show (unbS ((⟨(encL L).toArray⟩ : ByteArray).extract 0 c).data.toList).2 = 8 by rw [HU2.out]]
    have HA5 := Lib.hid (HA4.out.bel hb)
    have HB5 := Lib.hid (HB4.out.trans hb); clear hb
    go_wp2_with (fail)
    refine (unbatch_any _ w5 (by omega)).mono ?_
    rintro e w6 ⟨v6, rfl, -, hb⟩
    rw [show (unbS ((⟨(encL L).toArray⟩ : ByteArray) ++ ⟨#[120]⟩).data.toList).2 = 8 by rw [HU3.out]]
    have HA6 := Lib.hid (HA5.out.bel hb)
    have HB6 := Lib.hid (HB5.out.trans hb); clear hb
    go_wp2_with (fail)
    refine (jsame_any w6 p4 lp c4 lc L L HA6.out (H.out.bel HB6.out) (by omega) (by omega)).mono ?_
    rintro e w7 ⟨rfl, hd7⟩
    rw [decide_eq_true (rfl : L = L)]
    have HBZ := Lib.hid (HB6.out.trans hd7.bel); clear hd7
    have HU := Lib.hid hu
    go_wp2_with (fail)
    refine (unbatch_any s w7 (by omega)).mono ?_
    rintro e w8 ⟨v8, rfl, ho8, hb⟩
    rw [HU.out] at ho8 ⊢
    obtain ⟨p8, c8, rfl, hat8⟩ := ownG_strs ho8
    have HA8 := Lib.hid hat8
    have HB8 := Lib.hid (HBZ.out.trans hb); clear hb ho8 hat8
    go_wp2_with (fail)
    refine (batch_any w8 p8 c8 lu HA8.out (by unfold maxLen; omega) HLU.out).mono ?_
    rintro e w9 ⟨rfl, hb⟩
    have HB9 := Lib.hid (HB8.out.trans hb); clear hb
    by_cases heu : eu = 0
    · subst heu
      have HBS := Lib.hid (HSB.out rfl)
      rw [HBS.out]
      go_wp2_with (fail)
      go_ret
      exact ⟨rfl, HB9.out⟩
    · have hx1 : (eu != 0) = true := by rw [bne_iff_ne]; exact heu
      have hx2 : (eu == 0) = false := by rw [beq_eq_false_iff_ne]; exact heu
      unfold batchV
      go_wp2_with (fail)
      go_ret
      exact ⟨rfl, HB9.out⟩
  · have HBV := Lib.hid (show batchV L = .tuple #[.string ⟨#[]⟩, .int .i64 (batchS L).2] by
      unfold batchV
      rcases batch_err L with h | h
      · exact absurd h hok
      · rw [h.1])
    generalize (batchS L).2 = be at hok HBV
    have hx1 : (be == 0) = false := by rw [beq_eq_false_iff_ne]; exact hok
    clear hok
    go_enter Tryz.func4, Tryz.ntmps4
    go_wp2_with (fail)
    refine (jshown_any w HS.out).mono ?_
    rintro e w1 ⟨rfl, hb1⟩
    have HB1 := Lib.hid hb1; clear hb1
    go_wp2_with (fail)
    refine (jsmall_any _ (some ⟨w1.heap.size, 0, none⟩) 1 [⟨0, 0, lp, lc, L, nilI, nilI⟩] (lit_act w1 lp lc L (H.out.bel HB1.out) HL.out HE.out) (by unfold maxLen; simp)).mono ?_
    rintro e w2 ⟨rfl, hd2⟩
    rw [HSM.out]
    have HB2 := Lib.hid ((HB1.out.alloc _).trans hd2.bel); clear hd2
    go_wp2_with (fail)
    refine (batch_any w2 lp lc L (H.out.bel HB2.out) HL.out HT6.out).mono ?_
    rintro e w3 ⟨rfl, hb⟩
    rw [HBV.out]
    have HBZ := Lib.hid (HB2.out.trans hb); clear hb
    have HU := Lib.hid hu
    go_wp2_with (fail)
    refine (unbatch_any s w3 (by omega)).mono ?_
    rintro e w8 ⟨v8, rfl, ho8, hb⟩
    rw [HU.out] at ho8 ⊢
    obtain ⟨p8, c8, rfl, hat8⟩ := ownG_strs ho8
    have HA8 := Lib.hid hat8
    have HB8 := Lib.hid (HBZ.out.trans hb); clear hb ho8 hat8
    go_wp2_with (fail)
    refine (batch_any w8 p8 c8 lu HA8.out (by unfold maxLen; omega) HLU.out).mono ?_
    rintro e w9 ⟨rfl, hb⟩
    have HB9 := Lib.hid (HB8.out.trans hb); clear hb
    by_cases heu : eu = 0
    · subst heu
      have HBS := Lib.hid (HSB.out rfl)
      rw [HBS.out]
      go_wp2_with (fail)
      go_ret
      exact ⟨rfl, HB9.out⟩
    · have hx1 : (eu != 0) = true := by rw [bne_iff_ne]; exact heu
      have hx2 : (eu == 0) = false := by rw [beq_eq_false_iff_ne]; exact heu
      unfold batchV
      go_wp2_with (fail)
      go_ret
      exact ⟨rfl, HB9.out⟩
end Go.Proofs.YtedopiojidaeiaaGreatDoor
