/- BBuild, BRBuild, BSplit, BRSplit, BFirst, BSearch, BRead, laid together. -/
import Derived.Test.YteimllgoelleeaaGreatDoorZ16
import Derived.Test.YteimllgoelleeaaGreatDoorZ17
import Derived.Test.YteimllgoelleeaaGreatDoorZ6
import Derived.Test.YteimllgoelleeaaGreatDoorZ2
import Derived.Test.YteimllgoelleeaaGreatDoorZ9
set_option linter.unusedSimpArgs false
set_option linter.unusedVariables false
/- block.Build: pairs' encoding, or an error. -/
namespace Go.Proofs.YteimllgoelleeaaGreatDoor
open Go.RowKit Go.Deep

def BuildPost (L : List PB) (w : World) (e : Ending) (w' : World) : Prop := e = .returned (.tuple #[.string ⟨(buildL (prs L)).1.toArray⟩, .int .i64 (buildL (prs L)).2]) ∧ Bel w w'
def BuildRel (L : List PB) (bb : Nat) (w : World) (pv i : Value) (x : World) : Prop :=
  ∃ (k : Nat) (q : ByteArray), k ≤ L.length ∧ i = .int .i64 k ∧ pv = .string q ∧ q.data.toList = lastK [] ((prs L).take k) ∧ q.size ≤ 1000000 ∧ BldW bb (encL [] ((prs L).take k)) x ∧ (encL [] ((prs L).take k)).length ≤ 40000 ∧ Bel w x
theorem prs_take_succ (L : List PB) (k : Nat) (h : k < L.length) : (prs L).take (k + 1) = (prs L).take k ++ [L[k].pr] := by
  rw [← List.take_append_getElem (by rw [prs_len]; exact h), prs_get L k h]
theorem enc_take_succ (L : List PB) (k : Nat) (h : k < L.length) : encL [] ((prs L).take (k + 1)) = encL [] ((prs L).take k) ++ oneL (lastK [] ((prs L).take k)) L[k].pr := by
  rw [prs_take_succ L k h, enc_snoc]
theorem enc_take_le (L : List PB) (k : Nat) : (encL [] ((prs L).take k)).length ≤ (encL [] (prs L)).length := by
  have := enc_app [] ((prs L).take k) ((prs L).drop k)
  rw [List.take_append_drop] at this
  rw [this, List.length_append]; omega
theorem cell_of_block {w x : World} {X o : Nat} {v : Value} (h : x.heap[X]? = w.heap[X]?) (hc : w.cell? ⟨X, o, none⟩ = some v) : x.cell? ⟨X, o, none⟩ = some v :=
  (World.cell?_of_block h).trans hc

set_option maxHeartbeats 4000000 in
set_option maxRecDepth 20000 in
theorem build_any (p : Option Addr) (cap : Nat) (L : List PB) (w : World) (h : PairsAt w p L) (hL : L.length ≤ 1000) (hs : smallP 100000 L) :
    Calls Tryz.prog 49 #[.slice p L.length cap] w (BuildPost L w) := by
  have H := Lib.hid h
  have HSM := Lib.hid hs; clear hs
  go_enter Tryz.func49, Tryz.ntmps49
  go_wp2_with (fail)
  refine (areinc_any p cap L w h (by omega)).mono ?_
  rintro e w1 ⟨rfl, hw1⟩
  have HB1 := Lib.hid hw1.bel; clear hw1 h
  cases hinc : incB (prs L) with
  | false =>
    have HR := Lib.hid (show buildL (prs L) = ([], 1) by unfold buildL; rw [if_pos hinc])
    clear hinc
    go_wp2_with (fail)
    go_ret2
    exact ⟨by rw [HR.out]; rfl, HB1.out⟩
  | true =>
    have HI := Lib.hid hinc; clear hinc
    have hbb := HB1.out.size
    go_wp2_with (fail)
    go_loopw [5, 15] (fun pv i x => BuildRel L w1.heap.size w pv i x) (fun _ i _ => L.length - (intOf i).toNat)
    case atStart => exact ⟨0, ⟨#[]⟩, Nat.zero_le _, rfl, rfl, rfl, by decide, by simpa [encL] using BldW.new w1, by simp [encL], HB1.out.alloc _⟩
    case round =>
      obtain ⟨k, q, hk, rfl, rfl, hq, hqs, hbld, h4, hb⟩ := hrel
      have HQ := Lib.hid hq; clear hq
      by_cases hlt : k < L.length
      · obtain ⟨a, B, O, sp, rfl, ha, c0, c1⟩ := (H.out.bel hb) k hlt
        obtain ⟨s1, s2⟩ := HSM.out k hlt
        have hX := BldA.of hbld (.cells #[.string L[k].k, .string L[k].v] 137)
        have HB := Lib.hid hb
        have HBX := Lib.hid (hb.alloc (.cells #[.string L[k].k, .string L[k].v] 137))
        have HE := Lib.hid (enc_take_succ L k hlt)
        obtain ⟨E, hE⟩ : ∃ E, encL [] ((prs L).take k) = E := ⟨_, rfl⟩
        obtain ⟨hd, hhd⟩ : ∃ hd, headL q.data.toList L[k].pr = hd := ⟨_, rfl⟩
        obtain ⟨rs, hrs⟩ : ∃ rs, restL q.data.toList L[k].pr = rs := ⟨_, rfl⟩
        have hhl := head_le q.data.toList L[k].pr
        have hrl := rest_len q.data.toList L[k].pr
        have hkl : L[k].pr.k.length = L[k].k.size := rfl
        rw [hhd] at hhl
        rw [hrs, hkl] at hrl
        rw [hE] at hX h4 HE
        have HE2 := Lib.hid (show encL [] ((prs L).take (k + 1)) = E ++ hd ++ rs ++ L[k].v.data.toList by
          rw [HE.out, ← HQ.out, oneL, hhd, hrs]; simp only [List.append_assoc]; rfl)
        have HS := Lib.hid (fun z => shortened_any L[k] q z (by omega) (by omega) hqs)
        rw [hhd, hrs] at HS
        have HD := Lib.hid (show PR.k L[k].pr = L[k].k.data.toList from rfl)
        have d0 : (wr.alloc (.cells #[.string L[k].k, .string L[k].v] 137)).cell? ⟨wr.heap.size, 0, none⟩ = some (.string L[k].k) := (World.cell?_alloc_new ..).trans (by simp)
        have d1 : (wr.alloc (.cells #[.string L[k].k, .string L[k].v] 137)).cell? ⟨wr.heap.size, 1, none⟩ = some (.string L[k].v) := (World.cell?_alloc_new ..).trans (by simp)
        have hsz : wr.heap.size < (wr.alloc (.cells #[.string L[k].k, .string L[k].v] 137)).heap.size := by simp
        have h1s : w1.heap.size < wr.heap.size := hbld.lt
        clear hbld hb hE hhd hrs HE
        generalize L[k].k = kk at *
        generalize L[k].v = vv at *
        go_wp2_with (fail)
        refine (HS.out _).mono ?_
        rintro e w2 ⟨rfl, hb2⟩
        have e0 := cell_later hb2 d0
        have e1 := cell_later hb2 d1
        have HX2 := Lib.hid (hX.bel hb2)
        have HB2 := Lib.hid (HBX.out.trans hb2)
        have hsz2 := hb2.size
        generalize (wr.alloc (.cells #[.string kk, .string vv] 137)) = wx at *
        generalize wr.heap.size = X at *
        clear hb2 hX HBX
        have hXw2 : X < w2.heap.size := by omega
        have hp1 := mk_size hd
        have hp2 := mk_size rs
        have hvl : vv.data.toList.length = vv.size := rfl
        go_wp2_with (fail)
        by_cases hlong : 40000 < E.length + hd.length + rs.length + vv.size
        · have HL := Lib.hid (show buildL (prs L) = ([], 10) by
            have := enc_take_le L (k + 1)
            rw [HE2.out] at this
            simp only [List.length_append] at this
            unfold buildL; rw [if_neg (by rw [HI.out]; simp), if_pos (by omega)])
          have hl' : (40000 : Int) < (E.length : Int) + (hd.length : Int) + (rs.length : Int) + (vv.size : Int) := by omega
          go_quiet ((go_at_call 74; exact Calls.quiet_of (blen_any w1.heap.size E X _ (by first | exact HX2.out | exact HX2.out.bel ((Bel.refl _).drewN _) | exact HX2.out.bel (Bel.refl _).drew))))
          go_wp2_with (fail)
          go_ret2
          exact ⟨by rw [HL.out]; rfl, HB2.out.drewN _⟩
        · have hl' : (E.length : Int) + (hd.length : Int) + (rs.length : Int) + (vv.size : Int) ≤ (40000 : Int) := by omega
          go_quiet ((go_at_call 74; exact Calls.quiet_of (blen_any w1.heap.size E X _ (by first | exact HX2.out | exact HX2.out.bel ((Bel.refl _).drewN _) | exact HX2.out.bel (Bel.refl _).drew))))
          have e0' : (w2.drewN nq).cell? ⟨X, 0, none⟩ = some (.string kk) := e0
          have e1' : (w2.drewN nq).cell? ⟨X, 1, none⟩ = some (.string vv) := e1
          have HX3 := Lib.hid (HX2.out.bel ((Bel.refl w2).drewN nq))
          have HB3 := Lib.hid (HB2.out.drewN nq)
          have hXw3 : X < (w2.drewN nq).heap.size := hXw2
          generalize w2.drewN nq = w3 at *
          clear e0 e1 HX2 HB2 hXw2 hsz2 hsz d0 d1
          go_wp2_with (fail)
          refine (write_a w1.heap.size E ⟨hd.toArray⟩ X w3 HX3.out (by omega) hXw3).mono ?_
          rintro e w4 ⟨rfl, hA4, hb4, hX4, hz4⟩
          have HX4 := Lib.hid hA4
          have HB4 := Lib.hid (HB3.out.trans_below (Below.mono hb4 hbb))
          replace e0 := cell_of_block hX4 e0'
          replace e1 := cell_of_block hX4 e1'
          clear hA4 hb4 hX4 e0' e1'
          go_wp2_with (fail)
          refine (write_a w1.heap.size (E ++ hd) ⟨rs.toArray⟩ X w4 (by simpa using HX4.out) (by simp only [List.length_append]; omega) (by omega)).mono ?_
          rintro e w5 ⟨rfl, hA5, hb5, hX5, hz5⟩
          have HX5 := Lib.hid hA5
          have HB5 := Lib.hid (HB4.out.trans_below (Below.mono hb5 hbb))
          have f0 := cell_of_block hX5 e0
          have f1 := cell_of_block hX5 e1
          clear hA5 hb5 hX5 e0 e1
          go_wp2_with (fail)
          refine (write_a w1.heap.size (E ++ hd ++ rs) vv X w5 (by simpa using HX5.out) (by simp only [List.length_append]; omega) (by omega)).mono ?_
          rintro e w6 ⟨rfl, hA6, hb6, hX6, hz6⟩
          have HX6 := Lib.hid hA6.w
          have HB6 := Lib.hid (HB5.out.trans_below (Below.mono hb6 hbb))
          have g0 := cell_of_block hX6 f0
          clear hA6 hb6 hX6 f0 f1
          go_wp2_with (fail)
          go_roundw
          case rel =>
            refine ⟨k + 1, kk, hlt, by go_num, rfl, ?_, by omega, ?_, ?_, HB6.out⟩
            · rw [prs_take_succ L k hlt, lastK_snoc, HD.out]
            · rw [HE2.out]; exact HX6.out
            · rw [HE2.out]; simp only [List.length_append]; omega
          case measure => simp [intOf]; omega
      · have hkl : k = L.length := by omega
        have HT := Lib.hid (show (prs L).take k = prs L from List.take_of_length_le (by rw [prs_len]; omega))
        rw [HT.out] at hbld h4
        have HR := Lib.hid (show buildL (prs L) = (encL [] (prs L), 0) from build_of HI.out h4)
        have HBD := Lib.hid hbld
        have HB := Lib.hid hb
        clear hbld hb h4
        go_wp2_with (fail)
        refine (bstring_any w1.heap.size _ wr HBD.out).mono ?_
        rintro e w2 ⟨rfl, hb2⟩
        have HB2 := Lib.hid (HB.out.trans_below (Below.mono hb2 hbb))
        clear hb2
        go_wp2_with (fail)
        go_ret2
        exact ⟨by rw [HR.out]; rfl, HB2.out⟩
end Go.Proofs.YteimllgoelleeaaGreatDoor
/- moultref8.Build: the document's encoding of pairs, or an error. -/
namespace Go.Proofs.YteimllgoelleeaaGreatDoor
open Go.RowKit Go.Deep

end Go.Proofs.YteimllgoelleeaaGreatDoor
/- block.Split: pairs cut into rows. -/
namespace Go.Proofs.YteimllgoelleeaaGreatDoor
open Go.RowKit Go.Deep

def rowEl : El SL := ⟨110, 108, 1, fun s => [s.val]⟩
theorem rowOk : ElOk rowEl 24 := ⟨fun _ => rfl, fun a u hu => by simp [rowEl] at hu; subst hu; rfl, by kernel_rfl, ⟨.slice none 0 0, by kernel_rfl, rfl⟩, by decide⟩
def splitB (most : Int) : List PB → List PB → List (List PB)
  | [], row => if row = [] then [] else [row]
  | p :: L, row => if most ≤ (tot (prs (row ++ [p])) : Nat) then (row ++ [p]) :: splitB most L [] else splitB most L (row ++ [p])
theorem splitB_prs (most : Int) : ∀ (L row : List PB), (splitB most L row).map prs = splitF most (prs L) (prs row)
  | [], row => by
    unfold splitB
    show _ = splitF most [] (prs row)
    unfold splitF
    by_cases h : row = []
    · subst h; rfl
    · rw [if_neg h, if_neg (by intro e; exact h (by simpa [prs] using e))]; rfl
  | p :: L, row => by
    unfold splitB
    show _ = splitF most (p.pr :: prs L) (prs row)
    unfold splitF
    rw [show prs row ++ [p.pr] = prs (row ++ [p]) by rw [prs_app]; rfl]
    split
    · rw [List.map_cons, splitB_prs most L []]; rfl
    · rw [splitB_prs most L (row ++ [p])]
def SplitRel (E : El PB) (R : El SL) (L : List PB) (most : Int) (w : World) (rv cv tv i : Value) (x : World) : Prop :=
  ∃ (k : Nat) (H : List SL) (rows : List (List PB)) (row : List PB), k ≤ L.length ∧ i = .int .i64 k ∧ tv = .int .i64 (tot (prs row) : Nat) ∧ RowsInv E R w.heap.size x rv cv H rows row ∧
    splitB most L [] = rows ++ splitB most (L.drop k) row ∧ rows.length ≤ k ∧ row.length ≤ k ∧ tot (prs row) ≤ k * 200000 ∧ Bel w x
def SplitPost (E : El PB) (R : El SL) (L : List PB) (most : Int) (w : World) (e : Ending) (w' : World) : Prop :=
  ∃ v H cv row, e = .returned v ∧ RowsInv E R w.heap.size w' v cv H (splitB most L []) row ∧ Bel w w'
theorem split_more {most : Int} {L : List PB} {k : Nat} (hlt : k < L.length) {rows : List (List PB)} {row : List PB} (h : splitB most L [] = rows ++ splitB most (L.drop k) row) (hn : ¬ most ≤ ((tot (prs (row ++ [L[k]])) : Nat) : Int)) :
    splitB most L [] = rows ++ splitB most (L.drop (k + 1)) (row ++ [L[k]]) := by
  rw [h, List.drop_eq_getElem_cons hlt, splitB, if_neg hn]
theorem split_full' {most : Int} {L : List PB} {k : Nat} (hlt : k < L.length) {rows : List (List PB)} {row : List PB} (h : splitB most L [] = rows ++ splitB most (L.drop k) row) (hn : most ≤ ((tot (prs (row ++ [L[k]])) : Nat) : Int)) :
    splitB most L [] = (rows ++ [row ++ [L[k]]]) ++ splitB most (L.drop (k + 1)) [] := by
  rw [h, List.drop_eq_getElem_cons hlt, splitB, if_pos hn]; simp
theorem tot_prs_snoc (row : List PB) (p : PB) : tot (prs (row ++ [p])) = tot (prs row) + p.k.size + p.v.size := by
  rw [prs_app, show prs [p] = [p.pr] from rfl, tot_snoc]; rfl

set_option maxHeartbeats 4000000 in
set_option maxRecDepth 20000 in
theorem split_any (p : Option Addr) (cap : Nat) (L : List PB) (most : Int) (w : World) (h : PairsAt w p L) (hL : L.length ≤ 1000) (hs : smallP 100000 L) :
    Calls Tryz.prog 47 #[.slice p L.length cap, .int .i64 most] w (SplitPost pairEl rowEl L most w) := by
  have H := Lib.hid h; clear h
  have HSM := Lib.hid hs; clear hs
  go_enter Tryz.func47, Tryz.ntmps47
  go_wp2_with (fail)
  go_loopw [5, 6, 7, 12] (fun rv cv tv i x => SplitRel pairEl rowEl L most w rv cv tv i x) (fun _ _ _ i _ => L.length - (intOf i).toNat)
  case atStart => exact ⟨0, [], [], [], Nat.zero_le _, rfl, rfl, RowsInv.nil _ _ _ _, by simp, by simp, by simp, by simp [tot, prs], Bel.refl w⟩
  case round =>
    obtain ⟨k, HS, rows, row, hk, rfl, rfl, hinv, hsp, hrl, hcl, htot, hb⟩ := hrel
    have HSP := Lib.hid hsp; clear hsp
    have hHl := hinv.len
    obtain ⟨rp, rcap, rfl⟩ := ownG_len hinv.own
    obtain ⟨cp, ccap, rfl⟩ := ownG_len hinv.cur
    by_cases hlt : k < L.length
    · obtain ⟨a, B, O, sp, rfl, ha, c0, c1⟩ := (H.out.bel hb) k hlt
      obtain ⟨s1, s2⟩ := HSM.out k hlt
      have HT := Lib.hid (tot_prs_snoc row L[k])
      have HMO := Lib.hid (split_more hlt HSP.out)
      have HFU := Lib.hid (split_full' hlt HSP.out)
      have hbz := hb.size
      have HINV := Lib.hid (hinv.bel ((Bel.refl wr).alloc (.cells #[.string L[k].k, .string L[k].v] 137)))
      have HB := Lib.hid (hb.alloc (.cells #[.string L[k].k, .string L[k].v] 137))
      have d0 : (wr.alloc (.cells #[.string L[k].k, .string L[k].v] 137)).cell? ⟨wr.heap.size, 0, none⟩ = some (.string L[k].k) := (World.cell?_alloc_new ..).trans (by simp)
      have d1 : (wr.alloc (.cells #[.string L[k].k, .string L[k].v] 137)).cell? ⟨wr.heap.size, 1, none⟩ = some (.string L[k].v) := (World.cell?_alloc_new ..).trans (by simp)
      have hsz : wr.heap.size < (wr.alloc (.cells #[.string L[k].k, .string L[k].v] 137)).heap.size := by simp
      have hcx : ∀ k, (Value.slice cp row.length ccap).ownBlock = some k → k < wr.heap.size := fun k hk => (hinv.cur.lt k hk).2
      clear hinv hb
      have HQ := Lib.hid (show pairEl.all [L[k]] = [.string L[k].k, .string L[k].v] from rfl)
      obtain ⟨T, hT⟩ : ∃ T, tot (prs row) = T := ⟨_, rfl⟩
      rw [hT] at HT htot ⊢
      generalize L[k].k = qk at *
      generalize L[k].v = qv at *
      have va : IntKind.i64.wrap ((T : Int) + (qk.size : Int)) = (T : Int) + (qk.size : Int) := IntWalk.i64_in _ (by omega)
      have vb : IntKind.i64.wrap ((T : Int) + (qk.size : Int) + (qv.size : Int)) = (T : Int) + (qk.size : Int) + (qv.size : Int) := IntWalk.i64_in _ (by omega)
      go_wp2_with (fail)
      generalize (wr.alloc (.cells #[.string qk, .string qv] 137)) = w1 at *
      obtain ⟨X, hX⟩ : ∃ X, wr.heap.size = X := ⟨_, rfl⟩
      rw [hX] at d0 d1 hsz hcx ⊢
      have hw1 : w.heap.size ≤ w1.heap.size := by omega
      refine wp_region_held_drew (S := fun z => z.cell? ⟨X, 0, none⟩ = some (.string qk) ∧ z.cell? ⟨X, 1, none⟩ = some (.string qv)) (by kernel_rfl) ⟨d0, d1⟩ (fun hHeld => ?_)
      refine tk (oi := { dst := some 16, op := Op.move (Operand.tmp 6), type := 110, pos := "block.go:88", after := #[], guard := none }) (v := ?_) 0 rfl ?_ ?_
      rotate_left
      · (intro w hSw; (try dsimp only at hSw); first | (go_simp; done) | (go_simp; with_reducible rfl))
      try simp only [Act.put, List.setIfInBounds_toArray, List.set_cons_zero, List.set_cons_succ]
      refine tk (oi := { dst := some 17, op := Op.load 137 (Operand.tmp 9), type := 137, pos := "block.go:88", after := #[], guard := none }) (v := ?_) 1 rfl ?_ ?_
      rotate_left
      · (intro w hSw; (try dsimp only at hSw); first | (go_simp; done) | (go_simp; with_reducible rfl))
      try simp only [Act.put, List.setIfInBounds_toArray, List.set_cons_zero, List.set_cons_succ]
      refine tk (oi := { dst := some 20, op := Op.move (Operand.tmp 7), type := 3, pos := "block.go:88", after := #[{ on := 13, ground := Ground.gcOnly Departure.lateStores }], guard := none }) (v := ?_) 4 rfl ?_ ?_
      rotate_left
      · (intro w hSw; (try dsimp only at hSw); first | (go_simp; done) | (go_simp; with_reducible rfl))
      try simp only [Act.put, List.setIfInBounds_toArray, List.set_cons_zero, List.set_cons_succ]
      refine tk (oi := { dst := some 21, op := Op.fieldAddr 137 (Operand.tmp 9) 0, type := 0, pos := "block.go:88", after := #[], guard := none }) (v := ?_) 5 rfl ?_ ?_
      rotate_left
      · (intro w hSw; (try dsimp only at hSw); first | (go_simp; done) | (go_simp; with_reducible rfl))
      try simp only [Act.put, List.setIfInBounds_toArray, List.set_cons_zero, List.set_cons_succ]
      refine tk (oi := { dst := some 22, op := Op.load 9 (Operand.tmp 21), type := 9, pos := "block.go:88", after := #[{ on := 5, ground := Ground.data }], guard := none }) (v := ?_) 6 rfl ?_ ?_
      rotate_left
      · (intro w hSw; (try dsimp only at hSw); first | (go_simp; done) | (go_simp; with_reducible rfl))
      try simp only [Act.put, List.setIfInBounds_toArray, List.set_cons_zero, List.set_cons_succ]
      refine tk (oi := { dst := some 23, op := Op.call { callee := Callee.builtin Builtin.len, args := #[Operand.tmp 22], argTypes := #[9] }, type := 3, pos := "block.go:88", after := #[{ on := 6, ground := Ground.data }], guard := none }) (v := ?_) 7 rfl ?_ ?_
      rotate_left
      · (intro w hSw; (try dsimp only at hSw); first | (go_simp; done) | (go_simp; with_reducible rfl))
      try simp only [Act.put, List.setIfInBounds_toArray, List.set_cons_zero, List.set_cons_succ]
      refine tk (oi := { dst := some 24, op := Op.binOp BinOp.add 3 (Operand.tmp 20) (Operand.tmp 23) 3, type := 3, pos := "block.go:88", after := #[{ on := 4, ground := Ground.data }, { on := 7, ground := Ground.data }, { on := 13, ground := Ground.gcOnly Departure.lateStores }], guard := none }) (v := ?_) 8 rfl ?_ ?_
      rotate_left
      · (intro w hSw; (try dsimp only at hSw); first | (go_simp; done) | (go_simp; with_reducible rfl))
      try simp only [Act.put, List.setIfInBounds_toArray, List.set_cons_zero, List.set_cons_succ]
      refine tk (oi := { dst := some 25, op := Op.fieldAddr 137 (Operand.tmp 9) 1, type := 0, pos := "block.go:88", after := #[], guard := none }) (v := ?_) 9 rfl ?_ ?_
      rotate_left
      · (intro w hSw; (try dsimp only at hSw); first | (go_simp; done) | (go_simp; with_reducible rfl))
      try simp only [Act.put, List.setIfInBounds_toArray, List.set_cons_zero, List.set_cons_succ]
      refine tk (oi := { dst := some 26, op := Op.load 9 (Operand.tmp 25), type := 9, pos := "block.go:88", after := #[{ on := 9, ground := Ground.data }], guard := none }) (v := ?_) 10 rfl ?_ ?_
      rotate_left
      · (intro w hSw; (try dsimp only at hSw); first | (go_simp; done) | (go_simp; with_reducible rfl))
      try simp only [Act.put, List.setIfInBounds_toArray, List.set_cons_zero, List.set_cons_succ]
      refine tk (oi := { dst := some 27, op := Op.call { callee := Callee.builtin Builtin.len, args := #[Operand.tmp 26], argTypes := #[9] }, type := 3, pos := "block.go:88", after := #[{ on := 10, ground := Ground.data }], guard := none }) (v := ?_) 11 rfl ?_ ?_
      rotate_left
      · (intro w hSw; (try dsimp only at hSw); first | (go_simp; done) | (go_simp; with_reducible rfl))
      try simp only [Act.put, List.setIfInBounds_toArray, List.set_cons_zero, List.set_cons_succ]
      refine tk (oi := { dst := some 28, op := Op.binOp BinOp.add 3 (Operand.tmp 24) (Operand.tmp 27) 3, type := 3, pos := "block.go:88", after := #[{ on := 8, ground := Ground.data }, { on := 11, ground := Ground.data }, { on := 13, ground := Ground.gcOnly Departure.lateStores }], guard := none }) (v := ?_) 12 rfl ?_ ?_
      rotate_left
      · (intro w hSw; (try dsimp only at hSw); first | (go_simp; done) | (go_simp; with_reducible rfl))
      try simp only [Act.put, List.setIfInBounds_toArray, List.set_cons_zero, List.set_cons_succ]
      refine wpAnyH_ready (rs := [2]) (by kernel_rfl) (by simp) ?_
      refine AllReadyH.cons (o := { dst := some 18, op := Op.buildSlice 110 1 #[(0, Operand.tmp 17)], type := 110, pos := "block.go:88", after := #[{ on := 1, ground := Ground.data }], guard := none }) rfl (fun K hK => ?_) AllReadyH.nil
      go_simp
      have hL2 : (w1.alloc (.cells #[.string qk, .string qv] 137)).drew.heap[w1.heap.size]? = some (.cells #[.string qk, .string qv] 137) := heap_alloc_new w1 (.cells #[.string qk, .string qv] 137)
      have HI2 := Lib.hid (HINV.out.bel ((Bel.refl w1).alloc (.cells #[.string qk, .string qv] 137)).drew)
      have HB2 := Lib.hid ((HB.out.alloc (.cells #[.string qk, .string qv] 137)).drew)
      have e0 := cell_later ((Bel.refl w1).alloc (.cells #[.string qk, .string qv] 137)).drew d0
      have e1 := cell_later ((Bel.refl w1).alloc (.cells #[.string qk, .string qv] 137)).drew d1
      have hz2 : w.heap.size ≤ (w1.alloc (.cells #[.string qk, .string qv] 137)).drew.heap.size := HB2.out.size
      have hx2 : X < (w1.alloc (.cells #[.string qk, .string qv] 137)).drew.heap.size := block_of_cell e0
      have HL2 := Lib.hid hL2
      clear hL2
      refine hK.out _ _ ⟨e0, e1⟩ (fun hHeld => ?_)
      clear hK K
      try simp only [Act.put, List.setIfInBounds_toArray, List.set_cons_zero, List.set_cons_succ]
      generalize (w1.alloc (.cells #[.string qk, .string qv] 137)).drew = w2 at *
      generalize w1.heap.size = Y at *
      refine wpAnyH_ready (rs := [3]) (by kernel_rfl) (by simp) ?_
      refine AllReadyH.cons (o := { dst := some 19, op := Op.call { callee := Callee.builtin Builtin.append, args := #[Operand.tmp 16, Operand.tmp 18], argTypes := #[110, 110] }, type := 110, pos := "block.go:88", after := #[{ on := 0, ground := Ground.data }, { on := 2, ground := Ground.data }], guard := none }) rfl (fun K hK => ?_) AllReadyH.nil
      refine step_append_all pairOk rfl (.tmp 16) (.tmp 18) rfl rfl HI2.out.cur [L[k]] rfl (src_at [L[k]] HL2.out HQ.out.symm rfl) (by simp only [List.length_singleton]; unfold maxLen; omega) (by simp only [List.length_singleton]; omega) hz2 ?_
      intro v3 w3 ho3 hk3 hv3
      have HI3 := Lib.hid (HI2.out.grow (by decide) ho3 hk3 (hv3.imp id (fun e k hk => by rw [e] at hk; cases hk; exact Nat.le_refl _)))
      have HB3 := Lib.hid (HB2.out.trans_below (hk3.own hz2 (fun k hk => (HI2.out.cur.lt k hk).1)))
      have hXn : X ∉ (Value.slice cp row.length ccap).ownBlock.toList := by
        intro hm
        rw [Option.mem_toList] at hm
        have := hcx X hm; omega
      have f0 := hk3.cell (p := ⟨X, 0, none⟩) e0 hXn
      have f1 := hk3.cell (p := ⟨X, 1, none⟩) e1 hXn
      obtain ⟨cp3, ccap3, rfl⟩ := ownG_len ho3
      have hz3 := HB3.out.size
      clear ho3 hk3 hv3
      replace HI3 := Lib.hid (by have h9 := HI3.out; rw [hHl, List.length_append, List.length_singleton] at h9; exact h9)
      refine hK.out _ _ ⟨f0, f1⟩ (fun hHeld => ?_)
      clear hK K
      try simp only [Act.put, List.setIfInBounds_toArray, List.set_cons_zero, List.set_cons_succ]
      refine tk (oi := { dst := some 6, op := Op.assign (Operand.tmp 19), type := 110, pos := "block.go:88", after := #[{ on := 3, ground := Ground.data }, { on := 3, ground := Ground.chain }, { on := 0, ground := Ground.phase }, { on := 1, ground := Ground.phase }, { on := 2, ground := Ground.phase }, { on := 3, ground := Ground.phase }, { on := 4, ground := Ground.textOnly Departure.lateStores }, { on := 5, ground := Ground.textOnly Departure.lateStores }, { on := 6, ground := Ground.textOnly Departure.lateStores }, { on := 7, ground := Ground.textOnly Departure.lateStoresUnsure }, { on := 8, ground := Ground.textOnly Departure.lateStores }, { on := 9, ground := Ground.textOnly Departure.lateStores }, { on := 10, ground := Ground.textOnly Departure.lateStores }, { on := 11, ground := Ground.textOnly Departure.lateStoresUnsure }, { on := 12, ground := Ground.textOnly Departure.lateStores }], guard := none }) (v := ?_) 13 rfl ?_ ?_
      rotate_left
      · (intro w hSw; (try dsimp only at hSw); first | (go_simp; done) | (go_simp; with_reducible rfl))
      try simp only [Act.put, List.setIfInBounds_toArray, List.set_cons_zero, List.set_cons_succ]
      refine tk (oi := { dst := some 7, op := Op.assign (Operand.tmp 28), type := 3, pos := "block.go:88", after := #[{ on := 12, ground := Ground.data }, { on := 13, ground := Ground.chain }, { on := 0, ground := Ground.phase }, { on := 1, ground := Ground.phase }, { on := 2, ground := Ground.phase }, { on := 3, ground := Ground.phase }, { on := 4, ground := Ground.phase }, { on := 5, ground := Ground.phase }, { on := 6, ground := Ground.phase }, { on := 7, ground := Ground.phase }, { on := 8, ground := Ground.phase }, { on := 9, ground := Ground.phase }, { on := 10, ground := Ground.phase }, { on := 11, ground := Ground.phase }, { on := 12, ground := Ground.phase }, { on := 13, ground := Ground.phase }], guard := none }) (v := ?_) 14 rfl ?_ ?_
      rotate_left
      · (intro w hSw; (try dsimp only at hSw); first | (go_simp; done) | (go_simp; with_reducible rfl))
      try simp only [Act.put, List.setIfInBounds_toArray, List.set_cons_zero, List.set_cons_succ]
      refine wpAnyH_done (by kernel_rfl) ?_ _
      have hT2 : ((tot (prs (row ++ [L[k]])) : Nat) : Int) = (T : Int) + (qk.size : Int) + (qv.size : Int) := by rw [HT.out]; simp
      by_cases hfull : most ≤ (T : Int) + (qk.size : Int) + (qv.size : Int)
      · have HS2 := Lib.hid (HFU.out (by rw [hT2]; exact hfull))
        clear hT2
        go_wp2_with (at_builtin; refine stop_here ?_)
        refine go_on ?_
        have hl3 := heap_alloc_new w3 (.cells #[.slice cp3 (row.length + 1) ccap3] 110)
        have HI4 := Lib.hid (HI3.out.bel ((Bel.refl w3).alloc (.cells #[.slice cp3 (row.length + 1) ccap3] 110)))
        have hz4 : w.heap.size ≤ (w3.alloc (.cells #[.slice cp3 (row.length + 1) ccap3] 110)).heap.size := (HB3.out.alloc _).size
        have HB4 := Lib.hid (HB3.out.alloc (.cells #[.slice cp3 (row.length + 1) ccap3] 110))
        refine append_all rowOk rfl _ _ rfl rfl HI4.out.own [SL.mk cp3 (row.length + 1) ccap3] rfl (src_at [SL.mk cp3 (row.length + 1) ccap3] hl3 rfl rfl) (by simp only [List.length_singleton]; unfold maxLen; omega) (by simp only [List.length_singleton]; omega) hz4 ?_
        intro v5 w5 ho5 hk5 hv5
        have HI5 := Lib.hid (HI4.out.push (by decide) (s := ⟨cp3, row.length + 1, ccap3⟩) rfl ho5 hk5)
        have HB5 := Lib.hid (HB4.out.trans_below (hk5.own hz4 (fun k hk => (HI4.out.own.lt k hk).1)))
        clear ho5 hk5 hv5 hl3
        go_wp2_with (fail)
        go_roundw
        case rel => exact ⟨k + 1, HS ++ [⟨cp3, row.length + 1, ccap3⟩], rows ++ [row ++ [L[k]]], [], hlt, by go_num, by simp [tot, prs], HI5.out, HS2.out, by simp; omega, by simp, by simp [tot, prs], HB5.out⟩
        case measure => simp [intOf]; omega
      · have HS2 := Lib.hid (HMO.out (by rw [hT2]; omega))
        have hT3 : tot (prs (row ++ [L[k]])) = T + qk.size + qv.size := HT.out
        have HT3 := Lib.hid hT3
        clear hT2 hT3
        go_wp2_with (fail)
        go_roundw
        case rel => exact ⟨k + 1, HS, rows, row ++ [L[k]], hlt, by go_num, by rw [HT3.out]; simp, HI3.out, HS2.out, by omega, by simp; omega, by rw [HT3.out]; omega, HB3.out⟩
        case measure => simp [intOf]; omega
    · have hd : L.drop k = [] := List.drop_eq_nil_of_le (by omega)
      have hsp := HSP.out
      rw [hd, splitB] at hsp
      by_cases hr0 : row = []
      · rw [if_pos hr0, List.append_nil] at hsp
        subst hr0
        have HSP2 := Lib.hid hsp
        have HINV := Lib.hid hinv
        have HB := Lib.hid hb
        clear hsp hinv hb HSP
        go_wp2_with (fail)
        go_ret
        exact ⟨_, HS, _, [], rfl, by rw [HSP2.out]; exact HINV.out, HB.out⟩
      · rw [if_neg hr0] at hsp
        have HSP2 := Lib.hid hsp
        have hpos := List.length_pos_iff.2 hr0
        have HI3 := Lib.hid hinv
        have HB3 := Lib.hid hb
        clear hsp hinv hb HSP
        have hl3 := heap_alloc_new wr (.cells #[.slice cp row.length ccap] 110)
        have HI4 := Lib.hid (HI3.out.bel ((Bel.refl wr).alloc (.cells #[.slice cp row.length ccap] 110)))
        have hz4 : w.heap.size ≤ (wr.alloc (.cells #[.slice cp row.length ccap] 110)).heap.size := (HB3.out.alloc _).size
        have HB4 := Lib.hid (HB3.out.alloc (.cells #[.slice cp row.length ccap] 110))
        go_wp2_with (at_builtin; refine stop_here ?_)
        refine go_on ?_
        refine append_all rowOk rfl _ _ rfl rfl HI4.out.own [SL.mk cp row.length ccap] rfl (src_at [SL.mk cp row.length ccap] hl3 rfl rfl) (by simp only [List.length_singleton]; unfold maxLen; omega) (by simp only [List.length_singleton]; omega) hz4 ?_
        intro v5 w5 ho5 hk5 hv5
        have HI5 := Lib.hid (HI4.out.push (by decide) (s := ⟨cp, row.length, ccap⟩) rfl ho5 hk5)
        have HB5 := Lib.hid (HB4.out.trans_below (hk5.own hz4 (fun k hk => (HI4.out.own.lt k hk).1)))
        obtain ⟨rp5, rcap5, rfl⟩ := ownG_len ho5
        clear ho5 hk5 hv5 hl3
        have hHl5 : (HS ++ [SL.mk cp row.length ccap]).length = rows.length + 1 := by rw [List.length_append, hHl]; rfl
        replace HI5 := Lib.hid (by have h9 := HI5.out; rw [hHl5] at h9; exact h9)
        go_wp2_with (fail)
        go_ret
        exact ⟨_, _, _, _, rfl, by rw [HSP2.out]; exact HI5.out, HB5.out⟩
end Go.Proofs.YteimllgoelleeaaGreatDoor
/- moultref8.Split: the document's rows of pairs. -/
namespace Go.Proofs.YteimllgoelleeaaGreatDoor
open Go.RowKit Go.Deep

end Go.Proofs.YteimllgoelleeaaGreatDoor
/- block.cut, follows, first: the pair with which some bytes begin, and whether it may follow. -/
namespace Go.Proofs.YteimllgoelleeaaGreatDoor
open Go.RowKit Go.Deep

def cutV (s : ByteArray) (n : Nat) : Value := if n ≤ s.size then .tuple #[.string (s.extract 0 n), .string (s.extract n s.size), .bool true] else .tuple #[.string ⟨#[]⟩, .string ⟨#[]⟩, .bool false]
set_option maxHeartbeats 1000000 in
theorem cut_any (s : ByteArray) (n : Nat) (w : World) (hs : s.size ≤ 1000000) (hn : n < 18446744073709551616) :
    Calls Tryz.prog 124 #[.string s, .int .u64 n] w fun e w' => e = .returned (cutV s n) ∧ Drw w w' := by
  have hu : IntKind.u64.wrap (s.size : Int) = s.size := u64_in _ (by omega) (by omega)
  by_cases h : n ≤ s.size
  · have HC := Lib.hid (show cutV s n = _ from if_pos h)
    have h' : (n : Int) ≤ (s.size : Int) := by omega
    go_enter Tryz.func124, Tryz.ntmps124
    go_wp2_with (fail)
    go_quiet (fail)
    go_wp2_with (fail)
    go_ret3
    exact ⟨by rw [HC.out]; rfl, (Drw.refl w).drewN _⟩
  · have HC := Lib.hid (show cutV s n = _ from if_neg h)
    have h' : ¬ (n : Int) ≤ (s.size : Int) := by omega
    go_enter Tryz.func124, Tryz.ntmps124
    go_wp2_with (fail)
    go_ret3
    exact ⟨by rw [HC.out]; rfl, Drw.refl w⟩

theorem own_byte {B : Nat} {w : World} {v : Value} {l : List UInt8} (h : Own B w v l) (i : Nat) (hi : i < l.length) : ∃ g cap, v = .slice (some ⟨g, 0, none⟩) l.length cap ∧ w.cell? ⟨g, i, none⟩ = some (.int .u8 l[i].toNat) := by
  have h0 := h
  rcases h.2 with ⟨_, h0⟩ | ⟨g, cap, cur, rfl, _⟩
  · omega
  · refine ⟨g, cap, rfl, ?_⟩
    have := World.ownsRow.cells h0 rfl i (.int .u8 l[i].toNat) (by simp [Lib.byteCells, hi])
    have e : (⟨g, 0, none⟩ : Addr).add i = ⟨g, i, none⟩ := by cases i <;> simp [Addr.add]
    rwa [e] at this
set_option maxHeartbeats 2000000 in
theorem follows_any (a : Nat) (rest v : ByteArray) (kv : Value) (key : List UInt8) (fst : Bool) (n : Nat) (w : World) (ha : a < 18446744073709551616) (hk : key.length ≤ 1000000) (hr : rest.size ≤ 1000000) (h : Own n w kv key) :
    Calls Tryz.prog 106 #[.agg #[.int .u64 a, .string rest, .string v], kv, .bool fst] w fun e w' => e = .returned (.bool (followsB a rest.data.toList key fst)) ∧ Bel w w' := by
  obtain ⟨kp, kcap, rfl, -⟩ := own_len h
  have hu : IntKind.u64.wrap (key.length : Int) = key.length := u64_in _ (by omega) (by omega)
  have HW := Lib.hid ((Bel.refl w).alloc (.cells #[.int .u64 a, .string rest, .string v] 187))
  by_cases h1 : key.length < a
  · have HR := Lib.hid (show followsB a rest.data.toList key fst = false from if_pos h1)
    have h1' : (key.length : Int) < (a : Int) := by omega
    clear h
    go_enter Tryz.func106, Tryz.ntmps106
    go_wp2_with (fail)
    go_ret
    exact ⟨ret_bool HR.out.symm, HW.out⟩
  have h1' : (a : Int) ≤ (key.length : Int) := by omega
  by_cases h2 : rest.size = 0
  · obtain rfl : rest = ⟨#[]⟩ := by apply ByteArray.ext; exact Array.eq_empty_of_size_eq_zero h2
    have HR := Lib.hid (show followsB a (⟨#[]⟩ : ByteArray).data.toList key fst = fst from if_neg h1)
    clear h
    go_enter Tryz.func106, Tryz.ntmps106
    go_wp2_with (fail)
    go_ret
    exact ⟨ret_bool HR.out.symm, HW.out⟩
  have h2' : 0 < rest.size := by omega
  have hne : rest.toList.isEmpty = false := by rw [ByteArray.toList_eq, head_at rest h2']; rfl
  have hF : followsB a rest.data.toList key fst = (decide (a = key.length) || decide ((key.getD a 0).toNat < rest[0].toNat)) := by
    unfold followsB; rw [if_neg h1, head_at rest h2']
  by_cases h3 : a = key.length
  · have HR := Lib.hid (show followsB a rest.data.toList key fst = true by rw [hF, decide_eq_true h3]; rfl)
    have h3' : ((a : Int) == (key.length : Int)) = true := by rw [beq_iff_eq]; omega
    clear h hF
    go_enter Tryz.func106, Tryz.ntmps106
    go_wp2_with (fail)
    go_quiet (fail)
    go_wp2_with (fail)
    go_ret
    exact ⟨ret_bool HR.out.symm, ((Bel.refl w).alloc _).drewN _⟩
  · have hlt : a < key.length := by omega
    have h3' : ((a : Int) == (key.length : Int)) = false := by rw [beq_eq_false_iff_ne]; omega
    obtain ⟨g, cap, hv, hc⟩ := own_byte h a hlt
    cases hv
    have hg := block_of_cell hc
    have HR := Lib.hid (show followsB a rest.data.toList key fst = decide (key[a].toNat < rest[0].toNat) by
      rw [hF, decide_eq_false h3, getD_at _ _ hlt]
      rw [Bool.false_or])
    have hc1 : (w.alloc (.cells #[.int .u64 a, .string rest, .string v] 187)).cell? ⟨g, a, none⟩ = some (.int .u8 key[a].toNat) := (Below.cell ((Bel.refl w).alloc _) hg).trans hc
    have h9 : ((a : Int)) < (key.length : Int) := by omega
    clear h hF
    go_enter Tryz.func106, Tryz.ntmps106
    go_wp2_with (fail)
    go_quiet (fail)
    go_wp2_with (fail)
    go_ret
    exact ⟨ret_bool HR.out.symm, HW.out.drewN _⟩

def firstV (l : List UInt8) : Value :=
  match firstL l with
  | none => .tuple #[.agg #[.int .u64 0, .string ⟨#[]⟩, .string ⟨#[]⟩], .string ⟨#[]⟩, .bool false]
  | some (a, rest, v, x) => .tuple #[.agg #[.int .u64 (a : Nat), .string ⟨rest.toArray⟩, .string ⟨v.toArray⟩], .string ⟨x.toArray⟩, .bool true]
theorem firstV_none {l : List UInt8} (h : firstL l = none) : firstV l = .tuple #[.agg #[.int .u64 0, .string ⟨#[]⟩, .string ⟨#[]⟩], .string ⟨#[]⟩, .bool false] := by unfold firstV; rw [h]
theorem firstV_some {l : List UInt8} {a : Nat} {rest v x : List UInt8} (h : firstL l = some (a, rest, v, x)) : firstV l = .tuple #[.agg #[.int .u64 (a : Nat), .string ⟨rest.toArray⟩, .string ⟨v.toArray⟩], .string ⟨x.toArray⟩, .bool true] := by unfold firstV; rw [h]
def Tie (s : List UInt8) (c : Nat → Nat) : Nat → List UInt8 → Prop
  | 0, r => r = s
  | 1, r => takeL s = (c 0, r, true)
  | 2, r => ∃ r1, takeL s = (c 0, r1, true) ∧ takeL r1 = (c 1, r, true)
  | 3, r => threeL s = some (c 0, c 1, c 2, r)
  | _, _ => False
theorem three_no0 {s : List UInt8} {n : Nat} {r : List UInt8} (h : takeL s = (n, r, false)) : threeL s = none := by unfold threeL; rw [h]; rfl
theorem three_no1 {s s1 : List UInt8} {n m : Nat} {r : List UInt8} (h : takeL s = (n, s1, true)) (h1 : takeL s1 = (m, r, false)) : threeL s = none := by unfold threeL; rw [h]; simp only [if_true]; rw [h1]; rfl
theorem three_no2 {s s1 s2 : List UInt8} {n m k : Nat} {r : List UInt8} (h : takeL s = (n, s1, true)) (h1 : takeL s1 = (m, s2, true)) (h2 : takeL s2 = (k, r, false)) : threeL s = none := by
  unfold threeL; rw [h]; simp only [if_true]; rw [h1]; simp only [if_true]; rw [h2]; rfl
theorem three_yes {s s1 s2 : List UInt8} {n m k : Nat} {r : List UInt8} (h : takeL s = (n, s1, true)) (h1 : takeL s1 = (m, s2, true)) (h2 : takeL s2 = (k, r, true)) : threeL s = some (n, m, k, r) := by
  unfold threeL; rw [h]; simp only [if_true]; rw [h1]; simp only [if_true]; rw [h2]; rfl
theorem first_no {s : List UInt8} (h : threeL s = none) : firstL s = none := by unfold firstL; rw [h]
theorem first_short {s : List UInt8} {a b c : Nat} {r : List UInt8} (h : threeL s = some (a, b, c, r)) (hl : ¬ b + c ≤ r.length) : firstL s = none := by unfold firstL; rw [h]; exact if_neg hl
theorem first_yes {s : List UInt8} {a b c : Nat} {r : List UInt8} (h : threeL s = some (a, b, c, r)) (hl : b + c ≤ r.length) : firstL s = some (a, r.take b, (r.drop b).take c, r.drop (b + c)) := by unfold firstL; rw [h]; exact if_pos hl
theorem three_lt {s : List UInt8} {a b c : Nat} {r : List UInt8} (h : threeL s = some (a, b, c, r)) : a < 18446744073709551616 ∧ b < 18446744073709551616 ∧ c < 18446744073709551616 := by
  unfold threeL at h
  split at h
  · split at h
    · split at h
      · simp only [Option.some.injEq, Prod.mk.injEq] at h
        obtain ⟨rfl, rfl, rfl, rfl⟩ := h
        exact ⟨take_lt _, take_lt _, take_lt _⟩
      · simp at h
    · simp at h
  · simp at h
def FirstRel (s : ByteArray) (P Q : Nat) (w : World) (sv iv : Value) (x : World) : Prop :=
  ∃ (k : Nat) (r : ByteArray) (c : Nat → Nat), k ≤ 3 ∧ iv = .int .i64 k ∧ sv = .string r ∧ r.size ≤ s.size ∧ Tie s.data.toList c k r.data.toList ∧
    (∀ j, j < 3 → x.cell? ⟨Q, j, none⟩ = some (.int .u64 (c j : Nat)) ∧ x.frozen? ⟨Q, j, none⟩ = false) ∧
    (x.cell? ⟨P, 0, none⟩ = some (.int .u64 0) ∧ x.cell? ⟨P, 1, none⟩ = some (.string ⟨#[]⟩) ∧ x.cell? ⟨P, 2, none⟩ = some (.string ⟨#[]⟩)) ∧ (∀ j, j < 3 → x.frozen? ⟨P, j, none⟩ = false) ∧ Bel w x

theorem take_val (l : List UInt8) (n : Nat) (r : List UInt8) (b : Bool) (h : takeL l = (n, r, b)) : takeV l = .tuple #[.int .u64 (n : Int), .string ⟨r.toArray⟩, .bool b] := by rw [takeV, h]
theorem tie_no {s : List UInt8} {c : Nat → Nat} {k n : Nat} {r r' : List UInt8} (hk : k < 3) (h : Tie s c k r) (ht : takeL r = (n, r', false)) : firstL s = none := by
  have : k = 0 ∨ k = 1 ∨ k = 2 := by omega
  rcases this with rfl | rfl | rfl
  · cases h; exact first_no (three_no0 ht)
  · exact first_no (three_no1 h ht)
  · obtain ⟨r1, h1, h2⟩ := h
    exact first_no (three_no2 h1 h2 ht)
theorem tie_next {s : List UInt8} {c : Nat → Nat} {k n : Nat} {r r' : List UInt8} (hk : k < 3) (h : Tie s c k r) (ht : takeL r = (n, r', true)) : Tie s (fun j => if j = k then n else c j) (k + 1) r' := by
  have : k = 0 ∨ k = 1 ∨ k = 2 := by omega
  rcases this with rfl | rfl | rfl
  · cases h; exact ht
  · exact ⟨r, h, ht⟩
  · obtain ⟨r1, h1, h2⟩ := h
    exact three_yes h1 h2 ht
theorem ext_take (s : ByteArray) (n : Nat) : s.extract 0 n = ⟨(s.data.toList.take n).toArray⟩ := by
  apply ba_eq
  rw [ext_data, List.drop_zero]

set_option maxHeartbeats 4000000 in
theorem first_any (s : ByteArray) (w : World) (hs : s.size ≤ 1000000) :
    Calls Tryz.prog 105 #[.string s] w fun e w' => e = .returned (firstV s.data.toList) ∧ Bel w w' := by
  go_enter Tryz.func105, Tryz.ntmps105
  go_wp2_with (fail)
  go_loopw [0, 12] (fun sv iv x => FirstRel s w.heap.size (w.heap.size + 1) w sv iv x) (fun _ iv _ => 3 - (intOf iv).toNat)
  case atStart =>
    refine ⟨0, s, fun _ => 0, by omega, rfl, rfl, Nat.le_refl _, rfl, fun j hj => ?_, ⟨by simp, by simp, by simp⟩, fun j hj => ?_, ((Bel.refl w).alloc _).alloc _⟩
    · have : j = 0 ∨ j = 1 ∨ j = 2 := by omega
      rcases this with rfl | rfl | rfl <;> exact ⟨by go_simp, by go_simp⟩
    · have : j = 0 ∨ j = 1 ∨ j = 2 := by omega
      rcases this with rfl | rfl | rfl <;> go_simp
  case round =>
    obtain ⟨k, r, c, hk, rfl, rfl, hrs, htie, hq, ⟨p0, p1, p2⟩, hpf, hb⟩ := hrel
    have g0 := hpf 0 (by omega)
    have g1 := hpf 1 (by omega)
    have g2 := hpf 2 (by omega)
    have HT := Lib.hid htie; clear htie
    have HQ := Lib.hid hq; clear hq
    have HPF := Lib.hid hpf; clear hpf
    by_cases h3 : k = 3
    · subst h3
      have q0 := (HQ.out 0 (by omega)).1
      have q1 := (HQ.out 1 (by omega)).1
      have q2 := (HQ.out 2 (by omega)).1
      have ht : threeL s.data.toList = some (c 0, c 1, c 2, r.data.toList) := HT.out
      obtain ⟨l0, l1, l2⟩ := three_lt ht
      have hrl : r.data.toList.length = r.size := rfl
      have HB := Lib.hid hb; clear hb
      generalize c 0 = a at *
      generalize c 1 = b at *
      generalize c 2 = d at *
      by_cases h1 : b ≤ r.size
      · have HC1 := Lib.hid (show cutV r b = _ from if_pos h1)
        have hez : (r.extract b r.size).size = r.size - b := by simp [ByteArray.size_extract]
        have HE1 := Lib.hid (ext_take r b)
        have HE2 := Lib.hid (ext_drop r b)
        obtain ⟨y, hy⟩ : ∃ y, r.extract b r.size = y := ⟨_, rfl⟩
        rw [hy] at HC1 hez HE2
        by_cases h2 : d ≤ y.size
        · have HC2 := Lib.hid (show cutV y d = _ from if_pos h2)
          have HF := Lib.hid (firstV_some (first_yes ht (by omega)))
          have HE3 := Lib.hid (show y.extract 0 d = ⟨((r.data.toList.drop b).take d).toArray⟩ by rw [ext_take, HE2.out])
          have HE4 := Lib.hid (show y.extract d y.size = ⟨(r.data.toList.drop (b + d)).toArray⟩ by rw [ext_drop, HE2.out, List.drop_drop])
          clear hy ht
          go_wp2_with (fail)
          refine (cut_any r b _ (by omega) l1).mono ?_
          rintro e w1 ⟨rfl, n1, rfl⟩
          rw [HC1.out]
          go_wp2_with (fail)
          refine (cut_any y d _ (by omega) l2).mono ?_
          rintro e w2 ⟨rfl, n2, rfl⟩
          rw [HC2.out]
          go_wp2_with (fail)
          refine bodyPost_ret (v := .tuple #[.agg #[.int .u64 (a : Nat), .string (r.extract 0 b), .string (y.extract 0 d)], .string (y.extract d y.size), .bool true]) (by simp [results, Tryz.results105, go_sem, p0, p1, p2, g0, g1, g2, hez]) rfl ⟨by rw [HF.out, HE1.out, HE3.out, HE4.out], ?_⟩
          repeat' first | exact HB.out | refine Bel.setCell ?_ (by simp) _ | refine Bel.drewN ?_ _
        · have HC2 := Lib.hid (show cutV y d = _ from if_neg h2)
          have HF := Lib.hid (firstV_none (first_short ht (by omega)))
          clear hy ht
          go_wp2_with (fail)
          refine (cut_any r b _ (by omega) l1).mono ?_
          rintro e w1 ⟨rfl, n1, rfl⟩
          rw [HC1.out]
          go_wp2_with (fail)
          refine (cut_any y d _ (by omega) l2).mono ?_
          rintro e w2 ⟨rfl, n2, rfl⟩
          rw [HC2.out]
          go_wp2_with (fail)
          refine bodyPost_ret (v := .tuple #[.agg #[.int .u64 0, .string ⟨#[]⟩, .string ⟨#[]⟩], .string ⟨#[]⟩, .bool false]) (by simp [results, Tryz.results105, go_sem, p0, p1, p2, g0, g1, g2]) rfl ⟨by rw [HF.out], ?_⟩
          repeat' first | exact HB.out | refine Bel.setCell ?_ (by simp) _ | refine Bel.drewN ?_ _
      · have HC1 := Lib.hid (show cutV r b = _ from if_neg h1)
        have HF := Lib.hid (firstV_none (first_short ht (by omega)))
        clear ht
        go_wp2_with (fail)
        refine (cut_any r b _ (by omega) l1).mono ?_
        rintro e w1 ⟨rfl, n1, rfl⟩
        rw [HC1.out]
        go_wp2_with (fail)
        refine bodyPost_ret (v := .tuple #[.agg #[.int .u64 0, .string ⟨#[]⟩, .string ⟨#[]⟩], .string ⟨#[]⟩, .bool false]) (by simp [results, Tryz.results105, go_sem, p0, p1, p2, g0, g1, g2]) rfl ⟨by rw [HF.out], ?_⟩
        repeat' first | exact HB.out | refine Bel.setCell ?_ (by simp) _ | refine Bel.drewN ?_ _
    · have hk3 : k < 3 := by omega
      obtain ⟨qk, fk⟩ := HQ.out k hk3
      obtain ⟨n, r', b, hT⟩ : ∃ n r' b, takeL r.data.toList = (n, r', b) := ⟨_, _, _, rfl⟩
      have hrest := take_rest r.data.toList
      have hn64 := take_lt r.data.toList
      rw [hT] at hrest hn64
      have HV := Lib.hid (take_val _ _ _ _ hT)
      have HB := Lib.hid hb; clear hb
      go_wp2_with (fail)
      refine (take_any r wr (by omega)).mono ?_
      rintro e w1 ⟨rfl, hb1⟩
      rw [HV.out]
      have qk1 := cell_later hb1 qk
      have fk1 := (hb1.frozen _ _ (block_of_cell qk)).trans fk
      have p0' := cell_later hb1 p0
      have p1' := cell_later hb1 p1
      have p2' := cell_later hb1 p2
      have g0' := (hb1.frozen _ _ (block_of_cell p0)).trans g0
      have g1' := (hb1.frozen _ _ (block_of_cell p0)).trans g1
      have g2' := (hb1.frozen _ _ (block_of_cell p0)).trans g2
      have HB1 := Lib.hid (HB.out.trans hb1)
      have HQ1 := Lib.hid (show ∀ j, j < 3 → w1.cell? ⟨w.heap.size + 1, j, none⟩ = some (.int .u64 (c j : Nat)) ∧ w1.frozen? ⟨w.heap.size + 1, j, none⟩ = false from fun j hj => ⟨cell_later hb1 (HQ.out j hj).1, (hb1.frozen _ _ (block_of_cell qk)).trans (HQ.out j hj).2⟩)
      clear hb1 qk fk p0 p1 p2 g0 g1 g2
      cases b with
      | false =>
        have HF := Lib.hid (firstV_none (tie_no hk3 HT.out hT))
        clear hT
        go_wp2_with (fail)
        refine bodyPost_ret (v := .tuple #[.agg #[.int .u64 0, .string ⟨#[]⟩, .string ⟨#[]⟩], .string ⟨#[]⟩, .bool false]) (by simp [results, Tryz.results105, go_sem, p0', p1', p2', g0', g1', g2', qk1, fk1]) rfl ⟨by rw [HF.out], ?_⟩
        repeat' first | exact HB1.out | refine Bel.setCell ?_ (by simp) _ | refine Bel.drewN ?_ _
      | true =>
        have HN := Lib.hid (tie_next hk3 HT.out hT)
        clear hT
        go_wp2_with (fail)
        go_roundw
        case rel =>
          refine ⟨k + 1, ⟨r'.toArray⟩, fun j => if j = k then n else c j, by omega, by go_num, rfl, by rw [mk_size]; have : r.data.toList.length = r.size := rfl; omega, by simpa using HN.out, fun j hj => ?_, ⟨?_, ?_, ?_⟩, fun j hj => ?_, HB1.out.setCell (p := ⟨w.heap.size + 1, k, none⟩) (Nat.le_succ _) _⟩
          · refine ⟨?_, by rw [World.frozen?_setCell]; exact (HQ1.out j hj).2⟩
            by_cases e : j = k
            · subst e
              simp only [if_true]
              exact World.cell?_setCell_same _ _ _ qk1
            · rw [World.cell?_setCell_other _ _ _ _ (by intro e2; simp at e2)]
              simp only [if_neg e]
              exact (HQ1.out j hj).1
          · rw [World.cell?_setCell_other _ _ _ _ (by intro e2; simp at e2)]; exact p0'
          · rw [World.cell?_setCell_other _ _ _ _ (by intro e2; simp at e2)]; exact p1'
          · rw [World.cell?_setCell_other _ _ _ _ (by intro e2; simp at e2)]; exact p2'
          · rw [World.frozen?_setCell]
            have : j = 0 ∨ j = 1 ∨ j = 2 := by omega
            rcases this with rfl | rfl | rfl <;> assumption
        case measure => simp [intOf]; omega
end Go.Proofs.YteimllgoelleeaaGreatDoor
/- block.search, whatever pairs are wanted. -/
namespace Go.Proofs.YteimllgoelleeaaGreatDoor
open Go.RowKit Go.Deep

def searchL (s : List UInt8) (f : List UInt8 → Bool) : List PR × Int :=
  match readL s with
  | none => ([], 8)
  | some M => (M.filter (fun p => f p.k), 0)
theorem search_none {s : List UInt8} {f : List UInt8 → Bool} (h : readL s = none) : searchL s f = ([], 8) := by unfold searchL; rw [h]
theorem search_some {s : List UInt8} {f : List UInt8 → Bool} {M : List PR} (h : readL s = some M) : searchL s f = (M.filter (fun p => f p.k), 0) := by unfold searchL; rw [h]
def SearchPost (s : List UInt8) (f : List UInt8 → Bool) (w : World) (e : Ending) (w' : World) : Prop :=
  ∃ v L, e = .returned (.tuple #[v, .int .i64 (searchL s f).2]) ∧ OwnG pairEl w.heap.size w' v L ∧ prs L = (searchL s f).1 ∧ Bel w w'
def SearchRel (s : ByteArray) (f : List UInt8 → Bool) (w : World) (lv kv sv : Value) (x : World) : Prop :=
  ∃ (pre : List PR) (acc : List PB) (key : List UInt8) (r : ByteArray), sv = .string r ∧ key.length + r.size ≤ s.size ∧ acc.length + r.size ≤ s.size ∧ OwnG pairEl w.heap.size x lv acc ∧ Own w.heap.size x kv key ∧
    prs acc = pre.filter (fun p => f p.k) ∧ readL s.data.toList = (readW key (decide (r.size = s.size)) r.data.toList).map (fun l => pre ++ l) ∧ Bel w x
theorem own_apart_b {β : Type} {R : El β} {n m : Nat} {x : World} {v u : Value} {l : List UInt8} {M : List β} (h : Own n x v l) (h' : OwnG R m x u M) (hne : R.T ≠ 5) : ∀ k, v.ownBlock = some k → u.ownBlock ≠ some k := by
  intro k hk hu
  rcases h.2 with ⟨rfl, _⟩ | ⟨g, cap, cur, rfl, _, hg, _⟩
  · cases hk
  · rcases h'.2 with ⟨rfl, _⟩ | ⟨g', cap', cur', rfl, _, hg', _⟩
    · cases hu
    · simp only [Value.ownBlock, Option.some.injEq] at hk hu
      subst hk
      subst hu
      rw [hg] at hg'
      simp only [Option.some.injEq, Obj.cells.injEq] at hg'
      exact hne hg'.2.1.symm
theorem ne_nil (r : ByteArray) (h : r.size ≠ 0) : r.data.toList ≠ [] := by
  intro e
  have : r.data.toList.length = 0 := by rw [e]; rfl
  exact h this
def sizeOfS : Value → Nat
  | .string s => s.size
  | _ => 0
theorem search_stop {s : ByteArray} {key : List UInt8} {fst : Bool} {r : List UInt8} {pre : List PR} (h : readL s.data.toList = (readW key fst r).map (fun l => pre ++ l)) (hn : readW key fst r = none) : readL s.data.toList = none := by rw [h, hn]; rfl
theorem search_step {s : ByteArray} {key : List UInt8} {fst : Bool} {r : List UInt8} {pre : List PR} {a : Nat} {rest v x : List UInt8} (h : readL s.data.toList = (readW key fst r).map (fun l => pre ++ l)) (hr : r ≠ []) (hq : firstL r = some (a, rest, v, x)) (hf : followsB a rest key fst = true) :
    readL s.data.toList = (readW (key.take a ++ rest) false x).map (fun l => (pre ++ [⟨key.take a ++ rest, v⟩]) ++ l) := by
  rw [h, readW_next hr hq hf, Option.map_map]
  congr 1
  funext l
  simp

theorem first_lt {s : List UInt8} {a : Nat} {rest v x : List UInt8} (h : firstL s = some (a, rest, v, x)) : a < 18446744073709551616 := by
  unfold firstL at h
  split at h
  · simp at h
  · next b c r ht =>
    split at h
    · simp only [Option.some.injEq, Prod.mk.injEq] at h
      obtain ⟨rfl, -⟩ := h
      exact (three_lt ht).1
    · simp at h
theorem follows_le {a : Nat} {rest key : List UInt8} {fst : Bool} (h : followsB a rest key fst = true) : a ≤ key.length := by
  unfold followsB at h
  split at h
  · cases h
  · omega
theorem follows_at (a : Nat) (rest v : ByteArray) (kv : Value) (key l : List UInt8) (fst : Bool) (n : Nat) (w : World) (ha : a < 18446744073709551616) (hk : key.length ≤ 1000000) (hr : rest.size ≤ 1000000) (h : Own n w kv key) (hl : rest.data.toList = l) :
    Calls Tryz.prog 106 #[.agg #[.int .u64 a, .string rest, .string v], kv, .bool fst] w fun e w' => e = .returned (.bool (followsB a l key fst)) ∧ Bel w w' := by
  subst hl; exact follows_any a rest v kv key fst n w ha hk hr h

set_option maxHeartbeats 4000000 in
set_option maxRecDepth 20000 in
theorem search_any (s : ByteArray) (f : List UInt8 → Bool) (g : Nat) (lb : Array Value) (w : World) (hs : s.size ≤ 1000000)
    (hcall : ∀ (kv : Value) (x : World), (callFunc g (#[kv] ++ lb)).run Tryz.prog x = .ok (.enter g (#[kv] ++ lb)) x)
    (hc : ∀ (kv : Value) (key : List UInt8) (x : World), Bel w x → Own w.heap.size x kv key → key.length ≤ 1000000 → Calls Tryz.prog g (#[kv] ++ lb) x fun e w' => e = .returned (.bool (f key)) ∧ Bel x w') :
    Calls Tryz.prog 88 #[.string s, .func (.func g) #[] lb] w (SearchPost s.data.toList f w) := by
  have HC := Lib.hid hc; clear hc
  go_enter Tryz.func88, Tryz.ntmps88
  go_wp2_with (fail)
  go_loopw [6, 7, 8] (fun lv kv sv x => SearchRel s f w lv kv sv x) (fun _ _ sv _ => sizeOfS sv)
  case atStart => exact ⟨[], [], [], s, rfl, by simp, by simp, OwnG.nil _ _ _, Own.nil _ _, rfl, by simp [readL], Bel.refl w⟩
  case round =>
    obtain ⟨pre, acc, key, r, rfl, hkr, hal, hown, hkey, hacc, hread, hb⟩ := hrel
    obtain ⟨lp, lcap, rfl⟩ := ownG_len hown
    obtain ⟨kp, kcap, rfl, hkc, -, hkn⟩ := own_len hkey
    have HO := Lib.hid hown
    have HKO := Lib.hid hkey
    have HA := Lib.hid hacc
    have HR := Lib.hid hread
    have HB := Lib.hid hb
    have hwz := hb.size
    clear hown hkey hacc hread hb
    by_cases hr0 : r.size = 0
    · obtain rfl : r = ⟨#[]⟩ := by apply ByteArray.ext; exact Array.eq_empty_of_size_eq_zero hr0
      have HF := Lib.hid (search_some (f := f) (show readL s.data.toList = some pre by
        rw [HR.out, show (⟨#[]⟩ : ByteArray).data.toList = [] from rfl, readW_nil]; simp))
      go_wp2_with (fail)
      go_ret2
      exact ⟨_, acc, by rw [HF.out]; rfl, HO.out, by rw [HF.out]; exact HA.out, HB.out⟩
    · have hnl := ne_nil r hr0
      have hne : r.toList.isEmpty = false := by rw [ByteArray.toList_eq]; cases h : r.data.toList with | nil => exact absurd h hnl | cons a l => rfl
      have hfst : ((r.size : Int) == (s.size : Int)) = decide (r.size = s.size) := by
        by_cases e : r.size = s.size
        · rw [decide_eq_true e, beq_iff_eq]; omega
        · rw [decide_eq_false e, beq_eq_false_iff_ne]; omega
      cases hq : firstL r.data.toList with
      | none =>
        have HF := Lib.hid (search_none (f := f) (search_stop HR.out (readW_none hnl hq)))
        have HV := Lib.hid (firstV_none hq)
        clear hq hnl
        go_wp2_with (fail)
        refine (first_any r _ (by omega)).mono ?_
        rintro e w1 ⟨rfl, hb1⟩
        rw [HV.out]
        have HB1 := Lib.hid (HB.out.trans hb1); clear hb1
        go_wp2_with (fail)
        go_ret2
        exact ⟨_, [], by rw [HF.out]; rfl, OwnG.nil _ _ _, by rw [HF.out]; rfl, by first | exact HB1.out | exact HB1.out.alloc _⟩
      | some q =>
        obtain ⟨a, rest, v, x⟩ := q
        have hle := first_less hq
        have ha64 := first_lt hq
        have hrl : r.data.toList.length = r.size := rfl
        rw [hrl] at hle
        have HV := Lib.hid (firstV_some hq)
        have hrz := mk_size rest
        have hvz := mk_size v
        have hxz := mk_size x
        cases hf : followsB a rest key (decide (r.size = s.size)) with
        | false =>
          have HF := Lib.hid (search_none (f := f) (search_stop HR.out (readW_not hnl hq hf)))
          have HFW := Lib.hid (fun z (hz : Bel wr z) => follows_at a ⟨rest.toArray⟩ ⟨v.toArray⟩ (.slice kp key.length kcap) key rest (decide (r.size = s.size)) w.heap.size z ha64 (by omega) (by rw [mk_size]; omega) (HKO.out.bel hz) (by simp))
          rw [hf] at HFW
          clear hq hnl hf
          go_wp2_with (fail)
          refine (first_any r _ (by omega)).mono ?_
          rintro e w1 ⟨rfl, hb1⟩
          rw [HV.out]
          have HB1 := Lib.hid (HB.out.trans hb1)
          have HB1r := Lib.hid hb1; clear hb1
          go_wp2_with (fail)
          refine (HFW.out _ (HB1r.out.alloc _)).mono ?_
          rintro e w2 ⟨rfl, hb2⟩
          have HB2 := Lib.hid ((HB1.out.alloc _).trans hb2); clear hb2
          go_wp2_with (fail)
          go_ret2
          exact ⟨_, [], by rw [HF.out]; rfl, OwnG.nil _ _ _, by rw [HF.out]; rfl, HB2.out⟩
        | true =>
          have HST := Lib.hid (search_step HR.out hnl hq hf)
          have hak := follows_le hf
          have HFW := Lib.hid (fun z (hz : Bel wr z) => follows_at a ⟨rest.toArray⟩ ⟨v.toArray⟩ (.slice kp key.length kcap) key rest (decide (r.size = s.size)) w.heap.size z ha64 (by omega) (by rw [mk_size]; omega) (HKO.out.bel hz) (by simp))
          rw [hf] at HFW
          clear hq hnl hf
          go_wp2_with (fail)
          refine (first_any r _ (by omega)).mono ?_
          rintro e w1 ⟨rfl, hb1⟩
          rw [HV.out]
          have HB1 := Lib.hid (HB.out.trans hb1)
          have HB1r := Lib.hid hb1; clear hb1
          go_wp2_with (fail)
          refine (HFW.out _ (HB1r.out.alloc _)).mono ?_
          rintro e w2 ⟨rfl, hb2⟩
          have d0 := cell_later hb2 (show (w1.alloc (.cells #[.int .u64 a, .string ⟨rest.toArray⟩, .string ⟨v.toArray⟩] 187)).cell? ⟨w1.heap.size, 0, none⟩ = some (.int .u64 a) from (World.cell?_alloc_new ..).trans (by simp))
          have d1 := cell_later hb2 (show (w1.alloc (.cells #[.int .u64 a, .string ⟨rest.toArray⟩, .string ⟨v.toArray⟩] 187)).cell? ⟨w1.heap.size, 1, none⟩ = some (.string ⟨rest.toArray⟩) from (World.cell?_alloc_new ..).trans (by simp))
          have d2 := cell_later hb2 (show (w1.alloc (.cells #[.int .u64 a, .string ⟨rest.toArray⟩, .string ⟨v.toArray⟩] 187)).cell? ⟨w1.heap.size, 2, none⟩ = some (.string ⟨v.toArray⟩) from (World.cell?_alloc_new ..).trans (by simp))
          have HB2r := Lib.hid ((HB1r.out.alloc _).trans hb2)
          have HB2 := Lib.hid (HB.out.trans HB2r.out)
          have hX : wr.heap.size ≤ w1.heap.size := HB1r.out.size
          have hX2 : w1.heap.size < w2.heap.size := block_of_cell d0
          clear hb2
          generalize w1.heap.size = X at *
          go_wp2_with (fail)
          refine wp_region_held_drew (S := fun z => z.cell? ⟨X, 0, none⟩ = some (.int .u64 a) ∧ z.cell? ⟨X, 1, none⟩ = some (.string ⟨rest.toArray⟩) ∧ z.cell? ⟨X, 2, none⟩ = some (.string ⟨v.toArray⟩)) (by kernel_rfl) ⟨d0, d1, d2⟩ (fun hHeld => ?_)
          have HO2 := Lib.hid (HKO.out.bel HB2r.out)
          have hcx : ∀ k, (Value.slice kp key.length kcap).ownBlock = some k → k < wr.heap.size := fun k hk => (HKO.out.lt k hk).2
          have hac : a ≤ kcap := by omega
          have HO3 := Lib.hid (own_first HO2.out a hak)
          have hwz2 := HB2.out.size
          cases kp with
          | none =>
            obtain ⟨k1, k2⟩ := hkn rfl
            have a0 : a = 0 := by omega
            subst a0
            subst k2
            rw [k1] at *
            obtain ⟨key2, hkey2⟩ : ∃ key2, key.take 0 ++ rest = key2 := ⟨_, rfl⟩
            have hk2l : key2.length ≤ 0 + rest.length := by rw [← hkey2, List.length_append]; have := List.length_take_le 0 key; omega
            rw [hkey2] at HST
            refine tk (oi := { dst := some 34, op := Op.move (Operand.tmp 7), type := 64, pos := "search.go:26", after := #[], guard := none }) (v := ?_) 0 rfl ?_ ?_
            rotate_left
            · (intro w hSw; (try dsimp only at hSw); first | (go_simp; done) | (go_simp; with_reducible rfl))
            try simp only [Act.put, List.setIfInBounds_toArray, List.set_cons_zero, List.set_cons_succ]
            refine tk (oi := { dst := some 35, op := Op.fieldAddr 187 (Operand.tmp 9) 0, type := 0, pos := "search.go:26", after := #[], guard := none }) (v := ?_) 1 rfl ?_ ?_
            rotate_left
            · (intro w hSw; (try dsimp only at hSw); first | (go_simp; done) | (go_simp; with_reducible rfl))
            try simp only [Act.put, List.setIfInBounds_toArray, List.set_cons_zero, List.set_cons_succ]
            refine tk (oi := { dst := some 36, op := Op.load 117 (Operand.tmp 35), type := 117, pos := "search.go:26", after := #[{ on := 1, ground := Ground.data }], guard := none }) (v := ?_) 2 rfl ?_ ?_
            rotate_left
            · (intro w hSw; (try dsimp only at hSw); first | (go_simp; done) | (go_simp; with_reducible rfl))
            try simp only [Act.put, List.setIfInBounds_toArray, List.set_cons_zero, List.set_cons_succ]
            refine tk (oi := { dst := some 37, op := Op.slice 64 (Operand.tmp 34) none (some (Operand.tmp 36)) none, type := 64, pos := "search.go:26", after := #[{ on := 0, ground := Ground.data }, { on := 2, ground := Ground.data }], guard := none }) (v := ?_) 3 rfl ?_ ?_
            rotate_left
            · (intro w hSw; (try dsimp only at hSw); first | (go_simp; done) | (go_simp; with_reducible rfl))
            try simp only [Act.put, List.setIfInBounds_toArray, List.set_cons_zero, List.set_cons_succ]
            refine tk (oi := { dst := some 38, op := Op.fieldAddr 187 (Operand.tmp 9) 1, type := 0, pos := "search.go:26", after := #[], guard := none }) (v := ?_) 4 rfl ?_ ?_
            rotate_left
            · (intro w hSw; (try dsimp only at hSw); first | (go_simp; done) | (go_simp; with_reducible rfl))
            try simp only [Act.put, List.setIfInBounds_toArray, List.set_cons_zero, List.set_cons_succ]
            refine tk (oi := { dst := some 39, op := Op.load 9 (Operand.tmp 38), type := 9, pos := "search.go:26", after := #[{ on := 4, ground := Ground.data }], guard := none }) (v := ?_) 5 rfl ?_ ?_
            rotate_left
            · (intro w hSw; (try dsimp only at hSw); first | (go_simp; done) | (go_simp; with_reducible rfl))
            try simp only [Act.put, List.setIfInBounds_toArray, List.set_cons_zero, List.set_cons_succ]
            refine tk (oi := { dst := some 41, op := Op.move (Operand.tmp 10), type := 9, pos := "search.go:26", after := #[{ on := 8, ground := Ground.gcOnly Departure.lateStores }], guard := none }) (v := ?_) 7 rfl ?_ ?_
            rotate_left
            · (intro w hSw; (try dsimp only at hSw); first | (go_simp; done) | (go_simp; with_reducible rfl))
            try simp only [Act.put, List.setIfInBounds_toArray, List.set_cons_zero, List.set_cons_succ]
            refine wpAnyH_ready (rs := [6]) (by kernel_rfl) (by simp) ?_
            refine AllReadyH.cons (o := { dst := some 40, op := Op.call { callee := Callee.builtin Builtin.append, args := #[Operand.tmp 37, Operand.tmp 39], argTypes := #[64, 9] }, type := 64, pos := "search.go:26", after := #[{ on := 3, ground := Ground.data }, { on := 5, ground := Ground.data }], guard := none }) rfl (fun K hK => ?_) AllReadyH.nil
            refine step_append_str (B := w.heap.size) (v := .slice none 0 0) (l := key.take 0) rfl (.tmp 37) (.tmp 39) rfl rfl rfl (HO3.out.drew) (by rw [hrz]; have := List.length_take_le 0 key; omega) (by show w.heap.size ≤ w2.heap.size; omega) ?_
            intro v4 w4 ho4 hk4 hv4
            rw [show (⟨rest.toArray⟩ : ByteArray).data.toList = rest by simp, hkey2] at ho4
            have hXn : X ∉ (Value.slice none 0 0).ownBlock.toList := by
              intro hm
              rw [Option.mem_toList] at hm
              have := hcx X hm; omega
            have e0 := hk4.cell (p := ⟨X, 0, none⟩) d0 hXn
            have e1 := hk4.cell (p := ⟨X, 1, none⟩) d1 hXn
            have e2 := hk4.cell (p := ⟨X, 2, none⟩) d2 hXn
            have HK4 := Lib.hid (show OwnG pairEl w.heap.size w4 (.slice lp acc.length lcap) acc from (HO.out.bel HB2r.out).drew.keep hk4 (fun k hk' hm => by
              rw [Option.mem_toList] at hm
              exact own_apart_b HO3.out (HO.out.bel HB2r.out) (by decide) k hm hk'))
            have HB4 := Lib.hid (HB2.out.drew.trans_below (hk4.own (by show w.heap.size ≤ w2.heap.size; omega) (fun k hk => (HO3.out.lt k hk).1)))
            have HKY := Lib.hid ho4
            obtain ⟨kp4, kcap4, rfl, -⟩ := own_len ho4
            clear ho4 hk4 hv4
            refine hK.out _ _ ⟨e0, e1, e2⟩ (fun hHeld => ?_)
            clear hK K
            try simp only [Act.put, List.setIfInBounds_toArray, List.set_cons_zero, List.set_cons_succ]
            refine tk (oi := { dst := some 7, op := Op.assign (Operand.tmp 40), type := 64, pos := "search.go:26", after := #[{ on := 6, ground := Ground.data }, { on := 6, ground := Ground.chain }, { on := 0, ground := Ground.phase }, { on := 1, ground := Ground.phase }, { on := 2, ground := Ground.phase }, { on := 3, ground := Ground.phase }, { on := 4, ground := Ground.phase }, { on := 5, ground := Ground.phase }, { on := 6, ground := Ground.phase }, { on := 7, ground := Ground.textOnly Departure.lateStores }], guard := none }) (v := ?_) 8 rfl ?_ ?_
            rotate_left
            · (intro w hSw; (try dsimp only at hSw); first | (go_simp; done) | (go_simp; with_reducible rfl))
            try simp only [Act.put, List.setIfInBounds_toArray, List.set_cons_zero, List.set_cons_succ]
            refine tk (oi := { dst := some 8, op := Op.assign (Operand.tmp 41), type := 9, pos := "search.go:26", after := #[{ on := 7, ground := Ground.data }, { on := 8, ground := Ground.chain }, { on := 0, ground := Ground.phase }, { on := 1, ground := Ground.phase }, { on := 2, ground := Ground.phase }, { on := 3, ground := Ground.phase }, { on := 4, ground := Ground.phase }, { on := 5, ground := Ground.phase }, { on := 6, ground := Ground.phase }, { on := 7, ground := Ground.phase }, { on := 8, ground := Ground.phase }], guard := none }) (v := ?_) 9 rfl ?_ ?_
            rotate_left
            · (intro w hSw; (try dsimp only at hSw); first | (go_simp; done) | (go_simp; with_reducible rfl))
            try simp only [Act.put, List.setIfInBounds_toArray, List.set_cons_zero, List.set_cons_succ]
            refine wpAnyH_done (by kernel_rfl) ?_ _
            have HCL := Lib.hid (HC.out (.slice kp4 key2.length kcap4) key2 w4 HB4.out HKY.out (by omega))
            have hcl := hcall (.slice kp4 key2.length kcap4) w4
            have HXS := Lib.hid (show decide ((⟨x.toArray⟩ : ByteArray).size = s.size) = false by rw [decide_eq_false_iff_not, hxz]; omega)
            clear hHeld
            go_wp2_with (fail)
            refine HCL.out.mono ?_
            rintro e w5 ⟨rfl, hb5⟩
            have HB5 := Lib.hid (HB4.out.trans hb5)
            have HK5 := Lib.hid (HK4.out.bel hb5)
            have HKY5 := Lib.hid (HKY.out.bel hb5)
            have g2 := cell_later hb5 e2
            have hcv := own_string HKY5.out
            clear hb5 hcl e0 e1 e2
            cases hw : f key2 with
            | false =>
              have HA2 := Lib.hid (show prs acc = (pre ++ [PR.mk key2 v]).filter (fun p => f p.k) by rw [List.filter_append, HA.out]; simp [hw])
              clear hw
              go_wp2_with (fail)
              go_roundw
              case rel => exact ⟨pre ++ [PR.mk key2 v], acc, key2, ⟨x.toArray⟩, rfl, by rw [hxz]; omega, by rw [hxz]; omega, HK5.out, HKY5.out, HA2.out, by rw [HXS.out]; simpa using HST.out, HB5.out⟩
              case measure => simp only [sizeOfS]; rw [hxz]; omega
            | true =>
              have HA2 := Lib.hid (show prs (acc ++ [bp (PR.mk key2 v)]) = (pre ++ [PR.mk key2 v]).filter (fun p => f p.k) by rw [prs_app, List.filter_append, HA.out, show prs [bp (PR.mk key2 v)] = [PR.mk key2 v] by simp [prs, pr_bp]]; simp [hw])
              clear hw
              have hz5 : w.heap.size ≤ w5.heap.size := HB5.out.size
              go_wp2_with (at_builtin; refine stop_here ?_)
              refine go_on ?_
              refine append_all pairOk rfl _ _ rfl rfl (HK5.out.alloc _) [bp (PR.mk key2 v)] rfl (src_at [bp (PR.mk key2 v)] (heap_alloc_new w5 _) rfl rfl) (by simp only [List.length_singleton]; unfold maxLen; omega) (by simp only [List.length_singleton]; omega) (by rw [World.size_alloc]; omega) ?_
              intro v6 w6 ho6 hk6 hv6
              have HB6 := Lib.hid ((HB5.out.alloc _).trans_below (hk6.own (by rw [World.size_alloc]; omega) (fun k hk => (HK5.out.lt k hk).1)))
              have HKY6 := Lib.hid ((HKY5.out.alloc _).keep hk6 (fun k hk' hm => by
                rw [Option.mem_toList] at hm
                exact own_apart_b HKY5.out HK5.out (by decide) k hk' hm))
              have HK6 := Lib.hid ho6
              clear ho6 hk6 hv6
              go_wp2_with (fail)
              go_roundw
              case rel => exact ⟨pre ++ [PR.mk key2 v], acc ++ [bp (PR.mk key2 v)], key2, ⟨x.toArray⟩, rfl, by rw [hxz]; omega, by rw [hxz, List.length_append, List.length_singleton]; omega, HK6.out, HKY6.out, HA2.out, by rw [HXS.out]; simpa using HST.out, HB6.out⟩
              case measure => simp only [sizeOfS]; rw [hxz]; omega

          | some kad =>
            obtain ⟨key2, hkey2⟩ : ∃ key2, key.take a ++ rest = key2 := ⟨_, rfl⟩
            have hk2l : key2.length ≤ a + rest.length := by rw [← hkey2, List.length_append]; have := List.length_take_le a key; omega
            rw [hkey2] at HST
            refine tk (oi := { dst := some 34, op := Op.move (Operand.tmp 7), type := 64, pos := "search.go:26", after := #[], guard := none }) (v := ?_) 0 rfl ?_ ?_
            rotate_left
            · (intro w hSw; (try dsimp only at hSw); first | (go_simp; done) | (go_simp; with_reducible rfl))
            try simp only [Act.put, List.setIfInBounds_toArray, List.set_cons_zero, List.set_cons_succ]
            refine tk (oi := { dst := some 35, op := Op.fieldAddr 187 (Operand.tmp 9) 0, type := 0, pos := "search.go:26", after := #[], guard := none }) (v := ?_) 1 rfl ?_ ?_
            rotate_left
            · (intro w hSw; (try dsimp only at hSw); first | (go_simp; done) | (go_simp; with_reducible rfl))
            try simp only [Act.put, List.setIfInBounds_toArray, List.set_cons_zero, List.set_cons_succ]
            refine tk (oi := { dst := some 36, op := Op.load 117 (Operand.tmp 35), type := 117, pos := "search.go:26", after := #[{ on := 1, ground := Ground.data }], guard := none }) (v := ?_) 2 rfl ?_ ?_
            rotate_left
            · (intro w hSw; (try dsimp only at hSw); first | (go_simp; done) | (go_simp; with_reducible rfl))
            try simp only [Act.put, List.setIfInBounds_toArray, List.set_cons_zero, List.set_cons_succ]
            refine tk (oi := { dst := some 37, op := Op.slice 64 (Operand.tmp 34) none (some (Operand.tmp 36)) none, type := 64, pos := "search.go:26", after := #[{ on := 0, ground := Ground.data }, { on := 2, ground := Ground.data }], guard := none }) (v := ?_) 3 rfl ?_ ?_
            rotate_left
            · (intro w hSw; (try dsimp only at hSw); first | (go_simp; done) | (go_simp; with_reducible rfl))
            try simp only [Act.put, List.setIfInBounds_toArray, List.set_cons_zero, List.set_cons_succ]
            refine tk (oi := { dst := some 38, op := Op.fieldAddr 187 (Operand.tmp 9) 1, type := 0, pos := "search.go:26", after := #[], guard := none }) (v := ?_) 4 rfl ?_ ?_
            rotate_left
            · (intro w hSw; (try dsimp only at hSw); first | (go_simp; done) | (go_simp; with_reducible rfl))
            try simp only [Act.put, List.setIfInBounds_toArray, List.set_cons_zero, List.set_cons_succ]
            refine tk (oi := { dst := some 39, op := Op.load 9 (Operand.tmp 38), type := 9, pos := "search.go:26", after := #[{ on := 4, ground := Ground.data }], guard := none }) (v := ?_) 5 rfl ?_ ?_
            rotate_left
            · (intro w hSw; (try dsimp only at hSw); first | (go_simp; done) | (go_simp; with_reducible rfl))
            try simp only [Act.put, List.setIfInBounds_toArray, List.set_cons_zero, List.set_cons_succ]
            refine tk (oi := { dst := some 41, op := Op.move (Operand.tmp 10), type := 9, pos := "search.go:26", after := #[{ on := 8, ground := Ground.gcOnly Departure.lateStores }], guard := none }) (v := ?_) 7 rfl ?_ ?_
            rotate_left
            · (intro w hSw; (try dsimp only at hSw); first | (go_simp; done) | (go_simp; with_reducible rfl))
            try simp only [Act.put, List.setIfInBounds_toArray, List.set_cons_zero, List.set_cons_succ]
            refine wpAnyH_ready (rs := [6]) (by kernel_rfl) (by simp) ?_
            refine AllReadyH.cons (o := { dst := some 40, op := Op.call { callee := Callee.builtin Builtin.append, args := #[Operand.tmp 37, Operand.tmp 39], argTypes := #[64, 9] }, type := 64, pos := "search.go:26", after := #[{ on := 3, ground := Ground.data }, { on := 5, ground := Ground.data }], guard := none }) rfl (fun K hK => ?_) AllReadyH.nil
            refine step_append_str (B := w.heap.size) (v := .slice (some kad) a kcap) (l := key.take a) rfl (.tmp 37) (.tmp 39) rfl rfl rfl (HO3.out.drew) (by rw [hrz]; have := List.length_take_le a key; omega) (by show w.heap.size ≤ w2.heap.size; omega) ?_
            intro v4 w4 ho4 hk4 hv4
            rw [show (⟨rest.toArray⟩ : ByteArray).data.toList = rest by simp, hkey2] at ho4
            have hXn : X ∉ (Value.slice (some kad) a kcap).ownBlock.toList := by
              intro hm
              rw [Option.mem_toList] at hm
              have := hcx X hm; omega
            have e0 := hk4.cell (p := ⟨X, 0, none⟩) d0 hXn
            have e1 := hk4.cell (p := ⟨X, 1, none⟩) d1 hXn
            have e2 := hk4.cell (p := ⟨X, 2, none⟩) d2 hXn
            have HK4 := Lib.hid (show OwnG pairEl w.heap.size w4 (.slice lp acc.length lcap) acc from (HO.out.bel HB2r.out).drew.keep hk4 (fun k hk' hm => by
              rw [Option.mem_toList] at hm
              exact own_apart_b HO3.out (HO.out.bel HB2r.out) (by decide) k hm hk'))
            have HB4 := Lib.hid (HB2.out.drew.trans_below (hk4.own (by show w.heap.size ≤ w2.heap.size; omega) (fun k hk => (HO3.out.lt k hk).1)))
            have HKY := Lib.hid ho4
            obtain ⟨kp4, kcap4, rfl, -⟩ := own_len ho4
            clear ho4 hk4 hv4
            refine hK.out _ _ ⟨e0, e1, e2⟩ (fun hHeld => ?_)
            clear hK K
            try simp only [Act.put, List.setIfInBounds_toArray, List.set_cons_zero, List.set_cons_succ]
            refine tk (oi := { dst := some 7, op := Op.assign (Operand.tmp 40), type := 64, pos := "search.go:26", after := #[{ on := 6, ground := Ground.data }, { on := 6, ground := Ground.chain }, { on := 0, ground := Ground.phase }, { on := 1, ground := Ground.phase }, { on := 2, ground := Ground.phase }, { on := 3, ground := Ground.phase }, { on := 4, ground := Ground.phase }, { on := 5, ground := Ground.phase }, { on := 6, ground := Ground.phase }, { on := 7, ground := Ground.textOnly Departure.lateStores }], guard := none }) (v := ?_) 8 rfl ?_ ?_
            rotate_left
            · (intro w hSw; (try dsimp only at hSw); first | (go_simp; done) | (go_simp; with_reducible rfl))
            try simp only [Act.put, List.setIfInBounds_toArray, List.set_cons_zero, List.set_cons_succ]
            refine tk (oi := { dst := some 8, op := Op.assign (Operand.tmp 41), type := 9, pos := "search.go:26", after := #[{ on := 7, ground := Ground.data }, { on := 8, ground := Ground.chain }, { on := 0, ground := Ground.phase }, { on := 1, ground := Ground.phase }, { on := 2, ground := Ground.phase }, { on := 3, ground := Ground.phase }, { on := 4, ground := Ground.phase }, { on := 5, ground := Ground.phase }, { on := 6, ground := Ground.phase }, { on := 7, ground := Ground.phase }, { on := 8, ground := Ground.phase }], guard := none }) (v := ?_) 9 rfl ?_ ?_
            rotate_left
            · (intro w hSw; (try dsimp only at hSw); first | (go_simp; done) | (go_simp; with_reducible rfl))
            try simp only [Act.put, List.setIfInBounds_toArray, List.set_cons_zero, List.set_cons_succ]
            refine wpAnyH_done (by kernel_rfl) ?_ _
            have HCL := Lib.hid (HC.out (.slice kp4 key2.length kcap4) key2 w4 HB4.out HKY.out (by omega))
            have hcl := hcall (.slice kp4 key2.length kcap4) w4
            have HXS := Lib.hid (show decide ((⟨x.toArray⟩ : ByteArray).size = s.size) = false by rw [decide_eq_false_iff_not, hxz]; omega)
            clear hHeld
            go_wp2_with (fail)
            refine HCL.out.mono ?_
            rintro e w5 ⟨rfl, hb5⟩
            have HB5 := Lib.hid (HB4.out.trans hb5)
            have HK5 := Lib.hid (HK4.out.bel hb5)
            have HKY5 := Lib.hid (HKY.out.bel hb5)
            have g2 := cell_later hb5 e2
            have hcv := own_string HKY5.out
            clear hb5 hcl e0 e1 e2
            cases hw : f key2 with
            | false =>
              have HA2 := Lib.hid (show prs acc = (pre ++ [PR.mk key2 v]).filter (fun p => f p.k) by rw [List.filter_append, HA.out]; simp [hw])
              clear hw
              go_wp2_with (fail)
              go_roundw
              case rel => exact ⟨pre ++ [PR.mk key2 v], acc, key2, ⟨x.toArray⟩, rfl, by rw [hxz]; omega, by rw [hxz]; omega, HK5.out, HKY5.out, HA2.out, by rw [HXS.out]; simpa using HST.out, HB5.out⟩
              case measure => simp only [sizeOfS]; rw [hxz]; omega
            | true =>
              have HA2 := Lib.hid (show prs (acc ++ [bp (PR.mk key2 v)]) = (pre ++ [PR.mk key2 v]).filter (fun p => f p.k) by rw [prs_app, List.filter_append, HA.out, show prs [bp (PR.mk key2 v)] = [PR.mk key2 v] by simp [prs, pr_bp]]; simp [hw])
              clear hw
              have hz5 : w.heap.size ≤ w5.heap.size := HB5.out.size
              go_wp2_with (at_builtin; refine stop_here ?_)
              refine go_on ?_
              refine append_all pairOk rfl _ _ rfl rfl (HK5.out.alloc _) [bp (PR.mk key2 v)] rfl (src_at [bp (PR.mk key2 v)] (heap_alloc_new w5 _) rfl rfl) (by simp only [List.length_singleton]; unfold maxLen; omega) (by simp only [List.length_singleton]; omega) (by rw [World.size_alloc]; omega) ?_
              intro v6 w6 ho6 hk6 hv6
              have HB6 := Lib.hid ((HB5.out.alloc _).trans_below (hk6.own (by rw [World.size_alloc]; omega) (fun k hk => (HK5.out.lt k hk).1)))
              have HKY6 := Lib.hid ((HKY5.out.alloc _).keep hk6 (fun k hk' hm => by
                rw [Option.mem_toList] at hm
                exact own_apart_b HKY5.out HK5.out (by decide) k hk' hm))
              have HK6 := Lib.hid ho6
              clear ho6 hk6 hv6
              go_wp2_with (fail)
              go_roundw
              case rel => exact ⟨pre ++ [PR.mk key2 v], acc ++ [bp (PR.mk key2 v)], key2, ⟨x.toArray⟩, rfl, by rw [hxz]; omega, by rw [hxz, List.length_append, List.length_singleton]; omega, HK6.out, HKY6.out, HA2.out, by rw [HXS.out]; simpa using HST.out, HB6.out⟩
              case measure => simp only [sizeOfS]; rw [hxz]; omega

end Go.Proofs.YteimllgoelleeaaGreatDoor
/- block.Read, Find, Between: search with three closures. -/
namespace Go.Proofs.YteimllgoelleeaaGreatDoor
open Go.RowKit Go.Deep

set_option maxHeartbeats 1000000 in
theorem read1_any (kv : Value) (w : World) : Calls Tryz.prog 89 (#[kv] ++ #[]) w fun e w' => e = .returned (.bool true) ∧ Bel w w' := by
  show Calls _ _ #[kv] _ _
  go_enter Tryz.func89, Tryz.ntmps89
  go_wp2_with (fail)
  go_ret
  exact ⟨rfl, Bel.refl w⟩
theorem run_enter8 {f : FuncId} {fn : Func} {c : Code} (hf : Tryz.prog.funcs[f]? = some fn) (hname : (fn.name == "runtime.NumGoroutine") = false) (hb : fn.body = some c) (args : Array Value) (w : World) : (callFunc f args).run Tryz.prog w = .ok (.enter f args) w := by
  have h1 : fn.name ≠ "runtime.NumGoroutine" := by simpa using hname
  simp [callFunc, hf, h1, hb]
theorem filter_all (M : List PR) : M.filter (fun _ => true) = M := by simp
set_option maxHeartbeats 1000000 in
theorem read_any (s : ByteArray) (w : World) (hs : s.size ≤ 1000000) :
    Calls Tryz.prog 61 #[.string s] w (SearchPost s.data.toList (fun _ => true) w) := by
  go_enter Tryz.func61, Tryz.ntmps61
  go_wp2_with (fail)
  refine (search_any s (fun _ => true) 89 #[] w hs (fun kv x => run_enter8 Tryz.func89 (by kernel_rfl) rfl _ x) (fun kv key x _ _ _ => read1_any kv x)).mono ?_
  rintro e w1 ⟨v, L, rfl, ho, hp, hb⟩
  have HO := Lib.hid ho
  obtain ⟨p, cap, rfl⟩ := ownG_len ho
  clear ho
  go_wp2_with (fail)
  go_ret2
  exact ⟨_, L, rfl, HO.out, hp, hb⟩

end Go.Proofs.YteimllgoelleeaaGreatDoor
