/- TPOpen, TPSrch, TPGet, laid together. -/
import Derived.Test.YteimllgoelleeaaGreatDoorZ23
import Derived.Test.YteimllgoelleeaaGreatDoorZ24
import Derived.Shelf.Slices.Equal
import Derived.Test.YteimllgoelleeaaGreatDoorZ2
set_option linter.unusedSimpArgs false
set_option linter.unusedVariables false
/- table.Open at a table file, at no bytes, and at bytes of which a sum is wrong. -/
namespace Go.Proofs.YteimllgoelleeaaGreatDoor
open Go.RowKit Go.Deep

def TabAt (w : World) (b : Nat) (L : List EB) : Prop := ∃ g cap, w.cell? ⟨b, 0, none⟩ = some (.slice (some ⟨g, 0, none⟩) L.length cap) ∧ EntsAt w (some ⟨g, 0, none⟩) L ∧ L.length ≤ cap ∧ ∀ j u, (entEl.all L)[j]? = some u → w.cell? ⟨g, j, none⟩ = some u
theorem TabAt.bel {w x : World} {b : Nat} {L : List EB} (h : TabAt w b L) (hb : Bel w x) : TabAt x b L := by
  obtain ⟨g, cap, h1, h2, h3, h4⟩ := h
  exact ⟨g, cap, cl10 hb h1, h2.bel hb, h3, fun j u hj => cl10 hb (h4 j u hj)⟩
theorem own_tab {B : Nat} {w : World} {v : Value} {L : List EB} (h : OwnG entEl B w v L) (h0 : L ≠ []) : ∃ g cap, v = .slice (some ⟨g, 0, none⟩) L.length cap ∧ EntsAt w (some ⟨g, 0, none⟩) L ∧ L.length ≤ cap ∧ ∀ j u, (entEl.all L)[j]? = some u → w.cell? ⟨g, j, none⟩ = some u := by
  obtain ⟨p, c, hv, hat⟩ := ownG_ents h
  have h1 := h
  rcases h.2 with ⟨_, hl⟩ | ⟨g, cap, cur, hv2, hg, hh, hcap, hcm, hcs, htk⟩
  · exact absurd (List.length_eq_zero_iff.1 hl) h0
  · have hv3 : v = .slice (some ⟨g, 0, none⟩) L.length cap := hv2
    rw [hv3] at hv
    simp only [Value.slice.injEq, true_and] at hv
    rw [← hv.1] at hat
    refine ⟨g, cap, hv3, hat, hcap, fun j u hj => ?_⟩
    subst hv3
    have := World.ownsRow.cells h1 rfl j u hj
    rw [add_any g j] at this
    exact this
theorem own_texts {B : Nat} {w : World} {v : Value} {P : List (List UInt8)} (h : OwnG strEl B w v P) (h0 : P ≠ []) : ∃ g cap, v = .slice (some ⟨g, 0, none⟩) P.length cap ∧ P.length ≤ cap ∧ StrsAt w (some ⟨g, 0, none⟩) P := by
  obtain ⟨p, c, hv, hat⟩ := ownG_strs h
  rcases h.2 with ⟨_, hl⟩ | ⟨g, cap, cur, hv2, hg, hh, hcap, hcm, hcs, htk⟩
  · exact absurd (List.length_eq_zero_iff.1 hl) h0
  · have hv3 : v = .slice (some ⟨g, 0, none⟩) P.length cap := hv2
    rw [hv3] at hv
    simp only [Value.slice.injEq, true_and] at hv
    rw [← hv.1] at hat
    exact ⟨g, cap, hv3, hcap, hat⟩
theorem equal_any (g1 c1 g2 c2 : Nat) (P : List (List UInt8)) (w : World) (h1 : StrsAt w (some ⟨g1, 0, none⟩) P) (h2 : StrsAt w (some ⟨g2, 0, none⟩) P) (hP : P.length ≤ 100000) :
    Calls Tryz.prog 34 #[.slice (some ⟨g1, 0, none⟩) P.length c1, .slice (some ⟨g2, 0, none⟩) P.length c2] w fun e w' => e = .returned (.bool true) ∧ Bel w w' := by
  obtain ⟨xs, hxs⟩ : ∃ xs : List ByteArray, xs = P.map fun l => ⟨l.toArray⟩ := ⟨_, rfl⟩
  have hl : xs.length = P.length := by rw [hxs, List.length_map]
  have hc : ∀ g, StrsAt w (some ⟨g, 0, none⟩) P → ∀ j, j < xs.length → w.cell? ⟨g, 0 + j, none⟩ = some (.string (xs.getD j ByteArray.empty)) := fun g hg j hj => by
    obtain ⟨a, ha, hcell⟩ := hg j (by omega)
    cases ha
    rw [add_any g j] at hcell
    rw [Nat.zero_add, hcell, List.getD_eq_getElem?_getD, List.getElem?_eq_getElem hj]
    simp [hxs]
  refine Calls.mono (show Calls Tryz.prog 34 _ _ _ from Any.slices_Equal_string Tryz.lays193 g1 0 P.length c1 g2 0 P.length c2 xs xs w (by omega) (by omega) (by omega) (by omega) (hc g1 h1) (hc g2 h2)) ?_
  rintro e w' ⟨rfl, q, rfl⟩
  exact ⟨by simp, (Bel.refl w).drewN q⟩
theorem right_fits {L : List EB} (h : ∀ e ∈ L, rightB e = true) : fitsL L ∧ sizesL 100000 L := by
  refine ⟨fun e he => ?_, fun e he => ?_⟩
  · obtain ⟨r1, r2, r3, r4, -, -⟩ := right_parts (h e he)
    exact ⟨by omega, by omega, by omega, by omega⟩
  · obtain ⟨r1, r2, r3, r4, -, -⟩ := right_parts (h e he)
    exact ⟨by omega, by omega⟩
set_option maxHeartbeats 2000000 in
set_option maxRecDepth 20000 in
theorem open_ok (L : List EB) (s : ByteArray) (w : World) (hs : s.data.toList = fileL L) (hM : MaxOk w) (hst : standB L = true) (h0 : L ≠ []) (hl : L.length ≤ 100) (hv : ∀ e ∈ L, e.v.size ≤ 2000) (he : rowsErr (rowsOf L) = 0) :
    Calls Tryz.prog 12 #[.string s] w fun e w' => ∃ b, e = .returned (.tuple #[.pointer (some ⟨b, 0, none⟩), .int .i64 0]) ∧ TabAt w' b L ∧ Bel w w' := by
  have hz : s.size ≤ 1000000 := by
    have h1 := file_small hst hl hv
    rw [← hs] at h1; exact h1
  have hsc := scan_file hst (by omega) he
  rw [← hs] at hsc
  have HSC := Lib.hid (show scanL s.data.toList = (payL L, s.data.toList.length, 0) from hsc)
  have HPT := Lib.hid (pay_ok h0 hst (by omega) he)
  have HPN := Lib.hid (show payL L ≠ [] from fun e => by have := congrArg List.length e; rw [pay_count] at this; simp at this)
  have HPL := Lib.hid (show (payL L).length ≤ 100000 by
    have := pay_len (L := L) (by omega); rw [pay_ok h0 hst (by omega) he] at this
    have h2 : (payL L).length ≤ 1003 := this
    omega)
  obtain ⟨hf, hsz⟩ := right_fits (stand_right hst)
  have HF := Lib.hid hf; have HZ := Lib.hid hsz
  have HM := Lib.hid hM; have HST := Lib.hid hst; have H0 := Lib.hid h0; have HE := Lib.hid he
  clear hs hsc hf hsz hM hst h0 he hv
  go_enter Tryz.func12, Tryz.ntmps12
  go_wp2_with (fail)
  refine (scan_any s w hz).mono ?_
  unfold ScanPost
  rw [HSC.out]
  rintro e w1 ⟨v, rfl, ho, hb⟩
  obtain ⟨g1, c1, rfl, hc1, hat1⟩ := own_texts ho HPN.out
  have HB1 := Lib.hid hb
  have HA1 := Lib.hid hat1
  clear ho hat1 hb
  obtain ⟨P, hP⟩ : ∃ P, P = payL L := ⟨_, rfl⟩
  go_wp2_with (fail)
  refine (entries_any (some ⟨g1, 0, none⟩) c1 L w1 HA1.out hc1 (HM.out.bel HB1.out) HST.out H0.out (by omega) HE.out).mono ?_
  rintro e w2 ⟨v, rfl, ho, hb⟩
  obtain ⟨g2, c2, rfl, hat2, hc2, hcell⟩ := own_tab ho H0.out
  have HB2 := Lib.hid (HB1.out.trans hb)
  have HA2 := Lib.hid (HA1.out.bel hb)
  have HT2 := Lib.hid hat2
  have HC2 := Lib.hid hcell
  clear ho hat2 hb hcell
  go_wp2_with (fail)
  refine (pay_any (some ⟨g2, 0, none⟩) c2 L w2 HT2.out (by omega) HF.out HZ.out).mono ?_
  unfold PayPost
  rw [HPT.out]
  rintro e w3 ⟨v, rfl, ho, hb⟩
  obtain ⟨g3, c3, rfl, hc3, hat3⟩ := own_texts ho HPN.out
  have HB3 := Lib.hid (HB2.out.trans hb)
  have HA3 := Lib.hid hat3
  have HA1' := Lib.hid (HA2.out.bel hb)
  have HT3 := Lib.hid (HT2.out.bel hb)
  have HC3 := Lib.hid (fun j u hj => cl10 hb (HC2.out j u hj))
  clear ho hat3 hb
  go_wp2_with (fail)
  refine (equal_any g3 c3 g1 c1 (payL L) w3 HA3.out HA1'.out HPL.out).mono ?_
  rintro e w4 ⟨rfl, hb⟩
  have HB4 := Lib.hid (HB3.out.trans hb)
  have HT4 := Lib.hid (HT3.out.bel hb)
  have HC4 := Lib.hid (fun j u hj => cl10 hb (HC3.out j u hj))
  clear hb
  go_wp2_with (fail)
  go_ret2
  refine ⟨w4.heap.size, rfl, ⟨g2, c2, (World.cell?_alloc_new ..).trans (by simp), HT4.out.bel ((Bel.refl w4).alloc _), hc2, fun j u hj => cl10 ((Bel.refl w4).alloc _) (HC4.out j u hj)⟩, HB4.out.alloc _⟩
end Go.Proofs.YteimllgoelleeaaGreatDoor
/- sort.Search over any closure; table's first. -/
namespace Go.Proofs.YteimllgoelleeaaGreatDoor
open Go.RowKit Go.Deep

def StopAt (n : Nat) (p : Nat → Bool) (i : Nat) : Prop := i ≤ n ∧ (∀ j, j < i → p j = false) ∧ ∀ j, i ≤ j → j < n → p j = true
set_option maxHeartbeats 1000000 in
set_option maxRecDepth 20000 in
theorem search10_any (n : Nat) (g : Nat) (lb : Array Value) (p : Nat → Bool) (w : World) (hn : n ≤ 1000000)
    (hcall : ∀ (kv : Value) (x : World), (callFunc g (#[kv] ++ lb)).run Tryz.prog x = .ok (.enter g (#[kv] ++ lb)) x)
    (hc : ∀ (i : Nat) (x : World), Bel w x → i < n → Calls Tryz.prog g (#[.int .i64 i] ++ lb) x fun e w' => e = .returned (.bool (p i)) ∧ Bel x w')
    (hmono : ∀ a b, a ≤ b → b < n → p a = true → p b = true) :
    Calls Tryz.prog 64 #[.int .i64 n, .func (.func g) #[] lb] w fun e w' => ∃ i : Nat, e = .returned (.int .i64 i) ∧ StopAt n p i ∧ Bel w w' := by
  have HC := Lib.hid hc; clear hc
  have HM := Lib.hid hmono; clear hmono
  go_enter Tryz.func64, Tryz.ntmps64
  go_wp2_with (fail)
  go_loopw [5, 6] (fun l5 l6 x => (∃ lo hi : Nat, l5 = .int .i64 lo ∧ l6 = .int .i64 hi ∧ lo ≤ hi ∧ hi ≤ n ∧ (∀ j, j < lo → p j = false) ∧ ∀ j, hi ≤ j → j < n → p j = true) ∧ Bel w x) (fun l5 l6 _ => (intOf l6).toNat - (intOf l5).toNat)
  case atStart => exact ⟨⟨0, n, rfl, rfl, Nat.zero_le _, Nat.le_refl _, fun j h => by omega, fun j h1 h2 => by omega⟩, Bel.refl w⟩
  case round =>
    obtain ⟨⟨lo, hi, rfl, rfl, hlh, hin, hA, hB⟩, hb⟩ := hrel
    have HB := Lib.hid hb; clear hb
    have HL := Lib.hid hA; have HH := Lib.hid hB
    clear hA hB
    by_cases hlt : lo < hi
    · obtain ⟨h, hh⟩ : ∃ h : Nat, h = (lo + hi) / 2 := ⟨_, rfl⟩
      have hhi : ((lo : Int) + (hi : Int)) / 2 = (h : Int) := by omega
      have h1 : lo ≤ h := by omega
      have h2 : h < hi := by omega
      have hlti : (lo : Int) < (hi : Int) := by omega
      clear hh
      go_wp2_with (fail)
      refine (HC.out h _ HB.out (by omega)).mono ?_
      rintro e w1 ⟨rfl, hb⟩
      have HB1 := Lib.hid (HB.out.trans hb); clear hb
      cases hp : p h with
      | false =>
        have HP := Lib.hid (show ∀ j, j < h + 1 → p j = false from fun j hj => by
          cases hpj : p j with
          | false => rfl
          | true => have := HM.out j h (by omega) (by omega) hpj; rw [hp] at this; cases this)
        clear hp
        go_wp2_with (fail)
        go_roundw
        case rel => exact ⟨⟨h + 1, hi, by go_num, rfl, by omega, hin, HP.out, HH.out⟩, HB1.out⟩
        case measure => simp [intOf]; omega
      | true =>
        have HP := Lib.hid (show ∀ j, h ≤ j → j < n → p j = true from fun j h1 h2 => HM.out h j h1 h2 hp)
        clear hp
        go_wp2_with (fail)
        go_roundw
        case rel => exact ⟨⟨lo, h, rfl, rfl, h1, by omega, HL.out, HP.out⟩, HB1.out⟩
        case measure => simp [intOf]; omega
    · obtain rfl : lo = hi := by omega
      have hlti : ¬ (lo : Int) < (lo : Int) := by omega
      go_wp2_with (fail)
      go_ret
      exact ⟨lo, rfl, ⟨hin, HL.out, HH.out⟩, HB.out⟩
set_option maxHeartbeats 2000000 in
set_option maxRecDepth 20000 in
theorem first1_any (b W T g i : Nat) (lb : Array Value) (f : EB → Bool) (L : List EB) (w : World) (hT : w.cell? ⟨T, 0, none⟩ = some (.pointer (some ⟨b, 0, none⟩))) (hW : w.cell? ⟨W, 0, none⟩ = some (.func (.func g) #[] lb)) (ht : TabAt w b L) (hi : i < L.length) (hL : L.length ≤ 1000000)
    (hcall : ∀ (kv : Value) (x : World), (callFunc g (#[kv] ++ lb)).run Tryz.prog x = .ok (.enter g (#[kv] ++ lb)) x)
    (hc : ∀ (e : EB) (x : World), Bel w x → Calls Tryz.prog g (#[.agg #[.string e.k, .int .i64 e.q, .bool e.d, .string e.v]] ++ lb) x fun r w' => r = .returned (.bool (f e)) ∧ Bel x w') :
    Calls Tryz.prog 65 (#[.int .i64 i] ++ #[.pointer (some ⟨W, 0, none⟩), .pointer (some ⟨T, 0, none⟩)]) w fun e w' => e = .returned (.bool (f L[i])) ∧ Bel w w' := by
  obtain ⟨ge, cap, hcell, hents, hcap, -⟩ := ht
  obtain ⟨a, e0, ha, he0, B, O, sp, ha2, c0, c1, c2, c3⟩ := hents.get hi
  cases ha
  rw [add_any ge (i * 4)] at ha2
  cases ha2
  rw [← he0]
  have HC := Lib.hid (hc e0)
  have hii : (i : Int) < (L.length : Int) := by omega
  clear hc hents he0
  show Calls _ _ #[.int .i64 i, .pointer (some ⟨W, 0, none⟩), .pointer (some ⟨T, 0, none⟩)] _ _
  go_enter Tryz.func65, Tryz.ntmps65
  go_wp2_with (fail)
  refine wp_region_held_drew (S := fun z => (z.cell? ⟨W, 0, none⟩ = some (.func (.func g) #[] lb) ∧ z.cell? ⟨T, 0, none⟩ = some (.pointer (some ⟨b, 0, none⟩)) ∧ z.cell? ⟨b, 0, none⟩ = some (.slice (some ⟨ge, 0, none⟩) L.length cap)) ∧ z.cell? ⟨ge, i * 4, none⟩ = some (.string e0.k) ∧ z.cell? ⟨ge, i * 4 + 1, none⟩ = some (.int .i64 e0.q) ∧ z.cell? ⟨ge, i * 4 + 2, none⟩ = some (.bool e0.d) ∧ z.cell? ⟨ge, i * 4 + 3, none⟩ = some (.string e0.v)) (by kernel_rfl) ⟨⟨hW, hT, hcell⟩, c0, c1, c2, c3⟩ (fun hHeld => ?_)
  refine tk (oi := { dst := some 5, op := Op.load 51 (Operand.tmp 1), type := 51, pos := "table.go:62", after := #[], guard := none }) (v := ?_) 0 rfl ?_ ?_
  rotate_left
  · (intro w hSw; (try dsimp only at hSw); first | (go_simp; done) | (go_simp; with_reducible rfl))
  try simp only [Act.put, List.setIfInBounds_toArray, List.set_cons_zero, List.set_cons_succ]
  refine tk (oi := { dst := some 6, op := Op.load 37 (Operand.tmp 2), type := 37, pos := "table.go:62", after := #[], guard := none }) (v := ?_) 1 rfl ?_ ?_
  rotate_left
  · (intro w hSw; (try dsimp only at hSw); first | (go_simp; done) | (go_simp; with_reducible rfl))
  try simp only [Act.put, List.setIfInBounds_toArray, List.set_cons_zero, List.set_cons_succ]
  refine tk (oi := { dst := some 7, op := Op.nilCheck (Operand.tmp 6), type := 0, pos := "table.go:62", after := #[{ on := 1, ground := Ground.data }], guard := none }) (v := ?_) 2 rfl ?_ ?_
  rotate_left
  · (intro w hSw; (try dsimp only at hSw); first | (go_simp; done) | (go_simp; with_reducible rfl))
  try simp only [Act.put, List.setIfInBounds_toArray, List.set_cons_zero, List.set_cons_succ]
  refine tk (oi := { dst := some 8, op := Op.fieldAddr 93 (Operand.tmp 7) 0, type := 0, pos := "table.go:62", after := #[{ on := 2, ground := Ground.data }], guard := none }) (v := ?_) 3 rfl ?_ ?_
  rotate_left
  · (intro w hSw; (try dsimp only at hSw); first | (go_simp; done) | (go_simp; with_reducible rfl))
  try simp only [Act.put, List.setIfInBounds_toArray, List.set_cons_zero, List.set_cons_succ]
  refine tk (oi := { dst := some 9, op := Op.load 22 (Operand.tmp 8), type := 22, pos := "table.go:62", after := #[{ on := 3, ground := Ground.data }], guard := none }) (v := ?_) 4 rfl ?_ ?_
  rotate_left
  · (intro w hSw; (try dsimp only at hSw); first | (go_simp; done) | (go_simp; with_reducible rfl))
  try simp only [Act.put, List.setIfInBounds_toArray, List.set_cons_zero, List.set_cons_succ]
  refine tk (oi := { dst := some 10, op := Op.move (Operand.tmp 0), type := 3, pos := "table.go:62", after := #[], guard := none }) (v := ?_) 5 rfl ?_ ?_
  rotate_left
  · (intro w hSw; (try dsimp only at hSw); first | (go_simp; done) | (go_simp; with_reducible rfl))
  try simp only [Act.put, List.setIfInBounds_toArray, List.set_cons_zero, List.set_cons_succ]
  refine tk (oi := { dst := some 11, op := Op.indexAddr 22 (Operand.tmp 9) (Operand.tmp 10), type := 0, pos := "table.go:62", after := #[{ on := 4, ground := Ground.data }, { on := 5, ground := Ground.data }], guard := none }) (v := ?_) 6 rfl ?_ ?_
  rotate_left
  · (intro w hSw; (try dsimp only at hSw); first | (go_simp; done) | (go_simp; with_reducible rfl))
  try simp only [Act.put, List.setIfInBounds_toArray, List.set_cons_zero, List.set_cons_succ]
  refine tk (oi := { dst := some 12, op := Op.load 30 (Operand.tmp 11), type := 30, pos := "table.go:62", after := #[{ on := 6, ground := Ground.data }], guard := none }) (v := ?_) 7 rfl ?_ ?_
  rotate_left
  · (intro w hSw; (try dsimp only at hSw); first | (go_simp; done) | (go_simp; with_reducible rfl))
  try simp only [Act.put, List.setIfInBounds_toArray, List.set_cons_zero, List.set_cons_succ]
  refine wpAnyH_ready (rs := [8]) (by kernel_rfl) (by simp) ?_
  refine AllReadyH.cons (o := { dst := some 13, op := Op.call { callee := Callee.value (Operand.tmp 5), args := #[Operand.tmp 12], argTypes := #[30] }, type := 4, pos := "table.go:62", after := #[{ on := 0, ground := Ground.data }, { on := 7, ground := Ground.data }], guard := none }) rfl (fun K hK => ?_) AllReadyH.nil
  go_simp
  refine (HC.out w.drew (Bel.refl w).drew).mono ?_
  rintro r w2 ⟨rfl, hb2⟩
  have HB2 := Lib.hid ((Bel.refl w).drew.trans hb2)
  dsimp only
  refine hK.out _ _ ⟨⟨cl10 hb2 hHeld.1.1, cl10 hb2 hHeld.1.2.1, cl10 hb2 hHeld.1.2.2⟩, cl10 hb2 hHeld.2.1, cl10 hb2 hHeld.2.2.1, cl10 hb2 hHeld.2.2.2.1, cl10 hb2 hHeld.2.2.2.2⟩ (fun hHeld => ?_)
  clear hK K
  try simp only [Act.put, List.setIfInBounds_toArray, List.set_cons_zero, List.set_cons_succ]
  refine tk (oi := { dst := some 4, op := Op.assign (Operand.tmp 13), type := 4, pos := "table.go:62", after := #[{ on := 8, ground := Ground.data }, { on := 8, ground := Ground.chain }, { on := 0, ground := Ground.phase }, { on := 1, ground := Ground.phase }, { on := 2, ground := Ground.phase }, { on := 3, ground := Ground.phase }, { on := 4, ground := Ground.phase }, { on := 5, ground := Ground.phase }, { on := 6, ground := Ground.phase }, { on := 7, ground := Ground.phase }, { on := 8, ground := Ground.phase }], guard := none }) (v := ?_) 9 rfl ?_ ?_
  rotate_left
  · (intro w hSw; (try dsimp only at hSw); first | (go_simp; done) | (go_simp; with_reducible rfl))
  try simp only [Act.put, List.setIfInBounds_toArray, List.set_cons_zero, List.set_cons_succ]
  refine wpAnyH_done (by kernel_rfl) ?_ _
  clear hHeld hb2
  go_wp2_with (fail)
  go_ret
  exact ⟨rfl, HB2.out⟩
set_option maxHeartbeats 2000000 in
set_option maxRecDepth 20000 in
theorem first10_any (b g : Nat) (lb : Array Value) (f : EB → Bool) (L : List EB) (w : World) (ht : TabAt w b L) (hL : L.length ≤ 1000000)
    (hcall : ∀ (kv : Value) (x : World), (callFunc g (#[kv] ++ lb)).run Tryz.prog x = .ok (.enter g (#[kv] ++ lb)) x)
    (hc : ∀ (e : EB) (x : World), Bel w x → Calls Tryz.prog g (#[.agg #[.string e.k, .int .i64 e.q, .bool e.d, .string e.v]] ++ lb) x fun r w' => r = .returned (.bool (f e)) ∧ Bel x w')
    (hmono : L.Pairwise (fun x y => f x = true → f y = true)) :
    Calls Tryz.prog 36 #[.pointer (some ⟨b, 0, none⟩), .func (.func g) #[] lb] w fun e w' => ∃ i : Nat, e = .returned (.int .i64 i) ∧ StopAt L.length (fun j => match L[j]? with | some e => f e | none => true) i ∧ Bel w w' := by
  have HT := Lib.hid ht
  have HC := Lib.hid hc
  obtain ⟨ge, cap, hcell, -, -, -⟩ := ht
  obtain ⟨w1, hw1⟩ : ∃ w1, w1 = w.alloc (.cells #[.pointer (some ⟨b, 0, none⟩)] 37) := ⟨_, rfl⟩
  obtain ⟨w2, hw2⟩ : ∃ w2, w2 = w1.alloc (.cells #[.func (.func g) #[] lb] 51) := ⟨_, rfl⟩
  have hz1 : w1.heap.size = w.heap.size + 1 := by rw [hw1]; simp
  have b1 : Bel w w1 := by rw [hw1]; exact (Bel.refl w).alloc _
  have b2 : Bel w1 w2 := by rw [hw2]; exact (Bel.refl w1).alloc _
  have c0 : w2.cell? ⟨w.heap.size, 0, none⟩ = some (.pointer (some ⟨b, 0, none⟩)) := cl10 b2 (by rw [hw1]; exact (World.cell?_alloc_new ..).trans (by simp))
  have c1 : w2.cell? ⟨w.heap.size + 1, 0, none⟩ = some (.func (.func g) #[] lb) := by rw [hw2, ← hz1]; exact (World.cell?_alloc_new ..).trans (by simp)
  have c2 := cl10 (b1.trans b2) hcell
  have HB2 := Lib.hid (b1.trans b2)
  have HS := Lib.hid (search10_any L.length 65 #[.pointer (some ⟨w.heap.size + 1, 0, none⟩), .pointer (some ⟨w.heap.size, 0, none⟩)] (fun j => match L[j]? with | some e => f e | none => true) w2 hL
    (fun kv x => run_enter8 Tryz.func65 (by kernel_rfl) rfl _ x)
    (fun i x hb hi => by
      have h1 := first1_any b (w.heap.size + 1) w.heap.size g i lb f L x (cl10 hb c0) (cl10 hb c1) (HT.out.bel (HB2.out.trans hb)) hi hL hcall (fun e y hy => HC.out e y ((HB2.out.trans hb).trans hy))
      have e1 : (match L[i]? with | some e => f e | none => true) = f L[i] := by rw [List.getElem?_eq_getElem hi]
      rw [e1]; exact h1)
    (fun i j hij hj hp => by
      rcases Nat.lt_or_eq_of_le hij with h | rfl
      · have hi : i < L.length := by omega
        simp only [List.getElem?_eq_getElem hi, List.getElem?_eq_getElem hj] at hp ⊢
        exact List.pairwise_iff_getElem.1 hmono i j hi hj h hp
      · exact hp))
  clear hc b1 b2 c0 c1 hcell hmono hcall
  go_enter Tryz.func36, Tryz.ntmps36
  rw [hw2, hw1] at c2
  go_wp2_with (fail)
  rw [← hw1, ← hw2]
  try rw [← hz1]
  try rw [hz1]
  refine HS.out.mono ?_
  rintro e w3 ⟨i, rfl, hs, hb⟩
  have HB3 := Lib.hid (HB2.out.trans hb)
  clear hb c2
  go_wp2_with (fail)
  go_ret
  exact ⟨i, rfl, hs, HB3.out⟩
end Go.Proofs.YteimllgoelleeaaGreatDoor
/- table's Get. -/
namespace Go.Proofs.YteimllgoelleeaaGreatDoor
open Go.RowKit Go.Deep

def getV : Option EB → Value
  | some e => .tuple #[.agg #[.string e.k, .int .i64 e.q, .bool e.d, .string e.v], .bool true]
  | none => .tuple #[.agg #[.string ⟨#[]⟩, .int .i64 0, .bool false, .string ⟨#[]⟩], .bool false]
set_option maxHeartbeats 1000000 in
set_option maxRecDepth 20000 in
theorem get1_any (e lim : EB) (X : Nat) (w : World) (c0 : w.cell? ⟨X, 0, none⟩ = some (.string lim.k)) (c1 : w.cell? ⟨X, 1, none⟩ = some (.int .i64 lim.q)) (c2 : w.cell? ⟨X, 2, none⟩ = some (.bool lim.d)) (c3 : w.cell? ⟨X, 3, none⟩ = some (.string lim.v)) :
    Calls Tryz.prog 37 (#[.agg #[.string e.k, .int .i64 e.q, .bool e.d, .string e.v]] ++ #[.pointer (some ⟨X, 0, none⟩)]) w fun r w' => r = .returned (.bool (!lessB e lim)) ∧ Bel w w' := by
  obtain ⟨w1, hw1⟩ : ∃ w1, w1 = w.alloc (.cells #[.string e.k, .int .i64 e.q, .bool e.d, .string e.v] 30) := ⟨_, rfl⟩
  have hb : Bel w w1 := by rw [hw1]; exact (Bel.refl w).alloc _
  have d0 := cl10 hb c0
  have d1 := cl10 hb c1
  have d2 := cl10 hb c2
  have d3 := cl10 hb c3
  have HB := Lib.hid hb
  rw [hw1] at d0 d1 d2 d3
  clear hb c0 c1 c2 c3
  show Calls _ _ #[.agg #[.string e.k, .int .i64 e.q, .bool e.d, .string e.v], .pointer (some ⟨X, 0, none⟩)] _ _
  go_enter Tryz.func37, Tryz.ntmps37
  go_wp2_with (fail)
  rw [← hw1]
  refine (pless_any e lim w1).mono ?_
  rintro r w2 ⟨rfl, hb⟩
  have HB2 := Lib.hid (HB.out.trans hb)
  clear hb d0 d1 d2 d3
  obtain ⟨z, hz⟩ : ∃ z, lessB e lim = z := ⟨_, rfl⟩
  rw [hz]
  have HZ := Lib.hid hz
  clear hz
  go_wp2_with (fail)
  go_ret
  exact ⟨by rw [HZ.out]; rfl, HB2.out⟩
theorem less_up {x y l : EB} (h : lessB x y = true) : (!lessB x l) = true → (!lessB y l) = true := by
  intro h1
  cases h2 : lessB y l with
  | false => rfl
  | true => rw [lessB_trans h h2] at h1; cases h1
set_option maxHeartbeats 2000000 in
set_option maxRecDepth 20000 in
theorem get_any (b : Nat) (key : ByteArray) (q : Int) (L : List EB) (w : World) (ht : TabAt w b L) (hL : L.length ≤ 100000) (hp : L.Pairwise (fun a b => lessB a b = true)) :
    Calls Tryz.prog 14 #[.pointer (some ⟨b, 0, none⟩), .string key, .int .i64 q] w fun e w' => e = .returned (getV (getE key.data.toList q L)) ∧ Bel w w' := by
  obtain ⟨w1, hw1⟩ : ∃ w1, w1 = w.alloc (.cells #[.string ⟨#[]⟩, .int .i64 0, .bool false, .string ⟨#[]⟩] 30) := ⟨_, rfl⟩
  obtain ⟨w2, hw2⟩ : ∃ w2, w2 = w1.alloc (.cells #[.string key, .int .i64 q, .bool false, .string ⟨#[]⟩] 30) := ⟨_, rfl⟩
  have hz1 : w1.heap.size = w.heap.size + 1 := by rw [hw1]; simp
  have b1 : Bel w w1 := by rw [hw1]; exact (Bel.refl w).alloc _
  have b2 : Bel w1 w2 := by rw [hw2]; exact (Bel.refl w1).alloc _
  have hbk1 : w1.heap[w.heap.size]? = some (.cells #[.string ⟨#[]⟩, .int .i64 0, .bool false, .string ⟨#[]⟩] 30 (0, 0)) := by rw [hw1]; exact heap_alloc_new w _
  have hbk : w2.heap[w.heap.size]? = some (.cells #[.string ⟨#[]⟩, .int .i64 0, .bool false, .string ⟨#[]⟩] 30 (0, 0)) := (Below.block b2 _ (by rw [hz1]; omega)).trans hbk1
  have hbx : w2.heap[w.heap.size + 1]? = some (.cells #[.string key, .int .i64 q, .bool false, .string ⟨#[]⟩] 30 (0, 0)) := by rw [hw2, ← hz1]; exact heap_alloc_new w1 _
  have HB2 := Lib.hid (b1.trans b2)
  have HT2 := Lib.hid (ht.bel HB2.out)
  obtain ⟨lim, hlim⟩ : ∃ lim : EB, lim = ⟨key, q, false, ⟨#[]⟩⟩ := ⟨_, rfl⟩
  have x0 : w2.cell? ⟨w.heap.size + 1, 0, none⟩ = some (.string lim.k) := by rw [hlim]; simp [World.cell?, hbx]
  have x1 : w2.cell? ⟨w.heap.size + 1, 1, none⟩ = some (.int .i64 lim.q) := by rw [hlim]; simp [World.cell?, hbx]
  have x2 : w2.cell? ⟨w.heap.size + 1, 2, none⟩ = some (.bool lim.d) := by rw [hlim]; simp [World.cell?, hbx]
  have x3 : w2.cell? ⟨w.heap.size + 1, 3, none⟩ = some (.string lim.v) := by rw [hlim]; simp [World.cell?, hbx]
  have HF := Lib.hid (first10_any b 37 #[.pointer (some ⟨w.heap.size + 1, 0, none⟩)] (fun e => !lessB e lim) L w2 HT2.out (by omega)
    (fun kv x => run_enter8 Tryz.func37 (by kernel_rfl) rfl _ x)
    (fun e x hb => get1_any e lim (w.heap.size + 1) x (cl10 hb x0) (cl10 hb x1) (cl10 hb x2) (cl10 hb x3))
    (hp.imp fun {x y} hxy => less_up hxy))
  have z0 : w2.cell? ⟨w.heap.size, 0, none⟩ = some (.string ⟨#[]⟩) := by simp [World.cell?, hbk]
  have z1 : w2.cell? ⟨w.heap.size, 1, none⟩ = some (.int .i64 0) := by simp [World.cell?, hbk]
  have z2 : w2.cell? ⟨w.heap.size, 2, none⟩ = some (.bool false) := by simp [World.cell?, hbk]
  have z3 : w2.cell? ⟨w.heap.size, 3, none⟩ = some (.string ⟨#[]⟩) := by simp [World.cell?, hbk]
  have zf : ∀ j, w2.frozen? ⟨w.heap.size, j, none⟩ = false := fun j => by simp [World.frozen?, hbk]
  have hlt : w.heap.size < w2.heap.size := block_of_cell z0
  have HP := Lib.hid hp
  have HLIM := Lib.hid hlim
  clear ht hp b1 b2 hbk hbk1 hbx x0 x1 x2 x3 hlim
  go_enter Tryz.func14, Tryz.ntmps14
  go_wp2_with (fail)
  rw [← hw1]
  try rw [hz1]
  rw [← hw2]
  clear hw1 hw2 hz1
  refine HF.out.mono ?_
  rintro e w3 ⟨i, rfl, hs, hb⟩
  obtain ⟨hi, hs1, hs2⟩ := hs
  have HG := Lib.hid (get_at HP.out key q i hi (fun j h hj => by
      have := hs1 j hj
      simp only [List.getElem?_eq_getElem h] at this
      rw [← HLIM.out]
      cases h9 : lessB L[j] lim with
      | true => rfl
      | false => rw [h9] at this; cases this) (fun h => by
      have := hs2 i (Nat.le_refl _) h
      simp only [List.getElem?_eq_getElem h] at this
      rw [← HLIM.out]
      cases h9 : lessB L[i] lim with
      | false => rfl
      | true => rw [h9] at this; cases this))
  have HB3 := Lib.hid (HB2.out.trans hb)
  obtain ⟨ge, cap, hcell, hents, hcap, -⟩ := HT2.out.bel hb
  have y0 := cl10 hb z0
  have y1 := cl10 hb z1
  have y2 := cl10 hb z2
  have y3 := cl10 hb z3
  have f0 := (hb.frozen w.heap.size 0 hlt).trans (zf 0)
  have f1 := (hb.frozen w.heap.size 1 hlt).trans (zf 1)
  have f2 := (hb.frozen w.heap.size 2 hlt).trans (zf 2)
  have f3 := (hb.frozen w.heap.size 3 hlt).trans (zf 3)
  clear hs1 hs2 z0 z1 z2 z3 zf hlt hb HF
  by_cases hil : i < L.length
  · obtain ⟨a, e0, ha, he0, B, O, sp, ha2, c0, c1, c2, c3⟩ := hents.get hil
    cases ha
    rw [add_any ge (i * 4)] at ha2
    cases ha2
    have hne : ((i : Int) == (L.length : Int)) = false := by rw [beq_eq_false_iff_ne]; omega
    have hii : (i : Int) < (L.length : Int) := by omega
    rw [dif_pos hil, ← he0] at HG
    clear hents he0 hi
    by_cases hk : e0.k = key
    · rw [if_pos hk] at HG
      have hself : (key.toList == key.toList) = true := beq_self_eq_true _
      rw [hk] at c0
      have HK := Lib.hid hk
      clear hk
      go_wp2_with (fail)
      refine bodyPost_ret (v := .tuple #[.agg #[.string key, .int .i64 e0.q, .bool e0.d, .string e0.v], .bool true]) (by simp [results, Tryz.results14, go_sem, y0, y1, y2, y3, f0, f1, f2, f3]) rfl ⟨by rw [HG.out, ← HK.out]; rfl, ?_⟩
      repeat' first | exact HB3.out | refine Bel.setCell ?_ (by simp) _ | refine Bel.drewN ?_ _
    · rw [if_neg hk] at HG
      have hkb : (e0.k.toList == key.toList) = false := by
        rw [ByteArray.toList_eq, ByteArray.toList_eq, beq_eq_false_iff_ne]
        exact fun h => hk (ba_ext h)
      clear hk
      go_wp2_with (fail)
      refine bodyPost_ret (v := .tuple #[.agg #[.string ⟨#[]⟩, .int .i64 0, .bool false, .string ⟨#[]⟩], .bool false]) (by simp [results, Tryz.results14, go_sem, y0, y1, y2, y3, f0, f1, f2, f3]) rfl ⟨by rw [HG.out]; rfl, ?_⟩
      repeat' first | exact HB3.out | refine Bel.setCell ?_ (by simp) _ | refine Bel.drewN ?_ _
  · obtain rfl : i = L.length := by omega
    rw [dif_neg hil] at HG
    clear hents hil hi
    go_wp2_with (fail)
    refine bodyPost_ret (v := .tuple #[.agg #[.string ⟨#[]⟩, .int .i64 0, .bool false, .string ⟨#[]⟩], .bool false]) (by simp [results, Tryz.results14, go_sem, y0, y1, y2, y3, f0, f1, f2, f3]) rfl ⟨by rw [HG.out]; rfl, ?_⟩
    repeat' first | exact HB3.out | refine Bel.setCell ?_ (by simp) _ | refine Bel.drewN ?_ _
end Go.Proofs.YteimllgoelleeaaGreatDoor
