/- moultref8.Read: the document's reading of a block. -/
import Derived.Test.YtldkpomkgmilbaaBThree
import Derived.Test.YtldkpomkgmilbaaBRead
import Derived.BigRegion
set_option linter.unusedSimpArgs false
set_option linter.unusedVariables false
namespace Go.Proofs.Ytldkpomkgmilbaa
open Go.RowKit Go.Deep

def RReadPost (s : List UInt8) (w : World) (e : Ending) (w' : World) : Prop :=
  ∃ v L, e = .returned (.tuple #[v, .int .i64 (readAll s).2]) ∧ OwnG rpairEl w.heap.size w' v L ∧ prs L = (readAll s).1 ∧ smallP 3000 L ∧ L.length ≤ 1000 ∧ Bel w w'
theorem readAll_none {s : List UInt8} (h : readL s = none) : readAll s = ([], 8) := search_none h
theorem readAll_some {s : List UInt8} {M : List PR} (h : readL s = some M) : readAll s = (M, 0) := by unfold readAll; rw [search_some h, filter_all]
def RReadRel (s : ByteArray) (w : World) (lv kv sv : Value) (x : World) : Prop :=
  ∃ (acc : List PB) (last r : ByteArray), kv = .string last ∧ sv = .string r ∧ last.size + r.size ≤ s.size ∧ 3 * acc.length + r.size ≤ s.size ∧ smallP s.size acc ∧ OwnG rpairEl w.heap.size x lv acc ∧
    parseW [] s.data.toList = (parseW last.data.toList r.data.toList).map (fun l => prs acc ++ l) ∧ Bel w x
theorem parse_stop {s : ByteArray} {last r : List UInt8} {pre : List PR} (hs : s.size ≤ 40000) (h : parseW [] s.data.toList = (parseW last r).map (fun l => pre ++ l)) (hn : parseW last r = none) : readL s.data.toList = none := by
  rw [← ref_read _ hs]; unfold refRead; rw [h, hn]; rfl
theorem parse_step {s : ByteArray} {last r : List UInt8} {pre : List PR} {a b c : Nat} {x : List UInt8} (h : parseW [] s.data.toList = (parseW last r).map (fun l => pre ++ l)) (hr : r ≠ []) (hq : three4 r = some (a, b, c, x)) (hf : a ≤ last.length ∧ b + c ≤ x.length) :
    parseW [] s.data.toList = (parseW (last.take a ++ x.take b) (x.drop (b + c))).map (fun l => (pre ++ [⟨last.take a ++ x.take b, (x.drop b).take c⟩]) ++ l) := by
  rw [h, parse_next hr hq hf, Option.map_map]
  congr 1
  funext l
  simp
theorem smallP_snoc {n : Nat} {L : List PB} {p : PB} (h : smallP n L) (hk : p.k.size ≤ n) (hv : p.v.size ≤ n) : smallP n (L ++ [p]) := by
  intro i hi
  by_cases hl : i < L.length
  · rw [List.getElem_append_left hl]; exact h i hl
  · rw [List.getElem_append_right (by omega)]
    simp at hi
    have : i - L.length = 0 := by omega
    simp only [this, List.getElem_cons_zero]
    exact ⟨hk, hv⟩

set_option maxHeartbeats 4000000 in
set_option maxRecDepth 20000 in
theorem rread_any (s : ByteArray) (w : World) (hs : s.size ≤ 3000) :
    Calls Try.prog 19 #[.string s] w (RReadPost s.data.toList w) := by
  go_enter Try.func19, Try.ntmps19
  go_wp2_with (fail)
  go_loopw [4, 5, 6] (fun lv kv sv x => RReadRel s w lv kv sv x) (fun _ _ sv _ => sizeOfS sv)
  case atStart => exact ⟨[], ⟨#[]⟩, s, rfl, rfl, by show 0 + s.size ≤ _; omega, by show 3 * 0 + s.size ≤ _; omega, fun i h => by simp at h, OwnG.nil _ _ _, by simp [prs], Bel.refl w⟩
  case round =>
    obtain ⟨acc, last, r, rfl, rfl, hls, hal, hsm, hown, hpar, hb⟩ := hrel
    obtain ⟨lp, lcap, rfl⟩ := ownG_len hown
    have HO := Lib.hid hown
    have HSM := Lib.hid hsm
    have HP := Lib.hid hpar
    have HB := Lib.hid hb
    have hwz := hb.size
    clear hown hsm hpar hb
    by_cases hr0 : r.size = 0
    · obtain rfl : r = ⟨#[]⟩ := by apply ByteArray.ext; exact Array.eq_empty_of_size_eq_zero hr0
      have hpar : parseW [] s.data.toList = some (prs acc) := by
        rw [HP.out, show (⟨#[]⟩ : ByteArray).data.toList = [] from rfl, parse_nil]; simp
      have hsl : s.data.toList.length = s.size := rfl
      obtain ⟨p, cap, hv, hat⟩ := ownG_rpairs HO.out
      cases hv
      have HBU := Lib.hid (fun z (hz : Bel wr z) => rbuild_any lp lcap acc z (hat.bel hz) (by omega) (fun i hi => by have := HSM.out i hi; omega))
      obtain ⟨t, E, hbd⟩ : ∃ t E, buildL (prs acc) = (t, E) := ⟨_, _, rfl⟩
      have href : refRead s.data.toList = readL s.data.toList := ref_read _ (by rw [hsl]; omega)
      have hrr : refRead s.data.toList = if buildL (prs acc) = (s.data.toList, 0) then some (prs acc) else none := by unfold refRead; rw [hpar]
      have HSM3 := Lib.hid (show smallP 3000 acc from fun i hi => by have := HSM.out i hi; omega)
      have hal2 : acc.length ≤ 1000 := by omega
      clear hat hpar HP
      by_cases hE : E = 0
      · subst hE
        by_cases ht : t = s.data.toList
        · have HF := Lib.hid (readAll_some (show readL s.data.toList = some (prs acc) by rw [← href, hrr, hbd, if_pos (by rw [ht])]))
          have HBV := Lib.hid (show Value.tuple #[.string ⟨(buildL (prs acc)).1.toArray⟩, .int .i64 (buildL (prs acc)).2] = .tuple #[.string s, .int .i64 0] by rw [hbd, ht])
          clear ht hbd hrr href
          go_wp2_with (fail)
          refine (HBU.out _ (Bel.refl wr)).mono ?_
          rintro e w1 ⟨rfl, hb1⟩
          rw [HBV.out]
          have HB1 := Lib.hid (HB.out.trans hb1)
          have HO1 := Lib.hid (HO.out.bel hb1)
          clear hb1
          go_wp2_with (fail)
          go_ret2
          exact ⟨_, acc, by rw [HF.out]; rfl, HO1.out, by rw [HF.out], HSM3.out, hal2, HB1.out⟩
        · have HF := Lib.hid (readAll_none (show readL s.data.toList = none by rw [← href, hrr, hbd, if_neg (by intro e; exact ht (Prod.mk.inj e).1)]))
          have HBV := Lib.hid (show Value.tuple #[.string ⟨(buildL (prs acc)).1.toArray⟩, .int .i64 (buildL (prs acc)).2] = .tuple #[.string ⟨t.toArray⟩, .int .i64 0] by rw [hbd])
          have hne : (t == s.toList) = false := by rw [ByteArray.toList_eq, beq_eq_false_iff_ne]; exact ht
          clear ht hbd hrr href
          go_wp2_with (fail)
          refine (HBU.out _ (Bel.refl wr)).mono ?_
          rintro e w1 ⟨rfl, hb1⟩
          rw [HBV.out]
          have HB1 := Lib.hid (HB.out.trans hb1)
          clear hb1
          go_wp2_with (fail)
          go_ret2
          exact ⟨_, [], by rw [HF.out]; rfl, OwnG.nil _ _ _, by rw [HF.out]; rfl, fun i h => by simp at h, by simp, HB1.out⟩
      · have HF := Lib.hid (readAll_none (show readL s.data.toList = none by rw [← href, hrr, hbd, if_neg (by intro e; exact hE (Prod.mk.inj e).2)]))
        have HBV := Lib.hid (show Value.tuple #[.string ⟨(buildL (prs acc)).1.toArray⟩, .int .i64 (buildL (prs acc)).2] = .tuple #[.string ⟨t.toArray⟩, .int .i64 E] by rw [hbd])
        have hne : (E == 0) = false := by rw [beq_eq_false_iff_ne]; exact hE
        have hne2 : (E != 0) = true := by rw [bne_iff_ne]; exact hE
        clear hbd hrr href
        go_wp2_with (fail)
        refine (HBU.out _ (Bel.refl wr)).mono ?_
        rintro e w1 ⟨rfl, hb1⟩
        rw [HBV.out]
        have HB1 := Lib.hid (HB.out.trans hb1)
        clear hb1
        go_wp2_with (fail)
        go_ret2
        exact ⟨_, [], by rw [HF.out]; rfl, OwnG.nil _ _ _, by rw [HF.out]; rfl, fun i h => by simp at h, by simp, HB1.out⟩
    · have hnl := ne_nil r hr0
      have hne : r.toList.isEmpty = false := by rw [ByteArray.toList_eq]; cases h : r.data.toList with | nil => exact absurd h hnl | cons a l => rfl
      have hsl : s.data.toList.length = s.size := rfl
      have hrl : r.data.toList.length = r.size := rfl
      have hll : last.data.toList.length = last.size := rfl
      go_wp2_with (fail)
      refine (three_any r wr (by omega)).mono ?_
      rintro e w1 ⟨hb1, (⟨h4, rfl⟩ | ⟨a, b, c, x, v, h4, rfl, ho1⟩)⟩
      · have HF := Lib.hid (readAll_none (parse_stop (by omega) HP.out (parse_none hnl h4)))
        have HB1 := Lib.hid (HB.out.trans hb1)
        clear hb1 h4 hnl
        go_wp2_with (fail)
        go_quiet (fail)
        go_wp2_with (fail)
        go_ret2
        exact ⟨_, [], by rw [HF.out]; rfl, OwnG.nil _ _ _, by rw [HF.out]; rfl, fun i h => by simp at h, by simp, HB1.out.drewN _⟩
      · have hl4 := three_less (three4_some.1 h4).1
        rw [hrl] at hl4
        have hm4 := (three4_some.1 h4).2
        have HB1 := Lib.hid (HB.out.trans hb1)
        have HO1 := Lib.hid (HO.out.bel hb1)
        have hz1 : w.heap.size ≤ w1.heap.size := HB1.out.size
        have hlp : ∀ k, (Value.slice lp acc.length lcap).ownBlock = some k → k < wr.heap.size := fun k hk => (HO.out.lt k hk).2
        obtain ⟨g, cap, rfl, hgl, hg, -, hc⟩ := ownG_cells intOk8 ho1 (by simp)
        have n0 : w1.cell? ⟨g, 0, none⟩ = some (.int .i64 (a : Int)) := hc 0 (a : Int) rfl 0 _ rfl
        have n1 : w1.cell? ⟨g, 1, none⟩ = some (.int .i64 (b : Int)) := hc 1 (b : Int) rfl 0 _ rfl
        have n2 : w1.cell? ⟨g, 2, none⟩ = some (.int .i64 (c : Int)) := hc 2 (c : Int) rfl 0 _ rfl
        simp only [List.length_cons, List.length_nil, Nat.zero_add, Nat.reduceAdd]
        clear hc hb1 ho1
        obtain ⟨xb, hxb⟩ : ∃ xb : ByteArray, (⟨x.toArray⟩ : ByteArray) = xb := ⟨_, rfl⟩
        have hxd : xb.data.toList = x := by rw [← hxb]
        have hxl : x.length = xb.size := by rw [← hxd]; rfl
        rw [hxb]
        have hwbc : IntKind.i64.wrap ((b : Int) + (c : Int)) = (b : Int) + (c : Int) := IntWalk.i64_in _ (by omega)
        by_cases hfit : a ≤ last.size ∧ b + c ≤ xb.size
        · have HST := Lib.hid (parse_step HP.out hnl h4 (by rw [hll, hxl]; exact hfit))
          obtain ⟨hfa, hfb⟩ := hfit
          have i1 : (a : Int) ≤ (last.size : Int) := by omega
          have i2 : (b : Int) + (c : Int) ≤ (xb.size : Int) := by omega
          have i3 : b ≤ xb.size := by omega
          have i4 : (0 : Int) ≤ (b : Int) + (c : Int) := by omega
          have i5 : (b : Int) ≤ (b : Int) + (c : Int) := by omega
          have i6 : ((b : Int) + (c : Int)).toNat = b + c := by omega
          have HK := Lib.hid (show ((last.extract 0 a ++ xb.extract 0 b : ByteArray)).data.toList = last.data.toList.take a ++ x.take b by
            rw [ByteArray.data_append, Array.toList_append, ext_data, ext_data, hxd]; simp)
          have HVV := Lib.hid (show (xb.extract b (b + c)).data.toList = (x.drop b).take c by rw [ext_data, hxd, List.drop_take]; congr 1; omega)
          have HRR := Lib.hid (show (xb.extract (b + c) xb.size).data.toList = x.drop (b + c) by rw [ext_data, hxd, List.take_of_length_le (by omega)])
          have hkz : (last.extract 0 a ++ xb.extract 0 b : ByteArray).size = a + b := by rw [ByteArray.size_append, ByteArray.size_extract, ByteArray.size_extract]; omega
          have hvz : (xb.extract b (b + c)).size = c := by rw [ByteArray.size_extract]; omega
          have hrz : (xb.extract (b + c) xb.size).size = xb.size - (b + c) := by rw [ByteArray.size_extract]; omega
          clear h4 hnl hxb
          go_wp2_with (fail)
          go_quiet (fail)
          have n0' : (w1.drewN nq).cell? ⟨g, 0, none⟩ = some (.int .i64 (a : Int)) := n0
          have n1' : (w1.drewN nq).cell? ⟨g, 1, none⟩ = some (.int .i64 (b : Int)) := n1
          have n2' : (w1.drewN nq).cell? ⟨g, 2, none⟩ = some (.int .i64 (c : Int)) := n2
          replace HB1 := Lib.hid (HB1.out.drewN nq)
          replace HO1 := Lib.hid (HO1.out.drewN nq)
          replace hz1 : w.heap.size ≤ (w1.drewN nq).heap.size := hz1
          replace hg : g < (w1.drewN nq).heap.size := hg
          generalize w1.drewN nq = w2 at *
          clear n0 n1 n2
          go_wp2_with (fail)
          refine wp_region_held_drew (S := fun z => z.cell? ⟨g, 0, none⟩ = some (.int .i64 (a : Int)) ∧ z.cell? ⟨g, 1, none⟩ = some (.int .i64 (b : Int)) ∧ z.cell? ⟨g, 2, none⟩ = some (.int .i64 (c : Int))) (by kernel_rfl) ⟨n0', n1', n2'⟩ (fun hHeld => ?_)
          refine wpAnyH_take (i := 0) (oi := { dst := some 44, op := Op.move (Operand.tmp 5), type := 9, pos := "ref.go:85", after := #[], guard := none }) (v := ?_) rfl (by kernel_rfl) (by kernel_rfl) (by kernel_rfl) (fun _ _ _ h => h) (Or.inl ⟨by rfl, ?_⟩) (by assumption) ?_
          rotate_left
          · (intro w hSw; (try dsimp only at hSw); first | (go_simp; done) | (go_simp; with_reducible rfl))
          try simp only [Act.put, List.setIfInBounds_toArray, List.set_cons_zero, List.set_cons_succ]
          refine wpAnyH_take (i := 1) (oi := { dst := some 45, op := Op.move (Operand.tmp 7), type := 72, pos := "ref.go:85", after := #[], guard := none }) (v := ?_) rfl (by kernel_rfl) (by kernel_rfl) (by kernel_rfl) (fun _ _ _ h => h) (Or.inl ⟨by rfl, ?_⟩) (by assumption) ?_
          rotate_left
          · (intro w hSw; (try dsimp only at hSw); first | (go_simp; done) | (go_simp; with_reducible rfl))
          try simp only [Act.put, List.setIfInBounds_toArray, List.set_cons_zero, List.set_cons_succ]
          refine wpAnyH_take (i := 2) (oi := { dst := some 46, op := Op.indexAddr 72 (Operand.tmp 45) (Operand.const (Value.int IntKind.i64 0)), type := 0, pos := "ref.go:85", after := #[{ on := 1, ground := Ground.data }], guard := none }) (v := ?_) rfl (by kernel_rfl) (by kernel_rfl) (by kernel_rfl) (fun _ _ _ h => h) (Or.inl ⟨by rfl, ?_⟩) (by assumption) ?_
          rotate_left
          · (intro w hSw; (try dsimp only at hSw); first | (go_simp; done) | (go_simp; with_reducible rfl))
          try simp only [Act.put, List.setIfInBounds_toArray, List.set_cons_zero, List.set_cons_succ]
          refine wpAnyH_take (i := 3) (oi := { dst := some 47, op := Op.load 3 (Operand.tmp 46), type := 3, pos := "ref.go:85", after := #[{ on := 2, ground := Ground.data }], guard := none }) (v := ?_) rfl (by kernel_rfl) (by kernel_rfl) (by kernel_rfl) (fun _ _ _ h => h) (Or.inl ⟨by rfl, ?_⟩) (by assumption) ?_
          rotate_left
          · (intro w hSw; (try dsimp only at hSw); first | (go_simp; done) | (go_simp; with_reducible rfl))
          try simp only [Act.put, List.setIfInBounds_toArray, List.set_cons_zero, List.set_cons_succ]
          refine wpAnyH_take (i := 4) (oi := { dst := some 48, op := Op.slice 9 (Operand.tmp 44) none (some (Operand.tmp 47)) none, type := 9, pos := "ref.go:85", after := #[{ on := 0, ground := Ground.data }, { on := 3, ground := Ground.data }], guard := none }) (v := ?_) rfl (by kernel_rfl) (by kernel_rfl) (by kernel_rfl) (fun _ _ _ h => h) (Or.inl ⟨by rfl, ?_⟩) (by assumption) ?_
          rotate_left
          · (intro w hSw; (try dsimp only at hSw); first | (go_simp; done) | (go_simp; with_reducible rfl))
          try simp only [Act.put, List.setIfInBounds_toArray, List.set_cons_zero, List.set_cons_succ]
          refine wpAnyH_take (i := 5) (oi := { dst := some 49, op := Op.move (Operand.tmp 8), type := 9, pos := "ref.go:85", after := #[], guard := none }) (v := ?_) rfl (by kernel_rfl) (by kernel_rfl) (by kernel_rfl) (fun _ _ _ h => h) (Or.inl ⟨by rfl, ?_⟩) (by assumption) ?_
          rotate_left
          · (intro w hSw; (try dsimp only at hSw); first | (go_simp; done) | (go_simp; with_reducible rfl))
          try simp only [Act.put, List.setIfInBounds_toArray, List.set_cons_zero, List.set_cons_succ]
          refine wpAnyH_take (i := 6) (oi := { dst := some 50, op := Op.move (Operand.tmp 7), type := 72, pos := "ref.go:85", after := #[], guard := none }) (v := ?_) rfl (by kernel_rfl) (by kernel_rfl) (by kernel_rfl) (fun _ _ _ h => h) (Or.inl ⟨by rfl, ?_⟩) (by assumption) ?_
          rotate_left
          · (intro w hSw; (try dsimp only at hSw); first | (go_simp; done) | (go_simp; with_reducible rfl))
          try simp only [Act.put, List.setIfInBounds_toArray, List.set_cons_zero, List.set_cons_succ]
          refine wpAnyH_take (i := 7) (oi := { dst := some 51, op := Op.indexAddr 72 (Operand.tmp 50) (Operand.const (Value.int IntKind.i64 1)), type := 0, pos := "ref.go:85", after := #[{ on := 6, ground := Ground.data }], guard := none }) (v := ?_) rfl (by kernel_rfl) (by kernel_rfl) (by kernel_rfl) (fun _ _ _ h => h) (Or.inl ⟨by rfl, ?_⟩) (by assumption) ?_
          rotate_left
          · (intro w hSw; (try dsimp only at hSw); first | (go_simp; done) | (go_simp; with_reducible rfl))
          try simp only [Act.put, List.setIfInBounds_toArray, List.set_cons_zero, List.set_cons_succ]
          refine wpAnyH_take (i := 8) (oi := { dst := some 52, op := Op.load 3 (Operand.tmp 51), type := 3, pos := "ref.go:85", after := #[{ on := 7, ground := Ground.data }], guard := none }) (v := ?_) rfl (by kernel_rfl) (by kernel_rfl) (by kernel_rfl) (fun _ _ _ h => h) (Or.inl ⟨by rfl, ?_⟩) (by assumption) ?_
          rotate_left
          · (intro w hSw; (try dsimp only at hSw); first | (go_simp; done) | (go_simp; with_reducible rfl))
          try simp only [Act.put, List.setIfInBounds_toArray, List.set_cons_zero, List.set_cons_succ]
          refine wpAnyH_take (i := 9) (oi := { dst := some 53, op := Op.slice 9 (Operand.tmp 49) none (some (Operand.tmp 52)) none, type := 9, pos := "ref.go:85", after := #[{ on := 5, ground := Ground.data }, { on := 8, ground := Ground.data }], guard := none }) (v := ?_) rfl (by kernel_rfl) (by kernel_rfl) (by kernel_rfl) (fun _ _ _ h => h) (Or.inl ⟨by rfl, ?_⟩) (by assumption) ?_
          rotate_left
          · (intro w hSw; (try dsimp only at hSw); first | (go_simp; done) | (go_simp; with_reducible rfl))
          try simp only [Act.put, List.setIfInBounds_toArray, List.set_cons_zero, List.set_cons_succ]
          refine wpAnyH_take (i := 10) (oi := { dst := some 54, op := Op.binOp BinOp.add 9 (Operand.tmp 48) (Operand.tmp 53) 9, type := 9, pos := "ref.go:85", after := #[{ on := 4, ground := Ground.data }, { on := 9, ground := Ground.data }], guard := none }) (v := ?_) rfl (by kernel_rfl) (by kernel_rfl) (by kernel_rfl) (fun _ _ _ h => h) (Or.inl ⟨by rfl, ?_⟩) (by assumption) ?_
          rotate_left
          · (intro w hSw; (try dsimp only at hSw); first | (go_simp; rw [if_neg (by omega)]; done))
          try simp only [Act.put, List.setIfInBounds_toArray, List.set_cons_zero, List.set_cons_succ]
          refine wpAnyH_take (i := 11) (oi := { dst := some 55, op := Op.move (Operand.tmp 8), type := 9, pos := "ref.go:85", after := #[], guard := none }) (v := ?_) rfl (by kernel_rfl) (by kernel_rfl) (by kernel_rfl) (fun _ _ _ h => h) (Or.inl ⟨by rfl, ?_⟩) (by assumption) ?_
          rotate_left
          · (intro w hSw; (try dsimp only at hSw); first | (go_simp; done) | (go_simp; with_reducible rfl))
          try simp only [Act.put, List.setIfInBounds_toArray, List.set_cons_zero, List.set_cons_succ]
          refine wpAnyH_take (i := 12) (oi := { dst := some 56, op := Op.move (Operand.tmp 7), type := 72, pos := "ref.go:85", after := #[], guard := none }) (v := ?_) rfl (by kernel_rfl) (by kernel_rfl) (by kernel_rfl) (fun _ _ _ h => h) (Or.inl ⟨by rfl, ?_⟩) (by assumption) ?_
          rotate_left
          · (intro w hSw; (try dsimp only at hSw); first | (go_simp; done) | (go_simp; with_reducible rfl))
          try simp only [Act.put, List.setIfInBounds_toArray, List.set_cons_zero, List.set_cons_succ]
          refine wpAnyH_take (i := 13) (oi := { dst := some 57, op := Op.indexAddr 72 (Operand.tmp 56) (Operand.const (Value.int IntKind.i64 1)), type := 0, pos := "ref.go:85", after := #[{ on := 12, ground := Ground.data }], guard := none }) (v := ?_) rfl (by kernel_rfl) (by kernel_rfl) (by kernel_rfl) (fun _ _ _ h => h) (Or.inl ⟨by rfl, ?_⟩) (by assumption) ?_
          rotate_left
          · (intro w hSw; (try dsimp only at hSw); first | (go_simp; done) | (go_simp; with_reducible rfl))
          try simp only [Act.put, List.setIfInBounds_toArray, List.set_cons_zero, List.set_cons_succ]
          refine wpAnyH_take (i := 14) (oi := { dst := some 58, op := Op.load 3 (Operand.tmp 57), type := 3, pos := "ref.go:85", after := #[{ on := 13, ground := Ground.data }], guard := none }) (v := ?_) rfl (by kernel_rfl) (by kernel_rfl) (by kernel_rfl) (fun _ _ _ h => h) (Or.inl ⟨by rfl, ?_⟩) (by assumption) ?_
          rotate_left
          · (intro w hSw; (try dsimp only at hSw); first | (go_simp; done) | (go_simp; with_reducible rfl))
          try simp only [Act.put, List.setIfInBounds_toArray, List.set_cons_zero, List.set_cons_succ]
          refine wpAnyH_take (i := 15) (oi := { dst := some 59, op := Op.move (Operand.tmp 7), type := 72, pos := "ref.go:85", after := #[], guard := none }) (v := ?_) rfl (by kernel_rfl) (by kernel_rfl) (by kernel_rfl) (fun _ _ _ h => h) (Or.inl ⟨by rfl, ?_⟩) (by assumption) ?_
          rotate_left
          · (intro w hSw; (try dsimp only at hSw); first | (go_simp; done) | (go_simp; with_reducible rfl))
          try simp only [Act.put, List.setIfInBounds_toArray, List.set_cons_zero, List.set_cons_succ]
          refine wpAnyH_take (i := 16) (oi := { dst := some 60, op := Op.indexAddr 72 (Operand.tmp 59) (Operand.const (Value.int IntKind.i64 1)), type := 0, pos := "ref.go:85", after := #[{ on := 15, ground := Ground.data }], guard := none }) (v := ?_) rfl (by kernel_rfl) (by kernel_rfl) (by kernel_rfl) (fun _ _ _ h => h) (Or.inl ⟨by rfl, ?_⟩) (by assumption) ?_
          rotate_left
          · (intro w hSw; (try dsimp only at hSw); first | (go_simp; done) | (go_simp; with_reducible rfl))
          try simp only [Act.put, List.setIfInBounds_toArray, List.set_cons_zero, List.set_cons_succ]
          refine wpAnyH_take (i := 17) (oi := { dst := some 61, op := Op.load 3 (Operand.tmp 60), type := 3, pos := "ref.go:85", after := #[{ on := 16, ground := Ground.data }], guard := none }) (v := ?_) rfl (by kernel_rfl) (by kernel_rfl) (by kernel_rfl) (fun _ _ _ h => h) (Or.inl ⟨by rfl, ?_⟩) (by assumption) ?_
          rotate_left
          · (intro w hSw; (try dsimp only at hSw); first | (go_simp; done) | (go_simp; with_reducible rfl))
          try simp only [Act.put, List.setIfInBounds_toArray, List.set_cons_zero, List.set_cons_succ]
          refine wpAnyH_take (i := 18) (oi := { dst := some 62, op := Op.move (Operand.tmp 7), type := 72, pos := "ref.go:85", after := #[], guard := none }) (v := ?_) rfl (by kernel_rfl) (by kernel_rfl) (by kernel_rfl) (fun _ _ _ h => h) (Or.inl ⟨by rfl, ?_⟩) (by assumption) ?_
          rotate_left
          · (intro w hSw; (try dsimp only at hSw); first | (go_simp; done) | (go_simp; with_reducible rfl))
          try simp only [Act.put, List.setIfInBounds_toArray, List.set_cons_zero, List.set_cons_succ]
          refine wpAnyH_take (i := 19) (oi := { dst := some 63, op := Op.indexAddr 72 (Operand.tmp 62) (Operand.const (Value.int IntKind.i64 2)), type := 0, pos := "ref.go:85", after := #[{ on := 18, ground := Ground.data }], guard := none }) (v := ?_) rfl (by kernel_rfl) (by kernel_rfl) (by kernel_rfl) (fun _ _ _ h => h) (Or.inl ⟨by rfl, ?_⟩) (by assumption) ?_
          rotate_left
          · (intro w hSw; (try dsimp only at hSw); first | (go_simp; done) | (go_simp; with_reducible rfl))
          try simp only [Act.put, List.setIfInBounds_toArray, List.set_cons_zero, List.set_cons_succ]
          refine wpAnyH_take (i := 20) (oi := { dst := some 64, op := Op.load 3 (Operand.tmp 63), type := 3, pos := "ref.go:85", after := #[{ on := 19, ground := Ground.data }], guard := none }) (v := ?_) rfl (by kernel_rfl) (by kernel_rfl) (by kernel_rfl) (fun _ _ _ h => h) (Or.inl ⟨by rfl, ?_⟩) (by assumption) ?_
          rotate_left
          · (intro w hSw; (try dsimp only at hSw); first | (go_simp; done) | (go_simp; with_reducible rfl))
          try simp only [Act.put, List.setIfInBounds_toArray, List.set_cons_zero, List.set_cons_succ]
          refine wpAnyH_take (i := 21) (oi := { dst := some 65, op := Op.binOp BinOp.add 3 (Operand.tmp 61) (Operand.tmp 64) 3, type := 3, pos := "ref.go:85", after := #[{ on := 17, ground := Ground.data }, { on := 20, ground := Ground.data }], guard := none }) (v := ?_) rfl (by kernel_rfl) (by kernel_rfl) (by kernel_rfl) (fun _ _ _ h => h) (Or.inl ⟨by rfl, ?_⟩) (by assumption) ?_
          rotate_left
          · (intro w hSw; (try dsimp only at hSw); first | (go_simp; done) | (go_simp; with_reducible rfl))
          try simp only [Act.put, List.setIfInBounds_toArray, List.set_cons_zero, List.set_cons_succ]
          refine wpAnyH_take (i := 22) (oi := { dst := some 66, op := Op.slice 9 (Operand.tmp 55) (some (Operand.tmp 58)) (some (Operand.tmp 65)) none, type := 9, pos := "ref.go:85", after := #[{ on := 11, ground := Ground.data }, { on := 14, ground := Ground.data }, { on := 21, ground := Ground.data }], guard := none }) (v := ?_) rfl (by kernel_rfl) (by kernel_rfl) (by kernel_rfl) (fun _ _ _ h => h) (Or.inl ⟨by rfl, ?_⟩) (by assumption) ?_
          rotate_left
          · (intro w hSw; (try dsimp only at hSw); first | (go_simp; done) | (go_simp; with_reducible rfl))
          try simp only [Act.put, List.setIfInBounds_toArray, List.set_cons_zero, List.set_cons_succ]
          refine wpAnyH_take (i := 23) (oi := { dst := some 67, op := Op.build 54 #[(0, Operand.tmp 54), (1, Operand.tmp 66)], type := 54, pos := "ref.go:85", after := #[{ on := 10, ground := Ground.data }, { on := 22, ground := Ground.data }], guard := none }) (v := ?_) rfl (by kernel_rfl) (by kernel_rfl) (by kernel_rfl) (fun _ _ _ h => h) (Or.inl ⟨by rfl, ?_⟩) (by assumption) ?_
          rotate_left
          · (intro w hSw; (try dsimp only at hSw); first | (go_simp; done) | (go_simp; with_reducible rfl))
          try simp only [Act.put, List.setIfInBounds_toArray, List.set_cons_zero, List.set_cons_succ]
          refine wpAnyH_ready (rs := [24]) (by kernel_rfl) (by simp) ?_
          refine AllReadyH.cons (o := { dst := some 10, op := Op.alloc 54, type := 0, pos := "ref.go:85", after := #[], guard := none }) rfl (fun K hK => ?_) AllReadyH.nil
          go_simp
          generalize (last.extract 0 a ++ xb.extract 0 b : ByteArray) = kb at *
          generalize xb.extract b (b + c) = vb at *
          have m0 : (w2.alloc (.cells #[.string ⟨#[]⟩, .string ⟨#[]⟩] 54)).drew.cell? ⟨w2.heap.size, 0, none⟩ = some (.string ⟨#[]⟩) := (World.cell?_alloc_new ..).trans (by simp)
          have m1 : (w2.alloc (.cells #[.string ⟨#[]⟩, .string ⟨#[]⟩] 54)).drew.cell? ⟨w2.heap.size, 1, none⟩ = some (.string ⟨#[]⟩) := (World.cell?_alloc_new ..).trans (by simp)
          have f0 : (w2.alloc (.cells #[.string ⟨#[]⟩, .string ⟨#[]⟩] 54)).drew.frozen? ⟨w2.heap.size, 0, none⟩ = false := by go_simp
          have f1 : (w2.alloc (.cells #[.string ⟨#[]⟩, .string ⟨#[]⟩] 54)).drew.frozen? ⟨w2.heap.size, 1, none⟩ = false := by go_simp
          have hBn : Bel w2 (w2.alloc (.cells #[.string ⟨#[]⟩, .string ⟨#[]⟩] 54)).drew := ((Bel.refl w2).alloc _).drew
          have p0 := cell_later hBn n0'
          have p1 := cell_later hBn n1'
          have p2 := cell_later hBn n2'
          have HB3 := Lib.hid (HB1.out.trans hBn)
          have HO3 := Lib.hid (HO1.out.bel hBn)
          refine hK.out _ _ ⟨p0, p1, p2⟩ (fun hHeld => ?_)
          clear hK K hBn
          try simp only [Act.put, List.setIfInBounds_toArray, List.set_cons_zero, List.set_cons_succ]
          generalize (w2.alloc (.cells #[.string ⟨#[]⟩, .string ⟨#[]⟩] 54)).drew = w3 at *
          obtain ⟨X, hX⟩ : ∃ X, w2.heap.size = X := ⟨_, rfl⟩
          rw [hX] at m0 m1 f0 f1 hg ⊢
          have hXw : w.heap.size ≤ X := by omega
          have hXX : wr.heap.size ≤ X ∨ True := Or.inr trivial
          refine wpAnyH_ready (rs := [25]) (by kernel_rfl) (by simp) ?_
          refine AllReadyH.cons (o := { dst := none, op := Op.store 54 (Operand.tmp 10) (Operand.tmp 67), type := 0, pos := "ref.go:85", after := #[{ on := 24, ground := Ground.data }, { on := 23, ground := Ground.data }, { on := 0, ground := Ground.phase }, { on := 1, ground := Ground.phase }, { on := 2, ground := Ground.phase }, { on := 3, ground := Ground.phase }, { on := 4, ground := Ground.phase }, { on := 5, ground := Ground.phase }, { on := 6, ground := Ground.phase }, { on := 7, ground := Ground.phase }, { on := 8, ground := Ground.phase }, { on := 9, ground := Ground.phase }, { on := 10, ground := Ground.phase }, { on := 11, ground := Ground.phase }, { on := 12, ground := Ground.phase }, { on := 13, ground := Ground.phase }, { on := 14, ground := Ground.phase }, { on := 15, ground := Ground.phase }, { on := 16, ground := Ground.phase }, { on := 17, ground := Ground.phase }, { on := 18, ground := Ground.phase }, { on := 19, ground := Ground.phase }, { on := 20, ground := Ground.phase }, { on := 21, ground := Ground.phase }, { on := 22, ground := Ground.phase }, { on := 23, ground := Ground.phase }, { on := 24, ground := Ground.phase }], guard := none }) rfl (fun K hK => ?_) AllReadyH.nil
          go_simp
          have hks : Keep [X] w3 ((w3.setCell ⟨X, 0, none⟩ (.string kb)).setCell ⟨X, 1, none⟩ (.string vb)) := ((Keep.refl [X] w3).setCell (p := ⟨X, 0, none⟩) (Or.inl (by simp)) _).setCell (p := ⟨X, 1, none⟩) (Or.inl (by simp)) _
          have q0 : ((w3.setCell ⟨X, 0, none⟩ (.string kb)).setCell ⟨X, 1, none⟩ (.string vb)).cell? ⟨X, 0, none⟩ = some (.string kb) := by
            rw [World.cell?_setCell_other _ _ _ _ (by intro e; simp at e)]; exact World.cell?_setCell_same _ _ _ m0
          have q1 : ((w3.setCell ⟨X, 0, none⟩ (.string kb)).setCell ⟨X, 1, none⟩ (.string vb)).cell? ⟨X, 1, none⟩ = some (.string vb) :=
            World.cell?_setCell_same _ _ _ (u := .string ⟨#[]⟩) (by rw [World.cell?_setCell_other _ _ _ _ (by intro e; simp at e)]; exact m1)
          have hgX : g ∉ [X] := by rw [List.mem_singleton]; omega
          have r0 := hks.cell (p := ⟨g, 0, none⟩) p0 hgX
          have r1 := hks.cell (p := ⟨g, 1, none⟩) p1 hgX
          have r2 := hks.cell (p := ⟨g, 2, none⟩) p2 hgX
          have HO4 := Lib.hid (HO3.out.keep hks (fun k hk hm => by rw [List.mem_singleton] at hm; have := hlp k hk; omega))
          have HB4 := Lib.hid (HB3.out.trans_below (hks.below (n := w.heap.size) (by have := HB3.out.size; omega) (by simpa using hXw)))
          refine hK.out _ _ ⟨r0, r1, r2⟩ (fun hHeld => ?_)
          clear hK K hks m0 m1 f0 f1 p0 p1 p2
          try simp only [Act.put, List.setIfInBounds_toArray, List.set_cons_zero, List.set_cons_succ]
          generalize ((w3.setCell ⟨X, 0, none⟩ (.string kb)).setCell ⟨X, 1, none⟩ (.string vb)) = w4 at *
          refine wpAnyH_done (by kernel_rfl) ?_ _
          have hz4 : w.heap.size ≤ w4.heap.size := HB4.out.size
          have HQ := Lib.hid (show rpairEl.all [PB.mk kb vb] = [.string kb, .string vb] from rfl)
          go_wp2_with (at_builtin; refine stop_here ?_)
          refine go_on ?_
          refine append_all rpairOk rfl _ _ rfl rfl (HO4.out.alloc _) [PB.mk kb vb] rfl (src_at [PB.mk kb vb] (heap_alloc_new w4 _) HQ.out.symm rfl) (by simp only [List.length_singleton]; unfold maxLen; omega) (by simp only [List.length_singleton]; omega) (by rw [World.size_alloc]; omega) ?_
          intro v5 w5 ho5 hk5 hv5
          have hx4 : X < w4.heap.size := block_of_cell q0
          have hg4 : g < w4.heap.size := block_of_cell r0
          have hnX : X ∉ (Value.slice lp acc.length lcap).ownBlock.toList := by
            intro hm; rw [Option.mem_toList] at hm; have := hlp X hm; omega
          have hng : g ∉ (Value.slice lp acc.length lcap).ownBlock.toList := by
            intro hm; rw [Option.mem_toList] at hm; have := hlp g hm; omega
          have t0 := hk5.cell (p := ⟨X, 0, none⟩) (cell_later ((Bel.refl w4).alloc _) q0) hnX
          have u1 := hk5.cell (p := ⟨g, 1, none⟩) (cell_later ((Bel.refl w4).alloc _) r1) hng
          have u2 := hk5.cell (p := ⟨g, 2, none⟩) (cell_later ((Bel.refl w4).alloc _) r2) hng
          have HB5 := Lib.hid ((HB4.out.alloc _).trans_below (hk5.own (by rw [World.size_alloc]; omega) (fun k hk => (HO4.out.lt k hk).1)))
          have HO5 := Lib.hid ho5
          clear ho5 hk5 hv5 q0 q1 r0 r1 r2
          go_wp2_with (fail)
          go_quiet (fail)
          go_wp2_with (fail)
          go_roundw
          case rel =>
            refine ⟨acc ++ [PB.mk kb vb], kb, xb.extract (b + c) xb.size, rfl, rfl, by rw [hkz, hrz]; omega, by rw [hrz, List.length_append, List.length_singleton]; omega, smallP_snoc HSM.out (by show kb.size ≤ _; omega) (by show vb.size ≤ _; omega), HO5.out.drewN _, ?_, HB5.out.drewN _⟩
            rw [HST.out, prs_app, HRR.out, show prs [PB.mk kb vb] = [PR.mk kb.data.toList vb.data.toList] from rfl, HK.out, HVV.out]
          case measure => simp only [sizeOfS]; rw [hrz]; omega
        · have HF := Lib.hid (readAll_none (parse_stop (by omega) HP.out (parse_not hnl h4 (by rw [hll, hxl]; exact hfit))))
          clear h4 hnl hxb
          by_cases hfa : a ≤ last.size
          · have i1 : (a : Int) ≤ (last.size : Int) := by omega
            have i2 : ¬ (b : Int) + (c : Int) ≤ (xb.size : Int) := by omega
            go_wp2_with (fail)
            go_quiet (fail)
            go_wp2_with (fail)
            go_ret2
            exact ⟨_, [], by rw [HF.out]; rfl, OwnG.nil _ _ _, by rw [HF.out]; rfl, fun i h => by simp at h, by simp, HB1.out.drewN _⟩
          · have i1 : ¬ (a : Int) ≤ (last.size : Int) := by omega
            go_wp2_with (fail)
            go_quiet (fail)
            go_wp2_with (fail)
            go_ret2
            exact ⟨_, [], by rw [HF.out]; rfl, OwnG.nil _ _ _, by rw [HF.out]; rfl, fun i h => by simp at h, by simp, HB1.out.drewN _⟩
end Go.Proofs.Ytldkpomkgmilbaa
