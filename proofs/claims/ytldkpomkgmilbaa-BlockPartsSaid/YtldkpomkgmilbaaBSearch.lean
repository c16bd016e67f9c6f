/- block.search, whatever pairs are wanted. -/
import Derived.Test.YtldkpomkgmilbaaBFirst
import Derived.Test.YtldkpomkgmilbaaBOwn
set_option linter.unusedSimpArgs false
set_option linter.unusedVariables false
namespace Go.Proofs.Ytldkpomkgmilbaa
open Go.RowKit Go.Deep

/-- What a search answers. -/
def searchL (s : List UInt8) (f : List UInt8 → Bool) : List PR × Int :=
  match readL s with
  | none => ([], 8)
  | some M => (M.filter (fun p => f p.k), 0)
theorem search_none {s : List UInt8} {f : List UInt8 → Bool} (h : readL s = none) : searchL s f = ([], 8) := by unfold searchL; rw [h]
theorem search_some {s : List UInt8} {f : List UInt8 → Bool} {M : List PR} (h : readL s = some M) : searchL s f = (M.filter (fun p => f p.k), 0) := by unfold searchL; rw [h]
def SearchPost (s : List UInt8) (f : List UInt8 → Bool) (w : World) (e : Ending) (w' : World) : Prop :=
  ∃ v L, e = .returned (.tuple #[v, .int .i64 (searchL s f).2]) ∧ OwnG pairEl w.heap.size w' v L ∧ prs L = (searchL s f).1 ∧ Bel w w'
def SearchRel (s : ByteArray) (f : List UInt8 → Bool) (w : World) (lv kv sv : Value) (x : World) : Prop :=
  ∃ (pre : List PR) (acc : List PB) (key : List UInt8) (r : ByteArray), sv = .string r ∧ key.length + r.size ≤ s.size ∧ acc.length + r.size ≤ s.size ∧ OwnG pairEl w.heap.size x lv acc ∧ Own w.heap.size x kv key ∧
    prs acc = pre.filter (fun p => f p.k) ∧ readL s.data.toList = (readW key (decide (r.size = s.size)) r.data.toList).map (fun l => pre ++ l) ∧ Bel w x
theorem own_apart_b {β : Type} {R : El β} {n m : Nat} {x : World} {v u : Value} {l : List UInt8} {M : List β} (h : Own n x v l) (h' : OwnG R m x u M) (hne : R.T ≠ 5) : ∀ k, v.ownBlock = some k → u.ownBlock ≠ some k := by
  intro k hk hu
  rcases h.2 with ⟨rfl, _⟩ | ⟨g, cap, cur, rfl, _, hg, _⟩
  · cases hk
  · rcases h'.2 with ⟨rfl, _⟩ | ⟨g', cap', cur', rfl, _, hg', _⟩
    · cases hu
    · simp only [Value.ownBlock, Option.some.injEq] at hk hu
      subst hk
      subst hu
      rw [hg] at hg'
      simp only [Option.some.injEq, Obj.cells.injEq] at hg'
      exact hne hg'.2.1.symm
theorem ne_nil (r : ByteArray) (h : r.size ≠ 0) : r.data.toList ≠ [] := by
  intro e
  have : r.data.toList.length = 0 := by rw [e]; rfl
  exact h this
def sizeOfS : Value → Nat
  | .string s => s.size
  | _ => 0
theorem search_stop {s : ByteArray} {key : List UInt8} {fst : Bool} {r : List UInt8} {pre : List PR} (h : readL s.data.toList = (readW key fst r).map (fun l => pre ++ l)) (hn : readW key fst r = none) : readL s.data.toList = none := by rw [h, hn]; rfl
theorem search_step {s : ByteArray} {key : List UInt8} {fst : Bool} {r : List UInt8} {pre : List PR} {a : Nat} {rest v x : List UInt8} (h : readL s.data.toList = (readW key fst r).map (fun l => pre ++ l)) (hr : r ≠ []) (hq : firstL r = some (a, rest, v, x)) (hf : followsB a rest key fst = true) :
    readL s.data.toList = (readW (key.take a ++ rest) false x).map (fun l => (pre ++ [⟨key.take a ++ rest, v⟩]) ++ l) := by
  rw [h, readW_next hr hq hf, Option.map_map]
  congr 1
  funext l
  simp

theorem first_lt {s : List UInt8} {a : Nat} {rest v x : List UInt8} (h : firstL s = some (a, rest, v, x)) : a < 18446744073709551616 := by
  unfold firstL at h
  split at h
  · simp at h
  · next b c r ht =>
    split at h
    · simp only [Option.some.injEq, Prod.mk.injEq] at h
      obtain ⟨rfl, -⟩ := h
      exact (three_lt ht).1
    · simp at h
theorem follows_le {a : Nat} {rest key : List UInt8} {fst : Bool} (h : followsB a rest key fst = true) : a ≤ key.length := by
  unfold followsB at h
  split at h
  · cases h
  · omega
theorem follows_at (a : Nat) (rest v : ByteArray) (kv : Value) (key l : List UInt8) (fst : Bool) (n : Nat) (w : World) (ha : a < 18446744073709551616) (hk : key.length ≤ 1000000) (hr : rest.size ≤ 1000000) (h : Own n w kv key) (hl : rest.data.toList = l) :
    Calls Try.prog 44 #[.agg #[.int .u64 a, .string rest, .string v], kv, .bool fst] w fun e w' => e = .returned (.bool (followsB a l key fst)) ∧ Bel w w' := by
  subst hl; exact follows_any a rest v kv key fst n w ha hk hr h

set_option maxHeartbeats 4000000 in
set_option maxRecDepth 20000 in
theorem search_any (s : ByteArray) (f : List UInt8 → Bool) (g : Nat) (lb : Array Value) (w : World) (hs : s.size ≤ 1000000)
    (hcall : ∀ (kv : Value) (x : World), (callFunc g (#[kv] ++ lb)).run Try.prog x = .ok (.enter g (#[kv] ++ lb)) x)
    (hc : ∀ (kv : Value) (key : List UInt8) (x : World), Bel w x → Own w.heap.size x kv key → key.length ≤ 1000000 → Calls Try.prog g (#[kv] ++ lb) x fun e w' => e = .returned (.bool (f key)) ∧ Bel x w') :
    Calls Try.prog 34 #[.string s, .func (.func g) #[] lb] w (SearchPost s.data.toList f w) := by
  have HC := Lib.hid hc; clear hc
  go_enter Try.func34, Try.ntmps34
  go_wp2_with (fail)
  go_loopw [6, 7, 8] (fun lv kv sv x => SearchRel s f w lv kv sv x) (fun _ _ sv _ => sizeOfS sv)
  case atStart => exact ⟨[], [], [], s, rfl, by simp, by simp, OwnG.nil _ _ _, Own.nil _ _, rfl, by simp [readL], Bel.refl w⟩
  case round =>
    obtain ⟨pre, acc, key, r, rfl, hkr, hal, hown, hkey, hacc, hread, hb⟩ := hrel
    obtain ⟨lp, lcap, rfl⟩ := ownG_len hown
    obtain ⟨kp, kcap, rfl, hkc, -, hkn⟩ := own_len hkey
    have HO := Lib.hid hown
    have HKO := Lib.hid hkey
    have HA := Lib.hid hacc
    have HR := Lib.hid hread
    have HB := Lib.hid hb
    have hwz := hb.size
    clear hown hkey hacc hread hb
    by_cases hr0 : r.size = 0
    · obtain rfl : r = ⟨#[]⟩ := by apply ByteArray.ext; exact Array.eq_empty_of_size_eq_zero hr0
      have HF := Lib.hid (search_some (f := f) (show readL s.data.toList = some pre by
        rw [HR.out, show (⟨#[]⟩ : ByteArray).data.toList = [] from rfl, readW_nil]; simp))
      go_wp2_with (fail)
      go_ret2
      exact ⟨_, acc, by rw [HF.out]; rfl, HO.out, by rw [HF.out]; exact HA.out, HB.out⟩
    · have hnl := ne_nil r hr0
      have hne : r.toList.isEmpty = false := by rw [ByteArray.toList_eq]; cases h : r.data.toList with | nil => exact absurd h hnl | cons a l => rfl
      have hfst : ((r.size : Int) == (s.size : Int)) = decide (r.size = s.size) := by
        by_cases e : r.size = s.size
        · rw [decide_eq_true e, beq_iff_eq]; omega
        · rw [decide_eq_false e, beq_eq_false_iff_ne]; omega
      cases hq : firstL r.data.toList with
      | none =>
        have HF := Lib.hid (search_none (f := f) (search_stop HR.out (readW_none hnl hq)))
        have HV := Lib.hid (firstV_none hq)
        clear hq hnl
        go_wp2_with (fail)
        refine (first_any r _ (by omega)).mono ?_
        rintro e w1 ⟨rfl, hb1⟩
        rw [HV.out]
        have HB1 := Lib.hid (HB.out.trans hb1); clear hb1
        go_wp2_with (fail)
        go_ret2
        exact ⟨_, [], by rw [HF.out]; rfl, OwnG.nil _ _ _, by rw [HF.out]; rfl, by first | exact HB1.out | exact HB1.out.alloc _⟩
      | some q =>
        obtain ⟨a, rest, v, x⟩ := q
        have hle := first_less hq
        have ha64 := first_lt hq
        have hrl : r.data.toList.length = r.size := rfl
        rw [hrl] at hle
        have HV := Lib.hid (firstV_some hq)
        have hrz := mk_size rest
        have hvz := mk_size v
        have hxz := mk_size x
        cases hf : followsB a rest key (decide (r.size = s.size)) with
        | false =>
          have HF := Lib.hid (search_none (f := f) (search_stop HR.out (readW_not hnl hq hf)))
          have HFW := Lib.hid (fun z (hz : Bel wr z) => follows_at a ⟨rest.toArray⟩ ⟨v.toArray⟩ (.slice kp key.length kcap) key rest (decide (r.size = s.size)) w.heap.size z ha64 (by omega) (by rw [mk_size]; omega) (HKO.out.bel hz) (by simp))
          rw [hf] at HFW
          clear hq hnl hf
          go_wp2_with (fail)
          refine (first_any r _ (by omega)).mono ?_
          rintro e w1 ⟨rfl, hb1⟩
          rw [HV.out]
          have HB1 := Lib.hid (HB.out.trans hb1)
          have HB1r := Lib.hid hb1; clear hb1
          go_wp2_with (fail)
          refine (HFW.out _ (HB1r.out.alloc _)).mono ?_
          rintro e w2 ⟨rfl, hb2⟩
          have HB2 := Lib.hid ((HB1.out.alloc _).trans hb2); clear hb2
          go_wp2_with (fail)
          go_ret2
          exact ⟨_, [], by rw [HF.out]; rfl, OwnG.nil _ _ _, by rw [HF.out]; rfl, HB2.out⟩
        | true =>
          have HST := Lib.hid (search_step HR.out hnl hq hf)
          have hak := follows_le hf
          have HFW := Lib.hid (fun z (hz : Bel wr z) => follows_at a ⟨rest.toArray⟩ ⟨v.toArray⟩ (.slice kp key.length kcap) key rest (decide (r.size = s.size)) w.heap.size z ha64 (by omega) (by rw [mk_size]; omega) (HKO.out.bel hz) (by simp))
          rw [hf] at HFW
          clear hq hnl hf
          go_wp2_with (fail)
          refine (first_any r _ (by omega)).mono ?_
          rintro e w1 ⟨rfl, hb1⟩
          rw [HV.out]
          have HB1 := Lib.hid (HB.out.trans hb1)
          have HB1r := Lib.hid hb1; clear hb1
          go_wp2_with (fail)
          refine (HFW.out _ (HB1r.out.alloc _)).mono ?_
          rintro e w2 ⟨rfl, hb2⟩
          have d0 := cell_later hb2 (show (w1.alloc (.cells #[.int .u64 a, .string ⟨rest.toArray⟩, .string ⟨v.toArray⟩] 79)).cell? ⟨w1.heap.size, 0, none⟩ = some (.int .u64 a) from (World.cell?_alloc_new ..).trans (by simp))
          have d1 := cell_later hb2 (show (w1.alloc (.cells #[.int .u64 a, .string ⟨rest.toArray⟩, .string ⟨v.toArray⟩] 79)).cell? ⟨w1.heap.size, 1, none⟩ = some (.string ⟨rest.toArray⟩) from (World.cell?_alloc_new ..).trans (by simp))
          have d2 := cell_later hb2 (show (w1.alloc (.cells #[.int .u64 a, .string ⟨rest.toArray⟩, .string ⟨v.toArray⟩] 79)).cell? ⟨w1.heap.size, 2, none⟩ = some (.string ⟨v.toArray⟩) from (World.cell?_alloc_new ..).trans (by simp))
          have HB2r := Lib.hid ((HB1r.out.alloc _).trans hb2)
          have HB2 := Lib.hid (HB.out.trans HB2r.out)
          have hX : wr.heap.size ≤ w1.heap.size := HB1r.out.size
          have hX2 : w1.heap.size < w2.heap.size := block_of_cell d0
          clear hb2
          generalize w1.heap.size = X at *
          go_wp2_with (fail)
          refine wp_region_held_drew (S := fun z => z.cell? ⟨X, 0, none⟩ = some (.int .u64 a) ∧ z.cell? ⟨X, 1, none⟩ = some (.string ⟨rest.toArray⟩) ∧ z.cell? ⟨X, 2, none⟩ = some (.string ⟨v.toArray⟩)) (by kernel_rfl) ⟨d0, d1, d2⟩ (fun hHeld => ?_)
          have HO2 := Lib.hid (HKO.out.bel HB2r.out)
          have hcx : ∀ k, (Value.slice kp key.length kcap).ownBlock = some k → k < wr.heap.size := fun k hk => (HKO.out.lt k hk).2
          have hac : a ≤ kcap := by omega
          have HO3 := Lib.hid (own_first HO2.out a hak)
          have hwz2 := HB2.out.size
          cases kp with
          | none =>
            obtain ⟨k1, k2⟩ := hkn rfl
            have a0 : a = 0 := by omega
            subst a0
            subst k2
            rw [k1] at *
            obtain ⟨key2, hkey2⟩ : ∃ key2, key.take 0 ++ rest = key2 := ⟨_, rfl⟩
            have hk2l : key2.length ≤ 0 + rest.length := by rw [← hkey2, List.length_append]; have := List.length_take_le 0 key; omega
            rw [hkey2] at HST
            refine wpAnyH_take (i := 0) (oi := { dst := some 34, op := Op.move (Operand.tmp 7), type := 57, pos := "search.go:26", after := #[], guard := none }) (v := ?_) rfl (by kernel_rfl) (by kernel_rfl) (by kernel_rfl) (fun _ _ _ h => h) (Or.inl ⟨by rfl, ?_⟩) (by assumption) ?_
            rotate_left
            · (intro w hSw; (try dsimp only at hSw); first | (go_simp; done) | (go_simp; with_reducible rfl))
            try simp only [Act.put, List.setIfInBounds_toArray, List.set_cons_zero, List.set_cons_succ]
            refine wpAnyH_take (i := 1) (oi := { dst := some 35, op := Op.fieldAddr 79 (Operand.tmp 9) 0, type := 0, pos := "search.go:26", after := #[], guard := none }) (v := ?_) rfl (by kernel_rfl) (by kernel_rfl) (by kernel_rfl) (fun _ _ _ h => h) (Or.inl ⟨by rfl, ?_⟩) (by assumption) ?_
            rotate_left
            · (intro w hSw; (try dsimp only at hSw); first | (go_simp; done) | (go_simp; with_reducible rfl))
            try simp only [Act.put, List.setIfInBounds_toArray, List.set_cons_zero, List.set_cons_succ]
            refine wpAnyH_take (i := 2) (oi := { dst := some 36, op := Op.load 77 (Operand.tmp 35), type := 77, pos := "search.go:26", after := #[{ on := 1, ground := Ground.data }], guard := none }) (v := ?_) rfl (by kernel_rfl) (by kernel_rfl) (by kernel_rfl) (fun _ _ _ h => h) (Or.inl ⟨by rfl, ?_⟩) (by assumption) ?_
            rotate_left
            · (intro w hSw; (try dsimp only at hSw); first | (go_simp; done) | (go_simp; with_reducible rfl))
            try simp only [Act.put, List.setIfInBounds_toArray, List.set_cons_zero, List.set_cons_succ]
            refine wpAnyH_take (i := 3) (oi := { dst := some 37, op := Op.slice 57 (Operand.tmp 34) none (some (Operand.tmp 36)) none, type := 57, pos := "search.go:26", after := #[{ on := 0, ground := Ground.data }, { on := 2, ground := Ground.data }], guard := none }) (v := ?_) rfl (by kernel_rfl) (by kernel_rfl) (by kernel_rfl) (fun _ _ _ h => h) (Or.inl ⟨by rfl, ?_⟩) (by assumption) ?_
            rotate_left
            · (intro w hSw; (try dsimp only at hSw); first | (go_simp; done) | (go_simp; with_reducible rfl))
            try simp only [Act.put, List.setIfInBounds_toArray, List.set_cons_zero, List.set_cons_succ]
            refine wpAnyH_take (i := 4) (oi := { dst := some 38, op := Op.fieldAddr 79 (Operand.tmp 9) 1, type := 0, pos := "search.go:26", after := #[], guard := none }) (v := ?_) rfl (by kernel_rfl) (by kernel_rfl) (by kernel_rfl) (fun _ _ _ h => h) (Or.inl ⟨by rfl, ?_⟩) (by assumption) ?_
            rotate_left
            · (intro w hSw; (try dsimp only at hSw); first | (go_simp; done) | (go_simp; with_reducible rfl))
            try simp only [Act.put, List.setIfInBounds_toArray, List.set_cons_zero, List.set_cons_succ]
            refine wpAnyH_take (i := 5) (oi := { dst := some 39, op := Op.load 9 (Operand.tmp 38), type := 9, pos := "search.go:26", after := #[{ on := 4, ground := Ground.data }], guard := none }) (v := ?_) rfl (by kernel_rfl) (by kernel_rfl) (by kernel_rfl) (fun _ _ _ h => h) (Or.inl ⟨by rfl, ?_⟩) (by assumption) ?_
            rotate_left
            · (intro w hSw; (try dsimp only at hSw); first | (go_simp; done) | (go_simp; with_reducible rfl))
            try simp only [Act.put, List.setIfInBounds_toArray, List.set_cons_zero, List.set_cons_succ]
            refine wpAnyH_take (i := 7) (oi := { dst := some 41, op := Op.move (Operand.tmp 10), type := 9, pos := "search.go:26", after := #[{ on := 8, ground := Ground.gcOnly Departure.lateStores }], guard := none }) (v := ?_) rfl (by kernel_rfl) (by kernel_rfl) (by kernel_rfl) (fun _ _ _ h => h) (Or.inl ⟨by rfl, ?_⟩) (by assumption) ?_
            rotate_left
            · (intro w hSw; (try dsimp only at hSw); first | (go_simp; done) | (go_simp; with_reducible rfl))
            try simp only [Act.put, List.setIfInBounds_toArray, List.set_cons_zero, List.set_cons_succ]
            refine wpAnyH_ready (rs := [6]) (by kernel_rfl) (by simp) ?_
            refine AllReadyH.cons (o := { dst := some 40, op := Op.call { callee := Callee.builtin Builtin.append, args := #[Operand.tmp 37, Operand.tmp 39], argTypes := #[57, 9] }, type := 57, pos := "search.go:26", after := #[{ on := 3, ground := Ground.data }, { on := 5, ground := Ground.data }], guard := none }) rfl (fun K hK => ?_) AllReadyH.nil
            refine step_append_str (B := w.heap.size) (v := .slice none 0 0) (l := key.take 0) rfl (.tmp 37) (.tmp 39) rfl rfl rfl (HO3.out.drew) (by rw [hrz]; have := List.length_take_le 0 key; omega) (by show w.heap.size ≤ w2.heap.size; omega) ?_
            intro v4 w4 ho4 hk4 hv4
            rw [show (⟨rest.toArray⟩ : ByteArray).data.toList = rest by simp, hkey2] at ho4
            have hXn : X ∉ (Value.slice none 0 0).ownBlock.toList := by
              intro hm
              rw [Option.mem_toList] at hm
              have := hcx X hm; omega
            have e0 := hk4.cell (p := ⟨X, 0, none⟩) d0 hXn
            have e1 := hk4.cell (p := ⟨X, 1, none⟩) d1 hXn
            have e2 := hk4.cell (p := ⟨X, 2, none⟩) d2 hXn
            have HK4 := Lib.hid (show OwnG pairEl w.heap.size w4 (.slice lp acc.length lcap) acc from (HO.out.bel HB2r.out).drew.keep hk4 (fun k hk' hm => by
              rw [Option.mem_toList] at hm
              exact own_apart_b HO3.out (HO.out.bel HB2r.out) (by decide) k hm hk'))
            have HB4 := Lib.hid (HB2.out.drew.trans_below (hk4.own (by show w.heap.size ≤ w2.heap.size; omega) (fun k hk => (HO3.out.lt k hk).1)))
            have HKY := Lib.hid ho4
            obtain ⟨kp4, kcap4, rfl, -⟩ := own_len ho4
            clear ho4 hk4 hv4
            refine hK.out _ _ ⟨e0, e1, e2⟩ (fun hHeld => ?_)
            clear hK K
            try simp only [Act.put, List.setIfInBounds_toArray, List.set_cons_zero, List.set_cons_succ]
            refine wpAnyH_take (i := 8) (oi := { dst := some 7, op := Op.assign (Operand.tmp 40), type := 57, pos := "search.go:26", after := #[{ on := 6, ground := Ground.data }, { on := 6, ground := Ground.chain }, { on := 0, ground := Ground.phase }, { on := 1, ground := Ground.phase }, { on := 2, ground := Ground.phase }, { on := 3, ground := Ground.phase }, { on := 4, ground := Ground.phase }, { on := 5, ground := Ground.phase }, { on := 6, ground := Ground.phase }, { on := 7, ground := Ground.textOnly Departure.lateStores }], guard := none }) (v := ?_) rfl (by kernel_rfl) (by kernel_rfl) (by kernel_rfl) (fun _ _ _ h => h) (Or.inl ⟨by rfl, ?_⟩) (by assumption) ?_
            rotate_left
            · (intro w hSw; (try dsimp only at hSw); first | (go_simp; done) | (go_simp; with_reducible rfl))
            try simp only [Act.put, List.setIfInBounds_toArray, List.set_cons_zero, List.set_cons_succ]
            refine wpAnyH_take (i := 9) (oi := { dst := some 8, op := Op.assign (Operand.tmp 41), type := 9, pos := "search.go:26", after := #[{ on := 7, ground := Ground.data }, { on := 8, ground := Ground.chain }, { on := 0, ground := Ground.phase }, { on := 1, ground := Ground.phase }, { on := 2, ground := Ground.phase }, { on := 3, ground := Ground.phase }, { on := 4, ground := Ground.phase }, { on := 5, ground := Ground.phase }, { on := 6, ground := Ground.phase }, { on := 7, ground := Ground.phase }, { on := 8, ground := Ground.phase }], guard := none }) (v := ?_) rfl (by kernel_rfl) (by kernel_rfl) (by kernel_rfl) (fun _ _ _ h => h) (Or.inl ⟨by rfl, ?_⟩) (by assumption) ?_
            rotate_left
            · (intro w hSw; (try dsimp only at hSw); first | (go_simp; done) | (go_simp; with_reducible rfl))
            try simp only [Act.put, List.setIfInBounds_toArray, List.set_cons_zero, List.set_cons_succ]
            refine wpAnyH_done (by kernel_rfl) ?_ _
            have HCL := Lib.hid (HC.out (.slice kp4 key2.length kcap4) key2 w4 HB4.out HKY.out (by omega))
            have hcl := hcall (.slice kp4 key2.length kcap4) w4
            have HXS := Lib.hid (show decide ((⟨x.toArray⟩ : ByteArray).size = s.size) = false by rw [decide_eq_false_iff_not, hxz]; omega)
            clear hHeld
            go_wp2_with (fail)
            refine HCL.out.mono ?_
            rintro e w5 ⟨rfl, hb5⟩
            have HB5 := Lib.hid (HB4.out.trans hb5)
            have HK5 := Lib.hid (HK4.out.bel hb5)
            have HKY5 := Lib.hid (HKY.out.bel hb5)
            have g2 := cell_later hb5 e2
            have hcv := own_string HKY5.out
            clear hb5 hcl e0 e1 e2
            cases hw : f key2 with
            | false =>
              have HA2 := Lib.hid (show prs acc = (pre ++ [PR.mk key2 v]).filter (fun p => f p.k) by rw [List.filter_append, HA.out]; simp [hw])
              clear hw
              go_wp2_with (fail)
              go_roundw
              case rel => exact ⟨pre ++ [PR.mk key2 v], acc, key2, ⟨x.toArray⟩, rfl, by rw [hxz]; omega, by rw [hxz]; omega, HK5.out, HKY5.out, HA2.out, by rw [HXS.out]; simpa using HST.out, HB5.out⟩
              case measure => simp only [sizeOfS]; rw [hxz]; omega
            | true =>
              have HA2 := Lib.hid (show prs (acc ++ [bp (PR.mk key2 v)]) = (pre ++ [PR.mk key2 v]).filter (fun p => f p.k) by rw [prs_app, List.filter_append, HA.out, show prs [bp (PR.mk key2 v)] = [PR.mk key2 v] by simp [prs, pr_bp]]; simp [hw])
              clear hw
              have hz5 : w.heap.size ≤ w5.heap.size := HB5.out.size
              go_wp2_with (at_builtin; refine stop_here ?_)
              refine go_on ?_
              refine append_all pairOk rfl _ _ rfl rfl (HK5.out.alloc _) [bp (PR.mk key2 v)] rfl (src_at [bp (PR.mk key2 v)] (heap_alloc_new w5 _) rfl rfl) (by simp only [List.length_singleton]; unfold maxLen; omega) (by simp only [List.length_singleton]; omega) (by rw [World.size_alloc]; omega) ?_
              intro v6 w6 ho6 hk6 hv6
              have HB6 := Lib.hid ((HB5.out.alloc _).trans_below (hk6.own (by rw [World.size_alloc]; omega) (fun k hk => (HK5.out.lt k hk).1)))
              have HKY6 := Lib.hid ((HKY5.out.alloc _).keep hk6 (fun k hk' hm => by
                rw [Option.mem_toList] at hm
                exact own_apart_b HKY5.out HK5.out (by decide) k hk' hm))
              have HK6 := Lib.hid ho6
              clear ho6 hk6 hv6
              go_wp2_with (fail)
              go_roundw
              case rel => exact ⟨pre ++ [PR.mk key2 v], acc ++ [bp (PR.mk key2 v)], key2, ⟨x.toArray⟩, rfl, by rw [hxz]; omega, by rw [hxz, List.length_append, List.length_singleton]; omega, HK6.out, HKY6.out, HA2.out, by rw [HXS.out]; simpa using HST.out, HB6.out⟩
              case measure => simp only [sizeOfS]; rw [hxz]; omega

          | some kad =>
            obtain ⟨key2, hkey2⟩ : ∃ key2, key.take a ++ rest = key2 := ⟨_, rfl⟩
            have hk2l : key2.length ≤ a + rest.length := by rw [← hkey2, List.length_append]; have := List.length_take_le a key; omega
            rw [hkey2] at HST
            refine wpAnyH_take (i := 0) (oi := { dst := some 34, op := Op.move (Operand.tmp 7), type := 57, pos := "search.go:26", after := #[], guard := none }) (v := ?_) rfl (by kernel_rfl) (by kernel_rfl) (by kernel_rfl) (fun _ _ _ h => h) (Or.inl ⟨by rfl, ?_⟩) (by assumption) ?_
            rotate_left
            · (intro w hSw; (try dsimp only at hSw); first | (go_simp; done) | (go_simp; with_reducible rfl))
            try simp only [Act.put, List.setIfInBounds_toArray, List.set_cons_zero, List.set_cons_succ]
            refine wpAnyH_take (i := 1) (oi := { dst := some 35, op := Op.fieldAddr 79 (Operand.tmp 9) 0, type := 0, pos := "search.go:26", after := #[], guard := none }) (v := ?_) rfl (by kernel_rfl) (by kernel_rfl) (by kernel_rfl) (fun _ _ _ h => h) (Or.inl ⟨by rfl, ?_⟩) (by assumption) ?_
            rotate_left
            · (intro w hSw; (try dsimp only at hSw); first | (go_simp; done) | (go_simp; with_reducible rfl))
            try simp only [Act.put, List.setIfInBounds_toArray, List.set_cons_zero, List.set_cons_succ]
            refine wpAnyH_take (i := 2) (oi := { dst := some 36, op := Op.load 77 (Operand.tmp 35), type := 77, pos := "search.go:26", after := #[{ on := 1, ground := Ground.data }], guard := none }) (v := ?_) rfl (by kernel_rfl) (by kernel_rfl) (by kernel_rfl) (fun _ _ _ h => h) (Or.inl ⟨by rfl, ?_⟩) (by assumption) ?_
            rotate_left
            · (intro w hSw; (try dsimp only at hSw); first | (go_simp; done) | (go_simp; with_reducible rfl))
            try simp only [Act.put, List.setIfInBounds_toArray, List.set_cons_zero, List.set_cons_succ]
            refine wpAnyH_take (i := 3) (oi := { dst := some 37, op := Op.slice 57 (Operand.tmp 34) none (some (Operand.tmp 36)) none, type := 57, pos := "search.go:26", after := #[{ on := 0, ground := Ground.data }, { on := 2, ground := Ground.data }], guard := none }) (v := ?_) rfl (by kernel_rfl) (by kernel_rfl) (by kernel_rfl) (fun _ _ _ h => h) (Or.inl ⟨by rfl, ?_⟩) (by assumption) ?_
            rotate_left
            · (intro w hSw; (try dsimp only at hSw); first | (go_simp; done) | (go_simp; with_reducible rfl))
            try simp only [Act.put, List.setIfInBounds_toArray, List.set_cons_zero, List.set_cons_succ]
            refine wpAnyH_take (i := 4) (oi := { dst := some 38, op := Op.fieldAddr 79 (Operand.tmp 9) 1, type := 0, pos := "search.go:26", after := #[], guard := none }) (v := ?_) rfl (by kernel_rfl) (by kernel_rfl) (by kernel_rfl) (fun _ _ _ h => h) (Or.inl ⟨by rfl, ?_⟩) (by assumption) ?_
            rotate_left
            · (intro w hSw; (try dsimp only at hSw); first | (go_simp; done) | (go_simp; with_reducible rfl))
            try simp only [Act.put, List.setIfInBounds_toArray, List.set_cons_zero, List.set_cons_succ]
            refine wpAnyH_take (i := 5) (oi := { dst := some 39, op := Op.load 9 (Operand.tmp 38), type := 9, pos := "search.go:26", after := #[{ on := 4, ground := Ground.data }], guard := none }) (v := ?_) rfl (by kernel_rfl) (by kernel_rfl) (by kernel_rfl) (fun _ _ _ h => h) (Or.inl ⟨by rfl, ?_⟩) (by assumption) ?_
            rotate_left
            · (intro w hSw; (try dsimp only at hSw); first | (go_simp; done) | (go_simp; with_reducible rfl))
            try simp only [Act.put, List.setIfInBounds_toArray, List.set_cons_zero, List.set_cons_succ]
            refine wpAnyH_take (i := 7) (oi := { dst := some 41, op := Op.move (Operand.tmp 10), type := 9, pos := "search.go:26", after := #[{ on := 8, ground := Ground.gcOnly Departure.lateStores }], guard := none }) (v := ?_) rfl (by kernel_rfl) (by kernel_rfl) (by kernel_rfl) (fun _ _ _ h => h) (Or.inl ⟨by rfl, ?_⟩) (by assumption) ?_
            rotate_left
            · (intro w hSw; (try dsimp only at hSw); first | (go_simp; done) | (go_simp; with_reducible rfl))
            try simp only [Act.put, List.setIfInBounds_toArray, List.set_cons_zero, List.set_cons_succ]
            refine wpAnyH_ready (rs := [6]) (by kernel_rfl) (by simp) ?_
            refine AllReadyH.cons (o := { dst := some 40, op := Op.call { callee := Callee.builtin Builtin.append, args := #[Operand.tmp 37, Operand.tmp 39], argTypes := #[57, 9] }, type := 57, pos := "search.go:26", after := #[{ on := 3, ground := Ground.data }, { on := 5, ground := Ground.data }], guard := none }) rfl (fun K hK => ?_) AllReadyH.nil
            refine step_append_str (B := w.heap.size) (v := .slice (some kad) a kcap) (l := key.take a) rfl (.tmp 37) (.tmp 39) rfl rfl rfl (HO3.out.drew) (by rw [hrz]; have := List.length_take_le a key; omega) (by show w.heap.size ≤ w2.heap.size; omega) ?_
            intro v4 w4 ho4 hk4 hv4
            rw [show (⟨rest.toArray⟩ : ByteArray).data.toList = rest by simp, hkey2] at ho4
            have hXn : X ∉ (Value.slice (some kad) a kcap).ownBlock.toList := by
              intro hm
              rw [Option.mem_toList] at hm
              have := hcx X hm; omega
            have e0 := hk4.cell (p := ⟨X, 0, none⟩) d0 hXn
            have e1 := hk4.cell (p := ⟨X, 1, none⟩) d1 hXn
            have e2 := hk4.cell (p := ⟨X, 2, none⟩) d2 hXn
            have HK4 := Lib.hid (show OwnG pairEl w.heap.size w4 (.slice lp acc.length lcap) acc from (HO.out.bel HB2r.out).drew.keep hk4 (fun k hk' hm => by
              rw [Option.mem_toList] at hm
              exact own_apart_b HO3.out (HO.out.bel HB2r.out) (by decide) k hm hk'))
            have HB4 := Lib.hid (HB2.out.drew.trans_below (hk4.own (by show w.heap.size ≤ w2.heap.size; omega) (fun k hk => (HO3.out.lt k hk).1)))
            have HKY := Lib.hid ho4
            obtain ⟨kp4, kcap4, rfl, -⟩ := own_len ho4
            clear ho4 hk4 hv4
            refine hK.out _ _ ⟨e0, e1, e2⟩ (fun hHeld => ?_)
            clear hK K
            try simp only [Act.put, List.setIfInBounds_toArray, List.set_cons_zero, List.set_cons_succ]
            refine wpAnyH_take (i := 8) (oi := { dst := some 7, op := Op.assign (Operand.tmp 40), type := 57, pos := "search.go:26", after := #[{ on := 6, ground := Ground.data }, { on := 6, ground := Ground.chain }, { on := 0, ground := Ground.phase }, { on := 1, ground := Ground.phase }, { on := 2, ground := Ground.phase }, { on := 3, ground := Ground.phase }, { on := 4, ground := Ground.phase }, { on := 5, ground := Ground.phase }, { on := 6, ground := Ground.phase }, { on := 7, ground := Ground.textOnly Departure.lateStores }], guard := none }) (v := ?_) rfl (by kernel_rfl) (by kernel_rfl) (by kernel_rfl) (fun _ _ _ h => h) (Or.inl ⟨by rfl, ?_⟩) (by assumption) ?_
            rotate_left
            · (intro w hSw; (try dsimp only at hSw); first | (go_simp; done) | (go_simp; with_reducible rfl))
            try simp only [Act.put, List.setIfInBounds_toArray, List.set_cons_zero, List.set_cons_succ]
            refine wpAnyH_take (i := 9) (oi := { dst := some 8, op := Op.assign (Operand.tmp 41), type := 9, pos := "search.go:26", after := #[{ on := 7, ground := Ground.data }, { on := 8, ground := Ground.chain }, { on := 0, ground := Ground.phase }, { on := 1, ground := Ground.phase }, { on := 2, ground := Ground.phase }, { on := 3, ground := Ground.phase }, { on := 4, ground := Ground.phase }, { on := 5, ground := Ground.phase }, { on := 6, ground := Ground.phase }, { on := 7, ground := Ground.phase }, { on := 8, ground := Ground.phase }], guard := none }) (v := ?_) rfl (by kernel_rfl) (by kernel_rfl) (by kernel_rfl) (fun _ _ _ h => h) (Or.inl ⟨by rfl, ?_⟩) (by assumption) ?_
            rotate_left
            · (intro w hSw; (try dsimp only at hSw); first | (go_simp; done) | (go_simp; with_reducible rfl))
            try simp only [Act.put, List.setIfInBounds_toArray, List.set_cons_zero, List.set_cons_succ]
            refine wpAnyH_done (by kernel_rfl) ?_ _
            have HCL := Lib.hid (HC.out (.slice kp4 key2.length kcap4) key2 w4 HB4.out HKY.out (by omega))
            have hcl := hcall (.slice kp4 key2.length kcap4) w4
            have HXS := Lib.hid (show decide ((⟨x.toArray⟩ : ByteArray).size = s.size) = false by rw [decide_eq_false_iff_not, hxz]; omega)
            clear hHeld
            go_wp2_with (fail)
            refine HCL.out.mono ?_
            rintro e w5 ⟨rfl, hb5⟩
            have HB5 := Lib.hid (HB4.out.trans hb5)
            have HK5 := Lib.hid (HK4.out.bel hb5)
            have HKY5 := Lib.hid (HKY.out.bel hb5)
            have g2 := cell_later hb5 e2
            have hcv := own_string HKY5.out
            clear hb5 hcl e0 e1 e2
            cases hw : f key2 with
            | false =>
              have HA2 := Lib.hid (show prs acc = (pre ++ [PR.mk key2 v]).filter (fun p => f p.k) by rw [List.filter_append, HA.out]; simp [hw])
              clear hw
              go_wp2_with (fail)
              go_roundw
              case rel => exact ⟨pre ++ [PR.mk key2 v], acc, key2, ⟨x.toArray⟩, rfl, by rw [hxz]; omega, by rw [hxz]; omega, HK5.out, HKY5.out, HA2.out, by rw [HXS.out]; simpa using HST.out, HB5.out⟩
              case measure => simp only [sizeOfS]; rw [hxz]; omega
            | true =>
              have HA2 := Lib.hid (show prs (acc ++ [bp (PR.mk key2 v)]) = (pre ++ [PR.mk key2 v]).filter (fun p => f p.k) by rw [prs_app, List.filter_append, HA.out, show prs [bp (PR.mk key2 v)] = [PR.mk key2 v] by simp [prs, pr_bp]]; simp [hw])
              clear hw
              have hz5 : w.heap.size ≤ w5.heap.size := HB5.out.size
              go_wp2_with (at_builtin; refine stop_here ?_)
              refine go_on ?_
              refine append_all pairOk rfl _ _ rfl rfl (HK5.out.alloc _) [bp (PR.mk key2 v)] rfl (src_at [bp (PR.mk key2 v)] (heap_alloc_new w5 _) rfl rfl) (by simp only [List.length_singleton]; unfold maxLen; omega) (by simp only [List.length_singleton]; omega) (by rw [World.size_alloc]; omega) ?_
              intro v6 w6 ho6 hk6 hv6
              have HB6 := Lib.hid ((HB5.out.alloc _).trans_below (hk6.own (by rw [World.size_alloc]; omega) (fun k hk => (HK5.out.lt k hk).1)))
              have HKY6 := Lib.hid ((HKY5.out.alloc _).keep hk6 (fun k hk' hm => by
                rw [Option.mem_toList] at hm
                exact own_apart_b HKY5.out HK5.out (by decide) k hk' hm))
              have HK6 := Lib.hid ho6
              clear ho6 hk6 hv6
              go_wp2_with (fail)
              go_roundw
              case rel => exact ⟨pre ++ [PR.mk key2 v], acc ++ [bp (PR.mk key2 v)], key2, ⟨x.toArray⟩, rfl, by rw [hxz]; omega, by rw [hxz, List.length_append, List.length_singleton]; omega, HK6.out, HKY6.out, HA2.out, by rw [HXS.out]; simpa using HST.out, HB6.out⟩
              case measure => simp only [sizeOfS]; rw [hxz]; omega

end Go.Proofs.Ytldkpomkgmilbaa
