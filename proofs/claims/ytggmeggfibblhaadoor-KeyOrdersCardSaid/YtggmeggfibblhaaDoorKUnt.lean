/- key.Untuple and moultref4.Untuple: the values that some bytes are. -/
import Derived.Test.YtggmeggfibblhaaDoorKTup
import Derived.Test.YtggmeggfibblhaaDoorKRTake2
set_option linter.unusedSimpArgs false
set_option linter.unusedVariables false
namespace Go.Proofs.YtggmeggfibblhaaDoor
open Go.RowKit Go.Deep

/-- The values, at most so many, of which some bytes are the Tuple. -/
def untL : Nat → List UInt8 → Option (List KV)
  | 0, s => if s = [] then some [] else none
  | j + 1, s => if s = [] then some [] else match readL s with
    | none => none
    | some p => (untL j p.2).map (p.1 :: ·)
theorem unt_nil (j : Nat) : untL j [] = some [] := by cases j <;> rfl
theorem unt_none (j : Nat) (s : List UInt8) (h : s ≠ []) (hr : readL s = none) : untL j s = none := by
  cases j with
  | zero => rw [untL, if_neg h]
  | succ j => rw [untL, if_neg h, hr]
theorem unt_full (s : List UInt8) (h : s ≠ []) : untL 0 s = none := by rw [untL, if_neg h]
theorem unt_step (j : Nat) (s r : List UInt8) (v : KV) (h : s ≠ []) (hr : readL s = some (v, r)) : untL (j + 1) s = (untL j r).map (v :: ·) := by rw [untL, if_neg h, hr]
theorem unt_cat : ∀ (L : List KV) (j : Nat), L.length ≤ j → (∀ v ∈ L, v.right = true) → (∀ v ∈ L, v.in64) → untL j (catL L) = some L
  | [], j, _, _, _ => unt_nil j
  | v :: L, 0, h, _, _ => by simp at h
  | v :: L, j + 1, h, hr, hi => by
    rw [catL_cons, unt_step j _ (catL L) v (by simp [encL]) (read_enc v (hr v (by simp)) (hi v (by simp)) _), unt_cat L j (by simpa using h) (fun u hu => hr u (by simp [hu])) (fun u hu => hi u (by simp [hu]))]
    rfl
def pref (acc : List KV) (o : Option (List KV)) : Option (List KV) := o.map (acc ++ ·)
theorem pref_nil (o : Option (List KV)) : pref [] o = o := by cases o <;> rfl
theorem pref_cons (acc : List KV) (v : KV) (o : Option (List KV)) : pref acc (o.map (v :: ·)) = pref (acc ++ [v]) o := by cases o <;> simp [pref]
theorem unt_len : ∀ (j : Nat) (s : List UInt8) (L : List KV), untL j s = some L → L.length ≤ j
  | 0, s, L, h => by
    rw [untL] at h
    split at h
    · cases h; simp
    · cases h
  | j + 1, s, L, h => by
    rw [untL] at h
    split at h
    · cases h; simp
    · cases hr : readL s with
      | none => rw [hr] at h; cases h
      | some p =>
        rw [hr] at h
        obtain ⟨M, h1, rfl⟩ := Option.map_eq_some_iff.1 h
        have := unt_len j _ _ h1
        simp; omega
theorem read_rest (l r : List UInt8) (v : KV) (h : readL l = some (v, r)) : r.length < l.length := by
  obtain ⟨_, _, h3⟩ := read_some l r v h
  rw [← h3, List.length_append]
  simp [encL]

def sliceLen : Value → Nat
  | .slice _ n _ => n
  | _ => 0
def unErr (o : Option (List KV)) : Int := if o.isSome then 0 else 8
/-- What Untuple answers: a slice of its own. -/
def UnPost (o : Option (List KV)) (w : World) (e : Ending) (w' : World) : Prop :=
  ∃ v, e = .returned (.tuple #[v, .int .i64 (unErr o)]) ∧ OwnG valEl w.heap.size w' v (o.getD []) ∧ Bel w w'
theorem UnPost.none {w w' : World} (hb : Bel w w') : UnPost none w (.returned (.tuple #[.slice Option.none 0 0, .int .i64 8])) w' := ⟨_, rfl, OwnG.nil _ _ _, hb⟩
def UnRel (s0 : List UInt8) (w : World) (sv lv : Value) (x : World) : Prop :=
  ∃ (acc : List KV) (r : ByteArray), acc.length ≤ 20 ∧ sv = .string r ∧ r.size ≤ s0.length ∧ OwnG valEl w.heap.size x lv acc ∧ pref acc (untL (20 - acc.length) r.data.toList) = untL 20 s0 ∧ Bel w x
theorem ne_nil (r : ByteArray) (h : r.size ≠ 0) : r.data.toList ≠ [] := by
  intro e
  have : r.data.toList.length = 0 := by rw [e]; rfl
  exact h this

set_option maxHeartbeats 4000000 in
theorem untuple_any (s : ByteArray) (w : World) (hs : s.size ≤ 1000000) (hstd : Std w) :
    Calls Tryd.prog 17 #[.string s] w (UnPost (untL 20 s.data.toList) w) := by
  have hsl : s.data.toList.length = s.size := rfl
  have HS := Lib.hid hstd; clear hstd
  go_enter Tryd.func17, Tryd.ntmps17
  go_wp2_with (fail)
  go_loopw [0, 4] (fun sv lv x => UnRel s.data.toList w sv lv x) (fun _ lv _ => 20 - sliceLen lv)
  case atStart => exact ⟨[], s, Nat.zero_le _, rfl, Nat.le_refl _, OwnG.nil _ _ _, pref_nil _, Bel.refl w⟩
  case round =>
    obtain ⟨acc, r, hacc, rfl, hrs, hown, hu, hb⟩ := hrel
    rw [hsl] at hrs
    obtain ⟨pp, cap, rfl⟩ := ownG_len hown
    have HU := Lib.hid hu; clear hu
    have HV := Lib.hid hown; clear hown
    have HB := Lib.hid hb; clear hb
    by_cases hr0 : r.size = 0
    · obtain rfl : r = ⟨#[]⟩ := by apply ByteArray.ext; exact Array.eq_empty_of_size_eq_zero hr0
      have hX := HU.out
      have e0 : (⟨#[]⟩ : ByteArray).data.toList = [] := rfl
      rw [e0, unt_nil] at hX
      have HX := Lib.hid (show untL 20 s.data.toList = some acc by rw [← hX]; simp [pref])
      clear hX
      go_wp2_with (fail)
      go_ret2
      rw [HX.out]
      exact ⟨_, rfl, HV.out, HB.out⟩
    · have hnl := ne_nil r hr0
      have hne : r.toList.isEmpty = false := by rw [ByteArray.toList_eq]; cases h : r.data.toList with | nil => exact absurd h hnl | cons a l => rfl
      cases hrd : readL r.data.toList with
      | none =>
        have hX := HU.out
        rw [unt_none _ _ hnl hrd] at hX
        have HX := Lib.hid (show untL 20 s.data.toList = none from hX.symm)
        have HT := Lib.hid (show takeV (readL r.data.toList) = .tuple #[.agg #[.int .i64 0, .int .i64 0, .string ⟨#[]⟩], .string ⟨#[]⟩, .int .i64 8] by rw [hrd]; rfl)
        clear hX hrd hnl
        go_wp2_with (fail)
        refine (take_any r _ (by omega) (HS.out.bel HB.out)).mono ?_
        rintro e w1 ⟨rfl, hb⟩
        rw [HT.out]
        replace HB := Lib.hid (HB.out.trans hb); clear hb
        go_wp2_with (fail)
        go_ret2
        rw [HX.out]
        exact UnPost.none (HB.out.alloc _)
      | some q =>
        obtain ⟨v, rest⟩ := q
        have hlt := read_rest _ _ _ hrd
        have hrl : r.data.toList.length = r.size := rfl
        have HT := Lib.hid (show takeV (readL r.data.toList) = .tuple #[.agg #[.int .i64 v.k, .int .i64 v.n, .string v.s], .string ⟨rest.toArray⟩, .int .i64 0] by rw [hrd]; rfl)
        by_cases hf : acc.length = 20
        · have hX := HU.out
          rw [hf, Nat.sub_self, unt_full _ hnl] at hX
          have HX := Lib.hid (show untL 20 s.data.toList = none from hX.symm)
          have hf1 : ((acc.length : Nat) : Int) = 20 := by omega
          have hf2 : (((acc.length : Nat) : Int) == 20) = true := by rw [hf1]; rfl
          have hf3 : (20 : Int) ≤ ((acc.length : Nat) : Int) := by omega
          clear hX hrd hnl hf
          go_wp2_with (fail)
          refine (take_any r _ (by omega) (HS.out.bel HB.out)).mono ?_
          rintro e w1 ⟨rfl, hb⟩
          rw [HT.out]
          replace HB := Lib.hid (HB.out.trans hb); clear hb
          go_wp2_with (fail)
          go_ret2
          rw [HX.out]
          exact UnPost.none (HB.out.alloc _)
        · obtain ⟨j, hj⟩ : ∃ j, 20 - acc.length = j + 1 := ⟨20 - acc.length - 1, by omega⟩
          have hj2 : 20 - (acc ++ [v]).length = j := by simp; omega
          have hX := HU.out
          rw [hj, unt_step j _ _ _ hnl hrd, pref_cons, ← hj2] at hX
          have HX := Lib.hid hX
          have hf1 : ¬ ((acc.length : Nat) : Int) = 20 := by omega
          have hf2 : (((acc.length : Nat) : Int) == 20) = false := beq_eq_false_iff_ne.2 hf1
          have hf3 : ¬ (20 : Int) ≤ ((acc.length : Nat) : Int) := by omega
          clear hX hrd hnl hj hj2
          go_wp2_with (fail)
          refine (take_any r _ (by omega) (HS.out.bel HB.out)).mono ?_
          rintro e w1 ⟨rfl, hb⟩
          rw [HT.out]
          replace HB := Lib.hid (HB.out.trans hb)
          replace HV := Lib.hid (HV.out.bel hb); clear hb
          go_wp2_with (at_builtin; refine stop_here ?_)
          refine go_on ?_
          obtain ⟨x0, hx0⟩ : ∃ x, x = w1.alloc (.cells #[.int .i64 v.k, .int .i64 v.n, .string v.s] 23) := ⟨_, rfl⟩
          have hz0 : w1.heap.size + 1 = x0.heap.size := by rw [hx0]; simp
          have HV0 := Lib.hid (show OwnG valEl w.heap.size x0 (.slice pp acc.length cap) acc by rw [hx0]; exact HV.out.alloc _)
          have HB0 := Lib.hid (show Bel w x0 by rw [hx0]; exact HB.out.alloc _)
          rw [← hx0, hz0]
          clear hx0 hz0
          refine append_glit valOk rfl _ _ rfl rfl HV0.out _ _ _ [v] rfl rfl rfl (by simp [maxLen]; omega) (by simp; omega) HB0.out.size (Or.inl rfl) ?_
          intro v3 w3 hown3 hbel3 hZ3
          obtain ⟨pp3, cap3, rfl⟩ := ownG_len hown3
          have HV3 := Lib.hid hown3
          have HB3 := Lib.hid (HB0.out.trans_below hbel3)
          clear hown3 hbel3 HV
          go_wp2_with (fail)
          go_roundw
          case rel => exact ⟨acc ++ [v], ⟨rest.toArray⟩, by simp; omega, rfl, by show rest.toArray.size ≤ _; rw [List.size_toArray, hsl]; omega, by simpa using HV3.out, HX.out, HB3.out⟩
          case measure => simp [sliceLen]; omega

set_option maxHeartbeats 4000000 in
theorem runtuple_any (s : ByteArray) (w : World) (hs : s.size ≤ 1000000) :
    Calls Tryd.prog 18 #[.string s] w (UnPost (untL 20 s.data.toList) w) := by
  have hsl : s.data.toList.length = s.size := rfl

  go_enter Tryd.func18, Tryd.ntmps18
  go_wp2_with (fail)
  go_loopw [0, 4] (fun sv lv x => UnRel s.data.toList w sv lv x) (fun _ lv _ => 20 - sliceLen lv)
  case atStart => exact ⟨[], s, Nat.zero_le _, rfl, Nat.le_refl _, OwnG.nil _ _ _, pref_nil _, Bel.refl w⟩
  case round =>
    obtain ⟨acc, r, hacc, rfl, hrs, hown, hu, hb⟩ := hrel
    rw [hsl] at hrs
    obtain ⟨pp, cap, rfl⟩ := ownG_len hown
    have HU := Lib.hid hu; clear hu
    have HV := Lib.hid hown; clear hown
    have HB := Lib.hid hb; clear hb
    by_cases hr0 : r.size = 0
    · obtain rfl : r = ⟨#[]⟩ := by apply ByteArray.ext; exact Array.eq_empty_of_size_eq_zero hr0
      have hX := HU.out
      have e0 : (⟨#[]⟩ : ByteArray).data.toList = [] := rfl
      rw [e0, unt_nil] at hX
      have HX := Lib.hid (show untL 20 s.data.toList = some acc by rw [← hX]; simp [pref])
      clear hX
      go_wp2_with (fail)
      go_ret2
      rw [HX.out]
      exact ⟨_, rfl, HV.out, HB.out⟩
    · have hnl := ne_nil r hr0
      have hne : r.toList.isEmpty = false := by rw [ByteArray.toList_eq]; cases h : r.data.toList with | nil => exact absurd h hnl | cons a l => rfl
      cases hrd : readL r.data.toList with
      | none =>
        have hX := HU.out
        rw [unt_none _ _ hnl hrd] at hX
        have HX := Lib.hid (show untL 20 s.data.toList = none from hX.symm)
        have HT := Lib.hid (show takeV (readL r.data.toList) = .tuple #[.agg #[.int .i64 0, .int .i64 0, .string ⟨#[]⟩], .string ⟨#[]⟩, .int .i64 8] by rw [hrd]; rfl)
        clear hX hrd hnl
        go_wp2_with (fail)
        refine (rtake_any r _ (by omega)).mono ?_
        rintro e w1 ⟨rfl, hb⟩
        rw [HT.out]
        replace HB := Lib.hid (HB.out.trans hb); clear hb
        go_wp2_with (fail)
        go_ret2
        rw [HX.out]
        exact UnPost.none (HB.out.alloc _)
      | some q =>
        obtain ⟨v, rest⟩ := q
        have hlt := read_rest _ _ _ hrd
        have hrl : r.data.toList.length = r.size := rfl
        have HT := Lib.hid (show takeV (readL r.data.toList) = .tuple #[.agg #[.int .i64 v.k, .int .i64 v.n, .string v.s], .string ⟨rest.toArray⟩, .int .i64 0] by rw [hrd]; rfl)
        by_cases hf : acc.length = 20
        · have hX := HU.out
          rw [hf, Nat.sub_self, unt_full _ hnl] at hX
          have HX := Lib.hid (show untL 20 s.data.toList = none from hX.symm)
          have hf1 : ((acc.length : Nat) : Int) = 20 := by omega
          have hf2 : (((acc.length : Nat) : Int) == 20) = true := by rw [hf1]; rfl
          have hf3 : (20 : Int) ≤ ((acc.length : Nat) : Int) := by omega
          clear hX hrd hnl hf
          go_wp2_with (fail)
          refine (rtake_any r _ (by omega)).mono ?_
          rintro e w1 ⟨rfl, hb⟩
          rw [HT.out]
          replace HB := Lib.hid (HB.out.trans hb); clear hb
          go_wp2_with (fail)
          go_ret2
          rw [HX.out]
          exact UnPost.none (HB.out.alloc _)
        · obtain ⟨j, hj⟩ : ∃ j, 20 - acc.length = j + 1 := ⟨20 - acc.length - 1, by omega⟩
          have hj2 : 20 - (acc ++ [v]).length = j := by simp; omega
          have hX := HU.out
          rw [hj, unt_step j _ _ _ hnl hrd, pref_cons, ← hj2] at hX
          have HX := Lib.hid hX
          have hf1 : ¬ ((acc.length : Nat) : Int) = 20 := by omega
          have hf2 : (((acc.length : Nat) : Int) == 20) = false := beq_eq_false_iff_ne.2 hf1
          have hf3 : ¬ (20 : Int) ≤ ((acc.length : Nat) : Int) := by omega
          clear hX hrd hnl hj hj2
          go_wp2_with (fail)
          refine (rtake_any r _ (by omega)).mono ?_
          rintro e w1 ⟨rfl, hb⟩
          rw [HT.out]
          replace HB := Lib.hid (HB.out.trans hb)
          replace HV := Lib.hid (HV.out.bel hb); clear hb
          go_wp2_with (at_builtin; refine stop_here ?_)
          refine go_on ?_
          obtain ⟨x0, hx0⟩ : ∃ x, x = w1.alloc (.cells #[.int .i64 v.k, .int .i64 v.n, .string v.s] 23) := ⟨_, rfl⟩
          have hz0 : w1.heap.size + 1 = x0.heap.size := by rw [hx0]; simp
          have HV0 := Lib.hid (show OwnG valEl w.heap.size x0 (.slice pp acc.length cap) acc by rw [hx0]; exact HV.out.alloc _)
          have HB0 := Lib.hid (show Bel w x0 by rw [hx0]; exact HB.out.alloc _)
          rw [← hx0, hz0]
          clear hx0 hz0
          refine append_glit valOk rfl _ _ rfl rfl HV0.out _ _ _ [v] rfl rfl rfl (by simp [maxLen]; omega) (by simp; omega) HB0.out.size (Or.inl rfl) ?_
          intro v3 w3 hown3 hbel3 hZ3
          obtain ⟨pp3, cap3, rfl⟩ := ownG_len hown3
          have HV3 := Lib.hid hown3
          have HB3 := Lib.hid (HB0.out.trans_below hbel3)
          clear hown3 hbel3 HV
          go_wp2_with (fail)
          go_roundw
          case rel => exact ⟨acc ++ [v], ⟨rest.toArray⟩, by simp; omega, rfl, by show rest.toArray.size ≤ _; rw [List.size_toArray, hsl]; omega, by simpa using HV3.out, HX.out, HB3.out⟩
          case measure => simp [sliceLen]; omega
end Go.Proofs.YtggmeggfibblhaaDoor
