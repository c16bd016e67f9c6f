/- block.cut, follows, first: the pair with which some bytes begin, and whether it may follow. -/
import Derived.Test.YtldkpomkgmilbaaBRBuild
import Derived.Test.YtldkpomkgmilbaaVRTake
set_option linter.unusedSimpArgs false
set_option linter.unusedVariables false
namespace Go.Proofs.Ytldkpomkgmilbaa
open Go.RowKit Go.Deep

def cutV (s : ByteArray) (n : Nat) : Value := if n ≤ s.size then .tuple #[.string (s.extract 0 n), .string (s.extract n s.size), .bool true] else .tuple #[.string ⟨#[]⟩, .string ⟨#[]⟩, .bool false]
set_option maxHeartbeats 1000000 in
theorem cut_any (s : ByteArray) (n : Nat) (w : World) (hs : s.size ≤ 1000000) (hn : n < 18446744073709551616) :
    Calls Try.prog 51 #[.string s, .int .u64 n] w fun e w' => e = .returned (cutV s n) ∧ Drw w w' := by
  have hu : IntKind.u64.wrap (s.size : Int) = s.size := u64_in _ (by omega) (by omega)
  by_cases h : n ≤ s.size
  · have HC := Lib.hid (show cutV s n = _ from if_pos h)
    have h' : (n : Int) ≤ (s.size : Int) := by omega
    go_enter Try.func51, Try.ntmps51
    go_wp2_with (fail)
    go_quiet (fail)
    go_wp2_with (fail)
    go_ret3
    exact ⟨by rw [HC.out]; rfl, (Drw.refl w).drewN _⟩
  · have HC := Lib.hid (show cutV s n = _ from if_neg h)
    have h' : ¬ (n : Int) ≤ (s.size : Int) := by omega
    go_enter Try.func51, Try.ntmps51
    go_wp2_with (fail)
    go_ret3
    exact ⟨by rw [HC.out]; rfl, Drw.refl w⟩

theorem own_byte {B : Nat} {w : World} {v : Value} {l : List UInt8} (h : Own B w v l) (i : Nat) (hi : i < l.length) : ∃ g cap, v = .slice (some ⟨g, 0, none⟩) l.length cap ∧ w.cell? ⟨g, i, none⟩ = some (.int .u8 l[i].toNat) := by
  have h0 := h
  rcases h.2 with ⟨_, h0⟩ | ⟨g, cap, cur, rfl, _⟩
  · omega
  · refine ⟨g, cap, rfl, ?_⟩
    have := World.ownsRow.cells h0 rfl i (.int .u8 l[i].toNat) (by simp [Lib.byteCells, hi])
    have e : (⟨g, 0, none⟩ : Addr).add i = ⟨g, i, none⟩ := by cases i <;> simp [Addr.add]
    rwa [e] at this
set_option maxHeartbeats 2000000 in
theorem follows_any (a : Nat) (rest v : ByteArray) (kv : Value) (key : List UInt8) (fst : Bool) (n : Nat) (w : World) (ha : a < 18446744073709551616) (hk : key.length ≤ 1000000) (hr : rest.size ≤ 1000000) (h : Own n w kv key) :
    Calls Try.prog 44 #[.agg #[.int .u64 a, .string rest, .string v], kv, .bool fst] w fun e w' => e = .returned (.bool (followsB a rest.data.toList key fst)) ∧ Bel w w' := by
  obtain ⟨kp, kcap, rfl, -⟩ := own_len h
  have hu : IntKind.u64.wrap (key.length : Int) = key.length := u64_in _ (by omega) (by omega)
  have HW := Lib.hid ((Bel.refl w).alloc (.cells #[.int .u64 a, .string rest, .string v] 79))
  by_cases h1 : key.length < a
  · have HR := Lib.hid (show followsB a rest.data.toList key fst = false from if_pos h1)
    have h1' : (key.length : Int) < (a : Int) := by omega
    clear h
    go_enter Try.func44, Try.ntmps44
    go_wp2_with (fail)
    go_ret
    exact ⟨ret_bool HR.out.symm, HW.out⟩
  have h1' : (a : Int) ≤ (key.length : Int) := by omega
  by_cases h2 : rest.size = 0
  · obtain rfl : rest = ⟨#[]⟩ := by apply ByteArray.ext; exact Array.eq_empty_of_size_eq_zero h2
    have HR := Lib.hid (show followsB a (⟨#[]⟩ : ByteArray).data.toList key fst = fst from if_neg h1)
    clear h
    go_enter Try.func44, Try.ntmps44
    go_wp2_with (fail)
    go_ret
    exact ⟨ret_bool HR.out.symm, HW.out⟩
  have h2' : 0 < rest.size := by omega
  have hne : rest.toList.isEmpty = false := by rw [ByteArray.toList_eq, head_at rest h2']; rfl
  have hF : followsB a rest.data.toList key fst = (decide (a = key.length) || decide ((key.getD a 0).toNat < rest[0].toNat)) := by
    unfold followsB; rw [if_neg h1, head_at rest h2']
  by_cases h3 : a = key.length
  · have HR := Lib.hid (show followsB a rest.data.toList key fst = true by rw [hF, decide_eq_true h3]; rfl)
    have h3' : ((a : Int) == (key.length : Int)) = true := by rw [beq_iff_eq]; omega
    clear h hF
    go_enter Try.func44, Try.ntmps44
    go_wp2_with (fail)
    go_quiet (fail)
    go_wp2_with (fail)
    go_ret
    exact ⟨ret_bool HR.out.symm, ((Bel.refl w).alloc _).drewN _⟩
  · have hlt : a < key.length := by omega
    have h3' : ((a : Int) == (key.length : Int)) = false := by rw [beq_eq_false_iff_ne]; omega
    obtain ⟨g, cap, hv, hc⟩ := own_byte h a hlt
    cases hv
    have hg := block_of_cell hc
    have HR := Lib.hid (show followsB a rest.data.toList key fst = decide (key[a].toNat < rest[0].toNat) by
      rw [hF, decide_eq_false h3, getD_at _ _ hlt]
      rw [Bool.false_or])
    have hc1 : (w.alloc (.cells #[.int .u64 a, .string rest, .string v] 79)).cell? ⟨g, a, none⟩ = some (.int .u8 key[a].toNat) := (Below.cell ((Bel.refl w).alloc _) hg).trans hc
    have h9 : ((a : Int)) < (key.length : Int) := by omega
    clear h hF
    go_enter Try.func44, Try.ntmps44
    go_wp2_with (fail)
    go_quiet (fail)
    go_wp2_with (fail)
    go_ret
    exact ⟨ret_bool HR.out.symm, HW.out.drewN _⟩

def firstV (l : List UInt8) : Value :=
  match firstL l with
  | none => .tuple #[.agg #[.int .u64 0, .string ⟨#[]⟩, .string ⟨#[]⟩], .string ⟨#[]⟩, .bool false]
  | some (a, rest, v, x) => .tuple #[.agg #[.int .u64 (a : Nat), .string ⟨rest.toArray⟩, .string ⟨v.toArray⟩], .string ⟨x.toArray⟩, .bool true]
theorem firstV_none {l : List UInt8} (h : firstL l = none) : firstV l = .tuple #[.agg #[.int .u64 0, .string ⟨#[]⟩, .string ⟨#[]⟩], .string ⟨#[]⟩, .bool false] := by unfold firstV; rw [h]
theorem firstV_some {l : List UInt8} {a : Nat} {rest v x : List UInt8} (h : firstL l = some (a, rest, v, x)) : firstV l = .tuple #[.agg #[.int .u64 (a : Nat), .string ⟨rest.toArray⟩, .string ⟨v.toArray⟩], .string ⟨x.toArray⟩, .bool true] := by unfold firstV; rw [h]
/-- How far three numbers have been taken. -/
def Tie (s : List UInt8) (c : Nat → Nat) : Nat → List UInt8 → Prop
  | 0, r => r = s
  | 1, r => takeL s = (c 0, r, true)
  | 2, r => ∃ r1, takeL s = (c 0, r1, true) ∧ takeL r1 = (c 1, r, true)
  | 3, r => threeL s = some (c 0, c 1, c 2, r)
  | _, _ => False
theorem three_no0 {s : List UInt8} {n : Nat} {r : List UInt8} (h : takeL s = (n, r, false)) : threeL s = none := by unfold threeL; rw [h]; rfl
theorem three_no1 {s s1 : List UInt8} {n m : Nat} {r : List UInt8} (h : takeL s = (n, s1, true)) (h1 : takeL s1 = (m, r, false)) : threeL s = none := by unfold threeL; rw [h]; simp only [if_true]; rw [h1]; rfl
theorem three_no2 {s s1 s2 : List UInt8} {n m k : Nat} {r : List UInt8} (h : takeL s = (n, s1, true)) (h1 : takeL s1 = (m, s2, true)) (h2 : takeL s2 = (k, r, false)) : threeL s = none := by
  unfold threeL; rw [h]; simp only [if_true]; rw [h1]; simp only [if_true]; rw [h2]; rfl
theorem three_yes {s s1 s2 : List UInt8} {n m k : Nat} {r : List UInt8} (h : takeL s = (n, s1, true)) (h1 : takeL s1 = (m, s2, true)) (h2 : takeL s2 = (k, r, true)) : threeL s = some (n, m, k, r) := by
  unfold threeL; rw [h]; simp only [if_true]; rw [h1]; simp only [if_true]; rw [h2]; rfl
theorem first_no {s : List UInt8} (h : threeL s = none) : firstL s = none := by unfold firstL; rw [h]
theorem first_short {s : List UInt8} {a b c : Nat} {r : List UInt8} (h : threeL s = some (a, b, c, r)) (hl : ¬ b + c ≤ r.length) : firstL s = none := by unfold firstL; rw [h]; exact if_neg hl
theorem first_yes {s : List UInt8} {a b c : Nat} {r : List UInt8} (h : threeL s = some (a, b, c, r)) (hl : b + c ≤ r.length) : firstL s = some (a, r.take b, (r.drop b).take c, r.drop (b + c)) := by unfold firstL; rw [h]; exact if_pos hl
theorem three_lt {s : List UInt8} {a b c : Nat} {r : List UInt8} (h : threeL s = some (a, b, c, r)) : a < 18446744073709551616 ∧ b < 18446744073709551616 ∧ c < 18446744073709551616 := by
  unfold threeL at h
  split at h
  · split at h
    · split at h
      · simp only [Option.some.injEq, Prod.mk.injEq] at h
        obtain ⟨rfl, rfl, rfl, rfl⟩ := h
        exact ⟨take_lt _, take_lt _, take_lt _⟩
      · simp at h
    · simp at h
  · simp at h
def FirstRel (s : ByteArray) (P Q : Nat) (w : World) (sv iv : Value) (x : World) : Prop :=
  ∃ (k : Nat) (r : ByteArray) (c : Nat → Nat), k ≤ 3 ∧ iv = .int .i64 k ∧ sv = .string r ∧ r.size ≤ s.size ∧ Tie s.data.toList c k r.data.toList ∧
    (∀ j, j < 3 → x.cell? ⟨Q, j, none⟩ = some (.int .u64 (c j : Nat)) ∧ x.frozen? ⟨Q, j, none⟩ = false) ∧
    (x.cell? ⟨P, 0, none⟩ = some (.int .u64 0) ∧ x.cell? ⟨P, 1, none⟩ = some (.string ⟨#[]⟩) ∧ x.cell? ⟨P, 2, none⟩ = some (.string ⟨#[]⟩)) ∧ (∀ j, j < 3 → x.frozen? ⟨P, j, none⟩ = false) ∧ Bel w x

theorem take_val (l : List UInt8) (n : Nat) (r : List UInt8) (b : Bool) (h : takeL l = (n, r, b)) : takeV l = .tuple #[.int .u64 (n : Int), .string ⟨r.toArray⟩, .bool b] := by rw [takeV, h]
theorem tie_no {s : List UInt8} {c : Nat → Nat} {k n : Nat} {r r' : List UInt8} (hk : k < 3) (h : Tie s c k r) (ht : takeL r = (n, r', false)) : firstL s = none := by
  have : k = 0 ∨ k = 1 ∨ k = 2 := by omega
  rcases this with rfl | rfl | rfl
  · cases h; exact first_no (three_no0 ht)
  · exact first_no (three_no1 h ht)
  · obtain ⟨r1, h1, h2⟩ := h
    exact first_no (three_no2 h1 h2 ht)
theorem tie_next {s : List UInt8} {c : Nat → Nat} {k n : Nat} {r r' : List UInt8} (hk : k < 3) (h : Tie s c k r) (ht : takeL r = (n, r', true)) : Tie s (fun j => if j = k then n else c j) (k + 1) r' := by
  have : k = 0 ∨ k = 1 ∨ k = 2 := by omega
  rcases this with rfl | rfl | rfl
  · cases h; exact ht
  · exact ⟨r, h, ht⟩
  · obtain ⟨r1, h1, h2⟩ := h
    exact three_yes h1 h2 ht
theorem ext_take (s : ByteArray) (n : Nat) : s.extract 0 n = ⟨(s.data.toList.take n).toArray⟩ := by
  apply ba_eq
  rw [ext_data, List.drop_zero]

set_option maxHeartbeats 4000000 in
theorem first_any (s : ByteArray) (w : World) (hs : s.size ≤ 1000000) :
    Calls Try.prog 43 #[.string s] w fun e w' => e = .returned (firstV s.data.toList) ∧ Bel w w' := by
  go_enter Try.func43, Try.ntmps43
  go_wp2_with (fail)
  go_loopw [0, 12] (fun sv iv x => FirstRel s w.heap.size (w.heap.size + 1) w sv iv x) (fun _ iv _ => 3 - (intOf iv).toNat)
  case atStart =>
    refine ⟨0, s, fun _ => 0, by omega, rfl, rfl, Nat.le_refl _, rfl, fun j hj => ?_, ⟨by simp, by simp, by simp⟩, fun j hj => ?_, ((Bel.refl w).alloc _).alloc _⟩
    · have : j = 0 ∨ j = 1 ∨ j = 2 := by omega
      rcases this with rfl | rfl | rfl <;> exact ⟨by go_simp, by go_simp⟩
    · have : j = 0 ∨ j = 1 ∨ j = 2 := by omega
      rcases this with rfl | rfl | rfl <;> go_simp
  case round =>
    obtain ⟨k, r, c, hk, rfl, rfl, hrs, htie, hq, ⟨p0, p1, p2⟩, hpf, hb⟩ := hrel
    have g0 := hpf 0 (by omega)
    have g1 := hpf 1 (by omega)
    have g2 := hpf 2 (by omega)
    have HT := Lib.hid htie; clear htie
    have HQ := Lib.hid hq; clear hq
    have HPF := Lib.hid hpf; clear hpf
    by_cases h3 : k = 3
    · subst h3
      have q0 := (HQ.out 0 (by omega)).1
      have q1 := (HQ.out 1 (by omega)).1
      have q2 := (HQ.out 2 (by omega)).1
      have ht : threeL s.data.toList = some (c 0, c 1, c 2, r.data.toList) := HT.out
      obtain ⟨l0, l1, l2⟩ := three_lt ht
      have hrl : r.data.toList.length = r.size := rfl
      have HB := Lib.hid hb; clear hb
      generalize c 0 = a at *
      generalize c 1 = b at *
      generalize c 2 = d at *
      by_cases h1 : b ≤ r.size
      · have HC1 := Lib.hid (show cutV r b = _ from if_pos h1)
        have hez : (r.extract b r.size).size = r.size - b := by simp [ByteArray.size_extract]
        have HE1 := Lib.hid (ext_take r b)
        have HE2 := Lib.hid (ext_drop r b)
        obtain ⟨y, hy⟩ : ∃ y, r.extract b r.size = y := ⟨_, rfl⟩
        rw [hy] at HC1 hez HE2
        by_cases h2 : d ≤ y.size
        · have HC2 := Lib.hid (show cutV y d = _ from if_pos h2)
          have HF := Lib.hid (firstV_some (first_yes ht (by omega)))
          have HE3 := Lib.hid (show y.extract 0 d = ⟨((r.data.toList.drop b).take d).toArray⟩ by rw [ext_take, HE2.out])
          have HE4 := Lib.hid (show y.extract d y.size = ⟨(r.data.toList.drop (b + d)).toArray⟩ by rw [ext_drop, HE2.out, List.drop_drop])
          clear hy ht
          go_wp2_with (fail)
          refine (cut_any r b _ (by omega) l1).mono ?_
          rintro e w1 ⟨rfl, n1, rfl⟩
          rw [HC1.out]
          go_wp2_with (fail)
          refine (cut_any y d _ (by omega) l2).mono ?_
          rintro e w2 ⟨rfl, n2, rfl⟩
          rw [HC2.out]
          go_wp2_with (fail)
          refine bodyPost_ret (v := .tuple #[.agg #[.int .u64 (a : Nat), .string (r.extract 0 b), .string (y.extract 0 d)], .string (y.extract d y.size), .bool true]) (by simp [results, Try.results43, go_sem, p0, p1, p2, g0, g1, g2, hez]) rfl ⟨by rw [HF.out, HE1.out, HE3.out, HE4.out], ?_⟩
          repeat' first | exact HB.out | refine Bel.setCell ?_ (by simp) _ | refine Bel.drewN ?_ _
        · have HC2 := Lib.hid (show cutV y d = _ from if_neg h2)
          have HF := Lib.hid (firstV_none (first_short ht (by omega)))
          clear hy ht
          go_wp2_with (fail)
          refine (cut_any r b _ (by omega) l1).mono ?_
          rintro e w1 ⟨rfl, n1, rfl⟩
          rw [HC1.out]
          go_wp2_with (fail)
          refine (cut_any y d _ (by omega) l2).mono ?_
          rintro e w2 ⟨rfl, n2, rfl⟩
          rw [HC2.out]
          go_wp2_with (fail)
          refine bodyPost_ret (v := .tuple #[.agg #[.int .u64 0, .string ⟨#[]⟩, .string ⟨#[]⟩], .string ⟨#[]⟩, .bool false]) (by simp [results, Try.results43, go_sem, p0, p1, p2, g0, g1, g2]) rfl ⟨by rw [HF.out], ?_⟩
          repeat' first | exact HB.out | refine Bel.setCell ?_ (by simp) _ | refine Bel.drewN ?_ _
      · have HC1 := Lib.hid (show cutV r b = _ from if_neg h1)
        have HF := Lib.hid (firstV_none (first_short ht (by omega)))
        clear ht
        go_wp2_with (fail)
        refine (cut_any r b _ (by omega) l1).mono ?_
        rintro e w1 ⟨rfl, n1, rfl⟩
        rw [HC1.out]
        go_wp2_with (fail)
        refine bodyPost_ret (v := .tuple #[.agg #[.int .u64 0, .string ⟨#[]⟩, .string ⟨#[]⟩], .string ⟨#[]⟩, .bool false]) (by simp [results, Try.results43, go_sem, p0, p1, p2, g0, g1, g2]) rfl ⟨by rw [HF.out], ?_⟩
        repeat' first | exact HB.out | refine Bel.setCell ?_ (by simp) _ | refine Bel.drewN ?_ _
    · have hk3 : k < 3 := by omega
      obtain ⟨qk, fk⟩ := HQ.out k hk3
      obtain ⟨n, r', b, hT⟩ : ∃ n r' b, takeL r.data.toList = (n, r', b) := ⟨_, _, _, rfl⟩
      have hrest := take_rest r.data.toList
      have hn64 := take_lt r.data.toList
      rw [hT] at hrest hn64
      have HV := Lib.hid (take_val _ _ _ _ hT)
      have HB := Lib.hid hb; clear hb
      go_wp2_with (fail)
      refine (take_any r wr (by omega)).mono ?_
      rintro e w1 ⟨rfl, hb1⟩
      rw [HV.out]
      have qk1 := cell_later hb1 qk
      have fk1 := (hb1.frozen _ _ (block_of_cell qk)).trans fk
      have p0' := cell_later hb1 p0
      have p1' := cell_later hb1 p1
      have p2' := cell_later hb1 p2
      have g0' := (hb1.frozen _ _ (block_of_cell p0)).trans g0
      have g1' := (hb1.frozen _ _ (block_of_cell p0)).trans g1
      have g2' := (hb1.frozen _ _ (block_of_cell p0)).trans g2
      have HB1 := Lib.hid (HB.out.trans hb1)
      have HQ1 := Lib.hid (show ∀ j, j < 3 → w1.cell? ⟨w.heap.size + 1, j, none⟩ = some (.int .u64 (c j : Nat)) ∧ w1.frozen? ⟨w.heap.size + 1, j, none⟩ = false from fun j hj => ⟨cell_later hb1 (HQ.out j hj).1, (hb1.frozen _ _ (block_of_cell qk)).trans (HQ.out j hj).2⟩)
      clear hb1 qk fk p0 p1 p2 g0 g1 g2
      cases b with
      | false =>
        have HF := Lib.hid (firstV_none (tie_no hk3 HT.out hT))
        clear hT
        go_wp2_with (fail)
        refine bodyPost_ret (v := .tuple #[.agg #[.int .u64 0, .string ⟨#[]⟩, .string ⟨#[]⟩], .string ⟨#[]⟩, .bool false]) (by simp [results, Try.results43, go_sem, p0', p1', p2', g0', g1', g2', qk1, fk1]) rfl ⟨by rw [HF.out], ?_⟩
        repeat' first | exact HB1.out | refine Bel.setCell ?_ (by simp) _ | refine Bel.drewN ?_ _
      | true =>
        have HN := Lib.hid (tie_next hk3 HT.out hT)
        clear hT
        go_wp2_with (fail)
        go_roundw
        case rel =>
          refine ⟨k + 1, ⟨r'.toArray⟩, fun j => if j = k then n else c j, by omega, by go_num, rfl, by rw [mk_size]; have : r.data.toList.length = r.size := rfl; omega, by simpa using HN.out, fun j hj => ?_, ⟨?_, ?_, ?_⟩, fun j hj => ?_, HB1.out.setCell (p := ⟨w.heap.size + 1, k, none⟩) (Nat.le_succ _) _⟩
          · refine ⟨?_, by rw [World.frozen?_setCell]; exact (HQ1.out j hj).2⟩
            by_cases e : j = k
            · subst e
              simp only [if_true]
              exact World.cell?_setCell_same _ _ _ qk1
            · rw [World.cell?_setCell_other _ _ _ _ (by intro e2; simp at e2)]
              simp only [if_neg e]
              exact (HQ1.out j hj).1
          · rw [World.cell?_setCell_other _ _ _ _ (by intro e2; simp at e2)]; exact p0'
          · rw [World.cell?_setCell_other _ _ _ _ (by intro e2; simp at e2)]; exact p1'
          · rw [World.cell?_setCell_other _ _ _ _ (by intro e2; simp at e2)]; exact p2'
          · rw [World.frozen?_setCell]
            have : j = 0 ∨ j = 1 ∨ j = 2 := by omega
            rcases this with rfl | rfl | rfl <;> assumption
        case measure => simp [intOf]; omega
end Go.Proofs.Ytldkpomkgmilbaa
