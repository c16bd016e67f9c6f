/- GShots, GPAsk, GPAsk2, GPThin, GProg, GLawP1, GLawP2, GLawP3, GLawP4, GLawP5, GLawP6, laid together. -/
import Derived.Test.YtmdkpomgckkllaaP15
import Derived.Test.YtmdkpomgckkllaaP16
import Derived.Test.YtmdkpomgckkllaaP17
import Derived.Sort.OwnSortedInts
import Derived.Deep.RegionHeld
import Derived.Deep.QuietTactic
import Derived.BigQuiet
import Derived.Test.YtmdkpomgckkllaaP11
import Derived.Test.YtmdkpomgckkllaaP12
import Derived.Test.YtmdkpomgckkllaaP13
set_option linter.unusedSimpArgs false
set_option linter.unusedVariables false
/- slices.Sorted(slices.Values(shots)): the numbers in order. -/
set_option maxRecDepth 100000
namespace Go.Proofs.Ytmdkpomgckkllaa
open Go.RowKit Go.Shelf Go.Deep Go.Maps

attribute [local go_sem] Oper.semAt_some

def intEl12 : El Int := ⟨3, 23, 1, fun i => [.int .i64 i]⟩
theorem intOk12 : ElOk intEl12 8 := ⟨fun _ => rfl, fun a u hu => by simp [intEl12] at hu; subst hu; rfl, by kernel_rfl, ⟨.int .i64 0, by kernel_rfl, rfl⟩, by decide⟩
theorem intAll12 (l : List Int) : intEl12.all l = l.map (Value.int .i64) := by
  induction l with
  | nil => rfl
  | cons x l ih => simp only [El.all, List.flatMap_cons, List.map_cons] at *; rw [ih]; rfl
theorem sort_own12 {B : Nat} {w : World} {v : Value} {l : List Int} (h : OwnG intEl12 B w v l) (hB : B ≤ w.heap.size) (hl : l.length ≤ 1000) :
    Calls Try.prog 44 #[v] w fun e w' => e = .returned (.tuple #[]) ∧ OwnG intEl12 B w' v (l.mergeSort fun x y => decide (x ≤ y)) ∧ Below B w w' := by
  obtain ⟨h1, h2⟩ := h
  rcases h2 with ⟨rfl, h0⟩ | ⟨g, cap, cur, rfl, hg, hh, hc, hx, hsz, htk⟩
  · obtain rfl : l = [] := List.length_eq_zero_iff.1 h0
    refine (Any.slices_Sort_int_none Try.lays189 none 0 w).mono ?_
    rintro e w' ⟨rfl, rfl⟩
    exact ⟨rfl, by rw [List.mergeSort_nil]; exact OwnG.nil _ _ _, Below.refl _ _⟩
  · have hgs : g < w.heap.size := (Array.getElem?_eq_some_iff.1 hh).1
    have ht : cur.toList.take l.length = l.map (Value.int .i64) := by
      rw [show intEl12.n = 1 from rfl, Nat.mul_one] at htk; rw [← intAll12]; exact htk
    have hlen : (l.mergeSort fun x y => decide (x ≤ y)).length = l.length := List.length_mergeSort _
    refine (Any.slices_Sort_int Try.lays189 g 0 cap l w (holds_of_blockI hh ht) hgs (by omega)).mono ?_
    rintro e w' ⟨rfl, n, os, rfl⟩
    refine ⟨rfl, ?_, ?_⟩
    · have := ownsRow_sortedI (n := n) (os := os) (ts := l.mergeSort fun x y => decide (x ≤ y)) hlen hg hh hc hx (by rw [hsz]; rfl)
      unfold OwnG
      rw [intAll12, hlen]
      exact this
    · exact (Below.refl B w).grown (grownBy_sortedI _) hB (fun k hk => by simp at hk; omega)
theorem ints_own {B : Nat} {w : World} {v : Value} {S : List Int} (h : OwnG intEl12 B w v S) : ∃ q cap, v = .slice q S.length cap ∧ IntsAt12 w q S := by
  by_cases hS : S = []
  · subst hS
    obtain ⟨p, cap, hv⟩ := ownG_len h
    exact ⟨p, cap, hv, fun i hi => by simp at hi⟩
  · obtain ⟨g, cap, hv, _, _, _, hc⟩ := ownG_cells intOk12 h hS
    refine ⟨_, cap, hv, fun i hi => ⟨_, rfl, ?_⟩⟩
    have := hc i S[i] (List.getElem?_eq_getElem hi) 0 _ rfl
    rw [show i * intEl12.n + 0 = i from by show i * 1 + 0 = i; omega] at this
    rw [show (⟨g, 0, none⟩ : Addr).add i = ⟨g, i, none⟩ from by cases i <;> simp [Addr.add]]
    exact this
theorem boxed_keep12 {W W' : World} {F : List Nat} {B : Nat} {t : TypeId} {v : Value} (h : Boxed W B t v) (hk : Keep F W W') (hB : B ∉ F) : Boxed W' B t v := hk.at h hB
set_option maxHeartbeats 1000000 in
theorem values_any (q : Option Addr) (m c : Nat) (w : World) :
    Calls Try.prog 33 #[.slice q m c] w fun e w' => e = .returned (.func (.func 45) #[] #[.pointer (some ⟨w.heap.size, 0, none⟩)]) ∧ w' = w.alloc (.cells #[.slice q m c] 23) := by
  go_enter Try.func33, Try.ntmps33
  go_wp2_with (fail)
  go_ret
  exact ⟨rfl, rfl⟩
set_option maxHeartbeats 4000000 in
theorem values_tells (n b : Nat) (q : Option Addr) (c : Nat) (S : List Int) (w0 w : World) (hS : S.length ≤ 1000) (h : IntsAt12 w0 q S) (hB : Below w0.heap.size w0 w) (hb : Boxed w b 23 (.slice q S.length c)) (hn : 1 ≤ n) :
    Tells12 n Try.prog 45 #[.pointer (some ⟨b, 0, none⟩)] (S.map fun s => #[.int .i64 s]) [] w0.heap.size w := by
  intro l J W hW hJ hY h0
  have HJ := Lib.hid hJ; have HY := Lib.hid hY
  have hb0 : Boxed W b 23 (.slice q S.length c) := (Below.block hW b (Array.getElem?_eq_some_iff.1 hb).1).trans hb
  have c0 := hb0.cell
  have HLEN := Lib.hid (show (S.map fun s => (#[.int .i64 s] : Array Value)).length = S.length from by simp)
  have HI := Lib.hid h
  have H0 := Lib.hid h0
  have HB0 := Lib.hid (hB.trans (Below.mono hW (Below.size hB)))
  clear hJ hY h hb h0 hW hb0 hB
  refine callsIn_of_wp Try.func45 rfl trivial ?_ rfl
  simp only [Try.ntmps45, List.size_toArray, List.length_cons, List.length_nil, Nat.reduceAdd, Nat.reduceSub, Array.replicate_succ, Array.replicate_zero, List.push_toArray, List.append_toArray, List.nil_append, List.cons_append]
  gi_wp2
  gi_loopw [7] (fun iv x => ∃ k : Nat, k ≤ S.length ∧ iv = .int .i64 k ∧ Below w0.heap.size w0 x ∧ J k x) (fun iv _ => S.length - (intOf iv).toNat)
  case atStart => exact ⟨0, Nat.zero_le _, rfl, HB0.out, H0.out⟩
  case round =>
    obtain ⟨k, hk, rfl, hbw, hj⟩ := hrel
    by_cases hkl : k < S.length
    · obtain ⟨a, rfl, hc⟩ := HI.out k hkl
      have hc' : wr.cell? (a.add k) = some (.int .i64 S[k]) := (Below.cell hbw (blk_of_cell hc)).trans hc
      obtain ⟨B, O, sp, ha⟩ : ∃ B O sp, a.add k = ⟨B, O, sp⟩ := ⟨_, _, _, rfl⟩
      rw [ha] at hc'
      have hyk := HY.out k (by rw [HLEN.out]; exact hkl) wr hj
      rw [List.getElem_map] at hyk
      have HBW := Lib.hid hbw
      generalize S[k] = s0 at *
      obtain ⟨fn, tmps, assign, body, hy, hR⟩ := hyk
      have hki : (k : Int) < (S.length : Int) := by omega
      clear hbw hj hc
      gi_wp2
      refine hR.mono ?_
      rintro e3 w3 ⟨rfl, hj3, hk3⟩
      have HJ3 := Lib.hid hj3
      have HB3 := Lib.hid (HBW.out.trans hk3.1)
      clear hj3 hk3 hy
      gi_wp2
      go_roundw
      case rel => exact ⟨k + 1, hkl, by go_num, HB3.out, HJ3.out⟩
      case measure => simp [intOf]; omega
    · have HE := Lib.hid (show J S.length wr by rw [show S.length = k by omega]; exact hj)
      have hki : ¬ (k : Int) < (S.length : Int) := by omega
      clear hbw hj
      gi_wp2
      go_end0
      exact ⟨⟨_, rfl⟩, HE.out⟩
/-- What has been collected lies in its box. -/
def ColI (D bS : Nat) (w : World) (S : List Int) (k : Nat) (W : World) : Prop :=
  ∃ v, Boxed W bS 23 v ∧ OwnG intEl12 (D + 2) W v (S.take k) ∧ Below w.heap.size w W ∧ D + 2 ≤ W.heap.size
set_option maxHeartbeats 4000000 in
theorem appseq_any (b : Nat) (q : Option Addr) (c : Nat) (S : List Int) (w : World) (hS : S.length ≤ 1000) (h : IntsAt12 w q S) (hb : Boxed w b 23 (.slice q S.length c)) :
    Calls Try.prog 48 #[.slice none 0 0, .func (.func 45) #[] #[.pointer (some ⟨b, 0, none⟩)]] w fun r w' => ∃ v, r = .returned v ∧ OwnG intEl12 w.heap.size w' v S ∧ Bel w w' := by
  have HI := Lib.hid h; have HBX := Lib.hid hb
  clear h hb
  refine (callsIn_wide (n := 9)).1 ?_
  refine callsIn_of_wp_marks Try.func48 rfl trivial ?_ rfl
  simp only [Try.ntmps48, List.size_toArray, List.length_cons, List.length_nil, Nat.reduceAdd, Nat.reduceSub, Array.replicate_succ, Array.replicate_zero, List.push_toArray, List.append_toArray, List.nil_append, List.cons_append]
  gi_wp2
  obtain ⟨w1, hw1⟩ : ∃ z, z = w.alloc (.cells #[.slice none 0 0] 23) := ⟨_, rfl⟩
  rw [← hw1]
  have x0 : Boxed w1 w.heap.size 23 (.slice none 0 0) := by rw [hw1]; exact Boxed.new w _ _
  have hbw1 : Bel w w1 := by rw [hw1]; exact (Bel.refl w).alloc _
  have hsz1 : w.heap.size + 1 ≤ w1.heap.size := by rw [hw1]; simp
  have HT := values_tells (9 - 1) b q c S w w1 hS HI.out hbw1 (boxed_keep12 HBX.out (Keep.of_bel hbw1 []) (by simp)) (by omega)
  have HX0 := Lib.hid x0; have HBW1 := Lib.hid hbw1
  have HSB0 := Lib.hid (show w.heap.size ≤ w1.heap.size by omega)
  clear hw1 x0 hbw1 HI HBX
  refine range12 (by omega) (gf := 45) (lb := #[.pointer (some ⟨b, 0, none⟩)]) rfl (run_enter12 Try.func45 rfl rfl) HT (Bel.refl w1) (fun b hb => by cases hb) HSB0.out (fun k h => by rw [List.getElem_map]; rfl)
    (fun k W => ColI w1.heap.size w.heap.size w S k W) ?hI ?h0 ?round ?done
  case hI =>
    rintro k A B ⟨v, h2, h3, h4, h5⟩ hk
    have hF : ∀ x ∈ (w1.heap.size :: (w1.heap.size + 1) :: ([] : List Nat)), x = w1.heap.size ∨ x = w1.heap.size + 1 := fun x hx => by simpa using hx
    refine ⟨v, boxed_keep12 h2 hk (fun hm => by have := hF _ hm; omega), h3.keep hk (fun x hx hm => ?_), h4.trans (hk.below (Below.size h4) (fun x hx => by have := hF _ hx; omega)), Nat.le_trans h5 hk.size⟩
    have h6 := (h3.lt x hx).1
    have := hF _ hm
    omega
  case h0 =>
    intro W1 hb hsz
    exact ⟨_, boxed_keep12 HX0.out (Keep.of_bel hb []) (by simp), OwnG.nil _ _ _, HBW1.out.trans hb, hsz⟩
  case round =>
    intro l k hk A hI hAsz
    have hk' : k < S.length := by simpa using hk
    rw [show (S.map fun s => (#[.int .i64 s] : Array Value))[k] = #[.int .i64 S[k]] from by rw [List.getElem_map]]
    have HI := Lib.hid hI
    have HNX := Lib.hid (show S.take (k + 1) = S.take k ++ [S[k]] by rw [List.take_add_one, List.getElem?_eq_getElem hk']; rfl)
    have hkl : (S.take k).length = k := by rw [List.length_take]; omega
    generalize S[k] = s0 at *
    clear hI hk
    gi_wp2
    refine ⟨Bel.refl A, fun A2 hA2 => ?_⟩
    obtain ⟨v, h2, h3, h4, h5⟩ := HI.out
    have HS0 := Lib.hid (show Boxed A2 w.heap.size 23 v from boxed_keep12 h2 hA2 (by simp; omega))
    have HO0 := Lib.hid (show OwnG intEl12 (w1.heap.size + 2) A2 v (S.take k) from h3.keep hA2 (fun x hx hm => by
      have h6 := (h3.lt x hx).1
      rw [List.mem_singleton] at hm; omega))
    have HBA := Lib.hid (show Below w.heap.size w A2 from h4.trans (hA2.below (Below.size h4) (fun x hx => by rw [List.mem_singleton] at hx; omega)))
    have HSA := Lib.hid (Nat.le_trans h5 hA2.size)
    obtain ⟨C, hC⟩ : ∃ C, C = S.take k := ⟨_, rfl⟩
    rw [← hC] at HO0 HNX hkl
    have hCl : C.length ≤ 1000 := by omega
    have c5 := HS0.out.cell
    clear h2 h3 h4 h5 hA2 HI hkl hC hAsz
    have HAL := Lib.hid ((Bel.refl A2).alloc (.cells #[.int .i64 s0] 3))
    have HO1 := Lib.hid (HO0.out.bel HAL.out)
    have HLIT := Lib.hid (tnew12 A2 (.cells #[.int .i64 s0] 3))
    have HS1 := Lib.hid (show Boxed (A2.alloc (.cells #[.int .i64 s0] 3)) w.heap.size 23 v from boxed_keep12 HS0.out (Keep.of_bel HAL.out []) (by simp))
    gi_wp2_with (gi_at_builtin; refine stop_here ?_)
    refine go_on ?_
    refine appendIn_all intOk12 rfl _ _ rfl rfl HO1.out [s0] rfl (src_at [s0] HLIT.out rfl rfl) (by simp only [List.length_singleton]; unfold maxLen; omega) (by simp only [List.length_singleton]; omega) (Nat.le_trans HSA.out HAL.out.size) ?_
    intro v4 w4 ho4 hk4 _
    obtain ⟨p4, c4, hv4⟩ := ownG_len ho4
    generalize (C ++ [s0]).length = m4 at hv4
    subst hv4
    have HO4 := Lib.hid ho4
    have HK4 := Lib.hid (show Keep v.ownBlock.toList (A2.alloc (.cells #[.int .i64 s0] 3)) w4 from hk4)
    have hnb : ∀ x ∈ v.ownBlock.toList, w1.heap.size + 2 ≤ x := fun x hx => (HO1.out.lt x (by rwa [Option.mem_toList] at hx)).1
    have HS4 := Lib.hid (show Boxed w4 w.heap.size 23 v from boxed_keep12 HS1.out hk4 (fun hm => by have := hnb _ hm; omega))
    have c6 := HS4.out.cell
    have f6 := HS4.out.frozen
    clear ho4 hk4
    gi_wp2
    have hkk : Keep (w.heap.size :: v.ownBlock.toList) A2 (w4.setCell ⟨w.heap.size, 0, none⟩ (.slice p4 m4 c4)) :=
      (((Keep.of_bel HAL.out (w.heap.size :: v.ownBlock.toList)).trans HK4.out (fun x hx => .inl (by simp [hx])))).setCell (p := ⟨w.heap.size, 0, none⟩) (.inl (by simp)) _
    refine ⟨⟨_, hkk, fun x hx => ?_⟩, ⟨_, HS4.out.set _, ?_, HBA.out.trans (hkk.below (Below.size HBA.out) (fun x hx => ?_)), Nat.le_trans HSA.out hkk.size⟩⟩
    · rcases List.mem_cons.1 hx with rfl | hx
      · exact ⟨by omega, by simp, by omega, by omega⟩
      · have := hnb x hx
        exact ⟨by omega, by simp, by omega, by omega⟩
    · rw [HNX.out]
      exact HO4.out.setCell (p := ⟨w.heap.size, 0, none⟩) (by show w.heap.size < w1.heap.size + 2; omega) _
    · rcases List.mem_cons.1 hx with rfl | hx
      · omega
      · have := hnb x hx; omega
  case done =>
    rintro W ⟨v, h2, h3, h4, h5⟩ hD
    rw [List.length_map, List.take_length] at h3
    obtain ⟨pp, cp, rfl⟩ := ownG_len h3
    have c5 := h2.cell
    have HO := Lib.hid h3; have HB := Lib.hid h4; have HDD := Lib.hid hD
    clear h2 h3 h4 hD
    gi_wp2
    refine ⟨by simp, .inl ⟨_, _, rfl, run_takeDeferred HDD.out, ?_⟩⟩
    exact ⟨_, results_tmp rfl _ _ _, _, rfl, (HO.out.keep (keep_putObj W _ _) (fun x hx hm => by have := (HO.out.lt x hx).1; rw [List.mem_singleton] at hm; omega)).low (by have := HSB0.out; omega), HB.out.trans ((keep_putObj W _ _).below (Below.size HB.out) (fun x hx => by rw [List.mem_singleton] at hx; have := HSB0.out; omega))⟩
set_option maxHeartbeats 1000000 in
theorem collect_any (b : Nat) (q : Option Addr) (c : Nat) (S : List Int) (w : World) (hS : S.length ≤ 1000) (h : IntsAt12 w q S) (hb : Boxed w b 23 (.slice q S.length c)) :
    Calls Try.prog 43 #[.func (.func 45) #[] #[.pointer (some ⟨b, 0, none⟩)]] w fun r w' => ∃ v, r = .returned v ∧ OwnG intEl12 w.heap.size w' v S ∧ Bel w w' := by
  have HC := Lib.hid (appseq_any b q c S w hS h hb)
  clear h hb
  go_enter Try.func43, Try.ntmps43
  go_wp2_with (fail)
  refine HC.out.mono ?_
  rintro r w2 ⟨v, rfl, ho, hb⟩
  have HO := Lib.hid ho; have HB := Lib.hid hb
  clear ho hb
  go_wp2_with (fail)
  go_ret
  exact ⟨_, rfl, HO.out, HB.out⟩
set_option maxHeartbeats 1000000 in
theorem sortedseq_any (b : Nat) (q : Option Addr) (c : Nat) (S : List Int) (w : World) (hS : S.length ≤ 1000) (h : IntsAt12 w q S) (hb : Boxed w b 23 (.slice q S.length c)) :
    Calls Try.prog 32 #[.func (.func 45) #[] #[.pointer (some ⟨b, 0, none⟩)]] w fun r w' => ∃ v, r = .returned v ∧ OwnG intEl12 w.heap.size w' v (S.mergeSort fun x y => decide (x ≤ y)) ∧ Bel w w' := by
  have HC := Lib.hid (collect_any b q c S w hS h hb)
  clear h hb
  go_enter Try.func32, Try.ntmps32
  go_wp2_with (fail)
  refine HC.out.mono ?_
  rintro r w2 ⟨v, rfl, ho, hb⟩
  have HB := Lib.hid hb
  have HSO := Lib.hid (sort_own12 ho hb.size hS)
  clear ho hb
  go_wp2_with (fail)
  refine HSO.out.mono ?_
  rintro r w3 ⟨rfl, ho, hb⟩
  have HO3 := Lib.hid ho
  have HB3 := Lib.hid (HB.out.trans_below hb)
  clear ho hb
  go_wp2_with (fail)
  go_ret
  exact ⟨_, rfl, HO3.out, HB3.out⟩
end Go.Proofs.Ytmdkpomgckkllaa
/- The program's anyIn, asked, withoutDeadEnd. -/
set_option maxRecDepth 100000
namespace Go.Proofs.Ytmdkpomgckkllaa
open Go.RowKit Go.Deep

theorem getD12 {T : List Int} {i : Nat} (h : i < T.length) : T.getD i 0 = T[i] := by rw [List.getD_eq_getElem?_getD, List.getElem?_eq_getElem h]; rfl
theorem any_sorted {f t : Int} : ∀ {T : List Int}, T.Pairwise (· ≤ ·) → ∀ i, i = T.countP (· < f) → T.any (fun s => decide (f ≤ s) && decide (s < t)) = (decide (i < T.length) && decide (T.getD i 0 < t))
  | [], _, i, hi => by simp
  | x :: T, h, i, hi => by
    have h1 := List.pairwise_cons.1 h
    by_cases hx : x < f
    · rw [List.countP_cons_of_pos (by simpa using hx)] at hi
      subst hi
      have ih := any_sorted (f := f) (t := t) h1.2 _ rfl
      rw [List.any_cons, decide_eq_false (show ¬ f ≤ x by omega), Bool.false_and, Bool.false_or, ih]
      simp
    · have h0 : T.countP (· < f) = 0 := by
        rw [List.countP_eq_zero]
        intro y hy
        have := h1.1 y hy
        simp; omega
      rw [List.countP_cons_of_neg (by simpa using hx), h0] at hi
      subst hi
      rw [List.any_cons, decide_eq_true (show f ≤ x by omega), Bool.true_and]
      by_cases hxt : x < t
      · simp [hxt]
      · have : T.any (fun s => decide (f ≤ s) && decide (s < t)) = false := by
          rw [List.any_eq_false]
          intro y hy
          have := h1.1 y hy
          simp; omega
        rw [this]
        simp [hxt]
theorem bsearch12 {B : Nat} {w : World} {v : Value} {T : List Int} (h : OwnG intEl12 B w v T) (hs : T.Pairwise (· ≤ ·)) (hl : T.length ≤ 1000) (x : Int) :
    Calls Try.prog 51 #[v, .int .i64 x] w fun r w' => r = .returned (.tuple #[.int .i64 (T.countP (· < x) : Nat), .bool (T.contains x)]) ∧ Drw w w' := by
  by_cases h0 : T = []
  · subst h0
    obtain ⟨p, c, rfl⟩ := ownG_len h
    refine (Any.slices_BinarySearch_int_empty Try.laysNm225 p c x w).mono ?_
    rintro r w' ⟨rfl, rfl⟩
    exact ⟨rfl, Drw.refl _⟩
  · obtain ⟨g, cap, rfl, _, _, _, hc⟩ := ownG_cells intOk12 h h0
    refine (Any.slices_BinarySearch_int Try.laysNm225 g 0 T.length cap T x w (Nat.le_refl _) (by omega) (fun j hj => ?_) (by rw [List.take_length]; exact hs)).mono ?_
    · have := hc j T[j] (List.getElem?_eq_getElem hj) 0 _ rfl
      rw [show j * intEl12.n + 0 = j from by show j * 1 + 0 = j; omega] at this
      rw [Nat.zero_add, this, getD12 hj]
    · rintro r w' ⟨rfl, n, rfl⟩
      rw [List.take_length]
      exact ⟨rfl, n, rfl⟩
set_option maxHeartbeats 1000000 in
theorem anyin_any {B : Nat} {w : World} {v : Value} {T : List Int} (h : OwnG intEl12 B w v T) (hs : T.Pairwise (· ≤ ·)) (hl : T.length ≤ 1000) (f t : Int) :
    Calls Try.prog 46 #[v, .int .i64 f, .int .i64 t] w fun r w' => r = .returned (.bool (T.any (fun s => decide (f ≤ s) && decide (s < t)))) ∧ Drw w w' := by
  have HB := Lib.hid (bsearch12 h hs hl f)
  obtain ⟨i, hi⟩ : ∃ i, i = T.countP (· < f) := ⟨_, rfl⟩
  have HA := Lib.hid (any_sorted (t := t) hs i hi)
  rw [← hi] at HB
  obtain ⟨b, hb⟩ : ∃ b, b = T.contains f := ⟨_, rfl⟩
  rw [← hb] at HB
  obtain ⟨p, c, rfl, hT⟩ := ints_own h
  have HT := Lib.hid hT
  clear hi hb h hT
  go_enter Try.func46, Try.ntmps46
  go_wp2_with (fail)
  refine HB.out.mono ?_
  rintro r w2 ⟨rfl, hd2⟩
  have HD2 := Lib.hid hd2
  by_cases hil : i < T.length
  · obtain ⟨a, ha, hc⟩ := HT.out i hil
    subst ha
    have hc2 : w2.cell? (a.add i) = some (.int .i64 T[i]) := (Below.cell hd2.bel (blk_of_cell hc)).trans hc
    have hii : (i : Int) < (T.length : Int) := by omega
    have HE := Lib.hid (show T.any (fun s => decide (f ≤ s) && decide (s < t)) = decide (T[i] < t) by rw [HA.out, decide_eq_true hil, Bool.true_and, getD12 hil])
    generalize T[i] = s0 at *
    clear hc hd2 HA HT
    go_wp2_with (fail)
    go_ret
    exact ⟨by rw [HE.out]; rfl, HD2.out⟩
  · have hii : ¬ (i : Int) < (T.length : Int) := by omega
    have HE := Lib.hid (show T.any (fun s => decide (f ≤ s) && decide (s < t)) = false by rw [HA.out, decide_eq_false hil, Bool.false_and])
    clear hd2 HA HT
    go_wp2_with (fail)
    go_ret
    exact ⟨by rw [HE.out]; rfl, HD2.out⟩
set_option maxHeartbeats 1000000 in
theorem pdead_any (p : Option Addr) (cap : Nat) (g : List EB) (w : World) (h : EntsAt w p g) (hc : g.length ≤ cap) (hl : g.length ≤ 10000) :
    Calls Try.prog 35 #[.slice p g.length cap] w fun r w' => ∃ n, ∃ (hn : n ≤ g.length), (∀ j (hj : j < g.length), n ≤ j → g[j].d = true) ∧ (∀ (h0 : 0 < n), (g[n - 1]'(by omega)).d = false) ∧ r = .returned (.slice p n cap) ∧ Bel w w' := by
  have H := Lib.hid h
  clear h
  go_enter Try.func35, Try.ntmps35
  go_wp2_with (fail)
  go_loopw [3] (fun nv x => ∃ n : Nat, n ≤ g.length ∧ nv = .int .i64 n ∧ (∀ j (hj : j < g.length), n ≤ j → g[j].d = true) ∧ Bel w x) (fun nv _ => (intOf nv).toNat)
  case atStart => exact ⟨g.length, Nat.le_refl _, rfl, fun j hj h => by omega, Bel.refl w⟩
  case round =>
    obtain ⟨n, hn, rfl, hall, hw⟩ := hrel
    have HW := Lib.hid hw; have HALL := Lib.hid hall
    by_cases h0 : n = 0
    · subst h0
      have hcc : (0 : Int) ≤ (cap : Int) := by omega
      clear hw hall
      go_wp2_with (fail)
      go_ret
      exact ⟨0, Nat.zero_le _, HALL.out, fun h0 => absurd h0 (by omega), rfl, HW.out⟩
    · obtain ⟨k, rfl⟩ : ∃ k, n = k + 1 := ⟨n - 1, by omega⟩
      have hkl : k < g.length := by omega
      obtain ⟨a, ha0, -⟩ := (H.out.bel hw) k hkl
      subst ha0
      obtain ⟨B, O, sp, ha, z0, z1, z2, z3⟩ := ent_at12 (H.out.bel hw) hkl
      have hki : (0 : Int) < (k : Int) + 1 := by omega
      have hsub : IntKind.i64.wrap ((k : Int) + 1 - 1) = (k : Int) := by rw [IntKind.wrap_i64]; omega
      have hsub2 : wrap64 ((k : Int) + 1 - 1) = (k : Int) := by rw [IntWalk.wrap64_in _ ⟨by omega, by omega⟩]; omega
      have hkk : (k : Int) < (g.length : Int) := by omega
      have hk0 : (0 : Int) ≤ (k : Int) := by omega
      have hcc : (k : Int) + 1 ≤ (cap : Int) := by omega
      have hc0 : (0 : Int) ≤ (k : Int) + 1 := by omega
      cases hd : g[k].d with
      | true =>
        have HX := Lib.hid (show ∀ j (hj : j < g.length), k ≤ j → g[j].d = true from fun j hj h => by
          by_cases e : j = k
          · subst e; exact hd
          · exact hall j hj (by omega))
        rw [hd] at z2
        generalize g[k] = e0 at *
        clear hw hall hd
        simp only [Int.natCast_add, Int.natCast_one]
        go_wp2_with (fail)
        go_roundw
        case rel => exact ⟨k, by omega, rfl, HX.out, HW.out⟩
        case measure => simp [intOf]
      | false =>
        have HX := Lib.hid hd
        rw [hd] at z2
        generalize hg0 : g[k] = e0 at z0 z1 z2 z3
        clear hw hall hd hg0
        simp only [Int.natCast_add, Int.natCast_one]
        go_wp2_with (fail)
        go_ret
        exact ⟨k + 1, hn, HALL.out, fun _ => HX.out, by rfl, HW.out⟩
end Go.Proofs.Ytmdkpomgckkllaa
/- The program's asked: those of a key's entries that are seen at one of the numbers. -/
set_option maxRecDepth 100000
namespace Go.Proofs.Ytmdkpomgckkllaa
open Go.RowKit Go.Deep

/-- The number of the entry ahead of the k-th one. -/
def prevO (g : List EB) : Nat → Option Int
  | 0 => none
  | k + 1 => (g[k]?).map EB.q
set_option maxHeartbeats 4000000 in
theorem asked_any {Bs : Nat} (p : Option Addr) (cap : Nat) (g : List EB) (v : Value) (T : List Int) (w : World) (h : EntsAt w p g) (hg : g.length ≤ 1000) (hT : OwnG intEl12 Bs w v T) (hs : T.Pairwise (· ≤ ·)) (hl : T.length ≤ 1000) :
    Calls Try.prog 34 #[.slice p g.length cap, v] w fun r w' => ∃ u, r = .returned u ∧ OwnG entEl w.heap.size w' u (askL T none g) ∧ Bel w w' := by
  have H := Lib.hid h
  have HT := Lib.hid hT
  have HAI := Lib.hid (fun (z : World) (hz : Bel w z) (a b : Int) => anyin_any (hT.bel hz) hs hl a b)
  clear h hT hs
  go_enter Try.func34, Try.ntmps34
  go_wp2_with (fail)
  go_loopw [5, 10] (fun fv iv x => ∃ (k : Nat) (D : List EB), k ≤ g.length ∧ iv = .int .i64 k ∧ OwnG entEl w.heap.size x fv D ∧ D ++ askL T (prevO g k) (g.drop k) = askL T none g ∧ D.length ≤ k ∧ Bel w x) (fun _ iv _ => g.length - (intOf iv).toNat)
  case atStart => exact ⟨0, [], Nat.zero_le _, rfl, OwnG.nil _ _ _, rfl, Nat.le_refl _, Bel.refl w⟩
  case round =>
    obtain ⟨k, D, hk, rfl, hown, hD, hDk, hw⟩ := hrel
    have HW := Lib.hid hw; have HO := Lib.hid hown; have HDD := Lib.hid hD
    obtain ⟨rp, rc, rfl⟩ := ownG_len hown
    have hDl : D.length ≤ 1000 := by omega
    by_cases hkl : k < g.length
    · obtain ⟨a, ha0, -⟩ := (H.out.bel hw) k hkl
      subst ha0
      obtain ⟨B, O, sp, ha, z0, z1, z2, z3⟩ := ent_at12 (H.out.bel hw) hkl
      have hii : (k : Int) < (g.length : Int) := by omega
      have hdk : g.drop k = g[k] :: g.drop (k + 1) := List.drop_eq_getElem_cons hkl
      have hpn : prevO g (k + 1) = some g[k].q := by show (g[k]?).map EB.q = _; rw [List.getElem?_eq_getElem hkl]; rfl
      by_cases hk0 : k = 0
      · subst hk0
        have HDN := Lib.hid (show D ++ (g[0] :: askL T (prevO g (0 + 1)) (g.drop (0 + 1))) = askL T none g by rw [← hD, hdk, hpn]; rfl)
        generalize g[0] = e0 at *
        have hb0 : (Bel wr wr) := Bel.refl wr
        have HB0 := Lib.hid hb0
        have HBN := Lib.hid ((Bel.refl wr).alloc (.cells #[.string e0.k, .int .i64 e0.q, .bool e0.d, .string e0.v] 36))
        have hw1 : ∃ z, z = wr.alloc (.cells #[.string e0.k, .int .i64 e0.q, .bool e0.d, .string e0.v] 36) := ⟨_, rfl⟩
        obtain ⟨w1, hw1⟩ := hw1
        have x0 : w1.cell? ⟨wr.heap.size, 0, none⟩ = some (.string e0.k) := by have := tnew12 wr (.cells #[.string e0.k, .int .i64 e0.q, .bool e0.d, .string e0.v] 36); rw [← hw1] at this; simp [World.cell?, this]
        have x1 : w1.cell? ⟨wr.heap.size, 1, none⟩ = some (.int .i64 e0.q) := by have := tnew12 wr (.cells #[.string e0.k, .int .i64 e0.q, .bool e0.d, .string e0.v] 36); rw [← hw1] at this; simp [World.cell?, this]
        have x2 : w1.cell? ⟨wr.heap.size, 2, none⟩ = some (.bool e0.d) := by have := tnew12 wr (.cells #[.string e0.k, .int .i64 e0.q, .bool e0.d, .string e0.v] 36); rw [← hw1] at this; simp [World.cell?, this]
        have x3 : w1.cell? ⟨wr.heap.size, 3, none⟩ = some (.string e0.v) := by have := tnew12 wr (.cells #[.string e0.k, .int .i64 e0.q, .bool e0.d, .string e0.v] 36); rw [← hw1] at this; simp [World.cell?, this]
        have HB1 := Lib.hid (show Bel wr w1 by rw [hw1]; exact HBN.out)
        clear hw hown hD hdk hpn hb0 HBN
        go_wp2_with (fail)
        rw [← hw1]
        clear hw1
        go_quiet (fail)
        have HB2 := Lib.hid (HB1.out.drewN nq)
        have HLIT0 := Lib.hid (tnew12 (w1.drewN nq) (.cells #[.string e0.k, .int .i64 e0.q, .bool e0.d, .string e0.v] 36))
        have HAL := Lib.hid ((Bel.refl (w1.drewN nq)).alloc (.cells #[.string e0.k, .int .i64 e0.q, .bool e0.d, .string e0.v] 36))
        have HO1 := Lib.hid ((HO.out.bel HB2.out).bel HAL.out)
        have HWA := Lib.hid ((HW.out.trans HB2.out).trans HAL.out)
        go_wp2_with (at_builtin; refine stop_here ?_)
        refine go_on ?_
        refine append_all entOk rfl _ _ rfl rfl HO1.out [e0] rfl (src_at [e0] HLIT0.out rfl rfl) (by simp only [List.length_singleton]; unfold maxLen; omega) (by simp only [List.length_singleton]; omega) HWA.out.size ?_
        intro v7 w7 ho7 hk7 _
        obtain ⟨p7, c7, hv7⟩ := ownG_len ho7
        generalize (D ++ [e0]).length = m7 at hv7
        subst hv7
        have HO7 := Lib.hid ho7
        have HW7 := Lib.hid (HWA.out.trans_below (hk7.own HWA.out.size (fun kk hkk => (HO1.out.lt kk hkk).1)))
        clear ho7 hk7
        go_wp2_with (fail)
        go_roundw
        case rel => exact ⟨0 + 1, D ++ [e0], hkl, by go_num, HO7.out, by rw [List.append_assoc]; exact HDN.out, by simp only [List.length_append, List.length_singleton]; omega, HW7.out⟩
        case measure => simp [intOf]; omega
      · obtain ⟨m, rfl⟩ : ∃ m, k = m + 1 := ⟨k - 1, by omega⟩
        have hml : m < g.length := by omega
        obtain ⟨B1, O1, sp1, hb, -, y1, -, -⟩ := ent_at12 (H.out.bel hw) hml
        have hpm : prevO g (m + 1) = some g[m].q := by show (g[m]?).map EB.q = _; rw [List.getElem?_eq_getElem hml]; rfl
        have HDN0 := Lib.hid (show T.any (fun s => decide (g[m + 1].q ≤ s) && decide (s < g[m].q)) = true → D ++ (g[m + 1] :: askL T (prevO g (m + 1 + 1)) (g.drop (m + 1 + 1))) = askL T none g from fun hh => by
          rw [← hD, hdk, hpn, hpm, askL, if_pos hh])
        have HDM0 := Lib.hid (show T.any (fun s => decide (g[m + 1].q ≤ s) && decide (s < g[m].q)) = false → D ++ askL T (prevO g (m + 1 + 1)) (g.drop (m + 1 + 1)) = askL T none g from fun hh => by
          rw [← hD, hdk, hpn, hpm, askL, if_neg (by rw [hh]; simp)])
        generalize g[m + 1] = e0 at *
        generalize g[m].q = q1 at *
        have HBN := Lib.hid ((Bel.refl wr).alloc (.cells #[.string e0.k, .int .i64 e0.q, .bool e0.d, .string e0.v] 36))
        obtain ⟨w1, hw1⟩ : ∃ z, z = wr.alloc (.cells #[.string e0.k, .int .i64 e0.q, .bool e0.d, .string e0.v] 36) := ⟨_, rfl⟩
        have x0 : w1.cell? ⟨wr.heap.size, 0, none⟩ = some (.string e0.k) := by have := tnew12 wr (.cells #[.string e0.k, .int .i64 e0.q, .bool e0.d, .string e0.v] 36); rw [← hw1] at this; simp [World.cell?, this]
        have x1 : w1.cell? ⟨wr.heap.size, 1, none⟩ = some (.int .i64 e0.q) := by have := tnew12 wr (.cells #[.string e0.k, .int .i64 e0.q, .bool e0.d, .string e0.v] 36); rw [← hw1] at this; simp [World.cell?, this]
        have x2 : w1.cell? ⟨wr.heap.size, 2, none⟩ = some (.bool e0.d) := by have := tnew12 wr (.cells #[.string e0.k, .int .i64 e0.q, .bool e0.d, .string e0.v] 36); rw [← hw1] at this; simp [World.cell?, this]
        have x3 : w1.cell? ⟨wr.heap.size, 3, none⟩ = some (.string e0.v) := by have := tnew12 wr (.cells #[.string e0.k, .int .i64 e0.q, .bool e0.d, .string e0.v] 36); rw [← hw1] at this; simp [World.cell?, this]
        have HB1 := Lib.hid (show Bel wr w1 by rw [hw1]; exact HBN.out)
        have HSS := Lib.hid (show ∀ z, Bel w1 z → (z.cell? ⟨wr.heap.size, 0, none⟩ = some (.string e0.k) ∧ z.cell? ⟨wr.heap.size, 1, none⟩ = some (.int .i64 e0.q) ∧ z.cell? ⟨wr.heap.size, 2, none⟩ = some (.bool e0.d) ∧ z.cell? ⟨wr.heap.size, 3, none⟩ = some (.string e0.v)) ∧ z.cell? ⟨B1, O1 + 1, none⟩ = some (.int .i64 q1) from fun z hz => ⟨⟨cl12 hz x0, cl12 hz x1, cl12 hz x2, cl12 hz x3⟩, cl12 (HB1.out.trans hz) y1⟩)
        have hm1 : wrap64 ((m : Int) + 1 - 1) = (m : Int) := by rw [IntWalk.wrap64_in _ ⟨by omega, by omega⟩]; omega
        have hm2 : IntKind.i64.wrap ((m : Int) + 1 - 1) = (m : Int) := by rw [IntKind.wrap_i64]; omega
        have hm3 : IntKind.i64.wrap (m : Int) = (m : Int) := by rw [IntKind.wrap_i64]; omega
        have hmg : (m : Int) < (g.length : Int) := by omega
        have hm0 : (0 : Int) ≤ (m : Int) := by omega
        have hmne : ((m : Int) + 1 == 0) = false := by rw [beq_eq_false_iff_ne]; omega
        have hmk : (m : Int) + 1 < (g.length : Int) := by omega
        have hm10 : (0 : Int) ≤ (m : Int) + 1 := by omega
        have htn : ((m : Int) + 1).toNat = m + 1 := by omega
        clear hw hown hD hdk hpn hpm HBN hii
        simp only [Int.natCast_add, Int.natCast_one]
        go_wp2_with (fail)
        rw [← hw1]
        clear hw1
        refine wp_region_held_drew (S := fun z => (z.cell? ⟨wr.heap.size, 0, none⟩ = some (.string e0.k) ∧ z.cell? ⟨wr.heap.size, 1, none⟩ = some (.int .i64 e0.q) ∧ z.cell? ⟨wr.heap.size, 2, none⟩ = some (.bool e0.d) ∧ z.cell? ⟨wr.heap.size, 3, none⟩ = some (.string e0.v)) ∧ z.cell? ⟨B1, O1 + 1, none⟩ = some (.int .i64 q1)) (by kernel_rfl) (HSS.out _ (Bel.refl w1).drew) (fun hHeld => ?_)
        refine wpAnyH_take (i := 0) (oi := { dst := some 15, op := Op.move (Operand.tmp 6), type := 3, pos := "merge.go:64", after := #[], guard := none }) (v := ?_) rfl (by kernel_rfl) (by kernel_rfl) (by kernel_rfl) (fun _ _ _ h => h) (Or.inl ⟨by rfl, ?_⟩) (by assumption) ?_
        rotate_left
        · (intro w hSw; (try dsimp only at hSw); first | (go_simp; done) | (go_simp; with_reducible rfl))
        try simp only [Act.put, List.setIfInBounds_toArray, List.set_cons_zero, List.set_cons_succ]
        refine wpAnyH_take (i := 1) (oi := { dst := some 16, op := Op.binOp BinOp.eql 3 (Operand.tmp 15) (Operand.const (Value.int IntKind.i64 0)) 3, type := 4, pos := "merge.go:64", after := #[{ on := 0, ground := Ground.data }], guard := none }) (v := ?_) rfl (by kernel_rfl) (by kernel_rfl) (by kernel_rfl) (fun _ _ _ h => h) (Or.inl ⟨by rfl, ?_⟩) (by assumption) ?_
        rotate_left
        · (intro w hSw; (try dsimp only at hSw); first | (go_simp; done) | (go_simp; with_reducible rfl))
        try simp only [Act.put, List.setIfInBounds_toArray, List.set_cons_zero, List.set_cons_succ]
        refine wpAnyH_take (i := 2) (oi := { dst := some 17, op := Op.move (Operand.tmp 16), type := 4, pos := "merge.go:64", after := #[{ on := 1, ground := Ground.data }], guard := none }) (v := ?_) rfl (by kernel_rfl) (by kernel_rfl) (by kernel_rfl) (fun _ _ _ h => h) (Or.inl ⟨by rfl, ?_⟩) (by assumption) ?_
        rotate_left
        · (intro w hSw; (try dsimp only at hSw); first | (go_simp; done) | (go_simp; with_reducible rfl))
        try simp only [Act.put, List.setIfInBounds_toArray, List.set_cons_zero, List.set_cons_succ]
        refine wpAnyH_take (i := 3) (oi := { dst := some 18, op := Op.move (Operand.tmp 1), type := 23, pos := "merge.go:64", after := #[{ on := 2, ground := Ground.guard }], guard := some (2, false) }) (v := ?_) rfl (by kernel_rfl) (by kernel_rfl) (by kernel_rfl) (fun _ _ _ h => h) (Or.inl ⟨by rfl, ?_⟩) (by assumption) ?_
        rotate_left
        · (intro w hSw; (try dsimp only at hSw); first | (go_simp; done) | (go_simp; with_reducible rfl))
        try simp only [Act.put, List.setIfInBounds_toArray, List.set_cons_zero, List.set_cons_succ]
        refine wpAnyH_take (i := 4) (oi := { dst := some 19, op := Op.fieldAddr 36 (Operand.tmp 7) 1, type := 0, pos := "merge.go:64", after := #[{ on := 2, ground := Ground.guard }], guard := some (2, false) }) (v := ?_) rfl (by kernel_rfl) (by kernel_rfl) (by kernel_rfl) (fun _ _ _ h => h) (Or.inl ⟨by rfl, ?_⟩) (by assumption) ?_
        rotate_left
        · (intro w hSw; (try dsimp only at hSw); first | (go_simp; done) | (go_simp; with_reducible rfl))
        try simp only [Act.put, List.setIfInBounds_toArray, List.set_cons_zero, List.set_cons_succ]
        refine wpAnyH_take (i := 5) (oi := { dst := some 20, op := Op.load 3 (Operand.tmp 19), type := 3, pos := "merge.go:64", after := #[{ on := 4, ground := Ground.data }, { on := 2, ground := Ground.guard }], guard := some (2, false) }) (v := ?_) rfl (by kernel_rfl) (by kernel_rfl) (by kernel_rfl) (fun _ _ _ h => h) (Or.inl ⟨by rfl, ?_⟩) (by assumption) ?_
        rotate_left
        · (intro w hSw; (try dsimp only at hSw); first | (go_simp; done) | (go_simp; with_reducible rfl))
        try simp only [Act.put, List.setIfInBounds_toArray, List.set_cons_zero, List.set_cons_succ]
        refine wpAnyH_take (i := 6) (oi := { dst := some 21, op := Op.move (Operand.tmp 0), type := 27, pos := "merge.go:64", after := #[{ on := 2, ground := Ground.guard }], guard := some (2, false) }) (v := ?_) rfl (by kernel_rfl) (by kernel_rfl) (by kernel_rfl) (fun _ _ _ h => h) (Or.inl ⟨by rfl, ?_⟩) (by assumption) ?_
        rotate_left
        · (intro w hSw; (try dsimp only at hSw); first | (go_simp; done) | (go_simp; with_reducible rfl))
        try simp only [Act.put, List.setIfInBounds_toArray, List.set_cons_zero, List.set_cons_succ]
        refine wpAnyH_take (i := 7) (oi := { dst := some 22, op := Op.move (Operand.tmp 6), type := 3, pos := "merge.go:64", after := #[{ on := 2, ground := Ground.guard }], guard := some (2, false) }) (v := ?_) rfl (by kernel_rfl) (by kernel_rfl) (by kernel_rfl) (fun _ _ _ h => h) (Or.inl ⟨by rfl, ?_⟩) (by assumption) ?_
        rotate_left
        · (intro w hSw; (try dsimp only at hSw); first | (go_simp; done) | (go_simp; with_reducible rfl))
        try simp only [Act.put, List.setIfInBounds_toArray, List.set_cons_zero, List.set_cons_succ]
        refine wpAnyH_take (i := 8) (oi := { dst := some 23, op := Op.binOp BinOp.sub 3 (Operand.tmp 22) (Operand.const (Value.int IntKind.i64 1)) 3, type := 3, pos := "merge.go:64", after := #[{ on := 7, ground := Ground.data }, { on := 2, ground := Ground.guard }], guard := some (2, false) }) (v := ?_) rfl (by kernel_rfl) (by kernel_rfl) (by kernel_rfl) (fun _ _ _ h => h) (Or.inl ⟨by rfl, ?_⟩) (by assumption) ?_
        rotate_left
        · (intro w hSw; (try dsimp only at hSw); first | (go_simp; done) | (go_simp; with_reducible rfl))
        try simp only [Act.put, List.setIfInBounds_toArray, List.set_cons_zero, List.set_cons_succ]
        refine wpAnyH_take (i := 9) (oi := { dst := some 24, op := Op.indexAddr 27 (Operand.tmp 21) (Operand.tmp 23), type := 0, pos := "merge.go:64", after := #[{ on := 6, ground := Ground.data }, { on := 8, ground := Ground.data }, { on := 2, ground := Ground.guard }], guard := some (2, false) }) (v := ?_) rfl (by kernel_rfl) (by kernel_rfl) (by kernel_rfl) (fun _ _ _ h => h) (Or.inl ⟨by rfl, ?_⟩) (by assumption) ?_
        rotate_left
        · (intro w hSw; (try dsimp only at hSw); first | (go_simp; done) | (go_simp; with_reducible rfl))
        try simp only [Act.put, List.setIfInBounds_toArray, List.set_cons_zero, List.set_cons_succ]
        refine wpAnyH_take (i := 10) (oi := { dst := some 25, op := Op.fieldAddr 36 (Operand.tmp 24) 1, type := 0, pos := "merge.go:64", after := #[{ on := 9, ground := Ground.data }, { on := 2, ground := Ground.guard }], guard := some (2, false) }) (v := ?_) rfl (by kernel_rfl) (by kernel_rfl) (by kernel_rfl) (fun _ _ _ h => h) (Or.inl ⟨by rfl, ?_⟩) (by assumption) ?_
        rotate_left
        · (intro w hSw; (try dsimp only at hSw); first | (go_simp; done) | (go_simp; with_reducible rfl))
        try simp only [Act.put, List.setIfInBounds_toArray, List.set_cons_zero, List.set_cons_succ]
        refine wpAnyH_take (i := 11) (oi := { dst := some 26, op := Op.load 3 (Operand.tmp 25), type := 3, pos := "merge.go:64", after := #[{ on := 10, ground := Ground.data }, { on := 2, ground := Ground.guard }], guard := some (2, false) }) (v := ?_) rfl (by kernel_rfl) (by kernel_rfl) (by kernel_rfl) (fun _ _ _ h => h) (Or.inl ⟨by rfl, ?_⟩) (by assumption) ?_
        rotate_left
        · (intro w hSw; (try dsimp only at hSw); first | (go_simp; done) | (go_simp; with_reducible rfl))
        try simp only [Act.put, List.setIfInBounds_toArray, List.set_cons_zero, List.set_cons_succ]
        refine wpAnyH_ready (rs := [12]) (by kernel_rfl) (by simp) ?_
        refine AllReadyH.cons (o := { dst := some 27, op := Op.call { callee := Callee.value (Operand.func 46), args := #[Operand.tmp 18, Operand.tmp 20, Operand.tmp 26], argTypes := #[23, 3, 3] }, type := 4, pos := "merge.go:64", after := #[{ on := 3, ground := Ground.data }, { on := 5, ground := Ground.data }, { on := 11, ground := Ground.data }, { on := 2, ground := Ground.chain }, { on := 2, ground := Ground.guard }], guard := some (2, false) }) rfl (fun K hK => ?_) AllReadyH.nil
        go_simp
        refine (HAI.out _ ((HW.out.trans HB1.out).drew) e0.q q1).mono ?_
        rintro r w2 ⟨rfl, hd2⟩
        have HB2 := Lib.hid ((HB1.out.drew).trans hd2.bel)
        have HB12 := Lib.hid (((Bel.refl w1).drew).trans hd2.bel)
        dsimp only
        refine hK.out _ _ (HSS.out _ HB12.out) (fun hHeld => ?_)
        clear hK K hd2
        try simp only [Act.put, List.setIfInBounds_toArray, List.set_cons_zero, List.set_cons_succ]
        refine wpAnyH_take (i := 13) (oi := { dst := some 28, op := Op.pick (Operand.tmp 17) (Operand.const (Value.bool true)) (Operand.tmp 27), type := 4, pos := "merge.go:64", after := #[{ on := 2, ground := Ground.data }, { on := 12, ground := Ground.data }], guard := none }) (v := ?_) rfl (by kernel_rfl) (by kernel_rfl) (by kernel_rfl) (fun _ _ _ h => h) (Or.inl ⟨by rfl, ?_⟩) (by assumption) ?_
        rotate_left
        · (intro w hSw; (try dsimp only at hSw); first | (go_simp; done) | (go_simp; with_reducible rfl))
        try simp only [Act.put, List.setIfInBounds_toArray, List.set_cons_zero, List.set_cons_succ]
        refine wpAnyH_done (by kernel_rfl) ?_ _
        clear hHeld
        obtain ⟨⟨t0, t1, t2, t3⟩, -⟩ := HSS.out _ HB12.out
        cases hA : T.any (fun s => decide (e0.q ≤ s) && decide (s < q1)) with
        | true =>
          have HDN := Lib.hid (HDN0.out hA)
          clear hA
          have HLIT0 := Lib.hid (tnew12 w2 (.cells #[.string e0.k, .int .i64 e0.q, .bool e0.d, .string e0.v] 36))
          have HAL := Lib.hid ((Bel.refl w2).alloc (.cells #[.string e0.k, .int .i64 e0.q, .bool e0.d, .string e0.v] 36))
          have HO1 := Lib.hid ((HO.out.bel HB2.out).bel HAL.out)
          have HWA := Lib.hid ((HW.out.trans HB2.out).trans HAL.out)
          go_wp2_with (at_builtin; refine stop_here ?_)
          refine go_on ?_
          refine append_all entOk rfl _ _ rfl rfl HO1.out [e0] rfl (src_at [e0] HLIT0.out rfl rfl) (by simp only [List.length_singleton]; unfold maxLen; omega) (by simp only [List.length_singleton]; omega) HWA.out.size ?_
          intro v7 w7 ho7 hk7 _
          obtain ⟨p7, c7, hv7⟩ := ownG_len ho7
          generalize (D ++ [e0]).length = m7 at hv7
          subst hv7
          have HO7 := Lib.hid ho7
          have HW7 := Lib.hid (HWA.out.trans_below (hk7.own HWA.out.size (fun kk hkk => (HO1.out.lt kk hkk).1)))
          clear ho7 hk7
          go_wp2_with (fail)
          go_roundw
          case rel => exact ⟨m + 1 + 1, D ++ [e0], hkl, by go_num, HO7.out, by rw [List.append_assoc]; exact HDN.out, by simp only [List.length_append, List.length_singleton]; omega, HW7.out⟩
          case measure => simp [intOf]; omega
        | false =>
          have HDN := Lib.hid (HDM0.out hA)
          clear hA
          go_wp2_with (fail)
          go_roundw
          case rel => exact ⟨m + 1 + 1, D, hkl, by go_num, HO.out.bel HB2.out, HDN.out, by omega, HW.out.trans HB2.out⟩
          case measure => simp [intOf]; omega
    · obtain rfl : k = g.length := by omega
      have hii : ¬ (g.length : Int) < (g.length : Int) := by omega
      have HE := Lib.hid (show D = askL T none g by
        rw [List.drop_length] at hD
        rw [← hD]
        cases g.length with
        | zero => simp [askL]
        | succ k => cases prevO g (k + 1) <;> simp [askL])
      clear hw hown hD
      go_wp2_with (fail)
      go_ret
      exact ⟨_, rfl, by rw [← HE.out]; exact HO.out, HW.out⟩
end Go.Proofs.Ytmdkpomgckkllaa
/- The program's Thin: a loop over the entries of each key. -/
set_option maxRecDepth 100000
namespace Go.Proofs.Ytmdkpomgckkllaa
open Go.RowKit Go.Shelf Go.Deep

attribute [local go_sem] Oper.semAt_some

theorem sorted12 (S : List Int) : (S.mergeSort fun x y => decide (x ≤ y)).Pairwise (· ≤ ·) := by
  have := List.pairwise_mergeSort (le := fun x y : Int => decide (x ≤ y)) (fun a b c h1 h2 => by simp at *; omega) (fun a b => by simp; omega) S
  exact this.imp (fun h => by simpa using h)
theorem thin_false {S : List Int} {g : List EB} (h : OneKey g) (hq : ∀ e ∈ g, e.q ≤ 4611686018427387904) : thinL S false g = askL (S.mergeSort fun x y => decide (x ≤ y)) none g := by
  show g.filter (needB g S) = _
  rw [ask_one h hq]
  exact ask_same (fun s => by rw [List.mem_mergeSort]) _ _
theorem one_sub {g r : List EB} (h : OneKey g) (hs : r.Sublist g) : OneKey r := ⟨h.1.sublist hs, fun a ha b hb => h.2 a (hs.subset ha) b (hs.subset hb)⟩
theorem thin_true {S : List Int} {g : List EB} (h : OneKey g) (hq : ∀ e ∈ g, e.q ≤ 4611686018427387904) {n : Nat} (hn : n ≤ (askL (S.mergeSort fun x y => decide (x ≤ y)) none g).length)
    (h1 : ∀ j (hj : j < (askL (S.mergeSort fun x y => decide (x ≤ y)) none g).length), n ≤ j → (askL (S.mergeSort fun x y => decide (x ≤ y)) none g)[j].d = true) (h2 : ∀ (h0 : 0 < n), ((askL (S.mergeSort fun x y => decide (x ≤ y)) none g)[n - 1]'(by omega)).d = false) :
    thinL S true g = (askL (S.mergeSort fun x y => decide (x ≤ y)) none g).take n := by
  have hA : g.filter (needB g S) = askL (S.mergeSort fun x y => decide (x ≤ y)) none g := thin_false h hq
  show (g.filter (needB g S)).filter (fun e => !endsB (g.filter (needB g S)) e) = _
  rw [hA]
  exact cut_end (one_sub h (ask_sub g none)) hn h1 h2
theorem own_below {α : Type} {E : El α} {B : Nat} {w x : World} {v : Value} {L : List α} {F : List Nat} (h : OwnG E B w v L) (hk : Keep F w x) {m : Nat} (hm : ∀ k, v.ownBlock = some k → k < m) (hF : ∀ b ∈ F, m ≤ b) : OwnG E B x v L :=
  h.keep hk (fun k hk' hF' => by have := hm k hk'; have := hF k hF'; omega)
/-- What holds ahead of the k-th round: what is needed so far lies in its box. -/
def ThinI (D b5 b7 b8 : Nat) (w : World) (last : Bool) (vT : Value) (T : List Int) (f : GR → List EB) (gs : List GR) (k : Nat) (W : World) : Prop :=
  ∃ v, Boxed W b5 4 (.bool last) ∧ Boxed W b7 23 vT ∧ OwnG intEl12 w.heap.size W vT T ∧ Boxed W b8 27 v ∧ OwnG entEl (D + 2) W v (((gs.take k).map f).flatten) ∧ Below w.heap.size w W ∧ D + 2 ≤ W.heap.size
set_option maxHeartbeats 4000000 in
theorem pthin_any (p q : Option Addr) (cap cap' : Nat) (L : List EB) (S : List Int) (last : Bool) (w : World) (h : EntsAt w p L) (hc : L.length ≤ cap) (hI : IntsAt12 w q S) (hS : Srt L) (hL : L.length ≤ 1000) (hSl : S.length ≤ 20) (hq : ∀ e ∈ L, e.q ≤ 4611686018427387904) :
    Calls Try.prog 16 #[.slice p L.length cap, .slice q S.length cap', .bool last] w fun r w' => ∃ v, r = .returned v ∧ OwnG entEl w.heap.size w' v (thinL S last L) ∧ Bel w w' := by
  have HV := Lib.hid (thin_grps (S := S) (last := last) _ p cap L (Nat.le_refl _) hS)
  have HAT := Lib.hid (grps_at _ p cap L (Nat.le_refl _) h hc)
  have HONE := Lib.hid (grps_one _ p cap L (Nat.le_refl _) hS)
  have hgl := grps_len _ p cap L (Nat.le_refl _)
  have HE := Lib.hid h
  have HC := Lib.hid hc
  have HII := Lib.hid hI
  have HQ := Lib.hid hq
  clear h hc hS hI hq
  refine (callsIn_wide (n := 9)).1 ?_
  refine callsIn_of_wp_marks Try.func16 rfl trivial ?_ rfl
  simp only [Try.ntmps16, List.size_toArray, List.length_cons, List.length_nil, Nat.reduceAdd, Nat.reduceSub, Array.replicate_succ, Array.replicate_zero, List.push_toArray, List.append_toArray, List.nil_append, List.cons_append]
  gi_wp2
  obtain ⟨w1, hw1⟩ : ∃ z, z = w.alloc (.cells #[.bool last] 4) := ⟨_, rfl⟩
  rw [← hw1]
  have hb1 : Bel w w1 := by rw [hw1]; exact (Bel.refl w).alloc _
  have x0 : Boxed w1 w.heap.size 4 (.bool last) := by rw [hw1]; exact Boxed.new w _ _
  have HB1 := Lib.hid hb1
  clear hw1 hb1
  refine ⟨trivial, ?_⟩
  refine (callsIn_wide.2 (values_any q S.length cap' w1)).mono ?_
  rintro e2 w2 ⟨rfl, hw2⟩
  have hb2 : Bel w1 w2 := by rw [hw2]; exact (Bel.refl w1).alloc _
  have HSE := Lib.hid (sortedseq_any w1.heap.size q cap' S w2 (by omega) (HII.out.bel (HB1.out.trans hb2)) (by rw [hw2]; exact Boxed.new w1 _ _))
  have X2 := Lib.hid (show Boxed w2 w.heap.size 4 (.bool last) from boxed_keep12 x0 (Keep.of_bel hb2 []) (by simp))
  have HB2 := Lib.hid (HB1.out.trans hb2)
  clear hw2 hb2 x0
  gi_wp2
  refine ⟨trivial, ?_⟩
  refine (callsIn_wide.2 HSE.out).mono ?_
  rintro e3 w3 ⟨vT, rfl, hoT, hb3⟩
  obtain ⟨T, hT⟩ : ∃ T, T = S.mergeSort fun x y => decide (x ≤ y) := ⟨_, rfl⟩
  rw [← hT] at hoT
  have HOT := Lib.hid hoT
  have HTB := Lib.hid (show ∀ k, vT.ownBlock = some k → k < w3.heap.size from fun k hk => (hoT.lt k hk).2)
  have X3 := Lib.hid (show Boxed w3 w.heap.size 4 (.bool last) from boxed_keep12 X2.out (Keep.of_bel hb3 []) (by simp))
  have HB3 := Lib.hid (HB2.out.trans hb3)
  have h2s : w.heap.size ≤ w2.heap.size := HB2.out.size
  obtain ⟨tp, tc, htv⟩ := ownG_len hoT
  have HTV := Lib.hid htv
  have HTS := Lib.hid (show T.Pairwise (· ≤ ·) by rw [hT]; exact sorted12 S)
  have hTl : T.length ≤ 1000 := by rw [hT, List.length_mergeSort]; omega
  rw [htv]
  clear hoT hb3 X2 HSE htv
  generalize hTL : T.length = tl at *
  gi_wp2
  obtain rfl := HTV.out
  clear HTV
  refine ⟨trivial, ?_⟩
  refine (keys_in _ p L.length cap _).mono ?_
  rintro e4 w4 ⟨rfl, hw4⟩
  simp only [World.size_alloc] at hw4 ⊢
  have hb4 : Bel w3 w4 := by rw [hw4]; exact (((Bel.refl w3).alloc _).alloc _).alloc _
  have x7 : Boxed w4 w3.heap.size 23 (.slice tp tl tc) := by rw [hw4]; exact ((Boxed.new w3 _ _).alloc _).alloc _
  have x8 : Boxed w4 (w3.heap.size + 1) 27 (.slice none 0 0) := by
    have h := (Boxed.new (w3.alloc (.cells #[.slice tp tl tc] 23)) 27 (.slice none 0 0)).alloc (.cells #[.slice p L.length cap] 27)
    rw [World.size_alloc] at h
    rw [hw4]; exact h
  have x9 : Boxed w4 (w3.heap.size + 1 + 1) 27 (.slice p L.length cap) := by
    have h := Boxed.new ((w3.alloc (.cells #[.slice tp tl tc] 23)).alloc (.cells #[.slice none 0 0] 27)) 27 (.slice p L.length cap)
    rw [World.size_alloc, World.size_alloc] at h
    rw [hw4]; exact h
  have hsz4 : w3.heap.size + 3 ≤ w4.heap.size := by rw [hw4]; simp
  have HB4 := Lib.hid (HB3.out.trans hb4)
  have h3s : w.heap.size < w3.heap.size := X3.out.lt
  have HT := keys_tells (9 - 1) (w3.heap.size + 1 + 1) p cap L w w4 (by omega) HE.out HC.out HB4.out x9 (by omega) (by omega)
  have HX7 := Lib.hid x7; have HX8 := Lib.hid x8
  have HX5 := Lib.hid (show Boxed w4 w.heap.size 4 (.bool last) from boxed_keep12 X3.out (Keep.of_bel hb4 []) (by simp))
  have HOT4 := Lib.hid ((HOT.out.bel hb4).low h2s)
  have HSB0 := Lib.hid (show w.heap.size ≤ w4.heap.size by omega)
  clear hw4 x7 x8 x9 hb4 HB1 HB2 HB3 HOT X3
  obtain ⟨gs, hgs⟩ : ∃ gs, gs = grpsA p cap L := ⟨_, rfl⟩
  rw [← hgs] at HT HV HAT hgl HONE
  clear hgs HE HC
  have HSL := Lib.hid hT
  have HTL0 := Lib.hid (show T.length ≤ 1000 by omega)
  clear hT hTL
  gi_wp2
  refine range12 (by omega) (gf := 41) (lb := #[.pointer (some ⟨w3.heap.size + 1 + 1, 0, none⟩)]) rfl (run_enter12 Try.func41 rfl rfl) HT (Bel.refl w4) (fun b hb => by rw [List.mem_singleton] at hb; omega) HSB0.out (fun k h => by rw [List.getElem_map]; rfl)
    (fun k W => ThinI w4.heap.size w.heap.size w3.heap.size (w3.heap.size + 1) w last (.slice tp tl tc) T (fun t => thinL S last t.g) gs k W) ?hI ?h0 ?round ?done
  case hI =>
    rintro k A B ⟨v, h1, h2, h3, h4, h5, h6, h7⟩ hk
    have hF : ∀ x ∈ (w4.heap.size :: (w4.heap.size + 1) :: [w3.heap.size + 1 + 1]), x = w4.heap.size ∨ x = w4.heap.size + 1 ∨ x = w3.heap.size + 2 := fun x hx => by simpa using hx
    refine ⟨v, boxed_keep12 h1 hk (fun hm => by have := hF _ hm; omega), boxed_keep12 h2 hk (fun hm => by have := hF _ hm; omega), own_below h3 hk HTB.out (fun b hb => by have := hF _ hb; omega), boxed_keep12 h4 hk (fun hm => by have := hF _ hm; omega), h5.keep hk (fun x hx hm => ?_), h6.trans (hk.below (Below.size h6) (fun x hx => by have := hF _ hx; omega)), Nat.le_trans h7 hk.size⟩
    have h8 := (h5.lt x hx).1
    have := hF _ hm
    omega
  case h0 =>
    intro W1 hb hsz
    exact ⟨_, boxed_keep12 HX5.out (Keep.of_bel hb []) (by simp), boxed_keep12 HX7.out (Keep.of_bel hb []) (by simp), HOT4.out.bel hb, boxed_keep12 HX8.out (Keep.of_bel hb []) (by simp), OwnG.nil _ _ _, HB4.out.trans hb, hsz⟩
  case round =>
    intro l k hk A hI hAsz
    have hk' : k < gs.length := by simpa using hk
    rw [show (gs.map GR.enc)[k] = #[.slice gs[k].p gs[k].g.length gs[k].c] from by rw [List.getElem_map]; rfl]
    have HI := Lib.hid hI
    have hnx : ((gs.take (k + 1)).map (fun t => thinL S last t.g)).flatten = ((gs.take k).map (fun t => thinL S last t.g)).flatten ++ thinL S last gs[k].g := by
      rw [List.take_add_one, List.getElem?_eq_getElem hk', Option.toList_some, List.map_append, List.flatten_append]; simp
    have HNX := Lib.hid hnx
    have HATK := Lib.hid (HAT.out gs[k] (List.getElem_mem hk'))
    have HON := Lib.hid (HONE.out gs[k] (List.getElem_mem hk'))
    have hlenC : (((gs.take (k + 1)).map (fun t => thinL S last t.g)).flatten).length ≤ 1000 := by
      have h1 : ((gs.map (fun t => thinL S last t.g)).flatten).length ≤ 1000 := by
        rw [HV.out]
        have := (thin_sublist S last L).length_le
        omega
      have h2 : gs.map (fun t => thinL S last t.g) = (gs.take (k + 1)).map (fun t => thinL S last t.g) ++ (gs.drop (k + 1)).map (fun t => thinL S last t.g) := by rw [← List.map_append, List.take_append_drop]
      rw [h2, List.flatten_append, List.length_append] at h1
      omega
    rw [hnx, List.length_append] at hlenC
    clear hnx
    generalize gs[k] = t at *
    obtain ⟨gp, gc, g⟩ := t
    obtain ⟨hg1, hg2, hg3, hg4⟩ := HATK.out
    dsimp only at hg1 hg2 hg3 hg4 hlenC HON
    have HG1 := Lib.hid hg1
    have HGQ := Lib.hid (show ∀ e ∈ g, e.q ≤ 4611686018427387904 from fun e he => HQ.out e (hg4 e he))
    clear hI hk HAT HATK hg1 hg2 hg4 HONE HQ
    gi_wp2
    refine ⟨Bel.refl A, fun A2 hA2 => ?_⟩
    obtain ⟨v, h1, h2, h3, h4, h5, h6, h7⟩ := HI.out
    have HA0 := Lib.hid (show Boxed A2 w.heap.size 4 (.bool last) from boxed_keep12 h1 hA2 (by simp; omega))
    have HX0 := Lib.hid (show Boxed A2 w3.heap.size 23 (.slice tp tl tc) from boxed_keep12 h2 hA2 (by simp; omega))
    have HT0 := Lib.hid (show OwnG intEl12 w.heap.size A2 (.slice tp tl tc) T from own_below h3 hA2 HTB.out (fun b hb => by rw [List.mem_singleton] at hb; omega))
    have HS0 := Lib.hid (show Boxed A2 (w3.heap.size + 1) 27 v from boxed_keep12 h4 hA2 (by simp; omega))
    have HO0 := Lib.hid (show OwnG entEl (w4.heap.size + 2) A2 v ((gs.take k).map (fun t => thinL S last t.g)).flatten from h5.keep hA2 (fun x hx hm => by
      have h8 := (h5.lt x hx).1
      rw [List.mem_singleton] at hm; omega))
    have HBA := Lib.hid (show Below w.heap.size w A2 from h6.trans (hA2.below (Below.size h6) (fun x hx => by rw [List.mem_singleton] at hx; omega)))
    have HSA := Lib.hid (Nat.le_trans h7 hA2.size)
    obtain ⟨C, hC⟩ : ∃ C, C = ((gs.take k).map (fun t => thinL S last t.g)).flatten := ⟨_, rfl⟩
    rw [← hC] at HO0 HNX hlenC
    have c7 := HX0.out.cell
    clear h1 h2 h3 h4 h5 h6 h7 hA2 HI hC hAsz
    have HAK := Lib.hid (asked_any gp gc g (.slice tp tl tc) T A2 (HG1.out.bel HBA.out) (by omega) HT0.out HTS.out HTL0.out)
    have HTF := Lib.hid (show thinL S false g = askL T none g by rw [HSL.out]; exact thin_false HON.out HGQ.out)
    have hAl : (askL T none g).length ≤ g.length := (ask_sub g none).length_le
    obtain ⟨N, hN⟩ : ∃ N, N = askL T none g := ⟨_, rfl⟩
    rw [← hN] at HAK HTF hAl
    have HTT := Lib.hid (show ∀ (n : Nat) (hn : n ≤ N.length), (∀ j (hj : j < N.length), n ≤ j → N[j].d = true) → (∀ (h0 : 0 < n), (N[n - 1]'(by omega)).d = false) → thinL S true g = N.take n from by
      have e := HSL.out
      subst e
      subst hN
      exact fun n hn h1 h2 => thin_true HON.out HGQ.out hn h1 h2)
    clear hN HSL HON HGQ
    gi_wp2
    refine ⟨trivial, ?_⟩
    refine (callsIn_wide.2 HAK.out).mono ?_
    rintro r5 w5 ⟨u, rfl, hou, hb5⟩
    have HU := Lib.hid hou
    obtain ⟨np, nc, rfl, hne, hnc⟩ := ownG_ents12 hou
    have HNE := Lib.hid hne
    have hnn := ownG_none hou
    have HNN := Lib.hid hnn
    have HS2 := Lib.hid (show Boxed w5 (w3.heap.size + 1) 27 v from boxed_keep12 HS0.out (Keep.of_bel hb5 []) (by simp))
    have HA2 := Lib.hid (show Boxed w5 w.heap.size 4 (.bool last) from boxed_keep12 HA0.out (Keep.of_bel hb5 []) (by simp))
    have HX2 := Lib.hid (show Boxed w5 w3.heap.size 23 (.slice tp tl tc) from boxed_keep12 HX0.out (Keep.of_bel hb5 []) (by simp))
    have HT2 := Lib.hid (HT0.out.bel hb5)
    have HO2 := Lib.hid (HO0.out.bel hb5)
    have HB2 := Lib.hid hb5
    have HSZ2 := Lib.hid (show w4.heap.size + 2 ≤ A2.heap.size from HSA.out)
    have c5 := HA2.out.cell
    clear hb5 hou hne hnn HAK HA0 HX0 HT0 HS0 HO0
    cases last with
    | false =>
      have HF := Lib.hid HTF.out
      rw [HTF.out] at hlenC
      have HSRC := Lib.hid (src_own HU.out)
      obtain ⟨w6, hw6⟩ : ∃ z, z = w5 := ⟨_, rfl⟩
      rw [← hw6] at HS2 HA2 HX2 HT2 HO2 HB2 HSRC c5 ⊢
      clear hw6 HU HNE
      have HS3 := HS2; have HA3 := HA2; have HX3 := HX2; have HT3 := HT2; have HO3 := HO2; have HB3' := HB2
      clear HS2 HA2 HX2 HT2 HO2 HB2
      have c8 := HS3.out.cell
      gi_wp2_with (gi_at_builtin; refine stop_here ?_)
      refine go_on ?_
      refine appendIn_all entOk rfl _ _ rfl rfl HO3.out (N) rfl HSRC.out (by unfold maxLen; omega) (by omega) (Nat.le_trans HSZ2.out HB3'.out.size) ?_
      intro v4 w7 ho4 hk4 _
      obtain ⟨p4, c4, hv4⟩ := ownG_len ho4
      generalize (C ++ N).length = m4 at hv4
      subst hv4
      have HO4 := Lib.hid ho4
      have HK4 := Lib.hid (show Keep v.ownBlock.toList w6 w7 from hk4)
      have hnb : ∀ x ∈ v.ownBlock.toList, w4.heap.size + 2 ≤ x := fun x hx => (HO3.out.lt x (by rwa [Option.mem_toList] at hx)).1
      have HS4 := Lib.hid (show Boxed w7 (w3.heap.size + 1) 27 v from boxed_keep12 HS3.out hk4 (fun hm => by have := hnb _ hm; omega))
      have HA4 := Lib.hid (show Boxed w7 w.heap.size 4 (.bool false) from boxed_keep12 HA3.out hk4 (fun hm => by have := hnb _ hm; omega))
      have HX4 := Lib.hid (show Boxed w7 w3.heap.size 23 (.slice tp tl tc) from boxed_keep12 HX3.out hk4 (fun hm => by have := hnb _ hm; omega))
      have HT4 := Lib.hid (show OwnG intEl12 w.heap.size w7 (.slice tp tl tc) T from own_below HT3.out hk4 HTB.out (fun b hb => by have := hnb _ hb; omega))
      have c6 := HS4.out.cell
      have f6 := HS4.out.frozen
      clear ho4 hk4
      gi_wp2
      have hkk : Keep ((w3.heap.size + 1) :: v.ownBlock.toList) A2 (w7.setCell ⟨w3.heap.size + 1, 0, none⟩ (.slice p4 m4 c4)) :=
        (((Keep.of_bel HB3'.out ((w3.heap.size + 1) :: v.ownBlock.toList)).trans HK4.out (fun x hx => .inl (by simp [hx])))).setCell (p := ⟨w3.heap.size + 1, 0, none⟩) (.inl (by simp)) _
      refine ⟨⟨_, hkk, fun x hx => ?_⟩, ⟨_, HA4.out.other (by omega) _, HX4.out.other (by omega) _, HT4.out.keep ((Keep.refl [w3.heap.size + 1] w7).setCell (p := ⟨w3.heap.size + 1, 0, none⟩) (.inl (by simp)) _) (fun x hx hm => ?_), HS4.out.set _, ?_, HBA.out.trans (hkk.below (Below.size HBA.out) (fun x hx => ?_)), Nat.le_trans HSZ2.out hkk.size⟩⟩
      · rcases List.mem_cons.1 hx with rfl | hx
        · exact ⟨by omega, by simp, by omega, by omega⟩
        · have := hnb x hx
          exact ⟨by omega, by simp; omega, by omega, by omega⟩
      · have := HTB.out x hx
        rw [List.mem_singleton] at hm; omega
      · rw [HNX.out, HF.out]
        exact HO4.out.setCell (p := ⟨w3.heap.size + 1, 0, none⟩) (by show w3.heap.size + 1 < w4.heap.size + 2; omega) _
      · rcases List.mem_cons.1 hx with rfl | hx
        · omega
        · have := hnb x hx; omega
    | true =>
      have HDE := Lib.hid (pdead_any np nc N w5 HNE.out hnc (by omega))
      gi_wp2
      refine ⟨trivial, ?_⟩
      refine (callsIn_wide.2 HDE.out).mono ?_
      rintro r6 w6 ⟨n, hn, g1, g2, rfl, hb6⟩
      have HF := Lib.hid (HTT.out n hn g1 g2)
      rw [HF.out] at hlenC
      have htl : (N.take n).length = n := by rw [List.length_take]; omega
      have hsrc := SrcAt.of_ents (c := nc) (ents_take (HNE.out.bel hb6) n) HNN.out
      rw [htl] at hsrc
      have HSRC := Lib.hid hsrc
      obtain ⟨M, hM⟩ : ∃ M, M = N.take n := ⟨_, rfl⟩
      rw [← hM] at HF hlenC HSRC
      have HS3 := Lib.hid (show Boxed w6 (w3.heap.size + 1) 27 v from boxed_keep12 HS2.out (Keep.of_bel hb6 []) (by simp))
      have HA3 := Lib.hid (show Boxed w6 w.heap.size 4 (.bool true) from boxed_keep12 HA2.out (Keep.of_bel hb6 []) (by simp))
      have HX3 := Lib.hid (show Boxed w6 w3.heap.size 23 (.slice tp tl tc) from boxed_keep12 HX2.out (Keep.of_bel hb6 []) (by simp))
      have HT3 := Lib.hid (HT2.out.bel hb6)
      have HO3 := Lib.hid (HO2.out.bel hb6)
      have HB3' := Lib.hid (HB2.out.trans hb6)
      clear hsrc htl g1 g2 hb6 hM HDE HU HNE HS2 HA2 HX2 HT2 HO2 HB2
      have c8 := HS3.out.cell
      gi_wp2_with (gi_at_builtin; refine stop_here ?_)
      refine go_on ?_
      refine appendIn_all entOk rfl _ _ rfl rfl HO3.out (M) rfl HSRC.out (by unfold maxLen; omega) (by omega) (Nat.le_trans HSZ2.out HB3'.out.size) ?_
      intro v4 w7 ho4 hk4 _
      obtain ⟨p4, c4, hv4⟩ := ownG_len ho4
      generalize (C ++ M).length = m4 at hv4
      subst hv4
      have HO4 := Lib.hid ho4
      have HK4 := Lib.hid (show Keep v.ownBlock.toList w6 w7 from hk4)
      have hnb : ∀ x ∈ v.ownBlock.toList, w4.heap.size + 2 ≤ x := fun x hx => (HO3.out.lt x (by rwa [Option.mem_toList] at hx)).1
      have HS4 := Lib.hid (show Boxed w7 (w3.heap.size + 1) 27 v from boxed_keep12 HS3.out hk4 (fun hm => by have := hnb _ hm; omega))
      have HA4 := Lib.hid (show Boxed w7 w.heap.size 4 (.bool true) from boxed_keep12 HA3.out hk4 (fun hm => by have := hnb _ hm; omega))
      have HX4 := Lib.hid (show Boxed w7 w3.heap.size 23 (.slice tp tl tc) from boxed_keep12 HX3.out hk4 (fun hm => by have := hnb _ hm; omega))
      have HT4 := Lib.hid (show OwnG intEl12 w.heap.size w7 (.slice tp tl tc) T from own_below HT3.out hk4 HTB.out (fun b hb => by have := hnb _ hb; omega))
      have c6 := HS4.out.cell
      have f6 := HS4.out.frozen
      clear ho4 hk4
      gi_wp2
      have hkk : Keep ((w3.heap.size + 1) :: v.ownBlock.toList) A2 (w7.setCell ⟨w3.heap.size + 1, 0, none⟩ (.slice p4 m4 c4)) :=
        (((Keep.of_bel HB3'.out ((w3.heap.size + 1) :: v.ownBlock.toList)).trans HK4.out (fun x hx => .inl (by simp [hx])))).setCell (p := ⟨w3.heap.size + 1, 0, none⟩) (.inl (by simp)) _
      refine ⟨⟨_, hkk, fun x hx => ?_⟩, ⟨_, HA4.out.other (by omega) _, HX4.out.other (by omega) _, HT4.out.keep ((Keep.refl [w3.heap.size + 1] w7).setCell (p := ⟨w3.heap.size + 1, 0, none⟩) (.inl (by simp)) _) (fun x hx hm => ?_), HS4.out.set _, ?_, HBA.out.trans (hkk.below (Below.size HBA.out) (fun x hx => ?_)), Nat.le_trans HSZ2.out hkk.size⟩⟩
      · rcases List.mem_cons.1 hx with rfl | hx
        · exact ⟨by omega, by simp, by omega, by omega⟩
        · have := hnb x hx
          exact ⟨by omega, by simp; omega, by omega, by omega⟩
      · have := HTB.out x hx
        rw [List.mem_singleton] at hm; omega
      · rw [HNX.out, HF.out]
        exact HO4.out.setCell (p := ⟨w3.heap.size + 1, 0, none⟩) (by show w3.heap.size + 1 < w4.heap.size + 2; omega) _
      · rcases List.mem_cons.1 hx with rfl | hx
        · omega
        · have := hnb x hx; omega
  case done =>
    rintro W ⟨v, h1, h2, h3, h4, h5, h6, h7⟩ hD
    rw [List.length_map, List.take_length, HV.out] at h5
    obtain ⟨pp, cp, rfl⟩ := ownG_len h5
    have c8 := h4.cell
    have HO := Lib.hid h5; have HB := Lib.hid h6; have HDD := Lib.hid hD
    clear h1 h2 h3 h4 h5 h6 hD
    gi_wp2
    refine ⟨by simp, .inl ⟨_, _, rfl, run_takeDeferred HDD.out, ?_⟩⟩
    exact ⟨_, results_tmp rfl _ _ _, _, rfl, (HO.out.keep (keep_putObj W _ _) (fun x hx hm => by have := (HO.out.lt x hx).1; rw [List.mem_singleton] at hm; omega)).low (by have := HSB0.out; omega), HB.out.trans ((keep_putObj W _ _).below (Below.size HB.out) (fun x hx => by rw [List.mem_singleton] at hx; have := HSB0.out; omega))⟩
end Go.Proofs.Ytmdkpomgckkllaa
/- The program's merge keeps the contracts that the laws of chapter 12 want. -/
namespace Go.Proofs.Ytmdkpomgckkllaa
open Go.RowKit Go.Deep

def mergeKit : GK where
  Ok := fun _ => True
  okBel := fun _ _ => trivial
  sorted := fun p cap L w _ h hl _ => psorted_any p cap L w h (by omega)
  merge := fun p cap R w _ h hc hl hR => (pmerge_any p cap R w h hc hl (fun L hL => ⟨(hR L hL).1, (hR L hL).2.1⟩)).mono (by
    rintro r w' ⟨v, rfl, ho, hb⟩
    exact gives_own ho hb)
  visible := fun p cap L s w _ h hc hS hl _ => (pvis_any p cap L s w h hc hS hl).mono (by
    rintro r w' ⟨v, rfl, ho, hb⟩
    exact gives_own ho hb)
  thin := fun p q cap cap' L S last w _ h hc hI hS hl hs _ hq => (pthin_any p q cap cap' L S last w h hc hI hS hl hs hq).mono (by
    rintro r w' ⟨v, rfl, ho, hb⟩
    exact gives_own ho hb)
theorem max12 {n : Nat} (h : n ≤ maxLen) : n ≤ 9223372036854775807 := h
theorem maxs12 {R : List (List EB)} (h : ∀ L ∈ R, L.length ≤ maxLen ∧ fitsL L) : ∀ L ∈ R, L.length ≤ 9223372036854775807 ∧ fitsL L := h
end Go.Proofs.Ytmdkpomgckkllaa
/- A law of chapter 12 and the merge of the program. -/
/- A law of chapter 12 and the merge of the program. -/
/- A law of chapter 12 and the merge of the program. -/
/- A law of chapter 12 and the merge of the program. -/
/- A law of chapter 12 and the merge of the program. -/
/- A law of chapter 12 and the merge of the program. -/
