/- key.Tuple and moultref4.Tuple: the bytes of some values. -/
import Derived.Test.YtggmeggfibblhaaDoorKVals
import Derived.Test.YtggmeggfibblhaaDoorKRPut2
set_option linter.unusedSimpArgs false
set_option linter.unusedVariables false
namespace Go.Proofs.YtggmeggfibblhaaDoor
open Go.RowKit Go.Deep

def catL (L : List KV) : List UInt8 := L.flatMap encL
theorem catL_snoc (L : List KV) (v : KV) : catL (L ++ [v]) = catL L ++ encL v := by simp [catL]
theorem catL_cons (L : List KV) (v : KV) : catL (v :: L) = encL v ++ catL L := rfl
def tupB (L : List KV) : Bool := decide (L.length ≤ 20) && L.all KV.right
/-- What Tuple answers. -/
def tupV (L : List KV) : Value := if tupB L = true then .tuple #[.string ⟨(catL L).toArray⟩, .int .i64 0] else .tuple #[.string ⟨#[]⟩, .int .i64 1]
theorem tup_many {L : List KV} (h : ¬ L.length ≤ 20) : tupV L = .tuple #[.string ⟨#[]⟩, .int .i64 1] := by unfold tupV tupB; rw [decide_eq_false h]; rfl
theorem tup_wrong {L : List KV} (k : Nat) (h : k < L.length) (hr : L[k].right = false) : tupV L = .tuple #[.string ⟨#[]⟩, .int .i64 1] := by
  unfold tupV tupB
  rw [if_neg]
  rw [Bool.and_eq_true, List.all_eq_true]
  intro hh
  have := hh.2 L[k] (List.getElem_mem h)
  rw [hr] at this; cases this
theorem tup_yes {L : List KV} (h : L.length ≤ 20) (hr : ∀ i (hi : i < L.length), L[i].right = true) : tupV L = .tuple #[.string ⟨(catL L).toArray⟩, .int .i64 0] := by
  unfold tupV tupB
  rw [if_pos]
  rw [decide_eq_true h, Bool.true_and, List.all_eq_true]
  intro v hv
  obtain ⟨i, hi, rfl⟩ := List.getElem_of_mem hv
  exact hr i hi
theorem tup_of {L : List KV} (h : tupB L = true) : L.length ≤ 20 ∧ ∀ v ∈ L, v.right = true := by
  unfold tupB at h
  rw [Bool.and_eq_true, List.all_eq_true] at h
  exact ⟨of_decide_eq_true h.1, fun v hv => h.2 v hv⟩
theorem take_snoc {α : Type} (L : List α) (k : Nat) (h : k < L.length) : L.take (k + 1) = L.take k ++ [L[k]] := by rw [List.take_add_one, List.getElem?_eq_getElem h]; rfl
theorem cat_len (L : List KV) (hr : ∀ v ∈ L, v.right = true) : (catL L).length ≤ 2003 * L.length := by
  induction L with
  | nil => simp [catL]
  | cons v L ih =>
    rw [catL_cons, List.length_append, List.length_cons]
    have := enc_len v (hr v (by simp))
    have := ih fun u hu => hr u (by simp [hu])
    omega
theorem take_right {L : List KV} {k : Nat} (hj : ∀ j (hj : j < L.length), j < k → L[j].right = true) : ∀ v ∈ L.take k, v.right = true := by
  intro v hv
  obtain ⟨i, hi, rfl⟩ := List.getElem_of_mem hv
  rw [List.length_take] at hi
  rw [List.getElem_take]
  exact hj i (by omega) (by omega)
theorem right_next {L : List KV} {k : Nat} (h : k < L.length) (hj : ∀ j (hj : j < L.length), j < k → L[j].right = true) (hr : L[k].right = true) : ∀ j (hj : j < L.length), j < k + 1 → L[j].right = true := by
  intro j hjl hjk
  by_cases e : j = k
  · subst e; exact hr
  · exact hj j hjl (by omega)

def TupRel (L : List KV) (w : World) (i : Value) (x : World) : Prop := ∃ k : Nat, k ≤ L.length ∧ i = .int .i64 k ∧ (∀ j (hj : j < L.length), j < k → L[j].right = true) ∧ BldW w.heap.size (catL (L.take k)) x ∧ Bel w x

set_option maxHeartbeats 4000000 in
theorem tuple_any (p : Option Addr) (cap : Nat) (L : List KV) (w : World) (h : ValsAt w p L) (hL : L.length ≤ maxLen) (hin : allV L) (hstd : Std w) :
    Calls Tryd.prog 13 #[.slice p L.length cap] w fun e w' => e = .returned (tupV L) ∧ Bel w w' := by
  have H := Lib.hid h; clear h
  have HI := Lib.hid hin; clear hin
  have HS := Lib.hid hstd; clear hstd
  unfold maxLen at hL
  go_enter Tryd.func13, Tryd.ntmps13
  by_cases hm : L.length ≤ 20
  · go_wp2_with (fail)
    go_loopw [14] (fun i x => TupRel L w i x) (fun i _ => L.length - (intOf i).toNat)
    case atStart => exact ⟨0, Nat.zero_le _, rfl, fun _ _ h => by omega, BldW.new w, (Bel.refl w).alloc _⟩
    case round =>
      obtain ⟨k, hk, rfl, hj, hbl, hb⟩ := hrel
      have HJ := Lib.hid hj; clear hj
      have HL := Lib.hid hbl; clear hbl
      have HB := Lib.hid hb; clear hb
      have hlen := cat_len (L.take k) (take_right HJ.out)
      rw [List.length_take] at hlen
      by_cases hlt : k < L.length
      · obtain ⟨a, B, O, sp, rfl, ha, c0, c1, c2⟩ := (H.out.bel HB.out) k hlt
        have hv := Lib.hid (HI.out L[k] (List.getElem_mem hlt))
        have HC := Lib.hid (show catL (L.take (k + 1)) = catL (L.take k) ++ encL L[k] by rw [take_snoc L k hlt, catL_snoc])
        cases hr : L[k].right with
        | false =>
          have HR := Lib.hid (tup_wrong k hlt hr)
          have HV := Lib.hid (show putV L[k] = .tuple #[.string ⟨#[]⟩, .int .i64 1] by unfold putV; rw [hr]; rfl)
          clear hr
          go_wp2_with (fail)
          refine (put_any L[k] _ hv.out.2 hv.out.1 (HS.out.bel (HB.out.alloc _))).mono ?_
          rintro e w1 ⟨rfl, hb⟩
          rw [HV.out]
          replace HB := Lib.hid ((HB.out.alloc _).trans hb); clear hb
          go_wp2_with (fail)
          go_ret2
          exact ⟨by rw [HR.out]; rfl, HB.out⟩
        | true =>
          have HJ2 := Lib.hid (right_next hlt HJ.out hr)
          have HV := Lib.hid (show putV L[k] = .tuple #[.string ⟨(encL L[k]).toArray⟩, .int .i64 0] by unfold putV; rw [if_pos hr])
          have hel := enc_len L[k] hr
          clear hr
          go_wp2_with (fail)
          refine (put_any L[k] _ hv.out.2 hv.out.1 (HS.out.bel (HB.out.alloc _))).mono ?_
          rintro e w1 ⟨rfl, hb⟩
          rw [HV.out]
          replace HB := Lib.hid ((HB.out.alloc _).trans hb)
          replace HL := Lib.hid ((HL.out.bel ((Bel.refl _).alloc _)).bel hb); clear hb
          generalize encL L[k] = E at *
          go_wp2_with (fail)
          refine (write_any w.heap.size _ ⟨E.toArray⟩ _ HL.out (by show _ + E.toArray.size ≤ _; rw [List.size_toArray]; omega)).mono ?_
          rintro e w3 ⟨rfl, hbl, hb⟩
          replace HB := Lib.hid (Below.trans HB.out hb)
          have HL3 := Lib.hid hbl
          clear hb hbl HL
          go_wp2_with (fail)
          go_roundw
          case rel => exact ⟨k + 1, hlt, by go_num, HJ2.out, by rw [HC.out]; exact HL3.out, HB.out⟩
          case measure => simp [intOf]; omega
      · have HX := Lib.hid (show L.take k = L from List.take_of_length_le (by omega))
        have HR := Lib.hid (tup_yes hm fun i hi => HJ.out i hi (by omega))
        go_wp2_with (fail)
        refine (bstring_any w.heap.size _ _ HL.out).mono ?_
        rintro e w3 ⟨rfl, hb⟩
        replace HB := Lib.hid (Below.trans HB.out hb); clear hb
        go_wp2_with (fail)
        go_ret2
        exact ⟨by rw [HR.out, HX.out]; rfl, HB.out⟩
  · have HR := Lib.hid (tup_many hm)
    have hm' : ¬ ((L.length : Nat) : Int) ≤ 20 := by omega
    go_wp2_with (fail)
    go_ret2
    exact ⟨by rw [HR.out]; rfl, Bel.refl w⟩

def RTupRel (L : List KV) (w : World) (s i : Value) (x : World) : Prop := ∃ k : Nat, k ≤ L.length ∧ i = .int .i64 k ∧ s = .string ⟨(catL (L.take k)).toArray⟩ ∧ (∀ j (hj : j < L.length), j < k → L[j].right = true) ∧ Bel w x

set_option maxHeartbeats 4000000 in
theorem rtuple_any (p : Option Addr) (cap : Nat) (L : List KV) (w : World) (h : ValsAt w p L) (hL : L.length ≤ maxLen) (hin : allV L) :
    Calls Tryd.prog 14 #[.slice p L.length cap] w fun e w' => e = .returned (tupV L) ∧ Bel w w' := by
  have H := Lib.hid h; clear h
  have HI := Lib.hid hin; clear hin
  unfold maxLen at hL
  go_enter Tryd.func14, Tryd.ntmps14
  by_cases hm : L.length ≤ 20
  · go_wp2_with (fail)
    go_loopw [4, 5] (fun s i x => RTupRel L w s i x) (fun _ i _ => L.length - (intOf i).toNat)
    case atStart => exact ⟨0, Nat.zero_le _, rfl, rfl, fun _ _ h => by omega, Bel.refl w⟩
    case round =>
      obtain ⟨k, hk, rfl, rfl, hj, hb⟩ := hrel
      have HJ := Lib.hid hj; clear hj
      have HB := Lib.hid hb; clear hb
      have hlen := cat_len (L.take k) (take_right HJ.out)
      rw [List.length_take] at hlen
      by_cases hlt : k < L.length
      · obtain ⟨a, B, O, sp, rfl, ha, c0, c1, c2⟩ := (H.out.bel HB.out) k hlt
        have hv := Lib.hid (HI.out L[k] (List.getElem_mem hlt))
        have HC := Lib.hid (show catL (L.take (k + 1)) = catL (L.take k) ++ encL L[k] by rw [take_snoc L k hlt, catL_snoc])
        cases hr : L[k].right with
        | false =>
          have HR := Lib.hid (tup_wrong k hlt hr)
          have HV := Lib.hid (show putV L[k] = .tuple #[.string ⟨#[]⟩, .int .i64 1] by unfold putV; rw [hr]; rfl)
          clear hr
          go_wp2_with (fail)
          refine (rput_any L[k] _ hv.out.2 hv.out.1).mono ?_
          rintro e w1 ⟨rfl, hb⟩
          rw [HV.out]
          replace HB := Lib.hid (HB.out.trans hb); clear hb
          go_wp2_with (fail)
          go_ret2
          exact ⟨by rw [HR.out]; rfl, HB.out⟩
        | true =>
          have HJ2 := Lib.hid (right_next hlt HJ.out hr)
          have HV := Lib.hid (show putV L[k] = .tuple #[.string ⟨(encL L[k]).toArray⟩, .int .i64 0] by unfold putV; rw [if_pos hr])
          have hel := enc_len L[k] hr
          clear hr
          go_wp2_with (fail)
          refine (rput_any L[k] _ hv.out.2 hv.out.1).mono ?_
          rintro e w1 ⟨rfl, hb⟩
          rw [HV.out]
          replace HB := Lib.hid (HB.out.trans hb); clear hb
          generalize encL L[k] = E at *
          generalize catL (L.take k) = F at *
          go_wp2_with (fail)
          go_roundw
          case rel => exact ⟨k + 1, hlt, by go_num, by rw [HC.out, ba_append], HJ2.out, HB.out⟩
          case measure => simp [intOf]; omega
      · have HX := Lib.hid (show L.take k = L from List.take_of_length_le (by omega))
        have HR := Lib.hid (tup_yes hm fun i hi => HJ.out i hi (by omega))
        go_wp2_with (fail)
        go_ret2
        exact ⟨by rw [HR.out, HX.out]; rfl, HB.out⟩
  · have HR := Lib.hid (tup_many hm)
    have hm' : ¬ ((L.length : Nat) : Int) ≤ 20 := by omega
    go_wp2_with (fail)
    go_ret2
    exact ⟨by rw [HR.out]; rfl, Bel.refl w⟩
end Go.Proofs.YtggmeggfibblhaaDoor
