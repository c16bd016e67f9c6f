/- JUnb, JRUnb, laid together. -/
import Derived.Test.YtedopiojidaeiaaGreatDoorA26
import Derived.Test.YtedopiojidaeiaaGreatDoorA7
import Derived.Test.YtedopiojidaeiaaGreatDoorA24
import Derived.Sort.WalkA6
/- journal.Unbatch. -/
set_option linter.unusedSimpArgs false
set_option linter.unusedVariables false
namespace Go.Proofs.YtedopiojidaeiaaGreatDoor
open Go.RowKit Go.Deep

def UnbPost (s : List UInt8) (w : World) (e : Ending) (w' : World) : Prop :=
  ∃ v, e = .returned (.tuple #[v, .int .i64 (unbS s).2]) ∧ OwnG strEl w.heap.size w' v (unbS s).1 ∧ Bel w w'
theorem unbs_none {s : List UInt8} (h : unbL s = none) : unbS s = ([], 8) := by unfold unbS; rw [h]
theorem unbs_some {s : List UInt8} {l : List (List UInt8)} (h : unbL s = some l) : unbS s = (l, 0) := by unfold unbS; rw [h]
theorem unbl_of {s : List UInt8} {n : Nat} {r : List UInt8} (h : takeL s = (n, r, true)) (hn : n ≤ 50) : unbL s = match unbF n r [] with
    | some (l, []) => some l
    | _ => none := by
  unfold unbL; rw [h, if_pos ⟨rfl, hn⟩]
  rfl
theorem unbl_not {s : List UInt8} (h : ¬ ((takeL s).2.2 = true ∧ (takeL s).1 ≤ 50)) : unbL s = none := by unfold unbL; rw [if_neg h]
theorem unbF_next {k : Nat} {r : List UInt8} {acc : List (List UInt8)} {n : Nat} {b : List UInt8} (h : takeL r = (n, b, true)) (hn : n ≤ b.length) : unbF (k + 1) r acc = unbF k (b.drop n) (acc ++ [b.take n]) := by
  rw [unbF, h, if_pos ⟨rfl, hn⟩]
theorem unbF_not {k : Nat} {r : List UInt8} {acc : List (List UInt8)} (h : ¬ ((takeL r).2.2 = true ∧ (takeL r).1 ≤ (takeL r).2.1.length)) : unbF (k + 1) r acc = none := by
  rw [unbF, if_neg h]
theorem step_one_str {B : Nat} {ops : Array Oper} {o : Oper} {a : Act} {K : Act → World → Prop} {Q : Exit → Act → World → Prop} {E : Prop} {z : World} {T : TypeId} (hT : T = 9) (hgd : o.guard = none) (s y : Operand)
    (ho : o.op = .call { callee := .builtin .append, args := #[s, y], argTypes := #[22, 22] }) {v : Value} {l : List (List UInt8)} {t : List UInt8} {c : Nat}
    (hs : a.eval s = v) (hy : a.eval y = .slice (some ⟨z.heap.size, 0, none⟩) 1 c) (hown : OwnG strEl B z v l) (hl : l.length ≤ 1000000) (hbase : B ≤ z.heap.size)
    (h : ∀ v' w', OwnG strEl B w' v' (l ++ [t]) → Below B (z.alloc (.cells #[.string ⟨t.toArray⟩] T)) w' → K (a.put o.dst v') w') :
    if Region.wanted o (yielded ops a.tmps) = true then o.wp Tryz.prog a (z.alloc (.cells #[.string ⟨t.toArray⟩] T)) K Q else E := by
  subst hT
  refine step_append_seg (E := strEl) (n := B) strOk hgd s y ho hs (hown.alloc _) [t] hy (Or.inr ⟨_, c, rfl, cellsG_new z #[.string ⟨t.toArray⟩] 9 [t] rfl⟩) (by unfold maxLen; simp; omega) (by simp; omega) (by simp; omega) ?_
  intro v' w' h1 _ h3
  exact h v' w' h1 h3
def UbRel (s : List UInt8) (n : Nat) (r0 : List UInt8) (w : World) (rv ov iv : Value) (x : World) : Prop :=
  ∃ (k : Nat) (acc : List (List UInt8)) (r : ByteArray), iv = .int .u64 k ∧ k ≤ n ∧ rv = .string r ∧ r.size ≤ 1000000 ∧ acc.length = k ∧ OwnG strEl w.heap.size x ov acc ∧ unbF n r0 [] = unbF (n - k) r.data.toList acc ∧ Bel w x

set_option maxHeartbeats 4000000 in
set_option maxRecDepth 20000 in
theorem unbatch_any (s : ByteArray) (w : World) (hs : s.size ≤ 1000000) :
    Calls Tryz.prog 13 #[.string s] w (UnbPost s.data.toList w) := by
  obtain ⟨n, r0, ok, hT⟩ : ∃ n r ok, takeL s.data.toList = (n, r, ok) := ⟨_, _, _, rfl⟩
  have HT := Lib.hid (take_parts _ n r0 ok hT)
  have hnl := take_lt s.data.toList
  have hrl := take_rest s.data.toList
  rw [hT] at hnl hrl
  simp only at hnl hrl
  have hsl : s.data.toList.length = s.size := rfl
  by_cases hok : ok = true ∧ n ≤ 50
  · obtain ⟨rfl, hn⟩ := hok
    have HU := Lib.hid (unbl_of hT hn)
    clear hT
    go_enter Tryz.func13, Tryz.ntmps13
    go_wp2_with (fail)
    refine (take_any s w hs).mono ?_
    rintro e w1 ⟨rfl, hb1⟩
    rw [HT.out]
    have HB1 := Lib.hid hb1; clear hb1
    go_wp2_with (fail)
    go_loopw [5, 7, 24] (fun rv ov iv x => UbRel s.data.toList n r0 w rv ov iv x) (fun _ _ iv _ => n - (intOf iv).toNat)
    case atStart => exact ⟨0, [], ⟨r0.toArray⟩, rfl, Nat.zero_le _, rfl, by rw [str_len]; omega, rfl, OwnG.nil _ _ _, by simp, HB1.out⟩
    case round =>
      obtain ⟨k, acc, r, rfl, hk, rfl, hrz, hacc, hown, hu, hb⟩ := hrel
      have HF := Lib.hid hu; clear hu
      have HB := Lib.hid hb; clear hb
      obtain ⟨op, oc, hov⟩ := ownG_len hown
      rw [hacc] at hov
      subst hov
      have HV := Lib.hid hown
      clear hown
      have hrz' : r.data.toList.length = r.size := rfl
      by_cases hlt : k < n
      · obtain ⟨m, b, ok, hT2⟩ : ∃ n' r' ok', takeL r.data.toList = (n', r', ok') := ⟨_, _, _, rfl⟩
        have HT2 := Lib.hid (take_parts _ m b ok hT2)
        have hml := take_lt r.data.toList
        have hbl := take_rest r.data.toList
        rw [hT2] at hml hbl
        simp only at hml hbl
        have hbz := str_len b
        obtain ⟨j, hj⟩ : ∃ j, n - k = j + 1 := ⟨n - k - 1, by omega⟩
        rw [hj] at HF
        by_cases hok : ok = true ∧ m ≤ b.length
        · obtain ⟨rfl, hm⟩ := hok
          have HF2 := Lib.hid (HF.out.trans (unbF_next hT2 hm))
          clear hT2 HF
          go_wp2_with (fail)
          refine (take_any r _ hrz).mono ?_
          rintro e w2 ⟨rfl, hb2⟩
          rw [HT2.out]
          have HB2 := Lib.hid (HB.out.trans hb2)
          have HV2 := Lib.hid (HV.out.bel hb2)
          clear hb2
          go_wp2_with (fail)
          refine wp_region_held_drew (S := fun z => True) (by kernel_rfl) trivial (fun hHeld => ?_)
          refine wpAnyH_take (i := 0) (oi := { dst := some 41, op := Op.move (Operand.tmp 7), type := 22, pos := "batch.go:36", after := #[], guard := none }) (v := ?_) rfl (by kernel_rfl) (by kernel_rfl) (by kernel_rfl) (fun _ _ _ h => h) (Or.inl ⟨by rfl, ?_⟩) (by assumption) ?_
          rotate_left
          · (intro w hSw; (try dsimp only at hSw); first | (go_simp; done) | (go_simp; with_reducible rfl))
          try simp only [Act.put, List.setIfInBounds_toArray, List.set_cons_zero, List.set_cons_succ]
          refine wpAnyH_take (i := 1) (oi := { dst := some 42, op := Op.move (Operand.tmp 9), type := 9, pos := "batch.go:36", after := #[], guard := none }) (v := ?_) rfl (by kernel_rfl) (by kernel_rfl) (by kernel_rfl) (fun _ _ _ h => h) (Or.inl ⟨by rfl, ?_⟩) (by assumption) ?_
          rotate_left
          · (intro w hSw; (try dsimp only at hSw); first | (go_simp; done) | (go_simp; with_reducible rfl))
          try simp only [Act.put, List.setIfInBounds_toArray, List.set_cons_zero, List.set_cons_succ]
          refine wpAnyH_take (i := 2) (oi := { dst := some 43, op := Op.move (Operand.tmp 8), type := 80, pos := "batch.go:36", after := #[], guard := none }) (v := ?_) rfl (by kernel_rfl) (by kernel_rfl) (by kernel_rfl) (fun _ _ _ h => h) (Or.inl ⟨by rfl, ?_⟩) (by assumption) ?_
          rotate_left
          · (intro w hSw; (try dsimp only at hSw); first | (go_simp; done) | (go_simp; with_reducible rfl))
          try simp only [Act.put, List.setIfInBounds_toArray, List.set_cons_zero, List.set_cons_succ]
          refine wpAnyH_take (i := 3) (oi := { dst := some 44, op := Op.slice 9 (Operand.tmp 42) none (some (Operand.tmp 43)) none, type := 9, pos := "batch.go:36", after := #[{ on := 1, ground := Ground.data }, { on := 2, ground := Ground.data }], guard := none }) (v := ?_) rfl (by kernel_rfl) (by kernel_rfl) (by kernel_rfl) (fun _ _ _ h => h) (Or.inl ⟨by rfl, ?_⟩) (by assumption) ?_
          rotate_left
          · (intro w hSw; (try dsimp only at hSw); first | (go_simp; done) | (go_simp; with_reducible rfl))
          try simp only [Act.put, List.setIfInBounds_toArray, List.set_cons_zero, List.set_cons_succ]
          refine wpAnyH_take (i := 6) (oi := { dst := some 47, op := Op.move (Operand.tmp 9), type := 9, pos := "batch.go:36", after := #[], guard := none }) (v := ?_) rfl (by kernel_rfl) (by kernel_rfl) (by kernel_rfl) (fun _ _ _ h => h) (Or.inl ⟨by rfl, ?_⟩) (by assumption) ?_
          rotate_left
          · (intro w hSw; (try dsimp only at hSw); first | (go_simp; done) | (go_simp; with_reducible rfl))
          try simp only [Act.put, List.setIfInBounds_toArray, List.set_cons_zero, List.set_cons_succ]
          refine wpAnyH_take (i := 7) (oi := { dst := some 48, op := Op.move (Operand.tmp 8), type := 80, pos := "batch.go:36", after := #[], guard := none }) (v := ?_) rfl (by kernel_rfl) (by kernel_rfl) (by kernel_rfl) (fun _ _ _ h => h) (Or.inl ⟨by rfl, ?_⟩) (by assumption) ?_
          rotate_left
          · (intro w hSw; (try dsimp only at hSw); first | (go_simp; done) | (go_simp; with_reducible rfl))
          try simp only [Act.put, List.setIfInBounds_toArray, List.set_cons_zero, List.set_cons_succ]
          refine wpAnyH_take (i := 8) (oi := { dst := some 49, op := Op.slice 9 (Operand.tmp 47) (some (Operand.tmp 48)) none none, type := 9, pos := "batch.go:36", after := #[{ on := 6, ground := Ground.data }, { on := 7, ground := Ground.data }], guard := none }) (v := ?_) rfl (by kernel_rfl) (by kernel_rfl) (by kernel_rfl) (fun _ _ _ h => h) (Or.inl ⟨by rfl, ?_⟩) (by assumption) ?_
          rotate_left
          · (intro w hSw; (try dsimp only at hSw); first | (go_simp; done) | (go_simp; with_reducible rfl))
          try simp only [Act.put, List.setIfInBounds_toArray, List.set_cons_zero, List.set_cons_succ]
          refine wpAnyH_ready (rs := [4]) (by kernel_rfl) (by simp) ?_
          refine AllReadyH.cons (o := { dst := some 45, op := Op.buildSlice 22 1 #[(0, Operand.tmp 44)], type := 22, pos := "batch.go:36", after := #[{ on := 3, ground := Ground.data }], guard := none }) rfl (fun K hK => ?_) AllReadyH.nil
          go_simp
          refine hK.out _ _ trivial (fun hHeld => ?_)
          clear hK K
          try simp only [Act.put, List.setIfInBounds_toArray, List.set_cons_zero, List.set_cons_succ]
          refine wpAnyH_ready (rs := [5]) (by kernel_rfl) (by simp) ?_
          refine AllReadyH.cons (o := { dst := some 46, op := Op.call { callee := Callee.builtin Builtin.append, args := #[Operand.tmp 41, Operand.tmp 45], argTypes := #[22, 22] }, type := 22, pos := "batch.go:36", after := #[{ on := 0, ground := Ground.data }, { on := 4, ground := Ground.data }], guard := none }) rfl (fun K hK => ?_) AllReadyH.nil
          rw [show (⟨b.toArray⟩ : ByteArray).extract 0 m = ⟨(b.take m).toArray⟩ from by apply ByteArray.ext; simp]
          refine step_one_str (B := w.heap.size) (l := acc) rfl rfl (.tmp 41) (.tmp 45) rfl rfl rfl HV2.out.drew (by omega) HB2.out.drew.size ?_
          intro v3 w3 hown3 hb3
          obtain ⟨p3, c3, rfl⟩ := ownG_len hown3
          have HV3 := Lib.hid hown3
          have HB3 := Lib.hid ((HB2.out.drew.alloc _).trans_below hb3)
          clear hown3 hb3
          refine hK.out _ _ trivial (fun hHeld => ?_)
          clear hK K
          try simp only [Act.put, List.setIfInBounds_toArray, List.set_cons_zero, List.set_cons_succ]
          refine wpAnyH_take (i := 9) (oi := { dst := some 7, op := Op.assign (Operand.tmp 46), type := 22, pos := "batch.go:36", after := #[{ on := 5, ground := Ground.data }, { on := 5, ground := Ground.chain }, { on := 0, ground := Ground.phase }, { on := 1, ground := Ground.phase }, { on := 2, ground := Ground.phase }, { on := 3, ground := Ground.phase }, { on := 4, ground := Ground.phase }, { on := 5, ground := Ground.phase }, { on := 6, ground := Ground.textOnly Departure.lateStores }, { on := 7, ground := Ground.textOnly Departure.lateStores }, { on := 8, ground := Ground.textOnly Departure.lateStoresUnsure }], guard := none }) (v := ?_) rfl (by kernel_rfl) (by kernel_rfl) (by kernel_rfl) (fun _ _ _ h => h) (Or.inl ⟨by rfl, ?_⟩) (by assumption) ?_
          rotate_left
          · (intro w hSw; (try dsimp only at hSw); first | (go_simp; done) | (go_simp; with_reducible rfl))
          try simp only [Act.put, List.setIfInBounds_toArray, List.set_cons_zero, List.set_cons_succ]
          refine wpAnyH_take (i := 10) (oi := { dst := some 5, op := Op.assign (Operand.tmp 49), type := 9, pos := "batch.go:36", after := #[{ on := 8, ground := Ground.data }, { on := 9, ground := Ground.chain }, { on := 0, ground := Ground.phase }, { on := 1, ground := Ground.phase }, { on := 2, ground := Ground.phase }, { on := 3, ground := Ground.phase }, { on := 4, ground := Ground.phase }, { on := 5, ground := Ground.phase }, { on := 6, ground := Ground.phase }, { on := 7, ground := Ground.phase }, { on := 8, ground := Ground.phase }, { on := 9, ground := Ground.phase }], guard := none }) (v := ?_) rfl (by kernel_rfl) (by kernel_rfl) (by kernel_rfl) (fun _ _ _ h => h) (Or.inl ⟨by rfl, ?_⟩) (by assumption) ?_
          rotate_left
          · (intro w hSw; (try dsimp only at hSw); first | (go_simp; done) | (go_simp; with_reducible rfl))
          try simp only [Act.put, List.setIfInBounds_toArray, List.set_cons_zero, List.set_cons_succ]
          refine wpAnyH_done (by kernel_rfl) ?_ _
          go_wp2_with (fail)
          go_roundw
          case rel => exact ⟨k + 1, acc ++ [b.take m], (⟨b.toArray⟩ : ByteArray).extract m b.length, by go_num, hlt, rfl, by
            rw [ByteArray.size_extract]; omega, by simp [hacc], by simpa [hacc] using HV3.out, by
            rw [HF2.out]
            have e1 : n - (k + 1) = j := by omega
            have e2 : ((⟨b.toArray⟩ : ByteArray).extract m b.length).data.toList = b.drop m := by
              simp only [ByteArray.data_extract, Array.toList_extract, List.extract_eq_take_drop]
              exact List.take_of_length_le (by rw [List.length_drop]; omega)
            rw [e1, e2], HB3.out⟩
          case measure => simp [intOf]; omega
        · have HN := Lib.hid (unbs_none (show unbL s.data.toList = none by
            rw [HU.out, HF.out, unbF_not (by rw [hT2]; exact hok)]))
          clear hT2 HF
          go_wp2_with (fail)
          refine (take_any r _ hrz).mono ?_
          rintro e w2 ⟨rfl, hb2⟩
          rw [HT2.out]
          have HB2 := Lib.hid (HB.out.trans hb2)
          clear hb2
          cases ok with
          | false =>
            go_wp2_with (fail)
            go_ret2
            exact ⟨_, by rw [HN.out]; rfl, by rw [HN.out]; exact OwnG.nil _ _ _, HB2.out⟩
          | true =>
            have hmb : b.length < m := by
              by_cases h : b.length < m
              · exact h
              · exact absurd ⟨rfl, by omega⟩ hok
            clear hok
            go_wp2_with (fail)
            go_ret2
            exact ⟨_, by rw [HN.out]; rfl, by rw [HN.out]; exact OwnG.nil _ _ _, HB2.out⟩
      · obtain rfl : k = n := by omega
        rw [Nat.sub_self] at HF
        by_cases hr0 : r.size = 0
        · obtain rfl : r = ⟨#[]⟩ := by apply ByteArray.ext; exact Array.eq_empty_of_size_eq_zero hr0
          have HN := Lib.hid (unbs_some (show unbL s.data.toList = some acc by rw [HU.out, HF.out]; rfl))
          clear HF
          go_wp2_with (fail)
          go_ret2
          exact ⟨_, by rw [HN.out]; rfl, by rw [HN.out]; exact HV.out, HB.out⟩
        · have hne : r.toList.isEmpty = false := by
            rw [ByteArray.toList_eq]
            cases h : r.data.toList with
            | nil => exact absurd (by rw [← hrz', h]; rfl) hr0
            | cons a l => rfl
          have HN := Lib.hid (unbs_none (show unbL s.data.toList = none by
            rw [HU.out, HF.out]
            simp only [unbF]
            cases h : r.data.toList with
            | nil => exact absurd (by rw [← hrz', h]; rfl) hr0
            | cons a l => rfl))
          clear HF
          go_wp2_with (fail)
          go_ret2
          exact ⟨_, by rw [HN.out]; rfl, by rw [HN.out]; exact OwnG.nil _ _ _, HB.out⟩
  · have HN := Lib.hid (unbs_none (unbl_not (s := s.data.toList) (by rw [hT]; exact hok)))
    clear hT
    go_enter Tryz.func13, Tryz.ntmps13
    go_wp2_with (fail)
    refine (take_any s w hs).mono ?_
    rintro e w1 ⟨rfl, hb1⟩
    rw [HT.out]
    have HB1 := Lib.hid hb1; clear hb1
    cases ok with
    | false =>
      go_wp2_with (fail)
      go_ret2
      exact ⟨_, by rw [HN.out]; rfl, by rw [HN.out]; exact OwnG.nil _ _ _, HB1.out⟩
    | true =>
      have hmb : 50 < n := by
        by_cases h : 50 < n
        · exact h
        · exact absurd ⟨rfl, by omega⟩ hok
      clear hok
      go_wp2_with (fail)
      go_ret2
      exact ⟨_, by rw [HN.out]; rfl, by rw [HN.out]; exact OwnG.nil _ _ _, HB1.out⟩
end Go.Proofs.YtedopiojidaeiaaGreatDoor
/- moultref7.Unbatch. -/
set_option linter.unusedSimpArgs false
set_option linter.unusedVariables false
namespace Go.Proofs.YtedopiojidaeiaaGreatDoor
open Go.RowKit Go.Deep

def RuRel (s : List UInt8) (n : Nat) (r0 : List UInt8) (w : World) (rv ov iv : Value) (x : World) : Prop :=
  ∃ (k : Nat) (acc : List (List UInt8)) (r : ByteArray), iv = .int .i64 k ∧ k ≤ n ∧ rv = .string r ∧ r.size ≤ 40000 ∧ acc.length = k ∧ OwnG strEl w.heap.size x ov acc ∧ unbF n r0 [] = unbF (n - k) r.data.toList acc ∧ (putL n ++ (acc.flatMap oneL ++ r.data.toList) = s) ∧ Bel w x

set_option maxHeartbeats 4000000 in
set_option maxRecDepth 20000 in
theorem runbatch_any (s : ByteArray) (w : World) (hs : s.size ≤ 40000) :
    Calls Tryz.prog 14 #[.string s] w (UnbPost s.data.toList w) := by
  obtain ⟨n, r0, ok, hT⟩ : ∃ n r ok, takeL s.data.toList = (n, r, ok) := ⟨_, _, _, rfl⟩
  have HT := Lib.hid (take_parts _ n r0 ok hT)
  have hnl := take_lt s.data.toList
  have hrl := take_rest s.data.toList
  rw [hT] at hnl hrl
  simp only at hnl hrl
  have hsl : s.data.toList.length = s.size := rfl
  by_cases hok : ok = true ∧ n ≤ 50
  · obtain ⟨rfl, hn⟩ := hok
    have HU := Lib.hid (unbl_of hT hn)
    go_enter Tryz.func14, Tryz.ntmps14
    go_wp2_with (fail)
    refine (rtake_any s w (by omega)).mono ?_
    rintro e w1 ⟨rfl, hb1⟩
    rw [HT.out]
    have HB1 := Lib.hid hb1; clear hb1
    go_wp2_with (fail)
    go_loopw [5, 7, 8] (fun rv ov iv x => RuRel s.data.toList n r0 w rv ov iv x) (fun _ _ iv _ => n - (intOf iv).toNat)
    case atStart => exact ⟨0, [], ⟨r0.toArray⟩, rfl, Nat.zero_le _, rfl, by rw [str_len]; omega, rfl, OwnG.nil _ _ _, by simp, by simp [take_back _ _ _ hT], HB1.out⟩
    case round =>
      obtain ⟨k, acc, r, rfl, hk, rfl, hrz, hacc, hown, hu, hsp, hb⟩ := hrel
      clear hT
      have HSP := Lib.hid hsp; clear hsp
      have HF := Lib.hid hu; clear hu
      have HB := Lib.hid hb; clear hb
      obtain ⟨op, oc, hov⟩ := ownG_len hown
      rw [hacc] at hov
      subst hov
      have HV := Lib.hid hown
      clear hown
      have hrz' : r.data.toList.length = r.size := rfl
      by_cases hlt : k < n
      · obtain ⟨m, b, ok, hT2⟩ : ∃ n' r' ok', takeL r.data.toList = (n', r', ok') := ⟨_, _, _, rfl⟩
        have HT2 := Lib.hid (take_parts _ m b ok hT2)
        have hml := take_lt r.data.toList
        have hbl := take_rest r.data.toList
        rw [hT2] at hml hbl
        simp only at hml hbl
        have hbz := str_len b
        obtain ⟨j, hj⟩ : ∃ j, n - k = j + 1 := ⟨n - k - 1, by omega⟩
        rw [hj] at HF
        by_cases hok : ok = true ∧ m ≤ b.length
        · obtain ⟨rfl, hm⟩ := hok
          have HF2 := Lib.hid (HF.out.trans (unbF_next hT2 hm))
          have HSN := Lib.hid (show putL n ++ ((acc ++ [b.take m]).flatMap oneL ++ b.drop m) = s.data.toList by
            rw [← HSP.out, ← take_back _ _ _ hT2]
            simp [oneL, List.length_take, Nat.min_eq_left hm])
          clear hT2 HF
          go_wp2_with (fail)
          refine (rtake_any r _ (by omega)).mono ?_
          rintro e w2 ⟨rfl, hb2⟩
          rw [HT2.out]
          have HB2 := Lib.hid (HB.out.trans hb2)
          have HV2 := Lib.hid (HV.out.bel hb2)
          clear hb2
          go_wp2_with (at_builtin; refine stop_here ?_)
          refine go_on ?_
          rw [show (⟨b.toArray⟩ : ByteArray).extract 0 m = ⟨(b.take m).toArray⟩ from by apply ByteArray.ext; simp]
          refine append_glit (L := acc) strOk rfl _ _ rfl rfl HV2.out _ _ _ [b.take m] rfl rfl rfl (by simp [maxLen]; omega) (by simp; omega) HB2.out.size (Or.inl rfl) ?_
          intro v3 w3 hown3 hb3
          try intro hZ3
          obtain ⟨p3, c3, rfl⟩ := ownG_len hown3
          have HV3 := Lib.hid hown3
          have HB3 := Lib.hid (HB2.out.trans_below hb3)
          clear hown3 hb3
          go_wp2_with (fail)
          go_roundw
          case rel => exact ⟨k + 1, acc ++ [b.take m], (⟨b.toArray⟩ : ByteArray).extract m b.length, by go_num, hlt, rfl, by
            rw [ByteArray.size_extract]; omega, by simp [hacc], by simpa [hacc] using HV3.out, by
            rw [HF2.out]
            have e1 : n - (k + 1) = j := by omega
            have e2 : ((⟨b.toArray⟩ : ByteArray).extract m b.length).data.toList = b.drop m := by
              simp only [ByteArray.data_extract, Array.toList_extract, List.extract_eq_take_drop]
              exact List.take_of_length_le (by rw [List.length_drop]; omega)
            rw [e1, e2], by
            have e2 : ((⟨b.toArray⟩ : ByteArray).extract m b.length).data.toList = b.drop m := by
              simp only [ByteArray.data_extract, Array.toList_extract, List.extract_eq_take_drop]
              exact List.take_of_length_le (by rw [List.length_drop]; omega)
            rw [e2]
            exact HSN.out, HB3.out⟩
          case measure => simp [intOf]; omega
        · have HN := Lib.hid (unbs_none (show unbL s.data.toList = none by
            rw [HU.out, HF.out, unbF_not (by rw [hT2]; exact hok)]))
          clear hT2 HF
          go_wp2_with (fail)
          refine (rtake_any r _ (by omega)).mono ?_
          rintro e w2 ⟨rfl, hb2⟩
          rw [HT2.out]
          have HB2 := Lib.hid (HB.out.trans hb2)
          clear hb2
          cases ok with
          | false =>
            go_wp2_with (fail)
            go_ret2
            exact ⟨_, by rw [HN.out]; rfl, by rw [HN.out]; exact OwnG.nil _ _ _, HB2.out⟩
          | true =>
            have hmb : b.length < m := by
              by_cases h : b.length < m
              · exact h
              · exact absurd ⟨rfl, by omega⟩ hok
            clear hok
            go_wp2_with (fail)
            go_ret2
            exact ⟨_, by rw [HN.out]; rfl, by rw [HN.out]; exact OwnG.nil _ _ _, HB2.out⟩
      · obtain rfl : k = n := by omega
        rw [Nat.sub_self] at HF
        have HSA := Lib.hid (ownG_strs HV.out)
        obtain ⟨p', cap', hv', hat⟩ := HSA.out
        simp only [Value.slice.injEq] at hv'
        obtain ⟨rfl, -, rfl⟩ := hv'
        have HAT := Lib.hid hat
        have hmem : ∀ t ∈ acc, t.length ≤ 1000000 := fun t ht => by
          have h1 := mem_len ht
          have h2 := congrArg List.length HSP.out
          simp only [List.length_append] at h2
          omega
        have henc : encL acc = putL k ++ acc.flatMap oneL := by rw [encL, hacc]
        have hlen : (encL acc).length + r.size = s.size := by
          have h2 := congrArg List.length HSP.out
          rw [henc]
          simp only [List.length_append] at h2 ⊢
          omega
        have HBV := Lib.hid (show batchV acc = .tuple #[.string ⟨(encL acc).toArray⟩, .int .i64 0] by
          unfold batchV; rw [batch_of (by omega) (by omega)])
        have HCL := Lib.hid (fun (z : World) (hz : StrsAt z op acc) => rbatch_any z op oc acc hz (by unfold maxLen; omega) hmem)
        rw [hacc] at HCL
        clear hmem hat HSA
        by_cases hr0 : r.size = 0
        · obtain rfl : r = ⟨#[]⟩ := by apply ByteArray.ext; exact Array.eq_empty_of_size_eq_zero hr0
          have HN := Lib.hid (unbs_some (show unbL s.data.toList = some acc by rw [HU.out, HF.out]; rfl))
          have hS : s = ⟨(encL acc).toArray⟩ := ba_of s _ (by rw [← HSP.out, henc]; simp)
          have HSS := Lib.hid hS
          clear HF henc hlen hS
          go_wp2_with (fail)
          refine (HCL.out _ HAT.out).mono ?_
          rintro e w5 ⟨rfl, hb5⟩
          rw [HBV.out, ← HSS.out]
          have HB5 := Lib.hid (HB.out.trans hb5)
          have HV5 := Lib.hid (HV.out.bel hb5)
          clear hb5
          go_wp2_with (fail)
          go_ret2
          exact ⟨_, by rw [HN.out]; rfl, by rw [HN.out]; exact HV5.out, HB5.out⟩
        · have HN := Lib.hid (unbs_none (show unbL s.data.toList = none by
            rw [HU.out, HF.out]
            simp only [unbF]
            cases h : r.data.toList with
            | nil => exact absurd (by rw [← hrz', h]; rfl) hr0
            | cons a l => rfl))
          have hz := str_len (encL acc)
          have hS2 : ((⟨(encL acc).toArray⟩ : ByteArray).toList == s.toList) = false := by
            rw [beq_eq_false_iff_ne, ByteArray.toList_eq, ByteArray.toList_eq]
            intro e
            have := congrArg List.length e
            rw [str_list] at this
            omega
          have hS3 : (encL acc == s.toList) = false := by
            rw [beq_eq_false_iff_ne, ByteArray.toList_eq]
            intro e
            have := congrArg List.length e
            omega
          clear HF henc hlen hz
          go_wp2_with (fail)
          refine (HCL.out _ HAT.out).mono ?_
          rintro e w5 ⟨rfl, hb5⟩
          rw [HBV.out]
          have HB5 := Lib.hid (HB.out.trans hb5)
          clear hb5
          go_wp2_with (fail)
          go_ret2
          exact ⟨_, by rw [HN.out]; rfl, by rw [HN.out]; exact OwnG.nil _ _ _, HB5.out⟩
  · have HN := Lib.hid (unbs_none (unbl_not (s := s.data.toList) (by rw [hT]; exact hok)))
    clear hT
    go_enter Tryz.func14, Tryz.ntmps14
    go_wp2_with (fail)
    refine (rtake_any s w (by omega)).mono ?_
    rintro e w1 ⟨rfl, hb1⟩
    rw [HT.out]
    have HB1 := Lib.hid hb1; clear hb1
    cases ok with
    | false =>
      go_wp2_with (fail)
      go_ret2
      exact ⟨_, by rw [HN.out]; rfl, by rw [HN.out]; exact OwnG.nil _ _ _, HB1.out⟩
    | true =>
      have hmb : 50 < n := by
        by_cases h : 50 < n
        · exact h
        · exact absurd ⟨rfl, by omega⟩ hok
      clear hok
      go_wp2_with (fail)
      go_ret2
      exact ⟨_, by rw [HN.out]; rfl, by rw [HN.out]; exact OwnG.nil _ _ _, HB1.out⟩
end Go.Proofs.YtedopiojidaeiaaGreatDoor
