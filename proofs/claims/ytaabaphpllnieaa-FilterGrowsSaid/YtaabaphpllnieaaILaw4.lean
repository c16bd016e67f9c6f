/- The law FilterKnows walked. -/
import Derived.Test.YtaabaphpllnieaaILaw1
import Derived.Test.YtaabaphpllnieaaBOwn
import Derived.Deep.RegionHeld
set_option linter.unusedSimpArgs false
set_option linter.unusedVariables false
namespace Go.Proofs.Ytaabaphpllnieaa
open Go.RowKit Go.Deep

theorem add_add9 (a : Addr) (i j : Nat) : (a.add i).add j = a.add (i + j) := by
  cases i with
  | zero => cases j <;> simp [Addr.add]
  | succ i => cases j <;> simp [Addr.add]; omega
theorem str_all_get (L : List (List UInt8)) (j : Nat) : (strEl.all L)[j]? = L[j]?.map (fun l => Value.string ⟨l.toArray⟩) := by
  have : strEl.all L = L.map (fun l => Value.string ⟨l.toArray⟩) := by
    unfold El.all strEl
    induction L with
    | nil => rfl
    | cons a l ih => simp only [List.flatMap_cons, List.map_cons, List.singleton_append] at ih ⊢; rw [ih]
  rw [this, List.getElem?_map]
/-- A piece of a slice of texts. -/
theorem src_piece {w : World} {a : Addr} {L : List (List UInt8)} (h : StrsAt w (some a) L) (i n c : Nat) (hn : i + n ≤ L.length) : SrcAt strEl w (.slice (some (a.add i)) n c) ((L.drop i).take n) := by
  have hl : ((L.drop i).take n).length = n := by rw [List.length_take, List.length_drop]; omega
  refine Or.inr ⟨a.add i, c, by rw [hl], fun j u hj => ?_⟩
  rw [str_all_get] at hj
  obtain ⟨l, hl1, hl2⟩ := Option.map_eq_some_iff.1 hj
  have hj2 : j < n := by
    have := (List.getElem?_eq_some_iff.1 hl1).1
    omega
  have hg : L[i + j]? = some l := by
    rw [List.getElem?_take_of_lt hj2, List.getElem?_drop] at hl1
    exact hl1
  obtain ⟨h1, h2⟩ := List.getElem?_eq_some_iff.1 hg
  obtain ⟨a', ha', hc⟩ := h (i + j) h1
  cases ha'
  rw [add_add9, hc, h2, ← hl2]
theorem turned_mem (L : List (List UInt8)) (q : Nat) : ∀ x, x ∈ (L.drop q).take (L.length - q) ++ (L.drop 0).take q ↔ x ∈ L := fun x => by
  rw [List.take_of_length_le (by rw [List.length_drop]; omega), List.drop_zero, List.mem_append]
  conv => rhs; rw [← List.take_append_drop q L, List.mem_append]
  exact or_comm
theorem turned_len (L : List (List UInt8)) (q : Nat) (h : q ≤ L.length) : ((L.drop q).take (L.length - q) ++ (L.drop 0).take q).length = L.length := by
  rw [List.length_append, List.length_take, List.length_take, List.length_drop, List.length_drop]; omega
theorem turned_build (L : List (List UInt8)) (q : Nat) (h : q ≤ L.length) : buildF ((L.drop q).take (L.length - q) ++ (L.drop 0).take q) = buildF L :=
  build_same (turned_len L q h) (turned_mem L q)
theorem turned_small {m : Nat} {L : List (List UInt8)} (q : Nat) (h : strSmall m L) : strSmall m ((L.drop q).take (L.length - q) ++ (L.drop 0).take q) := fun i hi => by
  have := (turned_mem L q _).1 (List.getElem_mem hi)
  obtain ⟨j, hj, e⟩ := List.getElem_of_mem this
  rw [← e]; exact h j hj
theorem known {b key : ByteArray} {L : List (List UInt8)} {k : Nat} (hb : b = ⟨(buildF L).toArray⟩) (h : k < L.length) (hk : key = ⟨L[k].toArray⟩) : mayF b.data.toList key.data.toList = true := by
  have e1 : b.data.toList = buildF L := by rw [hb]
  have e2 : key.data.toList = L[k] := by rw [hk]
  rw [e1, e2]
  exact may_build (List.getElem_mem h)
theorem known_size {m : Nat} {key : ByteArray} {L : List (List UInt8)} {k : Nat} (hs : strSmall m L) (h : k < L.length) (hk : key = ⟨L[k].toArray⟩) : key.size ≤ m := by
  rw [hk, size_mk]; exact hs k h
set_option maxHeartbeats 4000000 in
theorem law_knows_any (w : World) (p : Option Addr) (cap : Nat) (L : List (List UInt8)) (turn : Int) (h : StrsAt w p L) (hL : L.length ≤ maxLen) (hcap : L.length ≤ cap) (hs : strSmall maxLen L) (ht : -9223372036854775808 ≤ turn ∧ turn ≤ 9223372036854775807) :
    Calls Try.prog 5 #[.slice p L.length cap, .int .i64 turn] w fun e w' => e = .returned (.bool true) ∧ Bel w w' := by
  have H := Lib.hid h; clear h
  have HL := Lib.hid hL
  have HSM := Lib.hid hs; clear hs
  unfold maxLen at hL
  go_enter Try.func5, Try.ntmps5
  go_wp2_with (fail)
  refine (shown_any w).mono ?_
  rintro e w1 ⟨rfl, hb⟩
  have HB := Lib.hid hb; clear hb
  go_wp2_with (fail)
  refine (small_any p cap L w1 (H.out.bel HB.out) HL.out HSM.out).mono ?_
  rintro e w2 ⟨hb, (⟨hok, rfl⟩ | rfl)⟩
  · replace HB := Lib.hid (HB.out.trans hb.bel); clear hb
    have HOK := Lib.hid hok
    have h200 := hok.1
    clear hok hL
    by_cases h0 : L.length = 0
    · have h0' : (L.length : Int) = 0 := by omega
      go_wp2_with (fail)
      go_ret
      exact ⟨rfl, HB.out⟩
    · have h0' : ((L.length : Int) == 0) = false := by rw [beq_eq_false_iff_ne]; omega
      obtain ⟨b, hbb⟩ : ∃ b : ByteArray, b = ⟨(buildF L).toArray⟩ := ⟨_, rfl⟩
      have HBB := Lib.hid hbb
      have HBS := Lib.hid (show b.size ≤ 1000000 by rw [hbb]; have := build_size HOK.out; omega)
      obtain ⟨a, rfl, -⟩ := H.out 0 (by omega)
      have hr0 := Int.lt_tmod_of_pos turn (show (0 : Int) < (L.length : Int) by omega)
      have hr1 := Int.tmod_lt_of_pos turn (show (0 : Int) < (L.length : Int) by omega)
      obtain ⟨r, hr⟩ : ∃ r, turn.tmod (L.length : Int) = r := ⟨_, rfl⟩
      rw [hr] at hr0 hr1
      clear hbb
      go_wp2_with (fail)
      refine (build_any (some a) cap L w2 (H.out.bel HB.out) (small_mono HOK.out).1 (small_mono HOK.out).2).mono ?_
      rw [← HBB.out]
      rintro e w3 ⟨rfl, hb⟩
      replace HB := Lib.hid (HB.out.trans hb); clear hb
      by_cases hneg : r < 0
      · obtain ⟨q, hq⟩ : ∃ q : Nat, -r = q := ⟨(-r).toNat, by omega⟩
        have hKL : q ≤ L.length := by omega
        have hKc : q ≤ cap := by omega
        have hKn : ¬ cap = q := by omega
        have HTB := Lib.hid (turned_build L q hKL)
        have HTL := Lib.hid (turned_len L q hKL)
        have HTS := Lib.hid (turned_small q (small_mono HOK.out).2)
        go_wp2_with (fail)
        refine wp_region_held_drew (S := fun z => True) (by kernel_rfl) trivial (fun hHeld => ?_)
        refine wpAnyH_take (i := 1) (oi := { dst := some 36, op := Op.move (Operand.tmp 0), type := 29, pos := "law.go:75", after := #[], guard := none }) (v := ?_) rfl (by kernel_rfl) (by kernel_rfl) (by kernel_rfl) (fun _ _ _ h => h) (Or.inl ⟨by rfl, ?_⟩) (by assumption) ?_
        rotate_left
        · (intro w hSw; (try dsimp only at hSw); first | (go_simp; done) | (go_simp; with_reducible rfl))
        try simp only [Act.put, List.setIfInBounds_toArray, List.set_cons_zero, List.set_cons_succ]
        refine wpAnyH_take (i := 2) (oi := { dst := some 37, op := Op.move (Operand.tmp 8), type := 3, pos := "law.go:75", after := #[], guard := none }) (v := ?_) rfl (by kernel_rfl) (by kernel_rfl) (by kernel_rfl) (fun _ _ _ h => h) (Or.inl ⟨by rfl, ?_⟩) (by assumption) ?_
        rotate_left
        · (intro w hSw; (try dsimp only at hSw); first | (go_simp; done) | (go_simp; with_reducible rfl))
        try simp only [Act.put, List.setIfInBounds_toArray, List.set_cons_zero, List.set_cons_succ]
        refine wpAnyH_take (i := 3) (oi := { dst := some 38, op := Op.slice 29 (Operand.tmp 36) (some (Operand.tmp 37)) none none, type := 29, pos := "law.go:75", after := #[{ on := 1, ground := Ground.data }, { on := 2, ground := Ground.data }], guard := none }) (v := ?_) rfl (by kernel_rfl) (by kernel_rfl) (by kernel_rfl) (fun _ _ _ h => h) (Or.inl ⟨by rfl, ?_⟩) (by assumption) ?_
        rotate_left
        · (intro w hSw; (try dsimp only at hSw); first | (go_simp; done) | (go_simp; with_reducible rfl))
        try simp only [Act.put, List.setIfInBounds_toArray, List.set_cons_zero, List.set_cons_succ]
        refine wpAnyH_take (i := 5) (oi := { dst := some 40, op := Op.move (Operand.tmp 0), type := 29, pos := "law.go:75", after := #[], guard := none }) (v := ?_) rfl (by kernel_rfl) (by kernel_rfl) (by kernel_rfl) (fun _ _ _ h => h) (Or.inl ⟨by rfl, ?_⟩) (by assumption) ?_
        rotate_left
        · (intro w hSw; (try dsimp only at hSw); first | (go_simp; done) | (go_simp; with_reducible rfl))
        try simp only [Act.put, List.setIfInBounds_toArray, List.set_cons_zero, List.set_cons_succ]
        refine wpAnyH_take (i := 6) (oi := { dst := some 41, op := Op.move (Operand.tmp 8), type := 3, pos := "law.go:75", after := #[], guard := none }) (v := ?_) rfl (by kernel_rfl) (by kernel_rfl) (by kernel_rfl) (fun _ _ _ h => h) (Or.inl ⟨by rfl, ?_⟩) (by assumption) ?_
        rotate_left
        · (intro w hSw; (try dsimp only at hSw); first | (go_simp; done) | (go_simp; with_reducible rfl))
        try simp only [Act.put, List.setIfInBounds_toArray, List.set_cons_zero, List.set_cons_succ]
        refine wpAnyH_take (i := 7) (oi := { dst := some 42, op := Op.slice 29 (Operand.tmp 40) none (some (Operand.tmp 41)) none, type := 29, pos := "law.go:75", after := #[{ on := 5, ground := Ground.data }, { on := 6, ground := Ground.data }], guard := none }) (v := ?_) rfl (by kernel_rfl) (by kernel_rfl) (by kernel_rfl) (fun _ _ _ h => h) (Or.inl ⟨by rfl, ?_⟩) (by assumption) ?_
        rotate_left
        · (intro w hSw; (try dsimp only at hSw); first | (go_simp; done) | (go_simp; with_reducible rfl))
        try simp only [Act.put, List.setIfInBounds_toArray, List.set_cons_zero, List.set_cons_succ]
        refine wpAnyH_take (i := 10) (oi := { dst := some 45, op := Op.move (Operand.tmp 7), type := 9, pos := "law.go:75", after := #[], guard := none }) (v := ?_) rfl (by kernel_rfl) (by kernel_rfl) (by kernel_rfl) (fun _ _ _ h => h) (Or.inl ⟨by rfl, ?_⟩) (by assumption) ?_
        rotate_left
        · (intro w hSw; (try dsimp only at hSw); first | (go_simp; done) | (go_simp; with_reducible rfl))
        try simp only [Act.put, List.setIfInBounds_toArray, List.set_cons_zero, List.set_cons_succ]
        refine wpAnyH_ready (rs := [0]) (by kernel_rfl) (by simp) ?_
        refine AllReadyH.cons (o := { dst := some 35, op := Op.buildSlice 29 0 #[], type := 29, pos := "law.go:75", after := #[], guard := none }) rfl (fun K hK => ?_) AllReadyH.nil
        go_simp
        have HLE := Lib.hid (show (w3.alloc (.cells #[] 9)).drew.heap[w3.heap.size]? = some (.cells #[] 9) from heap_alloc_new w3 (.cells #[] 9))
        have HB1r := Lib.hid (show Bel w (w3.alloc (.cells #[] 9)).drew from (HB.out.alloc _).drew)
        have hy3 : w.heap.size ≤ w3.heap.size := HB.out.size
        refine hK.out _ _ trivial (fun hHeld => ?_)
        clear hK K
        try simp only [Act.put, List.setIfInBounds_toArray, List.set_cons_zero, List.set_cons_succ]
        have HOE := Lib.hid (ownG_empty (E := strEl) (n := w.heap.size) HLE.out hy3)
        obtain ⟨w4, hw4⟩ : ∃ x, x = (w3.alloc (.cells #[] 9)).drew := ⟨_, rfl⟩
        rw [← hw4] at HOE HB1r ⊢
        clear hw4 HLE
        generalize w3.heap.size = Y at *
        refine wpAnyH_ready (rs := [4]) (by kernel_rfl) (by simp) ?_
        refine AllReadyH.cons (o := { dst := some 39, op := Op.call { callee := Callee.builtin Builtin.append, args := #[Operand.tmp 35, Operand.tmp 38], argTypes := #[29, 29] }, type := 29, pos := "law.go:75", after := #[{ on := 0, ground := Ground.data }, { on := 3, ground := Ground.data }], guard := none }) rfl (fun K hK => ?_) AllReadyH.nil
        refine step_append_all strOk rfl (.tmp 35) (.tmp 38) rfl rfl HOE.out ((L.drop q).take (L.length - q)) rfl (src_piece (H.out.bel HB1r.out) q (L.length - q) (cap - q) (by omega)) (by simp only [List.length_nil, List.length_take, List.length_drop]; unfold maxLen; omega) (by simp only [List.length_nil, List.length_take, List.length_drop]; omega) HB1r.out.size ?_
        intro v5 w5 ho5 hk5 _
        have HB5 := Lib.hid (show Bel w w5 from HB1r.out.trans_below (hk5.own HB1r.out.size (fun k hk => (HOE.out.lt k hk).1)))
        rw [List.nil_append] at ho5
        have HO5 := Lib.hid ho5
        clear ho5 hk5
        refine hK.out _ _ trivial (fun hHeld => ?_)
        clear hK K
        try simp only [Act.put, List.setIfInBounds_toArray, List.set_cons_zero, List.set_cons_succ]
        refine wpAnyH_ready (rs := [8]) (by kernel_rfl) (by simp) ?_
        refine AllReadyH.cons (o := { dst := some 43, op := Op.call { callee := Callee.builtin Builtin.append, args := #[Operand.tmp 39, Operand.tmp 42], argTypes := #[29, 29] }, type := 29, pos := "law.go:75", after := #[{ on := 4, ground := Ground.data }, { on := 7, ground := Ground.data }, { on := 4, ground := Ground.chain }], guard := none }) rfl (fun K hK => ?_) AllReadyH.nil
        refine step_append_all strOk rfl (.tmp 39) (.tmp 42) rfl rfl HO5.out ((L.drop 0).take q) rfl (src_piece (H.out.bel HB5.out) 0 q cap (by omega)) (by simp only [List.length_take, List.length_drop]; unfold maxLen; omega) (by simp only [List.length_take, List.length_drop]; omega) HB5.out.size ?_
        intro v6 w6 ho6 hk6 _
        have HB6 := Lib.hid (show Bel w w6 from HB5.out.trans_below (hk6.own HB5.out.size (fun k hk => (HO5.out.lt k hk).1)))
        obtain ⟨N, hN⟩ : ∃ N, (L.drop q).take (L.length - q) ++ (L.drop 0).take q = N := ⟨_, rfl⟩
        rw [hN] at ho6 HTB HTL HTS
        clear hN
        obtain ⟨p6, c6, rfl, hat6⟩ := ownG_strs ho6
        have HAT6 := Lib.hid hat6
        clear ho6 hk6 hat6
        refine hK.out _ _ trivial (fun hHeld => ?_)
        clear hK K
        try simp only [Act.put, List.setIfInBounds_toArray, List.set_cons_zero, List.set_cons_succ]
        refine wpAnyH_ready (rs := [9]) (by kernel_rfl) (by simp) ?_
        refine AllReadyH.cons (o := { dst := some 44, op := Op.call { callee := Callee.value (Operand.func 16), args := #[Operand.tmp 43], argTypes := #[29] }, type := 9, pos := "law.go:75", after := #[{ on := 8, ground := Ground.data }, { on := 8, ground := Ground.chain }], guard := none }) rfl (fun K hK => ?_) AllReadyH.nil
        go_simp
        refine (build_any p6 c6 N w6 HAT6.out (by rw [HTL.out]; exact (small_mono HOK.out).1) HTS.out).mono ?_
        rw [HTB.out, ← HBB.out]
        rintro e w7 ⟨rfl, hb⟩
        have HB7 := Lib.hid (HB6.out.trans hb); clear hb
        dsimp only
        refine hK.out _ _ trivial (fun hHeld => ?_)
        clear hK K
        try simp only [Act.put, List.setIfInBounds_toArray, List.set_cons_zero, List.set_cons_succ]
        refine wpAnyH_take (i := 11) (oi := { dst := some 46, op := Op.binOp BinOp.neq 9 (Operand.tmp 44) (Operand.tmp 45) 9, type := 4, pos := "law.go:75", after := #[{ on := 9, ground := Ground.data }, { on := 10, ground := Ground.data }], guard := none }) (v := ?_) rfl (by kernel_rfl) (by kernel_rfl) (by kernel_rfl) (fun _ _ _ h => h) (Or.inl ⟨by rfl, ?_⟩) (by assumption) ?_
        rotate_left
        · (intro w hSw; (try dsimp only at hSw); first | (go_simp; done) | (go_simp; with_reducible rfl))
        try simp only [Act.put, List.setIfInBounds_toArray, List.set_cons_zero, List.set_cons_succ]
        refine wpAnyH_done (by kernel_rfl) ?_ _
        go_wp2_with (fail)
        go_loopw [9] (fun iv x => (∃ k : Nat, k ≤ L.length ∧ iv = .int .i64 k) ∧ Bel w x) (fun iv _ => L.length - (intOf iv).toNat)
        case atStart => exact ⟨⟨0, Nat.zero_le _, rfl⟩, HB7.out⟩
        case round =>
          obtain ⟨⟨k, hk, rfl⟩, hbx⟩ := hrel
          have HBX := Lib.hid hbx; clear hbx
          by_cases hlt : k < L.length
          · obtain ⟨_, ha', hc⟩ := (H.out.bel HBX.out) k hlt; cases ha'
            obtain ⟨key, hkey⟩ : ∃ key : ByteArray, key = ⟨L[k].toArray⟩ := ⟨_, rfl⟩
            have HM := Lib.hid (known HBB.out hlt hkey)
            have HKS := Lib.hid (known_size (small_mono HOK.out).2 hlt hkey)
            rw [← hkey] at hc
            clear hkey
            go_wp2_with (fail)
            refine (may_at b key true _ HBS.out HKS.out HM.out).mono ?_
            rintro e w8 ⟨rfl, hb⟩
            replace HBX := Lib.hid (HBX.out.trans hb); clear hb
            go_wp2_with (fail)
            go_roundw
            case rel => exact ⟨⟨k + 1, hlt, by go_num⟩, HBX.out⟩
            case measure => simp [intOf]; omega
          · go_wp2_with (fail)
            go_ret
            exact ⟨rfl, HBX.out⟩
      · obtain ⟨q, rfl⟩ : ∃ q : Nat, r = q := ⟨r.toNat, by omega⟩
        have hKL : q ≤ L.length := by omega
        have hKc : q ≤ cap := by omega
        have hKn : ¬ cap = q := by omega
        have HTB := Lib.hid (turned_build L q hKL)
        have HTL := Lib.hid (turned_len L q hKL)
        have HTS := Lib.hid (turned_small q (small_mono HOK.out).2)
        go_wp2_with (fail)
        refine wp_region_held_drew (S := fun z => True) (by kernel_rfl) trivial (fun hHeld => ?_)
        refine wpAnyH_take (i := 1) (oi := { dst := some 36, op := Op.move (Operand.tmp 0), type := 29, pos := "law.go:75", after := #[], guard := none }) (v := ?_) rfl (by kernel_rfl) (by kernel_rfl) (by kernel_rfl) (fun _ _ _ h => h) (Or.inl ⟨by rfl, ?_⟩) (by assumption) ?_
        rotate_left
        · (intro w hSw; (try dsimp only at hSw); first | (go_simp; done) | (go_simp; with_reducible rfl))
        try simp only [Act.put, List.setIfInBounds_toArray, List.set_cons_zero, List.set_cons_succ]
        refine wpAnyH_take (i := 2) (oi := { dst := some 37, op := Op.move (Operand.tmp 8), type := 3, pos := "law.go:75", after := #[], guard := none }) (v := ?_) rfl (by kernel_rfl) (by kernel_rfl) (by kernel_rfl) (fun _ _ _ h => h) (Or.inl ⟨by rfl, ?_⟩) (by assumption) ?_
        rotate_left
        · (intro w hSw; (try dsimp only at hSw); first | (go_simp; done) | (go_simp; with_reducible rfl))
        try simp only [Act.put, List.setIfInBounds_toArray, List.set_cons_zero, List.set_cons_succ]
        refine wpAnyH_take (i := 3) (oi := { dst := some 38, op := Op.slice 29 (Operand.tmp 36) (some (Operand.tmp 37)) none none, type := 29, pos := "law.go:75", after := #[{ on := 1, ground := Ground.data }, { on := 2, ground := Ground.data }], guard := none }) (v := ?_) rfl (by kernel_rfl) (by kernel_rfl) (by kernel_rfl) (fun _ _ _ h => h) (Or.inl ⟨by rfl, ?_⟩) (by assumption) ?_
        rotate_left
        · (intro w hSw; (try dsimp only at hSw); first | (go_simp; done) | (go_simp; with_reducible rfl))
        try simp only [Act.put, List.setIfInBounds_toArray, List.set_cons_zero, List.set_cons_succ]
        refine wpAnyH_take (i := 5) (oi := { dst := some 40, op := Op.move (Operand.tmp 0), type := 29, pos := "law.go:75", after := #[], guard := none }) (v := ?_) rfl (by kernel_rfl) (by kernel_rfl) (by kernel_rfl) (fun _ _ _ h => h) (Or.inl ⟨by rfl, ?_⟩) (by assumption) ?_
        rotate_left
        · (intro w hSw; (try dsimp only at hSw); first | (go_simp; done) | (go_simp; with_reducible rfl))
        try simp only [Act.put, List.setIfInBounds_toArray, List.set_cons_zero, List.set_cons_succ]
        refine wpAnyH_take (i := 6) (oi := { dst := some 41, op := Op.move (Operand.tmp 8), type := 3, pos := "law.go:75", after := #[], guard := none }) (v := ?_) rfl (by kernel_rfl) (by kernel_rfl) (by kernel_rfl) (fun _ _ _ h => h) (Or.inl ⟨by rfl, ?_⟩) (by assumption) ?_
        rotate_left
        · (intro w hSw; (try dsimp only at hSw); first | (go_simp; done) | (go_simp; with_reducible rfl))
        try simp only [Act.put, List.setIfInBounds_toArray, List.set_cons_zero, List.set_cons_succ]
        refine wpAnyH_take (i := 7) (oi := { dst := some 42, op := Op.slice 29 (Operand.tmp 40) none (some (Operand.tmp 41)) none, type := 29, pos := "law.go:75", after := #[{ on := 5, ground := Ground.data }, { on := 6, ground := Ground.data }], guard := none }) (v := ?_) rfl (by kernel_rfl) (by kernel_rfl) (by kernel_rfl) (fun _ _ _ h => h) (Or.inl ⟨by rfl, ?_⟩) (by assumption) ?_
        rotate_left
        · (intro w hSw; (try dsimp only at hSw); first | (go_simp; done) | (go_simp; with_reducible rfl))
        try simp only [Act.put, List.setIfInBounds_toArray, List.set_cons_zero, List.set_cons_succ]
        refine wpAnyH_take (i := 10) (oi := { dst := some 45, op := Op.move (Operand.tmp 7), type := 9, pos := "law.go:75", after := #[], guard := none }) (v := ?_) rfl (by kernel_rfl) (by kernel_rfl) (by kernel_rfl) (fun _ _ _ h => h) (Or.inl ⟨by rfl, ?_⟩) (by assumption) ?_
        rotate_left
        · (intro w hSw; (try dsimp only at hSw); first | (go_simp; done) | (go_simp; with_reducible rfl))
        try simp only [Act.put, List.setIfInBounds_toArray, List.set_cons_zero, List.set_cons_succ]
        refine wpAnyH_ready (rs := [0]) (by kernel_rfl) (by simp) ?_
        refine AllReadyH.cons (o := { dst := some 35, op := Op.buildSlice 29 0 #[], type := 29, pos := "law.go:75", after := #[], guard := none }) rfl (fun K hK => ?_) AllReadyH.nil
        go_simp
        have HLE := Lib.hid (show (w3.alloc (.cells #[] 9)).drew.heap[w3.heap.size]? = some (.cells #[] 9) from heap_alloc_new w3 (.cells #[] 9))
        have HB1r := Lib.hid (show Bel w (w3.alloc (.cells #[] 9)).drew from (HB.out.alloc _).drew)
        have hy3 : w.heap.size ≤ w3.heap.size := HB.out.size
        refine hK.out _ _ trivial (fun hHeld => ?_)
        clear hK K
        try simp only [Act.put, List.setIfInBounds_toArray, List.set_cons_zero, List.set_cons_succ]
        have HOE := Lib.hid (ownG_empty (E := strEl) (n := w.heap.size) HLE.out hy3)
        obtain ⟨w4, hw4⟩ : ∃ x, x = (w3.alloc (.cells #[] 9)).drew := ⟨_, rfl⟩
        rw [← hw4] at HOE HB1r ⊢
        clear hw4 HLE
        generalize w3.heap.size = Y at *
        refine wpAnyH_ready (rs := [4]) (by kernel_rfl) (by simp) ?_
        refine AllReadyH.cons (o := { dst := some 39, op := Op.call { callee := Callee.builtin Builtin.append, args := #[Operand.tmp 35, Operand.tmp 38], argTypes := #[29, 29] }, type := 29, pos := "law.go:75", after := #[{ on := 0, ground := Ground.data }, { on := 3, ground := Ground.data }], guard := none }) rfl (fun K hK => ?_) AllReadyH.nil
        refine step_append_all strOk rfl (.tmp 35) (.tmp 38) rfl rfl HOE.out ((L.drop q).take (L.length - q)) rfl (src_piece (H.out.bel HB1r.out) q (L.length - q) (cap - q) (by omega)) (by simp only [List.length_nil, List.length_take, List.length_drop]; unfold maxLen; omega) (by simp only [List.length_nil, List.length_take, List.length_drop]; omega) HB1r.out.size ?_
        intro v5 w5 ho5 hk5 _
        have HB5 := Lib.hid (show Bel w w5 from HB1r.out.trans_below (hk5.own HB1r.out.size (fun k hk => (HOE.out.lt k hk).1)))
        rw [List.nil_append] at ho5
        have HO5 := Lib.hid ho5
        clear ho5 hk5
        refine hK.out _ _ trivial (fun hHeld => ?_)
        clear hK K
        try simp only [Act.put, List.setIfInBounds_toArray, List.set_cons_zero, List.set_cons_succ]
        refine wpAnyH_ready (rs := [8]) (by kernel_rfl) (by simp) ?_
        refine AllReadyH.cons (o := { dst := some 43, op := Op.call { callee := Callee.builtin Builtin.append, args := #[Operand.tmp 39, Operand.tmp 42], argTypes := #[29, 29] }, type := 29, pos := "law.go:75", after := #[{ on := 4, ground := Ground.data }, { on := 7, ground := Ground.data }, { on := 4, ground := Ground.chain }], guard := none }) rfl (fun K hK => ?_) AllReadyH.nil
        refine step_append_all strOk rfl (.tmp 39) (.tmp 42) rfl rfl HO5.out ((L.drop 0).take q) rfl (src_piece (H.out.bel HB5.out) 0 q cap (by omega)) (by simp only [List.length_take, List.length_drop]; unfold maxLen; omega) (by simp only [List.length_take, List.length_drop]; omega) HB5.out.size ?_
        intro v6 w6 ho6 hk6 _
        have HB6 := Lib.hid (show Bel w w6 from HB5.out.trans_below (hk6.own HB5.out.size (fun k hk => (HO5.out.lt k hk).1)))
        obtain ⟨N, hN⟩ : ∃ N, (L.drop q).take (L.length - q) ++ (L.drop 0).take q = N := ⟨_, rfl⟩
        rw [hN] at ho6 HTB HTL HTS
        clear hN
        obtain ⟨p6, c6, rfl, hat6⟩ := ownG_strs ho6
        have HAT6 := Lib.hid hat6
        clear ho6 hk6 hat6
        refine hK.out _ _ trivial (fun hHeld => ?_)
        clear hK K
        try simp only [Act.put, List.setIfInBounds_toArray, List.set_cons_zero, List.set_cons_succ]
        refine wpAnyH_ready (rs := [9]) (by kernel_rfl) (by simp) ?_
        refine AllReadyH.cons (o := { dst := some 44, op := Op.call { callee := Callee.value (Operand.func 16), args := #[Operand.tmp 43], argTypes := #[29] }, type := 9, pos := "law.go:75", after := #[{ on := 8, ground := Ground.data }, { on := 8, ground := Ground.chain }], guard := none }) rfl (fun K hK => ?_) AllReadyH.nil
        go_simp
        refine (build_any p6 c6 N w6 HAT6.out (by rw [HTL.out]; exact (small_mono HOK.out).1) HTS.out).mono ?_
        rw [HTB.out, ← HBB.out]
        rintro e w7 ⟨rfl, hb⟩
        have HB7 := Lib.hid (HB6.out.trans hb); clear hb
        dsimp only
        refine hK.out _ _ trivial (fun hHeld => ?_)
        clear hK K
        try simp only [Act.put, List.setIfInBounds_toArray, List.set_cons_zero, List.set_cons_succ]
        refine wpAnyH_take (i := 11) (oi := { dst := some 46, op := Op.binOp BinOp.neq 9 (Operand.tmp 44) (Operand.tmp 45) 9, type := 4, pos := "law.go:75", after := #[{ on := 9, ground := Ground.data }, { on := 10, ground := Ground.data }], guard := none }) (v := ?_) rfl (by kernel_rfl) (by kernel_rfl) (by kernel_rfl) (fun _ _ _ h => h) (Or.inl ⟨by rfl, ?_⟩) (by assumption) ?_
        rotate_left
        · (intro w hSw; (try dsimp only at hSw); first | (go_simp; done) | (go_simp; with_reducible rfl))
        try simp only [Act.put, List.setIfInBounds_toArray, List.set_cons_zero, List.set_cons_succ]
        refine wpAnyH_done (by kernel_rfl) ?_ _
        go_wp2_with (fail)
        go_loopw [9] (fun iv x => (∃ k : Nat, k ≤ L.length ∧ iv = .int .i64 k) ∧ Bel w x) (fun iv _ => L.length - (intOf iv).toNat)
        case atStart => exact ⟨⟨0, Nat.zero_le _, rfl⟩, HB7.out⟩
        case round =>
          obtain ⟨⟨k, hk, rfl⟩, hbx⟩ := hrel
          have HBX := Lib.hid hbx; clear hbx
          by_cases hlt : k < L.length
          · obtain ⟨_, ha', hc⟩ := (H.out.bel HBX.out) k hlt; cases ha'
            obtain ⟨key, hkey⟩ : ∃ key : ByteArray, key = ⟨L[k].toArray⟩ := ⟨_, rfl⟩
            have HM := Lib.hid (known HBB.out hlt hkey)
            have HKS := Lib.hid (known_size (small_mono HOK.out).2 hlt hkey)
            rw [← hkey] at hc
            clear hkey
            go_wp2_with (fail)
            refine (may_at b key true _ HBS.out HKS.out HM.out).mono ?_
            rintro e w8 ⟨rfl, hb⟩
            replace HBX := Lib.hid (HBX.out.trans hb); clear hb
            go_wp2_with (fail)
            go_roundw
            case rel => exact ⟨⟨k + 1, hlt, by go_num⟩, HBX.out⟩
            case measure => simp [intOf]; omega
          · go_wp2_with (fail)
            go_ret
            exact ⟨rfl, HBX.out⟩
  · replace HB := Lib.hid (HB.out.trans hb.bel); clear hb
    go_wp2_with (fail)
    go_ret
    exact ⟨rfl, HB.out⟩
end Go.Proofs.Ytaabaphpllnieaa
