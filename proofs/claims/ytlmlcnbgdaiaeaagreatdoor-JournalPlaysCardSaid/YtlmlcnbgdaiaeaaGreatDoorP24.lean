/- JRWrite, JHold, JSame, JShown, JAct, JWM, JBegin, JDoes, JModel, laid together. -/
import Derived.Test.YtlmlcnbgdaiaeaaGreatDoorP23
import Derived.Test.YtlmlcnbgdaiaeaaGreatDoorP14
import Derived.Test.YtlmlcnbgdaiaeaaGreatDoorP7
import Derived.Test.YtlmlcnbgdaiaeaaGreatDoorP2
import Derived.Test.YtlmlcnbgdaiaeaaGreatDoorP26
set_option linter.unusedSimpArgs false
set_option linter.unusedVariables false
/- moultref7's Write. -/
namespace Go.Proofs.YtlmlcnbgdaiaeaaGreatDoor
open Go.RowKit Go.Deep Go.Maps

theorem last_there {p : List UInt8} {M : RS} (h : M.ok) {n : Nat} (hn : lastN p M.L = n) (h0 : n ≠ 0) : (getF (fileN p n) M.L).isSome = true := by
  have hmem : n ∈ segsL p M.L := by rw [← hn]; exact last_mem (fun e => h0 (by rw [← hn]; exact last_zero.2 e))
  exact ((mem_segs_get h.srt).1 hmem).2.2
def rroom (p : List UInt8) (most : Int) (M : RS) : Int × RS := if max most 1 ≤ ((bytesOf (fileN p (lastN p M.L)) M).length : Int) then jturn p M else (0, M)
theorem rwrite_eq (p : List UInt8) (most : Int) (l : List (List UInt8)) (M : RS) (s : List UInt8) (h : batchS l = (s, 0)) : jwrite p most l M = if (rroom p most M).1 ≠ 0 then rroom p most M else jput (fileN p (lastN p (rroom p most M).2.L)) (frameL s) (rroom p most M).2 := by
  unfold jwrite
  rw [h]
  simp only [ne_eq, not_true_eq_false, if_false]
  by_cases hg : M.gone = true
  · rw [if_pos hg]
    unfold rroom
    split
    · rw [if_pos (by unfold jturn; rw [gone_add hg]; simp)]
      unfold jturn; rw [gone_add hg]
    · rw [if_neg (by simp)]
      unfold jput
      rw [gone_add hg]; simp
  · rw [if_neg hg]
    have hr : jroom p most M = rroom p most M := by
      unfold jroom rroom
      have : (bytesOf (fileN p (lastN p M.L)) M ≠ [] ∧ most ≤ ((bytesOf (fileN p (lastN p M.L)) M).length : Int)) ↔ max most 1 ≤ ((bytesOf (fileN p (lastN p M.L)) M).length : Int) := by
        rw [← List.length_pos_iff]; omega
      by_cases hc : max most 1 ≤ ((bytesOf (fileN p (lastN p M.L)) M).length : Int)
      · rw [if_pos hc, if_pos (this.2 hc)]
      · rw [if_neg hc, if_neg (fun h => hc (this.1 h))]
    rw [hr]
set_option maxHeartbeats 4000000 in
set_option maxRecDepth 20000 in
theorem rwrite_any (n₀ : Nat) (w : World) (b : Nat) (M : RS) (F : List Nat) (jb : Nat) (p : ByteArray) (most : Int) (lp : Option Addr) (lc : Nat) (L : List (List UInt8)) (h : RJS n₀ w b M F jb p most) (hp : p.size ≤ 100) (h0 : lastN p.data.toList M.L ≠ 0) (h9 : lastN p.data.toList M.L < 9999999) (hmost : in64 most)
    (hl : StrsAt w lp L) (hL : L.length ≤ maxLen) (ht : ∀ t ∈ L, t.length ≤ 1000000) :
    Calls Tryz.prog 36 #[.pointer (some ⟨jb, 0, none⟩), .slice lp L.length lc] w fun e y => e = .returned (.int .i64 (jwrite p.data.toList most L M).1) ∧ RefTo n₀ w y b (jwrite p.data.toList most L M).2 F := by
  have H := Lib.hid h
  have HMS := Lib.hid hmost
  have HC := Lib.hid (rbatch_any w lp lc L hl hL ht)
  have hbl := batch_len L
  have hpl : p.data.toList.length = p.size := rfl
  obtain ⟨s, e0, hB⟩ : ∃ s e0, batchS L = (s, e0) := ⟨_, _, rfl⟩
  have HBB := Lib.hid hB
  have HBV := Lib.hid (show batchV L = .tuple #[.string ⟨s.toArray⟩, .int .i64 e0] by unfold batchV; rw [hB])
  rw [hB] at hbl
  simp only at hbl
  have hsz := str_len s
  have hfr := frame_len s
  have hs9 := szN_le s.length
  have hfz2 := str_len (frameL s)
  obtain ⟨n, hn⟩ : ∃ n, lastN p.data.toList M.L = n := ⟨_, rfl⟩
  have HN := Lib.hid hn
  rw [hn] at h0 h9
  obtain ⟨y, hy⟩ := Option.isSome_iff_exists.1 (last_there h.ok hn h0)
  have HBY := Lib.hid (show bytesOf (fileN p.data.toList n) M = y.bytes from bytesOf_get hy)
  have HIS := Lib.hid (show isN (fileN p.data.toList n) M.L = true by rw [is_getF _ h.ok.srt, hy]; rfl)
  obtain ⟨fn, hfn⟩ : ∃ fn, findN (fileN p.data.toList n) M.L = fn := ⟨_, rfl⟩
  have HFN := Lib.hid hfn
  have hfi : M.L[fn]? = some y := by rw [← hfn, find_getF _ h.ok.srt HIS.out, hy]
  have HFI := Lib.hid hfi
  have hflt : fn < M.L.length := (List.getElem?_eq_some_iff.1 hfi).1
  have hyb := (each_ok h.ok y (getF_mem hy)).1
  have hybz := str_len y.bytes
  have hfl := file_len p.data.toList (n := n) (by omega)
  have hfz := str_len (fileN p.data.toList n)
  have hfl' := file_len p.data.toList (n := n + 1) (by omega)
  have hfz' := str_len (fileN p.data.toList (n + 1))
  have h60 := h.ok.len
  clear h hB hmost hl hL ht hn hy hfn hfi
  go_enter Tryz.func36, Tryz.ntmps36
  go_wp2_with (fail)
  refine HC.out.mono ?_
  rintro e w1 ⟨rfl, hb1⟩
  rw [HBV.out]
  have HB1 := Lib.hid hb1
  clear hb1
  by_cases he0 : e0 = 0
  · subst he0
    have HW := Lib.hid (rwrite_eq p.data.toList most L M s HBB.out)
    go_wp2_with (fail)
    refine (rframe_ok _ w1 (by omega)).mono ?_
    rintro e w2 ⟨rfl, hb2⟩
    have HB2 := Lib.hid (HB1.out.trans hb2)
    clear hb2
    unfold frameV
    rw [str_list]
    have HX2 := Lib.hid (H.out.bel HB2.out)
    go_wp2_with (fail)
    refine wp_region_held_drew (S := fun z => z.cell? ⟨jb, 0, none⟩ = some (.pointer (some ⟨b, 0, none⟩))) (by kernel_rfl) HX2.out.j.files (fun hHeld => ?_)
    refine tk (oi := { dst := some 25, op := Op.move (Operand.tmp 0), type := 54, pos := "ref.go:189", after := #[], guard := none }) (v := ?_) 0 rfl ?_ ?_
    rotate_left
    · (intro w hSw; (try dsimp only at hSw); first | (go_simp; done) | (go_simp; with_reducible rfl))
    try simp only [Act.put, List.setIfInBounds_toArray, List.set_cons_zero, List.set_cons_succ]
    refine tk (oi := { dst := some 26, op := Op.nilCheck (Operand.tmp 25), type := 0, pos := "ref.go:189", after := #[{ on := 0, ground := Ground.data }], guard := none }) (v := ?_) 1 rfl ?_ ?_
    rotate_left
    · (intro w hSw; (try dsimp only at hSw); first | (go_simp; done) | (go_simp; with_reducible rfl))
    try simp only [Act.put, List.setIfInBounds_toArray, List.set_cons_zero, List.set_cons_succ]
    refine tk (oi := { dst := some 27, op := Op.fieldAddr 104 (Operand.tmp 26) 0, type := 0, pos := "ref.go:189", after := #[{ on := 1, ground := Ground.data }], guard := none }) (v := ?_) 2 rfl ?_ ?_
    rotate_left
    · (intro w hSw; (try dsimp only at hSw); first | (go_simp; done) | (go_simp; with_reducible rfl))
    try simp only [Act.put, List.setIfInBounds_toArray, List.set_cons_zero, List.set_cons_succ]
    refine tk (oi := { dst := some 28, op := Op.load 45 (Operand.tmp 27), type := 45, pos := "ref.go:189", after := #[{ on := 2, ground := Ground.data }], guard := none }) (v := ?_) 3 rfl ?_ ?_
    rotate_left
    · (intro w hSw; (try dsimp only at hSw); first | (go_simp; done) | (go_simp; with_reducible rfl))
    try simp only [Act.put, List.setIfInBounds_toArray, List.set_cons_zero, List.set_cons_succ]
    refine tk (oi := { dst := some 29, op := Op.move (Operand.tmp 0), type := 54, pos := "ref.go:189", after := #[], guard := none }) (v := ?_) 4 rfl ?_ ?_
    rotate_left
    · (intro w hSw; (try dsimp only at hSw); first | (go_simp; done) | (go_simp; with_reducible rfl))
    try simp only [Act.put, List.setIfInBounds_toArray, List.set_cons_zero, List.set_cons_succ]
    refine tk (oi := { dst := some 30, op := Op.move (Operand.tmp 0), type := 54, pos := "ref.go:189", after := #[], guard := none }) (v := ?_) 5 rfl ?_ ?_
    rotate_left
    · (intro w hSw; (try dsimp only at hSw); first | (go_simp; done) | (go_simp; with_reducible rfl))
    try simp only [Act.put, List.setIfInBounds_toArray, List.set_cons_zero, List.set_cons_succ]
    refine wpAnyH_ready (rs := [6]) (by kernel_rfl) (by simp) ?_
    refine AllReadyH.cons (o := { dst := some 31, op := Op.call { callee := Callee.value (Operand.func 41), args := #[Operand.tmp 30], argTypes := #[54] }, type := 3, pos := "ref.go:189", after := #[{ on := 5, ground := Ground.data }], guard := none }) rfl (fun K hK => ?_) AllReadyH.nil
    go_simp
    refine (rnum_any n₀ _ jb b p most _ _ (HX2.out.bel (Bel.refl _).drew).ref HX2.out.ok (HX2.out.bel (Bel.refl _).drew).j hp).mono ?_
    rintro e yf ⟨rfl, hb1⟩
    rw [HN.out]
    have HAf := Lib.hid (((Bel.refl _).drew).trans hb1)
    clear hb1
    have HYf := Lib.hid (HX2.out.bel HAf.out)
    dsimp only
    refine hK.out _ _ HYf.out.j.files (fun hHeld => ?_)
    clear hK K
    try simp only [Act.put, List.setIfInBounds_toArray, List.set_cons_zero, List.set_cons_succ]
    refine wpAnyH_ready (rs := [7]) (by kernel_rfl) (by simp) ?_
    refine AllReadyH.cons (o := { dst := some 32, op := Op.call { callee := Callee.value (Operand.func 57), args := #[Operand.tmp 29, Operand.tmp 31], argTypes := #[54, 3] }, type := 9, pos := "ref.go:189", after := #[{ on := 4, ground := Ground.data }, { on := 6, ground := Ground.data }, { on := 6, ground := Ground.chain }], guard := none }) rfl (fun K hK => ?_) AllReadyH.nil
    go_simp
    refine (rj_fileC HYf.out hp n (by omega)).mono ?_
    rintro e zf ⟨rfl, hb2⟩
    have HBf := Lib.hid (HAf.out.trans hb2)
    clear hb2
    have HXf := Lib.hid (HX2.out.bel HBf.out)
    dsimp only
    refine hK.out _ _ HXf.out.j.files (fun hHeld => ?_)
    clear hK K
    try simp only [Act.put, List.setIfInBounds_toArray, List.set_cons_zero, List.set_cons_succ]
    refine wpAnyH_ready (rs := [8]) (by kernel_rfl) (by simp) ?_
    refine AllReadyH.cons (o := { dst := some 33, op := Op.call { callee := Callee.value (Operand.func 48), args := #[Operand.tmp 28, Operand.tmp 32], argTypes := #[45, 9] }, type := 94, pos := "ref.go:189", after := #[{ on := 3, ground := Ground.data }, { on := 7, ground := Ground.data }, { on := 7, ground := Ground.chain }], guard := none }) rfl (fun K hK => ?_) AllReadyH.nil
    go_simp
    obtain ⟨v, hra, hbF, hvF, hFF⟩ := HXf.out.ref
    refine (find_any n₀ _ b M v _ hra (by omega)).mono ?_
    rintro e w3 ⟨rfl, hd⟩
    have HB3 := Lib.hid ((HB2.out.trans HBf.out).trans hd.bel)
    have HX3 := Lib.hid (H.out.bel HB3.out)
    clear hd hra hbF hvF hFF v
    rw [str_list, HIS.out, HFN.out]
    dsimp only
    refine hK.out _ _ HX3.out.j.files (fun hHeld => ?_)
    clear hK K
    try simp only [Act.put, List.setIfInBounds_toArray, List.set_cons_zero, List.set_cons_succ]
    refine tk (oi := { dst := some 24, op := Op.move (Operand.tmp 33), type := 94, pos := "ref.go:189", after := #[{ on := 8, ground := Ground.data }], guard := none }) (v := ?_) 9 rfl ?_ ?_
    rotate_left
    · (intro w hSw; (try dsimp only at hSw); first | (go_simp; done) | (go_simp; with_reducible rfl))
    try simp only [Act.put, List.setIfInBounds_toArray, List.set_cons_zero, List.set_cons_succ]
    refine tk (oi := { dst := some 34, op := Op.extract (Operand.tmp 24) 0, type := 3, pos := "ref.go:189", after := #[{ on := 9, ground := Ground.data }], guard := none }) (v := ?_) 10 rfl ?_ ?_
    rotate_left
    · (intro w hSw; (try dsimp only at hSw); first | (go_simp; done) | (go_simp; with_reducible rfl))
    try simp only [Act.put, List.setIfInBounds_toArray, List.set_cons_zero, List.set_cons_succ]
    refine tk (oi := { dst := some 35, op := Op.extract (Operand.tmp 24) 1, type := 4, pos := "ref.go:189", after := #[{ on := 9, ground := Ground.data }, { on := 12, ground := Ground.gcOnly Departure.lateStores }], guard := none }) (v := ?_) 11 rfl ?_ ?_
    rotate_left
    · (intro w hSw; (try dsimp only at hSw); first | (go_simp; done) | (go_simp; with_reducible rfl))
    try simp only [Act.put, List.setIfInBounds_toArray, List.set_cons_zero, List.set_cons_succ]
    refine tk (oi := { dst := some 9, op := Op.assign (Operand.tmp 34), type := 3, pos := "ref.go:189", after := #[{ on := 10, ground := Ground.data }, { on := 8, ground := Ground.chain }, { on := 0, ground := Ground.phase }, { on := 1, ground := Ground.phase }, { on := 2, ground := Ground.phase }, { on := 3, ground := Ground.phase }, { on := 4, ground := Ground.phase }, { on := 5, ground := Ground.phase }, { on := 6, ground := Ground.phase }, { on := 7, ground := Ground.phase }, { on := 8, ground := Ground.phase }, { on := 9, ground := Ground.phase }, { on := 10, ground := Ground.phase }, { on := 11, ground := Ground.textOnly Departure.lateStores }], guard := none }) (v := ?_) 12 rfl ?_ ?_
    rotate_left
    · (intro w hSw; (try dsimp only at hSw); first | (go_simp; done) | (go_simp; with_reducible rfl))
    try simp only [Act.put, List.setIfInBounds_toArray, List.set_cons_zero, List.set_cons_succ]
    refine tk (oi := { dst := some 10, op := Op.assign (Operand.tmp 35), type := 4, pos := "ref.go:189", after := #[{ on := 11, ground := Ground.data }, { on := 12, ground := Ground.chain }, { on := 0, ground := Ground.phase }, { on := 1, ground := Ground.phase }, { on := 2, ground := Ground.phase }, { on := 3, ground := Ground.phase }, { on := 4, ground := Ground.phase }, { on := 5, ground := Ground.phase }, { on := 6, ground := Ground.phase }, { on := 7, ground := Ground.phase }, { on := 8, ground := Ground.phase }, { on := 9, ground := Ground.phase }, { on := 10, ground := Ground.phase }, { on := 11, ground := Ground.phase }, { on := 12, ground := Ground.phase }], guard := none }) (v := ?_) 13 rfl ?_ ?_
    rotate_left
    · (intro w hSw; (try dsimp only at hSw); first | (go_simp; done) | (go_simp; with_reducible rfl))
    try simp only [Act.put, List.setIfInBounds_toArray, List.set_cons_zero, List.set_cons_succ]
    refine wpAnyH_done (by kernel_rfl) ?_ _
    obtain ⟨v, hra, hbF, hvF, hFF⟩ := HX3.out.ref
    obtain ⟨a0, -, -, -⟩ := hra.cells
    have hne2 : M.L ≠ [] := by intro e; rw [e] at hflt; simp at hflt
    obtain ⟨g2, rcap, rfl, _, hgl2, _, hcs2⟩ := ownG_cells fileOk hra.own hne2
    have f1 := hcs2 fn y HFI.out 1 _ rfl
    simp only [fileEl] at f1
    have cf := HX3.out.j.files
    have cm := HX3.out.j.most
    clear hra hbF hvF hFF hgl2 hcs2 hne2
    go_wp2_with (fail)
    refine wp_region_held_drew (S := fun z => z.cell? ⟨jb, 0, none⟩ = some (.pointer (some ⟨b, 0, none⟩)) ∧ z.cell? ⟨jb, 2, none⟩ = some (.int .i64 most) ∧ z.cell? ⟨b, 0, none⟩ = some (.slice (some ⟨g2, 0, none⟩) M.L.length rcap) ∧ z.cell? ⟨g2, fn * 3 + 1, none⟩ = some (.string ⟨y.bytes.toArray⟩)) (by kernel_rfl) ⟨cf, cm, a0, f1⟩ (fun hHeld => ?_)
    refine tk (oi := { dst := some 36, op := Op.move (Operand.tmp 0), type := 54, pos := "ref.go:190", after := #[], guard := none }) (v := ?_) 0 rfl ?_ ?_
    rotate_left
    · (intro w hSw; (try dsimp only at hSw); first | (go_simp; done) | (go_simp; with_reducible rfl))
    try simp only [Act.put, List.setIfInBounds_toArray, List.set_cons_zero, List.set_cons_succ]
    refine tk (oi := { dst := some 37, op := Op.nilCheck (Operand.tmp 36), type := 0, pos := "ref.go:190", after := #[{ on := 0, ground := Ground.data }], guard := none }) (v := ?_) 1 rfl ?_ ?_
    rotate_left
    · (intro w hSw; (try dsimp only at hSw); first | (go_simp; done) | (go_simp; with_reducible rfl))
    try simp only [Act.put, List.setIfInBounds_toArray, List.set_cons_zero, List.set_cons_succ]
    refine tk (oi := { dst := some 38, op := Op.fieldAddr 104 (Operand.tmp 37) 0, type := 0, pos := "ref.go:190", after := #[{ on := 1, ground := Ground.data }], guard := none }) (v := ?_) 2 rfl ?_ ?_
    rotate_left
    · (intro w hSw; (try dsimp only at hSw); first | (go_simp; done) | (go_simp; with_reducible rfl))
    try simp only [Act.put, List.setIfInBounds_toArray, List.set_cons_zero, List.set_cons_succ]
    refine tk (oi := { dst := some 39, op := Op.load 45 (Operand.tmp 38), type := 45, pos := "ref.go:190", after := #[{ on := 2, ground := Ground.data }], guard := none }) (v := ?_) 3 rfl ?_ ?_
    rotate_left
    · (intro w hSw; (try dsimp only at hSw); first | (go_simp; done) | (go_simp; with_reducible rfl))
    try simp only [Act.put, List.setIfInBounds_toArray, List.set_cons_zero, List.set_cons_succ]
    refine tk (oi := { dst := some 40, op := Op.nilCheck (Operand.tmp 39), type := 0, pos := "ref.go:190", after := #[{ on := 3, ground := Ground.data }], guard := none }) (v := ?_) 4 rfl ?_ ?_
    rotate_left
    · (intro w hSw; (try dsimp only at hSw); first | (go_simp; done) | (go_simp; with_reducible rfl))
    try simp only [Act.put, List.setIfInBounds_toArray, List.set_cons_zero, List.set_cons_succ]
    refine tk (oi := { dst := some 41, op := Op.fieldAddr 80 (Operand.tmp 40) 0, type := 0, pos := "ref.go:190", after := #[{ on := 4, ground := Ground.data }], guard := none }) (v := ?_) 5 rfl ?_ ?_
    rotate_left
    · (intro w hSw; (try dsimp only at hSw); first | (go_simp; done) | (go_simp; with_reducible rfl))
    try simp only [Act.put, List.setIfInBounds_toArray, List.set_cons_zero, List.set_cons_succ]
    refine tk (oi := { dst := some 42, op := Op.load 78 (Operand.tmp 41), type := 78, pos := "ref.go:190", after := #[{ on := 5, ground := Ground.data }], guard := none }) (v := ?_) 6 rfl ?_ ?_
    rotate_left
    · (intro w hSw; (try dsimp only at hSw); first | (go_simp; done) | (go_simp; with_reducible rfl))
    try simp only [Act.put, List.setIfInBounds_toArray, List.set_cons_zero, List.set_cons_succ]
    refine tk (oi := { dst := some 43, op := Op.move (Operand.tmp 9), type := 3, pos := "ref.go:190", after := #[], guard := none }) (v := ?_) 7 rfl ?_ ?_
    rotate_left
    · (intro w hSw; (try dsimp only at hSw); first | (go_simp; done) | (go_simp; with_reducible rfl))
    try simp only [Act.put, List.setIfInBounds_toArray, List.set_cons_zero, List.set_cons_succ]
    refine tk (oi := { dst := some 44, op := Op.indexAddr 78 (Operand.tmp 42) (Operand.tmp 43), type := 0, pos := "ref.go:190", after := #[{ on := 6, ground := Ground.data }, { on := 7, ground := Ground.data }], guard := none }) (v := ?_) 8 rfl ?_ ?_
    rotate_left
    · (intro w hSw; (try dsimp only at hSw); first | (go_simp; done) | (go_simp; with_reducible rfl))
    try simp only [Act.put, List.setIfInBounds_toArray, List.set_cons_zero, List.set_cons_succ]
    refine tk (oi := { dst := some 45, op := Op.fieldAddr 83 (Operand.tmp 44) 1, type := 0, pos := "ref.go:190", after := #[{ on := 8, ground := Ground.data }], guard := none }) (v := ?_) 9 rfl ?_ ?_
    rotate_left
    · (intro w hSw; (try dsimp only at hSw); first | (go_simp; done) | (go_simp; with_reducible rfl))
    try simp only [Act.put, List.setIfInBounds_toArray, List.set_cons_zero, List.set_cons_succ]
    refine tk (oi := { dst := some 46, op := Op.load 9 (Operand.tmp 45), type := 9, pos := "ref.go:190", after := #[{ on := 9, ground := Ground.data }], guard := none }) (v := ?_) 10 rfl ?_ ?_
    rotate_left
    · (intro w hSw; (try dsimp only at hSw); first | (go_simp; done) | (go_simp; with_reducible rfl))
    try simp only [Act.put, List.setIfInBounds_toArray, List.set_cons_zero, List.set_cons_succ]
    refine tk (oi := { dst := some 47, op := Op.call { callee := Callee.builtin Builtin.len, args := #[Operand.tmp 46], argTypes := #[9] }, type := 3, pos := "ref.go:190", after := #[{ on := 10, ground := Ground.data }], guard := none }) (v := ?_) 11 rfl ?_ ?_
    rotate_left
    · (intro w hSw; (try dsimp only at hSw); first | (go_simp; done) | (go_simp; with_reducible rfl))
    try simp only [Act.put, List.setIfInBounds_toArray, List.set_cons_zero, List.set_cons_succ]
    refine tk (oi := { dst := some 48, op := Op.move (Operand.tmp 0), type := 54, pos := "ref.go:190", after := #[], guard := none }) (v := ?_) 12 rfl ?_ ?_
    rotate_left
    · (intro w hSw; (try dsimp only at hSw); first | (go_simp; done) | (go_simp; with_reducible rfl))
    try simp only [Act.put, List.setIfInBounds_toArray, List.set_cons_zero, List.set_cons_succ]
    refine tk (oi := { dst := some 49, op := Op.nilCheck (Operand.tmp 48), type := 0, pos := "ref.go:190", after := #[{ on := 12, ground := Ground.data }], guard := none }) (v := ?_) 13 rfl ?_ ?_
    rotate_left
    · (intro w hSw; (try dsimp only at hSw); first | (go_simp; done) | (go_simp; with_reducible rfl))
    try simp only [Act.put, List.setIfInBounds_toArray, List.set_cons_zero, List.set_cons_succ]
    refine tk (oi := { dst := some 50, op := Op.fieldAddr 104 (Operand.tmp 49) 2, type := 0, pos := "ref.go:190", after := #[{ on := 13, ground := Ground.data }], guard := none }) (v := ?_) 14 rfl ?_ ?_
    rotate_left
    · (intro w hSw; (try dsimp only at hSw); first | (go_simp; done) | (go_simp; with_reducible rfl))
    try simp only [Act.put, List.setIfInBounds_toArray, List.set_cons_zero, List.set_cons_succ]
    refine tk (oi := { dst := some 51, op := Op.load 3 (Operand.tmp 50), type := 3, pos := "ref.go:190", after := #[{ on := 14, ground := Ground.data }], guard := none }) (v := ?_) 15 rfl ?_ ?_
    rotate_left
    · (intro w hSw; (try dsimp only at hSw); first | (go_simp; done) | (go_simp; with_reducible rfl))
    try simp only [Act.put, List.setIfInBounds_toArray, List.set_cons_zero, List.set_cons_succ]
    refine tk (oi := { dst := some 52, op := Op.call { callee := Callee.builtin Builtin.max, args := #[Operand.tmp 51, Operand.const (Value.int IntKind.i64 1)], argTypes := #[3, 3] }, type := 3, pos := "ref.go:190", after := #[{ on := 15, ground := Ground.data }], guard := none }) (v := ?_) 16 rfl ?_ ?_
    rotate_left
    · (intro w hSw; (try dsimp only at hSw); first | (go_simp; done) | (go_simp; with_reducible rfl))
    try simp only [Act.put, List.setIfInBounds_toArray, List.set_cons_zero, List.set_cons_succ]
    refine tk (oi := { dst := some 53, op := Op.binOp BinOp.geq 3 (Operand.tmp 47) (Operand.tmp 52) 3, type := 4, pos := "ref.go:190", after := #[{ on := 11, ground := Ground.data }, { on := 16, ground := Ground.data }], guard := none }) (v := ?_) 17 rfl ?_ ?_
    rotate_left
    · (intro w hSw; (try dsimp only at hSw); first | (go_simp; done) | (go_simp; with_reducible rfl))
    try simp only [Act.put, List.setIfInBounds_toArray, List.set_cons_zero, List.set_cons_succ]
    refine wpAnyH_done (by kernel_rfl) ?_ _
    have HXD := Lib.hid (HX3.out.bel (Bel.refl w3).drew)
    have HBD := Lib.hid (HB3.out.trans (Bel.refl w3).drew)
    clear cf cm a0 f1
    by_cases hfull : max most 1 ≤ (y.bytes.length : Int)
    · have HRR := Lib.hid (show rroom p.data.toList most M = jturn p.data.toList M by unfold rroom; rw [HN.out, HBY.out, if_pos hfull])
      obtain ⟨rt, M1, ht⟩ : ∃ rt M1, jturn p.data.toList M = (rt, M1) := ⟨_, _, rfl⟩
      have HT := Lib.hid ht
      have HM1 := Lib.hid (show M1.ok by have := jturn_ok H.out.ok p.data.toList; rwa [ht] at this)
      rw [HRR.out, ht] at HW
      clear ht
      go_wp2_with (fail)
      refine (rjturn_any n₀ _ b M F jb p most HXD.out hp (by rw [HN.out]; exact h9)).mono ?_
      rintro e w4 ⟨rfl, hT⟩
      rw [HT.out] at hT ⊢
      obtain ⟨F4, hX4, hK4, hF4⟩ := HXD.out.step hT HM1.out
      have HX4 := Lib.hid hX4
      have HK4 := Lib.hid (show Keep F w w4 from (Keep.of_bel HBD.out F).trans hK4 (fun x hx => Or.inl hx))
      have HF4 := Lib.hid (show ∀ k ∈ F4, k ∈ F ∨ w.heap.size ≤ k from fun k hk => (hF4 k hk).imp id (fun h => Nat.le_trans HBD.out.size h))
      clear hT hX4 hK4 hF4 hfull
      by_cases hrt : rt = 0
      · subst hrt
        obtain ⟨n1, hn1⟩ : ∃ n1, n1 = n + 1 := ⟨_, rfl⟩
        have HN1 := Lib.hid (show lastN p.data.toList M1.L = n1 by
          have := jturn_last H.out.ok (p := p.data.toList) (by rw [HN.out]; exact h9) (by rw [HT.out])
          rw [HT.out, HN.out] at this
          rw [hn1]; exact this)
        have hfl1 := file_len p.data.toList (n := n1) (by omega)
        have hfz1 := str_len (fileN p.data.toList n1)
        rw [if_neg (by simp)] at HW
        simp only [HN1.out] at HW
        have hn10 : n1 ≠ 0 := by omega
        have hn19 : n1 ≤ 10000000 := by omega
        clear hn1 hfl' hfz' hfl hfz
        obtain ⟨ra, Ma, hA⟩ : ∃ ra Ma, addS (fileN p.data.toList n1) (frameL s) M1 = (ra, Ma) := ⟨_, _, rfl⟩
        have HAD := Lib.hid hA
        have HMa := Lib.hid (show Ma.ok by have := add_ok HX4.out.ok (fileN p.data.toList n1) (frameL s); rwa [hA] at this)
        have HLa := Lib.hid (show lastN p.data.toList Ma.L = n1 by
          have h1 := add_names HX4.out.ok (nm := fileN p.data.toList n1) (last_there HX4.out.ok HN1.out hn10) (frameL s)
          rw [hA] at h1
          rw [last_names h1]; exact HN1.out)
        rw [show jput (fileN p.data.toList n1) (frameL s) M1 = if ra ≠ 0 then (ra, Ma) else flushS (fileN p.data.toList n1) Ma by unfold jput; rw [hA]] at HW
        clear hA
        go_wp2_with (fail)
        refine wp_region_held_drew (S := fun z => z.cell? ⟨jb, 0, none⟩ = some (.pointer (some ⟨b, 0, none⟩))) (by kernel_rfl) HX4.out.j.files (fun hHeld => ?_)
        refine tk (oi := { dst := some 58, op := Op.move (Operand.tmp 0), type := 54, pos := "ref.go:194", after := #[], guard := none }) (v := ?_) 0 rfl ?_ ?_
        rotate_left
        · (intro w hSw; (try dsimp only at hSw); first | (go_simp; done) | (go_simp; with_reducible rfl))
        try simp only [Act.put, List.setIfInBounds_toArray, List.set_cons_zero, List.set_cons_succ]
        refine tk (oi := { dst := some 59, op := Op.nilCheck (Operand.tmp 58), type := 0, pos := "ref.go:194", after := #[{ on := 0, ground := Ground.data }], guard := none }) (v := ?_) 1 rfl ?_ ?_
        rotate_left
        · (intro w hSw; (try dsimp only at hSw); first | (go_simp; done) | (go_simp; with_reducible rfl))
        try simp only [Act.put, List.setIfInBounds_toArray, List.set_cons_zero, List.set_cons_succ]
        refine tk (oi := { dst := some 60, op := Op.fieldAddr 104 (Operand.tmp 59) 0, type := 0, pos := "ref.go:194", after := #[{ on := 1, ground := Ground.data }], guard := none }) (v := ?_) 2 rfl ?_ ?_
        rotate_left
        · (intro w hSw; (try dsimp only at hSw); first | (go_simp; done) | (go_simp; with_reducible rfl))
        try simp only [Act.put, List.setIfInBounds_toArray, List.set_cons_zero, List.set_cons_succ]
        refine tk (oi := { dst := some 61, op := Op.load 45 (Operand.tmp 60), type := 45, pos := "ref.go:194", after := #[{ on := 2, ground := Ground.data }], guard := none }) (v := ?_) 3 rfl ?_ ?_
        rotate_left
        · (intro w hSw; (try dsimp only at hSw); first | (go_simp; done) | (go_simp; with_reducible rfl))
        try simp only [Act.put, List.setIfInBounds_toArray, List.set_cons_zero, List.set_cons_succ]
        refine tk (oi := { dst := some 62, op := Op.move (Operand.tmp 0), type := 54, pos := "ref.go:194", after := #[], guard := none }) (v := ?_) 4 rfl ?_ ?_
        rotate_left
        · (intro w hSw; (try dsimp only at hSw); first | (go_simp; done) | (go_simp; with_reducible rfl))
        try simp only [Act.put, List.setIfInBounds_toArray, List.set_cons_zero, List.set_cons_succ]
        refine tk (oi := { dst := some 63, op := Op.move (Operand.tmp 0), type := 54, pos := "ref.go:194", after := #[], guard := none }) (v := ?_) 5 rfl ?_ ?_
        rotate_left
        · (intro w hSw; (try dsimp only at hSw); first | (go_simp; done) | (go_simp; with_reducible rfl))
        try simp only [Act.put, List.setIfInBounds_toArray, List.set_cons_zero, List.set_cons_succ]
        refine tk (oi := { dst := some 66, op := Op.move (Operand.tmp 7), type := 9, pos := "ref.go:194", after := #[], guard := none }) (v := ?_) 8 rfl ?_ ?_
        rotate_left
        · (intro w hSw; (try dsimp only at hSw); first | (go_simp; done) | (go_simp; with_reducible rfl))
        try simp only [Act.put, List.setIfInBounds_toArray, List.set_cons_zero, List.set_cons_succ]
        refine wpAnyH_ready (rs := [6]) (by kernel_rfl) (by simp) ?_
        refine AllReadyH.cons (o := { dst := some 64, op := Op.call { callee := Callee.value (Operand.func 41), args := #[Operand.tmp 63], argTypes := #[54] }, type := 3, pos := "ref.go:194", after := #[{ on := 5, ground := Ground.data }], guard := none }) rfl (fun K hK => ?_) AllReadyH.nil
        go_simp
        refine (rnum_any n₀ _ jb b p most _ _ (HX4.out.bel (Bel.refl _).drew).ref HX4.out.ok (HX4.out.bel (Bel.refl _).drew).j hp).mono ?_
        rintro e yga ⟨rfl, hb1⟩
        rw [HN1.out]
        have HAga := Lib.hid (((Bel.refl _).drew).trans hb1)
        clear hb1
        have HYga := Lib.hid (HX4.out.bel HAga.out)
        dsimp only
        refine hK.out _ _ HYga.out.j.files (fun hHeld => ?_)
        clear hK K
        try simp only [Act.put, List.setIfInBounds_toArray, List.set_cons_zero, List.set_cons_succ]
        refine wpAnyH_ready (rs := [7]) (by kernel_rfl) (by simp) ?_
        refine AllReadyH.cons (o := { dst := some 65, op := Op.call { callee := Callee.value (Operand.func 57), args := #[Operand.tmp 62, Operand.tmp 64], argTypes := #[54, 3] }, type := 9, pos := "ref.go:194", after := #[{ on := 4, ground := Ground.data }, { on := 6, ground := Ground.data }, { on := 6, ground := Ground.chain }], guard := none }) rfl (fun K hK => ?_) AllReadyH.nil
        go_simp
        refine (rj_fileC HYga.out hp n1 (by omega)).mono ?_
        rintro e zga ⟨rfl, hb2⟩
        have HBga := Lib.hid (HAga.out.trans hb2)
        clear hb2
        have HXga := Lib.hid (HX4.out.bel HBga.out)
        dsimp only
        refine hK.out _ _ HXga.out.j.files (fun hHeld => ?_)
        clear hK K
        try simp only [Act.put, List.setIfInBounds_toArray, List.set_cons_zero, List.set_cons_succ]
        refine wpAnyH_ready (rs := [9]) (by kernel_rfl) (by simp) ?_
        refine AllReadyH.cons (o := { dst := some 67, op := Op.call { callee := Callee.value (Operand.func 18), args := #[Operand.tmp 61, Operand.tmp 65, Operand.tmp 66], argTypes := #[45, 9, 9] }, type := 31, pos := "ref.go:194", after := #[{ on := 3, ground := Ground.data }, { on := 7, ground := Ground.data }, { on := 8, ground := Ground.data }, { on := 7, ground := Ground.chain }], guard := none }) rfl (fun K hK => ?_) AllReadyH.nil
        go_simp
        refine (radd_any n₀ _ b _ _ (⟨(fileN p.data.toList n1).toArray⟩ : ByteArray) (⟨(frameL s).toArray⟩ : ByteArray) (by omega) (by omega) HXga.out.ref HXga.out.ok).mono ?_
        rintro e w8 ⟨rfl, hT⟩
        rw [str_list, str_list, HAD.out] at hT ⊢
        obtain ⟨F8, hX8, hK8, hF8⟩ := HXga.out.step hT HMa.out
        have HX8 := Lib.hid hX8
        have HK8 := Lib.hid ((HK4.out.then HBga.out).trans hK8 (fun x hx => HF4.out x hx))
        have HF8 := Lib.hid (show ∀ k ∈ F8, k ∈ F ∨ w.heap.size ≤ k from fun k hk => by
          rcases hF8 k hk with h | h
          · exact HF4.out k h
          · exact Or.inr (Nat.le_trans (HK4.out.then HBga.out).size h))
        have cN := HX8.out.j.files
        clear hT hX8 hK8 hF8
        dsimp only
        refine hK.out _ _ cN (fun hHeld => ?_)
        clear hK K
        try simp only [Act.put, List.setIfInBounds_toArray, List.set_cons_zero, List.set_cons_succ]
        refine tk (oi := { dst := some 6, op := Op.assign (Operand.tmp 67), type := 31, pos := "ref.go:194", after := #[{ on := 9, ground := Ground.data }, { on := 9, ground := Ground.chain }, { on := 0, ground := Ground.phase }, { on := 1, ground := Ground.phase }, { on := 2, ground := Ground.phase }, { on := 3, ground := Ground.phase }, { on := 4, ground := Ground.phase }, { on := 5, ground := Ground.phase }, { on := 6, ground := Ground.phase }, { on := 7, ground := Ground.phase }, { on := 8, ground := Ground.phase }, { on := 9, ground := Ground.phase }], guard := none }) (v := ?_) 10 rfl ?_ ?_
        rotate_left
        · (intro w hSw; (try dsimp only at hSw); first | (go_simp; done) | (go_simp; with_reducible rfl))
        try simp only [Act.put, List.setIfInBounds_toArray, List.set_cons_zero, List.set_cons_succ]
        refine wpAnyH_done (by kernel_rfl) ?_ _
        clear cN
        by_cases hra : ra = 0
        · subst hra
          rw [if_neg (by simp)] at HW
          go_wp2_with (fail)
          refine wp_region_held_drew (S := fun z => z.cell? ⟨jb, 0, none⟩ = some (.pointer (some ⟨b, 0, none⟩))) (by kernel_rfl) HX8.out.j.files (fun hHeld => ?_)
          refine tk (oi := { dst := some 70, op := Op.move (Operand.tmp 0), type := 54, pos := "ref.go:197", after := #[], guard := none }) (v := ?_) 0 rfl ?_ ?_
          rotate_left
          · (intro w hSw; (try dsimp only at hSw); first | (go_simp; done) | (go_simp; with_reducible rfl))
          try simp only [Act.put, List.setIfInBounds_toArray, List.set_cons_zero, List.set_cons_succ]
          refine tk (oi := { dst := some 71, op := Op.nilCheck (Operand.tmp 70), type := 0, pos := "ref.go:197", after := #[{ on := 0, ground := Ground.data }], guard := none }) (v := ?_) 1 rfl ?_ ?_
          rotate_left
          · (intro w hSw; (try dsimp only at hSw); first | (go_simp; done) | (go_simp; with_reducible rfl))
          try simp only [Act.put, List.setIfInBounds_toArray, List.set_cons_zero, List.set_cons_succ]
          refine tk (oi := { dst := some 72, op := Op.fieldAddr 104 (Operand.tmp 71) 0, type := 0, pos := "ref.go:197", after := #[{ on := 1, ground := Ground.data }], guard := none }) (v := ?_) 2 rfl ?_ ?_
          rotate_left
          · (intro w hSw; (try dsimp only at hSw); first | (go_simp; done) | (go_simp; with_reducible rfl))
          try simp only [Act.put, List.setIfInBounds_toArray, List.set_cons_zero, List.set_cons_succ]
          refine tk (oi := { dst := some 73, op := Op.load 45 (Operand.tmp 72), type := 45, pos := "ref.go:197", after := #[{ on := 2, ground := Ground.data }], guard := none }) (v := ?_) 3 rfl ?_ ?_
          rotate_left
          · (intro w hSw; (try dsimp only at hSw); first | (go_simp; done) | (go_simp; with_reducible rfl))
          try simp only [Act.put, List.setIfInBounds_toArray, List.set_cons_zero, List.set_cons_succ]
          refine tk (oi := { dst := some 74, op := Op.move (Operand.tmp 0), type := 54, pos := "ref.go:197", after := #[], guard := none }) (v := ?_) 4 rfl ?_ ?_
          rotate_left
          · (intro w hSw; (try dsimp only at hSw); first | (go_simp; done) | (go_simp; with_reducible rfl))
          try simp only [Act.put, List.setIfInBounds_toArray, List.set_cons_zero, List.set_cons_succ]
          refine tk (oi := { dst := some 75, op := Op.move (Operand.tmp 0), type := 54, pos := "ref.go:197", after := #[], guard := none }) (v := ?_) 5 rfl ?_ ?_
          rotate_left
          · (intro w hSw; (try dsimp only at hSw); first | (go_simp; done) | (go_simp; with_reducible rfl))
          try simp only [Act.put, List.setIfInBounds_toArray, List.set_cons_zero, List.set_cons_succ]
          refine wpAnyH_ready (rs := [6]) (by kernel_rfl) (by simp) ?_
          refine AllReadyH.cons (o := { dst := some 76, op := Op.call { callee := Callee.value (Operand.func 41), args := #[Operand.tmp 75], argTypes := #[54] }, type := 3, pos := "ref.go:197", after := #[{ on := 5, ground := Ground.data }], guard := none }) rfl (fun K hK => ?_) AllReadyH.nil
          go_simp
          refine (rnum_any n₀ _ jb b p most _ _ (HX8.out.bel (Bel.refl _).drew).ref HX8.out.ok (HX8.out.bel (Bel.refl _).drew).j hp).mono ?_
          rintro e ygb ⟨rfl, hb1⟩
          rw [HLa.out]
          have HAgb := Lib.hid (((Bel.refl _).drew).trans hb1)
          clear hb1
          have HYgb := Lib.hid (HX8.out.bel HAgb.out)
          dsimp only
          refine hK.out _ _ HYgb.out.j.files (fun hHeld => ?_)
          clear hK K
          try simp only [Act.put, List.setIfInBounds_toArray, List.set_cons_zero, List.set_cons_succ]
          refine wpAnyH_ready (rs := [7]) (by kernel_rfl) (by simp) ?_
          refine AllReadyH.cons (o := { dst := some 77, op := Op.call { callee := Callee.value (Operand.func 57), args := #[Operand.tmp 74, Operand.tmp 76], argTypes := #[54, 3] }, type := 9, pos := "ref.go:197", after := #[{ on := 4, ground := Ground.data }, { on := 6, ground := Ground.data }, { on := 6, ground := Ground.chain }], guard := none }) rfl (fun K hK => ?_) AllReadyH.nil
          go_simp
          refine (rj_fileC HYgb.out hp n1 (by omega)).mono ?_
          rintro e zgb ⟨rfl, hb2⟩
          have HBgb := Lib.hid (HAgb.out.trans hb2)
          clear hb2
          have HXgb := Lib.hid (HX8.out.bel HBgb.out)
          dsimp only
          refine hK.out _ _ HXgb.out.j.files (fun hHeld => ?_)
          clear hK K
          try simp only [Act.put, List.setIfInBounds_toArray, List.set_cons_zero, List.set_cons_succ]
          refine wpAnyH_ready (rs := [8]) (by kernel_rfl) (by simp) ?_
          refine AllReadyH.cons (o := { dst := some 78, op := Op.call { callee := Callee.value (Operand.func 61), args := #[Operand.tmp 73, Operand.tmp 77], argTypes := #[45, 9] }, type := 31, pos := "ref.go:197", after := #[{ on := 3, ground := Ground.data }, { on := 7, ground := Ground.data }, { on := 7, ground := Ground.chain }], guard := none }) rfl (fun K hK => ?_) AllReadyH.nil
          go_simp
          refine (rflush_any n₀ _ b _ _ (⟨(fileN p.data.toList n1).toArray⟩ : ByteArray) HXgb.out.ref HXgb.out.ok).mono ?_
          rintro e w9 ⟨rfl, hT⟩
          rw [str_list] at hT ⊢
          have HT := Lib.hid (rto_then (HK8.out.then HBgb.out) (fun k hk => HF8.out k hk) hT)
          have cN : w9.cell? ⟨jb, 0, none⟩ = some (.pointer (some ⟨b, 0, none⟩)) := by
            obtain ⟨F9, _, q2, _⟩ := hT
            exact q2.cell HXgb.out.j.files HXgb.out.out
          clear hT
          dsimp only
          refine hK.out _ _ cN (fun hHeld => ?_)
          clear hK K
          try simp only [Act.put, List.setIfInBounds_toArray, List.set_cons_zero, List.set_cons_succ]
          refine tk (oi := { dst := some 6, op := Op.assign (Operand.tmp 78), type := 31, pos := "ref.go:197", after := #[{ on := 8, ground := Ground.data }, { on := 8, ground := Ground.chain }, { on := 0, ground := Ground.phase }, { on := 1, ground := Ground.phase }, { on := 2, ground := Ground.phase }, { on := 3, ground := Ground.phase }, { on := 4, ground := Ground.phase }, { on := 5, ground := Ground.phase }, { on := 6, ground := Ground.phase }, { on := 7, ground := Ground.phase }, { on := 8, ground := Ground.phase }], guard := none }) (v := ?_) 9 rfl ?_ ?_
          rotate_left
          · (intro w hSw; (try dsimp only at hSw); first | (go_simp; done) | (go_simp; with_reducible rfl))
          try simp only [Act.put, List.setIfInBounds_toArray, List.set_cons_zero, List.set_cons_succ]
          refine wpAnyH_done (by kernel_rfl) ?_ _
          clear cN
          go_wp2_with (fail)
          go_ret
          exact ⟨by rw [HW.out]; rfl, by rw [HW.out]; exact HT.out⟩
        · have hra2 : (ra == 0) = false := by rw [beq_eq_false_iff_ne]; exact hra
          rw [if_pos hra] at HW
          go_wp2_with (fail)
          go_ret
          exact ⟨by rw [HW.out]; rfl, by rw [HW.out]; exact ⟨F8, HX8.out.ref, HK8.out, HF8.out⟩⟩
      · have hra2 : (rt == 0) = false := by rw [beq_eq_false_iff_ne]; exact hrt
        rw [if_pos hrt] at HW
        go_wp2_with (fail)
        go_ret
        exact ⟨by rw [HW.out]; rfl, by rw [HW.out]; exact ⟨F4, HX4.out.ref, HK4.out, HF4.out⟩⟩
    · have HRR := Lib.hid (show rroom p.data.toList most M = (0, M) by unfold rroom; rw [HN.out, HBY.out, if_neg hfull])
      have hfull2 : (y.bytes.length : Int) < max most 1 := by omega
      rw [HRR.out, if_neg (by simp)] at HW
      simp only [HN.out] at HW
      have HKD := Lib.hid (Keep.of_bel HBD.out F)
      have HFD := Lib.hid (show ∀ k ∈ F, k ∈ F ∨ w.heap.size ≤ k from fun k hk => Or.inl hk)
      have hn10 : n ≠ 0 := h0
      have hn19 : n ≤ 10000000 := by omega
      clear hfull
      obtain ⟨ra, Ma, hA⟩ : ∃ ra Ma, addS (fileN p.data.toList n) (frameL s) M = (ra, Ma) := ⟨_, _, rfl⟩
      have HAD := Lib.hid hA
      have HMa := Lib.hid (show Ma.ok by have := add_ok HXD.out.ok (fileN p.data.toList n) (frameL s); rwa [hA] at this)
      have HLa := Lib.hid (show lastN p.data.toList Ma.L = n by
        have h1 := add_names HXD.out.ok (nm := fileN p.data.toList n) (last_there HXD.out.ok HN.out hn10) (frameL s)
        rw [hA] at h1
        rw [last_names h1]; exact HN.out)
      rw [show jput (fileN p.data.toList n) (frameL s) M = if ra ≠ 0 then (ra, Ma) else flushS (fileN p.data.toList n) Ma by unfold jput; rw [hA]] at HW
      clear hA
      go_wp2_with (fail)
      refine wp_region_held_drew (S := fun z => z.cell? ⟨jb, 0, none⟩ = some (.pointer (some ⟨b, 0, none⟩))) (by kernel_rfl) HXD.out.j.files (fun hHeld => ?_)
      refine tk (oi := { dst := some 58, op := Op.move (Operand.tmp 0), type := 54, pos := "ref.go:194", after := #[], guard := none }) (v := ?_) 0 rfl ?_ ?_
      rotate_left
      · (intro w hSw; (try dsimp only at hSw); first | (go_simp; done) | (go_simp; with_reducible rfl))
      try simp only [Act.put, List.setIfInBounds_toArray, List.set_cons_zero, List.set_cons_succ]
      refine tk (oi := { dst := some 59, op := Op.nilCheck (Operand.tmp 58), type := 0, pos := "ref.go:194", after := #[{ on := 0, ground := Ground.data }], guard := none }) (v := ?_) 1 rfl ?_ ?_
      rotate_left
      · (intro w hSw; (try dsimp only at hSw); first | (go_simp; done) | (go_simp; with_reducible rfl))
      try simp only [Act.put, List.setIfInBounds_toArray, List.set_cons_zero, List.set_cons_succ]
      refine tk (oi := { dst := some 60, op := Op.fieldAddr 104 (Operand.tmp 59) 0, type := 0, pos := "ref.go:194", after := #[{ on := 1, ground := Ground.data }], guard := none }) (v := ?_) 2 rfl ?_ ?_
      rotate_left
      · (intro w hSw; (try dsimp only at hSw); first | (go_simp; done) | (go_simp; with_reducible rfl))
      try simp only [Act.put, List.setIfInBounds_toArray, List.set_cons_zero, List.set_cons_succ]
      refine tk (oi := { dst := some 61, op := Op.load 45 (Operand.tmp 60), type := 45, pos := "ref.go:194", after := #[{ on := 2, ground := Ground.data }], guard := none }) (v := ?_) 3 rfl ?_ ?_
      rotate_left
      · (intro w hSw; (try dsimp only at hSw); first | (go_simp; done) | (go_simp; with_reducible rfl))
      try simp only [Act.put, List.setIfInBounds_toArray, List.set_cons_zero, List.set_cons_succ]
      refine tk (oi := { dst := some 62, op := Op.move (Operand.tmp 0), type := 54, pos := "ref.go:194", after := #[], guard := none }) (v := ?_) 4 rfl ?_ ?_
      rotate_left
      · (intro w hSw; (try dsimp only at hSw); first | (go_simp; done) | (go_simp; with_reducible rfl))
      try simp only [Act.put, List.setIfInBounds_toArray, List.set_cons_zero, List.set_cons_succ]
      refine tk (oi := { dst := some 63, op := Op.move (Operand.tmp 0), type := 54, pos := "ref.go:194", after := #[], guard := none }) (v := ?_) 5 rfl ?_ ?_
      rotate_left
      · (intro w hSw; (try dsimp only at hSw); first | (go_simp; done) | (go_simp; with_reducible rfl))
      try simp only [Act.put, List.setIfInBounds_toArray, List.set_cons_zero, List.set_cons_succ]
      refine tk (oi := { dst := some 66, op := Op.move (Operand.tmp 7), type := 9, pos := "ref.go:194", after := #[], guard := none }) (v := ?_) 8 rfl ?_ ?_
      rotate_left
      · (intro w hSw; (try dsimp only at hSw); first | (go_simp; done) | (go_simp; with_reducible rfl))
      try simp only [Act.put, List.setIfInBounds_toArray, List.set_cons_zero, List.set_cons_succ]
      refine wpAnyH_ready (rs := [6]) (by kernel_rfl) (by simp) ?_
      refine AllReadyH.cons (o := { dst := some 64, op := Op.call { callee := Callee.value (Operand.func 41), args := #[Operand.tmp 63], argTypes := #[54] }, type := 3, pos := "ref.go:194", after := #[{ on := 5, ground := Ground.data }], guard := none }) rfl (fun K hK => ?_) AllReadyH.nil
      go_simp
      refine (rnum_any n₀ _ jb b p most _ _ (HXD.out.bel (Bel.refl _).drew).ref HXD.out.ok (HXD.out.bel (Bel.refl _).drew).j hp).mono ?_
      rintro e yha ⟨rfl, hb1⟩
      rw [HN.out]
      have HAha := Lib.hid (((Bel.refl _).drew).trans hb1)
      clear hb1
      have HYha := Lib.hid (HXD.out.bel HAha.out)
      dsimp only
      refine hK.out _ _ HYha.out.j.files (fun hHeld => ?_)
      clear hK K
      try simp only [Act.put, List.setIfInBounds_toArray, List.set_cons_zero, List.set_cons_succ]
      refine wpAnyH_ready (rs := [7]) (by kernel_rfl) (by simp) ?_
      refine AllReadyH.cons (o := { dst := some 65, op := Op.call { callee := Callee.value (Operand.func 57), args := #[Operand.tmp 62, Operand.tmp 64], argTypes := #[54, 3] }, type := 9, pos := "ref.go:194", after := #[{ on := 4, ground := Ground.data }, { on := 6, ground := Ground.data }, { on := 6, ground := Ground.chain }], guard := none }) rfl (fun K hK => ?_) AllReadyH.nil
      go_simp
      refine (rj_fileC HYha.out hp n (by omega)).mono ?_
      rintro e zha ⟨rfl, hb2⟩
      have HBha := Lib.hid (HAha.out.trans hb2)
      clear hb2
      have HXha := Lib.hid (HXD.out.bel HBha.out)
      dsimp only
      refine hK.out _ _ HXha.out.j.files (fun hHeld => ?_)
      clear hK K
      try simp only [Act.put, List.setIfInBounds_toArray, List.set_cons_zero, List.set_cons_succ]
      refine wpAnyH_ready (rs := [9]) (by kernel_rfl) (by simp) ?_
      refine AllReadyH.cons (o := { dst := some 67, op := Op.call { callee := Callee.value (Operand.func 18), args := #[Operand.tmp 61, Operand.tmp 65, Operand.tmp 66], argTypes := #[45, 9, 9] }, type := 31, pos := "ref.go:194", after := #[{ on := 3, ground := Ground.data }, { on := 7, ground := Ground.data }, { on := 8, ground := Ground.data }, { on := 7, ground := Ground.chain }], guard := none }) rfl (fun K hK => ?_) AllReadyH.nil
      go_simp
      refine (radd_any n₀ _ b _ _ (⟨(fileN p.data.toList n).toArray⟩ : ByteArray) (⟨(frameL s).toArray⟩ : ByteArray) (by omega) (by omega) HXha.out.ref HXha.out.ok).mono ?_
      rintro e w8 ⟨rfl, hT⟩
      rw [str_list, str_list, HAD.out] at hT ⊢
      obtain ⟨F8, hX8, hK8, hF8⟩ := HXha.out.step hT HMa.out
      have HX8 := Lib.hid hX8
      have HK8 := Lib.hid ((HKD.out.then HBha.out).trans hK8 (fun x hx => HFD.out x hx))
      have HF8 := Lib.hid (show ∀ k ∈ F8, k ∈ F ∨ w.heap.size ≤ k from fun k hk => by
        rcases hF8 k hk with h | h
        · exact HFD.out k h
        · exact Or.inr (Nat.le_trans (HKD.out.then HBha.out).size h))
      have cN := HX8.out.j.files
      clear hT hX8 hK8 hF8
      dsimp only
      refine hK.out _ _ cN (fun hHeld => ?_)
      clear hK K
      try simp only [Act.put, List.setIfInBounds_toArray, List.set_cons_zero, List.set_cons_succ]
      refine tk (oi := { dst := some 6, op := Op.assign (Operand.tmp 67), type := 31, pos := "ref.go:194", after := #[{ on := 9, ground := Ground.data }, { on := 9, ground := Ground.chain }, { on := 0, ground := Ground.phase }, { on := 1, ground := Ground.phase }, { on := 2, ground := Ground.phase }, { on := 3, ground := Ground.phase }, { on := 4, ground := Ground.phase }, { on := 5, ground := Ground.phase }, { on := 6, ground := Ground.phase }, { on := 7, ground := Ground.phase }, { on := 8, ground := Ground.phase }, { on := 9, ground := Ground.phase }], guard := none }) (v := ?_) 10 rfl ?_ ?_
      rotate_left
      · (intro w hSw; (try dsimp only at hSw); first | (go_simp; done) | (go_simp; with_reducible rfl))
      try simp only [Act.put, List.setIfInBounds_toArray, List.set_cons_zero, List.set_cons_succ]
      refine wpAnyH_done (by kernel_rfl) ?_ _
      clear cN
      by_cases hra : ra = 0
      · subst hra
        rw [if_neg (by simp)] at HW
        go_wp2_with (fail)
        refine wp_region_held_drew (S := fun z => z.cell? ⟨jb, 0, none⟩ = some (.pointer (some ⟨b, 0, none⟩))) (by kernel_rfl) HX8.out.j.files (fun hHeld => ?_)
        refine tk (oi := { dst := some 70, op := Op.move (Operand.tmp 0), type := 54, pos := "ref.go:197", after := #[], guard := none }) (v := ?_) 0 rfl ?_ ?_
        rotate_left
        · (intro w hSw; (try dsimp only at hSw); first | (go_simp; done) | (go_simp; with_reducible rfl))
        try simp only [Act.put, List.setIfInBounds_toArray, List.set_cons_zero, List.set_cons_succ]
        refine tk (oi := { dst := some 71, op := Op.nilCheck (Operand.tmp 70), type := 0, pos := "ref.go:197", after := #[{ on := 0, ground := Ground.data }], guard := none }) (v := ?_) 1 rfl ?_ ?_
        rotate_left
        · (intro w hSw; (try dsimp only at hSw); first | (go_simp; done) | (go_simp; with_reducible rfl))
        try simp only [Act.put, List.setIfInBounds_toArray, List.set_cons_zero, List.set_cons_succ]
        refine tk (oi := { dst := some 72, op := Op.fieldAddr 104 (Operand.tmp 71) 0, type := 0, pos := "ref.go:197", after := #[{ on := 1, ground := Ground.data }], guard := none }) (v := ?_) 2 rfl ?_ ?_
        rotate_left
        · (intro w hSw; (try dsimp only at hSw); first | (go_simp; done) | (go_simp; with_reducible rfl))
        try simp only [Act.put, List.setIfInBounds_toArray, List.set_cons_zero, List.set_cons_succ]
        refine tk (oi := { dst := some 73, op := Op.load 45 (Operand.tmp 72), type := 45, pos := "ref.go:197", after := #[{ on := 2, ground := Ground.data }], guard := none }) (v := ?_) 3 rfl ?_ ?_
        rotate_left
        · (intro w hSw; (try dsimp only at hSw); first | (go_simp; done) | (go_simp; with_reducible rfl))
        try simp only [Act.put, List.setIfInBounds_toArray, List.set_cons_zero, List.set_cons_succ]
        refine tk (oi := { dst := some 74, op := Op.move (Operand.tmp 0), type := 54, pos := "ref.go:197", after := #[], guard := none }) (v := ?_) 4 rfl ?_ ?_
        rotate_left
        · (intro w hSw; (try dsimp only at hSw); first | (go_simp; done) | (go_simp; with_reducible rfl))
        try simp only [Act.put, List.setIfInBounds_toArray, List.set_cons_zero, List.set_cons_succ]
        refine tk (oi := { dst := some 75, op := Op.move (Operand.tmp 0), type := 54, pos := "ref.go:197", after := #[], guard := none }) (v := ?_) 5 rfl ?_ ?_
        rotate_left
        · (intro w hSw; (try dsimp only at hSw); first | (go_simp; done) | (go_simp; with_reducible rfl))
        try simp only [Act.put, List.setIfInBounds_toArray, List.set_cons_zero, List.set_cons_succ]
        refine wpAnyH_ready (rs := [6]) (by kernel_rfl) (by simp) ?_
        refine AllReadyH.cons (o := { dst := some 76, op := Op.call { callee := Callee.value (Operand.func 41), args := #[Operand.tmp 75], argTypes := #[54] }, type := 3, pos := "ref.go:197", after := #[{ on := 5, ground := Ground.data }], guard := none }) rfl (fun K hK => ?_) AllReadyH.nil
        go_simp
        refine (rnum_any n₀ _ jb b p most _ _ (HX8.out.bel (Bel.refl _).drew).ref HX8.out.ok (HX8.out.bel (Bel.refl _).drew).j hp).mono ?_
        rintro e yhb ⟨rfl, hb1⟩
        rw [HLa.out]
        have HAhb := Lib.hid (((Bel.refl _).drew).trans hb1)
        clear hb1
        have HYhb := Lib.hid (HX8.out.bel HAhb.out)
        dsimp only
        refine hK.out _ _ HYhb.out.j.files (fun hHeld => ?_)
        clear hK K
        try simp only [Act.put, List.setIfInBounds_toArray, List.set_cons_zero, List.set_cons_succ]
        refine wpAnyH_ready (rs := [7]) (by kernel_rfl) (by simp) ?_
        refine AllReadyH.cons (o := { dst := some 77, op := Op.call { callee := Callee.value (Operand.func 57), args := #[Operand.tmp 74, Operand.tmp 76], argTypes := #[54, 3] }, type := 9, pos := "ref.go:197", after := #[{ on := 4, ground := Ground.data }, { on := 6, ground := Ground.data }, { on := 6, ground := Ground.chain }], guard := none }) rfl (fun K hK => ?_) AllReadyH.nil
        go_simp
        refine (rj_fileC HYhb.out hp n (by omega)).mono ?_
        rintro e zhb ⟨rfl, hb2⟩
        have HBhb := Lib.hid (HAhb.out.trans hb2)
        clear hb2
        have HXhb := Lib.hid (HX8.out.bel HBhb.out)
        dsimp only
        refine hK.out _ _ HXhb.out.j.files (fun hHeld => ?_)
        clear hK K
        try simp only [Act.put, List.setIfInBounds_toArray, List.set_cons_zero, List.set_cons_succ]
        refine wpAnyH_ready (rs := [8]) (by kernel_rfl) (by simp) ?_
        refine AllReadyH.cons (o := { dst := some 78, op := Op.call { callee := Callee.value (Operand.func 61), args := #[Operand.tmp 73, Operand.tmp 77], argTypes := #[45, 9] }, type := 31, pos := "ref.go:197", after := #[{ on := 3, ground := Ground.data }, { on := 7, ground := Ground.data }, { on := 7, ground := Ground.chain }], guard := none }) rfl (fun K hK => ?_) AllReadyH.nil
        go_simp
        refine (rflush_any n₀ _ b _ _ (⟨(fileN p.data.toList n).toArray⟩ : ByteArray) HXhb.out.ref HXhb.out.ok).mono ?_
        rintro e w9 ⟨rfl, hT⟩
        rw [str_list] at hT ⊢
        have HT := Lib.hid (rto_then (HK8.out.then HBhb.out) (fun k hk => HF8.out k hk) hT)
        have cN : w9.cell? ⟨jb, 0, none⟩ = some (.pointer (some ⟨b, 0, none⟩)) := by
          obtain ⟨F9, _, q2, _⟩ := hT
          exact q2.cell HXhb.out.j.files HXhb.out.out
        clear hT
        dsimp only
        refine hK.out _ _ cN (fun hHeld => ?_)
        clear hK K
        try simp only [Act.put, List.setIfInBounds_toArray, List.set_cons_zero, List.set_cons_succ]
        refine tk (oi := { dst := some 6, op := Op.assign (Operand.tmp 78), type := 31, pos := "ref.go:197", after := #[{ on := 8, ground := Ground.data }, { on := 8, ground := Ground.chain }, { on := 0, ground := Ground.phase }, { on := 1, ground := Ground.phase }, { on := 2, ground := Ground.phase }, { on := 3, ground := Ground.phase }, { on := 4, ground := Ground.phase }, { on := 5, ground := Ground.phase }, { on := 6, ground := Ground.phase }, { on := 7, ground := Ground.phase }, { on := 8, ground := Ground.phase }], guard := none }) (v := ?_) 9 rfl ?_ ?_
        rotate_left
        · (intro w hSw; (try dsimp only at hSw); first | (go_simp; done) | (go_simp; with_reducible rfl))
        try simp only [Act.put, List.setIfInBounds_toArray, List.set_cons_zero, List.set_cons_succ]
        refine wpAnyH_done (by kernel_rfl) ?_ _
        clear cN
        go_wp2_with (fail)
        go_ret
        exact ⟨by rw [HW.out]; rfl, by rw [HW.out]; exact HT.out⟩
      · have hra2 : (ra == 0) = false := by rw [beq_eq_false_iff_ne]; exact hra
        rw [if_pos hra] at HW
        go_wp2_with (fail)
        go_ret
        exact ⟨by rw [HW.out]; rfl, by rw [HW.out]; exact ⟨F8, HX8.out.ref, HK8.out, HF8.out⟩⟩
  · have he1 : (e0 != 0) = true := by rw [bne_iff_ne]; exact he0
    have HW := Lib.hid (show jwrite p.data.toList most L M = (e0, M) by unfold jwrite; rw [HBB.out]; exact if_pos he0)
    go_wp2_with (fail)
    go_ret
    exact ⟨by rw [HW.out]; rfl, by rw [HW.out]; exact (H.out.ref).to HB1.out⟩
end Go.Proofs.YtlmlcnbgdaiaeaaGreatDoor
/- Mathematics of a journal whose segments hold batches (HoldX), through calls, crashes and openings; no program. -/
namespace Go.Proofs.YtlmlcnbgdaiaeaaGreatDoor
open Go.RowKit Go.Deep Go.Maps

def frsL (bs : List (List (List UInt8))) : List UInt8 := bs.flatMap (fun l => frameL (encL l))
def goodB (l : List (List UInt8)) : Prop := l.length ≤ 50 ∧ (encL l).length ≤ 40000
structure HoldX (p : List UInt8) (L : List FI) (f : Nat → List (List (List UInt8))) (r : List UInt8) : Prop where
  ne : segsL p L ≠ []
  seg : ∀ n ∈ segsL p L, n ≠ lastN p L → ∃ y, getF (fileN p n) L = some y ∧ y.bytes = frsL (f n)
  last : ∃ y, getF (fileN p (lastN p L)) L = some y ∧ y.bytes = frsL (f (lastN p L)) ++ r
  good : ∀ n, ∀ l ∈ f n, goodB l
end Go.Proofs.YtlmlcnbgdaiaeaaGreatDoor
/- moultlaw7's pick, same, sameAll, sameInts. -/
namespace Go.Proofs.YtlmlcnbgdaiaeaaGreatDoor
open Go.RowKit Go.Deep Go.Maps

theorem jpick_same (c : Int) (n : Nat) (w : World) (hc : in64 c) (hn : 0 < n) (hn2 : n ≤ 1000000) :
    Calls Tryz.prog 10 #[.int .i64 c, .int .i64 n] w fun e w' => e = .returned (.int .i64 (pickN c n : Nat)) ∧ w' = w := by
  obtain ⟨h1, h2⟩ := hc
  by_cases h : c < 0
  · obtain ⟨m, rfl⟩ : ∃ m : Nat, c = -(m : Int) - 1 := ⟨(-(c + 1)).toNat, by omega⟩
    have HP := Lib.hid (show ((pickN (-(m : Int) - 1) n : Nat) : Int) = (m : Int) % (n : Int) by
      unfold pickN
      rw [if_pos h, show (-(-(m : Int) - 1 + 1)).toNat = m by omega, Int.natCast_emod])
    go_enter Tryz.func10, Tryz.ntmps10
    go_wp2
    go_ret
    exact ⟨ret_int (by rw [HP.out]), rfl⟩
  · obtain ⟨m, rfl⟩ : ∃ m : Nat, c = m := ⟨c.toNat, by omega⟩
    have HP := Lib.hid (show ((pickN m n : Nat) : Int) = (m : Int) % (n : Int) by
      unfold pickN
      rw [if_neg h, Int.toNat_natCast, Int.natCast_emod])
    go_enter Tryz.func10, Tryz.ntmps10
    go_wp2
    go_ret
    exact ⟨ret_int (by rw [HP.out]), rfl⟩
theorem jpick_at (c x : Int) (n : Nat) (w : World) (hc : in64 c) (hn : 0 < n) (hn2 : n ≤ 1000000) (hx : x = n) :
    Calls Tryz.prog 10 #[.int .i64 c, .int .i64 x] w fun e w' => e = .returned (.int .i64 (pickN c n : Nat)) ∧ w' = w := by
  subst hx; exact jpick_same c n w hc hn hn2

theorem take_ext {α : Type} [Inhabited α] {l m : List α} {k : Nat} (hk : k < l.length) (hk' : k < m.length) (h : l.take k = m.take k) (he : l[k] = m[k]) : l.take (k + 1) = m.take (k + 1) := by
  rw [List.take_add_one, List.take_add_one, List.getElem?_eq_getElem hk, List.getElem?_eq_getElem hk', h, he]
def SeRel {α : Type} (l m : List α) (i : Value) : Prop := ∃ k : Nat, i = .int .i64 k ∧ k ≤ l.length ∧ l.take k = m.take k
theorem ne_at {α : Type} {l m : List α} {k : Nat} (hk : k < l.length) (hk' : k < m.length) (h : l[k] ≠ m[k]) : l ≠ m := by
  rintro rfl; exact h rfl
set_option maxHeartbeats 4000000 in
theorem jsame_any (w : World) (p q : Option Addr) (cap cap' : Nat) (l m : List (List UInt8)) (h : StrsAt w p l) (h' : StrsAt w q m) (hl : l.length ≤ 1000000) (hm : m.length ≤ 1000000) :
    Calls Tryz.prog 43 #[.slice p l.length cap, .slice q m.length cap'] w fun e w' => e = .returned (.bool (decide (l = m))) ∧ Drw w w' := by
  have H := Lib.hid h; clear h
  have H' := Lib.hid h'; clear h'
  by_cases hlen : l.length = m.length
  · have HLN := Lib.hid hlen
    go_enter Tryz.func43, Tryz.ntmps43
    go_wp2_with (fail)
    go_loopw [5] (fun i x => SeRel l m i ∧ Drw w x) (fun i _ => l.length - (intOf i).toNat)
    case atStart => exact ⟨⟨0, rfl, Nat.zero_le _, by simp⟩, Drw.refl w⟩
    case round =>
      obtain ⟨⟨k, rfl, hk, htk⟩, hw⟩ := hrel
      have HW := Lib.hid hw; clear hw
      have HT := Lib.hid htk; clear htk
      by_cases hlt : k < l.length
      · have hlt' : k < m.length := by omega
        obtain ⟨a, rfl, hc⟩ := (H.out.bel HW.out.bel) k hlt
        obtain ⟨b, rfl, hd⟩ := (H'.out.bel HW.out.bel) k hlt'
        by_cases he : l[k] = m[k]
        · have HN := Lib.hid (take_ext hlt hlt' HT.out he)
          rw [← he] at hd
          obtain ⟨x, hx⟩ : ∃ x, x = l[k] := ⟨_, rfl⟩
          rw [← hx] at hc hd
          clear hx he
          go_wp2_with (fail)
          go_quiet (fail)
          go_wp2_with (fail)
          go_roundw
          case rel => exact ⟨⟨k + 1, by go_num, by omega, HN.out⟩, HW.out.drewN _⟩
          case measure => simp [intOf]; omega
        · have HE := Lib.hid (show decide (l = m) = false from decide_eq_false (ne_at hlt hlt' he))
          obtain ⟨x, hx⟩ : ∃ x, x = l[k] := ⟨_, rfl⟩
          obtain ⟨y, hy⟩ : ∃ y, y = m[k] := ⟨_, rfl⟩
          rw [← hx] at hc he
          rw [← hy] at hd he
          clear hx hy
          have q1 : (x == y) = false := by rw [beq_eq_false_iff_ne]; exact he
          have q2 : ((⟨x.toArray⟩ : ByteArray).toList == (⟨y.toArray⟩ : ByteArray).toList) = false := by rw [beq_eq_false_iff_ne, ByteArray.toList_eq, ByteArray.toList_eq, str_list, str_list]; exact he
          have q3 : ((⟨x.toArray⟩ : ByteArray).toList != (⟨y.toArray⟩ : ByteArray).toList) = true := by rw [bne, q2]; rfl
          have q4 : (x != y) = true := by rw [bne, q1]; rfl
          go_wp2_with (fail)
          go_quiet (fail)
          go_wp2_with (fail)
          go_ret
          exact ⟨by rw [HE.out]; rfl, HW.out.drewN _⟩
      · obtain rfl : k = l.length := by omega
        have HE := Lib.hid (show decide (l = m) = true by
          have := HT.out
          rw [List.take_length, HLN.out, List.take_length] at this
          exact decide_eq_true this)
        go_wp2_with (fail)
        go_ret
        exact ⟨by rw [HE.out]; rfl, HW.out⟩
  · have HE := Lib.hid (show decide (l = m) = false from decide_eq_false (fun e => hlen (by rw [e])))
    have hz : ((l.length : Int) == (m.length : Int)) = false := by rw [beq_eq_false_iff_ne]; omega
    have hz2 : ((l.length : Int) != (m.length : Int)) = true := by rw [bne, hz]; rfl
    go_enter Tryz.func43, Tryz.ntmps43
    go_wp2_with (fail)
    go_ret
    exact ⟨by rw [HE.out]; rfl, Drw.refl w⟩
set_option maxHeartbeats 4000000 in
theorem jints_any (w : World) (va vb : Value) (l m : List Nat) (B B' : Nat) (h : OwnG intEl B w va (l.map fun n : Nat => (n : Int))) (h' : OwnG intEl B' w vb (m.map fun n : Nat => (n : Int))) (hl : l.length ≤ 1000000) (hm : m.length ≤ 1000000) :
    Calls Tryz.prog 28 #[va, vb] w fun e w' => e = .returned (.bool (decide (l = m))) ∧ Drw w w' := by
  obtain ⟨p, cap, hva⟩ := ownG_len h
  rw [List.length_map] at hva
  obtain ⟨q, cap', hvb⟩ := ownG_len h'
  rw [List.length_map] at hvb
  subst hva hvb
  have H := Lib.hid h; clear h
  have H' := Lib.hid h'; clear h'
  by_cases hlen : l.length = m.length
  · have HLN := Lib.hid hlen
    go_enter Tryz.func28, Tryz.ntmps28
    go_wp2_with (fail)
    go_loopw [5] (fun i x => SeRel l m i ∧ Drw w x) (fun i _ => l.length - (intOf i).toNat)
    case atStart => exact ⟨⟨0, rfl, Nat.zero_le _, by simp⟩, Drw.refl w⟩
    case round =>
      obtain ⟨⟨k, rfl, hk, htk⟩, hw⟩ := hrel
      have HW := Lib.hid hw; clear hw
      have HT := Lib.hid htk; clear htk
      by_cases hlt : k < l.length
      · have hlt' : k < m.length := by omega
        obtain ⟨g, c1, hv, _, _, hc⟩ := int_at (H.out.bel HW.out.bel) k hlt
        simp only [Value.slice.injEq, true_and] at hv
        obtain ⟨rfl, rfl⟩ := hv
        obtain ⟨g2, c2, hv, _, _, hd⟩ := int_at (H'.out.bel HW.out.bel) k hlt'
        simp only [Value.slice.injEq, true_and] at hv
        obtain ⟨rfl, rfl⟩ := hv
        by_cases he : l[k] = m[k]
        · have HN := Lib.hid (take_ext hlt hlt' HT.out he)
          rw [← he] at hd
          obtain ⟨x, hx⟩ : ∃ x, x = l[k] := ⟨_, rfl⟩
          rw [← hx] at hc hd
          clear hx he
          go_wp2_with (fail)
          go_quiet (fail)
          go_wp2_with (fail)
          go_roundw
          case rel => exact ⟨⟨k + 1, by go_num, by omega, HN.out⟩, HW.out.drewN _⟩
          case measure => simp [intOf]; omega
        · have HE := Lib.hid (show decide (l = m) = false from decide_eq_false (ne_at hlt hlt' he))
          obtain ⟨x, hx⟩ : ∃ x, x = l[k] := ⟨_, rfl⟩
          obtain ⟨y, hy⟩ : ∃ y, y = m[k] := ⟨_, rfl⟩
          rw [← hx] at hc he
          rw [← hy] at hd he
          clear hx hy
          have q1 : ((x : Int) == (y : Int)) = false := by rw [beq_eq_false_iff_ne]; omega
          have q4 : ((x : Int) != (y : Int)) = true := by rw [bne, q1]; rfl
          go_wp2_with (fail)
          go_quiet (fail)
          go_wp2_with (fail)
          go_ret
          exact ⟨by rw [HE.out]; rfl, HW.out.drewN _⟩
      · obtain rfl : k = l.length := by omega
        have HE := Lib.hid (show decide (l = m) = true by
          have := HT.out
          rw [List.take_length, HLN.out, List.take_length] at this
          exact decide_eq_true this)
        go_wp2_with (fail)
        go_ret
        exact ⟨by rw [HE.out]; rfl, HW.out⟩
  · have HE := Lib.hid (show decide (l = m) = false from decide_eq_false (fun e => hlen (by rw [e])))
    have hz : ((l.length : Int) == (m.length : Int)) = false := by rw [beq_eq_false_iff_ne]; omega
    have hz2 : ((l.length : Int) != (m.length : Int)) = true := by rw [bne, hz]; rfl
    go_enter Tryz.func28, Tryz.ntmps28
    go_wp2_with (fail)
    go_ret
    exact ⟨by rw [HE.out]; rfl, Drw.refl w⟩
theorem row_at {P : Nat → Prop} {x : World} {p : Option Addr} {L : List (List (List UInt8))} (h : RowL P x p L) (k : Nat) (hk : k < L.length) : ∃ a sp sc, p = some a ∧ x.cell? (a.add k) = some (.slice sp L[k].length sc) ∧ StrsAt x sp L[k] := by
  obtain ⟨H, h1, h2, h3⟩ := h.ex
  obtain ⟨a, ha, _, hc⟩ := h2 k H[k] (List.getElem?_eq_getElem (by omega))
  have q := h3 k H[k] L[k] (List.getElem?_eq_getElem (by omega)) (List.getElem?_eq_getElem hk)
  refine ⟨a, H[k].p, H[k].cap, ha, ?_, q.at_⟩
  rw [hc, SL.val, q.len]
set_option maxHeartbeats 4000000 in
theorem jall_any (w : World) (P Q : Nat → Prop) (p q : Option Addr) (cap cap' : Nat) (L M : List (List (List UInt8))) (h : RowL P w p L) (h' : RowL Q w q M) (hl : L.length ≤ 1000000000) (hm : M.length ≤ 1000000000) (hL : ∀ l ∈ L, l.length ≤ 1000000) (hM : ∀ l ∈ M, l.length ≤ 1000000) :
    Calls Tryz.prog 14 #[.slice p L.length cap, .slice q M.length cap'] w fun e w' => e = .returned (.bool (decide (L = M))) ∧ Bel w w' := by
  have H := Lib.hid h; clear h
  have H' := Lib.hid h'; clear h'
  have HL := Lib.hid hL
  have HM := Lib.hid hM
  clear hL hM
  by_cases hlen : L.length = M.length
  · have HLN := Lib.hid hlen
    have hzz : ((L.length : Int) == (M.length : Int)) = true := by rw [beq_iff_eq]; omega
    have hzb : ((L.length : Int) != (M.length : Int)) = false := by rw [bne, hzz]; rfl
    clear hlen
    go_enter Tryz.func14, Tryz.ntmps14
    go_wp2_with (fail)
    go_loopw [5] (fun i x => SeRel L M i ∧ Bel w x) (fun i _ => L.length - (intOf i).toNat)
    case atStart => exact ⟨⟨0, rfl, Nat.zero_le _, by simp⟩, Bel.refl w⟩
    case round =>
      obtain ⟨⟨k, rfl, hk, htk⟩, hw⟩ := hrel
      have HW := Lib.hid hw; clear hw
      have HT := Lib.hid htk; clear htk
      by_cases hlt : k < L.length
      · have hlt' : k < M.length := by rw [← HLN.out]; exact hlt
        obtain ⟨a, sp, sc, rfl, hc, ha⟩ := row_at (H.out.bel HW.out) k hlt
        obtain ⟨b, sq, sd, rfl, hd, hb⟩ := row_at (H'.out.bel HW.out) k hlt'
        have hx1 := HL.out _ (List.getElem_mem hlt)
        have hx2 := HM.out _ (List.getElem_mem hlt')
        have HN := Lib.hid (take_ext (l := L) (m := M) hlt hlt' HT.out)
        have HE := Lib.hid (show L[k] ≠ M[k] → decide (L = M) = false from fun he => decide_eq_false (ne_at hlt hlt' he))
        obtain ⟨x, hx⟩ : ∃ x, x = L[k] := ⟨_, rfl⟩
        obtain ⟨y, hy⟩ : ∃ y, y = M[k] := ⟨_, rfl⟩
        rw [← hx] at hc ha hx1 HN HE
        rw [← hy] at hd hb hx2 HN HE
        have HC := Lib.hid (fun z (hz : Bel _ z) => jsame_any z sp sq sc sd x y (ha.bel hz) (hb.bel hz) hx1 hx2)
        clear hx hy
        go_wp2_with (fail)
        refine wp_region_held_drew (S := fun z => z.cell? (a.add k) = some (.slice sp x.length sc) ∧ z.cell? (b.add k) = some (.slice sq y.length sd)) (by kernel_rfl) ⟨hc, hd⟩ (fun hHeld => ?_)
        refine tk (oi := { dst := some 17, op := Op.move (Operand.tmp 0), type := 30, pos := "law.go:38", after := #[], guard := none }) (v := ?_) 0 rfl ?_ ?_
        rotate_left
        · (intro w hSw; (try dsimp only at hSw); first | (go_simp; done) | (go_simp; with_reducible rfl))
        try simp only [Act.put, List.setIfInBounds_toArray, List.set_cons_zero, List.set_cons_succ]
        refine tk (oi := { dst := some 18, op := Op.move (Operand.tmp 5), type := 3, pos := "law.go:38", after := #[], guard := none }) (v := ?_) 1 rfl ?_ ?_
        rotate_left
        · (intro w hSw; (try dsimp only at hSw); first | (go_simp; done) | (go_simp; with_reducible rfl))
        try simp only [Act.put, List.setIfInBounds_toArray, List.set_cons_zero, List.set_cons_succ]
        refine tk (oi := { dst := some 19, op := Op.indexAddr 30 (Operand.tmp 17) (Operand.tmp 18), type := 0, pos := "law.go:38", after := #[{ on := 0, ground := Ground.data }, { on := 1, ground := Ground.data }], guard := none }) (v := ?_) 2 rfl ?_ ?_
        rotate_left
        · (intro w hSw; (try dsimp only at hSw); first | (go_simp; done) | (go_simp; with_reducible rfl))
        try simp only [Act.put, List.setIfInBounds_toArray, List.set_cons_zero, List.set_cons_succ]
        refine tk (oi := { dst := some 20, op := Op.load 34 (Operand.tmp 19), type := 34, pos := "law.go:38", after := #[{ on := 2, ground := Ground.data }], guard := none }) (v := ?_) 3 rfl ?_ ?_
        rotate_left
        · (intro w hSw; (try dsimp only at hSw); first | (go_simp; done) | (go_simp; with_reducible rfl))
        try simp only [Act.put, List.setIfInBounds_toArray, List.set_cons_zero, List.set_cons_succ]
        refine tk (oi := { dst := some 21, op := Op.move (Operand.tmp 1), type := 30, pos := "law.go:38", after := #[], guard := none }) (v := ?_) 4 rfl ?_ ?_
        rotate_left
        · (intro w hSw; (try dsimp only at hSw); first | (go_simp; done) | (go_simp; with_reducible rfl))
        try simp only [Act.put, List.setIfInBounds_toArray, List.set_cons_zero, List.set_cons_succ]
        refine tk (oi := { dst := some 22, op := Op.move (Operand.tmp 5), type := 3, pos := "law.go:38", after := #[], guard := none }) (v := ?_) 5 rfl ?_ ?_
        rotate_left
        · (intro w hSw; (try dsimp only at hSw); first | (go_simp; done) | (go_simp; with_reducible rfl))
        try simp only [Act.put, List.setIfInBounds_toArray, List.set_cons_zero, List.set_cons_succ]
        refine tk (oi := { dst := some 23, op := Op.indexAddr 30 (Operand.tmp 21) (Operand.tmp 22), type := 0, pos := "law.go:38", after := #[{ on := 4, ground := Ground.data }, { on := 5, ground := Ground.data }], guard := none }) (v := ?_) 6 rfl ?_ ?_
        rotate_left
        · (intro w hSw; (try dsimp only at hSw); first | (go_simp; done) | (go_simp; with_reducible rfl))
        try simp only [Act.put, List.setIfInBounds_toArray, List.set_cons_zero, List.set_cons_succ]
        refine tk (oi := { dst := some 24, op := Op.load 34 (Operand.tmp 23), type := 34, pos := "law.go:38", after := #[{ on := 6, ground := Ground.data }], guard := none }) (v := ?_) 7 rfl ?_ ?_
        rotate_left
        · (intro w hSw; (try dsimp only at hSw); first | (go_simp; done) | (go_simp; with_reducible rfl))
        try simp only [Act.put, List.setIfInBounds_toArray, List.set_cons_zero, List.set_cons_succ]
        refine wpAnyH_ready (rs := [8]) (by kernel_rfl) (by simp) ?_
        refine AllReadyH.cons (o := { dst := some 25, op := Op.call { callee := Callee.value (Operand.func 43), args := #[Operand.tmp 20, Operand.tmp 24], argTypes := #[34, 34] }, type := 4, pos := "law.go:38", after := #[{ on := 3, ground := Ground.data }, { on := 7, ground := Ground.data }], guard := none }) rfl (fun K hK => ?_) AllReadyH.nil
        go_simp
        refine (HC.out _ (Bel.refl _).drew).mono ?_
        rintro e z ⟨rfl, hdz⟩
        have HZ := Lib.hid (HW.out.drew.trans hdz.bel)
        have hc' := cell_later hdz.bel (show _ = _ from hc)
        have hd' := cell_later hdz.bel (show _ = _ from hd)
        clear hdz
        dsimp only
        refine hK.out _ _ ⟨hc', hd'⟩ (fun hHeld => ?_)
        clear hK K
        try simp only [Act.put, List.setIfInBounds_toArray, List.set_cons_zero, List.set_cons_succ]
        by_cases he : x = y
        · have HN2 := Lib.hid (HN.out he)
          have hdx : decide (x = y) = true := decide_eq_true he
          rw [hdx]
          clear he
          refine tk (oi := { dst := some 26, op := Op.unOp UnOp.not 4 (Operand.tmp 25), type := 4, pos := "law.go:38", after := #[{ on := 8, ground := Ground.data }], guard := none }) (v := ?_) 9 rfl ?_ ?_
          rotate_left
          · (intro w hSw; (try dsimp only at hSw); first | (go_simp; done) | (go_simp; with_reducible rfl))
          try simp only [Act.put, List.setIfInBounds_toArray, List.set_cons_zero, List.set_cons_succ]
          refine wpAnyH_done (by kernel_rfl) ?_ _
          go_wp2_with (fail)
          go_roundw
          case rel => exact ⟨⟨k + 1, by go_num, by omega, HN2.out⟩, HZ.out⟩
          case measure => simp [intOf]; omega
        · have HE2 := Lib.hid (HE.out he)
          have hdx : decide (x = y) = false := decide_eq_false he
          rw [hdx]
          clear he
          refine tk (oi := { dst := some 26, op := Op.unOp UnOp.not 4 (Operand.tmp 25), type := 4, pos := "law.go:38", after := #[{ on := 8, ground := Ground.data }], guard := none }) (v := ?_) 9 rfl ?_ ?_
          rotate_left
          · (intro w hSw; (try dsimp only at hSw); first | (go_simp; done) | (go_simp; with_reducible rfl))
          try simp only [Act.put, List.setIfInBounds_toArray, List.set_cons_zero, List.set_cons_succ]
          refine wpAnyH_done (by kernel_rfl) ?_ _
          go_wp2_with (fail)
          go_ret
          exact ⟨by rw [HE2.out]; rfl, HZ.out⟩
      · obtain rfl : k = L.length := by omega
        have HE := Lib.hid (show decide (L = M) = true by
          have := HT.out
          rw [List.take_length, HLN.out, List.take_length] at this
          exact decide_eq_true this)
        go_wp2_with (fail)
        go_ret
        exact ⟨by rw [HE.out]; rfl, HW.out⟩
  · have HE := Lib.hid (show decide (L = M) = false from decide_eq_false (fun e => hlen (by rw [e])))
    have hz : ((L.length : Int) == (M.length : Int)) = false := by rw [beq_eq_false_iff_ne]; omega
    have hz2 : ((L.length : Int) != (M.length : Int)) = true := by rw [bne, hz]; rfl
    go_enter Tryz.func14, Tryz.ntmps14
    go_wp2_with (fail)
    go_ret
    exact ⟨by rw [HE.out]; rfl, Bel.refl w⟩
end Go.Proofs.YtlmlcnbgdaiaeaaGreatDoor
/- moultlaw7's shown. -/
namespace Go.Proofs.YtlmlcnbgdaiaeaaGreatDoor
open Go.RowKit Go.Deep Go.Maps

def JSB (w x : World) (b : Nat) (M : RS) (jb : Nat) (p : ByteArray) (most : Int) : Prop := ∃ F, JS w.heap.size x b M F jb p most ∧ Bel w x
section
variable {w x y : World} {b jb : Nat} {M M1 : RS} {F : List Nat} {p : ByteArray} {most : Int}
theorem js_of (hs : Std w) (hb : Bel w x) (hp : ProgAt w.heap.size x b M F) (hM : M.ok) (hj : JAt x jb b p most) (ho : jb ∉ F) : JS w.heap.size x b M F jb p most :=
  ⟨hp, hM, hj, ho, fun z hz => hs.bel (((Keep.of_bel hb F).trans hz (fun k hk => Or.inl hk)).bel (fun k hk => (hp.within k hk).1))⟩
theorem JSB.bel (h : JSB w x b M jb p most) (hb : Bel x y) : JSB w y b M jb p most := by
  obtain ⟨F, h1, h2⟩ := h
  exact ⟨F, h1.bel hb, h2.trans hb⟩
theorem jsb_of (h : JS w.heap.size x b M F jb p most) (hb : Bel w x) (hT : ProgTo w.heap.size x y b M1 F) (hM : M1.ok) : JSB w y b M1 jb p most := by
  obtain ⟨F1, q1, q2, q3⟩ := h.step hT hM
  exact ⟨F1, q1, ((Keep.of_bel hb F).trans q2 (fun k hk => Or.inl hk)).bel (fun k hk => (h.prog.within k hk).1)⟩
theorem JSB.low (h : JSB w x b M jb p most) : Bel w x := by obtain ⟨F, _, h2⟩ := h; exact h2
theorem JSB.good (h : JSB w x b M jb p most) : M.ok := by obtain ⟨F, h1, _⟩ := h; exact h1.ok
theorem jsb_write (h : JSB w x b M jb p most) (hp : p.size ≤ 100) (lp : Option Addr) (lc : Nat) (L : List (List UInt8)) (h0 : lastN p.data.toList M.L ≠ 0) (h9 : lastN p.data.toList M.L < 9999999) (hmost : in64 most) {z : World} (hz : Bel x z)
    (hl : StrsAt z lp L) (hL : L.length ≤ maxLen) (ht : ∀ t ∈ L, t.length ≤ 1000000) :
    Calls Tryz.prog 23 #[.pointer (some ⟨jb, 0, none⟩), .slice lp L.length lc] z fun e y => e = .returned (.int .i64 (jwrite p.data.toList most L M).1) ∧ JSB w y b (jwrite p.data.toList most L M).2 jb p most := by
  obtain ⟨F, h1, h2⟩ := h.bel hz
  exact (write_any _ z b M F jb p most lp lc L h1 hp h0 h9 hmost hl hL ht).mono fun e y hq => ⟨hq.1, jsb_of h1 h2 hq.2 (jwrite_ok h1.ok _ _ _)⟩
theorem jsb_turn (h : JSB w x b M jb p most) (hp : p.size ≤ 100) (h9 : lastN p.data.toList M.L < 9999999) :
    Calls Tryz.prog 25 #[.pointer (some ⟨jb, 0, none⟩)] x fun e y => e = .returned (.int .i64 (jturn p.data.toList M).1) ∧ JSB w y b (jturn p.data.toList M).2 jb p most := by
  obtain ⟨F, h1, h2⟩ := h
  exact (jturn_any _ x b M F jb p most h1 hp h9).mono fun e y hq => ⟨hq.1, jsb_of h1 h2 hq.2 (jturn_ok h1.ok _)⟩
theorem jsb_num (h : JSB w x b M jb p most) (hp : p.size ≤ 100) :
    Calls Tryz.prog 26 #[.pointer (some ⟨jb, 0, none⟩)] x fun e y => e = .returned (.int .i64 (lastN p.data.toList M.L : Nat)) ∧ JSB w y b M jb p most ∧ Bel x y := by
  have h0 := h
  obtain ⟨F, h1, h2⟩ := h
  exact (num_any _ x jb b p most M F h1.prog h1.ok h1.j hp h1.std0).mono fun e y hq => ⟨hq.1, h0.bel hq.2, hq.2⟩
end
theorem open_st {w x : World} {b : Nat} {M : RS} {F : List Nat} (hs : Std w) (hb : Bel w x) (hp : ProgAt w.heap.size x b M F) (hM : M.ok) (nm : ByteArray) (most : Int) (hnm : nm.size ≤ 100) (hr : M.room ≤ 1000000) {err : Int} {L : List (List (List UInt8))} {M' : RS} (hj : jopen nm.data.toList M = (err, L, M')) :
    Calls Tryz.prog 19 #[.pointer (some ⟨b, 0, none⟩), .string nm, .int .i64 most] x fun e y => ∃ jv v F', e = .returned (.tuple #[jv, v, .int .i64 err]) ∧ ProgAt w.heap.size y b M' F' ∧ Keep F x y ∧ (∀ k ∈ F', k ∈ F ∨ x.heap.size ≤ k) ∧ OwnQ x y F' v L ∧ Bel w y ∧ M'.ok ∧
      (err = 0 → ∃ jb, jv = .pointer (some ⟨jb, 0, none⟩) ∧ JS w.heap.size y b M' F' jb nm most ∧ Qb x y F' jb) ∧ (err ≠ 0 → jv = .pointer none) := by
  have hstd : ∀ z, Keep F x z → Std z := fun z hz => hs.bel (((Keep.of_bel hb F).trans hz (fun k hk => Or.inl hk)).bel (fun k hk => (hp.within k hk).1))
  refine (open_any _ x b M F nm most hp hM hstd hnm hr).mono ?_
  rintro e y ⟨jv, v, F', rfl, h1, h2, h3, h4, h5, h6⟩
  have hok := jopen_ok nm.data.toList hM
  rw [hj] at h1 h4 h5 h6 hok ⊢
  have hbl : Bel w y := ((Keep.of_bel hb F).trans h2 (fun k hk => Or.inl hk)).bel (fun k hk => (hp.within k hk).1)
  refine ⟨jv, v, F', rfl, h1, h2, h3, h4, hbl, hok, fun he => ?_, h6⟩
  obtain ⟨jb, q1, q2, q3⟩ := h5 he
  exact ⟨jb, q1, js_of hs hbl h1 hok q2 q3.2.2, q3⟩

def logP : List UInt8 := [108, 111, 103]
def fl1 : List UInt8 := [108, 111, 103, 46, 49]
def fl2 : List UInt8 := [108, 111, 103, 46, 50]
theorem file1 : fileN logP 1 = fl1 := by unfold fileN; rw [itoa_nat, digits_one 1 (by omega)]; rfl
theorem file2 : fileN logP 2 = fl2 := by unfold fileN; rw [itoa_nat, digits_one 2 (by omega)]; rfl
theorem seg1 : segN logP fl1 = 1 := by rw [← file1]; exact seg_file _ 1 (by omega) (by omega)
theorem seg2 : segN logP fl2 = 2 := by rw [← file2]; exact seg_file _ 2 (by omega) (by omega)
theorem segs1 (b : List UInt8) (s : Nat) : segsL logP [⟨fl1, b, s⟩] = [1] := by
  show (if segN logP fl1 = 0 then [] else insN (segN logP fl1) []) = _
  rw [seg1]; rfl
theorem last1 (b : List UInt8) (s : Nat) : lastN logP [⟨fl1, b, s⟩] = 1 := by unfold lastN; rw [segs1]; rfl
theorem last2 (b : List UInt8) (s : Nat) : lastN logP [⟨fl1, b, s⟩, ⟨fl2, [], 0⟩] = 2 := by
  have : segsL logP [⟨fl1, b, s⟩, ⟨fl2, [], 0⟩] = [1, 2] := by
    show (if segN logP fl2 = 0 then _ else insN (segN logP fl2) (if segN logP fl1 = 0 then [] else insN (segN logP fl1) [])) = _
    rw [seg1, seg2]; rfl
  unfold lastN; rw [this]; rfl
def fr1 : List UInt8 := frameL (encL [[97], [98]])
def fr2 : List UInt8 := frameL (encL [])
def sM1 : RS := ⟨[⟨fl1, [], 0⟩], 10000, -1, false⟩
def sM2 : RS := ⟨[⟨fl1, fr1, fr1.length⟩], 10000, -1, false⟩
def sM3 : RS := ⟨[⟨fl1, fr1 ++ fr2, fr1.length + fr2.length⟩], 10000, -1, false⟩
def sM4 : RS := ⟨[⟨fl1, fr1 ++ fr2, fr1.length + fr2.length⟩, ⟨fl2, [], 0⟩], 10000, -1, false⟩
theorem sh_open : jopen logP (newS 10000) = (0, [], sM1) := by
  unfold jopen
  rw [if_neg (by decide), if_neg (by decide), if_pos (by rfl)]
  unfold jturn
  rw [show lastN logP (newS 10000).L + 1 = 1 from rfl, file1]
  kernel_rfl
theorem sh_w1 : jwrite logP 100 [[97], [98]] sM1 = (0, sM2) := by
  have hr : jroom logP 100 sM1 = (0, sM1) := by
    unfold jroom
    rw [show lastN logP sM1.L = 1 from last1 _ _, file1]
    kernel_rfl
  unfold jwrite
  have hb : batchS [[97], [98]] = (encL [[97], [98]], 0) := by kernel_rfl
  have hp : jput fl1 fr1 sM1 = (0, sM2) := by kernel_rfl
  rw [hr, show lastN logP (0, sM1).2.L = 1 from last1 _ _, file1, hb]
  exact hp
theorem sh_w2 : jwrite logP 100 [] sM2 = (0, sM3) := by
  have hr : jroom logP 100 sM2 = (0, sM2) := by
    unfold jroom
    rw [show lastN logP sM2.L = 1 from last1 _ _, file1]
    kernel_rfl
  unfold jwrite
  have hb : batchS [] = (encL [], 0) := by kernel_rfl
  have hp : jput fl1 fr2 sM2 = (0, sM3) := by kernel_rfl
  rw [hr, show lastN logP (0, sM2).2.L = 1 from last1 _ _, file1, hb]
  exact hp
theorem sh_open2 : jopen logP sM3 = (0, [[[97], [98]], []], sM3) := by
  have hr : readL (fr1 ++ fr2) = ([[[97], [98]], []], (fr1 ++ fr2).length, 0) := by
    have := read_frames [[[97], [98]], []] [] (fun l hl => by
      simp only [List.mem_cons, List.not_mem_nil, or_false] at hl
      rcases hl with rfl | rfl <;> decide)
    simpa [fr1, fr2, read_nil] using this
  unfold jopen
  rw [if_neg (by decide), if_neg (by decide), show segsL logP sM3.L = [1] from segs1 _ _, if_neg (by simp)]
  have hb : bytesOf (fileN logP 1) sM3 = fr1 ++ fr2 := by rw [file1]; exact bytesOf_get (y := ⟨fl1, fr1 ++ fr2, fr1.length + fr2.length⟩) (by rfl)
  simp only [readSegs, hb, hr]
  simp
theorem sh_turn : jturn logP sM3 = (0, sM4) := by
  unfold jturn
  rw [show lastN logP sM3.L = 1 from last1 _ _, file2]
  kernel_rfl
theorem lit_strs (W : World) (arr : Array Value) (l : List (List UInt8)) (h : arr.toList = l.map fun t => .string ⟨t.toArray⟩) : StrsAt (W.alloc (.cells arr 9)) (some ⟨W.heap.size, 0, none⟩) l := by
  intro i hi
  refine ⟨_, rfl, ?_⟩
  have := cellsG_new (E := strEl) W arr 9 l (by rw [h]; induction l with
    | nil => rfl
    | cons x l ih => simp [El.all, strEl, List.flatMap_cons, List.map_eq_flatMap]) i (.string ⟨l[i].toArray⟩) (by
      have e : strEl.all l = l.map fun t => .string ⟨t.toArray⟩ := by
        simp [El.all, strEl, List.map_eq_flatMap]
      rw [e, List.getElem?_map, List.getElem?_eq_getElem hi]; rfl)
  exact this
theorem strs_nil (x : World) (p : Option Addr) : StrsAt x p [] := fun i hi => by simp at hi
theorem lit_row (W : World) : RowL (fun _ => True) ((W.alloc (.cells #[.string ⟨#[97]⟩, .string ⟨#[98]⟩] 9)).alloc (.cells #[.slice (some ⟨W.heap.size, 0, none⟩) 2 2, .slice none 0 0] 34)) (some ⟨W.heap.size + 1, 0, none⟩) [[[97], [98]], []] := by
  refine ⟨[⟨some ⟨W.heap.size, 0, none⟩, 2, 2⟩, ⟨none, 0, 0⟩], rfl, fun i s hs => ⟨_, rfl, trivial, ?_⟩, fun i s l hs hl => ?_⟩
  · match i, hs with
    | 0, hs => simp at hs; subst hs; go_simp; rfl
    | 1, hs => simp at hs; subst hs; go_simp; rfl
    | i + 2, hs => simp at hs
  · match i, hs, hl with
    | 0, hs, hl =>
      simp at hs hl; subst hs hl
      exact ⟨rfl, (lit_strs W #[.string ⟨#[97]⟩, .string ⟨#[98]⟩] [[97], [98]] rfl).bel ((Bel.refl _).alloc _), fun _ _ _ => trivial⟩
    | 1, hs, hl => simp at hs hl; subst hs hl; exact ⟨rfl, strs_nil _ _, fun _ _ _ => trivial⟩
    | i + 2, hs, hl => simp at hs
set_option maxHeartbeats 4000000 in
theorem jshown_any (w : World) (hstd : Std w) : Calls Tryz.prog 7 #[] w fun e w' => e = .returned (.bool true) ∧ Bel w w' := by
  have HS := Lib.hid hstd; clear hstd
  go_enter Tryz.func7, Tryz.ntmps7
  go_wp2_with (fail)
  refine (pnew_any 10000 w (by omega)).mono ?_
  rintro e w1 ⟨rfl, hp1, hb1⟩
  obtain ⟨b, hb⟩ : ∃ b, b = w.heap.size := ⟨_, rfl⟩
  have HP1 := Lib.hid (show ProgAt w.heap.size w1 b (newS 10000) [w.heap.size] by rw [hb]; exact hp1)
  have HB1 := Lib.hid hb1
  rw [← hb]
  clear hp1 hb1 hb
  go_wp2_with (fail)
  refine (open_st HS.out HB1.out HP1.out (new_ok 10000 (by omega)) ⟨#[108, 111, 103]⟩ 100 (by decide) (by decide) sh_open).mono ?_
  rintro e w2 ⟨jv, v, F2, rfl, hp2, hk2, hf2, hq2, hb2, hm2, hj2, -⟩
  obtain ⟨jb, rfl, hjs, -⟩ := hj2 rfl
  obtain ⟨vp, vc, rfl⟩ := hq2.own.len
  have HJ2 := Lib.hid (show JSB w w2 b sM1 jb ⟨#[108, 111, 103]⟩ 100 from ⟨F2, hjs, hb2⟩)
  clear hp2 hk2 hf2 hq2 hb2 hm2 hj2 hjs
  go_wp2_with (fail)
  refine (jsb_write HJ2.out (by decide) (some ⟨w2.heap.size, 0, none⟩) 2 [[97], [98]] (by rw [show lastN (⟨#[108, 111, 103]⟩ : ByteArray).data.toList sM1.L = 1 from last1 _ _]; omega) (by rw [show lastN (⟨#[108, 111, 103]⟩ : ByteArray).data.toList sM1.L = 1 from last1 _ _]; omega) ⟨by decide, by decide⟩ ((Bel.refl w2).alloc _) (lit_strs w2 _ _ rfl) (by unfold maxLen; decide) (by decide)).mono ?_
  rintro e w3 ⟨rfl, hj3⟩
  rw [show jwrite (⟨#[108, 111, 103]⟩ : ByteArray).data.toList 100 [[97], [98]] sM1 = (0, sM2) from sh_w1] at hj3 ⊢
  have HJ3 := Lib.hid hj3; clear hj3
  go_wp2_with (fail)
  refine (jsb_write HJ3.out (by decide) none 0 [] (by rw [show lastN (⟨#[108, 111, 103]⟩ : ByteArray).data.toList sM2.L = 1 from last1 _ _]; omega) (by rw [show lastN (⟨#[108, 111, 103]⟩ : ByteArray).data.toList sM2.L = 1 from last1 _ _]; omega) ⟨by decide, by decide⟩ (Bel.refl w3) (strs_nil _ _) (by unfold maxLen; decide) (by decide)).mono ?_
  rintro e w4 ⟨rfl, hj4⟩
  rw [show jwrite (⟨#[108, 111, 103]⟩ : ByteArray).data.toList 100 [] sM2 = (0, sM3) from sh_w2] at hj4 ⊢
  obtain ⟨F4, hj4, hb4⟩ := hj4
  have HJ4 := Lib.hid hj4
  have HB4 := Lib.hid hb4
  clear hj4 hb4
  go_wp2_with (fail)
  refine (open_st HS.out HB4.out HJ4.out.prog HJ4.out.ok ⟨#[108, 111, 103]⟩ 100 (by decide) (by decide) sh_open2).mono ?_
  rintro e w5 ⟨jv2, v2, F5, rfl, hp5, hk5, hf5, hq5, hb5, hm5, hj5, -⟩
  obtain ⟨jb2, rfl, -, -⟩ := hj5 rfl
  have HJ5 := Lib.hid (jsb_of HJ4.out HB4.out ⟨F5, hp5, hk5, hf5⟩ hm5)
  obtain ⟨vp5, vc5, rfl, hrow⟩ := hq5.own.row
  have HRW := Lib.hid hrow
  clear hp5 hk5 hf5 hq5 hb5 hm5 hj5 hrow
  go_wp2_with (fail)
  refine (batch_any _ (some ⟨w5.heap.size, 0, none⟩) 1 [[97]] (lit_strs w5 _ _ rfl) (by unfold maxLen; decide) (by decide)).mono ?_
  rintro e w6 ⟨rfl, hb6⟩
  rw [show batchV [[97]] = .tuple #[.string ⟨#[1, 1, 97]⟩, .int .i64 0] by kernel_rfl]
  have HB6 := Lib.hid (((Bel.refl w5).alloc _).trans hb6); clear hb6
  go_wp2_with (fail)
  refine (unbatch_any ⟨#[1]⟩ w6 (by decide)).mono ?_
  rintro e w7 ⟨uv, rfl, -, hb7⟩
  rw [show (unbS (⟨#[1]⟩ : ByteArray).data.toList).2 = 8 by kernel_rfl]
  have HB7 := Lib.hid (HB6.out.trans hb7); clear hb7
  go_wp2_with (fail)
  refine (jall_any _ _ _ vp5 (some ⟨w7.heap.size + 1, 0, none⟩) vc5 2 [[[97], [98]], []] [[[97], [98]], []] (HRW.out.bel (HB7.out.trans (((Bel.refl w7).alloc _).alloc _))) (lit_row w7) (by decide) (by decide) (by decide) (by decide)).mono ?_
  rintro e w8 ⟨rfl, hb8⟩
  rw [show decide (([[[97], [98]], []] : List (List (List UInt8))) = [[[97], [98]], []]) = true from decide_eq_true rfl]
  have HB8 := Lib.hid (HB7.out.trans ((((Bel.refl w7).alloc _).alloc _).trans hb8)); clear hb8
  have HJ8 := Lib.hid (HJ5.out.bel HB8.out)
  go_wp2_with (fail)
  refine (jsb_num HJ8.out (by decide)).mono ?_
  rintro e w9 ⟨rfl, hj9, -⟩
  rw [show lastN (⟨#[108, 111, 103]⟩ : ByteArray).data.toList sM3.L = 1 from last1 _ _]
  have HJ9 := Lib.hid hj9; clear hj9
  go_wp2_with (fail)
  refine (jsb_turn HJ9.out (by decide) (by rw [show lastN (⟨#[108, 111, 103]⟩ : ByteArray).data.toList sM3.L = 1 from last1 _ _]; omega)).mono ?_
  rintro e w10 ⟨rfl, hj10⟩
  rw [show jturn (⟨#[108, 111, 103]⟩ : ByteArray).data.toList sM3 = (0, sM4) from sh_turn] at hj10 ⊢
  have HJ10 := Lib.hid hj10; clear hj10
  go_wp2_with (fail)
  refine (jsb_num HJ10.out (by decide)).mono ?_
  rintro e w11 ⟨rfl, hj11, -⟩
  rw [show lastN (⟨#[108, 111, 103]⟩ : ByteArray).data.toList sM4.L = 2 from last2 _ _]
  have HJ11 := Lib.hid hj11; clear hj11
  go_wp2_with (fail)
  go_ret
  exact ⟨rfl, HJ11.out.low⟩
end Go.Proofs.YtlmlcnbgdaiaeaaGreatDoor
/- moultlaw7's acts, as they lie; small. -/
namespace Go.Proofs.YtlmlcnbgdaiaeaaGreatDoor
open Go.RowKit Go.Deep Go.Maps

structure JV where
  op : Int
  n : Int
  bp : Option Addr
  bc : Nat
  bl : List (List UInt8)
  left : SI
  spoil : SI
structure JV.ok (w : World) (x : JV) : Prop where
  op : in64 x.op
  n : in64 x.n
  at_ : StrsAt w x.bp x.bl
  len : x.bl.length ≤ maxLen
  each : ∀ t ∈ x.bl, t.length ≤ maxLen
  left : SI.ok w x.left
  spoil : SI.ok w x.spoil
def JV.cells (x : JV) : List Value := [.int .i64 x.op, .int .i64 x.n, .slice x.bp x.bl.length x.bc, x.left.val, x.spoil.val]
def JActs (w : World) (p : Option Addr) (L : List JV) : Prop := ∀ i (h : i < L.length), ∃ B O sp, p.map (fun a => a.add (i * 5)) = some ⟨B, O, sp⟩ ∧
  (∀ j u, L[i].cells[j]? = some u → w.cell? ((⟨B, O, sp⟩ : Addr).add j) = some u) ∧ JV.ok w L[i]
theorem JV.ok.bel {w x : World} {v : JV} (h : JV.ok w v) (hb : Bel w x) : JV.ok x v := ⟨h.op, h.n, h.at_.bel hb, h.len, h.each, h.left.bel hb, h.spoil.bel hb⟩
theorem JActs.bel {w x : World} {p : Option Addr} {L : List JV} (h : JActs w p L) (hb : Bel w x) : JActs x p L := by
  intro i hi
  obtain ⟨B, O, sp, hp, hc, ho⟩ := h i hi
  exact ⟨B, O, sp, hp, fun j u hj => (Below.cell hb (block_lt_of_cell (hc j u hj))).trans (hc j u hj), ho.bel hb⟩
theorem jact_cells {w : World} {p : Option Addr} {L : List JV} (h : JActs w p L) {k : Nat} (hk : k < L.length) : ∃ B O sp, p.map (fun a => a.add (k * 5)) = some ⟨B, O, sp⟩ ∧
    w.cell? ⟨B, O, sp⟩ = some (.int .i64 L[k].op) ∧ w.cell? ⟨B, O + 1, none⟩ = some (.int .i64 L[k].n) ∧ w.cell? ⟨B, O + 2, none⟩ = some (.slice L[k].bp L[k].bl.length L[k].bc) ∧ w.cell? ⟨B, O + 3, none⟩ = some L[k].left.val ∧
    w.cell? ⟨B, O + 4, none⟩ = some L[k].spoil.val ∧ JV.ok w L[k] := by
  obtain ⟨B, O, sp, hp, hc, ho⟩ := h k hk
  refine ⟨B, O, sp, hp, ?_, ?_, ?_, ?_, ?_, ho⟩
  · simpa [Addr.add] using hc 0 _ rfl
  · simpa [Addr.add] using hc 1 _ rfl
  · simpa [Addr.add] using hc 2 _ rfl
  · simpa [Addr.add] using hc 3 _ rfl
  · simpa [Addr.add] using hc 4 _ rfl
def strsB (l : List (List UInt8)) : Bool := l.all fun t => decide (t.length ≤ 900)
def JV.small (x : JV) : Bool := (decide (x.bl.length ≤ 60) && (decide (x.left.L.length ≤ 60) && decide (x.spoil.L.length ≤ 60))) && strsB x.bl
def jsmallB (L : List JV) : Bool := decide (L.length ≤ 60) && L.all JV.small
theorem drw_cell {w x : World} (h : Drw w x) (a : Addr) : x.cell? a = w.cell? a := by obtain ⟨m, rfl⟩ := h; rfl
theorem strs_drw {w x y : World} {p : Option Addr} {l : List (List UInt8)} (hx : Drw w x) (hy : Drw w y) (h : StrsAt x p l) : StrsAt y p l := fun i hi => by
  obtain ⟨a, ha, hc⟩ := h i hi
  exact ⟨a, ha, (drw_cell hy _).trans ((drw_cell hx _).symm.trans hc)⟩
def JsRel (L : List JV) (i : Value) : Prop := ∃ k : Nat, i = .int .i64 k ∧ k ≤ L.length ∧ (L.take k).all JV.small = true
set_option maxHeartbeats 4000000 in
theorem jsmall_any (w : World) (p : Option Addr) (cap : Nat) (L : List JV) (h : JActs w p L) (hL : L.length ≤ maxLen) :
    Calls Tryz.prog 8 #[.slice p L.length cap] w fun e w' => e = .returned (.bool (jsmallB L)) ∧ Drw w w' := by
  unfold maxLen at hL
  have H := Lib.hid h; clear h
  by_cases h60 : 60 < L.length
  · have HB := Lib.hid (show jsmallB L = false by unfold jsmallB; rw [decide_eq_false (by omega)]; rfl)
    go_enter Tryz.func8, Tryz.ntmps8
    go_wp2_with (fail)
    go_ret
    exact ⟨ret_bool (by rw [HB.out]), Drw.refl w⟩
  have h60' : L.length ≤ 60 := by omega
  go_enter Tryz.func8, Tryz.ntmps8
  go_wp2_with (fail)
  go_loopw [3] (fun i x => JsRel L i ∧ Drw w x) (fun i _ => L.length - (intOf i).toNat)
  case atStart => exact ⟨⟨0, rfl, Nat.zero_le _, rfl⟩, Drw.refl w⟩
  case round =>
    obtain ⟨⟨k, rfl, hk, hall⟩, hw⟩ := hrel
    have HW := Lib.hid hw; clear hw
    have HA := Lib.hid hall; clear hall
    by_cases hlt : k < L.length
    · obtain ⟨B, O, sp, hp, c0, c1, c2, c3, c4, hok⟩ := jact_cells (H.out.bel HW.out.bel) hlt
      cases p with
      | none => cases hp
      | some a =>
      simp only [Option.map_some, Option.some.injEq] at hp
      obtain ⟨y, hy⟩ : ∃ y, y = L[k] := ⟨_, rfl⟩
      have HT := Lib.hid (show (L.take (k + 1)).all JV.small = JV.small y by
        rw [List.take_add_one, List.getElem?_eq_getElem hlt, List.all_append, HA.out, hy]; simp)
      have HF := Lib.hid (show JV.small y = false → jsmallB L = false by
        intro hs
        unfold jsmallB
        have : L.all JV.small = false := by rw [List.all_eq_false]; exact ⟨L[k], List.getElem_mem hlt, by rw [← hy, hs]; simp⟩
        rw [this, Bool.and_false])
      rw [← hy] at c0 c1 c2 c3 c4 hok
      have k1 := hok.len
      have k4 := hok.left.2.1
      have k5 := hok.spoil.2.1
      have HOK := Lib.hid hok
      unfold SI.val at c3 c4
      unfold maxLen at k1 k4 k5
      clear hok hy
      by_cases q1 : y.bl.length ≤ 60
      · by_cases q4 : y.left.L.length ≤ 60
        · by_cases q5 : y.spoil.L.length ≤ 60
          · have HE := Lib.hid (show JV.small y = strsB y.bl by unfold JV.small; rw [decide_eq_true q1, decide_eq_true q4, decide_eq_true q5]; simp)
            go_wp2_with (fail)
            go_loopw [4] (fun i x => (∃ j : Nat, i = .int .i64 j ∧ j ≤ y.bl.length ∧ strsB (y.bl.take j) = true) ∧ Drw w x) (fun i _ => y.bl.length - (intOf i).toNat)
            case atStart => exact ⟨⟨0, rfl, Nat.zero_le _, rfl⟩, HW.out⟩
            case round =>
              obtain ⟨⟨j, rfl, hj, hst⟩, hw2⟩ := hrel
              have HST := Lib.hid hst
              have HW2 := Lib.hid hw2
              clear hst hw2
              have d2 := (drw_cell HW2.out ⟨B, O + 2, none⟩).trans ((drw_cell HW.out _).symm.trans c2)
              have HSX := Lib.hid (strs_drw HW.out HW2.out HOK.out.at_)
              clear c0 c1 c2 c3 c4
              by_cases hjl : j < y.bl.length
              · obtain ⟨q, hq, hcq⟩ := HSX.out j hjl
                have htl := HOK.out.each y.bl[j] (List.getElem_mem hjl)
                have HTJ := Lib.hid (show strsB (y.bl.take (j + 1)) = decide (y.bl[j].length ≤ 900) by
                  unfold strsB at HST ⊢
                  rw [List.take_add_one, List.getElem?_eq_getElem hjl, List.all_append, HST.out]; simp)
                have HFJ := Lib.hid (show ¬ y.bl[j].length ≤ 900 → strsB y.bl = false from fun hn => by
                  unfold strsB
                  rw [List.all_eq_false]
                  exact ⟨y.bl[j], List.getElem_mem hjl, by simp; omega⟩)
                obtain ⟨t, ht⟩ : ∃ t, t = y.bl[j] := ⟨_, rfl⟩
                rw [← ht] at hcq htl HTJ HFJ
                have htz := str_len t
                unfold maxLen at htl
                rw [hq] at d2
                clear ht
                by_cases h9 : t.length ≤ 900
                · have HT9 := Lib.hid (HTJ.out.trans (decide_eq_true h9))
                  go_wp2_with (fail)
                  go_roundw
                  case rel => exact ⟨⟨j + 1, by go_num, by omega, HT9.out⟩, HW2.out⟩
                  case measure => simp [intOf]; omega
                · have HS := Lib.hid (HF.out (by rw [HE.out, HFJ.out h9]))
                  go_wp2_with (fail)
                  go_ret
                  exact ⟨ret_bool (by rw [HS.out]), HW2.out⟩
              · obtain rfl : j = y.bl.length := by omega
                have HSM := Lib.hid (show JV.small y = true by
                  rw [HE.out]
                  have := HST.out
                  rwa [List.take_length] at this)
                go_wp2_with (fail)
                go_roundw
                case rel => exact ⟨⟨k + 1, by go_num, by omega, by rw [HT.out, HSM.out]⟩, HW2.out⟩
                case measure => simp [intOf]; omega
          · have HS := Lib.hid (HF.out (by unfold JV.small; rw [decide_eq_false q5]; simp))
            go_wp2_with (fail)
            go_ret
            exact ⟨ret_bool (by rw [HS.out]), HW.out⟩
        · have HS := Lib.hid (HF.out (by unfold JV.small; rw [decide_eq_false q4]; simp))
          go_wp2_with (fail)
          go_ret
          exact ⟨ret_bool (by rw [HS.out]), HW.out⟩
      · have HS := Lib.hid (HF.out (by unfold JV.small; rw [decide_eq_false q1]; simp))
        go_wp2_with (fail)
        go_ret
        exact ⟨ret_bool (by rw [HS.out]), HW.out⟩
    · obtain rfl : k = L.length := by omega
      have HS := Lib.hid (show jsmallB L = true by
        have := HA.out
        rw [List.take_length] at this
        unfold jsmallB
        rw [this]; simp; omega)
      go_wp2_with (fail)
      go_ret
      exact ⟨ret_bool (by rw [HS.out]), HW.out⟩
end Go.Proofs.YtlmlcnbgdaiaeaaGreatDoor
/- The program's journal and the reference's in one world, and the laws' calls on them. -/
namespace Go.Proofs.YtlmlcnbgdaiaeaaGreatDoor
open Go.RowKit Go.Deep Go.Maps

def fresh (x y : World) (F : List Nat) : List Nat := (List.range y.heap.size).filter (fun k => decide (x.heap.size ≤ k ∧ k ∉ F))
theorem mem_fresh {x y : World} {F : List Nat} {k : Nat} : k ∈ fresh x y F ↔ x.heap.size ≤ k ∧ k < y.heap.size ∧ k ∉ F := by
  unfold fresh
  rw [List.mem_filter, List.mem_range, decide_eq_true_eq]
  constructor
  · rintro ⟨h1, h2, h3⟩; exact ⟨h2, h1, h3⟩
  · rintro ⟨h1, h2, h3⟩; exact ⟨h2, h1, h3⟩
section
variable {w x y z : World} {b r : Nat} {M M' M1 : RS} {R : List Nat} {F G F' G' : List Nat}
theorem tw_prog2 (hB : Bel w x) (hM' : M'.ok) (h1 : ProgAt w.heap.size x b M F) (h2 : RefP w.heap.size x r M' G) (h3 : ∀ k ∈ F, k ∉ G) (h4 : ∀ k ∈ R, k < x.heap.size ∧ k ∉ F ∧ k ∉ G)
    (k1 : ProgAt w.heap.size y b M1 F') (k2 : Keep F x y) (k3 : ∀ k ∈ F', k ∈ F ∨ x.heap.size ≤ k) (hM1 : M1.ok) : Tw w y b r M1 M' (fresh x y F' ++ R) ∧ KeepR R x y := by
  have hGlt : ∀ k ∈ G, k < x.heap.size := ref_lt h2
  refine ⟨⟨⟨F', G, k1, h2.keep k2 (fun k hk hm => h3 k hm hk), fun k hk hm => ?_, fun k hk => ?_⟩, ((Keep.of_bel hB F).trans k2 (fun x hx => Or.inl hx)).bel (fun k hk => (h1.within k hk).1), hM1, hM'⟩, fun k hk => k2.block k (h4 k hk).1 (h4 k hk).2.1⟩
  · rcases k3 k hk with h | h
    · exact h3 k h hm
    · have := hGlt k hm; omega
  · rcases List.mem_append.1 hk with hk | hk
    · obtain ⟨q1, q2, q3⟩ := mem_fresh.1 hk
      exact ⟨q2, q3, fun hm => by have := hGlt k hm; omega⟩
    · refine ⟨Nat.lt_of_lt_of_le (h4 k hk).1 k2.size, fun hm => ?_, (h4 k hk).2.2⟩
      rcases k3 k hm with h | h
      · exact (h4 k hk).2.1 h
      · have := (h4 k hk).1; omega
theorem tw_ref2 (hB : Bel w x) (hM : M.ok) (h1 : ProgAt w.heap.size x b M F) (h2 : RefP w.heap.size x r M' G) (h3 : ∀ k ∈ F, k ∉ G) (h4 : ∀ k ∈ R, k < x.heap.size ∧ k ∉ F ∧ k ∉ G)
    (k1 : RefP w.heap.size y r M1 G') (k2 : Keep G x y) (k3 : ∀ k ∈ G', k ∈ G ∨ x.heap.size ≤ k) (hM1 : M1.ok) : Tw w y b r M M1 (fresh x y G' ++ R) ∧ KeepR R x y := by
  have hGin : ∀ k ∈ G, w.heap.size ≤ k := by
    obtain ⟨v, -, -, -, g4⟩ := h2
    exact fun k hk => (g4 k hk).1
  refine ⟨⟨⟨F, G', h1.keep k2 h3, k1, fun k hk hm => ?_, fun k hk => ?_⟩, ((Keep.of_bel hB G).trans k2 (fun x hx => Or.inl hx)).bel hGin, hM, hM1⟩, fun k hk => k2.block k (h4 k hk).1 (h4 k hk).2.2⟩
  · rcases k3 k hm with h | h
    · exact h3 k hk h
    · have := (h1.within k hk).2; omega
  · rcases List.mem_append.1 hk with hk | hk
    · obtain ⟨q1, q2, q3⟩ := mem_fresh.1 hk
      exact ⟨q2, fun hm => by have := (h1.within k hm).2; omega, q3⟩
    · refine ⟨Nat.lt_of_lt_of_le (h4 k hk).1 k2.size, (h4 k hk).2.1, fun hm => ?_⟩
      rcases k3 k hm with h | h
      · exact (h4 k hk).2.2 h
      · have := (h4 k hk).1; omega
theorem Tw.other (h : Tw w x b r M M' R) {K : List Nat} (hk : Keep K x y) (hK : ∀ k ∈ K, w.heap.size ≤ k ∧ k ∈ R) : Tw w y b r M M' R ∧ (∀ k ∈ R, k ∉ K → y.heap[k]? = x.heap[k]?) := by
  obtain ⟨⟨F, G, h1, h2, h3, h4⟩, h5, h6, h7⟩ := h
  refine ⟨⟨⟨F, G, h1.keep hk (fun k hkF hm => (h4 k (hK k hm).2).2.1 hkF), h2.keep hk (fun k hkG hm => (h4 k (hK k hm).2).2.2 hkG), h3, fun k hk' => ⟨Nat.lt_of_lt_of_le (h4 k hk').1 hk.size, (h4 k hk').2⟩⟩,
    ((Keep.of_bel h5 K).trans hk (fun x hx => Or.inl hx)).bel (fun k hk' => (hK k hk').1), h6, h7⟩, fun k hk' hn => hk.block k (h4 k hk').1 hn⟩
theorem Tw.grow (h : Tw w x b r M M' R) (hb : Bel x y) {S : List Nat} (hS : ∀ k ∈ S, x.heap.size ≤ k ∧ k < y.heap.size) : Tw w y b r M M' (S ++ R) := by
  obtain ⟨⟨F, G, h1, h2, h3, h4⟩, h5, h6, h7⟩ := h
  refine ⟨⟨F, G, h1.bel hb, h2.bel hb, h3, fun j hj => ?_⟩, h5.trans hb, h6, h7⟩
  rcases List.mem_append.1 hj with hj | hj
  · have hjs := hS j hj
    refine ⟨hjs.2, fun hm => ?_, fun hm => ?_⟩
    · have := (h1.within _ hm).2; omega
    · have := ref_lt h2 j hm; omega
  · exact ⟨Nat.lt_of_lt_of_le (h4 j hj).1 hb.size, (h4 j hj).2⟩
theorem Tw.lt (h : Tw w x b r M M' R) : ∀ k ∈ R, k < x.heap.size := by
  obtain ⟨⟨F, G, h1, h2, h3, h4⟩, h5, h6, h7⟩ := h
  exact fun k hk => (h4 k hk).1
theorem tw_open (h : Tw w x b r M M' R) (hs : Std w) (hz : Bel x z) (nm : ByteArray) (most : Int) (hnm : nm.size ≤ 100) (hr : M.room ≤ 1000000) {err : Int} {L : List (List (List UInt8))} (hj : jopen nm.data.toList M = (err, L, M1)) :
    Calls Tryz.prog 19 #[.pointer (some ⟨b, 0, none⟩), .string nm, .int .i64 most] z fun e y => ∃ jv p cap S, e = .returned (.tuple #[jv, .slice p L.length cap, .int .i64 err]) ∧ Tw w y b r M1 M' (S ++ R) ∧ KeepR R x y ∧ RowL (fun k => k ∈ S) y p L ∧
      (∀ k ∈ S, x.heap.size ≤ k) ∧ (err = 0 → ∃ jb, jv = .pointer (some ⟨jb, 0, none⟩) ∧ JAt y jb b nm most ∧ jb ∈ S) ∧ (err ≠ 0 → jv = .pointer none) := by
  have hkr := h.keepR hz
  obtain ⟨⟨F, G, h1, h2, h3, h4⟩, h5, h6, h7⟩ := h.bel hz
  refine (open_st hs h5 h1 h6 nm most hnm hr hj).mono ?_
  rintro e y ⟨jv, v, F', rfl, k1, k2, k3, hq, hbl, hok, hjb, hne⟩
  have ht := tw_prog2 h5 h7 h1 h2 h3 h4 k1 k2 k3 hok
  obtain ⟨p, cap, rfl, hrow⟩ := hq.own.row
  refine ⟨jv, p, cap, fresh z y F', rfl, ht.1, hkr.trans ht.2, hrow.mono (fun k hk => ?_), fun k hk => Nat.le_trans hz.size (mem_fresh.1 hk).1, fun he => ?_, hne⟩
  · rcases hk with hk | hk
    · exact mem_fresh.2 hk
    · exact mem_fresh.2 (hq.blk k hk)
  · obtain ⟨jb, q1, q2, q3⟩ := hjb he
    exact ⟨jb, q1, q2.j, mem_fresh.2 q3⟩
theorem tw_ropen (h : Tw w x b r M M' R) (hz : Bel x z) (nm : ByteArray) (most : Int) (hnm : nm.size ≤ 100) (hr : M'.room ≤ 1000000) {err : Int} {L : List (List (List UInt8))} (hj : jopen nm.data.toList M' = (err, L, M1)) :
    Calls Tryz.prog 20 #[.pointer (some ⟨r, 0, none⟩), .string nm, .int .i64 most] z fun e y => ∃ jv p cap S, e = .returned (.tuple #[jv, .slice p L.length cap, .int .i64 err]) ∧ Tw w y b r M M1 (S ++ R) ∧ KeepR R x y ∧ RowL (fun k => k ∈ S) y p L ∧
      (∀ k ∈ S, x.heap.size ≤ k) ∧ (err = 0 → ∃ jb, jv = .pointer (some ⟨jb, 0, none⟩) ∧ JAt y jb r nm most ∧ jb ∈ S) ∧ (err ≠ 0 → jv = .pointer none) := by
  have hkr := h.keepR hz
  obtain ⟨⟨F, G, h1, h2, h3, h4⟩, h5, h6, h7⟩ := h.bel hz
  refine (ropen_any _ z r M' G nm most h2 h7 hnm hr).mono ?_
  rintro e y ⟨jv, v, G', rfl, k1, k2, k3, hq, hjb, hne⟩
  have hok := jopen_ok nm.data.toList h7
  rw [hj] at k1 hq hjb hne hok ⊢
  have ht := tw_ref2 h5 h6 h1 h2 h3 h4 k1 k2 k3 hok
  obtain ⟨p, cap, rfl, hrow⟩ := hq.own.row
  refine ⟨jv, p, cap, fresh z y G', rfl, ht.1, hkr.trans ht.2, hrow.mono (fun k hk => ?_), fun k hk => Nat.le_trans hz.size (mem_fresh.1 hk).1, fun he => ?_, hne⟩
  · rcases hk with hk | hk
    · exact mem_fresh.2 hk
    · exact mem_fresh.2 (hq.blk k hk)
  · obtain ⟨jb, q1, q2, q3⟩ := hjb he
    exact ⟨jb, q1, q2, mem_fresh.2 q3⟩
end
structure LW (w x : World) (ws ms b r jb rb : Nat) (M M' : RS) (nm : ByteArray) (most : Int) (R : List Nat) : Prop where
  tw : Tw w x b r M M' (ws :: ms :: jb :: rb :: R)
  j : JAt x jb b nm most
  rj : JAt x rb r nm most
  sw : x.heap[ws]? = some (.cells #[.pointer (some ⟨b, 0, none⟩), .pointer (some ⟨jb, 0, none⟩), .int .i64 most] 58 (0, 0))
  sm : x.heap[ms]? = some (.cells #[.pointer (some ⟨r, 0, none⟩), .pointer (some ⟨rb, 0, none⟩), .int .i64 most] 60 (0, 0))
  new : w.heap.size ≤ ws ∧ w.heap.size ≤ ms
  apart : ws ≠ ms ∧ ws ≠ jb ∧ ws ≠ rb ∧ ms ≠ jb ∧ ms ≠ rb
  std : Std w
section
variable {w x y z : World} {ws ms b r jb rb : Nat} {M M' M1 : RS} {nm : ByteArray} {most : Int} {R R' : List Nat}
theorem LW.to (h : LW w x ws ms b r jb rb M M' nm most R) {M2 M2' : RS} (ht : Tw w y b r M2 M2' (ws :: ms :: jb :: rb :: R')) (hk : KeepR (ws :: ms :: jb :: rb :: R) x y) : LW w y ws ms b r jb rb M2 M2' nm most R' :=
  ⟨ht, h.j.keep (hk jb (by simp)), h.rj.keep (hk rb (by simp)), (hk ws (by simp)).trans h.sw, (hk ms (by simp)).trans h.sm, h.new, h.apart, h.std⟩
theorem LW.bel (h : LW w x ws ms b r jb rb M M' nm most R) (hb : Bel x y) : LW w y ws ms b r jb rb M M' nm most R := h.to (h.tw.bel hb) (h.tw.keepR hb)
theorem LW.less (h : LW w x ws ms b r jb rb M M' nm most R) (hR : ∀ k ∈ R', k ∈ R) : LW w x ws ms b r jb rb M M' nm most R' :=
  h.to (h.tw.less (fun k hk => by
    simp only [List.mem_cons] at hk ⊢
    rcases hk with h | h | h | h | h
    · exact Or.inl h
    · exact Or.inr (Or.inl h)
    · exact Or.inr (Or.inr (Or.inl h))
    · exact Or.inr (Or.inr (Or.inr (Or.inl h)))
    · exact Or.inr (Or.inr (Or.inr (Or.inr (hR k h)))))) (KeepR.refl _ _)
theorem LW.grow (h : LW w x ws ms b r jb rb M M' nm most R) (hb : Bel x y) {S : List Nat} (hS : ∀ k ∈ S, x.heap.size ≤ k ∧ k < y.heap.size) : LW w y ws ms b r jb rb M M' nm most (S ++ R) :=
  h.to ((h.tw.grow hb hS).less (fun k hk => by
    simp only [List.mem_cons, List.mem_append] at hk ⊢
    rcases hk with h | h | h | h | h | h <;> simp [h])) (h.tw.keepR hb)
theorem LW.alloc (h : LW w x ws ms b r jb rb M M' nm most R) (o : Obj) : LW w (x.alloc o) ws ms b r jb rb M M' nm most (x.heap.size :: R) :=
  h.grow (S := [x.heap.size]) ((Bel.refl x).alloc o) (fun k hk => by rw [List.mem_singleton] at hk; subst hk; simp)
theorem LW.other (h : LW w x ws ms b r jb rb M M' nm most R) {K : List Nat} (hk : Keep K x y) (hK : ∀ k ∈ K, w.heap.size ≤ k ∧ k ∈ R ∧ k ≠ ws ∧ k ≠ ms ∧ k ≠ jb ∧ k ≠ rb) : LW w y ws ms b r jb rb M M' nm most R := by
  obtain ⟨h1, h2⟩ := h.tw.other hk (fun k hk' => ⟨(hK k hk').1, by simp [(hK k hk').2.1]⟩)
  have hn : ∀ k, k = ws ∨ k = ms ∨ k = jb ∨ k = rb → k ∉ K := fun k hk' hm => by
    have := (hK k hm).2.2
    omega
  exact ⟨h1, h.j.keep (h2 jb (by simp) (hn jb (by simp))), h.rj.keep (h2 rb (by simp) (hn rb (by simp))), (h2 ws (by simp) (hn ws (by simp))).trans h.sw, (h2 ms (by simp) (hn ms (by simp))).trans h.sm, h.new, h.apart, h.std⟩
theorem LW.cells (h : LW w x ws ms b r jb rb M M' nm most R) : x.cell? ⟨ws, 0, none⟩ = some (.pointer (some ⟨b, 0, none⟩)) ∧ x.cell? ⟨ws, 1, none⟩ = some (.pointer (some ⟨jb, 0, none⟩)) ∧ x.cell? ⟨ws, 2, none⟩ = some (.int .i64 most) ∧
    x.cell? ⟨ms, 0, none⟩ = some (.pointer (some ⟨r, 0, none⟩)) ∧ x.cell? ⟨ms, 1, none⟩ = some (.pointer (some ⟨rb, 0, none⟩)) ∧ x.cell? ⟨ms, 2, none⟩ = some (.int .i64 most) := by
  have h1 := h.sw
  have h2 := h.sm
  refine ⟨?_, ?_, ?_, ?_, ?_, ?_⟩ <;> simp [World.cell?, h1, h2]
theorem LW.low (h : LW w x ws ms b r jb rb M M' nm most R) : Bel w x := h.tw.low
theorem LW.prog (h : LW w x ws ms b r jb rb M M' nm most R) (hz : Bel x z) {fn : FuncId} {args : Array Value} {A : Ending → Prop} (hM1 : M1.ok)
    (hc : ∀ F, JS w.heap.size z b M F jb nm most → Calls Tryz.prog fn args z fun e y => A e ∧ ProgTo w.heap.size z y b M1 F) :
    Calls Tryz.prog fn args z fun e y => A e ∧ LW w y ws ms b r jb rb M1 M' nm most R ∧ KeepR R x y := by
  have hh := h.bel hz
  have hkr := h.tw.keepR hz
  obtain ⟨⟨F, G, h1, h2, h3, h4⟩, h5, h6, h7⟩ := hh.tw
  refine (hc F (js_of h.std h5 h1 h6 hh.j (h4 jb (by simp)).2.1)).mono ?_
  rintro e y ⟨ha, hT⟩
  have ht := tw_prog h5 h7 h1 h2 h3 h4 hT hM1
  have hk := hkr.trans ht.2
  exact ⟨ha, h.to ht.1 hk, fun k hk' => hk k (by simp [hk'])⟩
theorem LW.ref (h : LW w x ws ms b r jb rb M M' nm most R) (hz : Bel x z) {fn : FuncId} {args : Array Value} {A : Ending → Prop} (hM1 : M1.ok)
    (hc : ∀ G, RJS w.heap.size z r M' G rb nm most → Calls Tryz.prog fn args z fun e y => A e ∧ RefTo w.heap.size z y r M1 G) :
    Calls Tryz.prog fn args z fun e y => A e ∧ LW w y ws ms b r jb rb M M1 nm most R ∧ KeepR R x y := by
  have hh := h.bel hz
  have hkr := h.tw.keepR hz
  obtain ⟨⟨F, G, h1, h2, h3, h4⟩, h5, h6, h7⟩ := hh.tw
  refine (hc G ⟨h2, h7, hh.rj, (h4 rb (by simp)).2.2⟩).mono ?_
  rintro e y ⟨ha, hT⟩
  have ht := tw_ref h5 h6 h1 h2 h3 h4 hT hM1
  have hk := hkr.trans ht.2
  exact ⟨ha, h.to ht.1 hk, fun k hk' => hk k (by simp [hk'])⟩
theorem LW.look (h : LW w x ws ms b r jb rb M M' nm most R) (hz : Bel x z) {fn : FuncId} {args : Array Value} {A : Ending → World → Prop}
    (hc : ∀ F, JS w.heap.size z b M F jb nm most → Calls Tryz.prog fn args z fun e y => A e y ∧ Bel z y) :
    Calls Tryz.prog fn args z fun e y => A e y ∧ LW w y ws ms b r jb rb M M' nm most R ∧ Bel z y := by
  have hh := h.bel hz
  obtain ⟨⟨F, G, h1, h2, h3, h4⟩, h5, h6, h7⟩ := hh.tw
  refine (hc F (js_of h.std h5 h1 h6 hh.j (h4 jb (by simp)).2.1)).mono ?_
  rintro e y ⟨ha, hb⟩
  exact ⟨ha, h.bel (hz.trans hb), hb⟩
theorem LW.rlook (h : LW w x ws ms b r jb rb M M' nm most R) (hz : Bel x z) {fn : FuncId} {args : Array Value} {A : Ending → World → Prop}
    (hc : ∀ G, RJS w.heap.size z r M' G rb nm most → Calls Tryz.prog fn args z fun e y => A e y ∧ Bel z y) :
    Calls Tryz.prog fn args z fun e y => A e y ∧ LW w y ws ms b r jb rb M M' nm most R ∧ Bel z y := by
  have hh := h.bel hz
  obtain ⟨⟨F, G, h1, h2, h3, h4⟩, h5, h6, h7⟩ := hh.tw
  refine (hc G ⟨h2, h7, hh.rj, (h4 rb (by simp)).2.2⟩).mono ?_
  rintro e y ⟨ha, hb⟩
  exact ⟨ha, h.bel (hz.trans hb), hb⟩
theorem lw_turn (h : LW w x ws ms b r jb rb M M' nm most R) (hz : Bel x z) (hn : nm.size ≤ 100) (h9 : lastN nm.data.toList M.L < 9999999) :
    Calls Tryz.prog 25 #[.pointer (some ⟨jb, 0, none⟩)] z fun e y => e = .returned (.int .i64 (jturn nm.data.toList M).1) ∧ LW w y ws ms b r jb rb (jturn nm.data.toList M).2 M' nm most R ∧ KeepR R x y :=
  h.prog hz (jturn_ok h.tw.good _) fun F hF => jturn_any _ z b M F jb nm most hF hn h9
theorem lw_rturn (h : LW w x ws ms b r jb rb M M' nm most R) (hz : Bel x z) (hn : nm.size ≤ 100) (h9 : lastN nm.data.toList M'.L < 9999999) :
    Calls Tryz.prog 32 #[.pointer (some ⟨rb, 0, none⟩)] z fun e y => e = .returned (.int .i64 (jturn nm.data.toList M').1) ∧ LW w y ws ms b r jb rb M (jturn nm.data.toList M').2 nm most R ∧ KeepR R x y :=
  h.ref hz (jturn_ok h.tw.good' _) fun G hG => rjturn_any _ z r M' G rb nm most hG hn h9
theorem lw_trim (h : LW w x ws ms b r jb rb M M' nm most R) (hz : Bel x z) (hn : nm.size ≤ 100) (before : Int) (hb : in64 before) :
    Calls Tryz.prog 27 #[.pointer (some ⟨jb, 0, none⟩), .int .i64 before] z fun e y => e = .returned (.int .i64 (jtrim nm.data.toList before M).1) ∧ LW w y ws ms b r jb rb (jtrim nm.data.toList before M).2 M' nm most R ∧ KeepR R x y :=
  h.prog hz (trim_ok _ _ _ h.tw.good) fun F hF => trim_any _ z b M F jb nm most before hF hn hb
theorem lw_rtrim (h : LW w x ws ms b r jb rb M M' nm most R) (hz : Bel x z) (hn : nm.size ≤ 100) (before : Int) (hb : in64 before) :
    Calls Tryz.prog 33 #[.pointer (some ⟨rb, 0, none⟩), .int .i64 before] z fun e y => e = .returned (.int .i64 (jtrim nm.data.toList before M').1) ∧ LW w y ws ms b r jb rb M (jtrim nm.data.toList before M').2 nm most R ∧ KeepR R x y :=
  h.ref hz (trim_ok _ _ _ h.tw.good') fun G hG => rtrim_any _ z r M' G rb nm most before hG hn hb
theorem lw_limit (h : LW w x ws ms b r jb rb M M' nm most R) (hz : Bel x z) (t : Int) (ht : in64 t) :
    Calls Tryz.prog 21 #[.pointer (some ⟨b, 0, none⟩), .int .i64 t] z fun e y => (∃ u, e = .returned u) ∧ LW w y ws ms b r jb rb (limS t M) M' nm most R ∧ KeepR R x y :=
  h.prog hz (lim_ok h.tw.good t ht) fun F hF => plimit_any _ z b M F t hF.prog ht
theorem lw_rlimit (h : LW w x ws ms b r jb rb M M' nm most R) (hz : Bel x z) (t : Int) (ht : in64 t) :
    Calls Tryz.prog 34 #[.pointer (some ⟨r, 0, none⟩), .int .i64 t] z fun e y => (∃ u, e = .returned u) ∧ LW w y ws ms b r jb rb M (limS t M') nm most R ∧ KeepR R x y :=
  h.ref hz (lim_ok h.tw.good' t ht) fun G hG => rlimit_ref hG.ref t
theorem lw_crash (h : LW w x ws ms b r jb rb M M' nm most R) (hz : Bel x z) (lf sp : SI) (hl : SI.ok w lf) (hs : SI.ok w sp) :
    Calls Tryz.prog 24 #[.pointer (some ⟨b, 0, none⟩), lf.val, sp.val] z fun e y => (∃ u, e = .returned u) ∧ LW w y ws ms b r jb rb (crashS lf.L sp.L M) M' nm most R ∧ KeepR R x y :=
  h.prog hz (crash_ok h.tw.good _ _) fun F hF => pcrash_any _ z b M F lf sp hF.prog h.tw.good.srt (good_len h.tw.good) (each_ok h.tw.good) (hl.bel (h.low.trans hz)) (hs.bel (h.low.trans hz))
    (fun a ha hne hm => by have := ints_low hl a ha hne; have := (hF.prog.within _ hm).1; omega) (fun a ha hne hm => by have := ints_low hs a ha hne; have := (hF.prog.within _ hm).1; omega)
theorem lw_rcrash (h : LW w x ws ms b r jb rb M M' nm most R) (hz : Bel x z) (lf sp : SI) (hl : SI.ok w lf) (hs : SI.ok w sp) :
    Calls Tryz.prog 35 #[.pointer (some ⟨r, 0, none⟩), lf.val, sp.val] z fun e y => (∃ u, e = .returned u) ∧ LW w y ws ms b r jb rb M (crashS lf.L sp.L M') nm most R ∧ KeepR R x y :=
  h.ref hz (crash_ok h.tw.good' _ _) fun G hG => rcrash_any _ z r M' G lf sp hG.ref h.tw.good' (hl.bel (h.low.trans hz)) (hs.bel (h.low.trans hz))
    (fun a ha hne hm => by have := ints_low hl a ha hne; obtain ⟨v, -, -, -, g4⟩ := hG.ref; have := (g4 _ hm).1; omega) (fun a ha hne hm => by have := ints_low hs a ha hne; obtain ⟨v, -, -, -, g4⟩ := hG.ref; have := (g4 _ hm).1; omega)
theorem lw_write (h : LW w x ws ms b r jb rb M M' nm most R) (hz : Bel x z) (hn : nm.size ≤ 100) (lp : Option Addr) (lc : Nat) (L : List (List UInt8)) (h0 : lastN nm.data.toList M.L ≠ 0) (h9 : lastN nm.data.toList M.L < 9999999) (hmost : in64 most)
    (hl : StrsAt w lp L) (hL : L.length ≤ maxLen) (ht : ∀ t ∈ L, t.length ≤ 1000000) :
    Calls Tryz.prog 23 #[.pointer (some ⟨jb, 0, none⟩), .slice lp L.length lc] z fun e y => e = .returned (.int .i64 (jwrite nm.data.toList most L M).1) ∧ LW w y ws ms b r jb rb (jwrite nm.data.toList most L M).2 M' nm most R ∧ KeepR R x y :=
  h.prog hz (jwrite_ok h.tw.good _ _ _) fun F hF => write_any _ z b M F jb nm most lp lc L hF hn h0 h9 hmost (hl.bel (h.low.trans hz)) hL ht
theorem lw_rwrite (h : LW w x ws ms b r jb rb M M' nm most R) (hz : Bel x z) (hn : nm.size ≤ 100) (lp : Option Addr) (lc : Nat) (L : List (List UInt8)) (h0 : lastN nm.data.toList M'.L ≠ 0) (h9 : lastN nm.data.toList M'.L < 9999999) (hmost : in64 most)
    (hl : StrsAt w lp L) (hL : L.length ≤ maxLen) (ht : ∀ t ∈ L, t.length ≤ 1000000) :
    Calls Tryz.prog 36 #[.pointer (some ⟨rb, 0, none⟩), .slice lp L.length lc] z fun e y => e = .returned (.int .i64 (jwrite nm.data.toList most L M').1) ∧ LW w y ws ms b r jb rb M (jwrite nm.data.toList most L M').2 nm most R ∧ KeepR R x y :=
  h.ref hz (jwrite_ok h.tw.good' _ _ _) fun G hG => rwrite_any _ z r M' G rb nm most lp lc L hG hn h0 h9 hmost (hl.bel (h.low.trans hz)) hL ht
theorem lw_num (h : LW w x ws ms b r jb rb M M' nm most R) (hz : Bel x z) (hn : nm.size ≤ 100) :
    Calls Tryz.prog 26 #[.pointer (some ⟨jb, 0, none⟩)] z fun e y => e = .returned (.int .i64 (lastN nm.data.toList M.L : Nat)) ∧ LW w y ws ms b r jb rb M M' nm most R ∧ Bel z y :=
  h.look hz (A := fun e y => e = .returned (.int .i64 (lastN nm.data.toList M.L : Nat))) fun F hF => num_any _ z jb b nm most M F hF.prog hF.ok hF.j hn hF.std0
theorem lw_rnum (h : LW w x ws ms b r jb rb M M' nm most R) (hz : Bel x z) (hn : nm.size ≤ 100) :
    Calls Tryz.prog 41 #[.pointer (some ⟨rb, 0, none⟩)] z fun e y => e = .returned (.int .i64 (lastN nm.data.toList M'.L : Nat)) ∧ LW w y ws ms b r jb rb M M' nm most R ∧ Bel z y :=
  h.rlook hz (A := fun e y => e = .returned (.int .i64 (lastN nm.data.toList M'.L : Nat))) fun G hG => rnum_any _ z rb r nm most M' G hG.ref hG.ok hG.j hn
theorem lw_segs (h : LW w x ws ms b r jb rb M M' nm most R) (hz : Bel x z) (hn : nm.size ≤ 100) :
    Calls Tryz.prog 29 #[.pointer (some ⟨jb, 0, none⟩)] z fun e y => (∃ v, e = .returned v ∧ OwnG intEl z.heap.size y v ((segsL nm.data.toList M.L).map fun n : Nat => (n : Int))) ∧ LW w y ws ms b r jb rb M M' nm most R ∧ Bel z y :=
  h.look hz (A := fun e y => ∃ v, e = .returned v ∧ OwnG intEl z.heap.size y v ((segsL nm.data.toList M.L).map fun n : Nat => (n : Int))) fun F hF => (segs_any _ z jb b nm most M F hF.prog hF.ok hF.j hn hF.std0).mono fun e y ⟨v, h1, h2, h3⟩ => ⟨⟨v, h1, h2⟩, h3⟩
theorem lw_rsegs (h : LW w x ws ms b r jb rb M M' nm most R) (hz : Bel x z) (hn : nm.size ≤ 100) :
    Calls Tryz.prog 42 #[.pointer (some ⟨rb, 0, none⟩)] z fun e y => (∃ v, e = .returned v ∧ OwnG intEl z.heap.size y v ((segsL nm.data.toList M'.L).map fun n : Nat => (n : Int))) ∧ LW w y ws ms b r jb rb M M' nm most R ∧ Bel z y :=
  h.rlook hz (A := fun e y => ∃ v, e = .returned v ∧ OwnG intEl z.heap.size y v ((segsL nm.data.toList M'.L).map fun n : Nat => (n : Int))) fun G hG => (rsegs_any _ z rb r nm most M' G hG.ref hG.ok hG.j hn).mono fun e y ⟨v, h1, h2, h3⟩ => ⟨⟨v, h1, h2⟩, h3⟩
theorem lw_dead (h : LW w x ws ms b r jb rb M M' nm most R) (hz : Bel x z) :
    Calls Tryz.prog 22 #[.pointer (some ⟨b, 0, none⟩)] z fun e y => e = .returned (.bool M.gone) ∧ LW w y ws ms b r jb rb M M' nm most R ∧ Bel z y :=
  h.look hz (A := fun e y => e = .returned (.bool M.gone)) fun F hF => (dead_any _ z b M F hF.prog).mono fun e y ⟨h1, h2⟩ => ⟨h1, h2.bel⟩
end
end Go.Proofs.YtlmlcnbgdaiaeaaGreatDoor
/- moultlaw7's begin. -/
namespace Go.Proofs.YtlmlcnbgdaiaeaaGreatDoor
open Go.RowKit Go.Deep Go.Maps

def logB : ByteArray := ⟨#[108, 111, 103]⟩
theorem logB_list : logB.data.toList = logP := rfl
def bgM (room : Int) : RS := ⟨[⟨fl1, [], 0⟩], room, -1, false⟩
theorem bg_turn (room : Int) (h : 0 ≤ room) : addS fl1 [] (newS room) = (0, bgM room) := by
  have ha : admS fl1 ([] : List UInt8).length (newS room) = 0 := by
    unfold admS
    rw [if_neg (by simp [newS]), if_neg (by decide), if_neg (by simp [newS]), if_neg]
    show ¬ room < ((bytesN [] : Nat) : Int) + ((0 : Nat) : Int)
    simp [bytesN]; omega
  unfold addS
  rw [if_pos ha]
  rfl
theorem bg_open (room : Int) (h : 0 ≤ room) : jopen logB.data.toList (newS room) = (0, [], bgM room) := by
  rw [logB_list]
  unfold jopen
  rw [if_neg (by decide), if_neg (by simp [newS]), if_pos (by rfl)]
  have : jturn logP (newS room) = (0, bgM room) := by
    unfold jturn
    rw [show lastN logP (newS room).L + 1 = 1 from rfl, file1]
    exact bg_turn room h
  rw [this]
theorem heap_alloc2 (x : World) (o o' : Obj) : ((x.alloc o).alloc o').heap[x.heap.size]? = some o :=
  (Below.block ((Bel.refl (x.alloc o)).alloc o') x.heap.size (by simp)).trans (heap_alloc_new x o)
set_option maxHeartbeats 4000000 in
theorem jbegin_any (w w0 : World) (hs : Std w) (hB : Bel w w0) (room most : Int) (hr : 0 ≤ room ∧ room ≤ 1000000) :
    Calls Tryz.prog 9 #[.int .i64 room, .int .i64 most] w0 fun e y => ∃ ws ms b r jb rb, e = .returned (.tuple #[.pointer (some ⟨ws, 0, none⟩), .pointer (some ⟨ms, 0, none⟩), .bool true]) ∧
      LW w y ws ms b r jb rb (bgM room) (bgM room) logB most [] := by
  have HS := Lib.hid hs
  have HB := Lib.hid hB
  have HR := Lib.hid hr
  have HJ := Lib.hid (bg_open room hr.1)
  clear hs hB hr
  go_enter Tryz.func9, Tryz.ntmps9
  go_wp2_with (fail)
  refine (pnew_any room w0 ⟨HR.out.1, by have := HR.out.2; omega⟩).mono ?_
  rintro e w3 ⟨rfl, h3, hb3⟩
  obtain ⟨b, hb⟩ : ∃ b, b = w0.heap.size := ⟨_, rfl⟩
  have HBE := Lib.hid hb
  rw [← hb] at h3 ⊢
  have H3 := Lib.hid (show ProgAt w0.heap.size w3 b (newS room) [b] by rw [← hb]; exact h3)
  have HB3 := Lib.hid hb3
  clear h3 hb3 hb
  go_wp2_with (fail)
  refine (rnew_ref room w3 ⟨HR.out.1, by have := HR.out.2; omega⟩).mono ?_
  rintro e w4 ⟨rfl, h4, hb4⟩
  obtain ⟨r, hr⟩ : ∃ r, r = w3.heap.size := ⟨_, rfl⟩
  have H4 := Lib.hid (show Tw w w4 b r (newS room) (newS room) [] from tw_begin room ⟨HR.out.1, by have := HR.out.2; omega⟩ HB.out HBE.out H3.out HB3.out hr (by rw [hr]; exact h4) hb4)
  rw [← hr]
  clear hr h4 hb4
  go_wp2_with (fail)
  refine (tw_open H4.out HS.out (Bel.refl _) logB most (by decide) HR.out.2 HJ.out).mono ?_
  rintro e w5 ⟨jv, p, cap, S, rfl, h5, -, -, hS, hj, -⟩
  obtain ⟨jb, rfl, hja, hjs⟩ := hj rfl
  have H5 := Lib.hid h5
  have HJA := Lib.hid hja
  have HJS := Lib.hid hjs
  clear h5 hj hja hjs hS
  go_wp2_with (fail)
  refine (tw_ropen H5.out (Bel.refl _) logB most (by decide) HR.out.2 HJ.out).mono ?_
  rintro e w6 ⟨jv2, p2, cap2, S2, rfl, h6, hk6, -, hS2, hj, -⟩
  obtain ⟨rb, rfl, hra, hrs⟩ := hj rfl
  have H6 := Lib.hid h6
  have HJ6 := Lib.hid (HJA.out.keep (hk6 jb (by simp [HJS.out])))
  have HRA := Lib.hid hra
  have HRS := Lib.hid hrs
  have HRJ := Lib.hid (show jb ≠ rb by
    have h1 := H5.out.lt jb (by simp [HJS.out])
    have h2 := hS2 rb hrs
    omega)
  clear h6 hk6 hj hra hrs hS2
  go_wp2_with (fail)
  go_ret3
  have hl := H6.out.lt
  have hjl := hl jb (by simp [HJS.out])
  have hrl := hl rb (by simp [HRS.out])
  have hsz : ∀ o, (w6.alloc o).heap.size = w6.heap.size + 1 := fun o => by simp
  refine ⟨w6.heap.size, w6.heap.size + 1, b, r, jb, rb, rfl, ⟨?_, ?_, ?_, heap_alloc2 _ _ _, ?_, ?_, ?_, HS.out⟩⟩
  · refine ((H6.out.alloc _).alloc _).less (fun k hk => ?_)
    simp only [List.mem_cons, List.not_mem_nil, or_false] at hk
    simp only [List.mem_cons, List.mem_append, hsz]
    rcases hk with h | h | h | h
    · exact Or.inr (Or.inl h)
    · exact Or.inl h
    · subst h; exact Or.inr (Or.inr (Or.inr (Or.inl HJS.out)))
    · subst h; exact Or.inr (Or.inr (Or.inl HRS.out))
  · exact HJ6.out.bel (((Bel.refl w6).alloc _).alloc _)
  · exact HRA.out.bel (((Bel.refl w6).alloc _).alloc _)
  · have := heap_alloc_new (w6.alloc (.cells #[.pointer (some ⟨b, 0, none⟩), .pointer (some ⟨jb, 0, none⟩), .int .i64 most] 58)) (.cells #[.pointer (some ⟨r, 0, none⟩), .pointer (some ⟨rb, 0, none⟩), .int .i64 most] 60)
    rw [hsz] at this
    exact this
  · have := H6.out.low.size
    omega
  · have := HRJ.out
    omega
end Go.Proofs.YtlmlcnbgdaiaeaaGreatDoor
/- moultlaw7's World.does. -/
namespace Go.Proofs.YtlmlcnbgdaiaeaaGreatDoor
open Go.RowKit Go.Deep Go.Maps

def doJ (p : List UInt8) (most : Int) (a : JV) (M : RS) : Int × List (List (List UInt8)) × RS :=
  if pickN a.op 10 = 6 then ((jturn p M).1, [], (jturn p M).2)
  else if pickN a.op 10 = 7 then ((jtrim p a.n M).1, [], (jtrim p a.n M).2)
  else if pickN a.op 10 = 8 then (0, [], limS (pickN a.n 20 : Nat) M)
  else if pickN a.op 10 = 9 then jopen p (crashS a.left.L a.spoil.L M)
  else ((jwrite p most a.bl M).1, [], (jwrite p most a.bl M).2)
def jactV (a : JV) : Value := .agg #[.int .i64 a.op, .int .i64 a.n, .slice a.bp a.bl.length a.bc, a.left.val, a.spoil.val]
theorem row_nil (P : Nat → Prop) (x : World) (p : Option Addr) : RowL P x p [] := ⟨[], rfl, fun i s hs => by simp at hs, fun i s l hs => by simp at hs⟩
theorem cell_at {x : World} {k i : Nat} {cs : Array Value} {T : TypeId} {fr : Nat × Nat} (h : x.heap[k]? = some (.cells cs T fr)) : x.cell? ⟨k, i, none⟩ = cs[i]? := by simp [World.cell?, h]
theorem JV.ok.more {w x : World} {v : JV} (h : JV.ok w v) (hb : Bel w x) : JV.ok x v := h.bel hb
theorem small_strs {a : JV} (h : JV.small a = true) : ∀ t ∈ a.bl, t.length ≤ 1000000 := fun t ht => by
  unfold JV.small at h
  simp only [Bool.and_eq_true] at h
  have := h.2
  unfold strsB at this
  rw [List.all_eq_true] at this
  have := this t ht
  simp at this; omega
theorem jpick_ok (c : Int) (n : Nat) (w : World) (hc : in64 c) (hn : 0 < n) (hn2 : n ≤ 1000000) : in64 (pickN c n : Nat) := by
  have := pickN_lt c hn
  exact ⟨by omega, by omega⟩
set_option maxHeartbeats 8000000 in
set_option maxRecDepth 20000 in
theorem jdoes_any (w x : World) (ws ms b r jb rb : Nat) (M M' : RS) (nm : ByteArray) (most : Int) (R : List Nat) (a : JV) (hR : ws ∉ R ∧ ms ∉ R) (h : LW w x ws ms b r jb rb M M' nm most R) (hnm : nm = logB) (hmost : in64 most) (ha : JV.ok w a) (hs : JV.small a = true)
    (h0 : lastN nm.data.toList M.L ≠ 0) (h9 : lastN nm.data.toList M.L < 9999999) (hroom : M.room ≤ 1000000) :
    Calls Tryz.prog 11 #[.pointer (some ⟨ws, 0, none⟩), jactV a] x fun e y => ∃ p cap S jb', e = .returned (.tuple #[.slice p (doJ nm.data.toList most a M).2.1.length cap, .int .i64 (doJ nm.data.toList most a M).1]) ∧ LW w y ws ms b r jb' rb (doJ nm.data.toList most a M).2.2 M' nm most (S ++ R) ∧ KeepR R x y ∧
      RowL (fun k => k ∈ S) y p (doJ nm.data.toList most a M).2.1 ∧ ∀ k ∈ S, x.heap.size ≤ k := by
  have HNR := Lib.hid (show ∀ k ∈ R, k ≠ ws from fun k hk e => by subst e; exact hR.1 hk)
  have HA := Lib.hid ha
  have HMO := Lib.hid hmost
  have HST := Lib.hid (small_strs hs)
  have H0 := Lib.hid h0
  have H9 := Lib.hid h9
  have HRM := Lib.hid hroom
  have hnz : nm.size ≤ 100 := by rw [hnm]; decide
  have HNM := Lib.hid hnm
  obtain ⟨bx, hbx⟩ : ∃ bx, bx = x.heap.size := ⟨_, rfl⟩
  obtain ⟨x1, hx1⟩ : ∃ x1, x1 = x.alloc (.cells #[.int .i64 a.op, .int .i64 a.n, .slice a.bp a.bl.length a.bc, a.left.val, a.spoil.val] 37) := ⟨_, rfl⟩
  have HX := Lib.hid (show LW w x1 ws ms b r jb rb M M' nm most (bx :: R) by rw [hx1, hbx]; exact h.alloc _)
  have HKR := Lib.hid (show KeepR R x x1 by rw [hx1]; exact fun k hk => h.tw.keepR ((Bel.refl x).alloc _) k (by simp [hk]))
  have HBX := Lib.hid (show x1.heap[bx]? = some (.cells #[.int .i64 a.op, .int .i64 a.n, .slice a.bp a.bl.length a.bc, a.left.val, a.spoil.val] 37 (0, 0)) by rw [hx1, hbx]; exact heap_alloc_new x _)
  have HXS := Lib.hid (show x.heap.size ≤ x1.heap.size by rw [hx1]; simp)
  have HXB := Lib.hid (show x.heap.size ≤ bx by omega)
  have HC := Lib.hid (show ∀ z, KeepR (bx :: R) x1 z → z.cell? ⟨bx, 0, none⟩ = some (.int .i64 a.op) ∧ z.cell? ⟨bx, 1, none⟩ = some (.int .i64 a.n) ∧ z.cell? ⟨bx, 2, none⟩ = some (.slice a.bp a.bl.length a.bc) ∧ z.cell? ⟨bx, 3, none⟩ = some a.left.val ∧ z.cell? ⟨bx, 4, none⟩ = some a.spoil.val from fun z hz => by
    have e := (hz bx (by simp)).trans HBX.out
    exact ⟨cell_at e, cell_at e, cell_at e, cell_at e, cell_at e⟩)
  have HOP := Lib.hid (show in64 a.op from ha.op)
  obtain ⟨m, hm⟩ : ∃ m, m = pickN a.op 10 := ⟨_, rfl⟩
  have HM := Lib.hid hm
  have hm10 : m < 10 := by rw [hm]; exact pickN_lt a.op (by omega)
  have HD := Lib.hid (show doJ nm.data.toList most a M = if m = 6 then ((jturn nm.data.toList M).1, [], (jturn nm.data.toList M).2) else if m = 7 then ((jtrim nm.data.toList a.n M).1, [], (jtrim nm.data.toList a.n M).2) else if m = 8 then (0, [], limS (pickN a.n 20 : Nat) M) else if m = 9 then jopen nm.data.toList (crashS a.left.L a.spoil.L M) else ((jwrite nm.data.toList most a.bl M).1, [], (jwrite nm.data.toList most a.bl M).2) by unfold doJ; rw [← hm])
  unfold jactV
  clear h ha hs h0 h9 hroom hmost hnm hm
  unfold SI.val at *
  by_cases q6 : m = 6
  · rw [if_pos q6] at HD
    subst q6
    go_enter Tryz.func11, Tryz.ntmps11
    go_wp2_with (fail)
    rw [← hbx, ← hx1]
    obtain ⟨c0, c1, c2, c3, c4⟩ := HC.out x1 (KeepR.refl _ _)
    clear hbx hx1
    refine (jpick_at _ _ 10 _ HOP.out (by omega) (by omega) rfl).mono ?_
    rintro e z ⟨rfl, rfl⟩
    rw [← HM.out]
    obtain ⟨s0, s1, s2, -, -, -⟩ := HX.out.cells
    go_wp2_with (fail)
    refine (lw_turn HX.out (Bel.refl _) hnz H9.out).mono ?_
    rintro e y ⟨rfl, h1, hk⟩
    have H1 := Lib.hid h1
    have HK1 := Lib.hid hk
    clear h1 hk
    go_wp2_with (fail)
    go_ret2
    rw [HD.out]
    exact ⟨_, _, [], jb, rfl, H1.out.less (fun k hk => by simp at hk; simp [hk]), HKR.out.trans (fun k hk' => HK1.out k (by simp [hk'])), row_nil _ _ _, fun k hk => by cases hk⟩
  rw [if_neg q6] at HD
  have q6z : ((m : Int) == 6) = false := by rw [beq_eq_false_iff_ne]; omega
  by_cases q7 : m = 7
  · rw [if_pos q7] at HD
    subst q7
    go_enter Tryz.func11, Tryz.ntmps11
    go_wp2_with (fail)
    rw [← hbx, ← hx1]
    obtain ⟨c0, c1, c2, c3, c4⟩ := HC.out x1 (KeepR.refl _ _)
    clear hbx hx1
    refine (jpick_at _ _ 10 _ HOP.out (by omega) (by omega) rfl).mono ?_
    rintro e z ⟨rfl, rfl⟩
    rw [← HM.out]
    obtain ⟨s0, s1, s2, -, -, -⟩ := HX.out.cells
    go_wp2_with (fail)
    refine wp_region_held_drew (S := fun z => z.cell? ⟨ws, 1, none⟩ = some (.pointer (some ⟨jb, 0, none⟩)) ∧ z.cell? ⟨bx, 1, none⟩ = some (.int .i64 a.n)) (by kernel_rfl) ⟨s1, c1⟩ (fun hHeld => ?_)
    refine tk (oi := { dst := some 21, op := Op.move (Operand.tmp 0), type := 25, pos := "law.go:116", after := #[], guard := none }) (v := ?_) 0 rfl ?_ ?_
    rotate_left
    · (intro w hSw; (try dsimp only at hSw); first | (go_simp; done) | (go_simp; with_reducible rfl))
    try simp only [Act.put, List.setIfInBounds_toArray, List.set_cons_zero, List.set_cons_succ]
    refine tk (oi := { dst := some 22, op := Op.nilCheck (Operand.tmp 21), type := 0, pos := "law.go:116", after := #[{ on := 0, ground := Ground.data }], guard := none }) (v := ?_) 1 rfl ?_ ?_
    rotate_left
    · (intro w hSw; (try dsimp only at hSw); first | (go_simp; done) | (go_simp; with_reducible rfl))
    try simp only [Act.put, List.setIfInBounds_toArray, List.set_cons_zero, List.set_cons_succ]
    refine tk (oi := { dst := some 23, op := Op.fieldAddr 58 (Operand.tmp 22) 1, type := 0, pos := "law.go:116", after := #[{ on := 1, ground := Ground.data }], guard := none }) (v := ?_) 2 rfl ?_ ?_
    rotate_left
    · (intro w hSw; (try dsimp only at hSw); first | (go_simp; done) | (go_simp; with_reducible rfl))
    try simp only [Act.put, List.setIfInBounds_toArray, List.set_cons_zero, List.set_cons_succ]
    refine tk (oi := { dst := some 24, op := Op.load 51 (Operand.tmp 23), type := 51, pos := "law.go:116", after := #[{ on := 2, ground := Ground.data }], guard := none }) (v := ?_) 3 rfl ?_ ?_
    rotate_left
    · (intro w hSw; (try dsimp only at hSw); first | (go_simp; done) | (go_simp; with_reducible rfl))
    try simp only [Act.put, List.setIfInBounds_toArray, List.set_cons_zero, List.set_cons_succ]
    refine tk (oi := { dst := some 25, op := Op.fieldAddr 37 (Operand.tmp 3) 1, type := 0, pos := "law.go:116", after := #[], guard := none }) (v := ?_) 4 rfl ?_ ?_
    rotate_left
    · (intro w hSw; (try dsimp only at hSw); first | (go_simp; done) | (go_simp; with_reducible rfl))
    try simp only [Act.put, List.setIfInBounds_toArray, List.set_cons_zero, List.set_cons_succ]
    refine tk (oi := { dst := some 26, op := Op.load 3 (Operand.tmp 25), type := 3, pos := "law.go:116", after := #[{ on := 4, ground := Ground.data }], guard := none }) (v := ?_) 5 rfl ?_ ?_
    rotate_left
    · (intro w hSw; (try dsimp only at hSw); first | (go_simp; done) | (go_simp; with_reducible rfl))
    try simp only [Act.put, List.setIfInBounds_toArray, List.set_cons_zero, List.set_cons_succ]
    refine wpAnyH_ready (rs := [6]) (by kernel_rfl) (by simp) ?_
    refine AllReadyH.cons (o := { dst := some 27, op := Op.call { callee := Callee.value (Operand.func 27), args := #[Operand.tmp 24, Operand.tmp 26], argTypes := #[51, 3] }, type := 31, pos := "law.go:116", after := #[{ on := 3, ground := Ground.data }, { on := 5, ground := Ground.data }], guard := none }) rfl (fun K hK => ?_) AllReadyH.nil
    go_simp
    refine (lw_trim HX.out (Bel.refl _).drew hnz a.n HA.out.n).mono ?_
    rintro e y ⟨rfl, h1, hk⟩
    obtain ⟨d0, d1, d2, d3, d4⟩ := HC.out _ hk
    obtain ⟨t0, t1, t2, -, -, -⟩ := h1.cells
    have H1 := Lib.hid h1
    have HK1 := Lib.hid hk
    clear h1 hk
    dsimp only
    refine hK.out _ _ ⟨t1, d1⟩ (fun hHeld => ?_)
    clear hK K
    try simp only [Act.put, List.setIfInBounds_toArray, List.set_cons_zero, List.set_cons_succ]
    refine tk (oi := { dst := some 4, op := Op.assign (Operand.const (Value.slice none 0 0)), type := 30, pos := "law.go:116", after := #[{ on := 6, ground := Ground.chain }, { on := 0, ground := Ground.textOnly Departure.lateStores }, { on := 1, ground := Ground.textOnly Departure.lateStores }, { on := 2, ground := Ground.textOnly Departure.lateStores }, { on := 3, ground := Ground.textOnly Departure.lateStores }, { on := 4, ground := Ground.textOnly Departure.lateStores }, { on := 5, ground := Ground.textOnly Departure.lateStores }, { on := 6, ground := Ground.textOnly Departure.lateStoresUnsure }], guard := none }) (v := ?_) 7 rfl ?_ ?_
    rotate_left
    · (intro w hSw; (try dsimp only at hSw); first | (go_simp; done) | (go_simp; with_reducible rfl))
    try simp only [Act.put, List.setIfInBounds_toArray, List.set_cons_zero, List.set_cons_succ]
    refine tk (oi := { dst := some 5, op := Op.assign (Operand.tmp 27), type := 31, pos := "law.go:116", after := #[{ on := 6, ground := Ground.data }, { on := 7, ground := Ground.chain }, { on := 0, ground := Ground.phase }, { on := 1, ground := Ground.phase }, { on := 2, ground := Ground.phase }, { on := 3, ground := Ground.phase }, { on := 4, ground := Ground.phase }, { on := 5, ground := Ground.phase }, { on := 6, ground := Ground.phase }, { on := 7, ground := Ground.phase }], guard := none }) (v := ?_) 8 rfl ?_ ?_
    rotate_left
    · (intro w hSw; (try dsimp only at hSw); first | (go_simp; done) | (go_simp; with_reducible rfl))
    try simp only [Act.put, List.setIfInBounds_toArray, List.set_cons_zero, List.set_cons_succ]
    refine wpAnyH_done (by kernel_rfl) ?_ _
    go_wp2_with (fail)
    go_ret2
    rw [HD.out]
    exact ⟨_, _, [], jb, rfl, H1.out.less (fun k hk => by simp at hk; simp [hk]), HKR.out.trans (fun k hk' => HK1.out k (by simp [hk'])), row_nil _ _ _, fun k hk => by cases hk⟩
  rw [if_neg q7] at HD
  have q7z : ((m : Int) == 7) = false := by rw [beq_eq_false_iff_ne]; omega
  by_cases q8 : m = 8
  · rw [if_pos q8] at HD
    subst q8
    go_enter Tryz.func11, Tryz.ntmps11
    go_wp2_with (fail)
    rw [← hbx, ← hx1]
    obtain ⟨c0, c1, c2, c3, c4⟩ := HC.out x1 (KeepR.refl _ _)
    clear hbx hx1
    refine (jpick_at _ _ 10 _ HOP.out (by omega) (by omega) rfl).mono ?_
    rintro e z ⟨rfl, rfl⟩
    rw [← HM.out]
    obtain ⟨s0, s1, s2, -, -, -⟩ := HX.out.cells
    go_wp2_with (fail)
    refine wp_region_held_drew (S := fun z => z.cell? ⟨ws, 0, none⟩ = some (.pointer (some ⟨b, 0, none⟩)) ∧ z.cell? ⟨bx, 1, none⟩ = some (.int .i64 a.n)) (by kernel_rfl) ⟨s0, c1⟩ (fun hHeld => ?_)
    refine tk (oi := { dst := some 30, op := Op.move (Operand.tmp 0), type := 25, pos := "law.go:118", after := #[], guard := none }) (v := ?_) 0 rfl ?_ ?_
    rotate_left
    · (intro w hSw; (try dsimp only at hSw); first | (go_simp; done) | (go_simp; with_reducible rfl))
    try simp only [Act.put, List.setIfInBounds_toArray, List.set_cons_zero, List.set_cons_succ]
    refine tk (oi := { dst := some 31, op := Op.nilCheck (Operand.tmp 30), type := 0, pos := "law.go:118", after := #[{ on := 0, ground := Ground.data }], guard := none }) (v := ?_) 1 rfl ?_ ?_
    rotate_left
    · (intro w hSw; (try dsimp only at hSw); first | (go_simp; done) | (go_simp; with_reducible rfl))
    try simp only [Act.put, List.setIfInBounds_toArray, List.set_cons_zero, List.set_cons_succ]
    refine tk (oi := { dst := some 32, op := Op.fieldAddr 58 (Operand.tmp 31) 0, type := 0, pos := "law.go:118", after := #[{ on := 1, ground := Ground.data }], guard := none }) (v := ?_) 2 rfl ?_ ?_
    rotate_left
    · (intro w hSw; (try dsimp only at hSw); first | (go_simp; done) | (go_simp; with_reducible rfl))
    try simp only [Act.put, List.setIfInBounds_toArray, List.set_cons_zero, List.set_cons_succ]
    refine tk (oi := { dst := some 33, op := Op.load 42 (Operand.tmp 32), type := 42, pos := "law.go:118", after := #[{ on := 2, ground := Ground.data }], guard := none }) (v := ?_) 3 rfl ?_ ?_
    rotate_left
    · (intro w hSw; (try dsimp only at hSw); first | (go_simp; done) | (go_simp; with_reducible rfl))
    try simp only [Act.put, List.setIfInBounds_toArray, List.set_cons_zero, List.set_cons_succ]
    refine tk (oi := { dst := some 34, op := Op.fieldAddr 37 (Operand.tmp 3) 1, type := 0, pos := "law.go:118", after := #[], guard := none }) (v := ?_) 4 rfl ?_ ?_
    rotate_left
    · (intro w hSw; (try dsimp only at hSw); first | (go_simp; done) | (go_simp; with_reducible rfl))
    try simp only [Act.put, List.setIfInBounds_toArray, List.set_cons_zero, List.set_cons_succ]
    refine tk (oi := { dst := some 35, op := Op.load 3 (Operand.tmp 34), type := 3, pos := "law.go:118", after := #[{ on := 4, ground := Ground.data }], guard := none }) (v := ?_) 5 rfl ?_ ?_
    rotate_left
    · (intro w hSw; (try dsimp only at hSw); first | (go_simp; done) | (go_simp; with_reducible rfl))
    try simp only [Act.put, List.setIfInBounds_toArray, List.set_cons_zero, List.set_cons_succ]
    refine wpAnyH_ready (rs := [6]) (by kernel_rfl) (by simp) ?_
    refine AllReadyH.cons (o := { dst := some 36, op := Op.call { callee := Callee.value (Operand.func 10), args := #[Operand.tmp 35, Operand.const (Value.int IntKind.i64 20)], argTypes := #[3, 3] }, type := 3, pos := "law.go:118", after := #[{ on := 5, ground := Ground.data }], guard := none }) rfl (fun K hK => ?_) AllReadyH.nil
    go_simp
    refine (jpick_at _ _ 20 _ HA.out.n (by omega) (by omega) rfl).mono ?_
    rintro e z ⟨rfl, rfl⟩
    dsimp only
    refine hK.out _ _ ⟨hHeld.1, hHeld.2⟩ (fun hHeld => ?_)
    clear hK K
    try simp only [Act.put, List.setIfInBounds_toArray, List.set_cons_zero, List.set_cons_succ]
    refine wpAnyH_ready (rs := [7]) (by kernel_rfl) (by simp) ?_
    refine AllReadyH.cons (o := { dst := some 37, op := Op.call { callee := Callee.value (Operand.func 21), args := #[Operand.tmp 33, Operand.tmp 36], argTypes := #[42, 3] }, type := 0, pos := "law.go:118", after := #[{ on := 3, ground := Ground.data }, { on := 6, ground := Ground.data }, { on := 6, ground := Ground.chain }], guard := none }) rfl (fun K hK => ?_) AllReadyH.nil
    go_simp
    refine (lw_limit HX.out (Bel.refl _).drew _ (jpick_ok a.n 20 z HA.out.n (by omega) (by omega))).mono ?_
    rintro e y ⟨⟨u, rfl⟩, h1, hk⟩
    obtain ⟨d0, d1, d2, d3, d4⟩ := HC.out _ hk
    obtain ⟨t0, t1, t2, -, -, -⟩ := h1.cells
    have H1 := Lib.hid h1
    have HK1 := Lib.hid hk
    clear h1 hk
    dsimp only
    refine hK.out _ _ ⟨t0, d1⟩ (fun hHeld => ?_)
    clear hK K
    try simp only [Act.put, List.setIfInBounds_toArray, List.set_cons_zero, List.set_cons_succ]
    refine wpAnyH_done (by kernel_rfl) ?_ _
    go_wp2_with (fail)
    go_ret2
    rw [HD.out]
    exact ⟨_, _, [], jb, rfl, H1.out.less (fun k hk => by simp at hk; simp [hk]), HKR.out.trans (fun k hk' => HK1.out k (by simp [hk'])), row_nil _ _ _, fun k hk => by cases hk⟩
  rw [if_neg q8] at HD
  have q8z : ((m : Int) == 8) = false := by rw [beq_eq_false_iff_ne]; omega
  by_cases q9 : m = 9
  · rw [if_pos q9] at HD
    subst q9
    obtain ⟨err, L, M1, hjo⟩ : ∃ err L M1, jopen logB.data.toList (crashS a.left.L a.spoil.L M) = (err, L, M1) := ⟨_, _, _, rfl⟩
    have HJO := Lib.hid hjo
    have HD2 := Lib.hid (show doJ nm.data.toList most a M = (err, L, M1) from HD.out.trans (by rw [HNM.out]; exact hjo))
    clear hjo
    go_enter Tryz.func11, Tryz.ntmps11
    go_wp2_with (fail)
    rw [← hbx, ← hx1]
    obtain ⟨c0, c1, c2, c3, c4⟩ := HC.out x1 (KeepR.refl _ _)
    clear hbx hx1
    refine (jpick_at _ _ 10 _ HOP.out (by omega) (by omega) rfl).mono ?_
    rintro e z ⟨rfl, rfl⟩
    rw [← HM.out]
    obtain ⟨s0, s1, s2, -, -, -⟩ := HX.out.cells
    go_wp2_with (fail)
    refine wp_region_held_drew (S := fun z => z.cell? ⟨ws, 0, none⟩ = some (.pointer (some ⟨b, 0, none⟩)) ∧ z.cell? ⟨bx, 3, none⟩ = some (.slice a.left.p a.left.L.length a.left.cap) ∧ z.cell? ⟨bx, 4, none⟩ = some (.slice a.spoil.p a.spoil.L.length a.spoil.cap)) (by kernel_rfl) ⟨s0, c3, c4⟩ (fun hHeld => ?_)
    refine tk (oi := { dst := some 40, op := Op.move (Operand.tmp 0), type := 25, pos := "law.go:121", after := #[], guard := none }) (v := ?_) 0 rfl ?_ ?_
    rotate_left
    · (intro w hSw; (try dsimp only at hSw); first | (go_simp; done) | (go_simp; with_reducible rfl))
    try simp only [Act.put, List.setIfInBounds_toArray, List.set_cons_zero, List.set_cons_succ]
    refine tk (oi := { dst := some 41, op := Op.nilCheck (Operand.tmp 40), type := 0, pos := "law.go:121", after := #[{ on := 0, ground := Ground.data }], guard := none }) (v := ?_) 1 rfl ?_ ?_
    rotate_left
    · (intro w hSw; (try dsimp only at hSw); first | (go_simp; done) | (go_simp; with_reducible rfl))
    try simp only [Act.put, List.setIfInBounds_toArray, List.set_cons_zero, List.set_cons_succ]
    refine tk (oi := { dst := some 42, op := Op.fieldAddr 58 (Operand.tmp 41) 0, type := 0, pos := "law.go:121", after := #[{ on := 1, ground := Ground.data }], guard := none }) (v := ?_) 2 rfl ?_ ?_
    rotate_left
    · (intro w hSw; (try dsimp only at hSw); first | (go_simp; done) | (go_simp; with_reducible rfl))
    try simp only [Act.put, List.setIfInBounds_toArray, List.set_cons_zero, List.set_cons_succ]
    refine tk (oi := { dst := some 43, op := Op.load 42 (Operand.tmp 42), type := 42, pos := "law.go:121", after := #[{ on := 2, ground := Ground.data }], guard := none }) (v := ?_) 3 rfl ?_ ?_
    rotate_left
    · (intro w hSw; (try dsimp only at hSw); first | (go_simp; done) | (go_simp; with_reducible rfl))
    try simp only [Act.put, List.setIfInBounds_toArray, List.set_cons_zero, List.set_cons_succ]
    refine tk (oi := { dst := some 44, op := Op.fieldAddr 37 (Operand.tmp 3) 3, type := 0, pos := "law.go:121", after := #[], guard := none }) (v := ?_) 4 rfl ?_ ?_
    rotate_left
    · (intro w hSw; (try dsimp only at hSw); first | (go_simp; done) | (go_simp; with_reducible rfl))
    try simp only [Act.put, List.setIfInBounds_toArray, List.set_cons_zero, List.set_cons_succ]
    refine tk (oi := { dst := some 45, op := Op.load 35 (Operand.tmp 44), type := 35, pos := "law.go:121", after := #[{ on := 4, ground := Ground.data }], guard := none }) (v := ?_) 5 rfl ?_ ?_
    rotate_left
    · (intro w hSw; (try dsimp only at hSw); first | (go_simp; done) | (go_simp; with_reducible rfl))
    try simp only [Act.put, List.setIfInBounds_toArray, List.set_cons_zero, List.set_cons_succ]
    refine tk (oi := { dst := some 46, op := Op.fieldAddr 37 (Operand.tmp 3) 4, type := 0, pos := "law.go:121", after := #[], guard := none }) (v := ?_) 6 rfl ?_ ?_
    rotate_left
    · (intro w hSw; (try dsimp only at hSw); first | (go_simp; done) | (go_simp; with_reducible rfl))
    try simp only [Act.put, List.setIfInBounds_toArray, List.set_cons_zero, List.set_cons_succ]
    refine tk (oi := { dst := some 47, op := Op.load 35 (Operand.tmp 46), type := 35, pos := "law.go:121", after := #[{ on := 6, ground := Ground.data }], guard := none }) (v := ?_) 7 rfl ?_ ?_
    rotate_left
    · (intro w hSw; (try dsimp only at hSw); first | (go_simp; done) | (go_simp; with_reducible rfl))
    try simp only [Act.put, List.setIfInBounds_toArray, List.set_cons_zero, List.set_cons_succ]
    refine wpAnyH_ready (rs := [8]) (by kernel_rfl) (by simp) ?_
    refine AllReadyH.cons (o := { dst := some 48, op := Op.call { callee := Callee.value (Operand.func 24), args := #[Operand.tmp 43, Operand.tmp 45, Operand.tmp 47], argTypes := #[42, 35, 35] }, type := 0, pos := "law.go:121", after := #[{ on := 3, ground := Ground.data }, { on := 5, ground := Ground.data }, { on := 7, ground := Ground.data }], guard := none }) rfl (fun K hK => ?_) AllReadyH.nil
    go_simp
    refine (lw_crash HX.out (Bel.refl _).drew a.left a.spoil HA.out.left HA.out.spoil).mono ?_
    rintro e y ⟨⟨u, rfl⟩, h1, hk⟩
    obtain ⟨d0, d1, d2, d3, d4⟩ := HC.out _ hk
    obtain ⟨t0, t1, t2, -, -, -⟩ := h1.cells
    have H1 := Lib.hid h1
    have HK1 := Lib.hid hk
    clear h1 hk
    dsimp only
    refine hK.out _ _ ⟨t0, d3, d4⟩ (fun hHeld => ?_)
    clear hK K
    try simp only [Act.put, List.setIfInBounds_toArray, List.set_cons_zero, List.set_cons_succ]
    refine wpAnyH_done (by kernel_rfl) ?_ _
    clear s0 s1 s2 c0 c1 c2 c3 c4 d0 d1 d2 d3 d4
    go_wp2_with (fail)
    refine wp_region_held_drew (S := fun z => z.cell? ⟨ws, 0, none⟩ = some (.pointer (some ⟨b, 0, none⟩)) ∧ z.cell? ⟨ws, 2, none⟩ = some (.int .i64 most)) (by kernel_rfl) ⟨t0, t2⟩ (fun hHeld => ?_)
    refine tk (oi := { dst := some 50, op := Op.move (Operand.tmp 0), type := 25, pos := "law.go:122", after := #[], guard := none }) (v := ?_) 0 rfl ?_ ?_
    rotate_left
    · (intro w hSw; (try dsimp only at hSw); first | (go_simp; done) | (go_simp; with_reducible rfl))
    try simp only [Act.put, List.setIfInBounds_toArray, List.set_cons_zero, List.set_cons_succ]
    refine tk (oi := { dst := some 51, op := Op.nilCheck (Operand.tmp 50), type := 0, pos := "law.go:122", after := #[{ on := 0, ground := Ground.data }], guard := none }) (v := ?_) 1 rfl ?_ ?_
    rotate_left
    · (intro w hSw; (try dsimp only at hSw); first | (go_simp; done) | (go_simp; with_reducible rfl))
    try simp only [Act.put, List.setIfInBounds_toArray, List.set_cons_zero, List.set_cons_succ]
    refine tk (oi := { dst := some 52, op := Op.fieldAddr 58 (Operand.tmp 51) 0, type := 0, pos := "law.go:122", after := #[{ on := 1, ground := Ground.data }], guard := none }) (v := ?_) 2 rfl ?_ ?_
    rotate_left
    · (intro w hSw; (try dsimp only at hSw); first | (go_simp; done) | (go_simp; with_reducible rfl))
    try simp only [Act.put, List.setIfInBounds_toArray, List.set_cons_zero, List.set_cons_succ]
    refine tk (oi := { dst := some 53, op := Op.load 42 (Operand.tmp 52), type := 42, pos := "law.go:122", after := #[{ on := 2, ground := Ground.data }], guard := none }) (v := ?_) 3 rfl ?_ ?_
    rotate_left
    · (intro w hSw; (try dsimp only at hSw); first | (go_simp; done) | (go_simp; with_reducible rfl))
    try simp only [Act.put, List.setIfInBounds_toArray, List.set_cons_zero, List.set_cons_succ]
    refine tk (oi := { dst := some 54, op := Op.move (Operand.tmp 0), type := 25, pos := "law.go:122", after := #[], guard := none }) (v := ?_) 4 rfl ?_ ?_
    rotate_left
    · (intro w hSw; (try dsimp only at hSw); first | (go_simp; done) | (go_simp; with_reducible rfl))
    try simp only [Act.put, List.setIfInBounds_toArray, List.set_cons_zero, List.set_cons_succ]
    refine tk (oi := { dst := some 55, op := Op.nilCheck (Operand.tmp 54), type := 0, pos := "law.go:122", after := #[{ on := 4, ground := Ground.data }], guard := none }) (v := ?_) 5 rfl ?_ ?_
    rotate_left
    · (intro w hSw; (try dsimp only at hSw); first | (go_simp; done) | (go_simp; with_reducible rfl))
    try simp only [Act.put, List.setIfInBounds_toArray, List.set_cons_zero, List.set_cons_succ]
    refine tk (oi := { dst := some 56, op := Op.fieldAddr 58 (Operand.tmp 55) 2, type := 0, pos := "law.go:122", after := #[{ on := 5, ground := Ground.data }], guard := none }) (v := ?_) 6 rfl ?_ ?_
    rotate_left
    · (intro w hSw; (try dsimp only at hSw); first | (go_simp; done) | (go_simp; with_reducible rfl))
    try simp only [Act.put, List.setIfInBounds_toArray, List.set_cons_zero, List.set_cons_succ]
    refine tk (oi := { dst := some 57, op := Op.load 3 (Operand.tmp 56), type := 3, pos := "law.go:122", after := #[{ on := 6, ground := Ground.data }], guard := none }) (v := ?_) 7 rfl ?_ ?_
    rotate_left
    · (intro w hSw; (try dsimp only at hSw); first | (go_simp; done) | (go_simp; with_reducible rfl))
    try simp only [Act.put, List.setIfInBounds_toArray, List.set_cons_zero, List.set_cons_succ]
    refine wpAnyH_ready (rs := [8]) (by kernel_rfl) (by simp) ?_
    refine AllReadyH.cons (o := { dst := some 58, op := Op.call { callee := Callee.value (Operand.func 19), args := #[Operand.tmp 53, Operand.const (Value.string { data := #[108, 111, 103] }), Operand.tmp 57], argTypes := #[42, 9, 3] }, type := 52, pos := "law.go:122", after := #[{ on := 3, ground := Ground.data }, { on := 7, ground := Ground.data }], guard := none }) rfl (fun K hK => ?_) AllReadyH.nil
    go_simp
    refine (tw_open H1.out.tw H1.out.std (Bel.refl _).drew logB most (by decide) (show (crashS a.left.L a.spoil.L M).room ≤ 1000000 from HRM.out) HJO.out).mono ?_
    rintro e y2 ⟨jv, p, cap, S, rfl, h2, hk2, hrow, hS, hj, hje⟩
    have H2 := Lib.hid h2
    have HK2 := Lib.hid hk2
    have HRW := Lib.hid hrow
    have HSN := Lib.hid (show ∀ k ∈ S, x.heap.size ≤ k from fun k hk => by have h1 := hS k hk; have h2 := HXB.out; have h3 := H1.out.tw.lt bx (by simp); omega)
    have HSY := Lib.hid hS
    have hw := (hk2 ws (by simp)).trans H1.out.sw
    have w0 := cell_at (i := 0) hw
    have w1 := cell_at (i := 1) hw
    have w2 := cell_at (i := 2) hw
    simp at w0 w1 w2
    have wf : y2.frozen? ⟨ws, 1, none⟩ = false := by simp [World.frozen?, hw]
    have HWS := Lib.hid hw
    dsimp only
    refine hK.out _ _ ⟨w0, w2⟩ (fun hHeld => ?_)
    clear hK K
    try simp only [Act.put, List.setIfInBounds_toArray, List.set_cons_zero, List.set_cons_succ]
    refine tk (oi := { dst := some 49, op := Op.move (Operand.tmp 58), type := 52, pos := "law.go:122", after := #[{ on := 8, ground := Ground.data }], guard := none }) (v := ?_) 9 rfl ?_ ?_
    rotate_left
    · (intro w hSw; (try dsimp only at hSw); first | (go_simp; done) | (go_simp; with_reducible rfl))
    try simp only [Act.put, List.setIfInBounds_toArray, List.set_cons_zero, List.set_cons_succ]
    refine tk (oi := { dst := some 59, op := Op.extract (Operand.tmp 49) 0, type := 51, pos := "law.go:122", after := #[{ on := 9, ground := Ground.data }], guard := none }) (v := ?_) 10 rfl ?_ ?_
    rotate_left
    · (intro w hSw; (try dsimp only at hSw); first | (go_simp; done) | (go_simp; with_reducible rfl))
    try simp only [Act.put, List.setIfInBounds_toArray, List.set_cons_zero, List.set_cons_succ]
    refine tk (oi := { dst := some 60, op := Op.extract (Operand.tmp 49) 1, type := 30, pos := "law.go:122", after := #[{ on := 9, ground := Ground.data }, { on := 13, ground := Ground.gcOnly Departure.lateStores }], guard := none }) (v := ?_) 11 rfl ?_ ?_
    rotate_left
    · (intro w hSw; (try dsimp only at hSw); first | (go_simp; done) | (go_simp; with_reducible rfl))
    try simp only [Act.put, List.setIfInBounds_toArray, List.set_cons_zero, List.set_cons_succ]
    refine tk (oi := { dst := some 61, op := Op.extract (Operand.tmp 49) 2, type := 31, pos := "law.go:122", after := #[{ on := 9, ground := Ground.data }, { on := 14, ground := Ground.gcOnly Departure.lateStores }], guard := none }) (v := ?_) 12 rfl ?_ ?_
    rotate_left
    · (intro w hSw; (try dsimp only at hSw); first | (go_simp; done) | (go_simp; with_reducible rfl))
    try simp only [Act.put, List.setIfInBounds_toArray, List.set_cons_zero, List.set_cons_succ]
    refine tk (oi := { dst := some 6, op := Op.assign (Operand.tmp 59), type := 51, pos := "law.go:122", after := #[{ on := 10, ground := Ground.data }, { on := 8, ground := Ground.chain }, { on := 0, ground := Ground.phase }, { on := 1, ground := Ground.phase }, { on := 2, ground := Ground.phase }, { on := 3, ground := Ground.phase }, { on := 4, ground := Ground.phase }, { on := 5, ground := Ground.phase }, { on := 6, ground := Ground.phase }, { on := 7, ground := Ground.phase }, { on := 8, ground := Ground.phase }, { on := 9, ground := Ground.phase }, { on := 10, ground := Ground.phase }, { on := 11, ground := Ground.textOnly Departure.lateStores }, { on := 12, ground := Ground.textOnly Departure.lateStores }], guard := none }) (v := ?_) 13 rfl ?_ ?_
    rotate_left
    · (intro w hSw; (try dsimp only at hSw); first | (go_simp; done) | (go_simp; with_reducible rfl))
    try simp only [Act.put, List.setIfInBounds_toArray, List.set_cons_zero, List.set_cons_succ]
    refine tk (oi := { dst := some 7, op := Op.assign (Operand.tmp 60), type := 30, pos := "law.go:122", after := #[{ on := 11, ground := Ground.data }, { on := 13, ground := Ground.chain }, { on := 0, ground := Ground.phase }, { on := 1, ground := Ground.phase }, { on := 2, ground := Ground.phase }, { on := 3, ground := Ground.phase }, { on := 4, ground := Ground.phase }, { on := 5, ground := Ground.phase }, { on := 6, ground := Ground.phase }, { on := 7, ground := Ground.phase }, { on := 8, ground := Ground.phase }, { on := 9, ground := Ground.phase }, { on := 10, ground := Ground.phase }, { on := 11, ground := Ground.phase }, { on := 12, ground := Ground.textOnly Departure.lateStores }, { on := 13, ground := Ground.phase }], guard := none }) (v := ?_) 14 rfl ?_ ?_
    rotate_left
    · (intro w hSw; (try dsimp only at hSw); first | (go_simp; done) | (go_simp; with_reducible rfl))
    try simp only [Act.put, List.setIfInBounds_toArray, List.set_cons_zero, List.set_cons_succ]
    refine tk (oi := { dst := some 8, op := Op.assign (Operand.tmp 61), type := 31, pos := "law.go:122", after := #[{ on := 12, ground := Ground.data }, { on := 14, ground := Ground.chain }, { on := 0, ground := Ground.phase }, { on := 1, ground := Ground.phase }, { on := 2, ground := Ground.phase }, { on := 3, ground := Ground.phase }, { on := 4, ground := Ground.phase }, { on := 5, ground := Ground.phase }, { on := 6, ground := Ground.phase }, { on := 7, ground := Ground.phase }, { on := 8, ground := Ground.phase }, { on := 9, ground := Ground.phase }, { on := 10, ground := Ground.phase }, { on := 11, ground := Ground.phase }, { on := 12, ground := Ground.phase }, { on := 13, ground := Ground.phase }, { on := 14, ground := Ground.phase }], guard := none }) (v := ?_) 15 rfl ?_ ?_
    rotate_left
    · (intro w hSw; (try dsimp only at hSw); first | (go_simp; done) | (go_simp; with_reducible rfl))
    try simp only [Act.put, List.setIfInBounds_toArray, List.set_cons_zero, List.set_cons_succ]
    refine wpAnyH_done (by kernel_rfl) ?_ _
    have HLD := Lib.hid (H2.out.less (R' := ws :: ms :: jb :: rb :: (S ++ (bx :: R))) (fun k hk => by simp only [List.mem_cons, List.mem_append] at hk ⊢; rcases hk with h | h | h | h | h | h | h <;> simp [h]))
    by_cases he : err = 0
    · subst he
      obtain ⟨jn, rfl, hja, hjs⟩ := hj rfl
      have HJA := Lib.hid hja
      have HJS := Lib.hid hjs
      clear h2 hk2 hrow hS hj hje hja hjs hw t0 t1 t2
      go_wp2_with (fail)
      go_ret2
      rw [HD2.out]
      have hap := H1.out.apart
      have hnw := H1.out.new
      have hlt := H1.out.tw.lt
      have hjn := HSY.out jn HJS.out
      have hws := hlt ws (by simp)
      have hms := hlt ms (by simp)
      have hjb := hlt jb (by simp)
      have hrb := hlt rb (by simp)
      have hst := HLD.out.other (K := [ws]) (keep_set y2 ws 1 (.pointer (some ⟨jn, 0, none⟩))) (fun k hk => by rw [List.mem_singleton] at hk; subst hk; exact ⟨by omega, by simp⟩)
      have hjK : ∀ k, k ≠ ws → k ∉ [ws] := fun k hk => by simpa using hk
      refine ⟨p, cap, S, jn, rfl, ⟨hst.1.less (fun k hk => ?_), ?_, ?_, ?_, ?_, hnw, ?_, H1.out.std⟩, ?_, ?_, HSN.out⟩
      · have hs1 : jn ∈ S := HJS.out
        simp only [List.mem_cons, List.mem_append] at hk ⊢
        rcases hk with h | h | h | h | h | h
        all_goals first
          | (subst h; simp [hs1])
          | simp [h]
      · rw [HNM.out]; exact HJA.out.keep (hst.2 jn (by simp [HJS.out]) (hjK _ (by omega)))
      · exact H1.out.rj.keep ((hst.2 rb (by simp) (hjK _ (by omega))).trans (HK2.out rb (by simp)))
      · exact blk_set HWS.out 1 _
      · exact ((hst.2 ms (by simp) (hjK _ (by omega))).trans (HK2.out ms (by simp))).trans H1.out.sm
      · omega
      · exact fun k hk => (hst.2 k (by simp [hk]) (hjK k (fun e => by have h1 := HKR.out k hk; subst e; exact absurd rfl (HNR.out k hk)))).trans ((HK2.out k (by simp [hk])).trans ((HK1.out k (by simp [hk])).trans (HKR.out k hk)))
      · exact HRW.out.keep (fun k hk => hst.2 k (by simp [hk]) (hjK k (by have := HSY.out k hk; omega)))
    · obtain rfl := hje he
      clear h2 hk2 hrow hS hj hje hw t0 t1 t2
      go_wp2_with (fail)
      go_ret2
      rw [HD2.out]
      exact ⟨p, cap, S, jb, rfl, H1.out.to (HLD.out.less (fun k hk => by simp only [List.mem_cons, List.mem_append] at hk ⊢; rcases hk with h | h | h | h | h | h <;> simp [h])) HK2.out, fun k hk => (HK2.out k (by simp [hk])).trans ((HK1.out k (by simp [hk])).trans (HKR.out k hk)), HRW.out, HSN.out⟩
  rw [if_neg q9] at HD
  have q9z : ((m : Int) == 9) = false := by rw [beq_eq_false_iff_ne]; omega
  go_enter Tryz.func11, Tryz.ntmps11
  go_wp2_with (fail)
  rw [← hbx, ← hx1]
  obtain ⟨c0, c1, c2, c3, c4⟩ := HC.out x1 (KeepR.refl _ _)
  clear hbx hx1
  refine (jpick_at _ _ 10 _ HOP.out (by omega) (by omega) rfl).mono ?_
  rintro e z ⟨rfl, rfl⟩
  rw [← HM.out]
  obtain ⟨s0, s1, s2, -, -, -⟩ := HX.out.cells
  go_wp2_with (fail)
  refine wp_region_held_drew (S := fun z => z.cell? ⟨ws, 1, none⟩ = some (.pointer (some ⟨jb, 0, none⟩)) ∧ z.cell? ⟨bx, 2, none⟩ = some (.slice a.bp a.bl.length a.bc)) (by kernel_rfl) ⟨s1, c2⟩ (fun hHeld => ?_)
  refine tk (oi := { dst := some 70, op := Op.move (Operand.tmp 0), type := 25, pos := "law.go:128", after := #[], guard := none }) (v := ?_) 0 rfl ?_ ?_
  rotate_left
  · (intro w hSw; (try dsimp only at hSw); first | (go_simp; done) | (go_simp; with_reducible rfl))
  try simp only [Act.put, List.setIfInBounds_toArray, List.set_cons_zero, List.set_cons_succ]
  refine tk (oi := { dst := some 71, op := Op.nilCheck (Operand.tmp 70), type := 0, pos := "law.go:128", after := #[{ on := 0, ground := Ground.data }], guard := none }) (v := ?_) 1 rfl ?_ ?_
  rotate_left
  · (intro w hSw; (try dsimp only at hSw); first | (go_simp; done) | (go_simp; with_reducible rfl))
  try simp only [Act.put, List.setIfInBounds_toArray, List.set_cons_zero, List.set_cons_succ]
  refine tk (oi := { dst := some 72, op := Op.fieldAddr 58 (Operand.tmp 71) 1, type := 0, pos := "law.go:128", after := #[{ on := 1, ground := Ground.data }], guard := none }) (v := ?_) 2 rfl ?_ ?_
  rotate_left
  · (intro w hSw; (try dsimp only at hSw); first | (go_simp; done) | (go_simp; with_reducible rfl))
  try simp only [Act.put, List.setIfInBounds_toArray, List.set_cons_zero, List.set_cons_succ]
  refine tk (oi := { dst := some 73, op := Op.load 51 (Operand.tmp 72), type := 51, pos := "law.go:128", after := #[{ on := 2, ground := Ground.data }], guard := none }) (v := ?_) 3 rfl ?_ ?_
  rotate_left
  · (intro w hSw; (try dsimp only at hSw); first | (go_simp; done) | (go_simp; with_reducible rfl))
  try simp only [Act.put, List.setIfInBounds_toArray, List.set_cons_zero, List.set_cons_succ]
  refine tk (oi := { dst := some 74, op := Op.fieldAddr 37 (Operand.tmp 3) 2, type := 0, pos := "law.go:128", after := #[], guard := none }) (v := ?_) 4 rfl ?_ ?_
  rotate_left
  · (intro w hSw; (try dsimp only at hSw); first | (go_simp; done) | (go_simp; with_reducible rfl))
  try simp only [Act.put, List.setIfInBounds_toArray, List.set_cons_zero, List.set_cons_succ]
  refine tk (oi := { dst := some 75, op := Op.load 34 (Operand.tmp 74), type := 34, pos := "law.go:128", after := #[{ on := 4, ground := Ground.data }], guard := none }) (v := ?_) 5 rfl ?_ ?_
  rotate_left
  · (intro w hSw; (try dsimp only at hSw); first | (go_simp; done) | (go_simp; with_reducible rfl))
  try simp only [Act.put, List.setIfInBounds_toArray, List.set_cons_zero, List.set_cons_succ]
  refine wpAnyH_ready (rs := [6]) (by kernel_rfl) (by simp) ?_
  refine AllReadyH.cons (o := { dst := some 76, op := Op.call { callee := Callee.value (Operand.func 23), args := #[Operand.tmp 73, Operand.tmp 75], argTypes := #[51, 34] }, type := 31, pos := "law.go:128", after := #[{ on := 3, ground := Ground.data }, { on := 5, ground := Ground.data }], guard := none }) rfl (fun K hK => ?_) AllReadyH.nil
  go_simp
  refine (lw_write HX.out (Bel.refl _).drew hnz a.bp a.bc a.bl H0.out H9.out HMO.out HA.out.at_ HA.out.len HST.out).mono ?_
  rintro e y ⟨rfl, h1, hk⟩
  obtain ⟨d0, d1, d2, d3, d4⟩ := HC.out _ hk
  obtain ⟨t0, t1, t2, -, -, -⟩ := h1.cells
  have H1 := Lib.hid h1
  have HK1 := Lib.hid hk
  clear h1 hk
  dsimp only
  refine hK.out _ _ ⟨t1, d2⟩ (fun hHeld => ?_)
  clear hK K
  try simp only [Act.put, List.setIfInBounds_toArray, List.set_cons_zero, List.set_cons_succ]
  refine tk (oi := { dst := some 4, op := Op.assign (Operand.const (Value.slice none 0 0)), type := 30, pos := "law.go:128", after := #[{ on := 6, ground := Ground.chain }, { on := 0, ground := Ground.textOnly Departure.lateStores }, { on := 1, ground := Ground.textOnly Departure.lateStores }, { on := 2, ground := Ground.textOnly Departure.lateStores }, { on := 3, ground := Ground.textOnly Departure.lateStores }, { on := 4, ground := Ground.textOnly Departure.lateStores }, { on := 5, ground := Ground.textOnly Departure.lateStores }, { on := 6, ground := Ground.textOnly Departure.lateStoresUnsure }], guard := none }) (v := ?_) 7 rfl ?_ ?_
  rotate_left
  · (intro w hSw; (try dsimp only at hSw); first | (go_simp; done) | (go_simp; with_reducible rfl))
  try simp only [Act.put, List.setIfInBounds_toArray, List.set_cons_zero, List.set_cons_succ]
  refine tk (oi := { dst := some 5, op := Op.assign (Operand.tmp 76), type := 31, pos := "law.go:128", after := #[{ on := 6, ground := Ground.data }, { on := 7, ground := Ground.chain }, { on := 0, ground := Ground.phase }, { on := 1, ground := Ground.phase }, { on := 2, ground := Ground.phase }, { on := 3, ground := Ground.phase }, { on := 4, ground := Ground.phase }, { on := 5, ground := Ground.phase }, { on := 6, ground := Ground.phase }, { on := 7, ground := Ground.phase }], guard := none }) (v := ?_) 8 rfl ?_ ?_
  rotate_left
  · (intro w hSw; (try dsimp only at hSw); first | (go_simp; done) | (go_simp; with_reducible rfl))
  try simp only [Act.put, List.setIfInBounds_toArray, List.set_cons_zero, List.set_cons_succ]
  refine wpAnyH_done (by kernel_rfl) ?_ _
  go_wp2_with (fail)
  go_ret2
  rw [HD.out]
  exact ⟨_, _, [], jb, rfl, H1.out.less (fun k hk => by simp at hk; simp [hk]), HKR.out.trans (fun k hk' => HK1.out k (by simp [hk'])), row_nil _ _ _, fun k hk => by cases hk⟩
end Go.Proofs.YtlmlcnbgdaiaeaaGreatDoor
/- moultlaw7's Model.does. -/
namespace Go.Proofs.YtlmlcnbgdaiaeaaGreatDoor
open Go.RowKit Go.Deep Go.Maps

set_option maxHeartbeats 8000000 in
set_option maxRecDepth 20000 in
theorem jmodel_any (w x : World) (ws ms b r jb rb : Nat) (M M' : RS) (nm : ByteArray) (most : Int) (R : List Nat) (a : JV) (hR : ws ∉ R ∧ ms ∉ R) (h : LW w x ws ms b r jb rb M M' nm most R) (hnm : nm = logB) (hmost : in64 most) (ha : JV.ok w a) (hs : JV.small a = true)
    (h0 : lastN nm.data.toList M'.L ≠ 0) (h9 : lastN nm.data.toList M'.L < 9999999) (hroom : M'.room ≤ 1000000) :
    Calls Tryz.prog 12 #[.pointer (some ⟨ms, 0, none⟩), jactV a] x fun e y => ∃ p cap S rb', e = .returned (.tuple #[.slice p (doJ nm.data.toList most a M').2.1.length cap, .int .i64 (doJ nm.data.toList most a M').1]) ∧ LW w y ws ms b r jb rb' M (doJ nm.data.toList most a M').2.2 nm most (S ++ R) ∧ KeepR R x y ∧
      RowL (fun k => k ∈ S) y p (doJ nm.data.toList most a M').2.1 ∧ ∀ k ∈ S, x.heap.size ≤ k := by
  have HNR := Lib.hid (show ∀ k ∈ R, k ≠ ms from fun k hk e => by subst e; exact hR.2 hk)
  have HA := Lib.hid ha
  have HMO := Lib.hid hmost
  have HST := Lib.hid (small_strs hs)
  have H0 := Lib.hid h0
  have H9 := Lib.hid h9
  have HRM := Lib.hid hroom
  have hnz : nm.size ≤ 100 := by rw [hnm]; decide
  have HNM := Lib.hid hnm
  obtain ⟨bx, hbx⟩ : ∃ bx, bx = x.heap.size := ⟨_, rfl⟩
  obtain ⟨x1, hx1⟩ : ∃ x1, x1 = x.alloc (.cells #[.int .i64 a.op, .int .i64 a.n, .slice a.bp a.bl.length a.bc, a.left.val, a.spoil.val] 37) := ⟨_, rfl⟩
  have HX := Lib.hid (show LW w x1 ws ms b r jb rb M M' nm most (bx :: R) by rw [hx1, hbx]; exact h.alloc _)
  have HKR := Lib.hid (show KeepR R x x1 by rw [hx1]; exact fun k hk => h.tw.keepR ((Bel.refl x).alloc _) k (by simp [hk]))
  have HBX := Lib.hid (show x1.heap[bx]? = some (.cells #[.int .i64 a.op, .int .i64 a.n, .slice a.bp a.bl.length a.bc, a.left.val, a.spoil.val] 37 (0, 0)) by rw [hx1, hbx]; exact heap_alloc_new x _)
  have HXS := Lib.hid (show x.heap.size ≤ x1.heap.size by rw [hx1]; simp)
  have HXB := Lib.hid (show x.heap.size ≤ bx by omega)
  have HC := Lib.hid (show ∀ z, KeepR (bx :: R) x1 z → z.cell? ⟨bx, 0, none⟩ = some (.int .i64 a.op) ∧ z.cell? ⟨bx, 1, none⟩ = some (.int .i64 a.n) ∧ z.cell? ⟨bx, 2, none⟩ = some (.slice a.bp a.bl.length a.bc) ∧ z.cell? ⟨bx, 3, none⟩ = some a.left.val ∧ z.cell? ⟨bx, 4, none⟩ = some a.spoil.val from fun z hz => by
    have e := (hz bx (by simp)).trans HBX.out
    exact ⟨cell_at e, cell_at e, cell_at e, cell_at e, cell_at e⟩)
  have HOP := Lib.hid (show in64 a.op from ha.op)
  obtain ⟨m, hm⟩ : ∃ m, m = pickN a.op 10 := ⟨_, rfl⟩
  have HM := Lib.hid hm
  have hm10 : m < 10 := by rw [hm]; exact pickN_lt a.op (by omega)
  have HD := Lib.hid (show doJ nm.data.toList most a M' = if m = 6 then ((jturn nm.data.toList M').1, [], (jturn nm.data.toList M').2) else if m = 7 then ((jtrim nm.data.toList a.n M').1, [], (jtrim nm.data.toList a.n M').2) else if m = 8 then (0, [], limS (pickN a.n 20 : Nat) M') else if m = 9 then jopen nm.data.toList (crashS a.left.L a.spoil.L M') else ((jwrite nm.data.toList most a.bl M').1, [], (jwrite nm.data.toList most a.bl M').2) by unfold doJ; rw [← hm])
  unfold jactV
  clear h ha hs h0 h9 hroom hmost hnm hm
  unfold SI.val at *
  by_cases q6 : m = 6
  · rw [if_pos q6] at HD
    subst q6
    go_enter Tryz.func12, Tryz.ntmps12
    go_wp2_with (fail)
    rw [← hbx, ← hx1]
    obtain ⟨c0, c1, c2, c3, c4⟩ := HC.out x1 (KeepR.refl _ _)
    clear hbx hx1
    refine (jpick_at _ _ 10 _ HOP.out (by omega) (by omega) rfl).mono ?_
    rintro e z ⟨rfl, rfl⟩
    rw [← HM.out]
    obtain ⟨-, -, -, s0, s1, s2⟩ := HX.out.cells
    go_wp2_with (fail)
    refine (lw_rturn HX.out (Bel.refl _) hnz H9.out).mono ?_
    rintro e y ⟨rfl, h1, hk⟩
    have H1 := Lib.hid h1
    have HK1 := Lib.hid hk
    clear h1 hk
    go_wp2_with (fail)
    go_ret2
    rw [HD.out]
    exact ⟨_, _, [], rb, rfl, H1.out.less (fun k hk => by simp at hk; simp [hk]), HKR.out.trans (fun k hk' => HK1.out k (by simp [hk'])), row_nil _ _ _, fun k hk => by cases hk⟩
  rw [if_neg q6] at HD
  have q6z : ((m : Int) == 6) = false := by rw [beq_eq_false_iff_ne]; omega
  by_cases q7 : m = 7
  · rw [if_pos q7] at HD
    subst q7
    go_enter Tryz.func12, Tryz.ntmps12
    go_wp2_with (fail)
    rw [← hbx, ← hx1]
    obtain ⟨c0, c1, c2, c3, c4⟩ := HC.out x1 (KeepR.refl _ _)
    clear hbx hx1
    refine (jpick_at _ _ 10 _ HOP.out (by omega) (by omega) rfl).mono ?_
    rintro e z ⟨rfl, rfl⟩
    rw [← HM.out]
    obtain ⟨-, -, -, s0, s1, s2⟩ := HX.out.cells
    go_wp2_with (fail)
    refine wp_region_held_drew (S := fun z => z.cell? ⟨ms, 1, none⟩ = some (.pointer (some ⟨rb, 0, none⟩)) ∧ z.cell? ⟨bx, 1, none⟩ = some (.int .i64 a.n)) (by kernel_rfl) ⟨s1, c1⟩ (fun hHeld => ?_)
    refine tk (oi := { dst := some 21, op := Op.move (Operand.tmp 0), type := 26, pos := "law.go:136", after := #[], guard := none }) (v := ?_) 0 rfl ?_ ?_
    rotate_left
    · (intro w hSw; (try dsimp only at hSw); first | (go_simp; done) | (go_simp; with_reducible rfl))
    try simp only [Act.put, List.setIfInBounds_toArray, List.set_cons_zero, List.set_cons_succ]
    refine tk (oi := { dst := some 22, op := Op.nilCheck (Operand.tmp 21), type := 0, pos := "law.go:136", after := #[{ on := 0, ground := Ground.data }], guard := none }) (v := ?_) 1 rfl ?_ ?_
    rotate_left
    · (intro w hSw; (try dsimp only at hSw); first | (go_simp; done) | (go_simp; with_reducible rfl))
    try simp only [Act.put, List.setIfInBounds_toArray, List.set_cons_zero, List.set_cons_succ]
    refine tk (oi := { dst := some 23, op := Op.fieldAddr 60 (Operand.tmp 22) 1, type := 0, pos := "law.go:136", after := #[{ on := 1, ground := Ground.data }], guard := none }) (v := ?_) 2 rfl ?_ ?_
    rotate_left
    · (intro w hSw; (try dsimp only at hSw); first | (go_simp; done) | (go_simp; with_reducible rfl))
    try simp only [Act.put, List.setIfInBounds_toArray, List.set_cons_zero, List.set_cons_succ]
    refine tk (oi := { dst := some 24, op := Op.load 54 (Operand.tmp 23), type := 54, pos := "law.go:136", after := #[{ on := 2, ground := Ground.data }], guard := none }) (v := ?_) 3 rfl ?_ ?_
    rotate_left
    · (intro w hSw; (try dsimp only at hSw); first | (go_simp; done) | (go_simp; with_reducible rfl))
    try simp only [Act.put, List.setIfInBounds_toArray, List.set_cons_zero, List.set_cons_succ]
    refine tk (oi := { dst := some 25, op := Op.fieldAddr 37 (Operand.tmp 3) 1, type := 0, pos := "law.go:136", after := #[], guard := none }) (v := ?_) 4 rfl ?_ ?_
    rotate_left
    · (intro w hSw; (try dsimp only at hSw); first | (go_simp; done) | (go_simp; with_reducible rfl))
    try simp only [Act.put, List.setIfInBounds_toArray, List.set_cons_zero, List.set_cons_succ]
    refine tk (oi := { dst := some 26, op := Op.load 3 (Operand.tmp 25), type := 3, pos := "law.go:136", after := #[{ on := 4, ground := Ground.data }], guard := none }) (v := ?_) 5 rfl ?_ ?_
    rotate_left
    · (intro w hSw; (try dsimp only at hSw); first | (go_simp; done) | (go_simp; with_reducible rfl))
    try simp only [Act.put, List.setIfInBounds_toArray, List.set_cons_zero, List.set_cons_succ]
    refine wpAnyH_ready (rs := [6]) (by kernel_rfl) (by simp) ?_
    refine AllReadyH.cons (o := { dst := some 27, op := Op.call { callee := Callee.value (Operand.func 33), args := #[Operand.tmp 24, Operand.tmp 26], argTypes := #[54, 3] }, type := 31, pos := "law.go:136", after := #[{ on := 3, ground := Ground.data }, { on := 5, ground := Ground.data }], guard := none }) rfl (fun K hK => ?_) AllReadyH.nil
    go_simp
    refine (lw_rtrim HX.out (Bel.refl _).drew hnz a.n HA.out.n).mono ?_
    rintro e y ⟨rfl, h1, hk⟩
    obtain ⟨d0, d1, d2, d3, d4⟩ := HC.out _ hk
    obtain ⟨-, -, -, t0, t1, t2⟩ := h1.cells
    have H1 := Lib.hid h1
    have HK1 := Lib.hid hk
    clear h1 hk
    dsimp only
    refine hK.out _ _ ⟨t1, d1⟩ (fun hHeld => ?_)
    clear hK K
    try simp only [Act.put, List.setIfInBounds_toArray, List.set_cons_zero, List.set_cons_succ]
    refine tk (oi := { dst := some 4, op := Op.assign (Operand.const (Value.slice none 0 0)), type := 30, pos := "law.go:136", after := #[{ on := 6, ground := Ground.chain }, { on := 0, ground := Ground.textOnly Departure.lateStores }, { on := 1, ground := Ground.textOnly Departure.lateStores }, { on := 2, ground := Ground.textOnly Departure.lateStores }, { on := 3, ground := Ground.textOnly Departure.lateStores }, { on := 4, ground := Ground.textOnly Departure.lateStores }, { on := 5, ground := Ground.textOnly Departure.lateStores }, { on := 6, ground := Ground.textOnly Departure.lateStoresUnsure }], guard := none }) (v := ?_) 7 rfl ?_ ?_
    rotate_left
    · (intro w hSw; (try dsimp only at hSw); first | (go_simp; done) | (go_simp; with_reducible rfl))
    try simp only [Act.put, List.setIfInBounds_toArray, List.set_cons_zero, List.set_cons_succ]
    refine tk (oi := { dst := some 5, op := Op.assign (Operand.tmp 27), type := 31, pos := "law.go:136", after := #[{ on := 6, ground := Ground.data }, { on := 7, ground := Ground.chain }, { on := 0, ground := Ground.phase }, { on := 1, ground := Ground.phase }, { on := 2, ground := Ground.phase }, { on := 3, ground := Ground.phase }, { on := 4, ground := Ground.phase }, { on := 5, ground := Ground.phase }, { on := 6, ground := Ground.phase }, { on := 7, ground := Ground.phase }], guard := none }) (v := ?_) 8 rfl ?_ ?_
    rotate_left
    · (intro w hSw; (try dsimp only at hSw); first | (go_simp; done) | (go_simp; with_reducible rfl))
    try simp only [Act.put, List.setIfInBounds_toArray, List.set_cons_zero, List.set_cons_succ]
    refine wpAnyH_done (by kernel_rfl) ?_ _
    go_wp2_with (fail)
    go_ret2
    rw [HD.out]
    exact ⟨_, _, [], rb, rfl, H1.out.less (fun k hk => by simp at hk; simp [hk]), HKR.out.trans (fun k hk' => HK1.out k (by simp [hk'])), row_nil _ _ _, fun k hk => by cases hk⟩
  rw [if_neg q7] at HD
  have q7z : ((m : Int) == 7) = false := by rw [beq_eq_false_iff_ne]; omega
  by_cases q8 : m = 8
  · rw [if_pos q8] at HD
    subst q8
    go_enter Tryz.func12, Tryz.ntmps12
    go_wp2_with (fail)
    rw [← hbx, ← hx1]
    obtain ⟨c0, c1, c2, c3, c4⟩ := HC.out x1 (KeepR.refl _ _)
    clear hbx hx1
    refine (jpick_at _ _ 10 _ HOP.out (by omega) (by omega) rfl).mono ?_
    rintro e z ⟨rfl, rfl⟩
    rw [← HM.out]
    obtain ⟨-, -, -, s0, s1, s2⟩ := HX.out.cells
    go_wp2_with (fail)
    refine wp_region_held_drew (S := fun z => z.cell? ⟨ms, 0, none⟩ = some (.pointer (some ⟨r, 0, none⟩)) ∧ z.cell? ⟨bx, 1, none⟩ = some (.int .i64 a.n)) (by kernel_rfl) ⟨s0, c1⟩ (fun hHeld => ?_)
    refine tk (oi := { dst := some 30, op := Op.move (Operand.tmp 0), type := 26, pos := "law.go:138", after := #[], guard := none }) (v := ?_) 0 rfl ?_ ?_
    rotate_left
    · (intro w hSw; (try dsimp only at hSw); first | (go_simp; done) | (go_simp; with_reducible rfl))
    try simp only [Act.put, List.setIfInBounds_toArray, List.set_cons_zero, List.set_cons_succ]
    refine tk (oi := { dst := some 31, op := Op.nilCheck (Operand.tmp 30), type := 0, pos := "law.go:138", after := #[{ on := 0, ground := Ground.data }], guard := none }) (v := ?_) 1 rfl ?_ ?_
    rotate_left
    · (intro w hSw; (try dsimp only at hSw); first | (go_simp; done) | (go_simp; with_reducible rfl))
    try simp only [Act.put, List.setIfInBounds_toArray, List.set_cons_zero, List.set_cons_succ]
    refine tk (oi := { dst := some 32, op := Op.fieldAddr 60 (Operand.tmp 31) 0, type := 0, pos := "law.go:138", after := #[{ on := 1, ground := Ground.data }], guard := none }) (v := ?_) 2 rfl ?_ ?_
    rotate_left
    · (intro w hSw; (try dsimp only at hSw); first | (go_simp; done) | (go_simp; with_reducible rfl))
    try simp only [Act.put, List.setIfInBounds_toArray, List.set_cons_zero, List.set_cons_succ]
    refine tk (oi := { dst := some 33, op := Op.load 45 (Operand.tmp 32), type := 45, pos := "law.go:138", after := #[{ on := 2, ground := Ground.data }], guard := none }) (v := ?_) 3 rfl ?_ ?_
    rotate_left
    · (intro w hSw; (try dsimp only at hSw); first | (go_simp; done) | (go_simp; with_reducible rfl))
    try simp only [Act.put, List.setIfInBounds_toArray, List.set_cons_zero, List.set_cons_succ]
    refine tk (oi := { dst := some 34, op := Op.fieldAddr 37 (Operand.tmp 3) 1, type := 0, pos := "law.go:138", after := #[], guard := none }) (v := ?_) 4 rfl ?_ ?_
    rotate_left
    · (intro w hSw; (try dsimp only at hSw); first | (go_simp; done) | (go_simp; with_reducible rfl))
    try simp only [Act.put, List.setIfInBounds_toArray, List.set_cons_zero, List.set_cons_succ]
    refine tk (oi := { dst := some 35, op := Op.load 3 (Operand.tmp 34), type := 3, pos := "law.go:138", after := #[{ on := 4, ground := Ground.data }], guard := none }) (v := ?_) 5 rfl ?_ ?_
    rotate_left
    · (intro w hSw; (try dsimp only at hSw); first | (go_simp; done) | (go_simp; with_reducible rfl))
    try simp only [Act.put, List.setIfInBounds_toArray, List.set_cons_zero, List.set_cons_succ]
    refine wpAnyH_ready (rs := [6]) (by kernel_rfl) (by simp) ?_
    refine AllReadyH.cons (o := { dst := some 36, op := Op.call { callee := Callee.value (Operand.func 10), args := #[Operand.tmp 35, Operand.const (Value.int IntKind.i64 20)], argTypes := #[3, 3] }, type := 3, pos := "law.go:138", after := #[{ on := 5, ground := Ground.data }], guard := none }) rfl (fun K hK => ?_) AllReadyH.nil
    go_simp
    refine (jpick_at _ _ 20 _ HA.out.n (by omega) (by omega) rfl).mono ?_
    rintro e z ⟨rfl, rfl⟩
    dsimp only
    refine hK.out _ _ ⟨hHeld.1, hHeld.2⟩ (fun hHeld => ?_)
    clear hK K
    try simp only [Act.put, List.setIfInBounds_toArray, List.set_cons_zero, List.set_cons_succ]
    refine wpAnyH_ready (rs := [7]) (by kernel_rfl) (by simp) ?_
    refine AllReadyH.cons (o := { dst := some 37, op := Op.call { callee := Callee.value (Operand.func 34), args := #[Operand.tmp 33, Operand.tmp 36], argTypes := #[45, 3] }, type := 0, pos := "law.go:138", after := #[{ on := 3, ground := Ground.data }, { on := 6, ground := Ground.data }, { on := 6, ground := Ground.chain }], guard := none }) rfl (fun K hK => ?_) AllReadyH.nil
    go_simp
    refine (lw_rlimit HX.out (Bel.refl _).drew _ (jpick_ok a.n 20 z HA.out.n (by omega) (by omega))).mono ?_
    rintro e y ⟨⟨u, rfl⟩, h1, hk⟩
    obtain ⟨d0, d1, d2, d3, d4⟩ := HC.out _ hk
    obtain ⟨-, -, -, t0, t1, t2⟩ := h1.cells
    have H1 := Lib.hid h1
    have HK1 := Lib.hid hk
    clear h1 hk
    dsimp only
    refine hK.out _ _ ⟨t0, d1⟩ (fun hHeld => ?_)
    clear hK K
    try simp only [Act.put, List.setIfInBounds_toArray, List.set_cons_zero, List.set_cons_succ]
    refine wpAnyH_done (by kernel_rfl) ?_ _
    go_wp2_with (fail)
    go_ret2
    rw [HD.out]
    exact ⟨_, _, [], rb, rfl, H1.out.less (fun k hk => by simp at hk; simp [hk]), HKR.out.trans (fun k hk' => HK1.out k (by simp [hk'])), row_nil _ _ _, fun k hk => by cases hk⟩
  rw [if_neg q8] at HD
  have q8z : ((m : Int) == 8) = false := by rw [beq_eq_false_iff_ne]; omega
  by_cases q9 : m = 9
  · rw [if_pos q9] at HD
    subst q9
    obtain ⟨err, L, M1, hjo⟩ : ∃ err L M1, jopen logB.data.toList (crashS a.left.L a.spoil.L M') = (err, L, M1) := ⟨_, _, _, rfl⟩
    have HJO := Lib.hid hjo
    have HD2 := Lib.hid (show doJ nm.data.toList most a M' = (err, L, M1) from HD.out.trans (by rw [HNM.out]; exact hjo))
    clear hjo
    go_enter Tryz.func12, Tryz.ntmps12
    go_wp2_with (fail)
    rw [← hbx, ← hx1]
    obtain ⟨c0, c1, c2, c3, c4⟩ := HC.out x1 (KeepR.refl _ _)
    clear hbx hx1
    refine (jpick_at _ _ 10 _ HOP.out (by omega) (by omega) rfl).mono ?_
    rintro e z ⟨rfl, rfl⟩
    rw [← HM.out]
    obtain ⟨-, -, -, s0, s1, s2⟩ := HX.out.cells
    go_wp2_with (fail)
    refine wp_region_held_drew (S := fun z => z.cell? ⟨ms, 0, none⟩ = some (.pointer (some ⟨r, 0, none⟩)) ∧ z.cell? ⟨bx, 3, none⟩ = some (.slice a.left.p a.left.L.length a.left.cap) ∧ z.cell? ⟨bx, 4, none⟩ = some (.slice a.spoil.p a.spoil.L.length a.spoil.cap)) (by kernel_rfl) ⟨s0, c3, c4⟩ (fun hHeld => ?_)
    refine tk (oi := { dst := some 40, op := Op.move (Operand.tmp 0), type := 26, pos := "law.go:141", after := #[], guard := none }) (v := ?_) 0 rfl ?_ ?_
    rotate_left
    · (intro w hSw; (try dsimp only at hSw); first | (go_simp; done) | (go_simp; with_reducible rfl))
    try simp only [Act.put, List.setIfInBounds_toArray, List.set_cons_zero, List.set_cons_succ]
    refine tk (oi := { dst := some 41, op := Op.nilCheck (Operand.tmp 40), type := 0, pos := "law.go:141", after := #[{ on := 0, ground := Ground.data }], guard := none }) (v := ?_) 1 rfl ?_ ?_
    rotate_left
    · (intro w hSw; (try dsimp only at hSw); first | (go_simp; done) | (go_simp; with_reducible rfl))
    try simp only [Act.put, List.setIfInBounds_toArray, List.set_cons_zero, List.set_cons_succ]
    refine tk (oi := { dst := some 42, op := Op.fieldAddr 60 (Operand.tmp 41) 0, type := 0, pos := "law.go:141", after := #[{ on := 1, ground := Ground.data }], guard := none }) (v := ?_) 2 rfl ?_ ?_
    rotate_left
    · (intro w hSw; (try dsimp only at hSw); first | (go_simp; done) | (go_simp; with_reducible rfl))
    try simp only [Act.put, List.setIfInBounds_toArray, List.set_cons_zero, List.set_cons_succ]
    refine tk (oi := { dst := some 43, op := Op.load 45 (Operand.tmp 42), type := 45, pos := "law.go:141", after := #[{ on := 2, ground := Ground.data }], guard := none }) (v := ?_) 3 rfl ?_ ?_
    rotate_left
    · (intro w hSw; (try dsimp only at hSw); first | (go_simp; done) | (go_simp; with_reducible rfl))
    try simp only [Act.put, List.setIfInBounds_toArray, List.set_cons_zero, List.set_cons_succ]
    refine tk (oi := { dst := some 44, op := Op.fieldAddr 37 (Operand.tmp 3) 3, type := 0, pos := "law.go:141", after := #[], guard := none }) (v := ?_) 4 rfl ?_ ?_
    rotate_left
    · (intro w hSw; (try dsimp only at hSw); first | (go_simp; done) | (go_simp; with_reducible rfl))
    try simp only [Act.put, List.setIfInBounds_toArray, List.set_cons_zero, List.set_cons_succ]
    refine tk (oi := { dst := some 45, op := Op.load 35 (Operand.tmp 44), type := 35, pos := "law.go:141", after := #[{ on := 4, ground := Ground.data }], guard := none }) (v := ?_) 5 rfl ?_ ?_
    rotate_left
    · (intro w hSw; (try dsimp only at hSw); first | (go_simp; done) | (go_simp; with_reducible rfl))
    try simp only [Act.put, List.setIfInBounds_toArray, List.set_cons_zero, List.set_cons_succ]
    refine tk (oi := { dst := some 46, op := Op.fieldAddr 37 (Operand.tmp 3) 4, type := 0, pos := "law.go:141", after := #[], guard := none }) (v := ?_) 6 rfl ?_ ?_
    rotate_left
    · (intro w hSw; (try dsimp only at hSw); first | (go_simp; done) | (go_simp; with_reducible rfl))
    try simp only [Act.put, List.setIfInBounds_toArray, List.set_cons_zero, List.set_cons_succ]
    refine tk (oi := { dst := some 47, op := Op.load 35 (Operand.tmp 46), type := 35, pos := "law.go:141", after := #[{ on := 6, ground := Ground.data }], guard := none }) (v := ?_) 7 rfl ?_ ?_
    rotate_left
    · (intro w hSw; (try dsimp only at hSw); first | (go_simp; done) | (go_simp; with_reducible rfl))
    try simp only [Act.put, List.setIfInBounds_toArray, List.set_cons_zero, List.set_cons_succ]
    refine wpAnyH_ready (rs := [8]) (by kernel_rfl) (by simp) ?_
    refine AllReadyH.cons (o := { dst := some 48, op := Op.call { callee := Callee.value (Operand.func 35), args := #[Operand.tmp 43, Operand.tmp 45, Operand.tmp 47], argTypes := #[45, 35, 35] }, type := 0, pos := "law.go:141", after := #[{ on := 3, ground := Ground.data }, { on := 5, ground := Ground.data }, { on := 7, ground := Ground.data }], guard := none }) rfl (fun K hK => ?_) AllReadyH.nil
    go_simp
    refine (lw_rcrash HX.out (Bel.refl _).drew a.left a.spoil HA.out.left HA.out.spoil).mono ?_
    rintro e y ⟨⟨u, rfl⟩, h1, hk⟩
    obtain ⟨d0, d1, d2, d3, d4⟩ := HC.out _ hk
    obtain ⟨-, -, -, t0, t1, t2⟩ := h1.cells
    have H1 := Lib.hid h1
    have HK1 := Lib.hid hk
    clear h1 hk
    dsimp only
    refine hK.out _ _ ⟨t0, d3, d4⟩ (fun hHeld => ?_)
    clear hK K
    try simp only [Act.put, List.setIfInBounds_toArray, List.set_cons_zero, List.set_cons_succ]
    refine wpAnyH_done (by kernel_rfl) ?_ _
    clear s0 s1 s2 c0 c1 c2 c3 c4 d0 d1 d2 d3 d4
    go_wp2_with (fail)
    refine wp_region_held_drew (S := fun z => z.cell? ⟨ms, 0, none⟩ = some (.pointer (some ⟨r, 0, none⟩)) ∧ z.cell? ⟨ms, 2, none⟩ = some (.int .i64 most)) (by kernel_rfl) ⟨t0, t2⟩ (fun hHeld => ?_)
    refine tk (oi := { dst := some 50, op := Op.move (Operand.tmp 0), type := 26, pos := "law.go:142", after := #[], guard := none }) (v := ?_) 0 rfl ?_ ?_
    rotate_left
    · (intro w hSw; (try dsimp only at hSw); first | (go_simp; done) | (go_simp; with_reducible rfl))
    try simp only [Act.put, List.setIfInBounds_toArray, List.set_cons_zero, List.set_cons_succ]
    refine tk (oi := { dst := some 51, op := Op.nilCheck (Operand.tmp 50), type := 0, pos := "law.go:142", after := #[{ on := 0, ground := Ground.data }], guard := none }) (v := ?_) 1 rfl ?_ ?_
    rotate_left
    · (intro w hSw; (try dsimp only at hSw); first | (go_simp; done) | (go_simp; with_reducible rfl))
    try simp only [Act.put, List.setIfInBounds_toArray, List.set_cons_zero, List.set_cons_succ]
    refine tk (oi := { dst := some 52, op := Op.fieldAddr 60 (Operand.tmp 51) 0, type := 0, pos := "law.go:142", after := #[{ on := 1, ground := Ground.data }], guard := none }) (v := ?_) 2 rfl ?_ ?_
    rotate_left
    · (intro w hSw; (try dsimp only at hSw); first | (go_simp; done) | (go_simp; with_reducible rfl))
    try simp only [Act.put, List.setIfInBounds_toArray, List.set_cons_zero, List.set_cons_succ]
    refine tk (oi := { dst := some 53, op := Op.load 45 (Operand.tmp 52), type := 45, pos := "law.go:142", after := #[{ on := 2, ground := Ground.data }], guard := none }) (v := ?_) 3 rfl ?_ ?_
    rotate_left
    · (intro w hSw; (try dsimp only at hSw); first | (go_simp; done) | (go_simp; with_reducible rfl))
    try simp only [Act.put, List.setIfInBounds_toArray, List.set_cons_zero, List.set_cons_succ]
    refine tk (oi := { dst := some 54, op := Op.move (Operand.tmp 0), type := 26, pos := "law.go:142", after := #[], guard := none }) (v := ?_) 4 rfl ?_ ?_
    rotate_left
    · (intro w hSw; (try dsimp only at hSw); first | (go_simp; done) | (go_simp; with_reducible rfl))
    try simp only [Act.put, List.setIfInBounds_toArray, List.set_cons_zero, List.set_cons_succ]
    refine tk (oi := { dst := some 55, op := Op.nilCheck (Operand.tmp 54), type := 0, pos := "law.go:142", after := #[{ on := 4, ground := Ground.data }], guard := none }) (v := ?_) 5 rfl ?_ ?_
    rotate_left
    · (intro w hSw; (try dsimp only at hSw); first | (go_simp; done) | (go_simp; with_reducible rfl))
    try simp only [Act.put, List.setIfInBounds_toArray, List.set_cons_zero, List.set_cons_succ]
    refine tk (oi := { dst := some 56, op := Op.fieldAddr 60 (Operand.tmp 55) 2, type := 0, pos := "law.go:142", after := #[{ on := 5, ground := Ground.data }], guard := none }) (v := ?_) 6 rfl ?_ ?_
    rotate_left
    · (intro w hSw; (try dsimp only at hSw); first | (go_simp; done) | (go_simp; with_reducible rfl))
    try simp only [Act.put, List.setIfInBounds_toArray, List.set_cons_zero, List.set_cons_succ]
    refine tk (oi := { dst := some 57, op := Op.load 3 (Operand.tmp 56), type := 3, pos := "law.go:142", after := #[{ on := 6, ground := Ground.data }], guard := none }) (v := ?_) 7 rfl ?_ ?_
    rotate_left
    · (intro w hSw; (try dsimp only at hSw); first | (go_simp; done) | (go_simp; with_reducible rfl))
    try simp only [Act.put, List.setIfInBounds_toArray, List.set_cons_zero, List.set_cons_succ]
    refine wpAnyH_ready (rs := [8]) (by kernel_rfl) (by simp) ?_
    refine AllReadyH.cons (o := { dst := some 58, op := Op.call { callee := Callee.value (Operand.func 20), args := #[Operand.tmp 53, Operand.const (Value.string { data := #[108, 111, 103] }), Operand.tmp 57], argTypes := #[45, 9, 3] }, type := 55, pos := "law.go:142", after := #[{ on := 3, ground := Ground.data }, { on := 7, ground := Ground.data }], guard := none }) rfl (fun K hK => ?_) AllReadyH.nil
    go_simp
    refine (tw_ropen H1.out.tw (Bel.refl _).drew logB most (by decide) (show (crashS a.left.L a.spoil.L M').room ≤ 1000000 from HRM.out) HJO.out).mono ?_
    rintro e y2 ⟨jv, p, cap, S, rfl, h2, hk2, hrow, hS, hj, hje⟩
    have H2 := Lib.hid h2
    have HK2 := Lib.hid hk2
    have HRW := Lib.hid hrow
    have HSN := Lib.hid (show ∀ k ∈ S, x.heap.size ≤ k from fun k hk => by have h1 := hS k hk; have h2 := HXB.out; have h3 := H1.out.tw.lt bx (by simp); omega)
    have HSY := Lib.hid hS
    have hw := (hk2 ms (by simp)).trans H1.out.sm
    have w0 := cell_at (i := 0) hw
    have w1 := cell_at (i := 1) hw
    have w2 := cell_at (i := 2) hw
    simp at w0 w1 w2
    have wf : y2.frozen? ⟨ms, 1, none⟩ = false := by simp [World.frozen?, hw]
    have HWS := Lib.hid hw
    dsimp only
    refine hK.out _ _ ⟨w0, w2⟩ (fun hHeld => ?_)
    clear hK K
    try simp only [Act.put, List.setIfInBounds_toArray, List.set_cons_zero, List.set_cons_succ]
    refine tk (oi := { dst := some 49, op := Op.move (Operand.tmp 58), type := 55, pos := "law.go:142", after := #[{ on := 8, ground := Ground.data }], guard := none }) (v := ?_) 9 rfl ?_ ?_
    rotate_left
    · (intro w hSw; (try dsimp only at hSw); first | (go_simp; done) | (go_simp; with_reducible rfl))
    try simp only [Act.put, List.setIfInBounds_toArray, List.set_cons_zero, List.set_cons_succ]
    refine tk (oi := { dst := some 59, op := Op.extract (Operand.tmp 49) 0, type := 54, pos := "law.go:142", after := #[{ on := 9, ground := Ground.data }], guard := none }) (v := ?_) 10 rfl ?_ ?_
    rotate_left
    · (intro w hSw; (try dsimp only at hSw); first | (go_simp; done) | (go_simp; with_reducible rfl))
    try simp only [Act.put, List.setIfInBounds_toArray, List.set_cons_zero, List.set_cons_succ]
    refine tk (oi := { dst := some 60, op := Op.extract (Operand.tmp 49) 1, type := 30, pos := "law.go:142", after := #[{ on := 9, ground := Ground.data }, { on := 13, ground := Ground.gcOnly Departure.lateStores }], guard := none }) (v := ?_) 11 rfl ?_ ?_
    rotate_left
    · (intro w hSw; (try dsimp only at hSw); first | (go_simp; done) | (go_simp; with_reducible rfl))
    try simp only [Act.put, List.setIfInBounds_toArray, List.set_cons_zero, List.set_cons_succ]
    refine tk (oi := { dst := some 61, op := Op.extract (Operand.tmp 49) 2, type := 31, pos := "law.go:142", after := #[{ on := 9, ground := Ground.data }, { on := 14, ground := Ground.gcOnly Departure.lateStores }], guard := none }) (v := ?_) 12 rfl ?_ ?_
    rotate_left
    · (intro w hSw; (try dsimp only at hSw); first | (go_simp; done) | (go_simp; with_reducible rfl))
    try simp only [Act.put, List.setIfInBounds_toArray, List.set_cons_zero, List.set_cons_succ]
    refine tk (oi := { dst := some 6, op := Op.assign (Operand.tmp 59), type := 54, pos := "law.go:142", after := #[{ on := 10, ground := Ground.data }, { on := 8, ground := Ground.chain }, { on := 0, ground := Ground.phase }, { on := 1, ground := Ground.phase }, { on := 2, ground := Ground.phase }, { on := 3, ground := Ground.phase }, { on := 4, ground := Ground.phase }, { on := 5, ground := Ground.phase }, { on := 6, ground := Ground.phase }, { on := 7, ground := Ground.phase }, { on := 8, ground := Ground.phase }, { on := 9, ground := Ground.phase }, { on := 10, ground := Ground.phase }, { on := 11, ground := Ground.textOnly Departure.lateStores }, { on := 12, ground := Ground.textOnly Departure.lateStores }], guard := none }) (v := ?_) 13 rfl ?_ ?_
    rotate_left
    · (intro w hSw; (try dsimp only at hSw); first | (go_simp; done) | (go_simp; with_reducible rfl))
    try simp only [Act.put, List.setIfInBounds_toArray, List.set_cons_zero, List.set_cons_succ]
    refine tk (oi := { dst := some 7, op := Op.assign (Operand.tmp 60), type := 30, pos := "law.go:142", after := #[{ on := 11, ground := Ground.data }, { on := 13, ground := Ground.chain }, { on := 0, ground := Ground.phase }, { on := 1, ground := Ground.phase }, { on := 2, ground := Ground.phase }, { on := 3, ground := Ground.phase }, { on := 4, ground := Ground.phase }, { on := 5, ground := Ground.phase }, { on := 6, ground := Ground.phase }, { on := 7, ground := Ground.phase }, { on := 8, ground := Ground.phase }, { on := 9, ground := Ground.phase }, { on := 10, ground := Ground.phase }, { on := 11, ground := Ground.phase }, { on := 12, ground := Ground.textOnly Departure.lateStores }, { on := 13, ground := Ground.phase }], guard := none }) (v := ?_) 14 rfl ?_ ?_
    rotate_left
    · (intro w hSw; (try dsimp only at hSw); first | (go_simp; done) | (go_simp; with_reducible rfl))
    try simp only [Act.put, List.setIfInBounds_toArray, List.set_cons_zero, List.set_cons_succ]
    refine tk (oi := { dst := some 8, op := Op.assign (Operand.tmp 61), type := 31, pos := "law.go:142", after := #[{ on := 12, ground := Ground.data }, { on := 14, ground := Ground.chain }, { on := 0, ground := Ground.phase }, { on := 1, ground := Ground.phase }, { on := 2, ground := Ground.phase }, { on := 3, ground := Ground.phase }, { on := 4, ground := Ground.phase }, { on := 5, ground := Ground.phase }, { on := 6, ground := Ground.phase }, { on := 7, ground := Ground.phase }, { on := 8, ground := Ground.phase }, { on := 9, ground := Ground.phase }, { on := 10, ground := Ground.phase }, { on := 11, ground := Ground.phase }, { on := 12, ground := Ground.phase }, { on := 13, ground := Ground.phase }, { on := 14, ground := Ground.phase }], guard := none }) (v := ?_) 15 rfl ?_ ?_
    rotate_left
    · (intro w hSw; (try dsimp only at hSw); first | (go_simp; done) | (go_simp; with_reducible rfl))
    try simp only [Act.put, List.setIfInBounds_toArray, List.set_cons_zero, List.set_cons_succ]
    refine wpAnyH_done (by kernel_rfl) ?_ _
    have HLD := Lib.hid (H2.out.less (R' := ws :: ms :: jb :: rb :: (S ++ (bx :: R))) (fun k hk => by simp only [List.mem_cons, List.mem_append] at hk ⊢; rcases hk with h | h | h | h | h | h | h <;> simp [h]))
    by_cases he : err = 0
    · subst he
      obtain ⟨jn, rfl, hja, hjs⟩ := hj rfl
      have HJA := Lib.hid hja
      have HJS := Lib.hid hjs
      clear h2 hk2 hrow hS hj hje hja hjs hw t0 t1 t2
      go_wp2_with (fail)
      go_ret2
      rw [HD2.out]
      have hap := H1.out.apart
      have hnw := H1.out.new
      have hlt := H1.out.tw.lt
      have hjn := HSY.out jn HJS.out
      have hws := hlt ws (by simp)
      have hms := hlt ms (by simp)
      have hjb := hlt jb (by simp)
      have hrb := hlt rb (by simp)
      have hst := HLD.out.other (K := [ms]) (keep_set y2 ms 1 (.pointer (some ⟨jn, 0, none⟩))) (fun k hk => by rw [List.mem_singleton] at hk; subst hk; exact ⟨by omega, by simp⟩)
      have hjK : ∀ k, k ≠ ms → k ∉ [ms] := fun k hk => by simpa using hk
      refine ⟨p, cap, S, jn, rfl, ⟨hst.1.less (fun k hk => ?_), ?_, ?_, ?_, ?_, hnw, ?_, H1.out.std⟩, ?_, ?_, HSN.out⟩
      · have hs1 : jn ∈ S := HJS.out
        simp only [List.mem_cons, List.mem_append] at hk ⊢
        rcases hk with h | h | h | h | h | h
        all_goals first
          | (subst h; simp [hs1])
          | simp [h]
      · exact H1.out.j.keep ((hst.2 jb (by simp) (hjK _ (by omega))).trans (HK2.out jb (by simp)))
      · rw [HNM.out]; exact HJA.out.keep (hst.2 jn (by simp [HJS.out]) (hjK _ (by omega)))
      · exact ((hst.2 ws (by simp) (hjK _ (by omega))).trans (HK2.out ws (by simp))).trans H1.out.sw
      · exact blk_set HWS.out 1 _
      · omega
      · exact fun k hk => (hst.2 k (by simp [hk]) (hjK k (fun e => by have h1 := HKR.out k hk; subst e; exact absurd rfl (HNR.out k hk)))).trans ((HK2.out k (by simp [hk])).trans ((HK1.out k (by simp [hk])).trans (HKR.out k hk)))
      · exact HRW.out.keep (fun k hk => hst.2 k (by simp [hk]) (hjK k (by have := HSY.out k hk; omega)))
    · obtain rfl := hje he
      clear h2 hk2 hrow hS hj hje hw t0 t1 t2
      go_wp2_with (fail)
      go_ret2
      rw [HD2.out]
      exact ⟨p, cap, S, rb, rfl, H1.out.to (HLD.out.less (fun k hk => by simp only [List.mem_cons, List.mem_append] at hk ⊢; rcases hk with h | h | h | h | h | h <;> simp [h])) HK2.out, fun k hk => (HK2.out k (by simp [hk])).trans ((HK1.out k (by simp [hk])).trans (HKR.out k hk)), HRW.out, HSN.out⟩
  rw [if_neg q9] at HD
  have q9z : ((m : Int) == 9) = false := by rw [beq_eq_false_iff_ne]; omega
  go_enter Tryz.func12, Tryz.ntmps12
  go_wp2_with (fail)
  rw [← hbx, ← hx1]
  obtain ⟨c0, c1, c2, c3, c4⟩ := HC.out x1 (KeepR.refl _ _)
  clear hbx hx1
  refine (jpick_at _ _ 10 _ HOP.out (by omega) (by omega) rfl).mono ?_
  rintro e z ⟨rfl, rfl⟩
  rw [← HM.out]
  obtain ⟨-, -, -, s0, s1, s2⟩ := HX.out.cells
  go_wp2_with (fail)
  refine wp_region_held_drew (S := fun z => z.cell? ⟨ms, 1, none⟩ = some (.pointer (some ⟨rb, 0, none⟩)) ∧ z.cell? ⟨bx, 2, none⟩ = some (.slice a.bp a.bl.length a.bc)) (by kernel_rfl) ⟨s1, c2⟩ (fun hHeld => ?_)
  refine tk (oi := { dst := some 70, op := Op.move (Operand.tmp 0), type := 26, pos := "law.go:148", after := #[], guard := none }) (v := ?_) 0 rfl ?_ ?_
  rotate_left
  · (intro w hSw; (try dsimp only at hSw); first | (go_simp; done) | (go_simp; with_reducible rfl))
  try simp only [Act.put, List.setIfInBounds_toArray, List.set_cons_zero, List.set_cons_succ]
  refine tk (oi := { dst := some 71, op := Op.nilCheck (Operand.tmp 70), type := 0, pos := "law.go:148", after := #[{ on := 0, ground := Ground.data }], guard := none }) (v := ?_) 1 rfl ?_ ?_
  rotate_left
  · (intro w hSw; (try dsimp only at hSw); first | (go_simp; done) | (go_simp; with_reducible rfl))
  try simp only [Act.put, List.setIfInBounds_toArray, List.set_cons_zero, List.set_cons_succ]
  refine tk (oi := { dst := some 72, op := Op.fieldAddr 60 (Operand.tmp 71) 1, type := 0, pos := "law.go:148", after := #[{ on := 1, ground := Ground.data }], guard := none }) (v := ?_) 2 rfl ?_ ?_
  rotate_left
  · (intro w hSw; (try dsimp only at hSw); first | (go_simp; done) | (go_simp; with_reducible rfl))
  try simp only [Act.put, List.setIfInBounds_toArray, List.set_cons_zero, List.set_cons_succ]
  refine tk (oi := { dst := some 73, op := Op.load 54 (Operand.tmp 72), type := 54, pos := "law.go:148", after := #[{ on := 2, ground := Ground.data }], guard := none }) (v := ?_) 3 rfl ?_ ?_
  rotate_left
  · (intro w hSw; (try dsimp only at hSw); first | (go_simp; done) | (go_simp; with_reducible rfl))
  try simp only [Act.put, List.setIfInBounds_toArray, List.set_cons_zero, List.set_cons_succ]
  refine tk (oi := { dst := some 74, op := Op.fieldAddr 37 (Operand.tmp 3) 2, type := 0, pos := "law.go:148", after := #[], guard := none }) (v := ?_) 4 rfl ?_ ?_
  rotate_left
  · (intro w hSw; (try dsimp only at hSw); first | (go_simp; done) | (go_simp; with_reducible rfl))
  try simp only [Act.put, List.setIfInBounds_toArray, List.set_cons_zero, List.set_cons_succ]
  refine tk (oi := { dst := some 75, op := Op.load 34 (Operand.tmp 74), type := 34, pos := "law.go:148", after := #[{ on := 4, ground := Ground.data }], guard := none }) (v := ?_) 5 rfl ?_ ?_
  rotate_left
  · (intro w hSw; (try dsimp only at hSw); first | (go_simp; done) | (go_simp; with_reducible rfl))
  try simp only [Act.put, List.setIfInBounds_toArray, List.set_cons_zero, List.set_cons_succ]
  refine wpAnyH_ready (rs := [6]) (by kernel_rfl) (by simp) ?_
  refine AllReadyH.cons (o := { dst := some 76, op := Op.call { callee := Callee.value (Operand.func 36), args := #[Operand.tmp 73, Operand.tmp 75], argTypes := #[54, 34] }, type := 31, pos := "law.go:148", after := #[{ on := 3, ground := Ground.data }, { on := 5, ground := Ground.data }], guard := none }) rfl (fun K hK => ?_) AllReadyH.nil
  go_simp
  refine (lw_rwrite HX.out (Bel.refl _).drew hnz a.bp a.bc a.bl H0.out H9.out HMO.out HA.out.at_ HA.out.len HST.out).mono ?_
  rintro e y ⟨rfl, h1, hk⟩
  obtain ⟨d0, d1, d2, d3, d4⟩ := HC.out _ hk
  obtain ⟨-, -, -, t0, t1, t2⟩ := h1.cells
  have H1 := Lib.hid h1
  have HK1 := Lib.hid hk
  clear h1 hk
  dsimp only
  refine hK.out _ _ ⟨t1, d2⟩ (fun hHeld => ?_)
  clear hK K
  try simp only [Act.put, List.setIfInBounds_toArray, List.set_cons_zero, List.set_cons_succ]
  refine tk (oi := { dst := some 4, op := Op.assign (Operand.const (Value.slice none 0 0)), type := 30, pos := "law.go:148", after := #[{ on := 6, ground := Ground.chain }, { on := 0, ground := Ground.textOnly Departure.lateStores }, { on := 1, ground := Ground.textOnly Departure.lateStores }, { on := 2, ground := Ground.textOnly Departure.lateStores }, { on := 3, ground := Ground.textOnly Departure.lateStores }, { on := 4, ground := Ground.textOnly Departure.lateStores }, { on := 5, ground := Ground.textOnly Departure.lateStores }, { on := 6, ground := Ground.textOnly Departure.lateStoresUnsure }], guard := none }) (v := ?_) 7 rfl ?_ ?_
  rotate_left
  · (intro w hSw; (try dsimp only at hSw); first | (go_simp; done) | (go_simp; with_reducible rfl))
  try simp only [Act.put, List.setIfInBounds_toArray, List.set_cons_zero, List.set_cons_succ]
  refine tk (oi := { dst := some 5, op := Op.assign (Operand.tmp 76), type := 31, pos := "law.go:148", after := #[{ on := 6, ground := Ground.data }, { on := 7, ground := Ground.chain }, { on := 0, ground := Ground.phase }, { on := 1, ground := Ground.phase }, { on := 2, ground := Ground.phase }, { on := 3, ground := Ground.phase }, { on := 4, ground := Ground.phase }, { on := 5, ground := Ground.phase }, { on := 6, ground := Ground.phase }, { on := 7, ground := Ground.phase }], guard := none }) (v := ?_) 8 rfl ?_ ?_
  rotate_left
  · (intro w hSw; (try dsimp only at hSw); first | (go_simp; done) | (go_simp; with_reducible rfl))
  try simp only [Act.put, List.setIfInBounds_toArray, List.set_cons_zero, List.set_cons_succ]
  refine wpAnyH_done (by kernel_rfl) ?_ _
  go_wp2_with (fail)
  go_ret2
  rw [HD.out]
  exact ⟨_, _, [], rb, rfl, H1.out.less (fun k hk => by simp at hk; simp [hk]), HKR.out.trans (fun k hk' => HK1.out k (by simp [hk'])), row_nil _ _ _, fun k hk => by cases hk⟩
end Go.Proofs.YtlmlcnbgdaiaeaaGreatDoor
