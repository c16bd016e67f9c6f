/- JWrite, laid together. -/
import Derived.Test.YtedopiojidaeiaaGreatDoorA33
/- journal's withRoom, Write. -/
set_option linter.unusedSimpArgs false
set_option linter.unusedVariables false
namespace Go.Proofs.YtedopiojidaeiaaGreatDoor
open Go.RowKit Go.Deep Go.Maps

def roomS (p : List UInt8) (most : Int) (M : RS) : Int × RS := if M.gone = true then (7, M) else jroom p most M
theorem roomS_ok {M : RS} (h : M.ok) (p : List UInt8) (most : Int) : (roomS p most M).2.ok := by
  unfold roomS; split; exact h; exact jroom_ok h p most
theorem js_fileC {n₀ : Nat} {z : World} {b : Nat} {M : RS} {F : List Nat} {jb : Nat} {p : ByteArray} {most : Int} (h : JS n₀ z b M F jb p most) (hp : p.size ≤ 100) (n : Nat) (hn : n ≤ 10000000) :
    Calls Tryz.prog 72 #[.pointer (some ⟨jb, 0, none⟩), .int .i64 n] z fun e w' => e = .returned (.string ⟨(fileN p.data.toList n).toArray⟩) ∧ Bel z w' := file_any z jb b p most n h.j hp hn h.std0
theorem str_empty {l : List UInt8} (h : l ≠ []) : (⟨l.toArray⟩ : ByteArray).toList.isEmpty = false := by
  rw [ByteArray.toList_eq]
  cases l with
  | nil => exact absurd rfl h
  | cons a l => rfl
set_option maxHeartbeats 4000000 in
set_option maxRecDepth 20000 in
theorem withroom_any (n₀ : Nat) (w : World) (b : Nat) (M : RS) (F : List Nat) (jb : Nat) (p : ByteArray) (most : Int) (h : JS n₀ w b M F jb p most) (hp : p.size ≤ 100) (h0 : lastN p.data.toList M.L ≠ 0) (h9 : lastN p.data.toList M.L < 9999999) (hmost : in64 most) :
    Calls Tryz.prog 71 #[.pointer (some ⟨jb, 0, none⟩)] w fun e y => ∃ m : Nat, e = .returned (.tuple #[.int .i64 m, .int .i64 (roomS p.data.toList most M).1]) ∧ ProgTo n₀ w y b (roomS p.data.toList most M).2 F ∧ ((roomS p.data.toList most M).1 = 0 → m = lastN p.data.toList (roomS p.data.toList most M).2.L) := by
  have H := Lib.hid h
  have HMS := Lib.hid hmost
  obtain ⟨n, hn⟩ : ∃ n, n = lastN p.data.toList M.L := ⟨_, rfl⟩
  have HN := Lib.hid hn
  rw [← hn] at h9 h0
  have hmem : n ∈ segsL p.data.toList M.L := by rw [hn]; exact last_mem (fun e => h0 (by rw [hn]; exact last_zero.2 e))
  obtain ⟨-, -, hget⟩ := (mem_segs_get h.ok.srt).1 hmem
  obtain ⟨y, hy⟩ := Option.isSome_iff_exists.1 hget
  have hyb := (each_ok h.ok y (getF_mem hy)).1
  have HBY := Lib.hid (show bytesOf (fileN p.data.toList n) M = y.bytes from bytesOf_get hy)
  have HY := Lib.hid hy
  have hbz := str_len y.bytes
  have hfl := file_len p.data.toList (n := n) (by omega)
  have hfz := str_len (fileN p.data.toList n)
  have hpl : p.data.toList.length = p.size := rfl
  have hne0 : ((n : Int) == 0) = false := by rw [beq_eq_false_iff_ne]; omega
  clear h hn hmem hget hy hmost
  cases hg : M.gone with
  | true =>
    have HR := Lib.hid (show roomS p.data.toList most M = (7, M) by unfold roomS; rw [if_pos hg])
    have HGS := Lib.hid (show getS (fileN p.data.toList n) M = ([], 7) by unfold getS; rw [hg]; rfl)
    go_enter Tryz.func71, Tryz.ntmps71
    go_wp2_with (fail)
    refine (num_any n₀ w jb b p most M F H.out.prog H.out.ok H.out.j hp H.out.std0).mono ?_
    rintro e w1 ⟨rfl, hb1⟩
    rw [← HN.out]
    have HB1 := Lib.hid hb1
    have HX := Lib.hid (H.out.bel hb1)
    clear hb1
    go_wp2_with (fail)
    refine wp_region_held_drew (S := fun z => z.cell? ⟨jb, 0, none⟩ = some (.pointer (some ⟨b, 0, none⟩))) (by kernel_rfl) HX.out.j.files (fun hHeld => ?_)
    refine wpAnyH_take (i := 0) (oi := { dst := some 14, op := Op.move (Operand.tmp 0), type := 57, pos := "journal.go:84", after := #[], guard := none }) (v := ?_) rfl (by kernel_rfl) (by kernel_rfl) (by kernel_rfl) (fun _ _ _ h => h) (Or.inl ⟨by rfl, ?_⟩) (by assumption) ?_
    rotate_left
    · (intro w hSw; (try dsimp only at hSw); first | (go_simp; done) | (go_simp; with_reducible rfl))
    try simp only [Act.put, List.setIfInBounds_toArray, List.set_cons_zero, List.set_cons_succ]
    refine wpAnyH_take (i := 1) (oi := { dst := some 15, op := Op.nilCheck (Operand.tmp 14), type := 0, pos := "journal.go:84", after := #[{ on := 0, ground := Ground.data }], guard := none }) (v := ?_) rfl (by kernel_rfl) (by kernel_rfl) (by kernel_rfl) (fun _ _ _ h => h) (Or.inl ⟨by rfl, ?_⟩) (by assumption) ?_
    rotate_left
    · (intro w hSw; (try dsimp only at hSw); first | (go_simp; done) | (go_simp; with_reducible rfl))
    try simp only [Act.put, List.setIfInBounds_toArray, List.set_cons_zero, List.set_cons_succ]
    refine wpAnyH_take (i := 2) (oi := { dst := some 16, op := Op.fieldAddr 104 (Operand.tmp 15) 0, type := 0, pos := "journal.go:84", after := #[{ on := 1, ground := Ground.data }], guard := none }) (v := ?_) rfl (by kernel_rfl) (by kernel_rfl) (by kernel_rfl) (fun _ _ _ h => h) (Or.inl ⟨by rfl, ?_⟩) (by assumption) ?_
    rotate_left
    · (intro w hSw; (try dsimp only at hSw); first | (go_simp; done) | (go_simp; with_reducible rfl))
    try simp only [Act.put, List.setIfInBounds_toArray, List.set_cons_zero, List.set_cons_succ]
    refine wpAnyH_take (i := 3) (oi := { dst := some 17, op := Op.load 48 (Operand.tmp 16), type := 48, pos := "journal.go:84", after := #[{ on := 2, ground := Ground.data }], guard := none }) (v := ?_) rfl (by kernel_rfl) (by kernel_rfl) (by kernel_rfl) (fun _ _ _ h => h) (Or.inl ⟨by rfl, ?_⟩) (by assumption) ?_
    rotate_left
    · (intro w hSw; (try dsimp only at hSw); first | (go_simp; done) | (go_simp; with_reducible rfl))
    try simp only [Act.put, List.setIfInBounds_toArray, List.set_cons_zero, List.set_cons_succ]
    refine wpAnyH_take (i := 4) (oi := { dst := some 18, op := Op.move (Operand.tmp 0), type := 57, pos := "journal.go:84", after := #[], guard := none }) (v := ?_) rfl (by kernel_rfl) (by kernel_rfl) (by kernel_rfl) (fun _ _ _ h => h) (Or.inl ⟨by rfl, ?_⟩) (by assumption) ?_
    rotate_left
    · (intro w hSw; (try dsimp only at hSw); first | (go_simp; done) | (go_simp; with_reducible rfl))
    try simp only [Act.put, List.setIfInBounds_toArray, List.set_cons_zero, List.set_cons_succ]
    refine wpAnyH_take (i := 5) (oi := { dst := some 19, op := Op.move (Operand.tmp 4), type := 3, pos := "journal.go:84", after := #[], guard := none }) (v := ?_) rfl (by kernel_rfl) (by kernel_rfl) (by kernel_rfl) (fun _ _ _ h => h) (Or.inl ⟨by rfl, ?_⟩) (by assumption) ?_
    rotate_left
    · (intro w hSw; (try dsimp only at hSw); first | (go_simp; done) | (go_simp; with_reducible rfl))
    try simp only [Act.put, List.setIfInBounds_toArray, List.set_cons_zero, List.set_cons_succ]
    refine wpAnyH_ready (rs := [6]) (by kernel_rfl) (by simp) ?_
    refine AllReadyH.cons (o := { dst := some 20, op := Op.call { callee := Callee.value (Operand.func 72), args := #[Operand.tmp 18, Operand.tmp 19], argTypes := #[57, 3] }, type := 9, pos := "journal.go:84", after := #[{ on := 4, ground := Ground.data }, { on := 5, ground := Ground.data }], guard := none }) rfl (fun K hK => ?_) AllReadyH.nil
    go_simp
    refine (js_fileC (HX.out.bel (Bel.refl w1).drew) hp n (by omega)).mono ?_
    rintro e zf ⟨rfl, hbf⟩
    have HBf := Lib.hid ((Bel.refl w1).drew.trans hbf)
    have HXf := Lib.hid (HX.out.bel HBf.out)
    clear hbf
    dsimp only
    refine hK.out _ _ HXf.out.j.files (fun hHeld => ?_)
    clear hK K
    try simp only [Act.put, List.setIfInBounds_toArray, List.set_cons_zero, List.set_cons_succ]
    refine wpAnyH_ready (rs := [7]) (by kernel_rfl) (by simp) ?_
    refine AllReadyH.cons (o := { dst := some 21, op := Op.call { callee := Callee.value (Operand.func 49), args := #[Operand.tmp 17, Operand.tmp 20], argTypes := #[48, 9] }, type := 30, pos := "journal.go:84", after := #[{ on := 3, ground := Ground.data }, { on := 6, ground := Ground.data }, { on := 6, ground := Ground.chain }], guard := none }) rfl (fun K hK => ?_) AllReadyH.nil
    go_simp
    refine (pget_any n₀ zf b M F (⟨(fileN p.data.toList n).toArray⟩ : ByteArray) HXf.out.prog (by unfold maxLen; omega)).mono ?_
    rintro e w3 ⟨rfl, hb3⟩
    rw [str_list, HGS.out]
    have HB3 := Lib.hid (HB1.out.trans (HBf.out.trans hb3))
    have HX3 := Lib.hid (HXf.out.bel hb3)
    have cN := HX3.out.j.files
    clear hb3
    dsimp only
    refine hK.out _ _ cN (fun hHeld => ?_)
    clear hK K
    try simp only [Act.put, List.setIfInBounds_toArray, List.set_cons_zero, List.set_cons_succ]
    refine wpAnyH_take (i := 8) (oi := { dst := some 13, op := Op.move (Operand.tmp 21), type := 30, pos := "journal.go:84", after := #[{ on := 7, ground := Ground.data }], guard := none }) (v := ?_) rfl (by kernel_rfl) (by kernel_rfl) (by kernel_rfl) (fun _ _ _ h => h) (Or.inl ⟨by rfl, ?_⟩) (by assumption) ?_
    rotate_left
    · (intro w hSw; (try dsimp only at hSw); first | (go_simp; done) | (go_simp; with_reducible rfl))
    try simp only [Act.put, List.setIfInBounds_toArray, List.set_cons_zero, List.set_cons_succ]
    refine wpAnyH_take (i := 9) (oi := { dst := some 22, op := Op.extract (Operand.tmp 13) 0, type := 9, pos := "journal.go:84", after := #[{ on := 8, ground := Ground.data }], guard := none }) (v := ?_) rfl (by kernel_rfl) (by kernel_rfl) (by kernel_rfl) (fun _ _ _ h => h) (Or.inl ⟨by rfl, ?_⟩) (by assumption) ?_
    rotate_left
    · (intro w hSw; (try dsimp only at hSw); first | (go_simp; done) | (go_simp; with_reducible rfl))
    try simp only [Act.put, List.setIfInBounds_toArray, List.set_cons_zero, List.set_cons_succ]
    refine wpAnyH_take (i := 10) (oi := { dst := some 23, op := Op.extract (Operand.tmp 13) 1, type := 29, pos := "journal.go:84", after := #[{ on := 8, ground := Ground.data }, { on := 11, ground := Ground.gcOnly Departure.lateStores }], guard := none }) (v := ?_) rfl (by kernel_rfl) (by kernel_rfl) (by kernel_rfl) (fun _ _ _ h => h) (Or.inl ⟨by rfl, ?_⟩) (by assumption) ?_
    rotate_left
    · (intro w hSw; (try dsimp only at hSw); first | (go_simp; done) | (go_simp; with_reducible rfl))
    try simp only [Act.put, List.setIfInBounds_toArray, List.set_cons_zero, List.set_cons_succ]
    refine wpAnyH_take (i := 11) (oi := { dst := some 5, op := Op.assign (Operand.tmp 22), type := 9, pos := "journal.go:84", after := #[{ on := 9, ground := Ground.data }, { on := 7, ground := Ground.chain }, { on := 0, ground := Ground.phase }, { on := 1, ground := Ground.phase }, { on := 2, ground := Ground.phase }, { on := 3, ground := Ground.phase }, { on := 4, ground := Ground.phase }, { on := 5, ground := Ground.phase }, { on := 6, ground := Ground.phase }, { on := 7, ground := Ground.phase }, { on := 8, ground := Ground.phase }, { on := 9, ground := Ground.phase }, { on := 10, ground := Ground.textOnly Departure.lateStores }], guard := none }) (v := ?_) rfl (by kernel_rfl) (by kernel_rfl) (by kernel_rfl) (fun _ _ _ h => h) (Or.inl ⟨by rfl, ?_⟩) (by assumption) ?_
    rotate_left
    · (intro w hSw; (try dsimp only at hSw); first | (go_simp; done) | (go_simp; with_reducible rfl))
    try simp only [Act.put, List.setIfInBounds_toArray, List.set_cons_zero, List.set_cons_succ]
    refine wpAnyH_take (i := 12) (oi := { dst := some 6, op := Op.assign (Operand.tmp 23), type := 29, pos := "journal.go:84", after := #[{ on := 10, ground := Ground.data }, { on := 11, ground := Ground.chain }, { on := 0, ground := Ground.phase }, { on := 1, ground := Ground.phase }, { on := 2, ground := Ground.phase }, { on := 3, ground := Ground.phase }, { on := 4, ground := Ground.phase }, { on := 5, ground := Ground.phase }, { on := 6, ground := Ground.phase }, { on := 7, ground := Ground.phase }, { on := 8, ground := Ground.phase }, { on := 9, ground := Ground.phase }, { on := 10, ground := Ground.phase }, { on := 11, ground := Ground.phase }], guard := none }) (v := ?_) rfl (by kernel_rfl) (by kernel_rfl) (by kernel_rfl) (fun _ _ _ h => h) (Or.inl ⟨by rfl, ?_⟩) (by assumption) ?_
    rotate_left
    · (intro w hSw; (try dsimp only at hSw); first | (go_simp; done) | (go_simp; with_reducible rfl))
    try simp only [Act.put, List.setIfInBounds_toArray, List.set_cons_zero, List.set_cons_succ]
    refine wpAnyH_done (by kernel_rfl) ?_ _
    go_wp2_with (fail)
    go_ret2
    exact ⟨0, by rw [HR.out]; rfl, by rw [HR.out]; exact ProgAt.to H.out.prog HB3.out, fun hc => by rw [HR.out] at hc; cases hc⟩
  | false =>
    have HRS := Lib.hid (show roomS p.data.toList most M = jroom p.data.toList most M by unfold roomS; rw [hg]; rfl)
    have HGS := Lib.hid (show getS (fileN p.data.toList n) M = (y.bytes, 0) by unfold getS; rw [hg, HY.out]; rfl)
    by_cases hfull : y.bytes ≠ [] ∧ most ≤ (y.bytes.length : Int)
    · obtain ⟨hnb, hml⟩ := hfull
      have HR := Lib.hid (show roomS p.data.toList most M = jturn p.data.toList M by rw [HRS.out]; unfold jroom; rw [← HN.out, HBY.out, if_pos ⟨hnb, hml⟩])
      have hemp := str_empty hnb
      have hemp2 : y.bytes.isEmpty = false := by cases hb : y.bytes with | nil => exact absurd hb hnb | cons _ _ => rfl
      have hlt : ¬ ((y.bytes.length : Int) < most) := by omega
      go_enter Tryz.func71, Tryz.ntmps71
      go_wp2_with (fail)
      refine (num_any n₀ w jb b p most M F H.out.prog H.out.ok H.out.j hp H.out.std0).mono ?_
      rintro e w1 ⟨rfl, hb1⟩
      rw [← HN.out]
      have HB1 := Lib.hid hb1
      have HX := Lib.hid (H.out.bel hb1)
      clear hb1
      go_wp2_with (fail)
      refine wp_region_held_drew (S := fun z => z.cell? ⟨jb, 0, none⟩ = some (.pointer (some ⟨b, 0, none⟩))) (by kernel_rfl) HX.out.j.files (fun hHeld => ?_)
      refine wpAnyH_take (i := 0) (oi := { dst := some 14, op := Op.move (Operand.tmp 0), type := 57, pos := "journal.go:84", after := #[], guard := none }) (v := ?_) rfl (by kernel_rfl) (by kernel_rfl) (by kernel_rfl) (fun _ _ _ h => h) (Or.inl ⟨by rfl, ?_⟩) (by assumption) ?_
      rotate_left
      · (intro w hSw; (try dsimp only at hSw); first | (go_simp; done) | (go_simp; with_reducible rfl))
      try simp only [Act.put, List.setIfInBounds_toArray, List.set_cons_zero, List.set_cons_succ]
      refine wpAnyH_take (i := 1) (oi := { dst := some 15, op := Op.nilCheck (Operand.tmp 14), type := 0, pos := "journal.go:84", after := #[{ on := 0, ground := Ground.data }], guard := none }) (v := ?_) rfl (by kernel_rfl) (by kernel_rfl) (by kernel_rfl) (fun _ _ _ h => h) (Or.inl ⟨by rfl, ?_⟩) (by assumption) ?_
      rotate_left
      · (intro w hSw; (try dsimp only at hSw); first | (go_simp; done) | (go_simp; with_reducible rfl))
      try simp only [Act.put, List.setIfInBounds_toArray, List.set_cons_zero, List.set_cons_succ]
      refine wpAnyH_take (i := 2) (oi := { dst := some 16, op := Op.fieldAddr 104 (Operand.tmp 15) 0, type := 0, pos := "journal.go:84", after := #[{ on := 1, ground := Ground.data }], guard := none }) (v := ?_) rfl (by kernel_rfl) (by kernel_rfl) (by kernel_rfl) (fun _ _ _ h => h) (Or.inl ⟨by rfl, ?_⟩) (by assumption) ?_
      rotate_left
      · (intro w hSw; (try dsimp only at hSw); first | (go_simp; done) | (go_simp; with_reducible rfl))
      try simp only [Act.put, List.setIfInBounds_toArray, List.set_cons_zero, List.set_cons_succ]
      refine wpAnyH_take (i := 3) (oi := { dst := some 17, op := Op.load 48 (Operand.tmp 16), type := 48, pos := "journal.go:84", after := #[{ on := 2, ground := Ground.data }], guard := none }) (v := ?_) rfl (by kernel_rfl) (by kernel_rfl) (by kernel_rfl) (fun _ _ _ h => h) (Or.inl ⟨by rfl, ?_⟩) (by assumption) ?_
      rotate_left
      · (intro w hSw; (try dsimp only at hSw); first | (go_simp; done) | (go_simp; with_reducible rfl))
      try simp only [Act.put, List.setIfInBounds_toArray, List.set_cons_zero, List.set_cons_succ]
      refine wpAnyH_take (i := 4) (oi := { dst := some 18, op := Op.move (Operand.tmp 0), type := 57, pos := "journal.go:84", after := #[], guard := none }) (v := ?_) rfl (by kernel_rfl) (by kernel_rfl) (by kernel_rfl) (fun _ _ _ h => h) (Or.inl ⟨by rfl, ?_⟩) (by assumption) ?_
      rotate_left
      · (intro w hSw; (try dsimp only at hSw); first | (go_simp; done) | (go_simp; with_reducible rfl))
      try simp only [Act.put, List.setIfInBounds_toArray, List.set_cons_zero, List.set_cons_succ]
      refine wpAnyH_take (i := 5) (oi := { dst := some 19, op := Op.move (Operand.tmp 4), type := 3, pos := "journal.go:84", after := #[], guard := none }) (v := ?_) rfl (by kernel_rfl) (by kernel_rfl) (by kernel_rfl) (fun _ _ _ h => h) (Or.inl ⟨by rfl, ?_⟩) (by assumption) ?_
      rotate_left
      · (intro w hSw; (try dsimp only at hSw); first | (go_simp; done) | (go_simp; with_reducible rfl))
      try simp only [Act.put, List.setIfInBounds_toArray, List.set_cons_zero, List.set_cons_succ]
      refine wpAnyH_ready (rs := [6]) (by kernel_rfl) (by simp) ?_
      refine AllReadyH.cons (o := { dst := some 20, op := Op.call { callee := Callee.value (Operand.func 72), args := #[Operand.tmp 18, Operand.tmp 19], argTypes := #[57, 3] }, type := 9, pos := "journal.go:84", after := #[{ on := 4, ground := Ground.data }, { on := 5, ground := Ground.data }], guard := none }) rfl (fun K hK => ?_) AllReadyH.nil
      go_simp
      refine (js_fileC (HX.out.bel (Bel.refl w1).drew) hp n (by omega)).mono ?_
      rintro e zf ⟨rfl, hbf⟩
      have HBf := Lib.hid ((Bel.refl w1).drew.trans hbf)
      have HXf := Lib.hid (HX.out.bel HBf.out)
      clear hbf
      dsimp only
      refine hK.out _ _ HXf.out.j.files (fun hHeld => ?_)
      clear hK K
      try simp only [Act.put, List.setIfInBounds_toArray, List.set_cons_zero, List.set_cons_succ]
      refine wpAnyH_ready (rs := [7]) (by kernel_rfl) (by simp) ?_
      refine AllReadyH.cons (o := { dst := some 21, op := Op.call { callee := Callee.value (Operand.func 49), args := #[Operand.tmp 17, Operand.tmp 20], argTypes := #[48, 9] }, type := 30, pos := "journal.go:84", after := #[{ on := 3, ground := Ground.data }, { on := 6, ground := Ground.data }, { on := 6, ground := Ground.chain }], guard := none }) rfl (fun K hK => ?_) AllReadyH.nil
      go_simp
      refine (pget_any n₀ zf b M F (⟨(fileN p.data.toList n).toArray⟩ : ByteArray) HXf.out.prog (by unfold maxLen; omega)).mono ?_
      rintro e w3 ⟨rfl, hb3⟩
      rw [str_list, HGS.out]
      have HB3 := Lib.hid (HB1.out.trans (HBf.out.trans hb3))
      have HX3 := Lib.hid (HXf.out.bel hb3)
      have cN := HX3.out.j.files
      clear hb3
      dsimp only
      refine hK.out _ _ cN (fun hHeld => ?_)
      clear hK K
      try simp only [Act.put, List.setIfInBounds_toArray, List.set_cons_zero, List.set_cons_succ]
      refine wpAnyH_take (i := 8) (oi := { dst := some 13, op := Op.move (Operand.tmp 21), type := 30, pos := "journal.go:84", after := #[{ on := 7, ground := Ground.data }], guard := none }) (v := ?_) rfl (by kernel_rfl) (by kernel_rfl) (by kernel_rfl) (fun _ _ _ h => h) (Or.inl ⟨by rfl, ?_⟩) (by assumption) ?_
      rotate_left
      · (intro w hSw; (try dsimp only at hSw); first | (go_simp; done) | (go_simp; with_reducible rfl))
      try simp only [Act.put, List.setIfInBounds_toArray, List.set_cons_zero, List.set_cons_succ]
      refine wpAnyH_take (i := 9) (oi := { dst := some 22, op := Op.extract (Operand.tmp 13) 0, type := 9, pos := "journal.go:84", after := #[{ on := 8, ground := Ground.data }], guard := none }) (v := ?_) rfl (by kernel_rfl) (by kernel_rfl) (by kernel_rfl) (fun _ _ _ h => h) (Or.inl ⟨by rfl, ?_⟩) (by assumption) ?_
      rotate_left
      · (intro w hSw; (try dsimp only at hSw); first | (go_simp; done) | (go_simp; with_reducible rfl))
      try simp only [Act.put, List.setIfInBounds_toArray, List.set_cons_zero, List.set_cons_succ]
      refine wpAnyH_take (i := 10) (oi := { dst := some 23, op := Op.extract (Operand.tmp 13) 1, type := 29, pos := "journal.go:84", after := #[{ on := 8, ground := Ground.data }, { on := 11, ground := Ground.gcOnly Departure.lateStores }], guard := none }) (v := ?_) rfl (by kernel_rfl) (by kernel_rfl) (by kernel_rfl) (fun _ _ _ h => h) (Or.inl ⟨by rfl, ?_⟩) (by assumption) ?_
      rotate_left
      · (intro w hSw; (try dsimp only at hSw); first | (go_simp; done) | (go_simp; with_reducible rfl))
      try simp only [Act.put, List.setIfInBounds_toArray, List.set_cons_zero, List.set_cons_succ]
      refine wpAnyH_take (i := 11) (oi := { dst := some 5, op := Op.assign (Operand.tmp 22), type := 9, pos := "journal.go:84", after := #[{ on := 9, ground := Ground.data }, { on := 7, ground := Ground.chain }, { on := 0, ground := Ground.phase }, { on := 1, ground := Ground.phase }, { on := 2, ground := Ground.phase }, { on := 3, ground := Ground.phase }, { on := 4, ground := Ground.phase }, { on := 5, ground := Ground.phase }, { on := 6, ground := Ground.phase }, { on := 7, ground := Ground.phase }, { on := 8, ground := Ground.phase }, { on := 9, ground := Ground.phase }, { on := 10, ground := Ground.textOnly Departure.lateStores }], guard := none }) (v := ?_) rfl (by kernel_rfl) (by kernel_rfl) (by kernel_rfl) (fun _ _ _ h => h) (Or.inl ⟨by rfl, ?_⟩) (by assumption) ?_
      rotate_left
      · (intro w hSw; (try dsimp only at hSw); first | (go_simp; done) | (go_simp; with_reducible rfl))
      try simp only [Act.put, List.setIfInBounds_toArray, List.set_cons_zero, List.set_cons_succ]
      refine wpAnyH_take (i := 12) (oi := { dst := some 6, op := Op.assign (Operand.tmp 23), type := 29, pos := "journal.go:84", after := #[{ on := 10, ground := Ground.data }, { on := 11, ground := Ground.chain }, { on := 0, ground := Ground.phase }, { on := 1, ground := Ground.phase }, { on := 2, ground := Ground.phase }, { on := 3, ground := Ground.phase }, { on := 4, ground := Ground.phase }, { on := 5, ground := Ground.phase }, { on := 6, ground := Ground.phase }, { on := 7, ground := Ground.phase }, { on := 8, ground := Ground.phase }, { on := 9, ground := Ground.phase }, { on := 10, ground := Ground.phase }, { on := 11, ground := Ground.phase }], guard := none }) (v := ?_) rfl (by kernel_rfl) (by kernel_rfl) (by kernel_rfl) (fun _ _ _ h => h) (Or.inl ⟨by rfl, ?_⟩) (by assumption) ?_
      rotate_left
      · (intro w hSw; (try dsimp only at hSw); first | (go_simp; done) | (go_simp; with_reducible rfl))
      try simp only [Act.put, List.setIfInBounds_toArray, List.set_cons_zero, List.set_cons_succ]
      refine wpAnyH_done (by kernel_rfl) ?_ _
      have c2 := HX3.out.j.most
      clear cN
      go_wp2_with (fail)
      refine (jturn_any n₀ w3 b M F jb p most HX3.out hp (by rw [← HN.out]; exact h9)).mono ?_
      rintro e w4 ⟨rfl, hT⟩
      have HT := Lib.hid (hT.before HB3.out)
      clear hT
      have hwr : IntKind.i64.wrap ((n : Int) + 1) = (n : Int) + 1 := IntWalk.i64_in _ (by omega)
      go_wp2_with (fail)
      go_ret2
      exact ⟨n + 1, by rw [HR.out]; rfl, by rw [HR.out]; exact HT.out, fun hc => by
        rw [HR.out] at hc ⊢
        rw [jturn_last H.out.ok (by rw [← HN.out]; exact h9) hc, ← HN.out]⟩
    · have HR := Lib.hid (show roomS p.data.toList most M = (0, M) by rw [HRS.out]; unfold jroom; rw [← HN.out, HBY.out, if_neg hfull])
      by_cases hnb : y.bytes = []
      · have hemp : (⟨y.bytes.toArray⟩ : ByteArray) = ⟨#[]⟩ := by rw [hnb]
        have HE := Lib.hid hemp
        clear hfull
        go_enter Tryz.func71, Tryz.ntmps71
        go_wp2_with (fail)
        refine (num_any n₀ w jb b p most M F H.out.prog H.out.ok H.out.j hp H.out.std0).mono ?_
        rintro e w1 ⟨rfl, hb1⟩
        rw [← HN.out]
        have HB1 := Lib.hid hb1
        have HX := Lib.hid (H.out.bel hb1)
        clear hb1
        go_wp2_with (fail)
        refine wp_region_held_drew (S := fun z => z.cell? ⟨jb, 0, none⟩ = some (.pointer (some ⟨b, 0, none⟩))) (by kernel_rfl) HX.out.j.files (fun hHeld => ?_)
        refine wpAnyH_take (i := 0) (oi := { dst := some 14, op := Op.move (Operand.tmp 0), type := 57, pos := "journal.go:84", after := #[], guard := none }) (v := ?_) rfl (by kernel_rfl) (by kernel_rfl) (by kernel_rfl) (fun _ _ _ h => h) (Or.inl ⟨by rfl, ?_⟩) (by assumption) ?_
        rotate_left
        · (intro w hSw; (try dsimp only at hSw); first | (go_simp; done) | (go_simp; with_reducible rfl))
        try simp only [Act.put, List.setIfInBounds_toArray, List.set_cons_zero, List.set_cons_succ]
        refine wpAnyH_take (i := 1) (oi := { dst := some 15, op := Op.nilCheck (Operand.tmp 14), type := 0, pos := "journal.go:84", after := #[{ on := 0, ground := Ground.data }], guard := none }) (v := ?_) rfl (by kernel_rfl) (by kernel_rfl) (by kernel_rfl) (fun _ _ _ h => h) (Or.inl ⟨by rfl, ?_⟩) (by assumption) ?_
        rotate_left
        · (intro w hSw; (try dsimp only at hSw); first | (go_simp; done) | (go_simp; with_reducible rfl))
        try simp only [Act.put, List.setIfInBounds_toArray, List.set_cons_zero, List.set_cons_succ]
        refine wpAnyH_take (i := 2) (oi := { dst := some 16, op := Op.fieldAddr 104 (Operand.tmp 15) 0, type := 0, pos := "journal.go:84", after := #[{ on := 1, ground := Ground.data }], guard := none }) (v := ?_) rfl (by kernel_rfl) (by kernel_rfl) (by kernel_rfl) (fun _ _ _ h => h) (Or.inl ⟨by rfl, ?_⟩) (by assumption) ?_
        rotate_left
        · (intro w hSw; (try dsimp only at hSw); first | (go_simp; done) | (go_simp; with_reducible rfl))
        try simp only [Act.put, List.setIfInBounds_toArray, List.set_cons_zero, List.set_cons_succ]
        refine wpAnyH_take (i := 3) (oi := { dst := some 17, op := Op.load 48 (Operand.tmp 16), type := 48, pos := "journal.go:84", after := #[{ on := 2, ground := Ground.data }], guard := none }) (v := ?_) rfl (by kernel_rfl) (by kernel_rfl) (by kernel_rfl) (fun _ _ _ h => h) (Or.inl ⟨by rfl, ?_⟩) (by assumption) ?_
        rotate_left
        · (intro w hSw; (try dsimp only at hSw); first | (go_simp; done) | (go_simp; with_reducible rfl))
        try simp only [Act.put, List.setIfInBounds_toArray, List.set_cons_zero, List.set_cons_succ]
        refine wpAnyH_take (i := 4) (oi := { dst := some 18, op := Op.move (Operand.tmp 0), type := 57, pos := "journal.go:84", after := #[], guard := none }) (v := ?_) rfl (by kernel_rfl) (by kernel_rfl) (by kernel_rfl) (fun _ _ _ h => h) (Or.inl ⟨by rfl, ?_⟩) (by assumption) ?_
        rotate_left
        · (intro w hSw; (try dsimp only at hSw); first | (go_simp; done) | (go_simp; with_reducible rfl))
        try simp only [Act.put, List.setIfInBounds_toArray, List.set_cons_zero, List.set_cons_succ]
        refine wpAnyH_take (i := 5) (oi := { dst := some 19, op := Op.move (Operand.tmp 4), type := 3, pos := "journal.go:84", after := #[], guard := none }) (v := ?_) rfl (by kernel_rfl) (by kernel_rfl) (by kernel_rfl) (fun _ _ _ h => h) (Or.inl ⟨by rfl, ?_⟩) (by assumption) ?_
        rotate_left
        · (intro w hSw; (try dsimp only at hSw); first | (go_simp; done) | (go_simp; with_reducible rfl))
        try simp only [Act.put, List.setIfInBounds_toArray, List.set_cons_zero, List.set_cons_succ]
        refine wpAnyH_ready (rs := [6]) (by kernel_rfl) (by simp) ?_
        refine AllReadyH.cons (o := { dst := some 20, op := Op.call { callee := Callee.value (Operand.func 72), args := #[Operand.tmp 18, Operand.tmp 19], argTypes := #[57, 3] }, type := 9, pos := "journal.go:84", after := #[{ on := 4, ground := Ground.data }, { on := 5, ground := Ground.data }], guard := none }) rfl (fun K hK => ?_) AllReadyH.nil
        go_simp
        refine (js_fileC (HX.out.bel (Bel.refl w1).drew) hp n (by omega)).mono ?_
        rintro e zf ⟨rfl, hbf⟩
        have HBf := Lib.hid ((Bel.refl w1).drew.trans hbf)
        have HXf := Lib.hid (HX.out.bel HBf.out)
        clear hbf
        dsimp only
        refine hK.out _ _ HXf.out.j.files (fun hHeld => ?_)
        clear hK K
        try simp only [Act.put, List.setIfInBounds_toArray, List.set_cons_zero, List.set_cons_succ]
        refine wpAnyH_ready (rs := [7]) (by kernel_rfl) (by simp) ?_
        refine AllReadyH.cons (o := { dst := some 21, op := Op.call { callee := Callee.value (Operand.func 49), args := #[Operand.tmp 17, Operand.tmp 20], argTypes := #[48, 9] }, type := 30, pos := "journal.go:84", after := #[{ on := 3, ground := Ground.data }, { on := 6, ground := Ground.data }, { on := 6, ground := Ground.chain }], guard := none }) rfl (fun K hK => ?_) AllReadyH.nil
        go_simp
        refine (pget_any n₀ zf b M F (⟨(fileN p.data.toList n).toArray⟩ : ByteArray) HXf.out.prog (by unfold maxLen; omega)).mono ?_
        rintro e w3 ⟨rfl, hb3⟩
        rw [str_list, HGS.out, HE.out]
        have HB3 := Lib.hid (HB1.out.trans (HBf.out.trans hb3))
        have HX3 := Lib.hid (HXf.out.bel hb3)
        have cN := HX3.out.j.files
        clear hb3
        dsimp only
        refine hK.out _ _ cN (fun hHeld => ?_)
        clear hK K
        try simp only [Act.put, List.setIfInBounds_toArray, List.set_cons_zero, List.set_cons_succ]
        refine wpAnyH_take (i := 8) (oi := { dst := some 13, op := Op.move (Operand.tmp 21), type := 30, pos := "journal.go:84", after := #[{ on := 7, ground := Ground.data }], guard := none }) (v := ?_) rfl (by kernel_rfl) (by kernel_rfl) (by kernel_rfl) (fun _ _ _ h => h) (Or.inl ⟨by rfl, ?_⟩) (by assumption) ?_
        rotate_left
        · (intro w hSw; (try dsimp only at hSw); first | (go_simp; done) | (go_simp; with_reducible rfl))
        try simp only [Act.put, List.setIfInBounds_toArray, List.set_cons_zero, List.set_cons_succ]
        refine wpAnyH_take (i := 9) (oi := { dst := some 22, op := Op.extract (Operand.tmp 13) 0, type := 9, pos := "journal.go:84", after := #[{ on := 8, ground := Ground.data }], guard := none }) (v := ?_) rfl (by kernel_rfl) (by kernel_rfl) (by kernel_rfl) (fun _ _ _ h => h) (Or.inl ⟨by rfl, ?_⟩) (by assumption) ?_
        rotate_left
        · (intro w hSw; (try dsimp only at hSw); first | (go_simp; done) | (go_simp; with_reducible rfl))
        try simp only [Act.put, List.setIfInBounds_toArray, List.set_cons_zero, List.set_cons_succ]
        refine wpAnyH_take (i := 10) (oi := { dst := some 23, op := Op.extract (Operand.tmp 13) 1, type := 29, pos := "journal.go:84", after := #[{ on := 8, ground := Ground.data }, { on := 11, ground := Ground.gcOnly Departure.lateStores }], guard := none }) (v := ?_) rfl (by kernel_rfl) (by kernel_rfl) (by kernel_rfl) (fun _ _ _ h => h) (Or.inl ⟨by rfl, ?_⟩) (by assumption) ?_
        rotate_left
        · (intro w hSw; (try dsimp only at hSw); first | (go_simp; done) | (go_simp; with_reducible rfl))
        try simp only [Act.put, List.setIfInBounds_toArray, List.set_cons_zero, List.set_cons_succ]
        refine wpAnyH_take (i := 11) (oi := { dst := some 5, op := Op.assign (Operand.tmp 22), type := 9, pos := "journal.go:84", after := #[{ on := 9, ground := Ground.data }, { on := 7, ground := Ground.chain }, { on := 0, ground := Ground.phase }, { on := 1, ground := Ground.phase }, { on := 2, ground := Ground.phase }, { on := 3, ground := Ground.phase }, { on := 4, ground := Ground.phase }, { on := 5, ground := Ground.phase }, { on := 6, ground := Ground.phase }, { on := 7, ground := Ground.phase }, { on := 8, ground := Ground.phase }, { on := 9, ground := Ground.phase }, { on := 10, ground := Ground.textOnly Departure.lateStores }], guard := none }) (v := ?_) rfl (by kernel_rfl) (by kernel_rfl) (by kernel_rfl) (fun _ _ _ h => h) (Or.inl ⟨by rfl, ?_⟩) (by assumption) ?_
        rotate_left
        · (intro w hSw; (try dsimp only at hSw); first | (go_simp; done) | (go_simp; with_reducible rfl))
        try simp only [Act.put, List.setIfInBounds_toArray, List.set_cons_zero, List.set_cons_succ]
        refine wpAnyH_take (i := 12) (oi := { dst := some 6, op := Op.assign (Operand.tmp 23), type := 29, pos := "journal.go:84", after := #[{ on := 10, ground := Ground.data }, { on := 11, ground := Ground.chain }, { on := 0, ground := Ground.phase }, { on := 1, ground := Ground.phase }, { on := 2, ground := Ground.phase }, { on := 3, ground := Ground.phase }, { on := 4, ground := Ground.phase }, { on := 5, ground := Ground.phase }, { on := 6, ground := Ground.phase }, { on := 7, ground := Ground.phase }, { on := 8, ground := Ground.phase }, { on := 9, ground := Ground.phase }, { on := 10, ground := Ground.phase }, { on := 11, ground := Ground.phase }], guard := none }) (v := ?_) rfl (by kernel_rfl) (by kernel_rfl) (by kernel_rfl) (fun _ _ _ h => h) (Or.inl ⟨by rfl, ?_⟩) (by assumption) ?_
        rotate_left
        · (intro w hSw; (try dsimp only at hSw); first | (go_simp; done) | (go_simp; with_reducible rfl))
        try simp only [Act.put, List.setIfInBounds_toArray, List.set_cons_zero, List.set_cons_succ]
        refine wpAnyH_done (by kernel_rfl) ?_ _
        clear hemp
        go_wp2_with (fail)
        go_ret2
        exact ⟨n, by rw [HR.out]; rfl, by rw [HR.out]; exact ProgAt.to H.out.prog HB3.out, fun hc => by rw [HR.out]; exact HN.out⟩
      · have hlt : ((y.bytes.length : Int) < most) := by
          rcases Int.lt_or_le (y.bytes.length : Int) most with h | h
          · exact h
          · exact absurd ⟨hnb, h⟩ hfull
        have hemp := str_empty hnb
        have hemp2 : y.bytes.isEmpty = false := by cases hb : y.bytes with | nil => exact absurd hb hnb | cons _ _ => rfl
        clear hfull
        go_enter Tryz.func71, Tryz.ntmps71
        go_wp2_with (fail)
        refine (num_any n₀ w jb b p most M F H.out.prog H.out.ok H.out.j hp H.out.std0).mono ?_
        rintro e w1 ⟨rfl, hb1⟩
        rw [← HN.out]
        have HB1 := Lib.hid hb1
        have HX := Lib.hid (H.out.bel hb1)
        clear hb1
        go_wp2_with (fail)
        refine wp_region_held_drew (S := fun z => z.cell? ⟨jb, 0, none⟩ = some (.pointer (some ⟨b, 0, none⟩))) (by kernel_rfl) HX.out.j.files (fun hHeld => ?_)
        refine wpAnyH_take (i := 0) (oi := { dst := some 14, op := Op.move (Operand.tmp 0), type := 57, pos := "journal.go:84", after := #[], guard := none }) (v := ?_) rfl (by kernel_rfl) (by kernel_rfl) (by kernel_rfl) (fun _ _ _ h => h) (Or.inl ⟨by rfl, ?_⟩) (by assumption) ?_
        rotate_left
        · (intro w hSw; (try dsimp only at hSw); first | (go_simp; done) | (go_simp; with_reducible rfl))
        try simp only [Act.put, List.setIfInBounds_toArray, List.set_cons_zero, List.set_cons_succ]
        refine wpAnyH_take (i := 1) (oi := { dst := some 15, op := Op.nilCheck (Operand.tmp 14), type := 0, pos := "journal.go:84", after := #[{ on := 0, ground := Ground.data }], guard := none }) (v := ?_) rfl (by kernel_rfl) (by kernel_rfl) (by kernel_rfl) (fun _ _ _ h => h) (Or.inl ⟨by rfl, ?_⟩) (by assumption) ?_
        rotate_left
        · (intro w hSw; (try dsimp only at hSw); first | (go_simp; done) | (go_simp; with_reducible rfl))
        try simp only [Act.put, List.setIfInBounds_toArray, List.set_cons_zero, List.set_cons_succ]
        refine wpAnyH_take (i := 2) (oi := { dst := some 16, op := Op.fieldAddr 104 (Operand.tmp 15) 0, type := 0, pos := "journal.go:84", after := #[{ on := 1, ground := Ground.data }], guard := none }) (v := ?_) rfl (by kernel_rfl) (by kernel_rfl) (by kernel_rfl) (fun _ _ _ h => h) (Or.inl ⟨by rfl, ?_⟩) (by assumption) ?_
        rotate_left
        · (intro w hSw; (try dsimp only at hSw); first | (go_simp; done) | (go_simp; with_reducible rfl))
        try simp only [Act.put, List.setIfInBounds_toArray, List.set_cons_zero, List.set_cons_succ]
        refine wpAnyH_take (i := 3) (oi := { dst := some 17, op := Op.load 48 (Operand.tmp 16), type := 48, pos := "journal.go:84", after := #[{ on := 2, ground := Ground.data }], guard := none }) (v := ?_) rfl (by kernel_rfl) (by kernel_rfl) (by kernel_rfl) (fun _ _ _ h => h) (Or.inl ⟨by rfl, ?_⟩) (by assumption) ?_
        rotate_left
        · (intro w hSw; (try dsimp only at hSw); first | (go_simp; done) | (go_simp; with_reducible rfl))
        try simp only [Act.put, List.setIfInBounds_toArray, List.set_cons_zero, List.set_cons_succ]
        refine wpAnyH_take (i := 4) (oi := { dst := some 18, op := Op.move (Operand.tmp 0), type := 57, pos := "journal.go:84", after := #[], guard := none }) (v := ?_) rfl (by kernel_rfl) (by kernel_rfl) (by kernel_rfl) (fun _ _ _ h => h) (Or.inl ⟨by rfl, ?_⟩) (by assumption) ?_
        rotate_left
        · (intro w hSw; (try dsimp only at hSw); first | (go_simp; done) | (go_simp; with_reducible rfl))
        try simp only [Act.put, List.setIfInBounds_toArray, List.set_cons_zero, List.set_cons_succ]
        refine wpAnyH_take (i := 5) (oi := { dst := some 19, op := Op.move (Operand.tmp 4), type := 3, pos := "journal.go:84", after := #[], guard := none }) (v := ?_) rfl (by kernel_rfl) (by kernel_rfl) (by kernel_rfl) (fun _ _ _ h => h) (Or.inl ⟨by rfl, ?_⟩) (by assumption) ?_
        rotate_left
        · (intro w hSw; (try dsimp only at hSw); first | (go_simp; done) | (go_simp; with_reducible rfl))
        try simp only [Act.put, List.setIfInBounds_toArray, List.set_cons_zero, List.set_cons_succ]
        refine wpAnyH_ready (rs := [6]) (by kernel_rfl) (by simp) ?_
        refine AllReadyH.cons (o := { dst := some 20, op := Op.call { callee := Callee.value (Operand.func 72), args := #[Operand.tmp 18, Operand.tmp 19], argTypes := #[57, 3] }, type := 9, pos := "journal.go:84", after := #[{ on := 4, ground := Ground.data }, { on := 5, ground := Ground.data }], guard := none }) rfl (fun K hK => ?_) AllReadyH.nil
        go_simp
        refine (js_fileC (HX.out.bel (Bel.refl w1).drew) hp n (by omega)).mono ?_
        rintro e zf ⟨rfl, hbf⟩
        have HBf := Lib.hid ((Bel.refl w1).drew.trans hbf)
        have HXf := Lib.hid (HX.out.bel HBf.out)
        clear hbf
        dsimp only
        refine hK.out _ _ HXf.out.j.files (fun hHeld => ?_)
        clear hK K
        try simp only [Act.put, List.setIfInBounds_toArray, List.set_cons_zero, List.set_cons_succ]
        refine wpAnyH_ready (rs := [7]) (by kernel_rfl) (by simp) ?_
        refine AllReadyH.cons (o := { dst := some 21, op := Op.call { callee := Callee.value (Operand.func 49), args := #[Operand.tmp 17, Operand.tmp 20], argTypes := #[48, 9] }, type := 30, pos := "journal.go:84", after := #[{ on := 3, ground := Ground.data }, { on := 6, ground := Ground.data }, { on := 6, ground := Ground.chain }], guard := none }) rfl (fun K hK => ?_) AllReadyH.nil
        go_simp
        refine (pget_any n₀ zf b M F (⟨(fileN p.data.toList n).toArray⟩ : ByteArray) HXf.out.prog (by unfold maxLen; omega)).mono ?_
        rintro e w3 ⟨rfl, hb3⟩
        rw [str_list, HGS.out]
        have HB3 := Lib.hid (HB1.out.trans (HBf.out.trans hb3))
        have HX3 := Lib.hid (HXf.out.bel hb3)
        have cN := HX3.out.j.files
        clear hb3
        dsimp only
        refine hK.out _ _ cN (fun hHeld => ?_)
        clear hK K
        try simp only [Act.put, List.setIfInBounds_toArray, List.set_cons_zero, List.set_cons_succ]
        refine wpAnyH_take (i := 8) (oi := { dst := some 13, op := Op.move (Operand.tmp 21), type := 30, pos := "journal.go:84", after := #[{ on := 7, ground := Ground.data }], guard := none }) (v := ?_) rfl (by kernel_rfl) (by kernel_rfl) (by kernel_rfl) (fun _ _ _ h => h) (Or.inl ⟨by rfl, ?_⟩) (by assumption) ?_
        rotate_left
        · (intro w hSw; (try dsimp only at hSw); first | (go_simp; done) | (go_simp; with_reducible rfl))
        try simp only [Act.put, List.setIfInBounds_toArray, List.set_cons_zero, List.set_cons_succ]
        refine wpAnyH_take (i := 9) (oi := { dst := some 22, op := Op.extract (Operand.tmp 13) 0, type := 9, pos := "journal.go:84", after := #[{ on := 8, ground := Ground.data }], guard := none }) (v := ?_) rfl (by kernel_rfl) (by kernel_rfl) (by kernel_rfl) (fun _ _ _ h => h) (Or.inl ⟨by rfl, ?_⟩) (by assumption) ?_
        rotate_left
        · (intro w hSw; (try dsimp only at hSw); first | (go_simp; done) | (go_simp; with_reducible rfl))
        try simp only [Act.put, List.setIfInBounds_toArray, List.set_cons_zero, List.set_cons_succ]
        refine wpAnyH_take (i := 10) (oi := { dst := some 23, op := Op.extract (Operand.tmp 13) 1, type := 29, pos := "journal.go:84", after := #[{ on := 8, ground := Ground.data }, { on := 11, ground := Ground.gcOnly Departure.lateStores }], guard := none }) (v := ?_) rfl (by kernel_rfl) (by kernel_rfl) (by kernel_rfl) (fun _ _ _ h => h) (Or.inl ⟨by rfl, ?_⟩) (by assumption) ?_
        rotate_left
        · (intro w hSw; (try dsimp only at hSw); first | (go_simp; done) | (go_simp; with_reducible rfl))
        try simp only [Act.put, List.setIfInBounds_toArray, List.set_cons_zero, List.set_cons_succ]
        refine wpAnyH_take (i := 11) (oi := { dst := some 5, op := Op.assign (Operand.tmp 22), type := 9, pos := "journal.go:84", after := #[{ on := 9, ground := Ground.data }, { on := 7, ground := Ground.chain }, { on := 0, ground := Ground.phase }, { on := 1, ground := Ground.phase }, { on := 2, ground := Ground.phase }, { on := 3, ground := Ground.phase }, { on := 4, ground := Ground.phase }, { on := 5, ground := Ground.phase }, { on := 6, ground := Ground.phase }, { on := 7, ground := Ground.phase }, { on := 8, ground := Ground.phase }, { on := 9, ground := Ground.phase }, { on := 10, ground := Ground.textOnly Departure.lateStores }], guard := none }) (v := ?_) rfl (by kernel_rfl) (by kernel_rfl) (by kernel_rfl) (fun _ _ _ h => h) (Or.inl ⟨by rfl, ?_⟩) (by assumption) ?_
        rotate_left
        · (intro w hSw; (try dsimp only at hSw); first | (go_simp; done) | (go_simp; with_reducible rfl))
        try simp only [Act.put, List.setIfInBounds_toArray, List.set_cons_zero, List.set_cons_succ]
        refine wpAnyH_take (i := 12) (oi := { dst := some 6, op := Op.assign (Operand.tmp 23), type := 29, pos := "journal.go:84", after := #[{ on := 10, ground := Ground.data }, { on := 11, ground := Ground.chain }, { on := 0, ground := Ground.phase }, { on := 1, ground := Ground.phase }, { on := 2, ground := Ground.phase }, { on := 3, ground := Ground.phase }, { on := 4, ground := Ground.phase }, { on := 5, ground := Ground.phase }, { on := 6, ground := Ground.phase }, { on := 7, ground := Ground.phase }, { on := 8, ground := Ground.phase }, { on := 9, ground := Ground.phase }, { on := 10, ground := Ground.phase }, { on := 11, ground := Ground.phase }], guard := none }) (v := ?_) rfl (by kernel_rfl) (by kernel_rfl) (by kernel_rfl) (fun _ _ _ h => h) (Or.inl ⟨by rfl, ?_⟩) (by assumption) ?_
        rotate_left
        · (intro w hSw; (try dsimp only at hSw); first | (go_simp; done) | (go_simp; with_reducible rfl))
        try simp only [Act.put, List.setIfInBounds_toArray, List.set_cons_zero, List.set_cons_succ]
        refine wpAnyH_done (by kernel_rfl) ?_ _
        have c2 := HX3.out.j.most
        clear cN
        go_wp2_with (fail)
        go_ret2
        exact ⟨n, by rw [HR.out]; rfl, by rw [HR.out]; exact ProgAt.to H.out.prog HB3.out, fun hc => by rw [HR.out]; exact HN.out⟩

set_option maxHeartbeats 4000000 in
set_option maxRecDepth 20000 in
theorem write_any (n₀ : Nat) (w : World) (b : Nat) (M : RS) (F : List Nat) (jb : Nat) (p : ByteArray) (most : Int) (lp : Option Addr) (lc : Nat) (L : List (List UInt8)) (h : JS n₀ w b M F jb p most) (hp : p.size ≤ 100) (h0 : lastN p.data.toList M.L ≠ 0) (h9 : lastN p.data.toList M.L < 9999999) (hmost : in64 most)
    (hl : StrsAt w lp L) (hL : L.length ≤ maxLen) (ht : ∀ t ∈ L, t.length ≤ 1000000) :
    Calls Tryz.prog 30 #[.pointer (some ⟨jb, 0, none⟩), .slice lp L.length lc] w fun e y => e = .returned (.int .i64 (jwrite p.data.toList most L M).1) ∧ ProgTo n₀ w y b (jwrite p.data.toList most L M).2 F := by
  have H := Lib.hid h
  have HMS := Lib.hid hmost
  have HC := Lib.hid (batch_any w lp lc L hl hL ht)
  have HLL := Lib.hid hL
  have hbl := batch_len L
  have hpl : p.data.toList.length = p.size := rfl
  have HRO := Lib.hid (roomS_ok h.ok p.data.toList most)
  obtain ⟨s, e0, hB⟩ : ∃ s e0, batchS L = (s, e0) := ⟨_, _, rfl⟩
  have HBV := Lib.hid (show batchV L = .tuple #[.string ⟨s.toArray⟩, .int .i64 e0] by unfold batchV; rw [hB])
  rw [hB] at hbl
  simp only at hbl
  have hsz := str_len s
  obtain ⟨r, M1, hR⟩ : ∃ r M1, roomS p.data.toList most M = (r, M1) := ⟨_, _, rfl⟩
  have HR := Lib.hid hR
  rw [hR] at HRO
  have HRO1 := Lib.hid (show M1.ok from HRO.out)
  have HW := Lib.hid (show jwrite p.data.toList most L M = if e0 ≠ 0 then (e0, M) else if r ≠ 0 then (r, M1) else jput (fileN p.data.toList (lastN p.data.toList M1.L)) (frameL s) M1 by
    unfold jwrite
    rw [hB]
    unfold roomS at hR
    by_cases hg : M.gone = true
    · rw [if_pos hg] at hR ⊢
      simp only [Prod.mk.injEq] at hR
      obtain ⟨rfl, rfl⟩ := hR
      simp
    · rw [if_neg hg] at hR ⊢
      rw [hR])
  have H0 := Lib.hid h0
  have H9 := Lib.hid h9
  clear h hB hR hmost hl hL ht HRO h0 h9
  go_enter Tryz.func30, Tryz.ntmps30
  go_wp2_with (fail)
  refine HC.out.mono ?_
  rintro e w1 ⟨rfl, hb1⟩
  rw [HBV.out]
  have HB1 := Lib.hid hb1
  clear hb1
  by_cases he0 : e0 = 0
  · subst he0
    rw [if_neg (by simp)] at HW
    go_wp2_with (fail)
    refine (frame_ok ⟨s.toArray⟩ _ (by omega)).mono ?_
    rintro e w2 ⟨rfl, hb2⟩
    rw [frameV, str_list]
    have HB2 := Lib.hid (HB1.out.trans hb2)
    have HX2 := Lib.hid (H.out.bel HB2.out)
    clear hb2
    go_wp2_with (fail)
    refine (withroom_any n₀ w2 b M F jb p most HX2.out hp H0.out H9.out HMS.out).mono ?_
    rintro e w3 ⟨m, rfl, hT, hm⟩
    rw [HR.out] at hT hm ⊢
    by_cases hr : r = 0
    · subst hr
      rw [if_neg (by simp)] at HW
      have hmm : m = lastN p.data.toList M1.L := hm rfl
      have hm9 : m ≤ 9999999 := by rw [hmm]; exact last_le _ _
      have HMM := Lib.hid hmm
      obtain ⟨F3, hX3, hK3, hF3⟩ := HX2.out.step hT HRO1.out
      have HX := Lib.hid hX3
      have HK3 := Lib.hid ((Keep.of_bel HB2.out F).trans hK3 (fun x hx => Or.inl hx))
      have HF3 := Lib.hid (show ∀ k ∈ F3, k ∈ F ∨ w.heap.size ≤ k from fun k hk => (hF3 k hk).imp id (fun h => Nat.le_trans HB2.out.size h))
      clear hT hm hmm hX3 hK3 hF3
      have hfl := file_len p.data.toList (n := m) (by omega)
      have hfz := str_len (fileN p.data.toList m)
      have hfrz := str_len (frameL s)
      have hfrl := frame_len s
      have hszN := szN_le s.length
      obtain ⟨ra, M2, hA⟩ : ∃ ra M2, addS (fileN p.data.toList m) (frameL s) M1 = (ra, M2) := ⟨_, _, rfl⟩
      have HA := Lib.hid hA
      have HM2 := Lib.hid (show M2.ok by have := add_ok HRO1.out (fileN p.data.toList m) (frameL s); rwa [hA] at this)
      have HJP := Lib.hid (show jput (fileN p.data.toList (lastN p.data.toList M1.L)) (frameL s) M1 = if ra ≠ 0 then (ra, M2) else flushS (fileN p.data.toList m) M2 by
        unfold jput; rw [← HMM.out, HA.out])
      rw [HJP.out] at HW
      clear hA
      go_wp2_with (fail)
      refine wp_region_held_drew (S := fun z => z.cell? ⟨jb, 0, none⟩ = some (.pointer (some ⟨b, 0, none⟩))) (by kernel_rfl) HX.out.j.files (fun hHeld => ?_)
      refine wpAnyH_take (i := 0) (oi := { dst := some 34, op := Op.move (Operand.tmp 0), type := 57, pos := "journal.go:72", after := #[], guard := none }) (v := ?_) rfl (by kernel_rfl) (by kernel_rfl) (by kernel_rfl) (fun _ _ _ h => h) (Or.inl ⟨by rfl, ?_⟩) (by assumption) ?_
      rotate_left
      · (intro w hSw; (try dsimp only at hSw); first | (go_simp; done) | (go_simp; with_reducible rfl))
      try simp only [Act.put, List.setIfInBounds_toArray, List.set_cons_zero, List.set_cons_succ]
      refine wpAnyH_take (i := 1) (oi := { dst := some 35, op := Op.nilCheck (Operand.tmp 34), type := 0, pos := "journal.go:72", after := #[{ on := 0, ground := Ground.data }], guard := none }) (v := ?_) rfl (by kernel_rfl) (by kernel_rfl) (by kernel_rfl) (fun _ _ _ h => h) (Or.inl ⟨by rfl, ?_⟩) (by assumption) ?_
      rotate_left
      · (intro w hSw; (try dsimp only at hSw); first | (go_simp; done) | (go_simp; with_reducible rfl))
      try simp only [Act.put, List.setIfInBounds_toArray, List.set_cons_zero, List.set_cons_succ]
      refine wpAnyH_take (i := 2) (oi := { dst := some 36, op := Op.fieldAddr 104 (Operand.tmp 35) 0, type := 0, pos := "journal.go:72", after := #[{ on := 1, ground := Ground.data }], guard := none }) (v := ?_) rfl (by kernel_rfl) (by kernel_rfl) (by kernel_rfl) (fun _ _ _ h => h) (Or.inl ⟨by rfl, ?_⟩) (by assumption) ?_
      rotate_left
      · (intro w hSw; (try dsimp only at hSw); first | (go_simp; done) | (go_simp; with_reducible rfl))
      try simp only [Act.put, List.setIfInBounds_toArray, List.set_cons_zero, List.set_cons_succ]
      refine wpAnyH_take (i := 3) (oi := { dst := some 37, op := Op.load 48 (Operand.tmp 36), type := 48, pos := "journal.go:72", after := #[{ on := 2, ground := Ground.data }], guard := none }) (v := ?_) rfl (by kernel_rfl) (by kernel_rfl) (by kernel_rfl) (fun _ _ _ h => h) (Or.inl ⟨by rfl, ?_⟩) (by assumption) ?_
      rotate_left
      · (intro w hSw; (try dsimp only at hSw); first | (go_simp; done) | (go_simp; with_reducible rfl))
      try simp only [Act.put, List.setIfInBounds_toArray, List.set_cons_zero, List.set_cons_succ]
      refine wpAnyH_take (i := 4) (oi := { dst := some 38, op := Op.move (Operand.tmp 0), type := 57, pos := "journal.go:72", after := #[], guard := none }) (v := ?_) rfl (by kernel_rfl) (by kernel_rfl) (by kernel_rfl) (fun _ _ _ h => h) (Or.inl ⟨by rfl, ?_⟩) (by assumption) ?_
      rotate_left
      · (intro w hSw; (try dsimp only at hSw); first | (go_simp; done) | (go_simp; with_reducible rfl))
      try simp only [Act.put, List.setIfInBounds_toArray, List.set_cons_zero, List.set_cons_succ]
      refine wpAnyH_take (i := 5) (oi := { dst := some 39, op := Op.move (Operand.tmp 8), type := 3, pos := "journal.go:72", after := #[], guard := none }) (v := ?_) rfl (by kernel_rfl) (by kernel_rfl) (by kernel_rfl) (fun _ _ _ h => h) (Or.inl ⟨by rfl, ?_⟩) (by assumption) ?_
      rotate_left
      · (intro w hSw; (try dsimp only at hSw); first | (go_simp; done) | (go_simp; with_reducible rfl))
      try simp only [Act.put, List.setIfInBounds_toArray, List.set_cons_zero, List.set_cons_succ]
      refine wpAnyH_take (i := 7) (oi := { dst := some 41, op := Op.move (Operand.tmp 7), type := 9, pos := "journal.go:72", after := #[], guard := none }) (v := ?_) rfl (by kernel_rfl) (by kernel_rfl) (by kernel_rfl) (fun _ _ _ h => h) (Or.inl ⟨by rfl, ?_⟩) (by assumption) ?_
      rotate_left
      · (intro w hSw; (try dsimp only at hSw); first | (go_simp; done) | (go_simp; with_reducible rfl))
      try simp only [Act.put, List.setIfInBounds_toArray, List.set_cons_zero, List.set_cons_succ]
      refine wpAnyH_ready (rs := [6]) (by kernel_rfl) (by simp) ?_
      refine AllReadyH.cons (o := { dst := some 40, op := Op.call { callee := Callee.value (Operand.func 72), args := #[Operand.tmp 38, Operand.tmp 39], argTypes := #[57, 3] }, type := 9, pos := "journal.go:72", after := #[{ on := 4, ground := Ground.data }, { on := 5, ground := Ground.data }], guard := none }) rfl (fun K hK => ?_) AllReadyH.nil
      go_simp
      refine (js_fileC (HX.out.bel (Bel.refl w3).drew) hp m (by omega)).mono ?_
      rintro e zf ⟨rfl, hbf⟩
      have HBf := Lib.hid ((Bel.refl w3).drew.trans hbf)
      have HXf := Lib.hid (HX.out.bel HBf.out)
      clear hbf
      dsimp only
      refine hK.out _ _ HXf.out.j.files (fun hHeld => ?_)
      clear hK K
      try simp only [Act.put, List.setIfInBounds_toArray, List.set_cons_zero, List.set_cons_succ]
      refine wpAnyH_ready (rs := [8]) (by kernel_rfl) (by simp) ?_
      refine AllReadyH.cons (o := { dst := some 42, op := Op.call { callee := Callee.value (Operand.func 24), args := #[Operand.tmp 37, Operand.tmp 40, Operand.tmp 41], argTypes := #[48, 9, 9] }, type := 29, pos := "journal.go:72", after := #[{ on := 3, ground := Ground.data }, { on := 6, ground := Ground.data }, { on := 7, ground := Ground.data }, { on := 6, ground := Ground.chain }], guard := none }) rfl (fun K hK => ?_) AllReadyH.nil
      go_simp
      refine (padd_any n₀ zf b M1 F3 (⟨(fileN p.data.toList m).toArray⟩ : ByteArray) (⟨(frameL s).toArray⟩ : ByteArray) HXf.out.prog (by omega) (by omega) HRO1.out.srt (good_len HRO1.out) (good_bytes HRO1.out) HRO1.out.room).mono ?_
      rintro e w4 ⟨rfl, hT⟩
      rw [str_list, str_list, HA.out] at hT ⊢
      obtain ⟨F4, hX4, hK4, hF4⟩ := HXf.out.step hT HM2.out
      have HX4 := Lib.hid hX4
      have HK4 := Lib.hid ((HK3.out.then HBf.out).trans hK4 (fun x hx => HF3.out x hx))
      have HF4 := Lib.hid (show ∀ k ∈ F4, k ∈ F ∨ w.heap.size ≤ k from fun k hk => by
        rcases hF4 k hk with h | h
        · exact HF3.out k h
        · exact Or.inr (Nat.le_trans (HK3.out.then HBf.out).size h))
      have cN := HX4.out.j.files
      clear hT hX4 hK4 hF4
      dsimp only
      refine hK.out _ _ cN (fun hHeld => ?_)
      clear hK K
      try simp only [Act.put, List.setIfInBounds_toArray, List.set_cons_zero, List.set_cons_succ]
      refine wpAnyH_take (i := 9) (oi := { dst := some 9, op := Op.assign (Operand.tmp 42), type := 29, pos := "journal.go:72", after := #[{ on := 8, ground := Ground.data }, { on := 8, ground := Ground.chain }, { on := 0, ground := Ground.phase }, { on := 1, ground := Ground.phase }, { on := 2, ground := Ground.phase }, { on := 3, ground := Ground.phase }, { on := 4, ground := Ground.phase }, { on := 5, ground := Ground.phase }, { on := 6, ground := Ground.phase }, { on := 7, ground := Ground.phase }, { on := 8, ground := Ground.phase }], guard := none }) (v := ?_) rfl (by kernel_rfl) (by kernel_rfl) (by kernel_rfl) (fun _ _ _ h => h) (Or.inl ⟨by rfl, ?_⟩) (by assumption) ?_
      rotate_left
      · (intro w hSw; (try dsimp only at hSw); first | (go_simp; done) | (go_simp; with_reducible rfl))
      try simp only [Act.put, List.setIfInBounds_toArray, List.set_cons_zero, List.set_cons_succ]
      refine wpAnyH_done (by kernel_rfl) ?_ _
      by_cases hra : ra = 0
      · subst hra
        rw [if_neg (by simp)] at HW
        clear cN HX HXf HBf
        have HX := HX4
        go_wp2_with (fail)
        refine wp_region_held_drew (S := fun z => z.cell? ⟨jb, 0, none⟩ = some (.pointer (some ⟨b, 0, none⟩))) (by kernel_rfl) HX.out.j.files (fun hHeld => ?_)
        refine wpAnyH_take (i := 0) (oi := { dst := some 46, op := Op.move (Operand.tmp 0), type := 57, pos := "journal.go:75", after := #[], guard := none }) (v := ?_) rfl (by kernel_rfl) (by kernel_rfl) (by kernel_rfl) (fun _ _ _ h => h) (Or.inl ⟨by rfl, ?_⟩) (by assumption) ?_
        rotate_left
        · (intro w hSw; (try dsimp only at hSw); first | (go_simp; done) | (go_simp; with_reducible rfl))
        try simp only [Act.put, List.setIfInBounds_toArray, List.set_cons_zero, List.set_cons_succ]
        refine wpAnyH_take (i := 1) (oi := { dst := some 47, op := Op.nilCheck (Operand.tmp 46), type := 0, pos := "journal.go:75", after := #[{ on := 0, ground := Ground.data }], guard := none }) (v := ?_) rfl (by kernel_rfl) (by kernel_rfl) (by kernel_rfl) (fun _ _ _ h => h) (Or.inl ⟨by rfl, ?_⟩) (by assumption) ?_
        rotate_left
        · (intro w hSw; (try dsimp only at hSw); first | (go_simp; done) | (go_simp; with_reducible rfl))
        try simp only [Act.put, List.setIfInBounds_toArray, List.set_cons_zero, List.set_cons_succ]
        refine wpAnyH_take (i := 2) (oi := { dst := some 48, op := Op.fieldAddr 104 (Operand.tmp 47) 0, type := 0, pos := "journal.go:75", after := #[{ on := 1, ground := Ground.data }], guard := none }) (v := ?_) rfl (by kernel_rfl) (by kernel_rfl) (by kernel_rfl) (fun _ _ _ h => h) (Or.inl ⟨by rfl, ?_⟩) (by assumption) ?_
        rotate_left
        · (intro w hSw; (try dsimp only at hSw); first | (go_simp; done) | (go_simp; with_reducible rfl))
        try simp only [Act.put, List.setIfInBounds_toArray, List.set_cons_zero, List.set_cons_succ]
        refine wpAnyH_take (i := 3) (oi := { dst := some 49, op := Op.load 48 (Operand.tmp 48), type := 48, pos := "journal.go:75", after := #[{ on := 2, ground := Ground.data }], guard := none }) (v := ?_) rfl (by kernel_rfl) (by kernel_rfl) (by kernel_rfl) (fun _ _ _ h => h) (Or.inl ⟨by rfl, ?_⟩) (by assumption) ?_
        rotate_left
        · (intro w hSw; (try dsimp only at hSw); first | (go_simp; done) | (go_simp; with_reducible rfl))
        try simp only [Act.put, List.setIfInBounds_toArray, List.set_cons_zero, List.set_cons_succ]
        refine wpAnyH_take (i := 4) (oi := { dst := some 50, op := Op.move (Operand.tmp 0), type := 57, pos := "journal.go:75", after := #[], guard := none }) (v := ?_) rfl (by kernel_rfl) (by kernel_rfl) (by kernel_rfl) (fun _ _ _ h => h) (Or.inl ⟨by rfl, ?_⟩) (by assumption) ?_
        rotate_left
        · (intro w hSw; (try dsimp only at hSw); first | (go_simp; done) | (go_simp; with_reducible rfl))
        try simp only [Act.put, List.setIfInBounds_toArray, List.set_cons_zero, List.set_cons_succ]
        refine wpAnyH_take (i := 5) (oi := { dst := some 51, op := Op.move (Operand.tmp 8), type := 3, pos := "journal.go:75", after := #[], guard := none }) (v := ?_) rfl (by kernel_rfl) (by kernel_rfl) (by kernel_rfl) (fun _ _ _ h => h) (Or.inl ⟨by rfl, ?_⟩) (by assumption) ?_
        rotate_left
        · (intro w hSw; (try dsimp only at hSw); first | (go_simp; done) | (go_simp; with_reducible rfl))
        try simp only [Act.put, List.setIfInBounds_toArray, List.set_cons_zero, List.set_cons_succ]
        refine wpAnyH_ready (rs := [6]) (by kernel_rfl) (by simp) ?_
        refine AllReadyH.cons (o := { dst := some 52, op := Op.call { callee := Callee.value (Operand.func 72), args := #[Operand.tmp 50, Operand.tmp 51], argTypes := #[57, 3] }, type := 9, pos := "journal.go:75", after := #[{ on := 4, ground := Ground.data }, { on := 5, ground := Ground.data }], guard := none }) rfl (fun K hK => ?_) AllReadyH.nil
        go_simp
        refine (js_fileC (HX.out.bel (Bel.refl w4).drew) hp m (by omega)).mono ?_
        rintro e zf ⟨rfl, hbf⟩
        have HBf := Lib.hid ((Bel.refl w4).drew.trans hbf)
        have HXf := Lib.hid (HX.out.bel HBf.out)
        clear hbf
        dsimp only
        refine hK.out _ _ HXf.out.j.files (fun hHeld => ?_)
        clear hK K
        try simp only [Act.put, List.setIfInBounds_toArray, List.set_cons_zero, List.set_cons_succ]
        refine wpAnyH_ready (rs := [7]) (by kernel_rfl) (by simp) ?_
        refine AllReadyH.cons (o := { dst := some 53, op := Op.call { callee := Callee.value (Operand.func 73), args := #[Operand.tmp 49, Operand.tmp 52], argTypes := #[48, 9] }, type := 29, pos := "journal.go:75", after := #[{ on := 3, ground := Ground.data }, { on := 6, ground := Ground.data }, { on := 6, ground := Ground.chain }], guard := none }) rfl (fun K hK => ?_) AllReadyH.nil
        go_simp
        refine (pflush_any n₀ zf b M2 F4 (⟨(fileN p.data.toList m).toArray⟩ : ByteArray) HXf.out.prog (by unfold maxLen; omega) HM2.out.srt (good_len HM2.out)).mono ?_
        rintro e w5 ⟨rfl, hT⟩
        rw [str_list] at hT ⊢
        have HT5 := Lib.hid (to_then (HK4.out.then HBf.out) HF4.out hT)
        have cN : w5.cell? ⟨jb, 0, none⟩ = some (.pointer (some ⟨b, 0, none⟩)) := by
          obtain ⟨F5, _, q2, _⟩ := hT
          exact q2.cell HXf.out.j.files HXf.out.out
        clear hT
        dsimp only
        refine hK.out _ _ cN (fun hHeld => ?_)
        clear hK K
        try simp only [Act.put, List.setIfInBounds_toArray, List.set_cons_zero, List.set_cons_succ]
        refine wpAnyH_take (i := 8) (oi := { dst := some 4, op := Op.assign (Operand.tmp 53), type := 29, pos := "journal.go:75", after := #[{ on := 7, ground := Ground.data }, { on := 7, ground := Ground.chain }, { on := 0, ground := Ground.phase }, { on := 1, ground := Ground.phase }, { on := 2, ground := Ground.phase }, { on := 3, ground := Ground.phase }, { on := 4, ground := Ground.phase }, { on := 5, ground := Ground.phase }, { on := 6, ground := Ground.phase }, { on := 7, ground := Ground.phase }], guard := none }) (v := ?_) rfl (by kernel_rfl) (by kernel_rfl) (by kernel_rfl) (fun _ _ _ h => h) (Or.inl ⟨by rfl, ?_⟩) (by assumption) ?_
        rotate_left
        · (intro w hSw; (try dsimp only at hSw); first | (go_simp; done) | (go_simp; with_reducible rfl))
        try simp only [Act.put, List.setIfInBounds_toArray, List.set_cons_zero, List.set_cons_succ]
        refine wpAnyH_done (by kernel_rfl) ?_ _
        go_wp2_with (fail)
        go_ret
        exact ⟨by rw [HW.out]; rfl, by rw [HW.out]; exact HT5.out⟩
      · rw [if_pos hra] at HW
        have hx3 : (ra != 0) = true := by rw [bne_iff_ne]; exact hra
        have hx2 : (ra == 0) = false := by rw [beq_eq_false_iff_ne]; exact hra
        clear cN
        go_wp2_with (fail)
        go_ret
        exact ⟨by rw [HW.out]; rfl, by rw [HW.out]; exact ⟨F4, HX4.out.prog, HK4.out, HF4.out⟩⟩
    · rw [if_pos hr] at HW
      have HT := Lib.hid (hT.before HB2.out)
      have hx3 : (r != 0) = true := by rw [bne_iff_ne]; exact hr
      have hx2 : (r == 0) = false := by rw [beq_eq_false_iff_ne]; exact hr
      clear hT hm
      go_wp2_with (fail)
      go_ret
      exact ⟨by rw [HW.out]; rfl, by rw [HW.out]; exact HT.out⟩
  · rw [if_pos he0] at HW
    have hx3 : (e0 != 0) = true := by rw [bne_iff_ne]; exact he0
    have hx2 : (e0 == 0) = false := by rw [beq_eq_false_iff_ne]; exact he0
    go_wp2_with (fail)
    go_ret
    exact ⟨by rw [HW.out]; rfl, by rw [HW.out]; exact ProgAt.to H.out.prog HB1.out⟩
end Go.Proofs.YtedopiojidaeiaaGreatDoor
