/- JTrim, JOpen, laid together. -/
import Derived.Test.YtedopiojidaeiaaGreatDoorA34
/- journal's Trim. -/
set_option linter.unusedSimpArgs false
set_option linter.unusedVariables false
namespace Go.Proofs.YtedopiojidaeiaaGreatDoor
open Go.RowKit Go.Deep Go.Maps

theorem trim_stop (p : List UInt8) (before : Int) {n : Nat} {r : List Nat} {M : RS} (h : ¬ (n : Int) < before) : trimL p before (n :: r) M = (0, M) := by
  cases r with
  | nil => rfl
  | cons m r => simp only [trimL]; rw [if_neg h]
theorem trim_one (p : List UInt8) (before : Int) {n : Nat} {M : RS} : trimL p before [n] M = (0, M) := rfl
theorem trim_step (p : List UInt8) (before : Int) {n : Nat} {r : List Nat} {M : RS} (hr : r ≠ []) (h : (n : Int) < before) : trimL p before (n :: r) M = if (dropS (fileN p n) M).1 = 0 then trimL p before r (dropS (fileN p n) M).2 else dropS (fileN p n) M := by
  cases r with
  | nil => exact absurd rfl hr
  | cons m r => simp only [trimL]; rw [if_pos h]
def TrRel (n₀ : Nat) (w1 : World) (b : Nat) (F : List Nat) (jb : Nat) (p : ByteArray) (most before : Int) (l : List Nat) (sv : Value) (M : RS) (iv : Value) (x : World) : Prop :=
  ∃ (i : Nat) (Mi : RS) (Fi : List Nat), iv = .int .i64 i ∧ i ≤ l.length ∧ JS n₀ x b Mi Fi jb p most ∧ Keep F w1 x ∧ (∀ k ∈ Fi, k ∈ F ∨ w1.heap.size ≤ k) ∧ OwnG intEl 0 x sv (l.map fun n : Nat => (n : Int)) ∧ trimL p.data.toList before l M = trimL p.data.toList before (l.drop i) Mi
set_option maxHeartbeats 4000000 in
set_option maxRecDepth 20000 in
theorem trim_any (n₀ : Nat) (w : World) (b : Nat) (M : RS) (F : List Nat) (jb : Nat) (p : ByteArray) (most before : Int) (h : JS n₀ w b M F jb p most) (hp : p.size ≤ 100) (hbefore : in64 before) :
    Calls Tryz.prog 34 #[.pointer (some ⟨jb, 0, none⟩), .int .i64 before] w fun e y => e = .returned (.int .i64 (jtrim p.data.toList before M).1) ∧ ProgTo n₀ w y b (jtrim p.data.toList before M).2 F := by
  have H := Lib.hid h
  have HBF := Lib.hid hbefore
  have HFL := Lib.hid (prog_lt h.prog)
  have HC := Lib.hid (segs_any n₀ w jb b p most M F h.prog h.ok h.j hp h.std0)
  have hsl := segs_len p.data.toList M.L
  have h60 := h.ok.len
  have hpl : p.data.toList.length = p.size := rfl
  unfold jtrim
  obtain ⟨l, hl⟩ : ∃ l, l = segsL p.data.toList M.L := ⟨_, rfl⟩
  have HL9 := Lib.hid (show ∀ n ∈ l, n ≤ 9999999 from fun n hn => by rw [hl] at hn; exact (mem_segs_file.1 hn).2.1)
  rw [← hl] at HC hsl ⊢
  clear h hl hbefore
  go_enter Tryz.func34, Tryz.ntmps34
  go_wp2_with (fail)
  refine HC.out.mono ?_
  rintro e w1 ⟨v, rfl, hown, hb1⟩
  have HV := Lib.hid hown
  have HB1 := Lib.hid hb1
  obtain ⟨sp, sc, hv⟩ := ownG_len hown
  rw [List.length_map] at hv
  subst hv
  have HVB := Lib.hid hown.lt
  clear hown hb1
  go_wp2_with (fail)
  go_loopw [13] (fun iv x => TrRel n₀ w1 b F jb p most before l (.slice sp l.length sc) M iv x) (fun iv _ => l.length - (intOf iv).toNat)
  case atStart => exact ⟨0, M, F, rfl, Nat.zero_le _, H.out.bel HB1.out, Keep.refl _ _, fun k hk => Or.inl hk, HV.out.low (Nat.zero_le _), by rw [List.drop_zero]⟩
  case round =>
    obtain ⟨i, Mi, Fi, rfl, hi, hx, hk, hfi, ho, htr⟩ := hrel
    have HX := Lib.hid hx
    have HKi := Lib.hid hk
    have HFi := Lib.hid hfi
    have HO := Lib.hid ho
    have HTR := Lib.hid htr
    clear hx hk hfi ho htr
    by_cases hlt : i < l.length
    · obtain ⟨g, cap, hv, hcap, _, e0⟩ := int_at HO.out i hlt
      simp only [Value.slice.injEq, true_and] at hv
      obtain ⟨rfl, rfl⟩ := hv
      have hn9 := HL9.out l[i] (List.getElem_mem hlt)
      have HDR := Lib.hid (show l.drop i = l[i] :: l.drop (i + 1) from List.drop_eq_getElem_cons hlt)
      obtain ⟨n, hn⟩ : ∃ n, n = l[i] := ⟨_, rfl⟩
      rw [← hn] at e0 hn9 HDR
      clear hn
      by_cases hnb : (n : Int) < before
      · by_cases hil : i + 1 = l.length
        · have hq : ((i : Int) == (l.length : Int) - 1) = true := by rw [beq_iff_eq]; omega
          have HE := Lib.hid (show trimL p.data.toList before l M = (0, Mi) by
            rw [HTR.out, HDR.out, show l.drop (i + 1) = [] from List.drop_eq_nil_of_le (by omega)]; exact trim_one _ _)
          clear hil
          go_wp2_with (fail)
          go_ret
          exact ⟨by rw [HE.out]; rfl, by rw [HE.out]; exact ⟨Fi, HX.out.prog, (Keep.of_bel HB1.out F).trans HKi.out (fun x hx => Or.inl hx), fun k hk => (HFi.out k hk).imp id (fun h => Nat.le_trans HB1.out.size h)⟩⟩
        · have hq : ((i : Int) == (l.length : Int) - 1) = false := by rw [beq_eq_false_iff_ne]; omega
          have HE := Lib.hid (show trimL p.data.toList before l M = if (dropS (fileN p.data.toList n) Mi).1 = 0 then trimL p.data.toList before (l.drop (i + 1)) (dropS (fileN p.data.toList n) Mi).2 else dropS (fileN p.data.toList n) Mi by
            rw [HTR.out, HDR.out]
            exact trim_step _ _ (by intro e; have := congrArg List.length e; rw [List.length_drop, List.length_nil] at this; omega) hnb)
          obtain ⟨rd, Md, hD⟩ : ∃ rd Md, dropS (fileN p.data.toList n) Mi = (rd, Md) := ⟨_, _, rfl⟩
          have HD := Lib.hid hD
          have HMd := Lib.hid (show Md.ok by have := drop_ok HX.out.ok (fileN p.data.toList n); rwa [hD] at this)
          rw [hD] at HE
          have hfl := file_len p.data.toList (n := n) (by omega)
          have hfz := str_len (fileN p.data.toList n)
          have hgw : g < w1.heap.size ∧ w.heap.size ≤ g := ⟨(HVB.out g rfl).2, (HVB.out g rfl).1⟩
          have hgF : g ∉ Fi := fun hm => by
            rcases HFi.out g hm with h | h
            · have := HFL.out g h; omega
            · omega
          clear hD hil
          obtain ⟨x0, hx0⟩ : ∃ x0, x0 = Mi := ⟨_, rfl⟩
          clear hx0 x0
          go_wp2_with (fail)
          refine wp_region_held_drew (S := fun z => z.cell? ⟨jb, 0, none⟩ = some (.pointer (some ⟨b, 0, none⟩))) (by kernel_rfl) HX.out.j.files (fun hHeld => ?_)
          refine wpAnyH_take (i := 0) (oi := { dst := some 28, op := Op.move (Operand.tmp 0), type := 57, pos := "journal.go:163", after := #[], guard := none }) (v := ?_) rfl (by kernel_rfl) (by kernel_rfl) (by kernel_rfl) (fun _ _ _ h => h) (Or.inl ⟨by rfl, ?_⟩) (by assumption) ?_
          rotate_left
          · (intro w hSw; (try dsimp only at hSw); first | (go_simp; done) | (go_simp; with_reducible rfl))
          try simp only [Act.put, List.setIfInBounds_toArray, List.set_cons_zero, List.set_cons_succ]
          refine wpAnyH_take (i := 1) (oi := { dst := some 29, op := Op.nilCheck (Operand.tmp 28), type := 0, pos := "journal.go:163", after := #[{ on := 0, ground := Ground.data }], guard := none }) (v := ?_) rfl (by kernel_rfl) (by kernel_rfl) (by kernel_rfl) (fun _ _ _ h => h) (Or.inl ⟨by rfl, ?_⟩) (by assumption) ?_
          rotate_left
          · (intro w hSw; (try dsimp only at hSw); first | (go_simp; done) | (go_simp; with_reducible rfl))
          try simp only [Act.put, List.setIfInBounds_toArray, List.set_cons_zero, List.set_cons_succ]
          refine wpAnyH_take (i := 2) (oi := { dst := some 30, op := Op.fieldAddr 104 (Operand.tmp 29) 0, type := 0, pos := "journal.go:163", after := #[{ on := 1, ground := Ground.data }], guard := none }) (v := ?_) rfl (by kernel_rfl) (by kernel_rfl) (by kernel_rfl) (fun _ _ _ h => h) (Or.inl ⟨by rfl, ?_⟩) (by assumption) ?_
          rotate_left
          · (intro w hSw; (try dsimp only at hSw); first | (go_simp; done) | (go_simp; with_reducible rfl))
          try simp only [Act.put, List.setIfInBounds_toArray, List.set_cons_zero, List.set_cons_succ]
          refine wpAnyH_take (i := 3) (oi := { dst := some 31, op := Op.load 48 (Operand.tmp 30), type := 48, pos := "journal.go:163", after := #[{ on := 2, ground := Ground.data }], guard := none }) (v := ?_) rfl (by kernel_rfl) (by kernel_rfl) (by kernel_rfl) (fun _ _ _ h => h) (Or.inl ⟨by rfl, ?_⟩) (by assumption) ?_
          rotate_left
          · (intro w hSw; (try dsimp only at hSw); first | (go_simp; done) | (go_simp; with_reducible rfl))
          try simp only [Act.put, List.setIfInBounds_toArray, List.set_cons_zero, List.set_cons_succ]
          refine wpAnyH_take (i := 4) (oi := { dst := some 32, op := Op.move (Operand.tmp 0), type := 57, pos := "journal.go:163", after := #[], guard := none }) (v := ?_) rfl (by kernel_rfl) (by kernel_rfl) (by kernel_rfl) (fun _ _ _ h => h) (Or.inl ⟨by rfl, ?_⟩) (by assumption) ?_
          rotate_left
          · (intro w hSw; (try dsimp only at hSw); first | (go_simp; done) | (go_simp; with_reducible rfl))
          try simp only [Act.put, List.setIfInBounds_toArray, List.set_cons_zero, List.set_cons_succ]
          refine wpAnyH_take (i := 5) (oi := { dst := some 33, op := Op.move (Operand.tmp 7), type := 3, pos := "journal.go:163", after := #[], guard := none }) (v := ?_) rfl (by kernel_rfl) (by kernel_rfl) (by kernel_rfl) (fun _ _ _ h => h) (Or.inl ⟨by rfl, ?_⟩) (by assumption) ?_
          rotate_left
          · (intro w hSw; (try dsimp only at hSw); first | (go_simp; done) | (go_simp; with_reducible rfl))
          try simp only [Act.put, List.setIfInBounds_toArray, List.set_cons_zero, List.set_cons_succ]
          refine wpAnyH_ready (rs := [6]) (by kernel_rfl) (by simp) ?_
          refine AllReadyH.cons (o := { dst := some 34, op := Op.call { callee := Callee.value (Operand.func 72), args := #[Operand.tmp 32, Operand.tmp 33], argTypes := #[57, 3] }, type := 9, pos := "journal.go:163", after := #[{ on := 4, ground := Ground.data }, { on := 5, ground := Ground.data }], guard := none }) rfl (fun K hK => ?_) AllReadyH.nil
          go_simp
          refine (js_fileC (HX.out.bel (Bel.refl _).drew) hp n (by omega)).mono ?_
          rintro e zf ⟨rfl, hbf⟩
          have HBf := Lib.hid ((Bel.refl _).drew.trans hbf)
          have HXf := Lib.hid (HX.out.bel HBf.out)
          clear hbf
          dsimp only
          refine hK.out _ _ HXf.out.j.files (fun hHeld => ?_)
          clear hK K
          try simp only [Act.put, List.setIfInBounds_toArray, List.set_cons_zero, List.set_cons_succ]
          refine wpAnyH_ready (rs := [7]) (by kernel_rfl) (by simp) ?_
          refine AllReadyH.cons (o := { dst := some 35, op := Op.call { callee := Callee.value (Operand.func 77), args := #[Operand.tmp 31, Operand.tmp 34], argTypes := #[48, 9] }, type := 29, pos := "journal.go:163", after := #[{ on := 3, ground := Ground.data }, { on := 6, ground := Ground.data }, { on := 6, ground := Ground.chain }], guard := none }) rfl (fun K hK => ?_) AllReadyH.nil
          go_simp
          refine (pdrop_any n₀ zf b Mi Fi (⟨(fileN p.data.toList n).toArray⟩ : ByteArray) HXf.out.prog (by unfold maxLen; omega) HX.out.ok.srt (good_len HX.out.ok)).mono ?_
          rintro e w4 ⟨rfl, hT⟩
          rw [str_list, HD.out] at hT ⊢
          obtain ⟨F4, hX4, hK4, hF4⟩ := HXf.out.step hT HMd.out
          have HX4 := Lib.hid hX4
          have HK4 := Lib.hid ((HKi.out.then HBf.out).trans hK4 (fun x hx => HFi.out x hx))
          have HF4 := Lib.hid (show ∀ k ∈ F4, k ∈ F ∨ w1.heap.size ≤ k from fun k hk => by
            rcases hF4 k hk with h | h
            · exact HFi.out k h
            · exact Or.inr (Nat.le_trans (HKi.out.then HBf.out).size h))
          have HO4 := Lib.hid ((HO.out.bel HBf.out).keep hK4 (fun j hj => by simp only [Value.ownBlock, Option.some.injEq] at hj; subst hj; exact hgF))
          have cN := HX4.out.j.files
          clear hT hX4 hK4 hF4
          dsimp only
          refine hK.out _ _ cN (fun hHeld => ?_)
          clear hK K
          try simp only [Act.put, List.setIfInBounds_toArray, List.set_cons_zero, List.set_cons_succ]
          refine wpAnyH_take (i := 8) (oi := { dst := some 8, op := Op.assign (Operand.tmp 35), type := 29, pos := "journal.go:163", after := #[{ on := 7, ground := Ground.data }, { on := 7, ground := Ground.chain }, { on := 0, ground := Ground.phase }, { on := 1, ground := Ground.phase }, { on := 2, ground := Ground.phase }, { on := 3, ground := Ground.phase }, { on := 4, ground := Ground.phase }, { on := 5, ground := Ground.phase }, { on := 6, ground := Ground.phase }, { on := 7, ground := Ground.phase }], guard := none }) (v := ?_) rfl (by kernel_rfl) (by kernel_rfl) (by kernel_rfl) (fun _ _ _ h => h) (Or.inl ⟨by rfl, ?_⟩) (by assumption) ?_
          rotate_left
          · (intro w hSw; (try dsimp only at hSw); first | (go_simp; done) | (go_simp; with_reducible rfl))
          try simp only [Act.put, List.setIfInBounds_toArray, List.set_cons_zero, List.set_cons_succ]
          refine wpAnyH_done (by kernel_rfl) ?_ _
          by_cases hrd : rd = 0
          · subst hrd
            rw [if_pos rfl] at HE
            clear cN
            go_wp2_with (fail)
            go_roundw
            case rel => exact ⟨i + 1, Md, F4, by go_num, by omega, HX4.out, HK4.out, HF4.out, HO4.out, HE.out⟩
            case measure => simp [intOf]; omega
          · rw [if_neg hrd] at HE
            have hx3 : (rd != 0) = true := by rw [bne_iff_ne]; exact hrd
            have hx2 : (rd == 0) = false := by rw [beq_eq_false_iff_ne]; exact hrd
            clear cN
            go_wp2_with (fail)
            go_ret
            exact ⟨by rw [HE.out]; rfl, by rw [HE.out]; exact ⟨F4, HX4.out.prog, (Keep.of_bel HB1.out F).trans HK4.out (fun x hx => Or.inl hx), fun k hk => (HF4.out k hk).imp id (fun h => Nat.le_trans HB1.out.size h)⟩⟩
      · have HE := Lib.hid (show trimL p.data.toList before l M = (0, Mi) by rw [HTR.out, HDR.out]; exact trim_stop _ _ hnb)
        have hge : before ≤ (n : Int) := by omega
        go_wp2_with (fail)
        go_ret
        exact ⟨by rw [HE.out]; rfl, by rw [HE.out]; exact ⟨Fi, HX.out.prog, (Keep.of_bel HB1.out F).trans HKi.out (fun x hx => Or.inl hx), fun k hk => (HFi.out k hk).imp id (fun h => Nat.le_trans HB1.out.size h)⟩⟩
    · obtain rfl : i = l.length := by omega
      have HE := Lib.hid (show trimL p.data.toList before l M = (0, Mi) by rw [HTR.out, List.drop_length]; rfl)
      go_wp2_with (fail)
      go_ret
      exact ⟨by rw [HE.out]; rfl, by rw [HE.out]; exact ⟨Fi, HX.out.prog, (Keep.of_bel HB1.out F).trans HKi.out (fun x hx => Or.inl hx), fun k hk => (HFi.out k hk).imp id (fun h => Nat.le_trans HB1.out.size h)⟩⟩
end Go.Proofs.YtedopiojidaeiaaGreatDoor
/- journal's Open. -/
set_option linter.unusedSimpArgs false
set_option linter.unusedVariables false
namespace Go.Proofs.YtedopiojidaeiaaGreatDoor
open Go.RowKit Go.Deep Go.Maps

theorem chg_room (M : RS) (L' : List FI) : (chgS M L').2.room = M.room := by
  unfold chgS
  split
  · exact turn_room M
  · exact turn_room M
theorem add_room (M : RS) (nm t : List UInt8) : (addS nm t M).2.room = M.room := by
  unfold addS; split; exact chg_room M _; rfl
theorem room_sizes {M : RS} (h : M.ok) (hr : M.room ≤ 1000000) : ∀ y ∈ M.L, y.bytes.length ≤ 1000000 := fun y hy => by
  have h1 := bytes_mem hy
  have h2 := h.fits
  omega
/-- What the opening of a journal leaves. -/
def OpPost (n₀ : Nat) (w : World) (b : Nat) (F : List Nat) (nm : ByteArray) (most : Int) (M' : RS) (L : List (List (List UInt8))) (err : Int) (e : Ending) (y : World) : Prop :=
  ∃ jv v F', e = .returned (.tuple #[jv, v, .int .i64 err]) ∧ ProgAt n₀ y b M' F' ∧ Keep F w y ∧ (∀ k ∈ F', k ∈ F ∨ w.heap.size ≤ k) ∧ OwnQ w y F' v L ∧
    (err = 0 → ∃ jb, jv = .pointer (some ⟨jb, 0, none⟩) ∧ JAt y jb b nm most ∧ Qb w y F' jb) ∧ (err ≠ 0 → jv = .pointer none)
theorem open_new {p : List UInt8} {M : RS} (hM : M.ok) (h0 : segsL p M.L = []) (ht : (jturn p M).1 = 0) : segsL p (jturn p M).2.L = [1] ∧ (jturn p M).2.gone = false ∧ readSegs p [1] (jturn p M).2 = (0, [], (jturn p M).2) := by
  have hl : lastN p M.L = 0 := last_zero.2 h0
  obtain ⟨h1, -, h3, h4, -⟩ := (jturn_segs hM (by omega)).1 ht
  rw [hl, h0] at h1
  rw [hl] at h4
  refine ⟨h1, h3, ?_⟩
  have hb : bytesOf (fileN p 1) (jturn p M).2 = [] := bytesOf_get h4
  simp only [readSegs, hb, read_nil]
  simp
set_option maxHeartbeats 4000000 in
theorem open_rest (n₀ : Nat) (w x : World) (b : Nat) (M : RS) (F F0 : List Nat) (jb : Nat) (nm : ByteArray) (most : Int) (h : JS n₀ x b M F jb nm most) (hg : M.gone = false) (hnm : nm.size ≤ 100) (hr : M.room ≤ 1000000) :
    Calls Tryz.prog 63 #[.pointer (some ⟨jb, 0, none⟩)] x fun e y => ∃ p cap, e = .returned (.slice p (segsL nm.data.toList M.L).length cap) ∧ StrsAt y p ((segsL nm.data.toList M.L).map (fileN nm.data.toList)) ∧ Bel x y := by
  refine (jnames_any n₀ x jb b nm most M F h.prog h.ok h.j hnm h.std0).mono ?_
  rintro e y ⟨v, rfl, ho, hb⟩
  obtain ⟨p, cap, rfl, hat⟩ := ownG_strs ho
  exact ⟨p, cap, by rw [List.length_map], hat, hb⟩
set_option maxHeartbeats 4000000 in
theorem open_any (n₀ : Nat) (w : World) (b : Nat) (M : RS) (F : List Nat) (nm : ByteArray) (most : Int) (h : ProgAt n₀ w b M F) (hM : M.ok) (hstd : ∀ z, Keep F w z → Std z) (hnm : nm.size ≤ 100) (hr : M.room ≤ 1000000) :
    Calls Tryz.prog 26 #[.pointer (some ⟨b, 0, none⟩), .string nm, .int .i64 most] w (OpPost n₀ w b F nm most (jopen nm.data.toList M).2.2 (jopen nm.data.toList M).2.1 (jopen nm.data.toList M).1) := by
  have HP := Lib.hid h
  have HM := Lib.hid hM
  have HS := Lib.hid hstd
  have HFL := Lib.hid (prog_lt h)
  have HR := Lib.hid hr
  clear h hM hstd hr
  cases hN : nameJ nm.data.toList with
  | false =>
    have HO := Lib.hid (show jopen nm.data.toList M = (3, [], M) by unfold jopen; rw [if_pos hN])
    have HNJ := Lib.hid hN; clear hN
    go_enter Tryz.func26, Tryz.ntmps26
    go_wp2_with (fail)
    refine (jisname_any nm w (by unfold maxLen; omega)).mono ?_
    rintro e w1 ⟨rfl, hd1⟩
    rw [HNJ.out]
    have HB1 := Lib.hid hd1.bel; clear hd1
    go_wp2_with (fail)
    go_ret3
    rw [HO.out]
    exact ⟨_, _, F, rfl, HP.out.bel HB1.out, Keep.of_bel HB1.out F, fun k hk => Or.inl hk, OwnQ.nil _ _ _, (fun hc => absurd hc (by simp)), (fun _ => rfl)⟩
  | true =>
    have HNJ := Lib.hid hN
    cases hg : M.gone with
    | true =>
      have HO := Lib.hid (show jopen nm.data.toList M = (7, [], M) by unfold jopen; rw [if_neg (by rw [hN]; simp), if_pos hg])
      clear hN
      go_enter Tryz.func26, Tryz.ntmps26
      go_wp2_with (fail)
      refine (jisname_any nm w (by unfold maxLen; omega)).mono ?_
      rintro e w1 ⟨rfl, hd1⟩
      rw [HNJ.out]
      have HB1 := Lib.hid hd1.bel; clear hd1
      go_wp2_with (fail)
      refine (dead_any n₀ _ b M F (HP.out.bel HB1.out)).mono ?_
      rintro e w2 ⟨rfl, hd2⟩
      rw [hg]
      have HB2 := Lib.hid (HB1.out.trans hd2.bel); clear hd2
      go_wp2_with (fail)
      go_ret3
      rw [HO.out]
      exact ⟨_, _, F, rfl, HP.out.bel HB2.out, Keep.of_bel HB2.out F, fun k hk => Or.inl hk, OwnQ.nil _ _ _, (fun hc => absurd hc (by simp)), (fun _ => rfl)⟩
    | false =>
      have HO := Lib.hid (show jopen nm.data.toList M = if segsL nm.data.toList M.L = [] then ((jturn nm.data.toList M).1, [], (jturn nm.data.toList M).2) else readSegs nm.data.toList (segsL nm.data.toList M.L) M by
        unfold jopen; rw [if_neg (by rw [hN]; simp), if_neg (by rw [hg]; simp)])
      clear hN
      have HG := Lib.hid hg; clear hg
      go_enter Tryz.func26, Tryz.ntmps26
      go_wp2_with (fail)
      refine (jisname_any nm w (by unfold maxLen; omega)).mono ?_
      rintro e w1 ⟨rfl, hd1⟩
      rw [HNJ.out]
      have HB1 := Lib.hid hd1.bel; clear hd1
      go_wp2_with (fail)
      refine (dead_any n₀ _ b M F (HP.out.bel HB1.out)).mono ?_
      rintro e w2 ⟨rfl, hd2⟩
      rw [HG.out]
      have HB2 := Lib.hid (HB1.out.trans hd2.bel); clear hd2
      go_wp2_with (fail)
      obtain ⟨jb, hjb⟩ : ∃ jb, jb = w2.heap.size := ⟨_, rfl⟩
      have HJB := Lib.hid hjb
      obtain ⟨x0, hx0⟩ : ∃ x0, x0 = w2.alloc (.cells #[.pointer (some ⟨b, 0, none⟩), .string nm, .int .i64 most] 104) := ⟨_, rfl⟩
      have HBX := Lib.hid (show Bel w x0 by rw [hx0]; exact HB2.out.alloc _)
      have HX := Lib.hid (show JS n₀ x0 b M F jb nm most from
        ⟨HP.out.bel HBX.out, HM.out, by rw [hjb, hx0]; exact ⟨by go_simp, by go_simp, by go_simp⟩, fun hm => by have h1 := HFL.out jb hm; have h2 := HB2.out.size; omega, fun z hz => HS.out z ((Keep.of_bel HBX.out F).trans hz (fun k hk => Or.inl hk))⟩)
      have HJW := Lib.hid (show w.heap.size ≤ jb by rw [hjb]; exact HB2.out.size)
      rw [← hjb, ← hx0]
      clear hx0 hjb HJB
      refine (num_any n₀ x0 jb b nm most M F HX.out.prog HX.out.ok HX.out.j hnm HX.out.std0).mono ?_
      rintro e x4 ⟨rfl, hb4⟩
      have HX4 := Lib.hid (HX.out.bel hb4)
      have HB4 := Lib.hid (HBX.out.trans hb4)
      clear hb4
      by_cases hs0 : segsL nm.data.toList M.L = []
      · have hl0 : lastN nm.data.toList M.L = 0 := last_zero.2 hs0
        rw [if_pos hs0] at HO
        rw [hl0]
        go_wp2_with (fail)
        refine (jturn_any n₀ x4 b M F jb nm most HX4.out hnm (by rw [hl0]; omega)).mono ?_
        rintro e x5 ⟨rfl, hT⟩
        obtain ⟨rt, M1, ht⟩ : ∃ rt M1, jturn nm.data.toList M = (rt, M1) := ⟨_, _, rfl⟩
        have HON := Lib.hid (open_new HM.out hs0)
        have HM1 := Lib.hid (show M1.ok by have := jturn_ok HM.out nm.data.toList; rwa [ht] at this)
        have HR1 := Lib.hid (show M1.room ≤ 1000000 by have := add_room M (fileN nm.data.toList (lastN nm.data.toList M.L + 1)) []; rw [show addS (fileN nm.data.toList (lastN nm.data.toList M.L + 1)) [] M = (rt, M1) from ht] at this; simp only at this; rw [this]; exact HR.out)
        rw [ht] at hT HON HO ⊢
        clear ht
        obtain ⟨F5, hX5, hK5, hF5⟩ := HX4.out.step hT HM1.out
        have HX5 := Lib.hid hX5
        have HK5 := Lib.hid (show Keep F w x5 from (Keep.of_bel HB4.out F).trans hK5 (fun k hk => Or.inl hk))
        have HF5 := Lib.hid (show ∀ k ∈ F5, k ∈ F ∨ w.heap.size ≤ k from fun k hk => (hF5 k hk).imp id (fun h => Nat.le_trans HB4.out.size h))
        clear hT hX5 hK5 hF5
        by_cases hrt : rt = 0
        · subst hrt
          obtain ⟨hs1, hg1, hrd1⟩ := HON.out rfl
          have HG1 := Lib.hid hg1
          have HRD1 := Lib.hid (show readSegs nm.data.toList (segsL nm.data.toList M1.L) M1 = (0, [], M1) by rw [hs1]; exact hrd1)
          clear hs1 hg1 hrd1
          go_wp2_with (fail)
          refine (open_rest n₀ w _ b M1 F5 F5 jb nm most HX5.out HG1.out hnm HR1.out).mono ?_
          rintro e x1 ⟨sp, sc, rfl, hat, hbn⟩
          have HSA := Lib.hid hat
          have HY1 := Lib.hid (HX5.out.bel hbn)
          have HBN := Lib.hid hbn
          clear hat hbn
          have hsl := segs_len nm.data.toList M1.L
          have h60 := HX5.out.ok.len
          have hml : ((segsL nm.data.toList M1.L).map (fileN nm.data.toList)).length = (segsL nm.data.toList M1.L).length := List.length_map _
          have HSO := Lib.hid (segof_any x1 sp sc ((segsL nm.data.toList M1.L).map (fileN nm.data.toList)) HSA.out (by omega))
          rw [hml] at HSO
          have HRS := Lib.hid (fun (z : World) (sv : Value) (hp : ProgAt n₀ z b M1 F5) (hs : OwnG segEl 0 z sv (segF ((segsL nm.data.toList M1.L).map (fileN nm.data.toList)))) (hq : ∀ k, sv.ownBlock = some k → k < z.heap.size ∧ k ∉ F5) =>
            readall_any n₀ z b M1 F5 nm.data.toList (segsL nm.data.toList M1.L) sv hp HX5.out.ok HG1.out hnm (fun n hn => ⟨(mem_segs_file.1 hn).2.1, Option.isSome_iff_exists.1 ((mem_segs_get HX5.out.ok.srt).1 hn).2.2⟩) (by omega) (room_sizes HX5.out.ok HR1.out) hs hq)
          obtain ⟨er, LL, MF, hread⟩ : ∃ er LL MF, readSegs nm.data.toList (segsL nm.data.toList M1.L) M1 = (er, LL, MF) := ⟨_, _, _, rfl⟩
          rw [hread] at HRS
          have HRD := Lib.hid hread
          clear hread hml
          go_wp2_with (fail)
          refine HSO.out.mono ?_
          rintro e x2 ⟨sv, rfl, hso, hbs⟩
          have HY2 := Lib.hid (HY1.out.bel hbs)
          have HSV := Lib.hid (hso.low (Nat.zero_le _))
          have HSQ := Lib.hid (show ∀ k, sv.ownBlock = some k → k < x2.heap.size ∧ k ∉ F5 from fun k hk => ⟨(hso.lt k hk).2, fun hm => by
            have h1 := (hso.lt k hk).1
            have h2 := prog_lt HY1.out.prog k hm
            omega⟩)
          have HB12 := Lib.hid (HBN.out.trans hbs)
          clear hso hbs
          go_wp2_with (fail)
          refine (HRS.out x2 sv HY2.out.prog HSV.out HSQ.out).mono ?_
          rintro e x3 ⟨v, F3, rfl, hp3, hk3, hf3, hq3⟩
          have HP3 := Lib.hid hp3
          have HK3 := Lib.hid (show Keep F w x3 from (HK5.out.then HB12.out).trans hk3 (fun k hk => HF5.out k hk))
          have HF3 := Lib.hid (show ∀ k ∈ F3, k ∈ F ∨ w.heap.size ≤ k from fun k hk => by
            rcases hf3 k hk with h | h
            · exact HF5.out k h
            · exact Or.inr (Nat.le_trans (HK5.out.then HB12.out).size h))
          have HQ3 := Lib.hid (hq3.lower (w' := w) (HK5.out.then HB12.out).size)
          have HJ3 := Lib.hid (HY2.out.j.keep (hk3.block jb HY2.out.j.lt HY2.out.out))
          have HJQ := Lib.hid (show Qb w x3 F3 jb from ⟨HJW.out, Nat.lt_of_lt_of_le HY2.out.j.lt hk3.size, fun hm => by
            rcases hf3 jb hm with h | h
            · exact HY2.out.out h
            · have := HY2.out.j.lt; omega⟩)
          clear hp3 hk3 hf3 hq3
          by_cases her : er = 0
          · subst her
            have HE := Lib.hid (show jopen nm.data.toList M = (0, LL, MF) by rw [HO.out]; exact HRD1.out.symm.trans HRD.out)
            go_wp2_with (fail)
            go_ret3
            rw [HE.out]
            exact ⟨_, _, F3, rfl, HP3.out, HK3.out, HF3.out, HQ3.out, (fun _ => ⟨jb, rfl, HJ3.out, HJQ.out⟩), (fun hc => absurd rfl hc)⟩
          · have HE := Lib.hid (show jopen nm.data.toList M = (er, [], MF) by
              have hl : LL = [] := by
                have := read_err nm.data.toList (segsL nm.data.toList M1.L) M1 (by rw [HRD.out]; exact her)
                rwa [HRD.out] at this
              rw [HO.out, ← hl]; exact absurd (congrArg Prod.fst (HRD.out.symm.trans HRD1.out)) her)
            have hx3 : (er != 0) = true := by rw [bne_iff_ne]; exact her
            have hx2 : (er == 0) = false := by rw [beq_eq_false_iff_ne]; exact her
            go_wp2_with (fail)
            go_ret3
            rw [HE.out]
            exact ⟨_, _, F3, rfl, HP3.out, HK3.out, HF3.out, OwnQ.nil _ _ _, (fun hc => absurd hc her), (fun _ => rfl)⟩
        · have hx3 : (rt != 0) = true := by rw [bne_iff_ne]; exact hrt
          have hx2 : (rt == 0) = false := by rw [beq_eq_false_iff_ne]; exact hrt
          go_wp2_with (fail)
          go_ret3
          rw [HO.out]
          exact ⟨_, _, F5, rfl, HX5.out.prog, HK5.out, HF5.out, OwnQ.nil _ _ _, (fun hc => absurd hc hrt), (fun _ => rfl)⟩
      · rw [if_neg hs0] at HO
        have hne0 : ((lastN nm.data.toList M.L : Nat) : Int) ≠ 0 := fun e => hs0 (last_zero.1 (by omega))
        have HK4 := Lib.hid (Keep.of_bel HB4.out F)
        have HF4 := Lib.hid (show ∀ k ∈ F, k ∈ F ∨ w.heap.size ≤ k from fun k hk => Or.inl hk)
        generalize lastN nm.data.toList M.L = ln at *
        have hne1 : ((ln : Int) == 0) = false := by rw [beq_eq_false_iff_ne]; exact hne0
        clear hne0
        go_wp2_with (fail)
        refine (open_rest n₀ w _ b M F F jb nm most HX4.out HG.out hnm HR.out).mono ?_
        rintro e x1 ⟨sp, sc, rfl, hat, hbn⟩
        have HSA := Lib.hid hat
        have HY1 := Lib.hid (HX4.out.bel hbn)
        have HBN := Lib.hid hbn
        clear hat hbn
        have hsl := segs_len nm.data.toList M.L
        have h60 := HX4.out.ok.len
        have hml : ((segsL nm.data.toList M.L).map (fileN nm.data.toList)).length = (segsL nm.data.toList M.L).length := List.length_map _
        have HSO := Lib.hid (segof_any x1 sp sc ((segsL nm.data.toList M.L).map (fileN nm.data.toList)) HSA.out (by omega))
        rw [hml] at HSO
        have HRS := Lib.hid (fun (z : World) (sv : Value) (hp : ProgAt n₀ z b M F) (hs : OwnG segEl 0 z sv (segF ((segsL nm.data.toList M.L).map (fileN nm.data.toList)))) (hq : ∀ k, sv.ownBlock = some k → k < z.heap.size ∧ k ∉ F) =>
          readall_any n₀ z b M F nm.data.toList (segsL nm.data.toList M.L) sv hp HX4.out.ok HG.out hnm (fun n hn => ⟨(mem_segs_file.1 hn).2.1, Option.isSome_iff_exists.1 ((mem_segs_get HX4.out.ok.srt).1 hn).2.2⟩) (by omega) (room_sizes HX4.out.ok HR.out) hs hq)
        obtain ⟨er, LL, MF, hread⟩ : ∃ er LL MF, readSegs nm.data.toList (segsL nm.data.toList M.L) M = (er, LL, MF) := ⟨_, _, _, rfl⟩
        rw [hread] at HRS
        have HRD := Lib.hid hread
        clear hread hml
        go_wp2_with (fail)
        refine HSO.out.mono ?_
        rintro e x2 ⟨sv, rfl, hso, hbs⟩
        have HY2 := Lib.hid (HY1.out.bel hbs)
        have HSV := Lib.hid (hso.low (Nat.zero_le _))
        have HSQ := Lib.hid (show ∀ k, sv.ownBlock = some k → k < x2.heap.size ∧ k ∉ F from fun k hk => ⟨(hso.lt k hk).2, fun hm => by
          have h1 := (hso.lt k hk).1
          have h2 := prog_lt HY1.out.prog k hm
          omega⟩)
        have HB12 := Lib.hid (HBN.out.trans hbs)
        clear hso hbs
        go_wp2_with (fail)
        refine (HRS.out x2 sv HY2.out.prog HSV.out HSQ.out).mono ?_
        rintro e x3 ⟨v, F3, rfl, hp3, hk3, hf3, hq3⟩
        have HP3 := Lib.hid hp3
        have HK3 := Lib.hid (show Keep F w x3 from (HK4.out.then HB12.out).trans hk3 (fun k hk => HF4.out k hk))
        have HF3 := Lib.hid (show ∀ k ∈ F3, k ∈ F ∨ w.heap.size ≤ k from fun k hk => by
          rcases hf3 k hk with h | h
          · exact HF4.out k h
          · exact Or.inr (Nat.le_trans (HK4.out.then HB12.out).size h))
        have HQ3 := Lib.hid (hq3.lower (w' := w) (HK4.out.then HB12.out).size)
        have HJ3 := Lib.hid (HY2.out.j.keep (hk3.block jb HY2.out.j.lt HY2.out.out))
        have HJQ := Lib.hid (show Qb w x3 F3 jb from ⟨HJW.out, Nat.lt_of_lt_of_le HY2.out.j.lt hk3.size, fun hm => by
          rcases hf3 jb hm with h | h
          · exact HY2.out.out h
          · have := HY2.out.j.lt; omega⟩)
        clear hp3 hk3 hf3 hq3
        by_cases her : er = 0
        · subst her
          have HE := Lib.hid (show jopen nm.data.toList M = (0, LL, MF) by rw [HO.out]; exact HRD.out)
          go_wp2_with (fail)
          go_ret3
          rw [HE.out]
          exact ⟨_, _, F3, rfl, HP3.out, HK3.out, HF3.out, HQ3.out, (fun _ => ⟨jb, rfl, HJ3.out, HJQ.out⟩), (fun hc => absurd rfl hc)⟩
        · have HE := Lib.hid (show jopen nm.data.toList M = (er, [], MF) by
            have hl : LL = [] := by
              have := read_err nm.data.toList (segsL nm.data.toList M.L) M (by rw [HRD.out]; exact her)
              rwa [HRD.out] at this
            rw [HO.out, ← hl]; exact HRD.out)
          have hx3 : (er != 0) = true := by rw [bne_iff_ne]; exact her
          have hx2 : (er == 0) = false := by rw [beq_eq_false_iff_ne]; exact her
          go_wp2_with (fail)
          go_ret3
          rw [HE.out]
          exact ⟨_, _, F3, rfl, HP3.out, HK3.out, HF3.out, OwnQ.nil _ _ _, (fun hc => absurd hc her), (fun _ => rfl)⟩
end Go.Proofs.YtedopiojidaeiaaGreatDoor
