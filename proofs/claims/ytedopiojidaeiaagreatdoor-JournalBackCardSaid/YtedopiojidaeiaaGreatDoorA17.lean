/- FCl3, laid together. -/
import Derived.Test.YtedopiojidaeiaaGreatDoorA16
/- The change of file that Add hands to turn. -/
set_option linter.unusedSimpArgs false
set_option linter.unusedVariables false
namespace Go.Proofs.YtedopiojidaeiaaGreatDoor
open Go.RowKit Go.Deep Go.Maps

/-- A look-up, as one step of a region that draws its order. -/
theorem step_look {ops : Array Oper} {o : Oper} {a : Act} {K : Act → World → Prop} {Q : Exit → Act → World → Prop} {E : Prop} {x : World} {c : Bool} (hgd : o.guard = none) (m y : Operand)
    (ho : o.op = Op.lookup 90 m y c) {mv kv r : Value} (hm : a.eval m = mv) (hy : a.eval y = kv) (hrun : (Instr.lookup 90 mv kv c).run Tryz.prog x = .ok r x)
    (h : K (a.put o.dst r) x) : if Region.wanted o (yielded ops a.tmps) = true then o.wp Tryz.prog a x K Q else E := by
  rw [if_pos (by simp [Region.wanted, hgd])]
  unfold Oper.wp
  simp [execOp, ho, hm, hy, hrun, Result.andThen]
  exact h
theorem Hdr.ne_row {w : World} {b : Nat} {M : RS} {mv : Value} {t : Int} (h : Hdr w b M mv t) {n₀ : Nat} {v : Value} {l : List UInt8} (ho : Own n₀ w v l) : b ∉ v.ownBlock.toList := by
  intro hk
  rw [Option.mem_toList] at hk
  rcases ho.2 with ⟨rfl, _⟩ | ⟨g, cap, cur, rfl, _, hgb, _⟩
  · simp [Value.ownBlock] at hk
  · obtain rfl : g = b := by simpa [Value.ownBlock] using hk
    rw [h.1] at hgb
    simp at hgb
/-- A file with so much more at its end. -/
def addF (nm s : List UInt8) (L : List FI) : FI := match getF nm L with
  | some y => { y with bytes := y.bytes ++ s }
  | none => ⟨nm, s, 0⟩
theorem addF_name (nm s : List UInt8) (L : List FI) : (addF nm s L).name = nm := by
  unfold addF
  cases hy : getF nm L with
  | none => rfl
  | some y => exact getF_name (x := y) hy
theorem map_eq_nil (mb : Nat) (w : World) : (binOp .eql 90 (.map (some mb)) (.map none)).run Tryz.prog w = .ok (.bool false) w := by kernel_rfl
theorem nil_eq_nil (w : World) : (binOp .eql 90 (.map none) (.map none)).run Tryz.prog w = .ok (.bool true) w := by kernel_rfl
theorem extended_nil (B : Nat) (w : World) (u : ByteArray) (hu : u.size ≤ 1000000) (hB : B ≤ w.heap.size) :
    Calls Tryz.prog 55 #[.agg #[.slice none 0 0, .int .i64 0], .string u] w fun e w' => ∃ v', e = .returned (.agg #[v', .int .i64 0]) ∧ Own B w' v' u.data.toList ∧ Keep [] w w' ∧ (∀ k, v'.ownBlock = some k → w.heap.size ≤ k) := by
  refine (extended_any B w (.slice none 0 0) [] 0 u (Own.nil _ _) (by simp; omega) hB).mono ?_
  rintro e w' ⟨v', rfl, h1, h2, h3⟩
  exact ⟨v', rfl, by simpa using h1, h2, fun k hk => (h3 k hk).resolve_left (by simp [Value.ownBlock])⟩
/-- What Add makes of the files. -/
def Added (n₀ : Nat) (w x : World) (b : Nat) (M : RS) (t : Int) (L' : List FI) (F : List Nat) : Prop :=
  ∃ mb D' V', Hdr x b M (.map (some mb)) t ∧ FilesV n₀ x mb D' V' L' none ∧ Keep F w x ∧ (mb ∈ F ∨ w.heap.size ≤ mb) ∧ ∀ z ∈ L', ∀ k, (V' z.name).ownBlock = some k → k ∈ F ∨ w.heap.size ≤ k

set_option maxHeartbeats 4000000 in
set_option maxRecDepth 20000 in
theorem addcl_some (n₀ : Nat) (w : World) (b : Nat) (M : RS) (t : Int) (F : List Nat) (mb : Nat) (D : DataW Value) (V : List UInt8 → Value) (Bf Bn Bs : Nat) (s u : ByteArray) (h : Hdr w b M (.map (some mb)) t) (hV : FilesV n₀ w mb D V M.L none) (hmF : mb ∈ F) (hvF : ∀ z ∈ M.L, ∀ k, (V z.name).ownBlock = some k → k ∈ F) (hS : Srt M.L) (hL : M.L.length ≤ 1000) (hbF : b ∈ F) (hn0 : n₀ ≤ w.heap.size)
    (hs : s.size ≤ maxLen) (hu : u.size ≤ 1000000) (y : FI) (hy : getF s.data.toList M.L = some y) (hB : y.bytes.length ≤ 1000000000)
    (e2 : w.cell? ⟨Bf, 0, none⟩ = some (.pointer (some ⟨b, 0, none⟩))) (e3 : w.cell? ⟨Bn, 0, none⟩ = some (.string s)) (e5 : w.cell? ⟨Bs, 0, none⟩ = some (.string u)) (nf : Bf ∉ F ∧ Bn ∉ F ∧ Bs ∉ F) :
    Calls Tryz.prog 54 #[.pointer (some ⟨Bf, 0, none⟩), .pointer (some ⟨Bn, 0, none⟩), .pointer (some ⟨Bs, 0, none⟩)] w fun e w' =>
      e = .returned (.tuple #[]) ∧ Added n₀ w w' b M t (insS (addF s.data.toList u.data.toList M.L) M.L) F := by
  have hv0 := hV.val y (getF_mem hy) (by simp)
  obtain ⟨p, cap, hp, -⟩ := own_len hv0
  have hrow := h.ne_row hv0
  have hrF : ∀ k ∈ (V y.name).ownBlock.toList, k ∈ F := fun k hk => hvF y (getF_mem hy) k (by rwa [Option.mem_toList] at hk)
  rw [hp] at hv0 hrow hrF
  have e4 : w.cell? ⟨b, 1, none⟩ = some (.map (some mb)) := by simp [World.cell?, h.1]
  have hSK : ∀ G x z, Keep G x z → Bf ∉ G → Bn ∉ G → Bs ∉ G → b ∉ G → (x.cell? ⟨Bf, 0, none⟩ = some (.pointer (some ⟨b, 0, none⟩)) ∧ x.cell? ⟨Bn, 0, none⟩ = some (.string s) ∧ x.cell? ⟨Bs, 0, none⟩ = some (.string u) ∧ x.cell? ⟨b, 1, none⟩ = some (.map (some mb))) → (z.cell? ⟨Bf, 0, none⟩ = some (.pointer (some ⟨b, 0, none⟩)) ∧ z.cell? ⟨Bn, 0, none⟩ = some (.string s) ∧ z.cell? ⟨Bs, 0, none⟩ = some (.string u) ∧ z.cell? ⟨b, 1, none⟩ = some (.map (some mb))) :=
    fun G x z hk h1 h2 h3 h4 hc => ⟨hk.cell hc.1 h1, hk.cell hc.2.1 h2, hk.cell hc.2.2.1 h3, hk.cell hc.2.2.2 h4⟩
  have HSK := Lib.hid hSK
  have N4 := h.ne hV.own
  have HV := Lib.hid hV
  have HH := Lib.hid h
  have HS := Lib.hid hS
  have HY := Lib.hid hy
  have HP := Lib.hid hp
  have HV0 := Lib.hid hv0
  have HRF := Lib.hid hrF
  have HMF := Lib.hid hmF
  have HVF := Lib.hid hvF
  have HRW := Lib.hid hrow
  have HLK := Lib.hid (fun x (hb : Bel w x) => run_look_some (hV.bel hb) s hs hy false)
  have hsn : s.data.toList = y.name := (getF_name hy).symm
  rw [hsn, hp] at HLK
  obtain ⟨nf1, nf2, nf3⟩ := nf
  have Q1 := Lib.hid (fun hm => nf1 (hrF Bf hm))
  have Q2 := Lib.hid (fun hm => nf2 (hrF Bn hm))
  have Q3 := Lib.hid (fun hm => nf3 (hrF Bs hm))
  have P1 : Bf ≠ mb := fun e => nf1 (e ▸ hmF)
  have P2 : Bn ≠ mb := fun e => nf2 (e ▸ hmF)
  have P3 : Bs ≠ mb := fun e => nf3 (e ▸ hmF)
  have HSN := Lib.hid hsn
  clear hSK hV h hS hy hp hv0 hrF hmF hvF hrow hsn nf1 nf2 nf3
  have hqn := map_eq_nil mb
  go_enter Tryz.func54, Tryz.ntmps54
  go_wp2_with (fail)
  refine wp_region_held_drew (S := fun z => (z.cell? ⟨Bf, 0, none⟩ = some (.pointer (some ⟨b, 0, none⟩)) ∧ z.cell? ⟨Bn, 0, none⟩ = some (.string s) ∧ z.cell? ⟨Bs, 0, none⟩ = some (.string u) ∧ z.cell? ⟨b, 1, none⟩ = some (.map (some mb)))) (by kernel_rfl) ⟨e2, e3, e5, e4⟩ (fun hHeld => ?_)
  refine wpAnyH_take (i := 0) (oi := { dst := some 12, op := Op.load 48 (Operand.tmp 0), type := 48, pos := "file.go:38", after := #[], guard := none }) (v := ?_) rfl (by kernel_rfl) (by kernel_rfl) (by kernel_rfl) (fun _ _ _ h => h) (Or.inl ⟨by rfl, ?_⟩) (by assumption) ?_
  rotate_left
  · (intro w hSw; (try dsimp only at hSw); first | (go_simp; done) | (go_simp; with_reducible rfl))
  try simp only [Act.put, List.setIfInBounds_toArray, List.set_cons_zero, List.set_cons_succ]
  refine wpAnyH_take (i := 1) (oi := { dst := some 13, op := Op.nilCheck (Operand.tmp 12), type := 0, pos := "file.go:38", after := #[{ on := 0, ground := Ground.data }], guard := none }) (v := ?_) rfl (by kernel_rfl) (by kernel_rfl) (by kernel_rfl) (fun _ _ _ h => h) (Or.inl ⟨by rfl, ?_⟩) (by assumption) ?_
  rotate_left
  · (intro w hSw; (try dsimp only at hSw); first | (go_simp; done) | (go_simp; with_reducible rfl))
  try simp only [Act.put, List.setIfInBounds_toArray, List.set_cons_zero, List.set_cons_succ]
  refine wpAnyH_take (i := 2) (oi := { dst := some 14, op := Op.fieldAddr 92 (Operand.tmp 13) 1, type := 0, pos := "file.go:38", after := #[{ on := 1, ground := Ground.data }], guard := none }) (v := ?_) rfl (by kernel_rfl) (by kernel_rfl) (by kernel_rfl) (fun _ _ _ h => h) (Or.inl ⟨by rfl, ?_⟩) (by assumption) ?_
  rotate_left
  · (intro w hSw; (try dsimp only at hSw); first | (go_simp; done) | (go_simp; with_reducible rfl))
  try simp only [Act.put, List.setIfInBounds_toArray, List.set_cons_zero, List.set_cons_succ]
  refine wpAnyH_take (i := 3) (oi := { dst := some 15, op := Op.load 90 (Operand.tmp 14), type := 90, pos := "file.go:38", after := #[{ on := 2, ground := Ground.data }], guard := none }) (v := ?_) rfl (by kernel_rfl) (by kernel_rfl) (by kernel_rfl) (fun _ _ _ h => h) (Or.inl ⟨by rfl, ?_⟩) (by assumption) ?_
  rotate_left
  · (intro w hSw; (try dsimp only at hSw); first | (go_simp; done) | (go_simp; with_reducible rfl))
  try simp only [Act.put, List.setIfInBounds_toArray, List.set_cons_zero, List.set_cons_succ]
  refine wpAnyH_take (i := 4) (oi := { dst := some 16, op := Op.load 9 (Operand.tmp 1), type := 9, pos := "file.go:38", after := #[], guard := none }) (v := ?_) rfl (by kernel_rfl) (by kernel_rfl) (by kernel_rfl) (fun _ _ _ h => h) (Or.inl ⟨by rfl, ?_⟩) (by assumption) ?_
  rotate_left
  · (intro w hSw; (try dsimp only at hSw); first | (go_simp; done) | (go_simp; with_reducible rfl))
  try simp only [Act.put, List.setIfInBounds_toArray, List.set_cons_zero, List.set_cons_succ]
  refine wpAnyH_take (i := 5) (oi := { dst := some 17, op := Op.load 48 (Operand.tmp 0), type := 48, pos := "file.go:38", after := #[], guard := none }) (v := ?_) rfl (by kernel_rfl) (by kernel_rfl) (by kernel_rfl) (fun _ _ _ h => h) (Or.inl ⟨by rfl, ?_⟩) (by assumption) ?_
  rotate_left
  · (intro w hSw; (try dsimp only at hSw); first | (go_simp; done) | (go_simp; with_reducible rfl))
  try simp only [Act.put, List.setIfInBounds_toArray, List.set_cons_zero, List.set_cons_succ]
  refine wpAnyH_take (i := 6) (oi := { dst := some 18, op := Op.nilCheck (Operand.tmp 17), type := 0, pos := "file.go:38", after := #[{ on := 5, ground := Ground.data }], guard := none }) (v := ?_) rfl (by kernel_rfl) (by kernel_rfl) (by kernel_rfl) (fun _ _ _ h => h) (Or.inl ⟨by rfl, ?_⟩) (by assumption) ?_
  rotate_left
  · (intro w hSw; (try dsimp only at hSw); first | (go_simp; done) | (go_simp; with_reducible rfl))
  try simp only [Act.put, List.setIfInBounds_toArray, List.set_cons_zero, List.set_cons_succ]
  refine wpAnyH_take (i := 7) (oi := { dst := some 19, op := Op.fieldAddr 92 (Operand.tmp 18) 1, type := 0, pos := "file.go:38", after := #[{ on := 6, ground := Ground.data }], guard := none }) (v := ?_) rfl (by kernel_rfl) (by kernel_rfl) (by kernel_rfl) (fun _ _ _ h => h) (Or.inl ⟨by rfl, ?_⟩) (by assumption) ?_
  rotate_left
  · (intro w hSw; (try dsimp only at hSw); first | (go_simp; done) | (go_simp; with_reducible rfl))
  try simp only [Act.put, List.setIfInBounds_toArray, List.set_cons_zero, List.set_cons_succ]
  refine wpAnyH_take (i := 8) (oi := { dst := some 20, op := Op.load 90 (Operand.tmp 19), type := 90, pos := "file.go:38", after := #[{ on := 7, ground := Ground.data }], guard := none }) (v := ?_) rfl (by kernel_rfl) (by kernel_rfl) (by kernel_rfl) (fun _ _ _ h => h) (Or.inl ⟨by rfl, ?_⟩) (by assumption) ?_
  rotate_left
  · (intro w hSw; (try dsimp only at hSw); first | (go_simp; done) | (go_simp; with_reducible rfl))
  try simp only [Act.put, List.setIfInBounds_toArray, List.set_cons_zero, List.set_cons_succ]
  refine wpAnyH_take (i := 9) (oi := { dst := some 21, op := Op.load 9 (Operand.tmp 1), type := 9, pos := "file.go:38", after := #[], guard := none }) (v := ?_) rfl (by kernel_rfl) (by kernel_rfl) (by kernel_rfl) (fun _ _ _ h => h) (Or.inl ⟨by rfl, ?_⟩) (by assumption) ?_
  rotate_left
  · (intro w hSw; (try dsimp only at hSw); first | (go_simp; done) | (go_simp; with_reducible rfl))
  try simp only [Act.put, List.setIfInBounds_toArray, List.set_cons_zero, List.set_cons_succ]
  refine wpAnyH_take (i := 11) (oi := { dst := some 23, op := Op.load 9 (Operand.tmp 2), type := 9, pos := "file.go:38", after := #[], guard := none }) (v := ?_) rfl (by kernel_rfl) (by kernel_rfl) (by kernel_rfl) (fun _ _ _ h => h) (Or.inl ⟨by rfl, ?_⟩) (by assumption) ?_
  rotate_left
  · (intro w hSw; (try dsimp only at hSw); first | (go_simp; done) | (go_simp; with_reducible rfl))
  try simp only [Act.put, List.setIfInBounds_toArray, List.set_cons_zero, List.set_cons_succ]
  refine wpAnyH_ready (rs := [10]) (by kernel_rfl) (by simp) ?_
  refine AllReadyH.cons (o := { dst := some 22, op := Op.lookup 90 (Operand.tmp 20) (Operand.tmp 21) false, type := 97, pos := "file.go:38", after := #[{ on := 8, ground := Ground.data }, { on := 9, ground := Ground.data }], guard := none }) rfl (fun K hK => ?_) AllReadyH.nil
  refine step_look (mv := .map (some mb)) (kv := .string s) (r := .agg #[.slice p y.bytes.length cap, .int .i64 y.safe]) rfl (.tmp 20) (.tmp 21) rfl rfl rfl (HLK.out _ (Bel.refl w).drew) ?_
  refine hK.out _ _ hHeld (fun hHeld1 => ?_)
  clear hK K
  try simp only [Act.put, List.setIfInBounds_toArray, List.set_cons_zero, List.set_cons_succ]
  refine wpAnyH_ready (rs := [12]) (by kernel_rfl) (by simp) ?_
  refine AllReadyH.cons (o := { dst := some 24, op := Op.call { callee := Callee.value (Operand.func 55), args := #[Operand.tmp 22, Operand.tmp 23], argTypes := #[97, 9] }, type := 97, pos := "file.go:38", after := #[{ on := 10, ground := Ground.data }, { on := 11, ground := Ground.data }], guard := none }) rfl (fun K hK => ?_) AllReadyH.nil
  go_simp
  refine (extended_any n₀ _ _ _ y.safe u (HV0.out.bel (Bel.refl w).drew) (by omega) hn0).mono ?_
  rintro e w2 ⟨v', rfl, hv1, hk1, hl1⟩
  have D1 := Lib.hid ((Keep.of_bel (Bel.refl w).drew _).trans hk1 (fun x hx => Or.inl hx))
  have S2 := HSK.out _ _ _ hk1 Q1.out Q2.out Q3.out HRW.out hHeld
  have HV1 := Lib.hid hv1
  have HL1 := Lib.hid hl1
  have HV2 := Lib.hid (show FilesV n₀ w2 mb D V M.L (some y.name) from HV.out.but (getF_mem HY.out) (by rw [HP.out]; exact D1.out))
  clear hk1 hv1 hl1
  dsimp only
  refine hK.out _ _ S2 (fun hHeld2 => ?_)
  clear hK K
  try simp only [Act.put, List.setIfInBounds_toArray, List.set_cons_zero, List.set_cons_succ]
  refine wpAnyH_ready (rs := [13]) (by kernel_rfl) (by simp) ?_
  refine AllReadyH.cons (o := { dst := none, op := Op.mapUpdate 90 (Operand.tmp 15) (Operand.tmp 16) (Operand.tmp 24), type := 0, pos := "file.go:38", after := #[{ on := 3, ground := Ground.data }, { on := 4, ground := Ground.data }, { on := 12, ground := Ground.data }, { on := 12, ground := Ground.chain }, { on := 0, ground := Ground.phase }, { on := 1, ground := Ground.phase }, { on := 2, ground := Ground.phase }, { on := 3, ground := Ground.phase }, { on := 4, ground := Ground.phase }, { on := 5, ground := Ground.phase }, { on := 6, ground := Ground.phase }, { on := 7, ground := Ground.phase }, { on := 8, ground := Ground.phase }, { on := 9, ground := Ground.phase }, { on := 10, ground := Ground.phase }, { on := 11, ground := Ground.phase }, { on := 12, ground := Ground.phase }], guard := none }) rfl (fun K hK => ?_) AllReadyH.nil
  refine step_store (mb := mb) (s := s) (val := .agg #[v', .int .i64 y.safe]) rfl (.tmp 15) (.tmp 16) (.tmp 24) rfl rfl rfl rfl HV2.out.own (by omega) hs ?_
  intro w3 ho hk
  refine hK.out _ _ (HSK.out [mb] _ _ hk (by simpa using P1) (by simpa using P2) (by simpa using P3) (by simpa using N4) S2) (fun hHeld3 => ?_)
  clear hK K
  try simp only [Act.put, List.setIfInBounds_toArray, List.set_cons_zero, List.set_cons_succ]
  refine wpAnyH_done (by kernel_rfl) ?_ _
  have HO := Lib.hid ho
  have HK := Lib.hid hk
  clear ho hk hHeld hHeld1 hHeld2 hHeld3 S2
  go_wp2_with (fail)
  go_end0
  have hym := getF_mem HY.out
  have hval := HV1.out.keep HK.out (fun k hk1 hk2 => by
    rw [List.mem_singleton] at hk2
    subst hk2
    exact HV2.out.ne_row HV1.out hk1)
  have hadd : addF s.data.toList u.data.toList M.L = { y with bytes := y.bytes ++ u.data.toList } := by unfold addF; rw [HY.out]
  have hput := FilesV.put (y := { y with bytes := y.bytes ++ u.data.toList }) (v' := v') HS.out HV2.out (x := w3) (n := M.L.length + 1) (by
      have := HO.out
      rw [HSN.out] at this
      exact this) HK.out hval (fun z hz hne k hk => by
      rcases HL1.out k hk with h1 | h1
      · exact HV.out.apart y hym z hz (fun e => hne e.symm) k (by rw [HP.out]; exact h1)
      · intro h2
        have := ((HV.out.val z hz (by simp)).lt k h2).2
        simp at h1
        omega)
  rw [hadd]
  have KK := (D1.out.mono HRF.out).trans (HK.out.mono (G := F) (fun x hx => by rw [List.mem_singleton] at hx; rw [hx]; exact HMF.out)) (fun x hx => Or.inl hx)
  refine ⟨rfl, mb, _, _, (HH.out.keep D1.out HRW.out).keep HK.out (by simpa using N4), hput, KK, Or.inl HMF.out, fun z hz k hk => ?_⟩
  by_cases he : z.name = y.name
  · simp only [he, if_true] at hk
    rcases HL1.out k hk with h1 | h1
    · exact Or.inl (HRF.out k (by rw [Option.mem_toList]; exact h1))
    · exact Or.inr (by simpa using h1)
  · simp only [he, if_false] at hk
    rcases mem_ins hz with rfl | hz
    · exact absurd rfl he
    · exact Or.inl (HVF.out z hz k hk)

set_option maxHeartbeats 4000000 in
set_option maxRecDepth 20000 in
theorem addcl_none (n₀ : Nat) (w : World) (b : Nat) (M : RS) (t : Int) (F : List Nat) (mb : Nat) (D : DataW Value) (V : List UInt8 → Value) (Bf Bn Bs : Nat) (s u : ByteArray) (h : Hdr w b M (.map (some mb)) t) (hV : FilesV n₀ w mb D V M.L none) (hmF : mb ∈ F) (hvF : ∀ z ∈ M.L, ∀ k, (V z.name).ownBlock = some k → k ∈ F) (hS : Srt M.L) (hL : M.L.length ≤ 1000) (hbF : b ∈ F) (hn0 : n₀ ≤ w.heap.size)
    (hs : s.size ≤ maxLen) (hu : u.size ≤ 1000000) (hy : getF s.data.toList M.L = none)
    (e2 : w.cell? ⟨Bf, 0, none⟩ = some (.pointer (some ⟨b, 0, none⟩))) (e3 : w.cell? ⟨Bn, 0, none⟩ = some (.string s)) (e5 : w.cell? ⟨Bs, 0, none⟩ = some (.string u)) (nf : Bf ∉ F ∧ Bn ∉ F ∧ Bs ∉ F) :
    Calls Tryz.prog 54 #[.pointer (some ⟨Bf, 0, none⟩), .pointer (some ⟨Bn, 0, none⟩), .pointer (some ⟨Bs, 0, none⟩)] w fun e w' =>
      e = .returned (.tuple #[]) ∧ Added n₀ w w' b M t (insS (addF s.data.toList u.data.toList M.L) M.L) F := by
  obtain ⟨X0, hX0⟩ : ∃ X0, X0 = w := ⟨_, rfl⟩
  have e4 : w.cell? ⟨b, 1, none⟩ = some (.map (some mb)) := by simp [World.cell?, h.1]
  have hSK : ∀ G x z, Keep G x z → Bf ∉ G → Bn ∉ G → Bs ∉ G → b ∉ G → (x.cell? ⟨Bf, 0, none⟩ = some (.pointer (some ⟨b, 0, none⟩)) ∧ x.cell? ⟨Bn, 0, none⟩ = some (.string s) ∧ x.cell? ⟨Bs, 0, none⟩ = some (.string u) ∧ x.cell? ⟨b, 1, none⟩ = some (.map (some mb))) → (z.cell? ⟨Bf, 0, none⟩ = some (.pointer (some ⟨b, 0, none⟩)) ∧ z.cell? ⟨Bn, 0, none⟩ = some (.string s) ∧ z.cell? ⟨Bs, 0, none⟩ = some (.string u) ∧ z.cell? ⟨b, 1, none⟩ = some (.map (some mb))) :=
    fun G x z hk h1 h2 h3 h4 hc => ⟨hk.cell hc.1 h1, hk.cell hc.2.1 h2, hk.cell hc.2.2.1 h3, hk.cell hc.2.2.2 h4⟩
  have HSK := Lib.hid hSK
  have N4 := h.ne hV.own
  have HV := Lib.hid hV
  have HH := Lib.hid h
  have HS := Lib.hid hS
  have HY := Lib.hid hy
  have HMB := Lib.hid (show mb ∈ F ∨ w.heap.size ≤ mb from Or.inl hmF)
  have HVF := Lib.hid (show ∀ z ∈ M.L, ∀ k, (V z.name).ownBlock = some k → k ∈ F ∨ w.heap.size ≤ k from fun z hz k hk => Or.inl (hvF z hz k hk))
  have HLK := Lib.hid (fun x (hb : Bel w x) => run_look_none (F := F) (Or.inr ⟨mb, D, V, rfl, hV.bel hb, hmF, hvF⟩) s hs hy false)
  have HKW := Lib.hid (Keep.refl F w)
  have HN0 := Lib.hid hn0
  obtain ⟨nf1, nf2, nf3⟩ := nf
  have P1 : Bf ≠ mb := fun e => nf1 (e ▸ hmF)
  have P2 : Bn ≠ mb := fun e => nf2 (e ▸ hmF)
  have P3 : Bs ≠ mb := fun e => nf3 (e ▸ hmF)
  have q2 := e2
  have q3 := e3
  have q5 := e5
  have q4 := e4
  unfold conZ at HLK
  subst X0
  clear hSK hV h hS hy hmF hvF nf1 nf2 nf3 e2 e3 e5 e4 hn0
  have hqn := map_eq_nil mb
  go_enter Tryz.func54, Tryz.ntmps54
  go_wp2_with (fail)
  refine wp_region_held_drew (S := fun z => (z.cell? ⟨Bf, 0, none⟩ = some (.pointer (some ⟨b, 0, none⟩)) ∧ z.cell? ⟨Bn, 0, none⟩ = some (.string s) ∧ z.cell? ⟨Bs, 0, none⟩ = some (.string u) ∧ z.cell? ⟨b, 1, none⟩ = some (.map (some mb)))) (by kernel_rfl) ⟨q2, q3, q5, q4⟩ (fun hHeld => ?_)
  refine wpAnyH_take (i := 0) (oi := { dst := some 12, op := Op.load 48 (Operand.tmp 0), type := 48, pos := "file.go:38", after := #[], guard := none }) (v := ?_) rfl (by kernel_rfl) (by kernel_rfl) (by kernel_rfl) (fun _ _ _ h => h) (Or.inl ⟨by rfl, ?_⟩) (by assumption) ?_
  rotate_left
  · (intro w hSw; (try dsimp only at hSw); first | (go_simp; done) | (go_simp; with_reducible rfl))
  try simp only [Act.put, List.setIfInBounds_toArray, List.set_cons_zero, List.set_cons_succ]
  refine wpAnyH_take (i := 1) (oi := { dst := some 13, op := Op.nilCheck (Operand.tmp 12), type := 0, pos := "file.go:38", after := #[{ on := 0, ground := Ground.data }], guard := none }) (v := ?_) rfl (by kernel_rfl) (by kernel_rfl) (by kernel_rfl) (fun _ _ _ h => h) (Or.inl ⟨by rfl, ?_⟩) (by assumption) ?_
  rotate_left
  · (intro w hSw; (try dsimp only at hSw); first | (go_simp; done) | (go_simp; with_reducible rfl))
  try simp only [Act.put, List.setIfInBounds_toArray, List.set_cons_zero, List.set_cons_succ]
  refine wpAnyH_take (i := 2) (oi := { dst := some 14, op := Op.fieldAddr 92 (Operand.tmp 13) 1, type := 0, pos := "file.go:38", after := #[{ on := 1, ground := Ground.data }], guard := none }) (v := ?_) rfl (by kernel_rfl) (by kernel_rfl) (by kernel_rfl) (fun _ _ _ h => h) (Or.inl ⟨by rfl, ?_⟩) (by assumption) ?_
  rotate_left
  · (intro w hSw; (try dsimp only at hSw); first | (go_simp; done) | (go_simp; with_reducible rfl))
  try simp only [Act.put, List.setIfInBounds_toArray, List.set_cons_zero, List.set_cons_succ]
  refine wpAnyH_take (i := 3) (oi := { dst := some 15, op := Op.load 90 (Operand.tmp 14), type := 90, pos := "file.go:38", after := #[{ on := 2, ground := Ground.data }], guard := none }) (v := ?_) rfl (by kernel_rfl) (by kernel_rfl) (by kernel_rfl) (fun _ _ _ h => h) (Or.inl ⟨by rfl, ?_⟩) (by assumption) ?_
  rotate_left
  · (intro w hSw; (try dsimp only at hSw); first | (go_simp; done) | (go_simp; with_reducible rfl))
  try simp only [Act.put, List.setIfInBounds_toArray, List.set_cons_zero, List.set_cons_succ]
  refine wpAnyH_take (i := 4) (oi := { dst := some 16, op := Op.load 9 (Operand.tmp 1), type := 9, pos := "file.go:38", after := #[], guard := none }) (v := ?_) rfl (by kernel_rfl) (by kernel_rfl) (by kernel_rfl) (fun _ _ _ h => h) (Or.inl ⟨by rfl, ?_⟩) (by assumption) ?_
  rotate_left
  · (intro w hSw; (try dsimp only at hSw); first | (go_simp; done) | (go_simp; with_reducible rfl))
  try simp only [Act.put, List.setIfInBounds_toArray, List.set_cons_zero, List.set_cons_succ]
  refine wpAnyH_take (i := 5) (oi := { dst := some 17, op := Op.load 48 (Operand.tmp 0), type := 48, pos := "file.go:38", after := #[], guard := none }) (v := ?_) rfl (by kernel_rfl) (by kernel_rfl) (by kernel_rfl) (fun _ _ _ h => h) (Or.inl ⟨by rfl, ?_⟩) (by assumption) ?_
  rotate_left
  · (intro w hSw; (try dsimp only at hSw); first | (go_simp; done) | (go_simp; with_reducible rfl))
  try simp only [Act.put, List.setIfInBounds_toArray, List.set_cons_zero, List.set_cons_succ]
  refine wpAnyH_take (i := 6) (oi := { dst := some 18, op := Op.nilCheck (Operand.tmp 17), type := 0, pos := "file.go:38", after := #[{ on := 5, ground := Ground.data }], guard := none }) (v := ?_) rfl (by kernel_rfl) (by kernel_rfl) (by kernel_rfl) (fun _ _ _ h => h) (Or.inl ⟨by rfl, ?_⟩) (by assumption) ?_
  rotate_left
  · (intro w hSw; (try dsimp only at hSw); first | (go_simp; done) | (go_simp; with_reducible rfl))
  try simp only [Act.put, List.setIfInBounds_toArray, List.set_cons_zero, List.set_cons_succ]
  refine wpAnyH_take (i := 7) (oi := { dst := some 19, op := Op.fieldAddr 92 (Operand.tmp 18) 1, type := 0, pos := "file.go:38", after := #[{ on := 6, ground := Ground.data }], guard := none }) (v := ?_) rfl (by kernel_rfl) (by kernel_rfl) (by kernel_rfl) (fun _ _ _ h => h) (Or.inl ⟨by rfl, ?_⟩) (by assumption) ?_
  rotate_left
  · (intro w hSw; (try dsimp only at hSw); first | (go_simp; done) | (go_simp; with_reducible rfl))
  try simp only [Act.put, List.setIfInBounds_toArray, List.set_cons_zero, List.set_cons_succ]
  refine wpAnyH_take (i := 8) (oi := { dst := some 20, op := Op.load 90 (Operand.tmp 19), type := 90, pos := "file.go:38", after := #[{ on := 7, ground := Ground.data }], guard := none }) (v := ?_) rfl (by kernel_rfl) (by kernel_rfl) (by kernel_rfl) (fun _ _ _ h => h) (Or.inl ⟨by rfl, ?_⟩) (by assumption) ?_
  rotate_left
  · (intro w hSw; (try dsimp only at hSw); first | (go_simp; done) | (go_simp; with_reducible rfl))
  try simp only [Act.put, List.setIfInBounds_toArray, List.set_cons_zero, List.set_cons_succ]
  refine wpAnyH_take (i := 9) (oi := { dst := some 21, op := Op.load 9 (Operand.tmp 1), type := 9, pos := "file.go:38", after := #[], guard := none }) (v := ?_) rfl (by kernel_rfl) (by kernel_rfl) (by kernel_rfl) (fun _ _ _ h => h) (Or.inl ⟨by rfl, ?_⟩) (by assumption) ?_
  rotate_left
  · (intro w hSw; (try dsimp only at hSw); first | (go_simp; done) | (go_simp; with_reducible rfl))
  try simp only [Act.put, List.setIfInBounds_toArray, List.set_cons_zero, List.set_cons_succ]
  refine wpAnyH_take (i := 11) (oi := { dst := some 23, op := Op.load 9 (Operand.tmp 2), type := 9, pos := "file.go:38", after := #[], guard := none }) (v := ?_) rfl (by kernel_rfl) (by kernel_rfl) (by kernel_rfl) (fun _ _ _ h => h) (Or.inl ⟨by rfl, ?_⟩) (by assumption) ?_
  rotate_left
  · (intro w hSw; (try dsimp only at hSw); first | (go_simp; done) | (go_simp; with_reducible rfl))
  try simp only [Act.put, List.setIfInBounds_toArray, List.set_cons_zero, List.set_cons_succ]
  refine wpAnyH_ready (rs := [10]) (by kernel_rfl) (by simp) ?_
  refine AllReadyH.cons (o := { dst := some 22, op := Op.lookup 90 (Operand.tmp 20) (Operand.tmp 21) false, type := 97, pos := "file.go:38", after := #[{ on := 8, ground := Ground.data }, { on := 9, ground := Ground.data }], guard := none }) rfl (fun K hK => ?_) AllReadyH.nil
  refine step_look (mv := .map (some mb)) (kv := .string s) (r := .agg #[.slice none 0 0, .int .i64 0]) rfl (.tmp 20) (.tmp 21) rfl rfl rfl (HLK.out _ (Bel.refl _).drew) ?_
  refine hK.out _ _ hHeld (fun hHeld1 => ?_)
  clear hK K
  try simp only [Act.put, List.setIfInBounds_toArray, List.set_cons_zero, List.set_cons_succ]
  refine wpAnyH_ready (rs := [12]) (by kernel_rfl) (by simp) ?_
  refine AllReadyH.cons (o := { dst := some 24, op := Op.call { callee := Callee.value (Operand.func 55), args := #[Operand.tmp 22, Operand.tmp 23], argTypes := #[97, 9] }, type := 97, pos := "file.go:38", after := #[{ on := 10, ground := Ground.data }, { on := 11, ground := Ground.data }], guard := none }) rfl (fun K hK => ?_) AllReadyH.nil
  go_simp
  refine (extended_nil n₀ w.drew u hu HN0.out).mono ?_
  rintro e w2 ⟨v', rfl, hv1, hk1, hl1⟩
  have D1 := Lib.hid ((Keep.of_bel (Bel.refl w).drew []).trans hk1 (fun x hx => Or.inl hx))
  have S2 := HSK.out [] _ _ hk1 (by simp) (by simp) (by simp) (by simp) hHeld
  have HV1 := Lib.hid hv1
  have HL1 := Lib.hid hl1
  have HV2 := Lib.hid (show FilesV n₀ w2 mb D V M.L none from HV.out.keep D1.out (by simp) (fun _ _ _ _ _ => by simp))
  clear hk1 hv1 hl1
  dsimp only
  refine hK.out _ _ S2 (fun hHeld2 => ?_)
  clear hK K
  try simp only [Act.put, List.setIfInBounds_toArray, List.set_cons_zero, List.set_cons_succ]
  refine wpAnyH_ready (rs := [13]) (by kernel_rfl) (by simp) ?_
  refine AllReadyH.cons (o := { dst := none, op := Op.mapUpdate 90 (Operand.tmp 15) (Operand.tmp 16) (Operand.tmp 24), type := 0, pos := "file.go:38", after := #[{ on := 3, ground := Ground.data }, { on := 4, ground := Ground.data }, { on := 12, ground := Ground.data }, { on := 12, ground := Ground.chain }, { on := 0, ground := Ground.phase }, { on := 1, ground := Ground.phase }, { on := 2, ground := Ground.phase }, { on := 3, ground := Ground.phase }, { on := 4, ground := Ground.phase }, { on := 5, ground := Ground.phase }, { on := 6, ground := Ground.phase }, { on := 7, ground := Ground.phase }, { on := 8, ground := Ground.phase }, { on := 9, ground := Ground.phase }, { on := 10, ground := Ground.phase }, { on := 11, ground := Ground.phase }, { on := 12, ground := Ground.phase }], guard := none }) rfl (fun K hK => ?_) AllReadyH.nil
  refine step_store (mb := mb) (s := s) (val := .agg #[v', .int .i64 0]) rfl (.tmp 15) (.tmp 16) (.tmp 24) rfl rfl rfl rfl HV2.out.own (by omega) hs ?_
  intro w3 ho hk
  refine hK.out _ _ (HSK.out [mb] _ _ hk (by simpa using P1) (by simpa using P2) (by simpa using P3) (by simpa using N4) S2) (fun hHeld3 => ?_)
  clear hK K
  try simp only [Act.put, List.setIfInBounds_toArray, List.set_cons_zero, List.set_cons_succ]
  refine wpAnyH_done (by kernel_rfl) ?_ _
  have HO := Lib.hid ho
  have HK := Lib.hid hk
  clear ho hk hHeld hHeld1 hHeld2 hHeld3 S2
  go_wp2_with (fail)
  go_end0
  have hval := HV1.out.keep HK.out (fun k hk1 hk2 => by
    rw [List.mem_singleton] at hk2
    subst hk2
    exact HV2.out.ne_row HV1.out hk1)
  have hadd : addF s.data.toList u.data.toList M.L = ⟨s.data.toList, u.data.toList, 0⟩ := by unfold addF; rw [HY.out]
  have hput := FilesV.put (y := ⟨s.data.toList, u.data.toList, 0⟩) (v' := v') HS.out (HV2.out.weak s.data.toList) (x := w3) (n := M.L.length + 1) (by
      have := HO.out
      exact this) HK.out hval (fun z hz hne k hk => by
      have h1 := HL1.out k hk
      intro h2
      have := ((HV.out.val z hz (by simp)).lt k h2).2
      simp at h1
      omega)
  rw [hadd]
  have KK := ((HKW.out.trans (D1.out.mono (G := F) (fun x hx => by cases hx)) (fun x hx => Or.inl hx))).trans (HK.out.mono (G := mb :: F) (fun x hx => by rw [List.mem_singleton] at hx; rw [hx]; simp)) (fun x hx => by
    rcases List.mem_cons.1 hx with rfl | hx
    · exact HMB.out
    · exact Or.inl hx)
  refine ⟨rfl, mb, _, _, (HH.out.keep D1.out (by simp)).keep HK.out (by simpa using N4), hput, KK, HMB.out, fun z hz k hk => ?_⟩
  by_cases he : z.name = s.data.toList
  · simp only [he, if_true] at hk
    exact Or.inr (Nat.le_trans HKW.out.size (by simpa using HL1.out k hk))
  · simp only [he, if_false] at hk
    rcases mem_ins hz with rfl | hz
    · exact absurd rfl he
    · exact HVF.out z hz k hk

set_option maxHeartbeats 4000000 in
set_option maxRecDepth 20000 in
theorem addcl_nil (n₀ : Nat) (w : World) (b : Nat) (M : RS) (t : Int) (F : List Nat)  (Bf Bn Bs : Nat) (s u : ByteArray) (h : Hdr w b M (.map none) t) (hL0 : M.L = []) (hS : Srt M.L) (hL : M.L.length ≤ 1000) (hbF : b ∈ F) (hn0 : n₀ ≤ w.heap.size)
    (hs : s.size ≤ maxLen) (hu : u.size ≤ 1000000)
    (e2 : w.cell? ⟨Bf, 0, none⟩ = some (.pointer (some ⟨b, 0, none⟩))) (e3 : w.cell? ⟨Bn, 0, none⟩ = some (.string s)) (e5 : w.cell? ⟨Bs, 0, none⟩ = some (.string u)) (nf : Bf ∉ F ∧ Bn ∉ F ∧ Bs ∉ F) :
    Calls Tryz.prog 54 #[.pointer (some ⟨Bf, 0, none⟩), .pointer (some ⟨Bn, 0, none⟩), .pointer (some ⟨Bs, 0, none⟩)] w fun e w' =>
      e = .returned (.tuple #[]) ∧ Added n₀ w w' b M t (insS (addF s.data.toList u.data.toList M.L) M.L) F := by
  have e4 : w.cell? ⟨b, 1, none⟩ = some (.map none) := by simp [World.cell?, h.1]
  have f4 : w.frozen? ⟨b, 1, none⟩ = false := by simp [World.frozen?, h.1]
  obtain ⟨mb, hmb⟩ : ∃ mb, mb = w.heap.size := ⟨_, rfl⟩
  have hSK : ∀ G x z, Keep G x z → Bf ∉ G → Bn ∉ G → Bs ∉ G → b ∉ G → (x.cell? ⟨Bf, 0, none⟩ = some (.pointer (some ⟨b, 0, none⟩)) ∧ x.cell? ⟨Bn, 0, none⟩ = some (.string s) ∧ x.cell? ⟨Bs, 0, none⟩ = some (.string u) ∧ x.cell? ⟨b, 1, none⟩ = some (.map (some mb))) → (z.cell? ⟨Bf, 0, none⟩ = some (.pointer (some ⟨b, 0, none⟩)) ∧ z.cell? ⟨Bn, 0, none⟩ = some (.string s) ∧ z.cell? ⟨Bs, 0, none⟩ = some (.string u) ∧ z.cell? ⟨b, 1, none⟩ = some (.map (some mb))) :=
    fun G x z hk h1 h2 h3 h4 hc => ⟨hk.cell hc.1 h1, hk.cell hc.2.1 h2, hk.cell hc.2.2.1 h3, hk.cell hc.2.2.2 h4⟩
  have HSK := Lib.hid hSK
  obtain ⟨X0, hX0⟩ : ∃ X0, X0 = (w.setCell ⟨b, 1, none⟩ (.map (some w.heap.size))).alloc (.map #[] 0) := ⟨_, rfl⟩
  have hbl := block_lt_of_cell e4
  have P1 : Bf ≠ mb := by have := block_lt_of_cell e2; simp at this; omega
  have P2 : Bn ≠ mb := by have := block_lt_of_cell e3; simp at this; omega
  have P3 : Bs ≠ mb := by have := block_lt_of_cell e5; simp at this; omega
  have N4 : b ≠ mb := by simp at hbl; omega
  have HKW := Lib.hid (show Keep F w X0 by rw [hX0]; exact ((Keep.refl F w).setCell (p := ⟨b, 1, none⟩) (Or.inl hbF) _).alloc _)
  have HV := Lib.hid (show FilesV n₀ X0 mb (.map []) (fun _ => .slice none 0 0) M.L none by
    rw [hX0, hL0, hmb]
    have hz : (w.setCell ⟨b, 1, none⟩ (.map (some w.heap.size))).heap.size = w.heap.size := by simp [World.setCell]
    have := FilesV.nil (n₀ := n₀) (w.setCell ⟨b, 1, none⟩ (.map (some w.heap.size))) (fun _ => .slice none 0 0) (by rw [hz]; exact hn0)
    rwa [hz] at this)
  have HH := Lib.hid (show Hdr X0 b M (.map (some mb)) t by
    rw [hX0, hmb]
    exact ⟨by rw [Below.heap_alloc _ _ b (by simpa [World.setCell] using hbl), blk_set h.1 1 _]; rfl, h.2⟩)
  have HS := Lib.hid hS
  have HY := Lib.hid (show getF s.data.toList M.L = none by rw [hL0]; rfl)
  have HMB := Lib.hid (show mb ∈ F ∨ w.heap.size ≤ mb from Or.inr (by omega))
  have HVF := Lib.hid (show ∀ z ∈ M.L, ∀ k, ((fun _ => .slice none 0 0 : List UInt8 → Value) z.name).ownBlock = some k → k ∈ F ∨ w.heap.size ≤ k from fun z hz k hk => by rw [hL0] at hz; cases hz)
  have HLK := Lib.hid (fun x (hb : Bel X0 x) => run_look_none (F := mb :: F) (Or.inr ⟨mb, _, _, rfl, HV.out.bel hb, by simp, fun y hy => by rw [hL0] at hy; cases hy⟩) s hs HY.out false)
  have HN0 := Lib.hid (show n₀ ≤ X0.heap.size from Nat.le_trans hn0 HKW.out.size)
  obtain ⟨nf1, nf2, nf3⟩ := nf
  have q2 := HKW.out.cell e2 nf1
  have q3 := HKW.out.cell e3 nf2
  have q5 := HKW.out.cell e5 nf3
  have q4 : X0.cell? ⟨b, 1, none⟩ = some (.map (some mb)) := by simp [World.cell?, HH.out.1]
  unfold conZ at HLK
  have hHX := Lib.hid hX0
  have hMB := Lib.hid hmb
  clear hSK h hS hX0 hmb hL0 nf1 nf2 nf3 hn0
  have hqn := nil_eq_nil
  have hmm := @run_makeMap Tryz.prog
  go_enter Tryz.func54, Tryz.ntmps54
  go_wp2_with (fail)
  rw [← hHX.out]
  try rw [← hMB.out]
  refine wp_region_held_drew (S := fun z => (z.cell? ⟨Bf, 0, none⟩ = some (.pointer (some ⟨b, 0, none⟩)) ∧ z.cell? ⟨Bn, 0, none⟩ = some (.string s) ∧ z.cell? ⟨Bs, 0, none⟩ = some (.string u) ∧ z.cell? ⟨b, 1, none⟩ = some (.map (some mb)))) (by kernel_rfl) ⟨q2, q3, q5, q4⟩ (fun hHeld => ?_)
  refine wpAnyH_take (i := 0) (oi := { dst := some 12, op := Op.load 48 (Operand.tmp 0), type := 48, pos := "file.go:38", after := #[], guard := none }) (v := ?_) rfl (by kernel_rfl) (by kernel_rfl) (by kernel_rfl) (fun _ _ _ h => h) (Or.inl ⟨by rfl, ?_⟩) (by assumption) ?_
  rotate_left
  · (intro w hSw; (try dsimp only at hSw); first | (go_simp; done) | (go_simp; with_reducible rfl))
  try simp only [Act.put, List.setIfInBounds_toArray, List.set_cons_zero, List.set_cons_succ]
  refine wpAnyH_take (i := 1) (oi := { dst := some 13, op := Op.nilCheck (Operand.tmp 12), type := 0, pos := "file.go:38", after := #[{ on := 0, ground := Ground.data }], guard := none }) (v := ?_) rfl (by kernel_rfl) (by kernel_rfl) (by kernel_rfl) (fun _ _ _ h => h) (Or.inl ⟨by rfl, ?_⟩) (by assumption) ?_
  rotate_left
  · (intro w hSw; (try dsimp only at hSw); first | (go_simp; done) | (go_simp; with_reducible rfl))
  try simp only [Act.put, List.setIfInBounds_toArray, List.set_cons_zero, List.set_cons_succ]
  refine wpAnyH_take (i := 2) (oi := { dst := some 14, op := Op.fieldAddr 92 (Operand.tmp 13) 1, type := 0, pos := "file.go:38", after := #[{ on := 1, ground := Ground.data }], guard := none }) (v := ?_) rfl (by kernel_rfl) (by kernel_rfl) (by kernel_rfl) (fun _ _ _ h => h) (Or.inl ⟨by rfl, ?_⟩) (by assumption) ?_
  rotate_left
  · (intro w hSw; (try dsimp only at hSw); first | (go_simp; done) | (go_simp; with_reducible rfl))
  try simp only [Act.put, List.setIfInBounds_toArray, List.set_cons_zero, List.set_cons_succ]
  refine wpAnyH_take (i := 3) (oi := { dst := some 15, op := Op.load 90 (Operand.tmp 14), type := 90, pos := "file.go:38", after := #[{ on := 2, ground := Ground.data }], guard := none }) (v := ?_) rfl (by kernel_rfl) (by kernel_rfl) (by kernel_rfl) (fun _ _ _ h => h) (Or.inl ⟨by rfl, ?_⟩) (by assumption) ?_
  rotate_left
  · (intro w hSw; (try dsimp only at hSw); first | (go_simp; done) | (go_simp; with_reducible rfl))
  try simp only [Act.put, List.setIfInBounds_toArray, List.set_cons_zero, List.set_cons_succ]
  refine wpAnyH_take (i := 4) (oi := { dst := some 16, op := Op.load 9 (Operand.tmp 1), type := 9, pos := "file.go:38", after := #[], guard := none }) (v := ?_) rfl (by kernel_rfl) (by kernel_rfl) (by kernel_rfl) (fun _ _ _ h => h) (Or.inl ⟨by rfl, ?_⟩) (by assumption) ?_
  rotate_left
  · (intro w hSw; (try dsimp only at hSw); first | (go_simp; done) | (go_simp; with_reducible rfl))
  try simp only [Act.put, List.setIfInBounds_toArray, List.set_cons_zero, List.set_cons_succ]
  refine wpAnyH_take (i := 5) (oi := { dst := some 17, op := Op.load 48 (Operand.tmp 0), type := 48, pos := "file.go:38", after := #[], guard := none }) (v := ?_) rfl (by kernel_rfl) (by kernel_rfl) (by kernel_rfl) (fun _ _ _ h => h) (Or.inl ⟨by rfl, ?_⟩) (by assumption) ?_
  rotate_left
  · (intro w hSw; (try dsimp only at hSw); first | (go_simp; done) | (go_simp; with_reducible rfl))
  try simp only [Act.put, List.setIfInBounds_toArray, List.set_cons_zero, List.set_cons_succ]
  refine wpAnyH_take (i := 6) (oi := { dst := some 18, op := Op.nilCheck (Operand.tmp 17), type := 0, pos := "file.go:38", after := #[{ on := 5, ground := Ground.data }], guard := none }) (v := ?_) rfl (by kernel_rfl) (by kernel_rfl) (by kernel_rfl) (fun _ _ _ h => h) (Or.inl ⟨by rfl, ?_⟩) (by assumption) ?_
  rotate_left
  · (intro w hSw; (try dsimp only at hSw); first | (go_simp; done) | (go_simp; with_reducible rfl))
  try simp only [Act.put, List.setIfInBounds_toArray, List.set_cons_zero, List.set_cons_succ]
  refine wpAnyH_take (i := 7) (oi := { dst := some 19, op := Op.fieldAddr 92 (Operand.tmp 18) 1, type := 0, pos := "file.go:38", after := #[{ on := 6, ground := Ground.data }], guard := none }) (v := ?_) rfl (by kernel_rfl) (by kernel_rfl) (by kernel_rfl) (fun _ _ _ h => h) (Or.inl ⟨by rfl, ?_⟩) (by assumption) ?_
  rotate_left
  · (intro w hSw; (try dsimp only at hSw); first | (go_simp; done) | (go_simp; with_reducible rfl))
  try simp only [Act.put, List.setIfInBounds_toArray, List.set_cons_zero, List.set_cons_succ]
  refine wpAnyH_take (i := 8) (oi := { dst := some 20, op := Op.load 90 (Operand.tmp 19), type := 90, pos := "file.go:38", after := #[{ on := 7, ground := Ground.data }], guard := none }) (v := ?_) rfl (by kernel_rfl) (by kernel_rfl) (by kernel_rfl) (fun _ _ _ h => h) (Or.inl ⟨by rfl, ?_⟩) (by assumption) ?_
  rotate_left
  · (intro w hSw; (try dsimp only at hSw); first | (go_simp; done) | (go_simp; with_reducible rfl))
  try simp only [Act.put, List.setIfInBounds_toArray, List.set_cons_zero, List.set_cons_succ]
  refine wpAnyH_take (i := 9) (oi := { dst := some 21, op := Op.load 9 (Operand.tmp 1), type := 9, pos := "file.go:38", after := #[], guard := none }) (v := ?_) rfl (by kernel_rfl) (by kernel_rfl) (by kernel_rfl) (fun _ _ _ h => h) (Or.inl ⟨by rfl, ?_⟩) (by assumption) ?_
  rotate_left
  · (intro w hSw; (try dsimp only at hSw); first | (go_simp; done) | (go_simp; with_reducible rfl))
  try simp only [Act.put, List.setIfInBounds_toArray, List.set_cons_zero, List.set_cons_succ]
  refine wpAnyH_take (i := 11) (oi := { dst := some 23, op := Op.load 9 (Operand.tmp 2), type := 9, pos := "file.go:38", after := #[], guard := none }) (v := ?_) rfl (by kernel_rfl) (by kernel_rfl) (by kernel_rfl) (fun _ _ _ h => h) (Or.inl ⟨by rfl, ?_⟩) (by assumption) ?_
  rotate_left
  · (intro w hSw; (try dsimp only at hSw); first | (go_simp; done) | (go_simp; with_reducible rfl))
  try simp only [Act.put, List.setIfInBounds_toArray, List.set_cons_zero, List.set_cons_succ]
  refine wpAnyH_ready (rs := [10]) (by kernel_rfl) (by simp) ?_
  refine AllReadyH.cons (o := { dst := some 22, op := Op.lookup 90 (Operand.tmp 20) (Operand.tmp 21) false, type := 97, pos := "file.go:38", after := #[{ on := 8, ground := Ground.data }, { on := 9, ground := Ground.data }], guard := none }) rfl (fun K hK => ?_) AllReadyH.nil
  refine step_look (mv := .map (some mb)) (kv := .string s) (r := .agg #[.slice none 0 0, .int .i64 0]) rfl (.tmp 20) (.tmp 21) rfl rfl rfl (HLK.out _ (Bel.refl _).drew) ?_
  refine hK.out _ _ hHeld (fun hHeld1 => ?_)
  clear hK K
  try simp only [Act.put, List.setIfInBounds_toArray, List.set_cons_zero, List.set_cons_succ]
  refine wpAnyH_ready (rs := [12]) (by kernel_rfl) (by simp) ?_
  refine AllReadyH.cons (o := { dst := some 24, op := Op.call { callee := Callee.value (Operand.func 55), args := #[Operand.tmp 22, Operand.tmp 23], argTypes := #[97, 9] }, type := 97, pos := "file.go:38", after := #[{ on := 10, ground := Ground.data }, { on := 11, ground := Ground.data }], guard := none }) rfl (fun K hK => ?_) AllReadyH.nil
  go_simp
  refine (extended_nil n₀ X0.drew u hu HN0.out).mono ?_
  rintro e w2 ⟨v', rfl, hv1, hk1, hl1⟩
  have D1 := Lib.hid ((Keep.of_bel (Bel.refl X0).drew []).trans hk1 (fun x hx => Or.inl hx))
  have S2 := HSK.out [] _ _ hk1 (by simp) (by simp) (by simp) (by simp) hHeld
  have HV1 := Lib.hid hv1
  have HL1 := Lib.hid hl1
  have HV2 := Lib.hid (show FilesV n₀ w2 mb (.map []) (fun _ => .slice none 0 0) M.L none from HV.out.keep D1.out (by simp) (fun _ _ _ _ _ => by simp))
  clear hk1 hv1 hl1
  dsimp only
  refine hK.out _ _ S2 (fun hHeld2 => ?_)
  clear hK K
  try simp only [Act.put, List.setIfInBounds_toArray, List.set_cons_zero, List.set_cons_succ]
  refine wpAnyH_ready (rs := [13]) (by kernel_rfl) (by simp) ?_
  refine AllReadyH.cons (o := { dst := none, op := Op.mapUpdate 90 (Operand.tmp 15) (Operand.tmp 16) (Operand.tmp 24), type := 0, pos := "file.go:38", after := #[{ on := 3, ground := Ground.data }, { on := 4, ground := Ground.data }, { on := 12, ground := Ground.data }, { on := 12, ground := Ground.chain }, { on := 0, ground := Ground.phase }, { on := 1, ground := Ground.phase }, { on := 2, ground := Ground.phase }, { on := 3, ground := Ground.phase }, { on := 4, ground := Ground.phase }, { on := 5, ground := Ground.phase }, { on := 6, ground := Ground.phase }, { on := 7, ground := Ground.phase }, { on := 8, ground := Ground.phase }, { on := 9, ground := Ground.phase }, { on := 10, ground := Ground.phase }, { on := 11, ground := Ground.phase }, { on := 12, ground := Ground.phase }], guard := none }) rfl (fun K hK => ?_) AllReadyH.nil
  refine step_store (mb := mb) (s := s) (val := .agg #[v', .int .i64 0]) rfl (.tmp 15) (.tmp 16) (.tmp 24) rfl rfl rfl rfl HV2.out.own (by omega) hs ?_
  intro w3 ho hk
  refine hK.out _ _ (HSK.out [mb] _ _ hk (by simpa using P1) (by simpa using P2) (by simpa using P3) (by simpa using N4) S2) (fun hHeld3 => ?_)
  clear hK K
  try simp only [Act.put, List.setIfInBounds_toArray, List.set_cons_zero, List.set_cons_succ]
  refine wpAnyH_done (by kernel_rfl) ?_ _
  have HO := Lib.hid ho
  have HK := Lib.hid hk
  clear ho hk hHeld hHeld1 hHeld2 hHeld3 S2
  go_wp2_with (fail)
  go_end0
  have hval := HV1.out.keep HK.out (fun k hk1 hk2 => by
    rw [List.mem_singleton] at hk2
    subst hk2
    exact HV2.out.ne_row HV1.out hk1)
  have hadd : addF s.data.toList u.data.toList M.L = ⟨s.data.toList, u.data.toList, 0⟩ := by unfold addF; rw [HY.out]
  have hput := FilesV.put (y := ⟨s.data.toList, u.data.toList, 0⟩) (v' := v') HS.out (HV2.out.weak s.data.toList) (x := w3) (n := M.L.length + 1) (by
      have := HO.out
      exact this) HK.out hval (fun z hz hne k hk => by
      have h1 := HL1.out k hk
      intro h2
      have := ((HV.out.val z hz (by simp)).lt k h2).2
      simp at h1
      omega)
  rw [hadd]
  have KK := ((HKW.out.trans (D1.out.mono (G := F) (fun x hx => by cases hx)) (fun x hx => Or.inl hx))).trans (HK.out.mono (G := mb :: F) (fun x hx => by rw [List.mem_singleton] at hx; rw [hx]; simp)) (fun x hx => by
    rcases List.mem_cons.1 hx with rfl | hx
    · exact HMB.out
    · exact Or.inl hx)
  refine ⟨rfl, mb, _, _, (HH.out.keep D1.out (by simp)).keep HK.out (by simpa using N4), hput, KK, HMB.out, fun z hz k hk => ?_⟩
  by_cases he : z.name = s.data.toList
  · simp only [he, if_true] at hk
    exact Or.inr (Nat.le_trans HKW.out.size (by simpa using HL1.out k hk))
  · simp only [he, if_false] at hk
    rcases mem_ins hz with rfl | hz
    · exact absurd rfl he
    · exact HVF.out z hz k hk

end Go.Proofs.YtedopiojidaeiaaGreatDoor
