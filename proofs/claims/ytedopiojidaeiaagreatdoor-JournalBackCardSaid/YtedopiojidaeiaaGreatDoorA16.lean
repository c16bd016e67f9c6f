/- FCl1, FCl2, laid together. -/
import Derived.Test.YtedopiojidaeiaaGreatDoorA15
/- The changes of file that Flush, Cut, Drop and Move hand to turn. -/
set_option linter.unusedSimpArgs false
set_option linter.unusedVariables false
namespace Go.Proofs.YtedopiojidaeiaaGreatDoor
open Go.RowKit Go.Deep Go.Maps

theorem cell_ne_map {w : World} {R : Value → Option (DataW Value × List MemPlace)} {k : TypeId} {mb n : Nat} {D : DataW Value} (h : w.ownsMap Tryz.prog k R mb n D) {B o : Nat} {v : Value} (hc : w.cell? ⟨B, o, none⟩ = some v) : B ≠ mb := by
  rintro rfl
  obtain ⟨es, clock, hm, _⟩ := h
  simp [World.cell?, hm] at hc
/-- A file's store, as one step of a region that draws its order. -/
theorem step_store {ops : Array Oper} {o : Oper} {a : Act} {K : Act → World → Prop} {Q : Exit → Act → World → Prop} {E : Prop} {x : World} (hgd : o.guard = none) (m y v : Operand)
    (ho : o.op = Op.mapUpdate 90 m y v) {mb n : Nat} {D : DataW Value} {s : ByteArray} {val : Value} (hm : a.eval m = .map (some mb)) (hy : a.eval y = .string s) (hv : a.eval v = val)
    (hown : x.ownsMap Tryz.prog 9 RV mb n D) (hn : n ≤ 1000000) (hs : s.size ≤ maxLen)
    (h : ∀ w', w'.ownsMap Tryz.prog 9 RV mb (n + 1) (D.put (.string s.data.toList) (.held val)) → Keep [mb] x w' → K (a.put o.dst undef) w') : if Region.wanted o (yielded ops a.tmps) = true then o.wp Tryz.prog a x K Q else E := by
  rw [if_pos (by simp [Region.wanted, hgd])]
  obtain ⟨w', hrun, r1, r2⟩ := hown.store keyLaw Tryz.underlying90 (by unfold maxLen; omega) (key_is s hs) (rfl : RV val = some (.held val, []))
  unfold Oper.wp
  simp [execOp, ho, hm, hy, hv, hrun, Result.andThen]
  exact h w' r1 (keep_turned r2)
theorem step_del {ops : Array Oper} {o : Oper} {a : Act} {K : Act → World → Prop} {Q : Exit → Act → World → Prop} {E : Prop} {x : World} (hgd : o.guard = none) (m y : Operand)
    (ho : o.op = Op.call { callee := Callee.builtin Builtin.delete, args := #[m, y], argTypes := #[90, 9] }) {mb n : Nat} {D : DataW Value} {s : ByteArray} (hm : a.eval m = .map (some mb)) (hy : a.eval y = .string s)
    (hown : x.ownsMap Tryz.prog 9 RV mb n D) (hs : s.size ≤ maxLen)
    (h : ∀ w', w'.ownsMap Tryz.prog 9 RV mb n (D.del (.string s.data.toList)) → Keep [mb] x w' → K (a.put o.dst (.tuple #[])) w') : if Region.wanted o (yielded ops a.tmps) = true then o.wp Tryz.prog a x K Q else E := by
  rw [if_pos (by simp [Region.wanted, hgd])]
  obtain ⟨w', hrun, r1, r2⟩ := hown.drop keyLaw Tryz.underlying90 (key_is s hs) o.type
  unfold Oper.wp
  simp [execOp, ho, resolve, invoke, builtin, hm, hy, hrun, Result.andThen]
  exact h w' r1 (keep_turned r2)
/-- What a change of the files makes of them. -/
def Chg (n₀ : Nat) (w x : World) (b : Nat) (M : RS) (mb : Nat) (t : Int) (V : List UInt8 → Value) (L L' : List FI) (G : List Nat) : Prop :=
  ∃ D' V', Hdr x b M (.map (some mb)) t ∧ FilesV n₀ x mb D' V' L' none ∧ Keep G w x ∧ ∀ z ∈ L', ∀ k, (V' z.name).ownBlock = some k → (∃ u ∈ L, (V u.name).ownBlock = some k) ∨ w.heap.size ≤ k
theorem Hdr.keep {w x : World} {b : Nat} {M : RS} {mv : Value} {t : Int} {G : List Nat} (h : Hdr w b M mv t) (hk : Keep G w x) (hb : b ∉ G) : Hdr x b M mv t := ⟨hk.at h.1 hb, h.2⟩
theorem Hdr.ne {w : World} {b : Nat} {M : RS} {mv : Value} {t : Int} {R : Value → Option (DataW Value × List MemPlace)} {k : TypeId} {mb n : Nat} {D : DataW Value} (h : Hdr w b M mv t) (ho : w.ownsMap Tryz.prog k R mb n D) : b ≠ mb := by
  rintro rfl
  obtain ⟨es, clock, hm, _⟩ := ho
  rw [h.1] at hm; cases hm
theorem str_eta (s : ByteArray) : (⟨s.data.toList.toArray⟩ : ByteArray) = s := by simp

set_option maxHeartbeats 4000000 in
set_option maxRecDepth 20000 in
theorem flushcl_any (n₀ : Nat) (w : World) (b mb : Nat) (M : RS) (t : Int) (D : DataW Value) (V : List UInt8 → Value) (Bc Bf Bn : Nat) (s : ByteArray) (y : FI) (h : Hdr w b M (.map (some mb)) t) (hV : FilesV n₀ w mb D V M.L none) (hS : Srt M.L) (hL : M.L.length ≤ 1000)
    (hs : s.size ≤ maxLen) (hy : getF s.data.toList M.L = some y) {p : Option Addr} {n cap : Nat} (hp : V y.name = .slice p n cap) (hn : y.bytes.length = n)
    (e0 : w.cell? ⟨Bc, 0, none⟩ = some (.slice p n cap)) (e1 : w.cell? ⟨Bc, 1, none⟩ = some (.int .i64 y.safe)) (e2 : w.cell? ⟨Bf, 0, none⟩ = some (.pointer (some ⟨b, 0, none⟩))) (e3 : w.cell? ⟨Bn, 0, none⟩ = some (.string s)) :
    Calls Tryz.prog 101 #[.pointer (some ⟨Bc, 0, none⟩), .pointer (some ⟨Bf, 0, none⟩), .pointer (some ⟨Bn, 0, none⟩)] w fun e w' =>
      e = .returned (.tuple #[]) ∧ Chg n₀ w w' b M mb t V M.L (insS { y with safe := y.bytes.length } M.L) [mb] := by
  have e4 : w.cell? ⟨b, 1, none⟩ = some (.map (some mb)) := by simp [World.cell?, h.1]
  have hSK : ∀ G x z, Keep G x z → Bc ∉ G → Bf ∉ G → Bn ∉ G → b ∉ G →
      (x.cell? ⟨Bc, 0, none⟩ = some (.slice p n cap) ∧ x.cell? ⟨Bc, 1, none⟩ = some (.int .i64 y.safe) ∧ x.cell? ⟨Bf, 0, none⟩ = some (.pointer (some ⟨b, 0, none⟩)) ∧ x.cell? ⟨Bn, 0, none⟩ = some (.string s) ∧ x.cell? ⟨b, 1, none⟩ = some (.map (some mb))) →
      (z.cell? ⟨Bc, 0, none⟩ = some (.slice p n cap) ∧ z.cell? ⟨Bc, 1, none⟩ = some (.int .i64 y.safe) ∧ z.cell? ⟨Bf, 0, none⟩ = some (.pointer (some ⟨b, 0, none⟩)) ∧ z.cell? ⟨Bn, 0, none⟩ = some (.string s) ∧ z.cell? ⟨b, 1, none⟩ = some (.map (some mb))) :=
    fun G x z hk h1 h2 h3 h4 hc => ⟨hk.cell hc.1 h1, hk.cell hc.2.1 h1, hk.cell hc.2.2.1 h2, hk.cell hc.2.2.2.1 h3, hk.cell hc.2.2.2.2 h4⟩
  have HSK := Lib.hid hSK
  have N1 := cell_ne_map hV.own e0
  have N2 := cell_ne_map hV.own e2
  have N3 := cell_ne_map hV.own e3
  have N4 := h.ne hV.own
  have HV := Lib.hid hV
  have HH := Lib.hid h
  have HS := Lib.hid hS
  have HY := Lib.hid hy
  have HP := Lib.hid hp
  have HN := Lib.hid hn
  clear hSK hV h hS hy hp hn
  go_enter Tryz.func101, Tryz.ntmps101
  go_wp2_with (fail)
  refine wp_region_held_drew (S := fun z => (z.cell? ⟨Bc, 0, none⟩ = some (.slice p n cap) ∧ z.cell? ⟨Bc, 1, none⟩ = some (.int .i64 y.safe) ∧ z.cell? ⟨Bf, 0, none⟩ = some (.pointer (some ⟨b, 0, none⟩)) ∧ z.cell? ⟨Bn, 0, none⟩ = some (.string s) ∧ z.cell? ⟨b, 1, none⟩ = some (.map (some mb)))) (by kernel_rfl) ⟨e0, e1, e2, e3, e4⟩ (fun hHeld => ?_)
  refine wpAnyH_take (i := 0) (oi := { dst := some 3, op := Op.load 48 (Operand.tmp 1), type := 48, pos := "file.go:75", after := #[], guard := none }) (v := ?_) rfl (by kernel_rfl) (by kernel_rfl) (by kernel_rfl) (fun _ _ _ h => h) (Or.inl ⟨by rfl, ?_⟩) (by assumption) ?_
  rotate_left
  · (intro w hSw; (try dsimp only at hSw); first | (go_simp; done) | (go_simp; with_reducible rfl))
  try simp only [Act.put, List.setIfInBounds_toArray, List.set_cons_zero, List.set_cons_succ]
  refine wpAnyH_take (i := 1) (oi := { dst := some 4, op := Op.nilCheck (Operand.tmp 3), type := 0, pos := "file.go:75", after := #[{ on := 0, ground := Ground.data }], guard := none }) (v := ?_) rfl (by kernel_rfl) (by kernel_rfl) (by kernel_rfl) (fun _ _ _ h => h) (Or.inl ⟨by rfl, ?_⟩) (by assumption) ?_
  rotate_left
  · (intro w hSw; (try dsimp only at hSw); first | (go_simp; done) | (go_simp; with_reducible rfl))
  try simp only [Act.put, List.setIfInBounds_toArray, List.set_cons_zero, List.set_cons_succ]
  refine wpAnyH_take (i := 2) (oi := { dst := some 5, op := Op.fieldAddr 92 (Operand.tmp 4) 1, type := 0, pos := "file.go:75", after := #[{ on := 1, ground := Ground.data }], guard := none }) (v := ?_) rfl (by kernel_rfl) (by kernel_rfl) (by kernel_rfl) (fun _ _ _ h => h) (Or.inl ⟨by rfl, ?_⟩) (by assumption) ?_
  rotate_left
  · (intro w hSw; (try dsimp only at hSw); first | (go_simp; done) | (go_simp; with_reducible rfl))
  try simp only [Act.put, List.setIfInBounds_toArray, List.set_cons_zero, List.set_cons_succ]
  refine wpAnyH_take (i := 3) (oi := { dst := some 6, op := Op.load 90 (Operand.tmp 5), type := 90, pos := "file.go:75", after := #[{ on := 2, ground := Ground.data }], guard := none }) (v := ?_) rfl (by kernel_rfl) (by kernel_rfl) (by kernel_rfl) (fun _ _ _ h => h) (Or.inl ⟨by rfl, ?_⟩) (by assumption) ?_
  rotate_left
  · (intro w hSw; (try dsimp only at hSw); first | (go_simp; done) | (go_simp; with_reducible rfl))
  try simp only [Act.put, List.setIfInBounds_toArray, List.set_cons_zero, List.set_cons_succ]
  refine wpAnyH_take (i := 4) (oi := { dst := some 7, op := Op.load 9 (Operand.tmp 2), type := 9, pos := "file.go:75", after := #[], guard := none }) (v := ?_) rfl (by kernel_rfl) (by kernel_rfl) (by kernel_rfl) (fun _ _ _ h => h) (Or.inl ⟨by rfl, ?_⟩) (by assumption) ?_
  rotate_left
  · (intro w hSw; (try dsimp only at hSw); first | (go_simp; done) | (go_simp; with_reducible rfl))
  try simp only [Act.put, List.setIfInBounds_toArray, List.set_cons_zero, List.set_cons_succ]
  refine wpAnyH_take (i := 5) (oi := { dst := some 8, op := Op.load 97 (Operand.tmp 0), type := 97, pos := "file.go:75", after := #[], guard := none }) (v := ?_) rfl (by kernel_rfl) (by kernel_rfl) (by kernel_rfl) (fun _ _ _ h => h) (Or.inl ⟨by rfl, ?_⟩) (by assumption) ?_
  rotate_left
  · (intro w hSw; (try dsimp only at hSw); first | (go_simp; done) | (go_simp; with_reducible rfl))
  try simp only [Act.put, List.setIfInBounds_toArray, List.set_cons_zero, List.set_cons_succ]
  refine wpAnyH_ready (rs := [6]) (by kernel_rfl) (by simp) ?_
  refine AllReadyH.cons (o := { dst := some 9, op := Op.call { callee := Callee.value (Operand.func 102), args := #[Operand.tmp 8], argTypes := #[97] }, type := 97, pos := "file.go:75", after := #[{ on := 5, ground := Ground.data }], guard := none }) rfl (fun K hK => ?_) AllReadyH.nil
  go_simp
  refine (saved_any _ p n cap y.safe).mono ?_
  rintro e w2 ⟨rfl, hb2⟩
  have D1 := Lib.hid (((Bel.refl w).drew).trans hb2)
  have S2 := HSK.out [] _ _ (Keep.of_bel hb2 []) (by simp) (by simp) (by simp) (by simp) hHeld
  clear hb2
  dsimp only
  refine hK.out _ _ S2 (fun hHeld2 => ?_)
  clear hK K
  try simp only [Act.put, List.setIfInBounds_toArray, List.set_cons_zero, List.set_cons_succ]
  refine wpAnyH_ready (rs := [7]) (by kernel_rfl) (by simp) ?_
  refine AllReadyH.cons (o := { dst := none, op := Op.mapUpdate 90 (Operand.tmp 6) (Operand.tmp 7) (Operand.tmp 9), type := 0, pos := "file.go:75", after := #[{ on := 3, ground := Ground.data }, { on := 4, ground := Ground.data }, { on := 6, ground := Ground.data }, { on := 6, ground := Ground.chain }, { on := 0, ground := Ground.phase }, { on := 1, ground := Ground.phase }, { on := 2, ground := Ground.phase }, { on := 3, ground := Ground.phase }, { on := 4, ground := Ground.phase }, { on := 5, ground := Ground.phase }, { on := 6, ground := Ground.phase }], guard := none }) rfl (fun K hK => ?_) AllReadyH.nil
  refine step_store (mb := mb) (s := s) (val := .agg #[.slice p n cap, .int .i64 n]) rfl (.tmp 6) (.tmp 7) (.tmp 9) rfl rfl rfl rfl (HV.out.bel D1.out).own (by omega) hs ?_
  intro w3 ho hk
  refine hK.out _ _ (HSK.out [mb] _ _ hk (by simpa using N1) (by simpa using N2) (by simpa using N3) (by simpa using N4) S2) (fun hHeld3 => ?_)
  clear hK K
  try simp only [Act.put, List.setIfInBounds_toArray, List.set_cons_zero, List.set_cons_succ]
  refine wpAnyH_done (by kernel_rfl) ?_ _
  have HO := Lib.hid ho
  have HK := Lib.hid hk
  clear ho hk hHeld hHeld2 hHeld3 S2
  go_wp2_with (fail)
  go_end0
  have hym := getF_mem HY.out
  have hnm := getF_name HY.out
  have hv := (HV.out.bel D1.out).val y hym (by simp)
  have hval := hv.keep HK.out (fun k hk1 hk2 => by
    rw [List.mem_singleton] at hk2
    subst hk2
    exact (HV.out.bel D1.out).ne_row hv hk1)
  have hput := FilesV.put (y := { y with safe := y.bytes.length }) (v' := V y.name) HS.out ((HV.out.bel D1.out).weak y.name) (x := w3) (n := M.L.length + 1) (by
      have := HO.out
      rw [← hnm] at this
      simp only [conV, HP.out, HN.out]
      exact this) HK.out hval (fun z hz hne k hk => (HV.out.apart y hym z hz (fun e => hne e.symm) k hk))
  refine ⟨rfl, _, _, (HH.out.keep (Keep.of_bel D1.out []) (by simp)).keep HK.out (by simpa using N4), hput, (Keep.of_bel D1.out _).trans HK.out (fun x hx => Or.inl hx), fun z hz k hk => Or.inl ?_⟩
  rcases mem_ins hz with rfl | hz
  · simp only [if_true] at hk
    exact ⟨y, hym, hk⟩
  · by_cases he : z.name = y.name
    · simp only [he, if_true] at hk
      exact ⟨y, hym, hk⟩
    · simp only [he, if_false] at hk
      exact ⟨z, hz, hk⟩
end Go.Proofs.YtedopiojidaeiaaGreatDoor
/- The changes of file that Cut, Drop and Move hand to turn. -/
set_option linter.unusedSimpArgs false
set_option linter.unusedVariables false
namespace Go.Proofs.YtedopiojidaeiaaGreatDoor
open Go.RowKit Go.Deep Go.Maps

theorem slice_block (p : Option Addr) (n m cap : Nat) : (Value.slice p n cap).ownBlock = (Value.slice p m cap).ownBlock := by cases p <;> rfl
theorem own_shape {B : Nat} {w : World} {p : Option Addr} {n cap : Nat} {l : List UInt8} (h : Own B w (.slice p n cap) l) : n ≤ cap ∧ cap ≤ maxLen ∧ (∀ a, p = some a → a = ⟨a.block, 0, none⟩) ∧ (p = none → n = 0 ∧ cap = 0) := by
  rcases h.2 with ⟨h1, h0⟩ | ⟨g, cap', cur, h1, _, _, hc, hx, _⟩
  · simp only [Value.slice.injEq] at h1
    obtain ⟨rfl, rfl, rfl⟩ := h1
    exact ⟨Nat.le_refl _, by unfold maxLen; omega, by simp, fun _ => ⟨rfl, rfl⟩⟩
  · simp only [Value.slice.injEq] at h1
    obtain ⟨rfl, rfl, rfl⟩ := h1
    exact ⟨hc, hx, by simp, by simp⟩

set_option maxHeartbeats 4000000 in
set_option maxRecDepth 20000 in
theorem cutcl_any (n₀ : Nat) (w : World) (b mb : Nat) (M : RS) (t : Int) (D : DataW Value) (V : List UInt8 → Value) (Bc Bi Bf Bn : Nat) (s : ByteArray) (y : FI) (h : Hdr w b M (.map (some mb)) t) (hV : FilesV n₀ w mb D V M.L none) (hS : Srt M.L) (hL : M.L.length ≤ 1000)
    (hs : s.size ≤ maxLen) (hy : getF s.data.toList M.L = some y) {p : Option Addr} {n cap : Nat} (hp : V y.name = .slice p n cap) (hn : y.bytes.length = n) (m : Nat) (hm : m ≤ n) (e5 : w.cell? ⟨Bi, 0, none⟩ = some (.int .i64 m))
    (e0 : w.cell? ⟨Bc, 0, none⟩ = some (.slice p n cap)) (e1 : w.cell? ⟨Bc, 1, none⟩ = some (.int .i64 y.safe)) (e2 : w.cell? ⟨Bf, 0, none⟩ = some (.pointer (some ⟨b, 0, none⟩))) (e3 : w.cell? ⟨Bn, 0, none⟩ = some (.string s)) :
    Calls Tryz.prog 140 #[.pointer (some ⟨Bc, 0, none⟩), .pointer (some ⟨Bi, 0, none⟩), .pointer (some ⟨Bf, 0, none⟩), .pointer (some ⟨Bn, 0, none⟩)] w fun e w' =>
      e = .returned (.tuple #[]) ∧ Chg n₀ w w' b M mb t V M.L (insS { y with bytes := y.bytes.take m, safe := min y.safe m } M.L) [mb] := by
  have e4 : w.cell? ⟨b, 1, none⟩ = some (.map (some mb)) := by simp [World.cell?, h.1]
  have hSK : ∀ G x z, Keep G x z → Bc ∉ G → Bf ∉ G → Bn ∉ G → b ∉ G → Bi ∉ G →
      (x.cell? ⟨Bc, 0, none⟩ = some (.slice p n cap) ∧ x.cell? ⟨Bc, 1, none⟩ = some (.int .i64 y.safe) ∧ x.cell? ⟨Bf, 0, none⟩ = some (.pointer (some ⟨b, 0, none⟩)) ∧ x.cell? ⟨Bn, 0, none⟩ = some (.string s) ∧ x.cell? ⟨b, 1, none⟩ = some (.map (some mb)) ∧ x.cell? ⟨Bi, 0, none⟩ = some (.int .i64 m)) →
      (z.cell? ⟨Bc, 0, none⟩ = some (.slice p n cap) ∧ z.cell? ⟨Bc, 1, none⟩ = some (.int .i64 y.safe) ∧ z.cell? ⟨Bf, 0, none⟩ = some (.pointer (some ⟨b, 0, none⟩)) ∧ z.cell? ⟨Bn, 0, none⟩ = some (.string s) ∧ z.cell? ⟨b, 1, none⟩ = some (.map (some mb)) ∧ z.cell? ⟨Bi, 0, none⟩ = some (.int .i64 m)) :=
    fun G x z hk h1 h2 h3 h4 h5 hc => ⟨hk.cell hc.1 h1, hk.cell hc.2.1 h1, hk.cell hc.2.2.1 h2, hk.cell hc.2.2.2.1 h3, hk.cell hc.2.2.2.2.1 h4, hk.cell hc.2.2.2.2.2 h5⟩
  have HSK := Lib.hid hSK
  have N1 := cell_ne_map hV.own e0
  have N2 := cell_ne_map hV.own e2
  have N3 := cell_ne_map hV.own e3
  have N4 := h.ne hV.own
  have N5 := cell_ne_map hV.own e5
  obtain ⟨hp1, hp2, hp3, hp4⟩ : n ≤ cap ∧ cap ≤ maxLen ∧ (∀ a, p = some a → a = ⟨a.block, 0, none⟩) ∧ (p = none → n = 0 ∧ cap = 0) := own_shape (hp ▸ hV.val y (getF_mem hy) (by simp))
  have HF := Lib.hid (fun x => first_any x p n cap y.safe m hm hp1 hp2 hp3 hp4)
  clear hp1 hp2 hp3 hp4
  have HV := Lib.hid hV
  have HH := Lib.hid h
  have HS := Lib.hid hS
  have HY := Lib.hid hy
  have HP := Lib.hid hp
  have HN := Lib.hid hn
  clear hSK hV h hS hy hp hn
  go_enter Tryz.func140, Tryz.ntmps140
  go_wp2_with (fail)
  refine wp_region_held_drew (S := fun z => (z.cell? ⟨Bc, 0, none⟩ = some (.slice p n cap) ∧ z.cell? ⟨Bc, 1, none⟩ = some (.int .i64 y.safe) ∧ z.cell? ⟨Bf, 0, none⟩ = some (.pointer (some ⟨b, 0, none⟩)) ∧ z.cell? ⟨Bn, 0, none⟩ = some (.string s) ∧ z.cell? ⟨b, 1, none⟩ = some (.map (some mb)) ∧ z.cell? ⟨Bi, 0, none⟩ = some (.int .i64 m))) (by kernel_rfl) ⟨e0, e1, e2, e3, e4, e5⟩ (fun hHeld => ?_)
  refine wpAnyH_take (i := 0) (oi := { dst := some 4, op := Op.load 48 (Operand.tmp 2), type := 48, pos := "file.go:86", after := #[], guard := none }) (v := ?_) rfl (by kernel_rfl) (by kernel_rfl) (by kernel_rfl) (fun _ _ _ h => h) (Or.inl ⟨by rfl, ?_⟩) (by assumption) ?_
  rotate_left
  · (intro w hSw; (try dsimp only at hSw); first | (go_simp; done) | (go_simp; with_reducible rfl))
  try simp only [Act.put, List.setIfInBounds_toArray, List.set_cons_zero, List.set_cons_succ]
  refine wpAnyH_take (i := 1) (oi := { dst := some 5, op := Op.nilCheck (Operand.tmp 4), type := 0, pos := "file.go:86", after := #[{ on := 0, ground := Ground.data }], guard := none }) (v := ?_) rfl (by kernel_rfl) (by kernel_rfl) (by kernel_rfl) (fun _ _ _ h => h) (Or.inl ⟨by rfl, ?_⟩) (by assumption) ?_
  rotate_left
  · (intro w hSw; (try dsimp only at hSw); first | (go_simp; done) | (go_simp; with_reducible rfl))
  try simp only [Act.put, List.setIfInBounds_toArray, List.set_cons_zero, List.set_cons_succ]
  refine wpAnyH_take (i := 2) (oi := { dst := some 6, op := Op.fieldAddr 92 (Operand.tmp 5) 1, type := 0, pos := "file.go:86", after := #[{ on := 1, ground := Ground.data }], guard := none }) (v := ?_) rfl (by kernel_rfl) (by kernel_rfl) (by kernel_rfl) (fun _ _ _ h => h) (Or.inl ⟨by rfl, ?_⟩) (by assumption) ?_
  rotate_left
  · (intro w hSw; (try dsimp only at hSw); first | (go_simp; done) | (go_simp; with_reducible rfl))
  try simp only [Act.put, List.setIfInBounds_toArray, List.set_cons_zero, List.set_cons_succ]
  refine wpAnyH_take (i := 3) (oi := { dst := some 7, op := Op.load 90 (Operand.tmp 6), type := 90, pos := "file.go:86", after := #[{ on := 2, ground := Ground.data }], guard := none }) (v := ?_) rfl (by kernel_rfl) (by kernel_rfl) (by kernel_rfl) (fun _ _ _ h => h) (Or.inl ⟨by rfl, ?_⟩) (by assumption) ?_
  rotate_left
  · (intro w hSw; (try dsimp only at hSw); first | (go_simp; done) | (go_simp; with_reducible rfl))
  try simp only [Act.put, List.setIfInBounds_toArray, List.set_cons_zero, List.set_cons_succ]
  refine wpAnyH_take (i := 4) (oi := { dst := some 8, op := Op.load 9 (Operand.tmp 3), type := 9, pos := "file.go:86", after := #[], guard := none }) (v := ?_) rfl (by kernel_rfl) (by kernel_rfl) (by kernel_rfl) (fun _ _ _ h => h) (Or.inl ⟨by rfl, ?_⟩) (by assumption) ?_
  rotate_left
  · (intro w hSw; (try dsimp only at hSw); first | (go_simp; done) | (go_simp; with_reducible rfl))
  try simp only [Act.put, List.setIfInBounds_toArray, List.set_cons_zero, List.set_cons_succ]
  refine wpAnyH_take (i := 5) (oi := { dst := some 9, op := Op.load 97 (Operand.tmp 0), type := 97, pos := "file.go:86", after := #[], guard := none }) (v := ?_) rfl (by kernel_rfl) (by kernel_rfl) (by kernel_rfl) (fun _ _ _ h => h) (Or.inl ⟨by rfl, ?_⟩) (by assumption) ?_
  rotate_left
  · (intro w hSw; (try dsimp only at hSw); first | (go_simp; done) | (go_simp; with_reducible rfl))
  try simp only [Act.put, List.setIfInBounds_toArray, List.set_cons_zero, List.set_cons_succ]
  refine wpAnyH_take (i := 6) (oi := { dst := some 10, op := Op.load 3 (Operand.tmp 1), type := 3, pos := "file.go:86", after := #[], guard := none }) (v := ?_) rfl (by kernel_rfl) (by kernel_rfl) (by kernel_rfl) (fun _ _ _ h => h) (Or.inl ⟨by rfl, ?_⟩) (by assumption) ?_
  rotate_left
  · (intro w hSw; (try dsimp only at hSw); first | (go_simp; done) | (go_simp; with_reducible rfl))
  try simp only [Act.put, List.setIfInBounds_toArray, List.set_cons_zero, List.set_cons_succ]
  refine wpAnyH_ready (rs := [7]) (by kernel_rfl) (by simp) ?_
  refine AllReadyH.cons (o := { dst := some 11, op := Op.call { callee := Callee.value (Operand.func 103), args := #[Operand.tmp 9, Operand.tmp 10], argTypes := #[97, 3] }, type := 97, pos := "file.go:86", after := #[{ on := 5, ground := Ground.data }, { on := 6, ground := Ground.data }], guard := none }) rfl (fun K hK => ?_) AllReadyH.nil
  go_simp
  refine (HF.out _).mono ?_
  rintro e w2 ⟨rfl, hb2⟩
  have D1 := Lib.hid (((Bel.refl w).drew).trans hb2)
  have S2 := HSK.out [] _ _ (Keep.of_bel hb2 []) (by simp) (by simp) (by simp) (by simp) (by simp) hHeld
  clear hb2
  dsimp only
  refine hK.out _ _ S2 (fun hHeld2 => ?_)
  clear hK K
  try simp only [Act.put, List.setIfInBounds_toArray, List.set_cons_zero, List.set_cons_succ]
  refine wpAnyH_ready (rs := [8]) (by kernel_rfl) (by simp) ?_
  refine AllReadyH.cons (o := { dst := none, op := Op.mapUpdate 90 (Operand.tmp 7) (Operand.tmp 8) (Operand.tmp 11), type := 0, pos := "file.go:86", after := #[{ on := 3, ground := Ground.data }, { on := 4, ground := Ground.data }, { on := 7, ground := Ground.data }, { on := 7, ground := Ground.chain }, { on := 0, ground := Ground.phase }, { on := 1, ground := Ground.phase }, { on := 2, ground := Ground.phase }, { on := 3, ground := Ground.phase }, { on := 4, ground := Ground.phase }, { on := 5, ground := Ground.phase }, { on := 6, ground := Ground.phase }, { on := 7, ground := Ground.phase }], guard := none }) rfl (fun K hK => ?_) AllReadyH.nil
  refine step_store (mb := mb) (s := s) (val := .agg #[.slice p m cap, .int .i64 (min y.safe m : Nat)]) rfl (.tmp 7) (.tmp 8) (.tmp 11) rfl rfl rfl rfl (HV.out.bel D1.out).own (by omega) hs ?_
  intro w3 ho hk
  refine hK.out _ _ (HSK.out [mb] _ _ hk (by simpa using N1) (by simpa using N2) (by simpa using N3) (by simpa using N4) (by simpa using N5) S2) (fun hHeld3 => ?_)
  clear hK K
  try simp only [Act.put, List.setIfInBounds_toArray, List.set_cons_zero, List.set_cons_succ]
  refine wpAnyH_done (by kernel_rfl) ?_ _
  have HO := Lib.hid ho
  have HK := Lib.hid hk
  clear ho hk hHeld hHeld2 hHeld3 S2
  go_wp2_with (fail)
  go_end0
  have hym := getF_mem HY.out
  have hnm := getF_name HY.out
  have hv := (HV.out.bel D1.out).val y hym (by simp)
  rw [HP.out] at hv
  have hval := (own_first hv m hm).keep HK.out (fun k hk1 hk2 => by
    rw [List.mem_singleton] at hk2
    subst hk2
    exact (HV.out.bel D1.out).ne_row (own_first hv m hm) hk1)
  have hput := FilesV.put (y := { y with bytes := y.bytes.take m, safe := min y.safe m }) (v' := .slice p m cap) HS.out ((HV.out.bel D1.out).weak y.name) (x := w3) (n := M.L.length + 1) (by
      have := HO.out
      rw [← hnm] at this
      exact this) HK.out hval (fun z hz hne k hk => (HV.out.apart y hym z hz (fun e => hne e.symm) k (by rw [HP.out, slice_block p n m cap]; exact hk)))
  refine ⟨rfl, _, _, (HH.out.keep (Keep.of_bel D1.out []) (by simp)).keep HK.out (by simpa using N4), hput, (Keep.of_bel D1.out _).trans HK.out (fun x hx => Or.inl hx), fun z hz k hk => Or.inl ?_⟩
  rcases mem_ins hz with rfl | hz
  · simp only [if_true] at hk
    exact ⟨y, hym, by rw [HP.out, slice_block p n m cap]; exact hk⟩
  · by_cases he : z.name = y.name
    · simp only [he, if_true] at hk
      exact ⟨y, hym, by rw [HP.out, slice_block p n m cap]; exact hk⟩
    · simp only [he, if_false] at hk
      exact ⟨z, hz, hk⟩
set_option maxHeartbeats 4000000 in
set_option maxRecDepth 20000 in
theorem dropcl_any (n₀ : Nat) (w : World) (b mb : Nat) (M : RS) (t : Int) (D : DataW Value) (V : List UInt8 → Value) (Bf Bn : Nat) (s : ByteArray) (h : Hdr w b M (.map (some mb)) t) (hV : FilesV n₀ w mb D V M.L none) (hS : Srt M.L)
    (hs : s.size ≤ maxLen) (e2 : w.cell? ⟨Bf, 0, none⟩ = some (.pointer (some ⟨b, 0, none⟩))) (e3 : w.cell? ⟨Bn, 0, none⟩ = some (.string s)) :
    Calls Tryz.prog 104 #[.pointer (some ⟨Bf, 0, none⟩), .pointer (some ⟨Bn, 0, none⟩)] w fun e w' =>
      e = .returned (.tuple #[]) ∧ Chg n₀ w w' b M mb t V M.L (outS s.data.toList M.L) [mb] := by
  have e4 : w.cell? ⟨b, 1, none⟩ = some (.map (some mb)) := by simp [World.cell?, h.1]
  have N2 := cell_ne_map hV.own e2
  have N3 := cell_ne_map hV.own e3
  have N4 := h.ne hV.own
  have HV := Lib.hid hV
  have HH := Lib.hid h
  have HS := Lib.hid hS
  clear hV h hS
  go_enter Tryz.func104, Tryz.ntmps104
  go_wp2_with (fail)
  refine wp_region_held_drew (S := fun z => (z.cell? ⟨Bf, 0, none⟩ = some (.pointer (some ⟨b, 0, none⟩)) ∧ z.cell? ⟨Bn, 0, none⟩ = some (.string s) ∧ z.cell? ⟨b, 1, none⟩ = some (.map (some mb)))) (by kernel_rfl) ⟨e2, e3, e4⟩ (fun hHeld => ?_)
  refine wpAnyH_take (i := 0) (oi := { dst := some 2, op := Op.load 48 (Operand.tmp 0), type := 48, pos := "file.go:108", after := #[], guard := none }) (v := ?_) rfl (by kernel_rfl) (by kernel_rfl) (by kernel_rfl) (fun _ _ _ h => h) (Or.inl ⟨by rfl, ?_⟩) (by assumption) ?_
  rotate_left
  · (intro w hSw; (try dsimp only at hSw); first | (go_simp; done) | (go_simp; with_reducible rfl))
  try simp only [Act.put, List.setIfInBounds_toArray, List.set_cons_zero, List.set_cons_succ]
  refine wpAnyH_take (i := 1) (oi := { dst := some 3, op := Op.nilCheck (Operand.tmp 2), type := 0, pos := "file.go:108", after := #[{ on := 0, ground := Ground.data }], guard := none }) (v := ?_) rfl (by kernel_rfl) (by kernel_rfl) (by kernel_rfl) (fun _ _ _ h => h) (Or.inl ⟨by rfl, ?_⟩) (by assumption) ?_
  rotate_left
  · (intro w hSw; (try dsimp only at hSw); first | (go_simp; done) | (go_simp; with_reducible rfl))
  try simp only [Act.put, List.setIfInBounds_toArray, List.set_cons_zero, List.set_cons_succ]
  refine wpAnyH_take (i := 2) (oi := { dst := some 4, op := Op.fieldAddr 92 (Operand.tmp 3) 1, type := 0, pos := "file.go:108", after := #[{ on := 1, ground := Ground.data }], guard := none }) (v := ?_) rfl (by kernel_rfl) (by kernel_rfl) (by kernel_rfl) (fun _ _ _ h => h) (Or.inl ⟨by rfl, ?_⟩) (by assumption) ?_
  rotate_left
  · (intro w hSw; (try dsimp only at hSw); first | (go_simp; done) | (go_simp; with_reducible rfl))
  try simp only [Act.put, List.setIfInBounds_toArray, List.set_cons_zero, List.set_cons_succ]
  refine wpAnyH_take (i := 3) (oi := { dst := some 5, op := Op.load 90 (Operand.tmp 4), type := 90, pos := "file.go:108", after := #[{ on := 2, ground := Ground.data }], guard := none }) (v := ?_) rfl (by kernel_rfl) (by kernel_rfl) (by kernel_rfl) (fun _ _ _ h => h) (Or.inl ⟨by rfl, ?_⟩) (by assumption) ?_
  rotate_left
  · (intro w hSw; (try dsimp only at hSw); first | (go_simp; done) | (go_simp; with_reducible rfl))
  try simp only [Act.put, List.setIfInBounds_toArray, List.set_cons_zero, List.set_cons_succ]
  refine wpAnyH_take (i := 4) (oi := { dst := some 6, op := Op.load 9 (Operand.tmp 1), type := 9, pos := "file.go:108", after := #[], guard := none }) (v := ?_) rfl (by kernel_rfl) (by kernel_rfl) (by kernel_rfl) (fun _ _ _ h => h) (Or.inl ⟨by rfl, ?_⟩) (by assumption) ?_
  rotate_left
  · (intro w hSw; (try dsimp only at hSw); first | (go_simp; done) | (go_simp; with_reducible rfl))
  try simp only [Act.put, List.setIfInBounds_toArray, List.set_cons_zero, List.set_cons_succ]
  refine wpAnyH_ready (rs := [5]) (by kernel_rfl) (by simp) ?_
  refine AllReadyH.cons (o := { dst := none, op := Op.call { callee := Callee.builtin Builtin.delete, args := #[Operand.tmp 5, Operand.tmp 6], argTypes := #[90, 9] }, type := 0, pos := "file.go:108", after := #[{ on := 3, ground := Ground.data }, { on := 4, ground := Ground.data }], guard := none }) rfl (fun K hK => ?_) AllReadyH.nil
  refine step_del (mb := mb) (s := s) rfl (.tmp 5) (.tmp 6) rfl rfl rfl (HV.out.bel (Bel.refl w).drew).own hs ?_
  intro w3 ho hk
  refine hK.out _ _ ⟨hk.cell hHeld.1 (by simpa using N2), hk.cell hHeld.2.1 (by simpa using N3), hk.cell hHeld.2.2 (by simpa using N4)⟩ (fun hHeld3 => ?_)
  clear hK K
  try simp only [Act.put, List.setIfInBounds_toArray, List.set_cons_zero, List.set_cons_succ]
  refine wpAnyH_done (by kernel_rfl) ?_ _
  have HO := Lib.hid ho
  have HK := Lib.hid hk
  clear ho hk hHeld hHeld3
  go_wp2_with (fail)
  go_end0
  have hdel := FilesV.del HS.out (HV.out.bel (Bel.refl w).drew) HO.out HK.out
  exact ⟨rfl, _, _, (HH.out.keep (Keep.of_bel (Bel.refl w).drew []) (by simp)).keep HK.out (by simpa using N4), hdel, (Keep.of_bel (Bel.refl w).drew _).trans HK.out (fun x hx => Or.inl hx), fun z hz k hk => Or.inl ⟨z, mem_out hz, hk⟩⟩

end Go.Proofs.YtedopiojidaeiaaGreatDoor
