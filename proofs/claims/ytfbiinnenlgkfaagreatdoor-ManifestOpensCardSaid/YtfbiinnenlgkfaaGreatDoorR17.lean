/- FCl3, FOps, FOps2, FOps3, FCrsh, laid together. -/
import Derived.Test.YtfbiinnenlgkfaaGreatDoorR16
import Derived.Test.YtfbiinnenlgkfaaGreatDoorR2
import Derived.Laws.BitsAllLaws
set_option linter.unusedSimpArgs false
set_option linter.unusedVariables false
namespace Go.Proofs.YtfbiinnenlgkfaaGreatDoor
open Go.RowKit Go.Deep Go.Maps

theorem step_look {ops : Array Oper} {o : Oper} {a : Act} {K : Act → World → Prop} {Q : Exit → Act → World → Prop} {E : Prop} {x : World} {c : Bool} (hgd : o.guard = none) (m y : Operand)
  (ho : o.op = Op.lookup 111 m y c) {mv kv r : Value} (hm : a.eval m = mv) (hy : a.eval y = kv) (hrun : (Instr.lookup 111 mv kv c).run Tryz.prog x = .ok r x)
  (h : K (a.put o.dst r) x) : if Region.wanted o (yielded ops a.tmps) = true then o.wp Tryz.prog a x K Q else E := by
 rw [if_pos (by simp [Region.wanted, hgd])]
 unfold Oper.wp
 simp [execOp, ho, hm, hy, hrun, Result.andThen]
 exact h
theorem Hdr.ne_row {w : World} {b : Nat} {M : RS} {mv : Value} {t : Int} (h : Hdr w b M mv t) {n₀ : Nat} {v : Value} {l : List UInt8} (ho : Own n₀ w v l) : b ∉ v.ownBlock.toList := by
 intro hk
 rw [Option.mem_toList] at hk
 rcases ho.2 with ⟨rfl, _⟩ | ⟨g, cap, cur, rfl, _, hgb, _⟩
 ·simp [Value.ownBlock] at hk
 ·obtain rfl : g = b := by simpa [Value.ownBlock] using hk
  rw [h.1] at hgb
  simp at hgb
def addF (nm s : List UInt8) (L : List FI) : FI := match getF nm L with
 | some y => { y with bytes := y.bytes ++ s }
 | none => ⟨nm, s, 0⟩
theorem addF_name (nm s : List UInt8) (L : List FI) : (addF nm s L).name = nm := by
 unfold addF
 cases hy : getF nm L with
 | none => rfl
 | some y => exact getF_name (x := y) hy
theorem map_eq_nil (mb : Nat) (w : World) : (binOp .eql 111 (.map (some mb)) (.map none)).run Tryz.prog w = .ok (.bool false) w := by kernel_rfl
theorem nil_eq_nil (w : World) : (binOp .eql 111 (.map none) (.map none)).run Tryz.prog w = .ok (.bool true) w := by kernel_rfl
theorem extended_nil (B : Nat) (w : World) (u : ByteArray) (hu : u.size ≤ 1000000) (hB : B ≤ w.heap.size) :
  Calls Tryz.prog 63 #[.agg #[.slice none 0 0, .int .i64 0], .string u] w fun e w' => ∃ v', e = .returned (.agg #[v', .int .i64 0]) ∧ Own B w' v' u.data.toList ∧ Keep [] w w' ∧ (∀ k, v'.ownBlock = some k → w.heap.size ≤ k) := by
 refine (extended_any B w (.slice none 0 0) [] 0 u (Own.nil _ _) (by simp; omega) hB).mono ?_
 rintro e w' ⟨v', rfl, h1, h2, h3⟩
 exact ⟨v', rfl, by simpa using h1, h2, fun k hk => (h3 k hk).resolve_left (by simp [Value.ownBlock])⟩
def Added (n₀ : Nat) (w x : World) (b : Nat) (M : RS) (t : Int) (L' : List FI) (F : List Nat) : Prop :=
 ∃ mb D' V', Hdr x b M (.map (some mb)) t ∧ FilesV n₀ x mb D' V' L' none ∧ Keep F w x ∧ (mb ∈ F ∨ w.heap.size ≤ mb) ∧ ∀ z ∈ L', ∀ k, (V' z.name).ownBlock = some k → k ∈ F ∨ w.heap.size ≤ k

set_option maxHeartbeats 4000000 in
set_option maxRecDepth 20000 in
theorem addcl_some (n₀ : Nat) (w : World) (b : Nat) (M : RS) (t : Int) (F : List Nat) (mb : Nat) (D : DataW Value) (V : List UInt8 → Value) (Bf Bn Bs : Nat) (s u : ByteArray) (h : Hdr w b M (.map (some mb)) t) (hV : FilesV n₀ w mb D V M.L none) (hmF : mb ∈ F) (hvF : ∀ z ∈ M.L, ∀ k, (V z.name).ownBlock = some k → k ∈ F) (hS : Srt M.L) (hL : M.L.length ≤ 1000) (hbF : b ∈ F) (hn0 : n₀ ≤ w.heap.size)
  (hs : s.size ≤ maxLen) (hu : u.size ≤ 1000000) (y : FI) (hy : getF s.data.toList M.L = some y) (hB : y.bytes.length ≤ 1000000000)
  (e2 : w.cell? ⟨Bf, 0, none⟩ = some (.pointer (some ⟨b, 0, none⟩))) (e3 : w.cell? ⟨Bn, 0, none⟩ = some (.string s)) (e5 : w.cell? ⟨Bs, 0, none⟩ = some (.string u)) (nf : Bf ∉ F ∧ Bn ∉ F ∧ Bs ∉ F) :
  Calls Tryz.prog 62 #[.pointer (some ⟨Bf, 0, none⟩), .pointer (some ⟨Bn, 0, none⟩), .pointer (some ⟨Bs, 0, none⟩)] w fun e w' =>
   e = .returned (.tuple #[]) ∧ Added n₀ w w' b M t (insS (addF s.data.toList u.data.toList M.L) M.L) F := by
 have hv0 := hV.val y (getF_mem hy) (by simp)
 obtain ⟨p, cap, hp, -⟩ := own_len hv0
 have hrow := h.ne_row hv0
 have hrF : ∀ k ∈ (V y.name).ownBlock.toList, k ∈ F := fun k hk => hvF y (getF_mem hy) k (by rwa [Option.mem_toList] at hk)
 rw [hp] at hv0 hrow hrF
 have e4 : w.cell? ⟨b, 1, none⟩ = some (.map (some mb)) := by simp [World.cell?, h.1]
 have hSK : ∀ G x z, Keep G x z → Bf ∉ G → Bn ∉ G → Bs ∉ G → b ∉ G → (x.cell? ⟨Bf, 0, none⟩ = some (.pointer (some ⟨b, 0, none⟩)) ∧ x.cell? ⟨Bn, 0, none⟩ = some (.string s) ∧ x.cell? ⟨Bs, 0, none⟩ = some (.string u) ∧ x.cell? ⟨b, 1, none⟩ = some (.map (some mb))) → (z.cell? ⟨Bf, 0, none⟩ = some (.pointer (some ⟨b, 0, none⟩)) ∧ z.cell? ⟨Bn, 0, none⟩ = some (.string s) ∧ z.cell? ⟨Bs, 0, none⟩ = some (.string u) ∧ z.cell? ⟨b, 1, none⟩ = some (.map (some mb))) :=
  fun G x z hk h1 h2 h3 h4 hc => ⟨hk.cell hc.1 h1, hk.cell hc.2.1 h2, hk.cell hc.2.2.1 h3, hk.cell hc.2.2.2 h4⟩
 have HSK := Lib.hid hSK
 have N4 := h.ne hV.own
 have HV := Lib.hid hV
 have HH := Lib.hid h
 have HS := Lib.hid hS
 have HY := Lib.hid hy
 have HP := Lib.hid hp
 have HV0 := Lib.hid hv0
 have HRF := Lib.hid hrF
 have HMF := Lib.hid hmF
 have HVF := Lib.hid hvF
 have HRW := Lib.hid hrow
 have HLK := Lib.hid (fun x (hb : Bel w x) => run_look_some (hV.bel hb) s hs hy false)
 have hsn : s.data.toList = y.name := (getF_name hy).symm
 rw [hsn, hp] at HLK
 obtain ⟨nf1, nf2, nf3⟩ := nf
 have Q1 := Lib.hid (fun hm => nf1 (hrF Bf hm))
 have Q2 := Lib.hid (fun hm => nf2 (hrF Bn hm))
 have Q3 := Lib.hid (fun hm => nf3 (hrF Bs hm))
 have P1 : Bf ≠ mb := fun e => nf1 (e ▸ hmF)
 have P2 : Bn ≠ mb := fun e => nf2 (e ▸ hmF)
 have P3 : Bs ≠ mb := fun e => nf3 (e ▸ hmF)
 have HSN := Lib.hid hsn
 clear hSK hV h hS hy hp hv0 hrF hmF hvF hrow hsn nf1 nf2 nf3
 have hqn := map_eq_nil mb
 go_enter Tryz.func62, Tryz.ntmps62
 go_wp2_with (fail)
 refine wp_region_held_drew (S := fun z => (z.cell? ⟨Bf, 0, none⟩ = some (.pointer (some ⟨b, 0, none⟩)) ∧ z.cell? ⟨Bn, 0, none⟩ = some (.string s) ∧ z.cell? ⟨Bs, 0, none⟩ = some (.string u) ∧ z.cell? ⟨b, 1, none⟩ = some (.map (some mb)))) (by kernel_rfl) ⟨e2, e3, e5, e4⟩ (fun hHeld => ?_)
 refine tq ⟨some 12, .load 55 (.tmp 0), 55, "file.go:38", #[], none⟩ ?_ 0 rfl ?_ ?_;rotate_left;·(intros;go_simp<;>with_reducible rfl)
 try simp only[Act.put,sqA,sqB,sqC]
 refine tq ⟨some 13, .nilCheck (.tmp 12), 0, "file.go:38", #[⟨0, .data⟩], none⟩ ?_ 1 rfl ?_ ?_;rotate_left;·(intros;go_simp<;>with_reducible rfl)
 try simp only[Act.put,sqA,sqB,sqC]
 refine tq ⟨some 14, .fieldAddr 113 (.tmp 13) 1, 0, "file.go:38", #[⟨1, .data⟩], none⟩ ?_ 2 rfl ?_ ?_;rotate_left;·(intros;go_simp<;>with_reducible rfl)
 try simp only[Act.put,sqA,sqB,sqC]
 refine tq ⟨some 15, .load 111 (.tmp 14), 111, "file.go:38", #[⟨2, .data⟩], none⟩ ?_ 3 rfl ?_ ?_;rotate_left;·(intros;go_simp<;>with_reducible rfl)
 try simp only[Act.put,sqA,sqB,sqC]
 refine tq ⟨some 16, .load 9 (.tmp 1), 9, "file.go:38", #[], none⟩ ?_ 4 rfl ?_ ?_;rotate_left;·(intros;go_simp<;>with_reducible rfl)
 try simp only[Act.put,sqA,sqB,sqC]
 refine tq ⟨some 17, .load 55 (.tmp 0), 55, "file.go:38", #[], none⟩ ?_ 5 rfl ?_ ?_;rotate_left;·(intros;go_simp<;>with_reducible rfl)
 try simp only[Act.put,sqA,sqB,sqC]
 refine tq ⟨some 18, .nilCheck (.tmp 17), 0, "file.go:38", #[⟨5, .data⟩], none⟩ ?_ 6 rfl ?_ ?_;rotate_left;·(intros;go_simp<;>with_reducible rfl)
 try simp only[Act.put,sqA,sqB,sqC]
 refine tq ⟨some 19, .fieldAddr 113 (.tmp 18) 1, 0, "file.go:38", #[⟨6, .data⟩], none⟩ ?_ 7 rfl ?_ ?_;rotate_left;·(intros;go_simp<;>with_reducible rfl)
 try simp only[Act.put,sqA,sqB,sqC]
 refine tq ⟨some 20, .load 111 (.tmp 19), 111, "file.go:38", #[⟨7, .data⟩], none⟩ ?_ 8 rfl ?_ ?_;rotate_left;·(intros;go_simp<;>with_reducible rfl)
 try simp only[Act.put,sqA,sqB,sqC]
 refine tq ⟨some 21, .load 9 (.tmp 1), 9, "file.go:38", #[], none⟩ ?_ 9 rfl ?_ ?_;rotate_left;·(intros;go_simp<;>with_reducible rfl)
 try simp only[Act.put,sqA,sqB,sqC]
 refine tq ⟨some 23, .load 9 (.tmp 2), 9, "file.go:38", #[], none⟩ ?_ 11 rfl ?_ ?_;rotate_left;·(intros;go_simp<;>with_reducible rfl)
 try simp only[Act.put,sqA,sqB,sqC]
 refine wpAnyH_ready (rs := [10]) (by kernel_rfl) (by simp) ?_
 refine ar1 ⟨some 22, .lookup 111 (.tmp 20) (.tmp 21) false, 116, "file.go:38", #[⟨8, .data⟩, ⟨9, .data⟩], none⟩ rfl (fun K hK => ?_)
 refine step_look (mv := .map (some mb)) (kv := .string s) (r := .agg #[.slice p y.bytes.length cap, .int .i64 y.safe]) rfl (.tmp 20) (.tmp 21) rfl rfl rfl (HLK.out _ (Bel.refl w).drew) ?_
 refine hK.out _ _ hHeld (fun hHeld1 => ?_)
 clear hK K
 try simp only[Act.put,sqA,sqB,sqC]
 refine wpAnyH_ready (rs := [12]) (by kernel_rfl) (by simp) ?_
 refine ar1 ⟨some 24, .call ⟨.value (.func 63), #[.tmp 22, .tmp 23], #[116, 9]⟩, 116, "file.go:38", #[⟨10, .data⟩, ⟨11, .data⟩], none⟩ rfl (fun K hK => ?_)
 go_simp
 refine (extended_any n₀ _ _ _ y.safe u (HV0.out.bel (Bel.refl w).drew) (by omega) hn0).mono ?_
 rintro e w2 ⟨v', rfl, hv1, hk1, hl1⟩
 have D1 := Lib.hid ((Keep.of_bel (Bel.refl w).drew _).trans hk1 (fun x hx => Or.inl hx))
 have S2 := HSK.out _ _ _ hk1 Q1.out Q2.out Q3.out HRW.out hHeld
 have HV1 := Lib.hid hv1
 have HL1 := Lib.hid hl1
 have HV2 := Lib.hid (show FilesV n₀ w2 mb D V M.L (some y.name) from HV.out.but (getF_mem HY.out) (by rw [HP.out]; exact D1.out))
 clear hk1 hv1 hl1
 dsimp only
 refine hK.out _ _ S2 (fun hHeld2 => ?_)
 clear hK K
 try simp only[Act.put,sqA,sqB,sqC]
 refine wpAnyH_ready (rs := [13]) (by kernel_rfl) (by simp) ?_
 refine ar1 ⟨none, .mapUpdate 111 (.tmp 15) (.tmp 16) (.tmp 24), 0, "file.go:38", #[⟨3, .data⟩, ⟨4, .data⟩, ⟨12, .data⟩, ⟨12, .chain⟩, ⟨0, .phase⟩, ⟨1, .phase⟩, ⟨2, .phase⟩, ⟨3, .phase⟩, ⟨4, .phase⟩, ⟨5, .phase⟩, ⟨6, .phase⟩, ⟨7, .phase⟩, ⟨8, .phase⟩, ⟨9, .phase⟩, ⟨10, .phase⟩, ⟨11, .phase⟩, ⟨12, .phase⟩], none⟩ rfl (fun K hK => ?_)
 refine step_store (mb := mb) (s := s) (val := .agg #[v', .int .i64 y.safe]) rfl (.tmp 15) (.tmp 16) (.tmp 24) rfl rfl rfl rfl HV2.out.own (by omega) hs ?_
 intro w3 ho hk
 refine hK.out _ _ (HSK.out [mb] _ _ hk (by simpa using P1) (by simpa using P2) (by simpa using P3) (by simpa using N4) S2) (fun hHeld3 => ?_)
 clear hK K
 try simp only[Act.put,sqA,sqB,sqC]
 refine wpAnyH_done (by kernel_rfl) ?_ _
 have HO := Lib.hid ho
 have HK := Lib.hid hk
 clear ho hk hHeld hHeld1 hHeld2 hHeld3 S2
 go_wp2_with (fail)
 go_end0
 have hym := getF_mem HY.out
 have hval := HV1.out.keep HK.out (fun k hk1 hk2 => by
  rw [List.mem_singleton] at hk2
  subst hk2
  exact HV2.out.ne_row HV1.out hk1)
 have hadd : addF s.data.toList u.data.toList M.L = { y with bytes := y.bytes ++ u.data.toList } := by unfold addF; rw [HY.out]
 have hput := FilesV.put (y := { y with bytes := y.bytes ++ u.data.toList }) (v' := v') HS.out HV2.out (x := w3) (n := M.L.length + 1) (by
   have := HO.out
   rw [HSN.out] at this
   exact this) HK.out hval (fun z hz hne k hk => by
   rcases HL1.out k hk with h1 | h1
   ·exact HV.out.apart y hym z hz (fun e => hne e.symm) k (by rw [HP.out]; exact h1)
   ·intro h2
    have := ((HV.out.val z hz (by simp)).lt k h2).2
    simp at h1
    omega)
 rw [hadd]
 have KK := (D1.out.mono HRF.out).trans (HK.out.mono (G := F) (fun x hx => by rw [List.mem_singleton] at hx; rw [hx]; exact HMF.out)) (fun x hx => Or.inl hx)
 refine ⟨rfl, mb, _, _, (HH.out.keep D1.out HRW.out).keep HK.out (by simpa using N4), hput, KK, Or.inl HMF.out, fun z hz k hk => ?_⟩
 by_cases he : z.name = y.name
 ·simp only [he, if_true] at hk
  rcases HL1.out k hk with h1 | h1
  ·exact Or.inl (HRF.out k (by rw [Option.mem_toList]; exact h1))
  ·exact Or.inr (by simpa using h1)
 ·simp only [he, if_false] at hk
  rcases mem_ins hz with rfl | hz
  ·exact absurd rfl he
  ·exact Or.inl (HVF.out z hz k hk)

set_option maxHeartbeats 4000000 in
set_option maxRecDepth 20000 in
theorem addcl_none (n₀ : Nat) (w : World) (b : Nat) (M : RS) (t : Int) (F : List Nat) (mb : Nat) (D : DataW Value) (V : List UInt8 → Value) (Bf Bn Bs : Nat) (s u : ByteArray) (h : Hdr w b M (.map (some mb)) t) (hV : FilesV n₀ w mb D V M.L none) (hmF : mb ∈ F) (hvF : ∀ z ∈ M.L, ∀ k, (V z.name).ownBlock = some k → k ∈ F) (hS : Srt M.L) (hL : M.L.length ≤ 1000) (hbF : b ∈ F) (hn0 : n₀ ≤ w.heap.size)
  (hs : s.size ≤ maxLen) (hu : u.size ≤ 1000000) (hy : getF s.data.toList M.L = none)
  (e2 : w.cell? ⟨Bf, 0, none⟩ = some (.pointer (some ⟨b, 0, none⟩))) (e3 : w.cell? ⟨Bn, 0, none⟩ = some (.string s)) (e5 : w.cell? ⟨Bs, 0, none⟩ = some (.string u)) (nf : Bf ∉ F ∧ Bn ∉ F ∧ Bs ∉ F) :
  Calls Tryz.prog 62 #[.pointer (some ⟨Bf, 0, none⟩), .pointer (some ⟨Bn, 0, none⟩), .pointer (some ⟨Bs, 0, none⟩)] w fun e w' =>
   e = .returned (.tuple #[]) ∧ Added n₀ w w' b M t (insS (addF s.data.toList u.data.toList M.L) M.L) F := by
 obtain ⟨X0, hX0⟩ : ∃ X0, X0 = w := ⟨_, rfl⟩
 have e4 : w.cell? ⟨b, 1, none⟩ = some (.map (some mb)) := by simp [World.cell?, h.1]
 have hSK : ∀ G x z, Keep G x z → Bf ∉ G → Bn ∉ G → Bs ∉ G → b ∉ G → (x.cell? ⟨Bf, 0, none⟩ = some (.pointer (some ⟨b, 0, none⟩)) ∧ x.cell? ⟨Bn, 0, none⟩ = some (.string s) ∧ x.cell? ⟨Bs, 0, none⟩ = some (.string u) ∧ x.cell? ⟨b, 1, none⟩ = some (.map (some mb))) → (z.cell? ⟨Bf, 0, none⟩ = some (.pointer (some ⟨b, 0, none⟩)) ∧ z.cell? ⟨Bn, 0, none⟩ = some (.string s) ∧ z.cell? ⟨Bs, 0, none⟩ = some (.string u) ∧ z.cell? ⟨b, 1, none⟩ = some (.map (some mb))) :=
  fun G x z hk h1 h2 h3 h4 hc => ⟨hk.cell hc.1 h1, hk.cell hc.2.1 h2, hk.cell hc.2.2.1 h3, hk.cell hc.2.2.2 h4⟩
 have HSK := Lib.hid hSK
 have N4 := h.ne hV.own
 have HV := Lib.hid hV
 have HH := Lib.hid h
 have HS := Lib.hid hS
 have HY := Lib.hid hy
 have HMB := Lib.hid (show mb ∈ F ∨ w.heap.size ≤ mb from Or.inl hmF)
 have HVF := Lib.hid (show ∀ z ∈ M.L, ∀ k, (V z.name).ownBlock = some k → k ∈ F ∨ w.heap.size ≤ k from fun z hz k hk => Or.inl (hvF z hz k hk))
 have HLK := Lib.hid (fun x (hb : Bel w x) => run_look_none (F := F) (Or.inr ⟨mb, D, V, rfl, hV.bel hb, hmF, hvF⟩) s hs hy false)
 have HKW := Lib.hid (Keep.refl F w)
 have HN0 := Lib.hid hn0
 obtain ⟨nf1, nf2, nf3⟩ := nf
 have P1 : Bf ≠ mb := fun e => nf1 (e ▸ hmF)
 have P2 : Bn ≠ mb := fun e => nf2 (e ▸ hmF)
 have P3 : Bs ≠ mb := fun e => nf3 (e ▸ hmF)
 have q2 := e2
 have q3 := e3
 have q5 := e5
 have q4 := e4
 unfold conZ at HLK
 subst X0
 clear hSK hV h hS hy hmF hvF nf1 nf2 nf3 e2 e3 e5 e4 hn0
 have hqn := map_eq_nil mb
 go_enter Tryz.func62, Tryz.ntmps62
 go_wp2_with (fail)
 refine wp_region_held_drew (S := fun z => (z.cell? ⟨Bf, 0, none⟩ = some (.pointer (some ⟨b, 0, none⟩)) ∧ z.cell? ⟨Bn, 0, none⟩ = some (.string s) ∧ z.cell? ⟨Bs, 0, none⟩ = some (.string u) ∧ z.cell? ⟨b, 1, none⟩ = some (.map (some mb)))) (by kernel_rfl) ⟨q2, q3, q5, q4⟩ (fun hHeld => ?_)
 refine tq ⟨some 12, .load 55 (.tmp 0), 55, "file.go:38", #[], none⟩ ?_ 0 rfl ?_ ?_;rotate_left;·(intros;go_simp<;>with_reducible rfl)
 try simp only[Act.put,sqA,sqB,sqC]
 refine tq ⟨some 13, .nilCheck (.tmp 12), 0, "file.go:38", #[⟨0, .data⟩], none⟩ ?_ 1 rfl ?_ ?_;rotate_left;·(intros;go_simp<;>with_reducible rfl)
 try simp only[Act.put,sqA,sqB,sqC]
 refine tq ⟨some 14, .fieldAddr 113 (.tmp 13) 1, 0, "file.go:38", #[⟨1, .data⟩], none⟩ ?_ 2 rfl ?_ ?_;rotate_left;·(intros;go_simp<;>with_reducible rfl)
 try simp only[Act.put,sqA,sqB,sqC]
 refine tq ⟨some 15, .load 111 (.tmp 14), 111, "file.go:38", #[⟨2, .data⟩], none⟩ ?_ 3 rfl ?_ ?_;rotate_left;·(intros;go_simp<;>with_reducible rfl)
 try simp only[Act.put,sqA,sqB,sqC]
 refine tq ⟨some 16, .load 9 (.tmp 1), 9, "file.go:38", #[], none⟩ ?_ 4 rfl ?_ ?_;rotate_left;·(intros;go_simp<;>with_reducible rfl)
 try simp only[Act.put,sqA,sqB,sqC]
 refine tq ⟨some 17, .load 55 (.tmp 0), 55, "file.go:38", #[], none⟩ ?_ 5 rfl ?_ ?_;rotate_left;·(intros;go_simp<;>with_reducible rfl)
 try simp only[Act.put,sqA,sqB,sqC]
 refine tq ⟨some 18, .nilCheck (.tmp 17), 0, "file.go:38", #[⟨5, .data⟩], none⟩ ?_ 6 rfl ?_ ?_;rotate_left;·(intros;go_simp<;>with_reducible rfl)
 try simp only[Act.put,sqA,sqB,sqC]
 refine tq ⟨some 19, .fieldAddr 113 (.tmp 18) 1, 0, "file.go:38", #[⟨6, .data⟩], none⟩ ?_ 7 rfl ?_ ?_;rotate_left;·(intros;go_simp<;>with_reducible rfl)
 try simp only[Act.put,sqA,sqB,sqC]
 refine tq ⟨some 20, .load 111 (.tmp 19), 111, "file.go:38", #[⟨7, .data⟩], none⟩ ?_ 8 rfl ?_ ?_;rotate_left;·(intros;go_simp<;>with_reducible rfl)
 try simp only[Act.put,sqA,sqB,sqC]
 refine tq ⟨some 21, .load 9 (.tmp 1), 9, "file.go:38", #[], none⟩ ?_ 9 rfl ?_ ?_;rotate_left;·(intros;go_simp<;>with_reducible rfl)
 try simp only[Act.put,sqA,sqB,sqC]
 refine tq ⟨some 23, .load 9 (.tmp 2), 9, "file.go:38", #[], none⟩ ?_ 11 rfl ?_ ?_;rotate_left;·(intros;go_simp<;>with_reducible rfl)
 try simp only[Act.put,sqA,sqB,sqC]
 refine wpAnyH_ready (rs := [10]) (by kernel_rfl) (by simp) ?_
 refine ar1 ⟨some 22, .lookup 111 (.tmp 20) (.tmp 21) false, 116, "file.go:38", #[⟨8, .data⟩, ⟨9, .data⟩], none⟩ rfl (fun K hK => ?_)
 refine step_look (mv := .map (some mb)) (kv := .string s) (r := .agg #[.slice none 0 0, .int .i64 0]) rfl (.tmp 20) (.tmp 21) rfl rfl rfl (HLK.out _ (Bel.refl _).drew) ?_
 refine hK.out _ _ hHeld (fun hHeld1 => ?_)
 clear hK K
 try simp only[Act.put,sqA,sqB,sqC]
 refine wpAnyH_ready (rs := [12]) (by kernel_rfl) (by simp) ?_
 refine ar1 ⟨some 24, .call ⟨.value (.func 63), #[.tmp 22, .tmp 23], #[116, 9]⟩, 116, "file.go:38", #[⟨10, .data⟩, ⟨11, .data⟩], none⟩ rfl (fun K hK => ?_)
 go_simp
 refine (extended_nil n₀ w.drew u hu HN0.out).mono ?_
 rintro e w2 ⟨v', rfl, hv1, hk1, hl1⟩
 have D1 := Lib.hid ((Keep.of_bel (Bel.refl w).drew []).trans hk1 (fun x hx => Or.inl hx))
 have S2 := HSK.out [] _ _ hk1 (by simp) (by simp) (by simp) (by simp) hHeld
 have HV1 := Lib.hid hv1
 have HL1 := Lib.hid hl1
 have HV2 := Lib.hid (show FilesV n₀ w2 mb D V M.L none from HV.out.keep D1.out (by simp) (fun _ _ _ _ _ => by simp))
 clear hk1 hv1 hl1
 dsimp only
 refine hK.out _ _ S2 (fun hHeld2 => ?_)
 clear hK K
 try simp only[Act.put,sqA,sqB,sqC]
 refine wpAnyH_ready (rs := [13]) (by kernel_rfl) (by simp) ?_
 refine ar1 ⟨none, .mapUpdate 111 (.tmp 15) (.tmp 16) (.tmp 24), 0, "file.go:38", #[⟨3, .data⟩, ⟨4, .data⟩, ⟨12, .data⟩, ⟨12, .chain⟩, ⟨0, .phase⟩, ⟨1, .phase⟩, ⟨2, .phase⟩, ⟨3, .phase⟩, ⟨4, .phase⟩, ⟨5, .phase⟩, ⟨6, .phase⟩, ⟨7, .phase⟩, ⟨8, .phase⟩, ⟨9, .phase⟩, ⟨10, .phase⟩, ⟨11, .phase⟩, ⟨12, .phase⟩], none⟩ rfl (fun K hK => ?_)
 refine step_store (mb := mb) (s := s) (val := .agg #[v', .int .i64 0]) rfl (.tmp 15) (.tmp 16) (.tmp 24) rfl rfl rfl rfl HV2.out.own (by omega) hs ?_
 intro w3 ho hk
 refine hK.out _ _ (HSK.out [mb] _ _ hk (by simpa using P1) (by simpa using P2) (by simpa using P3) (by simpa using N4) S2) (fun hHeld3 => ?_)
 clear hK K
 try simp only[Act.put,sqA,sqB,sqC]
 refine wpAnyH_done (by kernel_rfl) ?_ _
 have HO := Lib.hid ho
 have HK := Lib.hid hk
 clear ho hk hHeld hHeld1 hHeld2 hHeld3 S2
 go_wp2_with (fail)
 go_end0
 have hval := HV1.out.keep HK.out (fun k hk1 hk2 => by
  rw [List.mem_singleton] at hk2
  subst hk2
  exact HV2.out.ne_row HV1.out hk1)
 have hadd : addF s.data.toList u.data.toList M.L = ⟨s.data.toList, u.data.toList, 0⟩ := by unfold addF; rw [HY.out]
 have hput := FilesV.put (y := ⟨s.data.toList, u.data.toList, 0⟩) (v' := v') HS.out (HV2.out.weak s.data.toList) (x := w3) (n := M.L.length + 1) (by
   have := HO.out
   exact this) HK.out hval (fun z hz hne k hk => by
   have h1 := HL1.out k hk
   intro h2
   have := ((HV.out.val z hz (by simp)).lt k h2).2
   simp at h1
   omega)
 rw [hadd]
 have KK := ((HKW.out.trans (D1.out.mono (G := F) (fun x hx => by cases hx)) (fun x hx => Or.inl hx))).trans (HK.out.mono (G := mb :: F) (fun x hx => by rw [List.mem_singleton] at hx; rw [hx]; simp)) (fun x hx => by
  rcases List.mem_cons.1 hx with rfl | hx
  ·exact HMB.out
  ·exact Or.inl hx)
 refine ⟨rfl, mb, _, _, (HH.out.keep D1.out (by simp)).keep HK.out (by simpa using N4), hput, KK, HMB.out, fun z hz k hk => ?_⟩
 by_cases he : z.name = s.data.toList
 ·simp only [he, if_true] at hk
  exact Or.inr (Nat.le_trans HKW.out.size (by simpa using HL1.out k hk))
 ·simp only [he, if_false] at hk
  rcases mem_ins hz with rfl | hz
  ·exact absurd rfl he
  ·exact HVF.out z hz k hk

set_option maxHeartbeats 4000000 in
set_option maxRecDepth 20000 in
theorem addcl_nil (n₀ : Nat) (w : World) (b : Nat) (M : RS) (t : Int) (F : List Nat)  (Bf Bn Bs : Nat) (s u : ByteArray) (h : Hdr w b M (.map none) t) (hL0 : M.L = []) (hS : Srt M.L) (hL : M.L.length ≤ 1000) (hbF : b ∈ F) (hn0 : n₀ ≤ w.heap.size)
  (hs : s.size ≤ maxLen) (hu : u.size ≤ 1000000)
  (e2 : w.cell? ⟨Bf, 0, none⟩ = some (.pointer (some ⟨b, 0, none⟩))) (e3 : w.cell? ⟨Bn, 0, none⟩ = some (.string s)) (e5 : w.cell? ⟨Bs, 0, none⟩ = some (.string u)) (nf : Bf ∉ F ∧ Bn ∉ F ∧ Bs ∉ F) :
  Calls Tryz.prog 62 #[.pointer (some ⟨Bf, 0, none⟩), .pointer (some ⟨Bn, 0, none⟩), .pointer (some ⟨Bs, 0, none⟩)] w fun e w' =>
   e = .returned (.tuple #[]) ∧ Added n₀ w w' b M t (insS (addF s.data.toList u.data.toList M.L) M.L) F := by
 have e4 : w.cell? ⟨b, 1, none⟩ = some (.map none) := by simp [World.cell?, h.1]
 have f4 : w.frozen? ⟨b, 1, none⟩ = false := by simp [World.frozen?, h.1]
 obtain ⟨mb, hmb⟩ : ∃ mb, mb = w.heap.size := ⟨_, rfl⟩
 have hSK : ∀ G x z, Keep G x z → Bf ∉ G → Bn ∉ G → Bs ∉ G → b ∉ G → (x.cell? ⟨Bf, 0, none⟩ = some (.pointer (some ⟨b, 0, none⟩)) ∧ x.cell? ⟨Bn, 0, none⟩ = some (.string s) ∧ x.cell? ⟨Bs, 0, none⟩ = some (.string u) ∧ x.cell? ⟨b, 1, none⟩ = some (.map (some mb))) → (z.cell? ⟨Bf, 0, none⟩ = some (.pointer (some ⟨b, 0, none⟩)) ∧ z.cell? ⟨Bn, 0, none⟩ = some (.string s) ∧ z.cell? ⟨Bs, 0, none⟩ = some (.string u) ∧ z.cell? ⟨b, 1, none⟩ = some (.map (some mb))) :=
  fun G x z hk h1 h2 h3 h4 hc => ⟨hk.cell hc.1 h1, hk.cell hc.2.1 h2, hk.cell hc.2.2.1 h3, hk.cell hc.2.2.2 h4⟩
 have HSK := Lib.hid hSK
 obtain ⟨X0, hX0⟩ : ∃ X0, X0 = (w.setCell ⟨b, 1, none⟩ (.map (some w.heap.size))).alloc (.map #[] 0) := ⟨_, rfl⟩
 have hbl := block_lt_of_cell e4
 have P1 : Bf ≠ mb := by have := block_lt_of_cell e2; simp at this; omega
 have P2 : Bn ≠ mb := by have := block_lt_of_cell e3; simp at this; omega
 have P3 : Bs ≠ mb := by have := block_lt_of_cell e5; simp at this; omega
 have N4 : b ≠ mb := by simp at hbl; omega
 have HKW := Lib.hid (show Keep F w X0 by rw [hX0]; exact ((Keep.refl F w).setCell (p := ⟨b, 1, none⟩) (Or.inl hbF) _).alloc _)
 have HV := Lib.hid (show FilesV n₀ X0 mb (.map []) (fun _ => .slice none 0 0) M.L none by
  rw [hX0, hL0, hmb]
  have hz : (w.setCell ⟨b, 1, none⟩ (.map (some w.heap.size))).heap.size = w.heap.size := by simp [World.setCell]
  have := FilesV.nil (n₀ := n₀) (w.setCell ⟨b, 1, none⟩ (.map (some w.heap.size))) (fun _ => .slice none 0 0) (by rw [hz]; exact hn0)
  rwa [hz] at this)
 have HH := Lib.hid (show Hdr X0 b M (.map (some mb)) t by
  rw [hX0, hmb]
  exact ⟨by rw [Below.heap_alloc _ _ b (by simpa [World.setCell] using hbl), blk_set h.1 1 _]; rfl, h.2⟩)
 have HS := Lib.hid hS
 have HY := Lib.hid (show getF s.data.toList M.L = none by rw [hL0]; rfl)
 have HMB := Lib.hid (show mb ∈ F ∨ w.heap.size ≤ mb from Or.inr (by omega))
 have HVF := Lib.hid (show ∀ z ∈ M.L, ∀ k, ((fun _ => .slice none 0 0 : List UInt8 → Value) z.name).ownBlock = some k → k ∈ F ∨ w.heap.size ≤ k from fun z hz k hk => by rw [hL0] at hz; cases hz)
 have HLK := Lib.hid (fun x (hb : Bel X0 x) => run_look_none (F := mb :: F) (Or.inr ⟨mb, _, _, rfl, HV.out.bel hb, by simp, fun y hy => by rw [hL0] at hy; cases hy⟩) s hs HY.out false)
 have HN0 := Lib.hid (show n₀ ≤ X0.heap.size from Nat.le_trans hn0 HKW.out.size)
 obtain ⟨nf1, nf2, nf3⟩ := nf
 have q2 := HKW.out.cell e2 nf1
 have q3 := HKW.out.cell e3 nf2
 have q5 := HKW.out.cell e5 nf3
 have q4 : X0.cell? ⟨b, 1, none⟩ = some (.map (some mb)) := by simp [World.cell?, HH.out.1]
 unfold conZ at HLK
 have hHX := Lib.hid hX0
 have hMB := Lib.hid hmb
 clear hSK h hS hX0 hmb hL0 nf1 nf2 nf3 hn0
 have hqn := nil_eq_nil
 have hmm := @run_makeMap Tryz.prog
 go_enter Tryz.func62, Tryz.ntmps62
 go_wp2_with (fail)
 rw [← hHX.out]
 try rw [← hMB.out]
 refine wp_region_held_drew (S := fun z => (z.cell? ⟨Bf, 0, none⟩ = some (.pointer (some ⟨b, 0, none⟩)) ∧ z.cell? ⟨Bn, 0, none⟩ = some (.string s) ∧ z.cell? ⟨Bs, 0, none⟩ = some (.string u) ∧ z.cell? ⟨b, 1, none⟩ = some (.map (some mb)))) (by kernel_rfl) ⟨q2, q3, q5, q4⟩ (fun hHeld => ?_)
 refine tq ⟨some 12, .load 55 (.tmp 0), 55, "file.go:38", #[], none⟩ ?_ 0 rfl ?_ ?_;rotate_left;·(intros;go_simp<;>with_reducible rfl)
 try simp only[Act.put,sqA,sqB,sqC]
 refine tq ⟨some 13, .nilCheck (.tmp 12), 0, "file.go:38", #[⟨0, .data⟩], none⟩ ?_ 1 rfl ?_ ?_;rotate_left;·(intros;go_simp<;>with_reducible rfl)
 try simp only[Act.put,sqA,sqB,sqC]
 refine tq ⟨some 14, .fieldAddr 113 (.tmp 13) 1, 0, "file.go:38", #[⟨1, .data⟩], none⟩ ?_ 2 rfl ?_ ?_;rotate_left;·(intros;go_simp<;>with_reducible rfl)
 try simp only[Act.put,sqA,sqB,sqC]
 refine tq ⟨some 15, .load 111 (.tmp 14), 111, "file.go:38", #[⟨2, .data⟩], none⟩ ?_ 3 rfl ?_ ?_;rotate_left;·(intros;go_simp<;>with_reducible rfl)
 try simp only[Act.put,sqA,sqB,sqC]
 refine tq ⟨some 16, .load 9 (.tmp 1), 9, "file.go:38", #[], none⟩ ?_ 4 rfl ?_ ?_;rotate_left;·(intros;go_simp<;>with_reducible rfl)
 try simp only[Act.put,sqA,sqB,sqC]
 refine tq ⟨some 17, .load 55 (.tmp 0), 55, "file.go:38", #[], none⟩ ?_ 5 rfl ?_ ?_;rotate_left;·(intros;go_simp<;>with_reducible rfl)
 try simp only[Act.put,sqA,sqB,sqC]
 refine tq ⟨some 18, .nilCheck (.tmp 17), 0, "file.go:38", #[⟨5, .data⟩], none⟩ ?_ 6 rfl ?_ ?_;rotate_left;·(intros;go_simp<;>with_reducible rfl)
 try simp only[Act.put,sqA,sqB,sqC]
 refine tq ⟨some 19, .fieldAddr 113 (.tmp 18) 1, 0, "file.go:38", #[⟨6, .data⟩], none⟩ ?_ 7 rfl ?_ ?_;rotate_left;·(intros;go_simp<;>with_reducible rfl)
 try simp only[Act.put,sqA,sqB,sqC]
 refine tq ⟨some 20, .load 111 (.tmp 19), 111, "file.go:38", #[⟨7, .data⟩], none⟩ ?_ 8 rfl ?_ ?_;rotate_left;·(intros;go_simp<;>with_reducible rfl)
 try simp only[Act.put,sqA,sqB,sqC]
 refine tq ⟨some 21, .load 9 (.tmp 1), 9, "file.go:38", #[], none⟩ ?_ 9 rfl ?_ ?_;rotate_left;·(intros;go_simp<;>with_reducible rfl)
 try simp only[Act.put,sqA,sqB,sqC]
 refine tq ⟨some 23, .load 9 (.tmp 2), 9, "file.go:38", #[], none⟩ ?_ 11 rfl ?_ ?_;rotate_left;·(intros;go_simp<;>with_reducible rfl)
 try simp only[Act.put,sqA,sqB,sqC]
 refine wpAnyH_ready (rs := [10]) (by kernel_rfl) (by simp) ?_
 refine ar1 ⟨some 22, .lookup 111 (.tmp 20) (.tmp 21) false, 116, "file.go:38", #[⟨8, .data⟩, ⟨9, .data⟩], none⟩ rfl (fun K hK => ?_)
 refine step_look (mv := .map (some mb)) (kv := .string s) (r := .agg #[.slice none 0 0, .int .i64 0]) rfl (.tmp 20) (.tmp 21) rfl rfl rfl (HLK.out _ (Bel.refl _).drew) ?_
 refine hK.out _ _ hHeld (fun hHeld1 => ?_)
 clear hK K
 try simp only[Act.put,sqA,sqB,sqC]
 refine wpAnyH_ready (rs := [12]) (by kernel_rfl) (by simp) ?_
 refine ar1 ⟨some 24, .call ⟨.value (.func 63), #[.tmp 22, .tmp 23], #[116, 9]⟩, 116, "file.go:38", #[⟨10, .data⟩, ⟨11, .data⟩], none⟩ rfl (fun K hK => ?_)
 go_simp
 refine (extended_nil n₀ X0.drew u hu HN0.out).mono ?_
 rintro e w2 ⟨v', rfl, hv1, hk1, hl1⟩
 have D1 := Lib.hid ((Keep.of_bel (Bel.refl X0).drew []).trans hk1 (fun x hx => Or.inl hx))
 have S2 := HSK.out [] _ _ hk1 (by simp) (by simp) (by simp) (by simp) hHeld
 have HV1 := Lib.hid hv1
 have HL1 := Lib.hid hl1
 have HV2 := Lib.hid (show FilesV n₀ w2 mb (.map []) (fun _ => .slice none 0 0) M.L none from HV.out.keep D1.out (by simp) (fun _ _ _ _ _ => by simp))
 clear hk1 hv1 hl1
 dsimp only
 refine hK.out _ _ S2 (fun hHeld2 => ?_)
 clear hK K
 try simp only[Act.put,sqA,sqB,sqC]
 refine wpAnyH_ready (rs := [13]) (by kernel_rfl) (by simp) ?_
 refine ar1 ⟨none, .mapUpdate 111 (.tmp 15) (.tmp 16) (.tmp 24), 0, "file.go:38", #[⟨3, .data⟩, ⟨4, .data⟩, ⟨12, .data⟩, ⟨12, .chain⟩, ⟨0, .phase⟩, ⟨1, .phase⟩, ⟨2, .phase⟩, ⟨3, .phase⟩, ⟨4, .phase⟩, ⟨5, .phase⟩, ⟨6, .phase⟩, ⟨7, .phase⟩, ⟨8, .phase⟩, ⟨9, .phase⟩, ⟨10, .phase⟩, ⟨11, .phase⟩, ⟨12, .phase⟩], none⟩ rfl (fun K hK => ?_)
 refine step_store (mb := mb) (s := s) (val := .agg #[v', .int .i64 0]) rfl (.tmp 15) (.tmp 16) (.tmp 24) rfl rfl rfl rfl HV2.out.own (by omega) hs ?_
 intro w3 ho hk
 refine hK.out _ _ (HSK.out [mb] _ _ hk (by simpa using P1) (by simpa using P2) (by simpa using P3) (by simpa using N4) S2) (fun hHeld3 => ?_)
 clear hK K
 try simp only[Act.put,sqA,sqB,sqC]
 refine wpAnyH_done (by kernel_rfl) ?_ _
 have HO := Lib.hid ho
 have HK := Lib.hid hk
 clear ho hk hHeld hHeld1 hHeld2 hHeld3 S2
 go_wp2_with (fail)
 go_end0
 have hval := HV1.out.keep HK.out (fun k hk1 hk2 => by
  rw [List.mem_singleton] at hk2
  subst hk2
  exact HV2.out.ne_row HV1.out hk1)
 have hadd : addF s.data.toList u.data.toList M.L = ⟨s.data.toList, u.data.toList, 0⟩ := by unfold addF; rw [HY.out]
 have hput := FilesV.put (y := ⟨s.data.toList, u.data.toList, 0⟩) (v' := v') HS.out (HV2.out.weak s.data.toList) (x := w3) (n := M.L.length + 1) (by
   have := HO.out
   exact this) HK.out hval (fun z hz hne k hk => by
   have h1 := HL1.out k hk
   intro h2
   have := ((HV.out.val z hz (by simp)).lt k h2).2
   simp at h1
   omega)
 rw [hadd]
 have KK := ((HKW.out.trans (D1.out.mono (G := F) (fun x hx => by cases hx)) (fun x hx => Or.inl hx))).trans (HK.out.mono (G := mb :: F) (fun x hx => by rw [List.mem_singleton] at hx; rw [hx]; simp)) (fun x hx => by
  rcases List.mem_cons.1 hx with rfl | hx
  ·exact HMB.out
  ·exact Or.inl hx)
 refine ⟨rfl, mb, _, _, (HH.out.keep D1.out (by simp)).keep HK.out (by simpa using N4), hput, KK, HMB.out, fun z hz k hk => ?_⟩
 by_cases he : z.name = s.data.toList
 ·simp only [he, if_true] at hk
  exact Or.inr (Nat.le_trans HKW.out.size (by simpa using HL1.out k hk))
 ·simp only [he, if_false] at hk
  rcases mem_ins hz with rfl | hz
  ·exact absurd rfl he
  ·exact HVF.out z hz k hk


def chgS (M : RS) (L' : List FI) : Int × RS := if M.turns = 0 then (7, (turnS M).2) else (0, { (turnS M).2 with L := L' })
def addS (nm s : List UInt8) (M : RS) : Int × RS := if admS nm s.length M = 0 then chgS M (insS (addF nm s M.L) M.L) else (admS nm s.length M, M)
def onS (nm : List UInt8) (M : RS) (k : FI → Int × RS) : Int × RS := if M.gone then (7, M) else match getF nm M.L with
 | some y => k y
 | none => (4, M)
def flushS (nm : List UInt8) (M : RS) : Int × RS := onS nm M fun y => chgS M (insS { y with safe := y.bytes.length } M.L)
def cutS (nm : List UInt8) (n : Int) (M : RS) : Int × RS := onS nm M fun y => if n < 0 ∨ (y.bytes.length : Int) < n then (2, M) else chgS M (insS { y with bytes := y.bytes.take n.toNat, safe := min y.safe n.toNat } M.L)
def dropS (nm : List UInt8) (M : RS) : Int × RS := onS nm M fun y => chgS M (outS nm M.L)
theorem turn_L (M : RS) : (turnS M).2.L = M.L := by unfold turnS; split; rfl; split <;> rfl
theorem run_enter {f : FuncId} {fn : Func} {c : Code} (hf : Tryz.prog.funcs[f]? = some fn) (hname : (fn.name == "runtime.NumGoroutine") = false) (hb : fn.body = some c) (args : Array Value) (w : World) : (callFunc f args).run Tryz.prog w = .ok (.enter f args) w := by
 have h1 : fn.name ≠ "runtime.NumGoroutine" := by simpa using hname
 simp [callFunc, hf, h1, hb]
section
variable {n₀ : Nat} {w w1 x : World} {b : Nat} {M M' : RS} {F : List Nat} {mb : Nat} {t : Int} {V : List UInt8 → Value} {L L' : List FI} {mv : Value}
theorem ProgTo.mk' (hlow : n₀ ≤ b) (hbF : b ∈ F) (hFw : ∀ k ∈ F, n₀ ≤ k ∧ k < w.heap.size) (hn0 : n₀ ≤ w.heap.size) (hk : Keep F w x) {D : DataW Value} (hdr : Hdr x b M (.map (some mb)) t) (hV : FilesV n₀ x mb D V M.L none) (hmb : mb ∈ F ∨ w.heap.size ≤ mb)
  (hv : ∀ z ∈ M.L, ∀ k, (V z.name).ownBlock = some k → k ∈ F ∨ w.heap.size ≤ k) : ProgTo n₀ w x b M F := by
 refine ⟨mb :: (F ++ M.L.filterMap fun z => (V z.name).ownBlock), ⟨⟨_, t, hdr.1, hdr.2.1, hdr.2.2, Or.inr ⟨mb, D, V, rfl, hV, by simp, fun z hz k hk => by
  rw [List.mem_cons, List.mem_append, List.mem_filterMap]
  exact Or.inr (Or.inr ⟨z, hz, hk⟩)⟩⟩, hlow, by simp [hbF], fun k hk' => ?_⟩, hk, fun k hk' => ?_⟩
 ·rw [List.mem_cons, List.mem_append, List.mem_filterMap] at hk'
  rcases hk' with rfl | hk' | ⟨z, hz, hk'⟩
  ·exact ⟨hV.low, hV.lt⟩
  ·exact ⟨(hFw k hk').1, Nat.lt_of_lt_of_le (hFw k hk').2 hk.size⟩
  ·exact (hV.val z hz (by simp)).lt k hk'
 ·rw [List.mem_cons, List.mem_append, List.mem_filterMap] at hk'
  rcases hk' with rfl | hk' | ⟨z, hz, hk'⟩
  ·exact hmb
  ·exact Or.inl hk'
  ·exact hv z hz k hk'
theorem prog_of_chg (hlow : n₀ ≤ b) (hbF : b ∈ F) (hFw : ∀ k ∈ F, n₀ ≤ k ∧ k < w.heap.size) (hn0 : n₀ ≤ w.heap.size) (hk : Keep F w w1) (hmF : mb ∈ F) (hvF : ∀ z ∈ L, ∀ k, (V z.name).ownBlock = some k → k ∈ F)
  (hc : Chg n₀ w1 x b M mb t V L L' [mb]) : ProgTo n₀ w x b { M with L := L' } F := by
 obtain ⟨D', V', h1, h2, h3, h4⟩ := hc
 refine ProgTo.mk' hlow hbF hFw hn0 (hk.trans (h3.mono (G := F) (fun x hx => by rw [List.mem_singleton] at hx; rw [hx]; exact hmF)) (fun x hx => Or.inl hx)) h1 h2 (Or.inl hmF) (fun z hz k hk' => ?_)
 rcases h4 z hz k hk' with ⟨u, hu, h5⟩ | h5
 ·exact Or.inl (hvF u hu k h5)
 ·exact Or.inr (Nat.le_trans hk.size h5)
theorem prog_of_added (hlow : n₀ ≤ b) (hbF : b ∈ F) (hFw : ∀ k ∈ F, n₀ ≤ k ∧ k < w.heap.size) (hn0 : n₀ ≤ w.heap.size) (hk : Keep F w w1) (hc : Added n₀ w1 x b M t L' F) : ProgTo n₀ w x b { M with L := L' } F := by
 obtain ⟨mb, D', V', h1, h2, h3, h4, h5⟩ := hc
 refine ProgTo.mk' hlow hbF hFw hn0 (hk.trans h3 (fun x hx => Or.inl hx)) h1 h2 (h4.imp id (fun h => Nat.le_trans hk.size h)) (fun z hz k hk' => (h5 z hz k hk').imp id (fun h => Nat.le_trans hk.size h))
theorem prog_of_hdr (h : ProgAt n₀ w b M F) (hmv : ∀ mv t, Hdr w b M mv t → ∃ t', Hdr x b M' mv t') (hL : M'.L = M.L) (hk : ∃ y, Bel w y ∧ Keep [b] y x) : ProgTo n₀ w x b M' F := by
 obtain ⟨y, hb, hk⟩ := hk
 have hK := (Keep.of_bel hb [b]).trans hk (fun x hx => Or.inl hx)
 obtain ⟨G, h1, h2, h3⟩ := h.set2 (x := x) (M' := M') (fun mv t h1 h2 h3 => by
  obtain ⟨t', h⟩ := hmv mv t ⟨h1, h2, h3⟩
  exact ⟨t', h⟩) hL hK
 exact ⟨G, h1, h2, h3⟩
end
theorem le_sz {n₀ : Nat} {w : World} {b : Nat} {M : RS} {F : List Nat} (h : ProgAt n₀ w b M F) : n₀ ≤ w.heap.size := by
 have := h.within b h.mem; omega

set_option maxHeartbeats 4000000 in
set_option maxRecDepth 20000 in
theorem pflush_any (n₀ : Nat) (w : World) (b : Nat) (M : RS) (F : List Nat) (s : ByteArray) (h : ProgAt n₀ w b M F) (hs : s.size ≤ maxLen) (hS : Srt M.L) (hL : M.L.length ≤ 1000) :
  Calls Tryz.prog 88 #[.pointer (some ⟨b, 0, none⟩), .string s] w fun e w' => e = .returned (.int .i64 (flushS s.data.toList M).1) ∧ ProgTo n₀ w w' b (flushS s.data.toList M).2 F := by
 have HP := Lib.hid h
 obtain ⟨⟨mv, t, hb, ht, h64, hf⟩, hlow, hbF, hFw⟩ := h
 have B2 := Lib.hid (((Bel.refl w).alloc (.cells #[.pointer (some ⟨b, 0, none⟩)] 55)).alloc (.cells #[.string s] 9))
 cases hg : M.gone with
 | true =>
  have HA := Lib.hid (show flushS s.data.toList M = (7, M) by unfold flushS onS; rw [if_pos hg])
  have HG := Lib.hid hg
  clear hb hf hg hFw ht h64
  go_enter Tryz.func88, Tryz.ntmps88
  go_wp2_with (fail)
  refine (find_gone n₀ _ b M F s (HP.out.bel B2.out) HG.out).mono ?_
  rintro e w1 ⟨rfl, hb1⟩
  have HB := Lib.hid (B2.out.trans hb1)
  clear hb1
  unfold conZ
  go_wp2_with (fail)
  go_ret
  rw [HA.out]
  exact ⟨rfl, HP.out.to (HB.out.alloc _)⟩
 | false =>
  cases hy : getF s.data.toList M.L with
  | none =>
   have HA := Lib.hid (show flushS s.data.toList M = (4, M) by unfold flushS onS; rw [hg, hy]; rfl)
   have HG := Lib.hid hg
   have HY := Lib.hid hy
   clear hb hf hg hy hFw ht h64
   go_enter Tryz.func88, Tryz.ntmps88
   go_wp2_with (fail)
   refine (find_none n₀ _ b M F s (HP.out.bel B2.out) HG.out hs HY.out).mono ?_
   rintro e w1 ⟨rfl, hb1⟩
   have HB := Lib.hid (B2.out.trans hb1)
   clear hb1
   unfold conZ
   go_wp2_with (fail)
   go_ret
   rw [HA.out]
   exact ⟨rfl, HP.out.to (HB.out.alloc _)⟩
  | some y =>
   rcases hf with ⟨_, hL0⟩ | ⟨mb, D, V, rfl, hV, hmF, hvF⟩
   ·rw [hL0] at hy; cases hy
   have HA := Lib.hid (show flushS s.data.toList M = chgS M (insS { y with safe := y.bytes.length } M.L) by unfold flushS onS; rw [hg, hy]; rfl)
   have hsn : s.data.toList = y.name := (getF_name hy).symm
   obtain ⟨p, cap, hp, -⟩ := own_len (hV.val y (getF_mem hy) (by simp))
   have HF := Lib.hid (fun x (hx : Bel w x) => find_some n₀ x b M mb t D V s y ((Keep.of_bel hx []).at hb (by simp)) (hV.bel hx) hg hs hy)
   rw [hsn, hp] at HF
   unfold conV at HF
   have HV := Lib.hid hV
   have HH := Lib.hid (show Hdr w b M (.map (some mb)) t from ⟨hb, ht, h64⟩)
   have HS := Lib.hid hS
   have HY := Lib.hid hy
   have HPV := Lib.hid hp
   have HFW := Lib.hid hFw
   have HMF := Lib.hid hmF
   have HVF := Lib.hid hvF
   have hbw : b < w.heap.size := (hFw b hbF).2
   clear hb hV hg hy hp hFw ht h64 hmF hvF hS hsn
   go_enter Tryz.func88, Tryz.ntmps88
   go_wp2_with (fail)
   refine (HF.out _ B2.out).mono ?_
   rintro e w1 ⟨rfl, hb1⟩
   have HB := Lib.hid (B2.out.trans hb1)
   have hz : w.heap.size + 1 < w1.heap.size := by have := hb1.size; simp at this; omega
   have hz0 : w.heap.size < w1.heap.size := by omega
   have k0 : w1.cell? ⟨w.heap.size, 0, none⟩ = some (.pointer (some ⟨b, 0, none⟩)) := cell_later hb1 (by go_simp)
   have k1 : w1.cell? ⟨w.heap.size + 1, 0, none⟩ = some (.string s) := cell_later hb1 (by go_simp)
   clear hb1
   go_wp2_with (fail)
   obtain ⟨w2, hw2⟩ : ∃ w2, w2 = w1.alloc (.cells #[.slice p y.bytes.length cap, .int .i64 y.safe] 116) := ⟨_, rfl⟩
   rw [← hw2]
   have HB2 := Lib.hid (show Bel w w2 by rw [hw2]; exact HB.out.alloc _)
   have m0 : w2.cell? ⟨w.heap.size, 0, none⟩ = some (.pointer (some ⟨b, 0, none⟩)) := by rw [hw2]; exact cell_later ((Bel.refl w1).alloc _) k0
   have m1 : w2.cell? ⟨w.heap.size + 1, 0, none⟩ = some (.string s) := by rw [hw2]; exact cell_later ((Bel.refl w1).alloc _) k1
   have m2 : w2.cell? ⟨w1.heap.size, 0, none⟩ = some (.slice p y.bytes.length cap) := by rw [hw2]; go_simp
   have m3 : w2.cell? ⟨w1.heap.size, 1, none⟩ = some (.int .i64 y.safe) := by rw [hw2]; go_simp
   have hne := HH.out.ne HV.out.own
   refine (pturn_any w2 b M (.map (some mb)) t _ _ (HH.out.keep (Keep.of_bel HB2.out []) (by simp)) (fun z => ProgTo n₀ w z b { (turnS M).2 with L := insS { y with safe := y.bytes.length } M.L } F) (run_enter Tryz.func120 (by kernel_rfl) rfl _) ?_).mono ?_
   ·intro w3 t3 hdr hk
    have hV3 : FilesV n₀ w3 mb D V (turnS M).2.L none := by
     rw [turn_L]
     exact (HV.out.bel HB2.out).keep hk (by simpa using fun e => hne e.symm) (fun u hu _ k hk1 hk2 => by
      rw [List.mem_singleton] at hk2
      subst hk2
      exact HH.out.ne_row (HV.out.val u hu (by simp)) (by rw [Option.mem_toList]; exact hk1))
    refine (flushcl_any n₀ w3 b mb (turnS M).2 t3 D V w1.heap.size w.heap.size (w.heap.size + 1) s y hdr hV3 (by rw [turn_L]; exact HS.out) (by rw [turn_L]; exact hL) hs (by rw [turn_L]; exact HY.out) HPV.out rfl
     (hk.cell m2 (by simp; omega)) (hk.cell m3 (by simp; omega)) (hk.cell m0 (by simp; omega)) (hk.cell m1 (by simp; omega))).mono ?_
    rintro e w4 ⟨rfl, hc⟩
    rw [turn_L] at hc
    exact ⟨rfl, prog_of_chg hlow hbF HFW.out (le_sz HP.out) ((Keep.of_bel HB2.out F).trans (hk.mono (G := F) (fun x hx => by rw [List.mem_singleton] at hx; rw [hx]; exact hbF)) (fun x hx => Or.inl hx)) HMF.out HVF.out hc⟩
   ·rintro e w5 ⟨rfl, h0, h1⟩
    have R0 := Lib.hid h0
    have R1 := Lib.hid h1
    clear h0 h1 hw2
    go_wp2_with (fail)
    go_ret
    rw [HA.out]
    unfold chgS
    by_cases hT : M.turns = 0
    ·rw [if_pos hT]
     obtain ⟨r1, r2⟩ := R0.out hT
     exact ⟨ret_int (by rw [turnS_zero hT]), prog_of_hdr HP.out (fun mv' t' h' => ⟨t, by
      have e : mv' = .map (some mb) := by
       have := h'.1.symm.trans HH.out.1
       simp at this
       exact this.1
      rw [e]; exact r1⟩) (turn_L M) ⟨w2, HB2.out, r2⟩⟩
    ·rw [if_neg hT]
     refine ⟨?_, R1.out hT⟩
     rcases Int.lt_or_gt_of_ne hT with h | h
     ·exact ret_int (by rw [turnS_neg h])
     ·exact ret_int (by rw [turnS_pos h])

set_option maxHeartbeats 4000000 in
set_option maxRecDepth 20000 in
theorem pdrop_any (n₀ : Nat) (w : World) (b : Nat) (M : RS) (F : List Nat) (s : ByteArray) (h : ProgAt n₀ w b M F) (hs : s.size ≤ maxLen) (hS : Srt M.L) (hL : M.L.length ≤ 1000) :
  Calls Tryz.prog 90 #[.pointer (some ⟨b, 0, none⟩), .string s] w fun e w' => e = .returned (.int .i64 (dropS s.data.toList M).1) ∧ ProgTo n₀ w w' b (dropS s.data.toList M).2 F := by
 have HP := Lib.hid h
 obtain ⟨⟨mv, t, hb, ht, h64, hf⟩, hlow, hbF, hFw⟩ := h
 have B2 := Lib.hid (((Bel.refl w).alloc (.cells #[.pointer (some ⟨b, 0, none⟩)] 55)).alloc (.cells #[.string s] 9))
 cases hg : M.gone with
 | true =>
  have HA := Lib.hid (show dropS s.data.toList M = (7, M) by unfold dropS onS; rw [if_pos hg])
  have HG := Lib.hid hg
  clear hb hf hg hFw ht h64
  go_enter Tryz.func90, Tryz.ntmps90
  go_wp2_with (fail)
  refine (find_gone n₀ _ b M F s (HP.out.bel B2.out) HG.out).mono ?_
  rintro e w1 ⟨rfl, hb1⟩
  have HB := Lib.hid (B2.out.trans hb1)
  clear hb1
  unfold conZ
  go_wp2_with (fail)
  go_ret
  rw [HA.out]
  exact ⟨rfl, HP.out.to (HB.out.alloc _)⟩
 | false =>
  cases hy : getF s.data.toList M.L with
  | none =>
   have HA := Lib.hid (show dropS s.data.toList M = (4, M) by unfold dropS onS; rw [hg, hy]; rfl)
   have HG := Lib.hid hg
   have HY := Lib.hid hy
   clear hb hf hg hy hFw ht h64
   go_enter Tryz.func90, Tryz.ntmps90
   go_wp2_with (fail)
   refine (find_none n₀ _ b M F s (HP.out.bel B2.out) HG.out hs HY.out).mono ?_
   rintro e w1 ⟨rfl, hb1⟩
   have HB := Lib.hid (B2.out.trans hb1)
   clear hb1
   unfold conZ
   go_wp2_with (fail)
   go_ret
   rw [HA.out]
   exact ⟨rfl, HP.out.to (HB.out.alloc _)⟩
  | some y =>
   rcases hf with ⟨_, hL0⟩ | ⟨mb, D, V, rfl, hV, hmF, hvF⟩
   ·rw [hL0] at hy; cases hy
   have HA := Lib.hid (show dropS s.data.toList M = chgS M (outS s.data.toList M.L) by unfold dropS onS; rw [hg, hy]; rfl)
   have hsn : s.data.toList = y.name := (getF_name hy).symm
   obtain ⟨p, cap, hp, -⟩ := own_len (hV.val y (getF_mem hy) (by simp))
   have HF := Lib.hid (fun x (hx : Bel w x) => find_some n₀ x b M mb t D V s y ((Keep.of_bel hx []).at hb (by simp)) (hV.bel hx) hg hs hy)
   rw [hsn, hp] at HF
   unfold conV at HF
   have HV := Lib.hid hV
   have HH := Lib.hid (show Hdr w b M (.map (some mb)) t from ⟨hb, ht, h64⟩)
   have HS := Lib.hid hS
   have HY := Lib.hid hy
   have HPV := Lib.hid hp
   have HFW := Lib.hid hFw
   have HMF := Lib.hid hmF
   have HVF := Lib.hid hvF
   have hbw : b < w.heap.size := (hFw b hbF).2
   clear hb hV hg hy hp hFw ht h64 hmF hvF hS hsn
   go_enter Tryz.func90, Tryz.ntmps90
   go_wp2_with (fail)
   refine (HF.out _ B2.out).mono ?_
   rintro e w1 ⟨rfl, hb1⟩
   have HB := Lib.hid (B2.out.trans hb1)
   have hz : w.heap.size + 1 < w1.heap.size := by have := hb1.size; simp at this; omega
   have hz0 : w.heap.size < w1.heap.size := by omega
   have k0 : w1.cell? ⟨w.heap.size, 0, none⟩ = some (.pointer (some ⟨b, 0, none⟩)) := cell_later hb1 (by go_simp)
   have k1 : w1.cell? ⟨w.heap.size + 1, 0, none⟩ = some (.string s) := cell_later hb1 (by go_simp)
   clear hb1
   go_wp2_with (fail)
   obtain ⟨w2, hw2⟩ : ∃ w2, w2 = w1.alloc (.cells #[.slice p y.bytes.length cap, .int .i64 y.safe] 116) := ⟨_, rfl⟩
   rw [← hw2]
   have HB2 := Lib.hid (show Bel w w2 by rw [hw2]; exact HB.out.alloc _)
   have m0 : w2.cell? ⟨w.heap.size, 0, none⟩ = some (.pointer (some ⟨b, 0, none⟩)) := by rw [hw2]; exact cell_later ((Bel.refl w1).alloc _) k0
   have m1 : w2.cell? ⟨w.heap.size + 1, 0, none⟩ = some (.string s) := by rw [hw2]; exact cell_later ((Bel.refl w1).alloc _) k1
   have m2 : w2.cell? ⟨w1.heap.size, 0, none⟩ = some (.slice p y.bytes.length cap) := by rw [hw2]; go_simp
   have m3 : w2.cell? ⟨w1.heap.size, 1, none⟩ = some (.int .i64 y.safe) := by rw [hw2]; go_simp
   have hne := HH.out.ne HV.out.own
   refine (pturn_any w2 b M (.map (some mb)) t _ _ (HH.out.keep (Keep.of_bel HB2.out []) (by simp)) (fun z => ProgTo n₀ w z b { (turnS M).2 with L := outS s.data.toList M.L } F) (run_enter Tryz.func123 (by kernel_rfl) rfl _) ?_).mono ?_
   ·intro w3 t3 hdr hk
    have hV3 : FilesV n₀ w3 mb D V (turnS M).2.L none := by
     rw [turn_L]
     exact (HV.out.bel HB2.out).keep hk (by simpa using fun e => hne e.symm) (fun u hu _ k hk1 hk2 => by
      rw [List.mem_singleton] at hk2
      subst hk2
      exact HH.out.ne_row (HV.out.val u hu (by simp)) (by rw [Option.mem_toList]; exact hk1))
    refine (dropcl_any n₀ w3 b mb (turnS M).2 t3 D V w.heap.size (w.heap.size + 1) s hdr hV3 (by rw [turn_L]; exact HS.out) hs
     (hk.cell m0 (by simp; omega)) (hk.cell m1 (by simp; omega))).mono ?_
    rintro e w4 ⟨rfl, hc⟩
    rw [turn_L] at hc
    exact ⟨rfl, prog_of_chg hlow hbF HFW.out (le_sz HP.out) ((Keep.of_bel HB2.out F).trans (hk.mono (G := F) (fun x hx => by rw [List.mem_singleton] at hx; rw [hx]; exact hbF)) (fun x hx => Or.inl hx)) HMF.out HVF.out hc⟩
   ·rintro e w5 ⟨rfl, h0, h1⟩
    have R0 := Lib.hid h0
    have R1 := Lib.hid h1
    clear h0 h1 hw2
    go_wp2_with (fail)
    go_ret
    rw [HA.out]
    unfold chgS
    by_cases hT : M.turns = 0
    ·rw [if_pos hT]
     obtain ⟨r1, r2⟩ := R0.out hT
     exact ⟨ret_int (by rw [turnS_zero hT]), prog_of_hdr HP.out (fun mv' t' h' => ⟨t, by
      have e : mv' = .map (some mb) := by
       have := h'.1.symm.trans HH.out.1
       simp at this
       exact this.1
      rw [e]; exact r1⟩) (turn_L M) ⟨w2, HB2.out, r2⟩⟩
    ·rw [if_neg hT]
     refine ⟨?_, R1.out hT⟩
     rcases Int.lt_or_gt_of_ne hT with h | h
     ·exact ret_int (by rw [turnS_neg h])
     ·exact ret_int (by rw [turnS_pos h])

set_option maxHeartbeats 4000000 in
set_option maxRecDepth 20000 in
theorem pcut_any (n₀ : Nat) (w : World) (b : Nat) (M : RS) (F : List Nat) (s : ByteArray) (q : Int) (hq : in64 q) (hsz : ∀ z ∈ M.L, z.bytes.length ≤ 1000000000) (h : ProgAt n₀ w b M F) (hs : s.size ≤ maxLen) (hS : Srt M.L) (hL : M.L.length ≤ 1000) :
  Calls Tryz.prog 153 #[.pointer (some ⟨b, 0, none⟩), .string s, .int .i64 q] w fun e w' => e = .returned (.int .i64 (cutS s.data.toList q M).1) ∧ ProgTo n₀ w w' b (cutS s.data.toList q M).2 F := by
 have HP := Lib.hid h
 obtain ⟨⟨mv, t, hb, ht, h64, hf⟩, hlow, hbF, hFw⟩ := h
 have B2 := Lib.hid ((((Bel.refl w).alloc (.cells #[.pointer (some ⟨b, 0, none⟩)] 55)).alloc (.cells #[.string s] 9)).alloc (.cells #[.int .i64 q] 3))
 cases hg : M.gone with
 | true =>
  have HA := Lib.hid (show cutS s.data.toList q M = (7, M) by unfold cutS onS; rw [if_pos hg])
  have HG := Lib.hid hg
  clear hb hf hg hFw ht h64
  go_enter Tryz.func153, Tryz.ntmps153
  go_wp2_with (fail)
  refine (find_gone n₀ _ b M F s (HP.out.bel B2.out) HG.out).mono ?_
  rintro e w1 ⟨rfl, hb1⟩
  have HB := Lib.hid (B2.out.trans hb1)
  clear hb1
  unfold conZ
  go_wp2_with (fail)
  go_ret
  rw [HA.out]
  exact ⟨rfl, HP.out.to (HB.out.alloc _)⟩
 | false =>
  cases hy : getF s.data.toList M.L with
  | none =>
   have HA := Lib.hid (show cutS s.data.toList q M = (4, M) by unfold cutS onS; rw [hg, hy]; rfl)
   have HG := Lib.hid hg
   have HY := Lib.hid hy
   clear hb hf hg hy hFw ht h64
   go_enter Tryz.func153, Tryz.ntmps153
   go_wp2_with (fail)
   refine (find_none n₀ _ b M F s (HP.out.bel B2.out) HG.out hs HY.out).mono ?_
   rintro e w1 ⟨rfl, hb1⟩
   have HB := Lib.hid (B2.out.trans hb1)
   clear hb1
   unfold conZ
   go_wp2_with (fail)
   go_ret
   rw [HA.out]
   exact ⟨rfl, HP.out.to (HB.out.alloc _)⟩
  | some y =>
   rcases hf with ⟨_, hL0⟩ | ⟨mb, D, V, rfl, hV, hmF, hvF⟩
   ·rw [hL0] at hy; cases hy
   have HA := Lib.hid (show cutS s.data.toList q M = if q < 0 ∨ (y.bytes.length : Int) < q then (2, M) else chgS M (insS { y with bytes := y.bytes.take q.toNat, safe := min y.safe q.toNat } M.L) by unfold cutS onS; rw [hg, hy]; rfl)
   have hyz := hsz y (getF_mem hy)
   have hsn : s.data.toList = y.name := (getF_name hy).symm
   obtain ⟨p, cap, hp, -⟩ := own_len (hV.val y (getF_mem hy) (by simp))
   have HF := Lib.hid (fun x (hx : Bel w x) => find_some n₀ x b M mb t D V s y ((Keep.of_bel hx []).at hb (by simp)) (hV.bel hx) hg hs hy)
   rw [hsn, hp] at HF
   unfold conV at HF
   have HV := Lib.hid hV
   have HH := Lib.hid (show Hdr w b M (.map (some mb)) t from ⟨hb, ht, h64⟩)
   have HS := Lib.hid hS
   have HY := Lib.hid hy
   have HPV := Lib.hid hp
   have HFW := Lib.hid hFw
   have HMF := Lib.hid hmF
   have HVF := Lib.hid hvF
   have hbw : b < w.heap.size := (hFw b hbF).2
   clear hb hV hg hy hp hFw ht h64 hmF hvF hS hsn
   by_cases h1 : q < 0
   ·rw [if_pos (Or.inl h1)] at HA
    go_enter Tryz.func153, Tryz.ntmps153
    go_wp2_with (fail)
    refine (HF.out _ B2.out).mono ?_
    rintro e w1 ⟨rfl, hb1⟩
    have HB := Lib.hid (B2.out.trans hb1)
    have hz2 : w.heap.size + 2 < w1.heap.size := by have := hb1.size; simp at this; omega
    have hz : w.heap.size + 1 < w1.heap.size := by have := hb1.size; simp at this; omega
    have hz0 : w.heap.size < w1.heap.size := by omega
    have k0 : w1.cell? ⟨w.heap.size, 0, none⟩ = some (.pointer (some ⟨b, 0, none⟩)) := cell_later hb1 (by go_simp)
    have k1 : w1.cell? ⟨w.heap.size + 1, 0, none⟩ = some (.string s) := cell_later hb1 (by go_simp)
    have k2 : w1.cell? ⟨w.heap.size + 2, 0, none⟩ = some (.int .i64 q) := cell_later hb1 (by go_simp)
    clear hb1
    go_wp2_with (fail)
    go_ret
    rw [HA.out]
    exact ⟨rfl, HP.out.to (HB.out.alloc _)⟩
   ·by_cases h2 : (y.bytes.length : Int) < q
    ·rw [if_pos (Or.inr h2)] at HA
     go_enter Tryz.func153, Tryz.ntmps153
     go_wp2_with (fail)
     refine (HF.out _ B2.out).mono ?_
     rintro e w1 ⟨rfl, hb1⟩
     have HB := Lib.hid (B2.out.trans hb1)
     have hz2 : w.heap.size + 2 < w1.heap.size := by have := hb1.size; simp at this; omega
     have hz : w.heap.size + 1 < w1.heap.size := by have := hb1.size; simp at this; omega
     have hz0 : w.heap.size < w1.heap.size := by omega
     have k0 : w1.cell? ⟨w.heap.size, 0, none⟩ = some (.pointer (some ⟨b, 0, none⟩)) := cell_later hb1 (by go_simp)
     have k1 : w1.cell? ⟨w.heap.size + 1, 0, none⟩ = some (.string s) := cell_later hb1 (by go_simp)
     have k2 : w1.cell? ⟨w.heap.size + 2, 0, none⟩ = some (.int .i64 q) := cell_later hb1 (by go_simp)
     clear hb1
     go_wp2_with (fail)
     go_ret
     rw [HA.out]
     exact ⟨rfl, HP.out.to (HB.out.alloc _)⟩
    ·rw [if_neg (by omega)] at HA
     go_enter Tryz.func153, Tryz.ntmps153
     go_wp2_with (fail)
     refine (HF.out _ B2.out).mono ?_
     rintro e w1 ⟨rfl, hb1⟩
     have HB := Lib.hid (B2.out.trans hb1)
     have hz2 : w.heap.size + 2 < w1.heap.size := by have := hb1.size; simp at this; omega
     have hz : w.heap.size + 1 < w1.heap.size := by have := hb1.size; simp at this; omega
     have hz0 : w.heap.size < w1.heap.size := by omega
     have k0 : w1.cell? ⟨w.heap.size, 0, none⟩ = some (.pointer (some ⟨b, 0, none⟩)) := cell_later hb1 (by go_simp)
     have k1 : w1.cell? ⟨w.heap.size + 1, 0, none⟩ = some (.string s) := cell_later hb1 (by go_simp)
     have k2 : w1.cell? ⟨w.heap.size + 2, 0, none⟩ = some (.int .i64 q) := cell_later hb1 (by go_simp)
     clear hb1
     go_wp2_with (fail)
     obtain ⟨w2, hw2⟩ : ∃ w2, w2 = w1.alloc (.cells #[.slice p y.bytes.length cap, .int .i64 y.safe] 116) := ⟨_, rfl⟩
     rw [← hw2]
     have HB2 := Lib.hid (show Bel w w2 by rw [hw2]; exact HB.out.alloc _)
     have m0 : w2.cell? ⟨w.heap.size, 0, none⟩ = some (.pointer (some ⟨b, 0, none⟩)) := by rw [hw2]; exact cell_later ((Bel.refl w1).alloc _) k0
     have m1 : w2.cell? ⟨w.heap.size + 1, 0, none⟩ = some (.string s) := by rw [hw2]; exact cell_later ((Bel.refl w1).alloc _) k1
     have m4 : w2.cell? ⟨w.heap.size + 2, 0, none⟩ = some (.int .i64 q) := by rw [hw2]; exact cell_later ((Bel.refl w1).alloc _) k2
     have m2 : w2.cell? ⟨w1.heap.size, 0, none⟩ = some (.slice p y.bytes.length cap) := by rw [hw2]; go_simp
     have m3 : w2.cell? ⟨w1.heap.size, 1, none⟩ = some (.int .i64 y.safe) := by rw [hw2]; go_simp
     have hne := HH.out.ne HV.out.own
     refine (pturn_any w2 b M (.map (some mb)) t _ _ (HH.out.keep (Keep.of_bel HB2.out []) (by simp)) (fun z => ProgTo n₀ w z b { (turnS M).2 with L := insS { y with bytes := y.bytes.take q.toNat, safe := min y.safe q.toNat } M.L } F) (run_enter Tryz.func177 (by kernel_rfl) rfl _) ?_).mono ?_
     ·intro w3 t3 hdr hk
      have hV3 : FilesV n₀ w3 mb D V (turnS M).2.L none := by
       rw [turn_L]
       exact (HV.out.bel HB2.out).keep hk (by simpa using fun e => hne e.symm) (fun u hu _ k hk1 hk2 => by
        rw [List.mem_singleton] at hk2
        subst hk2
        exact HH.out.ne_row (HV.out.val u hu (by simp)) (by rw [Option.mem_toList]; exact hk1))
      refine (cutcl_any n₀ w3 b mb (turnS M).2 t3 D V w1.heap.size (w.heap.size + 2) w.heap.size (w.heap.size + 1) s y hdr hV3 (by rw [turn_L]; exact HS.out) (by rw [turn_L]; exact hL) hs (by rw [turn_L]; exact HY.out) HPV.out rfl q.toNat (by omega) (by rw [show ((q.toNat : Nat) : Int) = q by omega]; exact hk.cell m4 (by simp; omega))
       (hk.cell m2 (by simp; omega)) (hk.cell m3 (by simp; omega)) (hk.cell m0 (by simp; omega)) (hk.cell m1 (by simp; omega))).mono ?_
      rintro e w4 ⟨rfl, hc⟩
      rw [turn_L] at hc
      exact ⟨rfl, prog_of_chg hlow hbF HFW.out (le_sz HP.out) ((Keep.of_bel HB2.out F).trans (hk.mono (G := F) (fun x hx => by rw [List.mem_singleton] at hx; rw [hx]; exact hbF)) (fun x hx => Or.inl hx)) HMF.out HVF.out hc⟩
     ·rintro e w5 ⟨rfl, h0, h1⟩
      have R0 := Lib.hid h0
      have R1 := Lib.hid h1
      clear h0 h1 hw2
      go_wp2_with (fail)
      go_ret
      rw [HA.out]
      unfold chgS
      by_cases hT : M.turns = 0
      ·rw [if_pos hT]
       obtain ⟨r1, r2⟩ := R0.out hT
       exact ⟨ret_int (by rw [turnS_zero hT]), prog_of_hdr HP.out (fun mv' t' h' => ⟨t, by
        have e : mv' = .map (some mb) := by
         have := h'.1.symm.trans HH.out.1
         simp at this
         exact this.1
        rw [e]; exact r1⟩) (turn_L M) ⟨w2, HB2.out, r2⟩⟩
      ·rw [if_neg hT]
       refine ⟨?_, R1.out hT⟩
       rcases Int.lt_or_gt_of_ne hT with h | h
       ·exact ret_int (by rw [turnS_neg h])
       ·exact ret_int (by rw [turnS_pos h])


set_option maxHeartbeats 4000000 in
set_option maxRecDepth 20000 in
theorem padd_any (n₀ : Nat) (w : World) (b : Nat) (M : RS) (F : List Nat) (s u : ByteArray) (h : ProgAt n₀ w b M F) (hs : s.size ≤ 1000000) (hu : u.size ≤ 1000000) (hS : Srt M.L) (hL : M.L.length ≤ 1000) (hB : bytesN M.L ≤ 1000000000) (hroom : 0 ≤ M.room ∧ M.room ≤ 10000000) :
  Calls Tryz.prog 35 #[.pointer (some ⟨b, 0, none⟩), .string s, .string u] w fun e w' => e = .returned (.int .i64 (addS s.data.toList u.data.toList M).1) ∧ ProgTo n₀ w w' b (addS s.data.toList u.data.toList M).2 F := by
 have HP := Lib.hid h
 obtain ⟨⟨mv, t, hb, ht, h64, hf⟩, hlow, hbF, hFw⟩ := h
 have B2 := Lib.hid ((((Bel.refl w).alloc (.cells #[.pointer (some ⟨b, 0, none⟩)] 55)).alloc (.cells #[.string s] 9)).alloc (.cells #[.string u] 9))
 have hus : u.data.toList.length = u.size := rfl
 obtain ⟨adm, hadm⟩ : ∃ adm, adm = admS s.data.toList u.size M := ⟨_, rfl⟩
 have HAD := Lib.hid (fun x (hx : Bel w x) => hadm ▸ admits_any n₀ x b M F s u.size (HP.out.bel hx) hs hu hS hB hL hroom)
 have hsm := Lib.hid (show s.size ≤ maxLen by unfold maxLen; omega)
 have HH := Lib.hid (show Hdr w b M mv t from ⟨hb, ht, h64⟩)
 have HS := Lib.hid hS
 have HBN := Lib.hid hB
 have HFW := Lib.hid hFw
 have HFA := Lib.hid hf
 have hbw : b < w.heap.size := (hFw b hbF).2
 clear hb hf hFw ht h64 hS
 by_cases ha : adm = 0
 ·have HA := Lib.hid (show addS s.data.toList u.data.toList M = chgS M (insS (addF s.data.toList u.data.toList M.L) M.L) by unfold addS; rw [hus, ← hadm, if_pos ha])
  subst ha
  clear hadm
  go_enter Tryz.func35, Tryz.ntmps35
  go_wp2_with (fail)
  refine (HAD.out _ B2.out).mono ?_
  rintro e w2 ⟨rfl, hb1⟩
  have HB2 := Lib.hid (B2.out.trans hb1)
  have hz2 : w.heap.size + 2 < w2.heap.size := by have := hb1.size; simp at this; omega
  have m0 : w2.cell? ⟨w.heap.size, 0, none⟩ = some (.pointer (some ⟨b, 0, none⟩)) := cell_later hb1 (by go_simp)
  have m1 : w2.cell? ⟨w.heap.size + 1, 0, none⟩ = some (.string s) := cell_later hb1 (by go_simp)
  have m2 : w2.cell? ⟨w.heap.size + 2, 0, none⟩ = some (.string u) := cell_later hb1 (by go_simp)
  clear hb1
  go_wp2_with (fail)
  refine (pturn_any w2 b M mv t _ _ (HH.out.keep (Keep.of_bel HB2.out []) (by simp)) (fun z => ProgTo n₀ w z b { (turnS M).2 with L := insS (addF s.data.toList u.data.toList M.L) M.L } F) (run_enter Tryz.func62 (by kernel_rfl) rfl _) ?_).mono ?_
  ·intro w3 t3 hdr hk
   have nf : w.heap.size ∉ F ∧ w.heap.size + 1 ∉ F ∧ w.heap.size + 2 ∉ F := by
    refine ⟨fun h => ?_, fun h => ?_, fun h => ?_⟩ <;> have := (HFW.out _ h).2 <;> omega
   have q0 := hk.cell m0 (by simp; omega)
   have q1 := hk.cell m1 (by simp; omega)
   have q2 := hk.cell m2 (by simp; omega)
   have hn0 : n₀ ≤ w3.heap.size := Nat.le_trans (le_sz HP.out) (Nat.le_trans HB2.out.size hk.size)
   have KF := (Keep.of_bel HB2.out F).trans (hk.mono (G := F) (fun x hx => by rw [List.mem_singleton] at hx; rw [hx]; exact hbF)) (fun x hx => Or.inl hx)
   have fin : ∀ w4, Added n₀ w3 w4 b (turnS M).2 t3 (insS (addF s.data.toList u.data.toList (turnS M).2.L) (turnS M).2.L) F → ProgTo n₀ w w4 b { (turnS M).2 with L := insS (addF s.data.toList u.data.toList M.L) M.L } F := by
    intro w4 hc
    rw [turn_L] at hc
    exact prog_of_added hlow hbF HFW.out (le_sz HP.out) KF hc
   rcases HFA.out with ⟨rfl, hL0⟩ | ⟨mb, D, V, rfl, hV, hmF, hvF⟩
   ·refine (addcl_nil n₀ w3 b (turnS M).2 t3 F w.heap.size (w.heap.size + 1) (w.heap.size + 2) s u hdr (by rw [turn_L]; exact hL0) (by rw [turn_L]; exact HS.out) (by rw [turn_L]; exact hL) hbF hn0 hsm.out hu q0 q1 q2 nf).mono ?_
    rintro e w4 ⟨rfl, hc⟩
    exact ⟨rfl, fin w4 hc⟩
   ·have hne := HH.out.ne hV.own
    have hV3 : FilesV n₀ w3 mb D V (turnS M).2.L none := by
     rw [turn_L]
     exact (hV.bel HB2.out).keep hk (by simpa using fun e => hne e.symm) (fun u hu _ k hk1 hk2 => by
      rw [List.mem_singleton] at hk2
      subst hk2
      exact HH.out.ne_row (hV.val u hu (by simp)) (by rw [Option.mem_toList]; exact hk1))
    cases hy : getF s.data.toList M.L with
    | none =>
     refine (addcl_none n₀ w3 b (turnS M).2 t3 F mb D V w.heap.size (w.heap.size + 1) (w.heap.size + 2) s u hdr hV3 hmF (by rw [turn_L]; exact hvF) (by rw [turn_L]; exact HS.out) (by rw [turn_L]; exact hL) hbF hn0 hsm.out hu (by rw [turn_L]; exact hy) q0 q1 q2 nf).mono ?_
     rintro e w4 ⟨rfl, hc⟩
     exact ⟨rfl, fin w4 hc⟩
    | some y =>
     refine (addcl_some n₀ w3 b (turnS M).2 t3 F mb D V w.heap.size (w.heap.size + 1) (w.heap.size + 2) s u hdr hV3 hmF (by rw [turn_L]; exact hvF) (by rw [turn_L]; exact HS.out) (by rw [turn_L]; exact hL) hbF hn0 hsm.out hu y (by rw [turn_L]; exact hy) (Nat.le_trans (bytes_mem (getF_mem hy)) HBN.out) q0 q1 q2 nf).mono ?_
     rintro e w4 ⟨rfl, hc⟩
     exact ⟨rfl, fin w4 hc⟩
  ·rintro e w5 ⟨rfl, h0, h1⟩
   have R0 := Lib.hid h0
   have R1 := Lib.hid h1
   clear h0 h1
   go_wp2_with (fail)
   go_ret
   rw [HA.out]
   unfold chgS
   by_cases hT : M.turns = 0
   ·rw [if_pos hT]
    obtain ⟨r1, r2⟩ := R0.out hT
    exact ⟨ret_int (by rw [turnS_zero hT]), prog_of_hdr HP.out (fun mv' t' h' => ⟨t, by
     have e : mv' = mv := by
      have := h'.1.symm.trans HH.out.1
      simp at this
      exact this.1
     rw [e]; exact r1⟩) (turn_L M) ⟨w2, HB2.out, r2⟩⟩
   ·rw [if_neg hT]
    refine ⟨?_, R1.out hT⟩
    rcases Int.lt_or_gt_of_ne hT with h | h
    ·exact ret_int (by rw [turnS_neg h])
    ·exact ret_int (by rw [turnS_pos h])
 ·have HA := Lib.hid (show addS s.data.toList u.data.toList M = (adm, M) by unfold addS; rw [hus, ← hadm, if_neg ha])
  have ha2 : (adm == 0) = false := by rw [beq_eq_false_iff_ne]; exact ha
  clear hadm
  go_enter Tryz.func35, Tryz.ntmps35
  go_wp2_with (fail)
  refine (HAD.out _ B2.out).mono ?_
  rintro e w2 ⟨rfl, hb1⟩
  have HB2 := Lib.hid (B2.out.trans hb1)
  clear hb1
  have ha3 : (adm != 0) = true := by rw [bne_iff_ne]; exact ha
  go_wp2_with (fail)
  go_ret
  rw [HA.out]
  exact ⟨rfl, HP.out.to HB2.out⟩

def spb (x : UInt8) (s : Int) : UInt8 := UInt8.ofNat (x.toNat ^^^ (IntKind.u8.wrap s).toNat)
theorem wrap_mod (s : Int) : IntKind.u8.wrap s = s % 256 := by simp [IntKind.wrap, IntKind.signed, IntKind.bits]
theorem wrap_u8 (s : Int) : 0 ≤ IntKind.u8.wrap s ∧ IntKind.u8.wrap s < 256 := by
 have e : IntKind.u8.wrap s = s % 256 := by simp [IntKind.wrap, IntKind.signed, IntKind.bits]
 rw [e]; omega
theorem spb_bits (x : UInt8) (s : Int) : bits .xor .u8 (x.toNat : Int) (IntKind.u8.wrap s) = ((spb x s).toNat : Int) := by
 have h1 := wrap_u8 s
 have hx := x.toNat_lt
 have e : IntKind.u8.wrap s = ((IntKind.u8.wrap s).toNat : Int) := by omega
 have h3 : x.toNat ^^^ (IntKind.u8.wrap s).toNat < 256 := Nat.xor_lt_two_pow (n := 8) (by omega) (by omega)
 rw [e, u8_xor_nat _ _ x.toNat_lt (by omega)]
 unfold spb
 rw [UInt8.toNat_ofNat']
 rw [Nat.mod_eq_of_lt (by omega)]
def leftN (l : Int) (k : Nat) : Nat := (min (max l 0) (k : Int)).toNat
def crX (l s : Int) (x : FI) : FI :=
 ⟨x.name, if leftN l (x.bytes.length - x.safe) = 0 then x.bytes.take (x.safe + leftN l (x.bytes.length - x.safe)) else
  (x.bytes.take (x.safe + leftN l (x.bytes.length - x.safe))).set (x.safe + leftN l (x.bytes.length - x.safe) - 1) (spb (x.bytes.getD (x.safe + leftN l (x.bytes.length - x.safe) - 1) 0) s), x.safe + leftN l (x.bytes.length - x.safe)⟩

theorem own_set {B : Nat} {w : World} {g n cap : Nat} {l : List UInt8} (h : Own B w (.slice (some ⟨g, 0, none⟩) n cap) l) (i : Nat) (hi : i < n) (b : UInt8) : Own B (w.setCell ⟨g, i, none⟩ (.int .u8 b.toNat)) (.slice (some ⟨g, 0, none⟩) n cap) (l.set i b) := by
 obtain ⟨h1, h2⟩ := h
 rcases h2 with ⟨hv, h0⟩ | ⟨g', cap', cur, hv, hg, hh, hc, hx, hsz, htk⟩
 ·cases hv
 ·simp only [Value.slice.injEq, Option.some.injEq, Addr.mk.injEq, and_true] at hv
  obtain ⟨rfl, hn, rfl⟩ := hv
  refine ⟨by rw [Lib.byteCells_length, Nat.mul_one], Or.inr ⟨g, cap, cur.setIfInBounds i (.int .u8 b.toNat), by rw [List.length_set, hn], hg, blk_set hh i _, by rw [List.length_set]; exact hc, hx, by simpa using hsz, ?_⟩⟩
  have e : Lib.byteCells (l.set i b) = (Lib.byteCells l).set i (.int .u8 b.toNat) := by simp [Lib.byteCells, List.map_set]
  rw [e, ← htk]
  simp [List.take_set]
theorem own_cell {B : Nat} {w : World} {g n cap : Nat} {l : List UInt8} (h : Own B w (.slice (some ⟨g, 0, none⟩) n cap) l) (i : Nat) (hi : i < n) : w.cell? ⟨g, i, none⟩ = some (.int .u8 (l.getD i 0).toNat) := by
 have hn : n = l.length := by
  obtain ⟨p, c, e, -⟩ := own_len h
  simp only [Value.slice.injEq] at e
  exact e.2.1
 have := World.ownsRow.cells h (g := g) rfl i (.int .u8 (l.getD i 0).toNat) (by
  simp [Lib.byteCells, List.getD, show i < l.length by omega])
 have e : (⟨g, 0, none⟩ : Addr).add i = ⟨g, i, none⟩ := by cases i <;> simp [Addr.add]
 rwa [e] at this
theorem own_free {B : Nat} {w : World} {g n cap : Nat} {l : List UInt8} (h : Own B w (.slice (some ⟨g, 0, none⟩) n cap) l) (i : Nat) : w.frozen? ⟨g, i, none⟩ = false := by
 rcases h.2 with ⟨hv, h0⟩ | ⟨g', cap', cur, hv, hg, hh, _⟩
 ·cases hv
 ·simp only [Value.slice.injEq, Option.some.injEq, Addr.mk.injEq, and_true] at hv
  obtain ⟨rfl, _, _⟩ := hv
  simp [World.frozen?, hh]

set_option maxHeartbeats 1000000 in
theorem crashed_any (B : Nat) (w : World) (p : Option Addr) (n cap f : Nat) (l : List UInt8) (q s : Int) (h : Own B w (.slice p n cap) l) (hf : f ≤ n) (hn : n ≤ 1000000000) (hq : in64 q) :
  Calls Tryz.prog 56 #[.agg #[.slice p n cap, .int .i64 f], .int .i64 q, .int .i64 s] w fun e w' =>
   e = .returned (.agg #[.slice p (f + leftN q (n - f)) cap, .int .i64 (f + leftN q (n - f) : Nat)]) ∧
   Own B w' (.slice p (f + leftN q (n - f)) cap) (if leftN q (n - f) = 0 then l.take (f + leftN q (n - f)) else (l.take (f + leftN q (n - f))).set (f + leftN q (n - f) - 1) (spb (l.getD (f + leftN q (n - f) - 1) 0) s)) ∧ Keep (Value.slice p n cap).ownBlock.toList w w' := by
 obtain ⟨hp1, hp2, hp3, hp4⟩ := own_shape h
 obtain ⟨t, ht⟩ : ∃ t, t = leftN q (n - f) := ⟨_, rfl⟩
 rw [← ht]
 have hmm : min (max q 0) ((n : Int) - (f : Int)) = (t : Int) := by rw [ht]; unfold leftN; omega
 have htn : f + t ≤ n := by omega
 have HF := fun x => first_any x p n cap f (f + t) htn hp1 hp2 hp3 hp4
 rw [show min f (f + t) = f by omega] at HF
 simp only [Int.natCast_add] at HF
 replace HF := Lib.hid HF
 have HO := Lib.hid h
 have hln : n = l.length := by
  obtain ⟨p', c, e, -⟩ := own_len h
  simp only [Value.slice.injEq] at e
  exact e.2.1
 have HLN := Lib.hid hln
 have W2 := Lib.hid (((Bel.refl w).alloc (.cells #[.slice p n cap, .int .i64 f] 116)).alloc (.cells #[.slice none 0 0, .int .i64 0] 116))
 have hB1 : B ≤ w.heap.size ∨ True := Or.inr trivial
 by_cases h0 : t = 0
 ·rw [if_pos h0]
  have ht0 : ¬ (0 < (t : Int)) := by omega
  have H0 := Lib.hid h0
  clear ht h hp1 hp2 hp3 hp4 hln h0 hB1
  go_enter Tryz.func56, Tryz.ntmps56
  go_wp2_with (fail)
  refine (HF.out _).mono ?_
  rintro e w1 ⟨rfl, hb1⟩
  have HB := Lib.hid (W2.out.trans hb1)
  have hz : w.heap.size + 1 < w1.heap.size := by have := hb1.size; simp at this; omega
  have q0 : w1.cell? ⟨w.heap.size + 1, 0, none⟩ = some (.slice none 0 0) := cell_later hb1 (by go_simp)
  have q1 : w1.cell? ⟨w.heap.size + 1, 1, none⟩ = some (.int .i64 0) := cell_later hb1 (by go_simp)
  have qf : ∀ i, w1.frozen? ⟨w.heap.size + 1, i, none⟩ = false := fun i => (hb1.frozen _ _ (by simp)).trans (by simp)
  clear hb1
  go_wp2_with (fail)
  refine (saved_any _ p (f + t) cap f).mono ?_
  rintro e w2 ⟨rfl, hb2⟩
  have HB2 := Lib.hid (HB.out.trans (((Bel.refl w1).alloc (.cells #[.slice p (f + t) cap, .int .i64 f] 116)).trans hb2))
  have r0 : w2.cell? ⟨w.heap.size + 1, 0, none⟩ = some (.slice none 0 0) := cell_later hb2 (cell_later ((Bel.refl w1).alloc _) q0)
  have r1 : w2.cell? ⟨w.heap.size + 1, 1, none⟩ = some (.int .i64 0) := cell_later hb2 (cell_later ((Bel.refl w1).alloc _) q1)
  have rf : ∀ i, w2.frozen? ⟨w.heap.size + 1, i, none⟩ = false := fun i => (hb2.frozen _ _ (by simp; omega)).trans ((((Bel.refl w1).alloc _).frozen _ _ hz).trans (qf i))
  clear hb2
  go_wp2_with (fail)
  have hval := (own_first HO.out (f + t) htn).bel HB2.out
  have hlow : w.heap.size + 1 ∉ (Value.slice p (f + t) cap).ownBlock.toList := own_old (own_first HO.out (f + t) htn) (Nat.le_succ _)
  have hkk : Keep [w.heap.size + 1] w2 ((w2.setCell ⟨w.heap.size + 1, 0, none⟩ (.slice p (f + t) cap)).setCell ⟨w.heap.size + 1, 1, none⟩ (.int .i64 ((f : Int) + (t : Int)))) :=
   ((Keep.refl _ w2).setCell (p := ⟨w.heap.size + 1, 0, none⟩) (Or.inl (by simp)) _).setCell (p := ⟨w.heap.size + 1, 1, none⟩) (Or.inl (by simp)) _
  exact bodyPost_ret (v := .agg #[.slice p (f + t) cap, .int .i64 ((f : Int) + (t : Int))]) (by simp [results, Tryz.results56, go_sem, r0, r1, World.cell?_setCell_other]) rfl ⟨rfl, hval.keep hkk (fun k h1 h2 => by
    rw [List.mem_singleton] at h2
    subst h2
    exact hlow (by rw [Option.mem_toList]; exact h1)),
   ((Keep.of_bel HB2.out _).setCell (p := ⟨w.heap.size + 1, 0, none⟩) (Or.inr (by simp)) _).setCell (p := ⟨w.heap.size + 1, 1, none⟩) (Or.inr (by simp)) _⟩
 ·rw [if_neg h0]
  have ht0 : 0 < (t : Int) := by omega
  clear ht hln hB1
  cases p with
  | none => have := (hp4 rfl).1; omega
  | some ad =>
  have := hp3 ad rfl
  generalize ad.block = g at this
  subst this
  clear hp1 hp2 hp3 hp4 h
  obtain ⟨i, hi⟩ : ∃ i, f + t = i + 1 := ⟨f + t - 1, by omega⟩
  have hidx : (f : Int) + (t : Int) - 1 = (i : Int) := by omega
  have hgw : g < w.heap.size := (HO.out.lt g rfl).2
  obtain ⟨bx, hbx⟩ : ∃ bx, bx = l.getD i 0 := ⟨_, rfl⟩
  have HBX := Lib.hid hbx
  have hx : bits .xor .u8 (bx.toNat : Int) (s % 256) = ((spb bx s).toNat : Int) := by rw [← spb_bits, wrap_mod]
  have HI := Lib.hid hi
  have hib : i < f + t := by omega
  have hin : (i : Int) < (f : Int) + (t : Int) := by omega
  clear hi h0
  go_enter Tryz.func56, Tryz.ntmps56
  go_wp2_with (fail)
  refine (HF.out _).mono ?_
  rintro e w1 ⟨rfl, hb1⟩
  have HB := Lib.hid (W2.out.trans hb1)
  have hz : w.heap.size + 1 < w1.heap.size := by have := hb1.size; simp at this; omega
  have q0 : w1.cell? ⟨w.heap.size + 1, 0, none⟩ = some (.slice none 0 0) := cell_later hb1 (by go_simp)
  have q1 : w1.cell? ⟨w.heap.size + 1, 1, none⟩ = some (.int .i64 0) := cell_later hb1 (by go_simp)
  have qf : ∀ i, w1.frozen? ⟨w.heap.size + 1, i, none⟩ = false := fun i => (hb1.frozen _ _ (by simp)).trans (by simp)
  have d0 : w1.cell? ⟨g, i, none⟩ = some (.int .u8 bx.toNat) := by rw [hbx]; exact cell_later HB.out (own_cell HO.out i (by omega))
  have df : w1.frozen? ⟨g, i, none⟩ = false := (HB.out.frozen _ _ hgw).trans (own_free HO.out i)
  have hg1 : g < w1.heap.size := by omega
  clear hb1 hbx
  go_wp2_with (fail)
  refine (saved_any _ (some ⟨g, 0, none⟩) (f + t) cap f).mono ?_
  rintro e w2 ⟨rfl, hb2⟩
  obtain ⟨x2, hx2⟩ : ∃ x2, x2 = w1.setCell ⟨g, i, none⟩ (.int .u8 (spb bx s).toNat) := ⟨_, rfl⟩
  rw [← hx2] at hb2
  have hb3 : Bel x2 w2 := ((Bel.refl x2).alloc _).trans hb2
  have K2 : Keep [g] w1 x2 := by rw [hx2]; exact keep_set w1 g i _
  have hx2s : x2.heap.size = w1.heap.size := by rw [hx2]; simp [World.setCell]
  have HK2 := Lib.hid (((Keep.of_bel HB.out [g]).trans K2 (fun x hx => Or.inl hx)).trans (Keep.of_bel hb3 [g]) (fun x hx => Or.inl hx))
  have HV2 := Lib.hid (show Own B w2 (.slice (some ⟨g, 0, none⟩) (f + t) cap) ((l.take (f + t)).set i (spb bx s)) by
   refine Own.bel ?_ hb3
   rw [hx2]
   exact own_set ((own_first HO.out (f + t) htn).bel HB.out) i hib _)
  have r0 : w2.cell? ⟨w.heap.size + 1, 0, none⟩ = some (.slice none 0 0) := cell_later hb3 (K2.cell q0 (by simp; omega))
  have r1 : w2.cell? ⟨w.heap.size + 1, 1, none⟩ = some (.int .i64 0) := cell_later hb3 (K2.cell q1 (by simp; omega))
  have rf : ∀ i, w2.frozen? ⟨w.heap.size + 1, i, none⟩ = false := fun i => (hb3.frozen _ _ (by omega)).trans ((K2.frozen (p := ⟨w.heap.size + 1, i, none⟩) hz (by simp; omega)).trans (qf i))
  clear hb2 hb3 K2 hx2 hx2s
  go_wp2_with (fail)
  have hlow : w.heap.size + 1 ∉ (Value.slice (some ⟨g, 0, none⟩) (f + t) cap).ownBlock.toList := own_old (own_first HO.out (f + t) htn) (Nat.le_succ _)
  have hkk : Keep [w.heap.size + 1] w2 ((w2.setCell ⟨w.heap.size + 1, 0, none⟩ (.slice (some ⟨g, 0, none⟩) (f + t) cap)).setCell ⟨w.heap.size + 1, 1, none⟩ (.int .i64 ((f : Int) + (t : Int)))) :=
   ((Keep.refl _ w2).setCell (p := ⟨w.heap.size + 1, 0, none⟩) (Or.inl (by simp)) _).setCell (p := ⟨w.heap.size + 1, 1, none⟩) (Or.inl (by simp)) _
  have hii : f + t - 1 = i := by have := HI.out; omega
  rw [hii, ← HBX.out]
  exact bodyPost_ret (v := .agg #[.slice (some ⟨g, 0, none⟩) (f + t) cap, .int .i64 ((f : Int) + (t : Int))]) (by simp [results, Tryz.results56, go_sem, r0, r1, World.cell?_setCell_other]) rfl ⟨rfl, HV2.out.keep hkk (fun k h1 h2 => by
    rw [List.mem_singleton] at h2
    subst h2
    exact hlow (by rw [Option.mem_toList]; exact h1)),
   (((HK2.out.mono (by simp [Value.ownBlock])).setCell (p := ⟨w.heap.size + 1, 0, none⟩) (Or.inr (by simp)) _).setCell (p := ⟨w.heap.size + 1, 1, none⟩) (Or.inr (by simp)) _)⟩
end Go.Proofs.YtfbiinnenlgkfaaGreatDoor
