/- TPBet, TCon, TLaw0, laid together. -/
import Derived.Test.YtllcdhbchcpdoaaGreatDoorV25
import Derived.Shelf.SlicesE.Clone
import Derived.Shelf.Lay
import Derived.Ground.SlgnProg
import Derived.Test.YtllcdhbchcpdoaaGreatDoorV2
import Derived.Test.YtllcdhbchcpdoaaGreatDoorV11
import Derived.Test.YtllcdhbchcpdoaaGreatDoorV15
import Derived.Test.YtllcdhbchcpdoaaGreatDoorV9
set_option linter.unusedSimpArgs false
set_option linter.unusedVariables false
/- table's atLeast, Between, Cites, Len. -/
namespace Go.Proofs.YtllcdhbchcpdoaaGreatDoor
open Go.RowKit Go.Deep

theorem run_geq (a b : ByteArray) (w : World) : Sem.run Tryz.prog (binOp .geq 9 (.string a) (.string b)) w = .ok (.bool (!Op.bytesLess a.toList b.toList)) w := by simp [binOp, Op.stringOp]
def geB (t : ByteArray) (e : EB) : Bool := !Op.bytesLess e.k.toList t.toList
set_option maxHeartbeats 1000000 in
set_option maxRecDepth 20000 in
theorem atleast1_any (e : EB) (t : ByteArray) (X : Nat) (w : World) (c0 : w.cell? ⟨X, 0, none⟩ = some (.string t)) :
    Calls Tryz.prog 81 (#[.agg #[.string e.k, .int .i64 e.q, .bool e.d, .string e.v]] ++ #[.pointer (some ⟨X, 0, none⟩)]) w fun r w' => r = .returned (.bool (geB t e)) ∧ Bel w w' := by
  have HB := Lib.hid ((Bel.refl w).alloc (.cells #[.string e.k, .int .i64 e.q, .bool e.d, .string e.v] 23))
  have d0 := cl10 HB.out c0
  have hg := fun w => run_geq e.k t w
  clear c0
  show Calls _ _ #[.agg #[.string e.k, .int .i64 e.q, .bool e.d, .string e.v], .pointer (some ⟨X, 0, none⟩)] _ _
  go_enter Tryz.func81, Tryz.ntmps81
  go_wp2_with (fail)
  go_ret
  exact ⟨rfl, HB.out⟩
theorem ge_up {x y : EB} (t : ByteArray) (h : lessB x y = true) : geB t x = true → geB t y = true := by
  intro h1
  unfold geB at h1 ⊢
  have h2 := lessB_key h
  rw [ByteArray.toList_eq, ByteArray.toList_eq] at h1 ⊢
  cases h3 : Op.bytesLess y.k.data.toList t.data.toList with
  | false => rfl
  | true =>
    have := less_le h2 h3
    rw [this] at h1; cases h1
def KeyStop (L : List EB) (t : ByteArray) (i : Nat) : Prop := i ≤ L.length ∧ (∀ j (h : j < L.length), j < i → Op.bytesLess L[j].k.data.toList t.data.toList = true) ∧ ∀ j (h : j < L.length), i ≤ j → Op.bytesLess L[j].k.data.toList t.data.toList = false
set_option maxHeartbeats 1000000 in
set_option maxRecDepth 20000 in
theorem atleast_any (b : Nat) (t : ByteArray) (L : List EB) (w : World) (ht : TabAt w b L) (hL : L.length ≤ 100000) (hp : L.Pairwise (fun a b => lessB a b = true)) :
    Calls Tryz.prog 52 #[.pointer (some ⟨b, 0, none⟩), .string t] w fun e w' => ∃ i : Nat, e = .returned (.int .i64 i) ∧ KeyStop L t i ∧ Bel w w' := by
  obtain ⟨w1, hw1⟩ : ∃ w1, w1 = w.alloc (.cells #[.string t] 9) := ⟨_, rfl⟩
  have b1 : Bel w w1 := by rw [hw1]; exact (Bel.refl w).alloc _
  have c0 : w1.cell? ⟨w.heap.size, 0, none⟩ = some (.string t) := by rw [hw1]; exact (World.cell?_alloc_new ..).trans (by simp)
  have HB1 := Lib.hid b1
  have HF := Lib.hid (first10_any b 81 #[.pointer (some ⟨w.heap.size, 0, none⟩)] (geB t) L w1 (ht.bel b1) (by omega)
    (fun kv x => run_enter8 Tryz.func81 (by kernel_rfl) rfl _ x)
    (fun e x hb => atleast1_any e t w.heap.size x (cl10 hb c0))
    (hp.imp fun {x y} hxy => ge_up t hxy))
  clear ht hp b1 c0
  go_enter Tryz.func52, Tryz.ntmps52
  go_wp2_with (fail)
  rw [← hw1]
  refine HF.out.mono ?_
  rintro e w3 ⟨i, rfl, hs, hb⟩
  have HB3 := Lib.hid (HB1.out.trans hb)
  obtain ⟨hi, hs1, hs2⟩ := hs
  have hA : ∀ j (h : j < L.length), j < i → Op.bytesLess L[j].k.data.toList t.data.toList = true := fun j h hj => by
    have := hs1 j hj
    simp only [List.getElem?_eq_getElem h] at this
    unfold geB at this
    rw [ByteArray.toList_eq, ByteArray.toList_eq] at this
    cases h9 : Op.bytesLess L[j].k.data.toList t.data.toList with
    | true => rfl
    | false => rw [h9] at this; cases this
  have hB : ∀ j (h : j < L.length), i ≤ j → Op.bytesLess L[j].k.data.toList t.data.toList = false := fun j h hj => by
    have := hs2 j hj h
    simp only [List.getElem?_eq_getElem h] at this
    unfold geB at this
    rw [ByteArray.toList_eq, ByteArray.toList_eq] at this
    cases h9 : Op.bytesLess L[j].k.data.toList t.data.toList with
    | false => rfl
    | true => rw [h9] at this; cases this
  have HS := Lib.hid (show KeyStop L t i from ⟨hi, hA, hB⟩)
  clear hA hB
  clear hs1 hs2 hb
  go_wp2_with (fail)
  go_ret
  exact ⟨i, rfl, HS.out, HB3.out⟩
def Tryz.cloneEnt_ren : Go.Shelf.Ren := ⟨fun | 41 => 53 | n => n, fun | 22 => 26 | 23 => 23 | 4 => 4 | n => n, fun | n => n⟩
theorem Tryz.cloneEnt : Go.Proofs.SlLaysE0.n41 Tryz.prog Tryz.cloneEnt_ren := {
  mixed := by kernel_rfl
  f41 := ⟨Tryz.f53.name, by decide, Tryz.func53.trans (congrArg some (by kernel_rfl))⟩
  t4 := Tryz.underlying4
  a4 := Tryz.isAgg4
  z4 := Tryz.sizeOf4
  v4 := Tryz.zeroValue4
  t22 := Tryz.underlying26
  a22 := Tryz.isAgg26
  z22 := Tryz.sizeOf26
  v22 := Tryz.zeroValue26 }
theorem clone_any (g off n c : Nat) (M : List EB) (w : World) (hn : n = M.length) (hM : M.length ≤ 100000) (hc : ∀ j u, (entEl.all M)[j]? = some u → w.cell? ⟨g, off + j, none⟩ = some u) :
    Calls Tryz.prog 53 #[.slice (some ⟨g, off, none⟩) n c] w fun e w' => ∃ v, e = .returned v ∧ OwnG entEl w.heap.size w' v M ∧ Bel w w' := by
  obtain ⟨z, hz, hzc⟩ := entOk.info
  obtain ⟨i0, hi, hz0, hz1, hz2⟩ := info_parts hz
  refine Calls.mono (show Calls Tryz.prog 53 _ _ _ from AnyE.slices_Clone Tryz.cloneEnt i0 z 4 48 hi hz0 hz1 hz2 hzc (by decide) Tryz.sizeOf23 g off n c (entEl.all M) w (by rw [El.all_len entOk, hn]; rfl) (by rw [hn]; unfold maxLen; omega) (by rw [hn]; omega) hc (El.all_one entOk _)) ?_
  rintro e w' ⟨v, rfl, ho, -, hb⟩
  refine ⟨v, rfl, ?_, hb⟩
  unfold OwnG
  rw [hn] at ho
  exact ho
theorem len10_any (b : Nat) (L : List EB) (w : World) (ht : TabAt w b L) :
    Calls Tryz.prog 33 #[.pointer (some ⟨b, 0, none⟩)] w fun e w' => e = .returned (.int .i64 (L.length : Nat)) ∧ Bel w w' := by
  obtain ⟨ge, cap, hcell, -, -, -⟩ := ht
  go_enter Tryz.func33, Tryz.ntmps33
  go_wp2_with (fail)
  go_ret
  exact ⟨rfl, Bel.refl w⟩
set_option maxRecDepth 20000 in
theorem tcites_any (b : Nat) (L : List EB) (w : World) (ht : TabAt w b L) (hL : L.length ≤ 10000) (hr : ∀ e ∈ L, rightB e = true) :
    Calls Tryz.prog 29 #[.pointer (some ⟨b, 0, none⟩)] w fun e w' => ∃ v, e = .returned v ∧ OwnG ctEl w.heap.size w' v (citesB L) ∧ Bel w w' := by
  obtain ⟨ge, cap, hcell, hents, -, -⟩ := ht
  have HC := Lib.hid (pcites_any (some ⟨ge, 0, none⟩) cap L w hents hL hr)
  clear hents hr
  go_enter Tryz.func29, Tryz.ntmps29
  go_wp2_with (fail)
  refine HC.out.mono ?_
  rintro e w1 ⟨v, rfl, ho, hb⟩
  go_wp2_with (fail)
  go_ret
  exact ⟨v, rfl, ho, hb⟩
theorem piece_cells {w : World} {g : Nat} {L : List EB} (h : ∀ j u, (entEl.all L)[j]? = some u → w.cell? ⟨g, j, none⟩ = some u) (b n off : Nat) (hb : b + n ≤ L.length) (ho : 0 < n → off = b * 4) :
    ∀ j u, (entEl.all ((L.drop b).take n))[j]? = some u → w.cell? ⟨g, off + j, none⟩ = some u := by
  intro j u hj
  rw [El.all_take entOk _ _ (by rw [List.length_drop]; omega), El.all_drop entOk _ _ (by omega)] at hj
  have hjm : j < n * entEl.n := by
    rcases Nat.lt_or_ge j (n * entEl.n) with h | h
    · exact h
    · rw [List.getElem?_eq_none (by rw [List.length_take]; omega)] at hj; cases hj
  have hn : entEl.n = 4 := rfl
  rw [List.getElem?_take_of_lt hjm, List.getElem?_drop, hn] at hj
  rw [ho (by rw [hn] at hjm; omega)]
  exact h _ _ hj
set_option maxHeartbeats 2000000 in
set_option maxRecDepth 20000 in
theorem between_any10 (b : Nat) (f t : ByteArray) (L : List EB) (w : World) (ht : TabAt w b L) (hL : L.length ≤ 100000) (hp : L.Pairwise (fun a b => lessB a b = true)) :
    Calls Tryz.prog 27 #[.pointer (some ⟨b, 0, none⟩), .string f, .string t] w fun e w' => ∃ v, e = .returned v ∧ OwnG entEl w.heap.size w' v (betE f.data.toList t.data.toList L) ∧ Bel w w' := by
  have HT := Lib.hid ht
  have HP := Lib.hid hp
  obtain ⟨ge, cap, hcell, -, hcap, -⟩ := ht
  clear hp
  go_enter Tryz.func27, Tryz.ntmps27
  go_wp2_with (fail)
  refine wp_region_held_drew (S := fun z => z.cell? ⟨b, 0, none⟩ = some (.slice (some ⟨ge, 0, none⟩) L.length cap)) (by kernel_rfl) hcell (fun hHeld => ?_)
  refine tk (oi := { dst := some 9, op := Op.move (Operand.tmp 0), type := 40, pos := "table.go:47", after := #[], guard := none }) (v := ?_) 0 rfl ?_ ?_
  rotate_left
  · (intro w hSw; (try dsimp only at hSw); first | (go_simp; done) | (go_simp; with_reducible rfl))
  try simp only [Act.put, List.setIfInBounds_toArray, List.set_cons_zero, List.set_cons_succ]
  refine tk (oi := { dst := some 10, op := Op.move (Operand.tmp 1), type := 9, pos := "table.go:47", after := #[], guard := none }) (v := ?_) 1 rfl ?_ ?_
  rotate_left
  · (intro w hSw; (try dsimp only at hSw); first | (go_simp; done) | (go_simp; with_reducible rfl))
  try simp only [Act.put, List.setIfInBounds_toArray, List.set_cons_zero, List.set_cons_succ]
  refine tk (oi := { dst := some 12, op := Op.move (Operand.tmp 0), type := 40, pos := "table.go:47", after := #[], guard := none }) (v := ?_) 3 rfl ?_ ?_
  rotate_left
  · (intro w hSw; (try dsimp only at hSw); first | (go_simp; done) | (go_simp; with_reducible rfl))
  try simp only [Act.put, List.setIfInBounds_toArray, List.set_cons_zero, List.set_cons_succ]
  refine tk (oi := { dst := some 13, op := Op.nilCheck (Operand.tmp 12), type := 0, pos := "table.go:47", after := #[{ on := 3, ground := Ground.data }], guard := none }) (v := ?_) 4 rfl ?_ ?_
  rotate_left
  · (intro w hSw; (try dsimp only at hSw); first | (go_simp; done) | (go_simp; with_reducible rfl))
  try simp only [Act.put, List.setIfInBounds_toArray, List.set_cons_zero, List.set_cons_succ]
  refine tk (oi := { dst := some 14, op := Op.fieldAddr 93 (Operand.tmp 13) 0, type := 0, pos := "table.go:47", after := #[{ on := 4, ground := Ground.data }], guard := none }) (v := ?_) 5 rfl ?_ ?_
  rotate_left
  · (intro w hSw; (try dsimp only at hSw); first | (go_simp; done) | (go_simp; with_reducible rfl))
  try simp only [Act.put, List.setIfInBounds_toArray, List.set_cons_zero, List.set_cons_succ]
  refine tk (oi := { dst := some 15, op := Op.load 26 (Operand.tmp 14), type := 26, pos := "table.go:47", after := #[{ on := 5, ground := Ground.data }], guard := none }) (v := ?_) 6 rfl ?_ ?_
  rotate_left
  · (intro w hSw; (try dsimp only at hSw); first | (go_simp; done) | (go_simp; with_reducible rfl))
  try simp only [Act.put, List.setIfInBounds_toArray, List.set_cons_zero, List.set_cons_succ]
  refine tk (oi := { dst := some 16, op := Op.call { callee := Callee.builtin Builtin.len, args := #[Operand.tmp 15], argTypes := #[26] }, type := 3, pos := "table.go:47", after := #[{ on := 6, ground := Ground.data }], guard := none }) (v := ?_) 7 rfl ?_ ?_
  rotate_left
  · (intro w hSw; (try dsimp only at hSw); first | (go_simp; done) | (go_simp; with_reducible rfl))
  try simp only [Act.put, List.setIfInBounds_toArray, List.set_cons_zero, List.set_cons_succ]
  refine wpAnyH_ready (rs := [2]) (by kernel_rfl) (by simp) ?_
  refine AllReadyH.cons (o := { dst := some 11, op := Op.call { callee := Callee.value (Operand.func 52), args := #[Operand.tmp 9, Operand.tmp 10], argTypes := #[40, 9] }, type := 3, pos := "table.go:47", after := #[{ on := 0, ground := Ground.data }, { on := 1, ground := Ground.data }], guard := none }) rfl (fun K hK => ?_) AllReadyH.nil
  go_simp
  refine (atleast_any b f L w.drew (HT.out.bel (Bel.refl w).drew) hL HP.out).mono ?_
  rintro r w2 ⟨i, rfl, hs, hb⟩
  have HS := Lib.hid hs
  have HB2 := Lib.hid ((Bel.refl w).drew.trans hb)
  dsimp only
  refine hK.out _ _ (cl10 hb hHeld) (fun hHeld => ?_)
  clear hK K hb hs
  try simp only [Act.put, List.setIfInBounds_toArray, List.set_cons_zero, List.set_cons_succ]
  refine tk (oi := { dst := some 7, op := Op.assign (Operand.tmp 11), type := 3, pos := "table.go:47", after := #[{ on := 2, ground := Ground.data }, { on := 2, ground := Ground.chain }, { on := 0, ground := Ground.phase }, { on := 1, ground := Ground.phase }, { on := 2, ground := Ground.phase }, { on := 3, ground := Ground.textOnly Departure.lateStores }, { on := 4, ground := Ground.textOnly Departure.lateStores }, { on := 5, ground := Ground.textOnly Departure.lateStores }, { on := 6, ground := Ground.textOnly Departure.lateStores }, { on := 7, ground := Ground.textOnly Departure.lateStoresUnsure }], guard := none }) (v := ?_) 8 rfl ?_ ?_
  rotate_left
  · (intro w hSw; (try dsimp only at hSw); first | (go_simp; done) | (go_simp; with_reducible rfl))
  try simp only [Act.put, List.setIfInBounds_toArray, List.set_cons_zero, List.set_cons_succ]
  refine tk (oi := { dst := some 8, op := Op.assign (Operand.tmp 16), type := 3, pos := "table.go:47", after := #[{ on := 7, ground := Ground.data }, { on := 8, ground := Ground.chain }, { on := 0, ground := Ground.phase }, { on := 1, ground := Ground.phase }, { on := 2, ground := Ground.phase }, { on := 3, ground := Ground.phase }, { on := 4, ground := Ground.phase }, { on := 5, ground := Ground.phase }, { on := 6, ground := Ground.phase }, { on := 7, ground := Ground.phase }, { on := 8, ground := Ground.phase }], guard := none }) (v := ?_) 9 rfl ?_ ?_
  rotate_left
  · (intro w hSw; (try dsimp only at hSw); first | (go_simp; done) | (go_simp; with_reducible rfl))
  try simp only [Act.put, List.setIfInBounds_toArray, List.set_cons_zero, List.set_cons_succ]
  refine wpAnyH_done (by kernel_rfl) ?_ _
  have HB2T := Lib.hid (HT.out.bel HB2.out)
  have hiL := HS.out.1
  clear hcell
  by_cases h0 : t.data.toList = []
  · have hte : t = ⟨#[]⟩ := ba_ext h0
    subst hte
    clear h0
    have HBE := Lib.hid (bet_at (L := L) f ⟨#[]⟩ i L.length hiL (Nat.le_refl _) HS.out.2.1 HS.out.2.2 (Or.inl ⟨rfl, rfl⟩))
    have hself : ((⟨#[]⟩ : ByteArray).toList == (⟨#[]⟩ : ByteArray).toList) = true := beq_self_eq_true _
    obtain ⟨ge', cap', hc9, -, -, hcells⟩ := HB2T.out
    rw [hHeld] at hc9
    cases hc9
    have hiLi : (i : Int) ≤ (L.length : Int) := by omega
    have hLc : (L.length : Int) ≤ (cap : Int) := by omega
    have hic : (i : Int) ≤ (cap : Int) := by omega
    obtain ⟨m, hm⟩ : ∃ m, m = max i (L.length) := ⟨_, rfl⟩
    have hmi : max (i : Int) ((L.length : Nat) : Int) = (m : Int) := by omega
    have him : (i : Int) ≤ (m : Int) := by omega
    have hmc : (m : Int) ≤ (cap : Int) := by omega
    have hmL : m ≤ L.length := by omega
    have him' : i ≤ m := by omega
    rw [← hm] at HBE
    obtain ⟨M, hM⟩ : ∃ M, M = (L.drop i).take (m - i) := ⟨_, rfl⟩
    have hMl : m - i = M.length := by rw [hM, List.length_take, List.length_drop]; omega
    have HMC := Lib.hid (show ∀ off, (0 < m - i → off = i * 4) → ∀ j u, (entEl.all M)[j]? = some u → w2.cell? ⟨ge, off + j, none⟩ = some u from fun off ho => by
      rw [hM]; exact piece_cells hcells i (m - i) off (by omega) ho)
    rw [← hM] at HBE
    have HML := Lib.hid hMl
    have hMz : M.length ≤ 100000 := by omega
    have HM := Lib.hid hm
    clear hM hMl hm
    by_cases hci : i < cap
    · have hcn : ¬ cap = i := by omega
      go_wp2_with (fail)
      refine (clone_any ge _ _ _ M _ HML.out hMz (HMC.out _ (fun _ => rfl))).mono ?_
      rintro r w5 ⟨v, rfl, ho, hb⟩
      have HO := Lib.hid (own_low ho HB2.out.size)
      have HB5 := Lib.hid (HB2.out.trans hb)
      clear ho hb
      go_wp2_with (fail)
      go_ret
      exact ⟨v, rfl, by rw [HBE.out]; exact HO.out, HB5.out⟩
    · have hmi2 : m = i := by omega
      have hci2 : cap = i := by omega
      subst hci2
      have hM0 := HML.out
      rw [hmi2, Nat.sub_self] at hM0
      have HM0 := Lib.hid hM0
      rw [hmi2] at HMC hmi him hmc
      clear hM0 hmi2 him' hmL
      go_wp2_with (fail)
      refine (clone_any ge _ _ _ M _ (by rw [← HM0.out]) hMz (HMC.out _ (fun h => by omega))).mono ?_
      rintro r w5 ⟨v, rfl, ho, hb⟩
      have HO := Lib.hid (own_low ho HB2.out.size)
      have HB5 := Lib.hid (HB2.out.trans hb)
      clear ho hb
      go_wp2_with (fail)
      go_ret
      exact ⟨v, rfl, by rw [HBE.out]; exact HO.out, HB5.out⟩
  · have hne : (t.toList == []) = false := by
      rw [ByteArray.toList_eq, beq_eq_false_iff_ne]; exact h0
    have H0 := Lib.hid h0
    clear h0
    go_wp2_with (fail)
    refine (atleast_any b t L w2 HB2T.out hL HP.out).mono ?_
    rintro r w3 ⟨e, rfl, hs, hb⟩
    have HB3 := Lib.hid (HB2.out.trans hb)
    have HSE := Lib.hid hs
    have heL := hs.1
    have hH3 := cl10 hb hHeld
    obtain ⟨ge', cap', hc9, -, -, hcells⟩ := HB2T.out.bel hb
    rw [hH3] at hc9
    cases hc9
    have HBE := Lib.hid (bet_at (L := L) f t i e hiL heL HS.out.2.1 HS.out.2.2 (Or.inr ⟨H0.out, HSE.out.2.1, HSE.out.2.2⟩))
    clear hs hb hHeld
    have hiLi : (i : Int) ≤ (L.length : Int) := by omega
    have hLc : (L.length : Int) ≤ (cap : Int) := by omega
    have hic : (i : Int) ≤ (cap : Int) := by omega
    obtain ⟨m, hm⟩ : ∃ m, m = max i (e) := ⟨_, rfl⟩
    have hmi : max (i : Int) ((e : Nat) : Int) = (m : Int) := by omega
    have him : (i : Int) ≤ (m : Int) := by omega
    have hmc : (m : Int) ≤ (cap : Int) := by omega
    have hmL : m ≤ L.length := by omega
    have him' : i ≤ m := by omega
    rw [← hm] at HBE
    obtain ⟨M, hM⟩ : ∃ M, M = (L.drop i).take (m - i) := ⟨_, rfl⟩
    have hMl : m - i = M.length := by rw [hM, List.length_take, List.length_drop]; omega
    have HMC := Lib.hid (show ∀ off, (0 < m - i → off = i * 4) → ∀ j u, (entEl.all M)[j]? = some u → w3.cell? ⟨ge, off + j, none⟩ = some u from fun off ho => by
      rw [hM]; exact piece_cells hcells i (m - i) off (by omega) ho)
    rw [← hM] at HBE
    have HML := Lib.hid hMl
    have hMz : M.length ≤ 100000 := by omega
    have HM := Lib.hid hm
    clear hM hMl hm
    by_cases hci : i < cap
    · have hcn : ¬ cap = i := by omega
      go_wp2_with (fail)
      refine (clone_any ge _ _ _ M _ HML.out hMz (HMC.out _ (fun _ => rfl))).mono ?_
      rintro r w5 ⟨v, rfl, ho, hb⟩
      have HO := Lib.hid (own_low ho HB3.out.size)
      have HB5 := Lib.hid (HB3.out.trans hb)
      clear ho hb
      go_wp2_with (fail)
      go_ret
      exact ⟨v, rfl, by rw [HBE.out]; exact HO.out, HB5.out⟩
    · have hmi2 : m = i := by omega
      have hci2 : cap = i := by omega
      subst hci2
      have hM0 := HML.out
      rw [hmi2, Nat.sub_self] at hM0
      have HM0 := Lib.hid hM0
      rw [hmi2] at HMC hmi him hmc
      clear hM0 hmi2 him' hmL
      go_wp2_with (fail)
      refine (clone_any ge _ _ _ M _ (by rw [← HM0.out]) hMz (HMC.out _ (fun h => by omega))).mono ?_
      rintro r w5 ⟨v, rfl, ho, hb⟩
      have HO := Lib.hid (own_low ho HB3.out.size)
      have HB5 := Lib.hid (HB3.out.trans hb)
      clear ho hb
      go_wp2_with (fail)
      go_ret
      exact ⟨v, rfl, by rw [HBE.out]; exact HO.out, HB5.out⟩
end Go.Proofs.YtllcdhbchcpdoaaGreatDoor
/- moultlaw10.shown. -/
namespace Go.Proofs.YtllcdhbchcpdoaaGreatDoor
open Go.RowKit Go.Deep

def exE : EB := ⟨⟨#[107]⟩, 3, false, ⟨#[1, 2]⟩⟩
def exT : List EB := [exE]
theorem exT_stand : standB exT = true := by decide +kernel
theorem exT_rows : rowsErr (rowsOf exT) = 0 := by decide +kernel
theorem ex_cite1 : citeV (⟨#[1, 2, 9]⟩ : ByteArray).data.toList = .tuple #[.int .i64 1, .int .i64 2, .bool true] := by
  have h : citeL (⟨#[1, 2, 9]⟩ : ByteArray).data.toList = some (1, 2) := by decide +kernel
  rw [citeV_some h]; rfl
theorem ex_cite2 : citeV (⟨#[1]⟩ : ByteArray).data.toList = .tuple #[.int .i64 0, .int .i64 0, .bool false] := citeV_none (by decide +kernel)
theorem ex_inner : innerL (⟨#[107]⟩ : ByteArray).data.toList 1 = [107, 0, 0, 127, 255, 255, 255, 255, 255, 255, 254] := by decide +kernel
theorem ex_get1 : getE (⟨#[107]⟩ : ByteArray).data.toList 2 exT = none := by
  unfold getE exT
  rw [List.find?_cons]
  have : hitB (⟨#[107]⟩ : ByteArray).data.toList 2 exE = false := by decide +kernel
  rw [this]; rfl
theorem ex_get2 : getE (⟨#[107]⟩ : ByteArray).data.toList 9 exT = some exE := by
  unfold getE exT
  rw [List.find?_cons]
  have : hitB (⟨#[107]⟩ : ByteArray).data.toList 9 exE = true := by decide +kernel
  rw [this]
theorem ex_cites : citesB exT = [⟨1, 2, 1⟩] := by
  have h : citeE exE = some (1, 2) := by decide +kernel
  show stepC [] exE = _
  unfold stepC
  rw [h]; rfl
theorem ents_lit {w : World} {B : Nat} {L : List EB} {arr : Array Value} {T : TypeId} (h : w.heap[B]? = some (.cells arr T (0, 0))) (harr : arr.toList = entEl.all L) : EntsAt w (some ⟨B, 0, none⟩) L := by
  intro i hi
  have hc : ∀ j (u : Value), (entEl.all L)[i * 4 + j]? = some u → w.cell? ⟨B, i * 4 + j, none⟩ = some u := fun j u hj => by
    rw [← harr] at hj
    simp [World.cell?, h]
    simpa using hj
  have hall : ∀ j (u : Value), (entEl.cells L[i])[j]? = some u → (entEl.all L)[i * 4 + j]? = some u := fun j u hj => by
    have e : entEl.all L = entEl.all (L.take i) ++ (entEl.cells L[i] ++ entEl.all (L.drop (i + 1))) := by
      conv => lhs; rw [← List.take_append_drop i L, List.drop_eq_getElem_cons hi, El.all_append]
      congr 1
    have hl : (entEl.all (L.take i)).length = i * 4 := by
      rw [El.all_len entOk, List.length_take]
      show min i L.length * 4 = i * 4
      omega
    have hjl : j < (entEl.cells L[i]).length := (List.getElem?_eq_some_iff.1 hj).1
    rw [e, List.getElem?_append_right (by omega), hl, List.getElem?_append_left (by omega), show i * 4 + j - i * 4 = j by omega]
    exact hj
  exact ⟨_, rfl, B, i * 4, none, add_any B (i * 4), hc 0 _ (hall 0 _ rfl), hc 1 _ (hall 1 _ rfl), hc 2 _ (hall 2 _ rfl), hc 3 _ (hall 3 _ rfl)⟩
theorem get_is (b : Nat) (key : ByteArray) (q : Int) (L : List EB) (o : Option EB) (w : World) (ho : getE key.data.toList q L = o) (ht : TabAt w b L) (hL : L.length ≤ 100000) (hp : L.Pairwise (fun a b => lessB a b = true)) :
    Calls Tryz.prog 28 #[.pointer (some ⟨b, 0, none⟩), .string key, .int .i64 q] w fun e w' => e = .returned (getV o) ∧ Bel w w' := by
  subst ho; exact get_any b key q L w ht hL hp
theorem samecites_at (p q : Option Addr) (n m cap cap' : Nat) (L : List CT) (w : World) (h : CtsAt w p L) (h' : CtsAt w q L) (hL : L.length ≤ 1000000) (hn : n = L.length) (hm : m = L.length) :
    Calls Tryz.prog 32 #[.slice p n cap, .slice q m cap'] w fun e w' => e = .returned (.bool true) ∧ Drw w w' := by
  subst hn hm; exact samecites_any p q cap cap' L w h h' hL
theorem cts_lit1 {w : World} {B : Nat} {c : CT} {T : TypeId} (h : w.heap[B]? = some (.cells #[.int .i64 (c.t : Int), .int .i64 (c.v : Int), .int .i64 (c.n : Int)] T (0, 0))) : CtsAt w (some ⟨B, 0, none⟩) [c] := by
  intro i hi
  have : i = 0 := by simpa using hi
  subst this
  exact ⟨_, rfl, B, 0, none, rfl, by simp [World.cell?, h], by simp [World.cell?, h], by simp [World.cell?, h]⟩
set_option maxHeartbeats 4000000 in
set_option maxRecDepth 20000 in
theorem shown10_any (w : World) (hM : MaxOk w) : Calls Tryz.prog 9 #[] w fun e w' => e = .returned (.bool true) ∧ Bel w w' := by
  have HM := Lib.hid hM; clear hM
  go_enter Tryz.func9, Tryz.ntmps9
  go_wp2_with (fail)
  refine (pcite_any ⟨#[1, 2, 9]⟩ w (by decide)).mono ?_
  rw [ex_cite1]
  rintro e w1 ⟨rfl, hb⟩
  have HB1 := Lib.hid hb; clear hb
  go_wp2_with (fail)
  refine (pcite_any ⟨#[1]⟩ w1 (by decide)).mono ?_
  rw [ex_cite2]
  rintro e w2 ⟨rfl, hb⟩
  have HB2 := Lib.hid (HB1.out.trans hb); clear hb
  have HE := Lib.hid (ents_lit (L := exT) (heap_new2 w2 (.cells #[.string ⟨#[107]⟩, .int .i64 3, .bool false, .string ⟨#[1, 2]⟩] 23) (.cells #[.string ⟨#[107]⟩, .int .i64 3, .bool false, .string ⟨#[1, 2]⟩] 23)) rfl)
  obtain ⟨X, hX⟩ : ∃ X, X = w2.heap.size := ⟨_, rfl⟩
  have x0 : ((w2.alloc (.cells #[.string ⟨#[107]⟩, .int .i64 3, .bool false, .string ⟨#[1, 2]⟩] 23)).alloc (.cells #[.string ⟨#[107]⟩, .int .i64 3, .bool false, .string ⟨#[1, 2]⟩] 23)).cell? ⟨X, 0, none⟩ = some (.string ⟨#[107]⟩) := cl10 ((Bel.refl _).alloc _) (by rw [hX]; exact (World.cell?_alloc_new ..).trans (by simp))
  have x1 : ((w2.alloc (.cells #[.string ⟨#[107]⟩, .int .i64 3, .bool false, .string ⟨#[1, 2]⟩] 23)).alloc (.cells #[.string ⟨#[107]⟩, .int .i64 3, .bool false, .string ⟨#[1, 2]⟩] 23)).cell? ⟨X, 1, none⟩ = some (.int .i64 3) := cl10 ((Bel.refl _).alloc _) (by rw [hX]; exact (World.cell?_alloc_new ..).trans (by simp))
  have x2 : ((w2.alloc (.cells #[.string ⟨#[107]⟩, .int .i64 3, .bool false, .string ⟨#[1, 2]⟩] 23)).alloc (.cells #[.string ⟨#[107]⟩, .int .i64 3, .bool false, .string ⟨#[1, 2]⟩] 23)).cell? ⟨X, 2, none⟩ = some (.bool false) := cl10 ((Bel.refl _).alloc _) (by rw [hX]; exact (World.cell?_alloc_new ..).trans (by simp))
  have x3 : ((w2.alloc (.cells #[.string ⟨#[107]⟩, .int .i64 3, .bool false, .string ⟨#[1, 2]⟩] 23)).alloc (.cells #[.string ⟨#[107]⟩, .int .i64 3, .bool false, .string ⟨#[1, 2]⟩] 23)).cell? ⟨X, 3, none⟩ = some (.string ⟨#[1, 2]⟩) := cl10 ((Bel.refl _).alloc _) (by rw [hX]; exact (World.cell?_alloc_new ..).trans (by simp))
  have hbx := (HB2.out.alloc (.cells #[.string ⟨#[107]⟩, .int .i64 3, .bool false, .string ⟨#[1, 2]⟩] 23)).alloc (.cells #[.string ⟨#[107]⟩, .int .i64 3, .bool false, .string ⟨#[1, 2]⟩] 23)
  have HX := Lib.hid (And.intro x0 (And.intro x1 (And.intro x2 x3)))
  have HBX := Lib.hid hbx
  have hright : ∀ e ∈ exT, rightB e = true := stand_right exT_stand
  obtain ⟨hf, hsz⟩ := right_fits hright
  have HF := Lib.hid hf; have HZ := Lib.hid hsz; have HR := Lib.hid hright
  have HV := Lib.hid (buildT_ok (l := exT) (by simp [exT]) exT_stand (by decide) exT_rows)
  clear hf hsz hright x0 x1 x2 x3 hbx
  go_wp2_with (fail)
  refine (pbuildT_any (some ⟨w2.heap.size + 1, 0, none⟩) 1 exT _ HE.out (by decide) HF.out HZ.out).mono ?_
  unfold buildV
  rw [HV.out]
  obtain ⟨S, hS⟩ : ∃ S : ByteArray, S = ⟨(fileL exT).toArray⟩ := ⟨_, rfl⟩
  have HSD := Lib.hid (show S.data.toList = fileL exT by rw [hS])
  rw [← hS]
  rintro e w3 ⟨rfl, hb⟩
  have HB3 := Lib.hid (HBX.out.trans hb)
  have HX3 := Lib.hid (And.intro (cl10 hb HX.out.1) (And.intro (cl10 hb HX.out.2.1) (And.intro (cl10 hb HX.out.2.2.1) (cl10 hb HX.out.2.2.2))))
  clear hb hS
  go_wp2_with (fail)
  refine (open_ok exT S w3 HSD.out (HM.out.bel HB3.out) exT_stand (by simp [exT]) (by decide) (by decide) exT_rows).mono ?_
  rintro e w4 ⟨b, rfl, ht, hb⟩
  have HB4 := Lib.hid (HB3.out.trans hb)
  have HT4 := Lib.hid ht
  have HX4 := Lib.hid (And.intro (cl10 hb HX3.out.1) (And.intro (cl10 hb HX3.out.2.1) (And.intro (cl10 hb HX3.out.2.2.1) (cl10 hb HX3.out.2.2.2))))
  clear hb ht
  go_wp2_with (fail)
  refine (open_none w4).mono ?_
  rintro e w5 ⟨rfl, hb⟩
  have HB5 := Lib.hid (HB4.out.trans hb)
  have HT5 := Lib.hid (HT4.out.bel hb)
  have HX5 := Lib.hid (And.intro (cl10 hb HX4.out.1) (And.intro (cl10 hb HX4.out.2.1) (And.intro (cl10 hb HX4.out.2.2.1) (cl10 hb HX4.out.2.2.2))))
  clear hb
  go_wp2_with (fail)
  refine (pinner_at ⟨#[107]⟩ 1 1 w5 (by decide) (by decide) rfl).mono ?_
  rw [ex_inner]
  rintro e w6 ⟨rfl, hb⟩
  have HB6 := Lib.hid (HB5.out.trans hb)
  have HT6 := Lib.hid (HT5.out.bel hb)
  have HX6 := Lib.hid (And.intro (cl10 hb HX5.out.1) (And.intro (cl10 hb HX5.out.2.1) (And.intro (cl10 hb HX5.out.2.2.1) (cl10 hb HX5.out.2.2.2))))
  clear hb
  have HPW := Lib.hid (stand_pair exT_stand)
  go_wp2_with (fail)
  refine (get_is b ⟨#[107]⟩ 2 exT none w6 ex_get1 HT6.out (by decide) HPW.out).mono ?_
  rintro e w7 ⟨rfl, hb⟩
  have HB7 := Lib.hid (HB6.out.trans hb)
  have HT7 := Lib.hid (HT6.out.bel hb)
  have HX7 := Lib.hid (And.intro (cl10 hb HX6.out.1) (And.intro (cl10 hb HX6.out.2.1) (And.intro (cl10 hb HX6.out.2.2.1) (cl10 hb HX6.out.2.2.2))))
  clear hb
  unfold getV
  have ha7 := (Bel.refl w7).alloc (.cells #[.string ⟨#[]⟩, .int .i64 0, .bool false, .string ⟨#[]⟩] 23)
  have HB7a := Lib.hid (HB7.out.trans ha7)
  have HT7a := Lib.hid (HT7.out.bel ha7)
  have HX7a := Lib.hid (And.intro (cl10 ha7 HX7.out.1) (And.intro (cl10 ha7 HX7.out.2.1) (And.intro (cl10 ha7 HX7.out.2.2.1) (cl10 ha7 HX7.out.2.2.2))))
  clear ha7
  go_wp2_with (fail)
  refine (get_is b ⟨#[107]⟩ 9 exT (some exE) _ ex_get2 HT7a.out (by decide) HPW.out).mono ?_
  rintro e w8 ⟨rfl, hb⟩
  have HB8 := Lib.hid (HB7a.out.trans hb)
  have HT8 := Lib.hid (HT7a.out.bel hb)
  have HX8 := Lib.hid (And.intro (cl10 hb HX7a.out.1) (And.intro (cl10 hb HX7a.out.2.1) (And.intro (cl10 hb HX7a.out.2.2.1) (cl10 hb HX7a.out.2.2.2))))
  clear hb
  have ha8 := (Bel.refl w8).alloc (.cells #[.string ⟨#[107]⟩, .int .i64 3, .bool false, .string ⟨#[1, 2]⟩] 23)
  have HB8a := Lib.hid (HB8.out.trans ha8)
  have HT8a := Lib.hid (HT8.out.bel ha8)
  have y0 := cl10 ha8 HX8.out.1
  have y1 := cl10 ha8 HX8.out.2.1
  have y2 := cl10 ha8 HX8.out.2.2.1
  have y3 := cl10 ha8 HX8.out.2.2.2
  rw [hX] at y0 y1 y2 y3
  clear ha8
  have HC := Lib.hid ex_cites
  show _
  unfold getV exE
  go_wp2_with (fail)
  refine (tcites_any b exT _ HT8a.out (by decide) HR.out).mono ?_
  rintro e w9 ⟨v, rfl, ho, hb⟩
  rw [HC.out] at ho
  obtain ⟨q, qc, rfl, hat⟩ := ownG_cts ho
  have HB9 := Lib.hid (HB8a.out.trans hb)
  have HT9 := Lib.hid (HT8a.out.bel hb)
  have hal := (Bel.refl w9).alloc (.cells #[.int .i64 1, .int .i64 2, .int .i64 1] 50)
  have HAT := Lib.hid (hat.bel hal)
  have HLT := Lib.hid (cts_lit1 (c := ⟨1, 2, 1⟩) (heap_alloc_new w9 (.cells #[.int .i64 1, .int .i64 2, .int .i64 1] 50)))
  have HB10 := Lib.hid (HB9.out.trans hal)
  have HT10 := Lib.hid (HT9.out.bel hal)
  clear ho hb hat hal y0 y1 y2 y3
  go_wp2_with (fail)
  refine (samecites_at q (some ⟨w9.heap.size, 0, none⟩) _ 1 qc 1 [⟨1, 2, 1⟩] _ HAT.out HLT.out (by decide) rfl rfl).mono ?_
  rintro e w11 ⟨rfl, hd⟩
  have HB11 := Lib.hid (HB10.out.trans hd.bel)
  have HT11 := Lib.hid (HT10.out.bel hd.bel)
  clear hd
  go_wp2_with (fail)
  refine (len10_any b exT w11 HT11.out).mono ?_
  rintro e w12 ⟨rfl, hb⟩
  have HB12 := Lib.hid (HB11.out.trans hb)
  have hl1 : exT.length = 1 := rfl
  rw [hl1]
  go_wp2_with (fail)
  go_ret
  exact ⟨rfl, HB12.out⟩
end Go.Proofs.YtllcdhbchcpdoaaGreatDoor
/- What the statements of chapter 10 share: what a building of standing entries may answer. -/
namespace Go.Proofs.YtllcdhbchcpdoaaGreatDoor
open Go.RowKit Go.Deep

theorem stand_small0 {L : List EB} (hsm : Small10 L) : (standingB L).length ≤ 60 ∧ fitsL (standingB L) ∧ sizesL 100000 (standingB L) ∧ standB (standingB L) = true ∧ (∀ e ∈ standingB L, e.v.size ≤ 2000) ∧ ∀ e ∈ L, e.v.size ≤ 1000000 := by
  have hs := standing_stand L
  have hl := standing_len L
  obtain ⟨hf, hz⟩ := right_fits (stand_right hs)
  refine ⟨by have := hsm.1; omega, hf, hz, hs, fun e he => ?_, fun e he => ?_⟩
  · obtain ⟨i, hi, rfl⟩ := List.mem_iff_getElem.1 (standing_mem he)
    exact (hsm.2 i hi).2
  · obtain ⟨i, hi, rfl⟩ := List.mem_iff_getElem.1 he
    have := (hsm.2 i hi).2
    omega
theorem built_any {M : List EB} (hs : standB M = true) (hl : M.length ≤ 60) : (M = [] ∧ buildT M = ([], 1)) ∨ (M ≠ [] ∧ buildT M = ([], 10)) ∨ (M ≠ [] ∧ rowsErr (rowsOf M) = 0 ∧ buildT M = (fileL M, 0)) := by
  by_cases h0 : M = []
  · exact Or.inl ⟨h0, buildT_arg (Or.inl h0)⟩
  · by_cases he : rowsErr (rowsOf M) = 0
    · exact Or.inr (Or.inr ⟨h0, he, buildT_ok h0 hs (by omega) he⟩)
    · refine Or.inr (Or.inl ⟨h0, ?_⟩)
      rw [buildT_err h0 hs (by omega) he]
      rcases rows_err hs with h | h
      · exact absurd h he
      · rw [h]
theorem same10_at (p q : Option Addr) (n m cap cap' : Nat) (L : List EB) (w : World) (h : EntsAt w p L) (h' : EntsAt w q L) (hL : L.length ≤ 1000000) (hn : n = L.length) (hm : m = L.length) :
    Calls Tryz.prog 26 #[.slice p n cap, .slice q m cap'] w fun e w' => e = .returned (.bool true) ∧ Drw w w' := by
  subst hn hm; exact same10_any p q cap cap' L w h h' hL
end Go.Proofs.YtllcdhbchcpdoaaGreatDoor
