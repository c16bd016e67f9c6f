/- TPBet, laid together. -/
import Derived.Test.YteimllgoelleeaaGreatDoorZ25
import Derived.Shelf.SlicesE.Clone
import Derived.Shelf.Lay
import Derived.Ground.SlgnProg
import Derived.Test.YteimllgoelleeaaGreatDoorZ2
set_option linter.unusedSimpArgs false
set_option linter.unusedVariables false
/- table's atLeast, Between, Cites, Len. -/
namespace Go.Proofs.YteimllgoelleeaaGreatDoor
open Go.RowKit Go.Deep

theorem run_geq (a b : ByteArray) (w : World) : Sem.run Tryz.prog (binOp .geq 9 (.string a) (.string b)) w = .ok (.bool (!Op.bytesLess a.toList b.toList)) w := by simp [binOp, Op.stringOp]
def geB (t : ByteArray) (e : EB) : Bool := !Op.bytesLess e.k.toList t.toList
set_option maxHeartbeats 1000000 in
set_option maxRecDepth 20000 in
theorem atleast1_any (e : EB) (t : ByteArray) (X : Nat) (w : World) (c0 : w.cell? ⟨X, 0, none⟩ = some (.string t)) :
    Calls Tryz.prog 66 (#[.agg #[.string e.k, .int .i64 e.q, .bool e.d, .string e.v]] ++ #[.pointer (some ⟨X, 0, none⟩)]) w fun r w' => r = .returned (.bool (geB t e)) ∧ Bel w w' := by
  have HB := Lib.hid ((Bel.refl w).alloc (.cells #[.string e.k, .int .i64 e.q, .bool e.d, .string e.v] 30))
  have d0 := cl10 HB.out c0
  have hg := fun w => run_geq e.k t w
  clear c0
  show Calls _ _ #[.agg #[.string e.k, .int .i64 e.q, .bool e.d, .string e.v], .pointer (some ⟨X, 0, none⟩)] _ _
  go_enter Tryz.func66, Tryz.ntmps66
  go_wp2_with (fail)
  go_ret
  exact ⟨rfl, HB.out⟩
theorem ge_up {x y : EB} (t : ByteArray) (h : lessB x y = true) : geB t x = true → geB t y = true := by
  intro h1
  unfold geB at h1 ⊢
  have h2 := lessB_key h
  rw [ByteArray.toList_eq, ByteArray.toList_eq] at h1 ⊢
  cases h3 : Op.bytesLess y.k.data.toList t.data.toList with
  | false => rfl
  | true =>
    have := less_le h2 h3
    rw [this] at h1; cases h1
def KeyStop (L : List EB) (t : ByteArray) (i : Nat) : Prop := i ≤ L.length ∧ (∀ j (h : j < L.length), j < i → Op.bytesLess L[j].k.data.toList t.data.toList = true) ∧ ∀ j (h : j < L.length), i ≤ j → Op.bytesLess L[j].k.data.toList t.data.toList = false
set_option maxHeartbeats 1000000 in
set_option maxRecDepth 20000 in
theorem atleast_any (b : Nat) (t : ByteArray) (L : List EB) (w : World) (ht : TabAt w b L) (hL : L.length ≤ 100000) (hp : L.Pairwise (fun a b => lessB a b = true)) :
    Calls Tryz.prog 39 #[.pointer (some ⟨b, 0, none⟩), .string t] w fun e w' => ∃ i : Nat, e = .returned (.int .i64 i) ∧ KeyStop L t i ∧ Bel w w' := by
  obtain ⟨w1, hw1⟩ : ∃ w1, w1 = w.alloc (.cells #[.string t] 9) := ⟨_, rfl⟩
  have b1 : Bel w w1 := by rw [hw1]; exact (Bel.refl w).alloc _
  have c0 : w1.cell? ⟨w.heap.size, 0, none⟩ = some (.string t) := by rw [hw1]; exact (World.cell?_alloc_new ..).trans (by simp)
  have HB1 := Lib.hid b1
  have HF := Lib.hid (first10_any b 66 #[.pointer (some ⟨w.heap.size, 0, none⟩)] (geB t) L w1 (ht.bel b1) (by omega)
    (fun kv x => run_enter8 Tryz.func66 (by kernel_rfl) rfl _ x)
    (fun e x hb => atleast1_any e t w.heap.size x (cl10 hb c0))
    (hp.imp fun {x y} hxy => ge_up t hxy))
  clear ht hp b1 c0
  go_enter Tryz.func39, Tryz.ntmps39
  go_wp2_with (fail)
  rw [← hw1]
  refine HF.out.mono ?_
  rintro e w3 ⟨i, rfl, hs, hb⟩
  have HB3 := Lib.hid (HB1.out.trans hb)
  obtain ⟨hi, hs1, hs2⟩ := hs
  have hA : ∀ j (h : j < L.length), j < i → Op.bytesLess L[j].k.data.toList t.data.toList = true := fun j h hj => by
    have := hs1 j hj
    simp only [List.getElem?_eq_getElem h] at this
    unfold geB at this
    rw [ByteArray.toList_eq, ByteArray.toList_eq] at this
    cases h9 : Op.bytesLess L[j].k.data.toList t.data.toList with
    | true => rfl
    | false => rw [h9] at this; cases this
  have hB : ∀ j (h : j < L.length), i ≤ j → Op.bytesLess L[j].k.data.toList t.data.toList = false := fun j h hj => by
    have := hs2 j hj h
    simp only [List.getElem?_eq_getElem h] at this
    unfold geB at this
    rw [ByteArray.toList_eq, ByteArray.toList_eq] at this
    cases h9 : Op.bytesLess L[j].k.data.toList t.data.toList with
    | false => rfl
    | true => rw [h9] at this; cases this
  have HS := Lib.hid (show KeyStop L t i from ⟨hi, hA, hB⟩)
  clear hA hB
  clear hs1 hs2 hb
  go_wp2_with (fail)
  go_ret
  exact ⟨i, rfl, HS.out, HB3.out⟩
def Tryz.cloneEnt_ren : Go.Shelf.Ren := ⟨fun | 41 => 40 | n => n, fun | 22 => 22 | 23 => 30 | 4 => 4 | n => n, fun | n => n⟩
theorem Tryz.cloneEnt : Go.Proofs.SlLaysE0.n41 Tryz.prog Tryz.cloneEnt_ren := {
  mixed := by kernel_rfl
  f41 := ⟨Tryz.f40.name, by decide, Tryz.func40.trans (congrArg some (by kernel_rfl))⟩
  t4 := Tryz.underlying4
  a4 := Tryz.isAgg4
  z4 := Tryz.sizeOf4
  v4 := Tryz.zeroValue4
  t22 := Tryz.underlying22
  a22 := Tryz.isAgg22
  z22 := Tryz.sizeOf22
  v22 := Tryz.zeroValue22 }
theorem clone_any (g off n c : Nat) (M : List EB) (w : World) (hn : n = M.length) (hM : M.length ≤ 100000) (hc : ∀ j u, (entEl.all M)[j]? = some u → w.cell? ⟨g, off + j, none⟩ = some u) :
    Calls Tryz.prog 40 #[.slice (some ⟨g, off, none⟩) n c] w fun e w' => ∃ v, e = .returned v ∧ OwnG entEl w.heap.size w' v M ∧ Bel w w' := by
  obtain ⟨z, hz, hzc⟩ := entOk.info
  obtain ⟨i0, hi, hz0, hz1, hz2⟩ := info_parts hz
  refine Calls.mono (show Calls Tryz.prog 40 _ _ _ from AnyE.slices_Clone Tryz.cloneEnt i0 z 4 48 hi hz0 hz1 hz2 hzc (by decide) Tryz.sizeOf30 g off n c (entEl.all M) w (by rw [El.all_len entOk, hn]; rfl) (by rw [hn]; unfold maxLen; omega) (by rw [hn]; omega) hc (El.all_one entOk _)) ?_
  rintro e w' ⟨v, rfl, ho, -, hb⟩
  refine ⟨v, rfl, ?_, hb⟩
  unfold OwnG
  rw [hn] at ho
  exact ho
theorem len10_any (b : Nat) (L : List EB) (w : World) (ht : TabAt w b L) :
    Calls Tryz.prog 19 #[.pointer (some ⟨b, 0, none⟩)] w fun e w' => e = .returned (.int .i64 (L.length : Nat)) ∧ Bel w w' := by
  obtain ⟨ge, cap, hcell, -, -, -⟩ := ht
  go_enter Tryz.func19, Tryz.ntmps19
  go_wp2_with (fail)
  go_ret
  exact ⟨rfl, Bel.refl w⟩
set_option maxRecDepth 20000 in
theorem tcites_any (b : Nat) (L : List EB) (w : World) (ht : TabAt w b L) (hL : L.length ≤ 10000) (hr : ∀ e ∈ L, rightB e = true) :
    Calls Tryz.prog 18 #[.pointer (some ⟨b, 0, none⟩)] w fun e w' => ∃ v, e = .returned v ∧ OwnG ctEl w.heap.size w' v (citesB L) ∧ Bel w w' := by
  obtain ⟨ge, cap, hcell, hents, -, -⟩ := ht
  have HC := Lib.hid (pcites_any (some ⟨ge, 0, none⟩) cap L w hents hL hr)
  clear hents hr
  go_enter Tryz.func18, Tryz.ntmps18
  go_wp2_with (fail)
  refine HC.out.mono ?_
  rintro e w1 ⟨v, rfl, ho, hb⟩
  go_wp2_with (fail)
  go_ret
  exact ⟨v, rfl, ho, hb⟩
theorem piece_cells {w : World} {g : Nat} {L : List EB} (h : ∀ j u, (entEl.all L)[j]? = some u → w.cell? ⟨g, j, none⟩ = some u) (b n off : Nat) (hb : b + n ≤ L.length) (ho : 0 < n → off = b * 4) :
    ∀ j u, (entEl.all ((L.drop b).take n))[j]? = some u → w.cell? ⟨g, off + j, none⟩ = some u := by
  intro j u hj
  rw [El.all_take entOk _ _ (by rw [List.length_drop]; omega), El.all_drop entOk _ _ (by omega)] at hj
  have hjm : j < n * entEl.n := by
    rcases Nat.lt_or_ge j (n * entEl.n) with h | h
    · exact h
    · rw [List.getElem?_eq_none (by rw [List.length_take]; omega)] at hj; cases hj
  have hn : entEl.n = 4 := rfl
  rw [List.getElem?_take_of_lt hjm, List.getElem?_drop, hn] at hj
  rw [ho (by rw [hn] at hjm; omega)]
  exact h _ _ hj
set_option maxHeartbeats 2000000 in
set_option maxRecDepth 20000 in
theorem between_any10 (b : Nat) (f t : ByteArray) (L : List EB) (w : World) (ht : TabAt w b L) (hL : L.length ≤ 100000) (hp : L.Pairwise (fun a b => lessB a b = true)) :
    Calls Tryz.prog 16 #[.pointer (some ⟨b, 0, none⟩), .string f, .string t] w fun e w' => ∃ v, e = .returned v ∧ OwnG entEl w.heap.size w' v (betE f.data.toList t.data.toList L) ∧ Bel w w' := by
  have HT := Lib.hid ht
  have HP := Lib.hid hp
  obtain ⟨ge, cap, hcell, -, hcap, -⟩ := ht
  clear hp
  go_enter Tryz.func16, Tryz.ntmps16
  go_wp2_with (fail)
  refine wp_region_held_drew (S := fun z => z.cell? ⟨b, 0, none⟩ = some (.slice (some ⟨ge, 0, none⟩) L.length cap)) (by kernel_rfl) hcell (fun hHeld => ?_)
  refine tk (oi := { dst := some 9, op := Op.move (Operand.tmp 0), type := 37, pos := "table.go:47", after := #[], guard := none }) (v := ?_) 0 rfl ?_ ?_
  rotate_left
  · (intro w hSw; (try dsimp only at hSw); first | (go_simp; done) | (go_simp; with_reducible rfl))
  try simp only [Act.put, List.setIfInBounds_toArray, List.set_cons_zero, List.set_cons_succ]
  refine tk (oi := { dst := some 10, op := Op.move (Operand.tmp 1), type := 9, pos := "table.go:47", after := #[], guard := none }) (v := ?_) 1 rfl ?_ ?_
  rotate_left
  · (intro w hSw; (try dsimp only at hSw); first | (go_simp; done) | (go_simp; with_reducible rfl))
  try simp only [Act.put, List.setIfInBounds_toArray, List.set_cons_zero, List.set_cons_succ]
  refine tk (oi := { dst := some 12, op := Op.move (Operand.tmp 0), type := 37, pos := "table.go:47", after := #[], guard := none }) (v := ?_) 3 rfl ?_ ?_
  rotate_left
  · (intro w hSw; (try dsimp only at hSw); first | (go_simp; done) | (go_simp; with_reducible rfl))
  try simp only [Act.put, List.setIfInBounds_toArray, List.set_cons_zero, List.set_cons_succ]
  refine tk (oi := { dst := some 13, op := Op.nilCheck (Operand.tmp 12), type := 0, pos := "table.go:47", after := #[{ on := 3, ground := Ground.data }], guard := none }) (v := ?_) 4 rfl ?_ ?_
  rotate_left
  · (intro w hSw; (try dsimp only at hSw); first | (go_simp; done) | (go_simp; with_reducible rfl))
  try simp only [Act.put, List.setIfInBounds_toArray, List.set_cons_zero, List.set_cons_succ]
  refine tk (oi := { dst := some 14, op := Op.fieldAddr 93 (Operand.tmp 13) 0, type := 0, pos := "table.go:47", after := #[{ on := 4, ground := Ground.data }], guard := none }) (v := ?_) 5 rfl ?_ ?_
  rotate_left
  · (intro w hSw; (try dsimp only at hSw); first | (go_simp; done) | (go_simp; with_reducible rfl))
  try simp only [Act.put, List.setIfInBounds_toArray, List.set_cons_zero, List.set_cons_succ]
  refine tk (oi := { dst := some 15, op := Op.load 22 (Operand.tmp 14), type := 22, pos := "table.go:47", after := #[{ on := 5, ground := Ground.data }], guard := none }) (v := ?_) 6 rfl ?_ ?_
  rotate_left
  · (intro w hSw; (try dsimp only at hSw); first | (go_simp; done) | (go_simp; with_reducible rfl))
  try simp only [Act.put, List.setIfInBounds_toArray, List.set_cons_zero, List.set_cons_succ]
  refine tk (oi := { dst := some 16, op := Op.call { callee := Callee.builtin Builtin.len, args := #[Operand.tmp 15], argTypes := #[22] }, type := 3, pos := "table.go:47", after := #[{ on := 6, ground := Ground.data }], guard := none }) (v := ?_) 7 rfl ?_ ?_
  rotate_left
  · (intro w hSw; (try dsimp only at hSw); first | (go_simp; done) | (go_simp; with_reducible rfl))
  try simp only [Act.put, List.setIfInBounds_toArray, List.set_cons_zero, List.set_cons_succ]
  refine wpAnyH_ready (rs := [2]) (by kernel_rfl) (by simp) ?_
  refine AllReadyH.cons (o := { dst := some 11, op := Op.call { callee := Callee.value (Operand.func 39), args := #[Operand.tmp 9, Operand.tmp 10], argTypes := #[37, 9] }, type := 3, pos := "table.go:47", after := #[{ on := 0, ground := Ground.data }, { on := 1, ground := Ground.data }], guard := none }) rfl (fun K hK => ?_) AllReadyH.nil
  go_simp
  refine (atleast_any b f L w.drew (HT.out.bel (Bel.refl w).drew) hL HP.out).mono ?_
  rintro r w2 ⟨i, rfl, hs, hb⟩
  have HS := Lib.hid hs
  have HB2 := Lib.hid ((Bel.refl w).drew.trans hb)
  dsimp only
  refine hK.out _ _ (cl10 hb hHeld) (fun hHeld => ?_)
  clear hK K hb hs
  try simp only [Act.put, List.setIfInBounds_toArray, List.set_cons_zero, List.set_cons_succ]
  refine tk (oi := { dst := some 7, op := Op.assign (Operand.tmp 11), type := 3, pos := "table.go:47", after := #[{ on := 2, ground := Ground.data }, { on := 2, ground := Ground.chain }, { on := 0, ground := Ground.phase }, { on := 1, ground := Ground.phase }, { on := 2, ground := Ground.phase }, { on := 3, ground := Ground.textOnly Departure.lateStores }, { on := 4, ground := Ground.textOnly Departure.lateStores }, { on := 5, ground := Ground.textOnly Departure.lateStores }, { on := 6, ground := Ground.textOnly Departure.lateStores }, { on := 7, ground := Ground.textOnly Departure.lateStoresUnsure }], guard := none }) (v := ?_) 8 rfl ?_ ?_
  rotate_left
  · (intro w hSw; (try dsimp only at hSw); first | (go_simp; done) | (go_simp; with_reducible rfl))
  try simp only [Act.put, List.setIfInBounds_toArray, List.set_cons_zero, List.set_cons_succ]
  refine tk (oi := { dst := some 8, op := Op.assign (Operand.tmp 16), type := 3, pos := "table.go:47", after := #[{ on := 7, ground := Ground.data }, { on := 8, ground := Ground.chain }, { on := 0, ground := Ground.phase }, { on := 1, ground := Ground.phase }, { on := 2, ground := Ground.phase }, { on := 3, ground := Ground.phase }, { on := 4, ground := Ground.phase }, { on := 5, ground := Ground.phase }, { on := 6, ground := Ground.phase }, { on := 7, ground := Ground.phase }, { on := 8, ground := Ground.phase }], guard := none }) (v := ?_) 9 rfl ?_ ?_
  rotate_left
  · (intro w hSw; (try dsimp only at hSw); first | (go_simp; done) | (go_simp; with_reducible rfl))
  try simp only [Act.put, List.setIfInBounds_toArray, List.set_cons_zero, List.set_cons_succ]
  refine wpAnyH_done (by kernel_rfl) ?_ _
  have HB2T := Lib.hid (HT.out.bel HB2.out)
  have hiL := HS.out.1
  clear hcell
  by_cases h0 : t.data.toList = []
  · have hte : t = ⟨#[]⟩ := ba_ext h0
    subst hte
    clear h0
    have HBE := Lib.hid (bet_at (L := L) f ⟨#[]⟩ i L.length hiL (Nat.le_refl _) HS.out.2.1 HS.out.2.2 (Or.inl ⟨rfl, rfl⟩))
    have hself : ((⟨#[]⟩ : ByteArray).toList == (⟨#[]⟩ : ByteArray).toList) = true := beq_self_eq_true _
    obtain ⟨ge', cap', hc9, -, -, hcells⟩ := HB2T.out
    rw [hHeld] at hc9
    cases hc9
    have hiLi : (i : Int) ≤ (L.length : Int) := by omega
    have hLc : (L.length : Int) ≤ (cap : Int) := by omega
    have hic : (i : Int) ≤ (cap : Int) := by omega
    obtain ⟨m, hm⟩ : ∃ m, m = max i (L.length) := ⟨_, rfl⟩
    have hmi : max (i : Int) ((L.length : Nat) : Int) = (m : Int) := by omega
    have him : (i : Int) ≤ (m : Int) := by omega
    have hmc : (m : Int) ≤ (cap : Int) := by omega
    have hmL : m ≤ L.length := by omega
    have him' : i ≤ m := by omega
    rw [← hm] at HBE
    obtain ⟨M, hM⟩ : ∃ M, M = (L.drop i).take (m - i) := ⟨_, rfl⟩
    have hMl : m - i = M.length := by rw [hM, List.length_take, List.length_drop]; omega
    have HMC := Lib.hid (show ∀ off, (0 < m - i → off = i * 4) → ∀ j u, (entEl.all M)[j]? = some u → w2.cell? ⟨ge, off + j, none⟩ = some u from fun off ho => by
      rw [hM]; exact piece_cells hcells i (m - i) off (by omega) ho)
    rw [← hM] at HBE
    have HML := Lib.hid hMl
    have hMz : M.length ≤ 100000 := by omega
    have HM := Lib.hid hm
    clear hM hMl hm
    by_cases hci : i < cap
    · have hcn : ¬ cap = i := by omega
      go_wp2_with (fail)
      refine (clone_any ge _ _ _ M _ HML.out hMz (HMC.out _ (fun _ => rfl))).mono ?_
      rintro r w5 ⟨v, rfl, ho, hb⟩
      have HO := Lib.hid (own_low ho HB2.out.size)
      have HB5 := Lib.hid (HB2.out.trans hb)
      clear ho hb
      go_wp2_with (fail)
      go_ret
      exact ⟨v, rfl, by rw [HBE.out]; exact HO.out, HB5.out⟩
    · have hmi2 : m = i := by omega
      have hci2 : cap = i := by omega
      subst hci2
      have hM0 := HML.out
      rw [hmi2, Nat.sub_self] at hM0
      have HM0 := Lib.hid hM0
      rw [hmi2] at HMC hmi him hmc
      clear hM0 hmi2 him' hmL
      go_wp2_with (fail)
      refine (clone_any ge _ _ _ M _ (by rw [← HM0.out]) hMz (HMC.out _ (fun h => by omega))).mono ?_
      rintro r w5 ⟨v, rfl, ho, hb⟩
      have HO := Lib.hid (own_low ho HB2.out.size)
      have HB5 := Lib.hid (HB2.out.trans hb)
      clear ho hb
      go_wp2_with (fail)
      go_ret
      exact ⟨v, rfl, by rw [HBE.out]; exact HO.out, HB5.out⟩
  · have hne : (t.toList == []) = false := by
      rw [ByteArray.toList_eq, beq_eq_false_iff_ne]; exact h0
    have H0 := Lib.hid h0
    clear h0
    go_wp2_with (fail)
    refine (atleast_any b t L w2 HB2T.out hL HP.out).mono ?_
    rintro r w3 ⟨e, rfl, hs, hb⟩
    have HB3 := Lib.hid (HB2.out.trans hb)
    have HSE := Lib.hid hs
    have heL := hs.1
    have hH3 := cl10 hb hHeld
    obtain ⟨ge', cap', hc9, -, -, hcells⟩ := HB2T.out.bel hb
    rw [hH3] at hc9
    cases hc9
    have HBE := Lib.hid (bet_at (L := L) f t i e hiL heL HS.out.2.1 HS.out.2.2 (Or.inr ⟨H0.out, HSE.out.2.1, HSE.out.2.2⟩))
    clear hs hb hHeld
    have hiLi : (i : Int) ≤ (L.length : Int) := by omega
    have hLc : (L.length : Int) ≤ (cap : Int) := by omega
    have hic : (i : Int) ≤ (cap : Int) := by omega
    obtain ⟨m, hm⟩ : ∃ m, m = max i (e) := ⟨_, rfl⟩
    have hmi : max (i : Int) ((e : Nat) : Int) = (m : Int) := by omega
    have him : (i : Int) ≤ (m : Int) := by omega
    have hmc : (m : Int) ≤ (cap : Int) := by omega
    have hmL : m ≤ L.length := by omega
    have him' : i ≤ m := by omega
    rw [← hm] at HBE
    obtain ⟨M, hM⟩ : ∃ M, M = (L.drop i).take (m - i) := ⟨_, rfl⟩
    have hMl : m - i = M.length := by rw [hM, List.length_take, List.length_drop]; omega
    have HMC := Lib.hid (show ∀ off, (0 < m - i → off = i * 4) → ∀ j u, (entEl.all M)[j]? = some u → w3.cell? ⟨ge, off + j, none⟩ = some u from fun off ho => by
      rw [hM]; exact piece_cells hcells i (m - i) off (by omega) ho)
    rw [← hM] at HBE
    have HML := Lib.hid hMl
    have hMz : M.length ≤ 100000 := by omega
    have HM := Lib.hid hm
    clear hM hMl hm
    by_cases hci : i < cap
    · have hcn : ¬ cap = i := by omega
      go_wp2_with (fail)
      refine (clone_any ge _ _ _ M _ HML.out hMz (HMC.out _ (fun _ => rfl))).mono ?_
      rintro r w5 ⟨v, rfl, ho, hb⟩
      have HO := Lib.hid (own_low ho HB3.out.size)
      have HB5 := Lib.hid (HB3.out.trans hb)
      clear ho hb
      go_wp2_with (fail)
      go_ret
      exact ⟨v, rfl, by rw [HBE.out]; exact HO.out, HB5.out⟩
    · have hmi2 : m = i := by omega
      have hci2 : cap = i := by omega
      subst hci2
      have hM0 := HML.out
      rw [hmi2, Nat.sub_self] at hM0
      have HM0 := Lib.hid hM0
      rw [hmi2] at HMC hmi him hmc
      clear hM0 hmi2 him' hmL
      go_wp2_with (fail)
      refine (clone_any ge _ _ _ M _ (by rw [← HM0.out]) hMz (HMC.out _ (fun h => by omega))).mono ?_
      rintro r w5 ⟨v, rfl, ho, hb⟩
      have HO := Lib.hid (own_low ho HB3.out.size)
      have HB5 := Lib.hid (HB3.out.trans hb)
      clear ho hb
      go_wp2_with (fail)
      go_ret
      exact ⟨v, rfl, by rw [HBE.out]; exact HO.out, HB5.out⟩
end Go.Proofs.YteimllgoelleeaaGreatDoor
