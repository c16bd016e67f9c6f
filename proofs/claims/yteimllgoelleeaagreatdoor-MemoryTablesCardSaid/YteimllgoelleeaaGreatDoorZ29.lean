/- MSeqC, MPCit, MProg, laid together. -/
import Derived.Test.YteimllgoelleeaaGreatDoorZ28
import Derived.Test.YteimllgoelleeaaGreatDoorZ11
set_option linter.unusedSimpArgs false
set_option linter.unusedVariables false
/- A tree of cites: from: a value that tells a loop, in order, all that are not less than a given one. -/
set_option maxRecDepth 100000
namespace Go.Proofs.YteimllgoelleeaaGreatDoor
open Go.RowKit Go.Shelf

attribute [local go_sem] Oper.semAt_some

theorem grown_of_bel11C {W W' : World} (h : Bel W W') : W.grownBy W' none := ⟨h.os, h.tape, h.output, h.size, fun k hk _ => h.block k hk⟩
theorem room11C (k : Nat) : Fence.wide.room k := fun d h => by cases h
theorem YieldAt.any11C {m : Nat} (m' : Nat) {P : Program} {l : Nat} {args : Array Value} {W : World} {R : Ending → World → Prop} (h : YieldAt Fence.wide m P l args W R) : YieldAt Fence.wide m' P l args W R := by
  obtain ⟨fn, tmps, assign, body, hy, hR⟩ := h
  exact ⟨fn, tmps, assign, body, hy, ⟨hR.1, fun c cs _ => hR.2 c cs (room11C _)⟩⟩
set_option maxHeartbeats 1000000 in
theorem fromC_in (n b : Nat) (c : CT) (w : World) :
    CallsIn Fence.wide n Tryz.prog 31 #[.pointer (some ⟨b, 0, none⟩), .agg #[.int .i64 (c.t : Int), .int .i64 (c.v : Int), .int .i64 (c.n : Int)]] w fun e w' => e = .returned (.func (.func 58) #[] #[.pointer (some ⟨w.heap.size, 0, none⟩), .pointer (some ⟨w.heap.size + 1, 0, none⟩)]) ∧
      w' = (w.alloc (.cells #[.pointer (some ⟨b, 0, none⟩)] 122)).alloc (.cells #[.int .i64 (c.t : Int), .int .i64 (c.v : Int), .int .i64 (c.n : Int)] 82) := by
  refine callsIn_of_wp Tryz.func31 rfl trivial ?_ rfl
  simp only [Tryz.ntmps31, List.size_toArray, List.length_cons, List.length_nil, Nat.reduceAdd, Nat.reduceSub, Array.replicate_succ, Array.replicate_zero, List.push_toArray, List.append_toArray, List.nil_append, List.cons_append]
  gi_wp2
  go_ret
  exact ⟨rfl, rfl⟩
set_option maxHeartbeats 4000000 in
theorem from1C_in (n : Nat) (l B1 B2 b n₀ : Nat) (c : CT) (t : TT CT) (P : CT → Prop) (hPt : ∀ x ∈ t.flat, P x) (J Jx : List CT → World → Prop)
    (hJ : ∀ pre W W', J pre W → Bel W W' → J pre W')
    (hY : ∀ pre x W, P x → J pre W → pre.length < (geLC c t).length → YieldAt Fence.wide (n - 1) Tryz.prog l #[.agg #[.int .i64 (x.t : Int), .int .i64 (x.v : Int), .int .i64 (x.n : Int)]] W fun e W' => (e = .returned (.bool true) ∧ J (pre ++ [x]) W' ∧ KeepTC n₀ W W') ∨ (e = .returned (.bool false) ∧ Jx (pre ++ [x]) W'))
    (W : World) (h1 : W.heap[B1]? = some (.cells #[.pointer (some ⟨b, 0, none⟩)] 122 (0, 0))) (h2 : W.heap[B2]? = some (.cells #[.int .i64 (c.t : Int), .int .i64 (c.v : Int), .int .i64 (c.n : Int)] 82 (0, 0)))
    (hr : W.cell? ⟨b, 0, none⟩ = some (.pointer t.ptr)) (hT : TAt NC W t) (hlow : ∀ k ∈ t.bs, k < n₀) (hsz : n₀ ≤ W.heap.size) (hp : t.nodes.Pairwise (fun p q => ltC p.2 q.2 = true)) (h0 : J [] W) :
    CallsIn Fence.wide n Tryz.prog 58 #[.func (.yield l) #[] #[], .pointer (some ⟨B1, 0, none⟩), .pointer (some ⟨B2, 0, none⟩)] W fun e W' => (∃ v, e = .returned v) ∧
      ((∃ ys, ys = geLC c t ∧ J ys W') ∨ (∃ pre, pre <+: geLC c t ∧ Jx pre W')) := by
  have c0 : W.cell? ⟨B1, 0, none⟩ = some (.pointer (some ⟨b, 0, none⟩)) := (tblk_cell h1 0).trans rfl
  have e0 : W.cell? ⟨B2, 0, none⟩ = some (.int .i64 (c.t : Int)) := (tblk_cell h2 0).trans rfl
  have e1 : W.cell? ⟨B2, 1, none⟩ = some (.int .i64 (c.v : Int)) := (tblk_cell h2 1).trans rfl
  have e2 : W.cell? ⟨B2, 2, none⟩ = some (.int .i64 (c.n : Int)) := (tblk_cell h2 2).trans rfl
  have C0 := Lib.hid (eachC_in l n₀ (geLC c t).length c P J Jx hJ (fun m pre x W hp hj hl => YieldAt.any11C m (hY pre x W hp hj hl)) t (n - 1) [] W.drew (hT.bel (Bel.refl W).drew) hlow hsz hp (hJ [] W W.drew h0 (Bel.refl W).drew) (by simp) hPt)
  clear hPt h1 h2 hT hlow hp h0 hJ hY
  refine callsIn_of_wp Tryz.func58 rfl trivial ?_ rfl
  simp only [Tryz.ntmps58, List.size_toArray, List.length_cons, List.length_nil, Nat.reduceAdd, Nat.reduceSub, Array.replicate_succ, Array.replicate_zero, List.push_toArray, List.append_toArray, List.nil_append, List.cons_append]
  gi_wp2
  refine wpIn_region_any (by kernel_rfl) ?_
  change wpAnyIn _ _ _ _ _ _ _ _ _ (World.drew _)
  refine wpAnyIn_take (i := 5) (oi := { dst := some 9, op := Op.move (Operand.tmp 0), type := 127, pos := "tree.go:87", after := #[], guard := none }) (v := ?_) rfl rfl (by kernel_rfl) (by kernel_rfl) (by kernel_rfl) (fun _ _ _ h => h) ⟨Or.inl ⟨by rfl, ?_⟩, fun _ => rfl⟩ ?_
  rotate_left
  · (intro w; first | (go_simp; done) | (go_simp; with_reducible rfl))
  try simp only [Act.put, List.setIfInBounds_toArray, List.set_cons_zero, List.set_cons_succ]
  refine wpAnyIn_ready (rs := [0, 4]) (by kernel_rfl) (by simp) ?_
  refine (AllReadyIn.cons (o := { dst := some 4, op := Op.load 122 (Operand.tmp 1), type := 122, pos := "tree.go:87", after := #[], guard := none }) rfl (fun K hK => ?_) (AllReadyIn.cons (o := { dst := some 8, op := Op.load 82 (Operand.tmp 2), type := 82, pos := "tree.go:87", after := #[], guard := none }) rfl (fun K hK => ?_) AllReadyIn.nil))
  · go_simp
    refine hK _ _ ?_
    clear hK K
    try simp only [Act.put, List.setIfInBounds_toArray, List.set_cons_zero, List.set_cons_succ]
    refine wpAnyIn_take (i := 1) (oi := { dst := some 5, op := Op.nilCheck (Operand.tmp 4), type := 0, pos := "tree.go:87", after := #[{ on := 0, ground := Ground.data }], guard := none }) (v := ?_) rfl rfl (by kernel_rfl) (by kernel_rfl) (by kernel_rfl) (fun _ _ _ h => h) ⟨Or.inl ⟨by rfl, ?_⟩, fun _ => rfl⟩ ?_
    rotate_left
    · (intro w; first | (go_simp; done) | (go_simp; with_reducible rfl))
    try simp only [Act.put, List.setIfInBounds_toArray, List.set_cons_zero, List.set_cons_succ]
    refine wpAnyIn_take (i := 2) (oi := { dst := some 6, op := Op.fieldAddr 75 (Operand.tmp 5) 0, type := 0, pos := "tree.go:87", after := #[{ on := 1, ground := Ground.data }], guard := none }) (v := ?_) rfl rfl (by kernel_rfl) (by kernel_rfl) (by kernel_rfl) (fun _ _ _ h => h) ⟨Or.inl ⟨by rfl, ?_⟩, fun _ => rfl⟩ ?_
    rotate_left
    · (intro w; first | (go_simp; done) | (go_simp; with_reducible rfl))
    try simp only [Act.put, List.setIfInBounds_toArray, List.set_cons_zero, List.set_cons_succ]
    refine wpAnyIn_ready (rs := [3, 4]) (by kernel_rfl) (by simp) ?_
    refine (AllReadyIn.cons (o := { dst := some 7, op := Op.load 73 (Operand.tmp 6), type := 73, pos := "tree.go:87", after := #[{ on := 2, ground := Ground.data }], guard := none }) rfl (fun K hK => ?_) (AllReadyIn.cons (o := { dst := some 8, op := Op.load 82 (Operand.tmp 2), type := 82, pos := "tree.go:87", after := #[], guard := none }) rfl (fun K hK => ?_) AllReadyIn.nil))
    · go_simp
      refine hK _ _ ?_
      clear hK K
      try simp only [Act.put, List.setIfInBounds_toArray, List.set_cons_zero, List.set_cons_succ]
      refine wpAnyIn_ready (rs := [4]) (by kernel_rfl) (by simp) ?_
      refine (AllReadyIn.cons (o := { dst := some 8, op := Op.load 82 (Operand.tmp 2), type := 82, pos := "tree.go:87", after := #[], guard := none }) rfl (fun K hK => ?_) AllReadyIn.nil)
      go_simp
      refine hK _ _ ?_
      clear hK K
      try simp only [Act.put, List.setIfInBounds_toArray, List.set_cons_zero, List.set_cons_succ]
      refine wpAnyIn_ready (rs := [6]) (by kernel_rfl) (by simp) ?_
      refine (AllReadyIn.cons (o := { dst := some 10, op := Op.call { callee := Callee.value (Operand.func 59), args := #[Operand.tmp 7, Operand.tmp 8, Operand.tmp 9], argTypes := #[73, 82, 127] }, type := 4, pos := "tree.go:87", after := #[{ on := 3, ground := Ground.data }, { on := 4, ground := Ground.data }, { on := 5, ground := Ground.data }], guard := none }) rfl (fun K hK => ?_) AllReadyIn.nil)
      go_simp
      refine ⟨trivial, fun h => (by cases h), ?_⟩
      refine C0.out.mono ?_
      rintro r2 W2 (⟨rfl, hJ2, hk2⟩ | ⟨rfl, q, hq, hx2⟩)
      · dsimp only
        refine hK _ _ ?_
        clear hK K
        try simp only [Act.put, List.setIfInBounds_toArray, List.set_cons_zero, List.set_cons_succ]
        refine wpAnyIn_done (by kernel_rfl) ?_ _
        have HX := Lib.hid hJ2
        clear hJ2 hk2
        gi_wp2
        go_end0
        exact ⟨⟨_, rfl⟩, .inl ⟨_, rfl, by simpa using HX.out⟩⟩
      · dsimp only
        refine hK _ _ ?_
        clear hK K
        try simp only [Act.put, List.setIfInBounds_toArray, List.set_cons_zero, List.set_cons_succ]
        refine wpAnyIn_done (by kernel_rfl) ?_ _
        have HX := Lib.hid (And.intro hq hx2)
        clear hq hx2
        gi_wp2
        go_end0
        exact ⟨⟨_, rfl⟩, .inr ⟨q, HX.out.1, by simpa using HX.out.2⟩⟩
    · go_simp
      refine hK _ _ ?_
      clear hK K
      try simp only [Act.put, List.setIfInBounds_toArray, List.set_cons_zero, List.set_cons_succ]
      refine wpAnyIn_ready (rs := [3]) (by kernel_rfl) (by simp) ?_
      refine (AllReadyIn.cons (o := { dst := some 7, op := Op.load 73 (Operand.tmp 6), type := 73, pos := "tree.go:87", after := #[{ on := 2, ground := Ground.data }], guard := none }) rfl (fun K hK => ?_) AllReadyIn.nil)
      go_simp
      refine hK _ _ ?_
      clear hK K
      try simp only [Act.put, List.setIfInBounds_toArray, List.set_cons_zero, List.set_cons_succ]
      refine wpAnyIn_ready (rs := [6]) (by kernel_rfl) (by simp) ?_
      refine (AllReadyIn.cons (o := { dst := some 10, op := Op.call { callee := Callee.value (Operand.func 59), args := #[Operand.tmp 7, Operand.tmp 8, Operand.tmp 9], argTypes := #[73, 82, 127] }, type := 4, pos := "tree.go:87", after := #[{ on := 3, ground := Ground.data }, { on := 4, ground := Ground.data }, { on := 5, ground := Ground.data }], guard := none }) rfl (fun K hK => ?_) AllReadyIn.nil)
      go_simp
      refine ⟨trivial, fun h => (by cases h), ?_⟩
      refine C0.out.mono ?_
      rintro r2 W2 (⟨rfl, hJ2, hk2⟩ | ⟨rfl, q, hq, hx2⟩)
      · dsimp only
        refine hK _ _ ?_
        clear hK K
        try simp only [Act.put, List.setIfInBounds_toArray, List.set_cons_zero, List.set_cons_succ]
        refine wpAnyIn_done (by kernel_rfl) ?_ _
        have HX := Lib.hid hJ2
        clear hJ2 hk2
        gi_wp2
        go_end0
        exact ⟨⟨_, rfl⟩, .inl ⟨_, rfl, by simpa using HX.out⟩⟩
      · dsimp only
        refine hK _ _ ?_
        clear hK K
        try simp only [Act.put, List.setIfInBounds_toArray, List.set_cons_zero, List.set_cons_succ]
        refine wpAnyIn_done (by kernel_rfl) ?_ _
        have HX := Lib.hid (And.intro hq hx2)
        clear hq hx2
        gi_wp2
        go_end0
        exact ⟨⟨_, rfl⟩, .inr ⟨q, HX.out.1, by simpa using HX.out.2⟩⟩
  · go_simp
    refine hK _ _ ?_
    clear hK K
    try simp only [Act.put, List.setIfInBounds_toArray, List.set_cons_zero, List.set_cons_succ]
    refine wpAnyIn_ready (rs := [0]) (by kernel_rfl) (by simp) ?_
    refine (AllReadyIn.cons (o := { dst := some 4, op := Op.load 122 (Operand.tmp 1), type := 122, pos := "tree.go:87", after := #[], guard := none }) rfl (fun K hK => ?_) AllReadyIn.nil)
    go_simp
    refine hK _ _ ?_
    clear hK K
    try simp only [Act.put, List.setIfInBounds_toArray, List.set_cons_zero, List.set_cons_succ]
    refine wpAnyIn_take (i := 1) (oi := { dst := some 5, op := Op.nilCheck (Operand.tmp 4), type := 0, pos := "tree.go:87", after := #[{ on := 0, ground := Ground.data }], guard := none }) (v := ?_) rfl rfl (by kernel_rfl) (by kernel_rfl) (by kernel_rfl) (fun _ _ _ h => h) ⟨Or.inl ⟨by rfl, ?_⟩, fun _ => rfl⟩ ?_
    rotate_left
    · (intro w; first | (go_simp; done) | (go_simp; with_reducible rfl))
    try simp only [Act.put, List.setIfInBounds_toArray, List.set_cons_zero, List.set_cons_succ]
    refine wpAnyIn_take (i := 2) (oi := { dst := some 6, op := Op.fieldAddr 75 (Operand.tmp 5) 0, type := 0, pos := "tree.go:87", after := #[{ on := 1, ground := Ground.data }], guard := none }) (v := ?_) rfl rfl (by kernel_rfl) (by kernel_rfl) (by kernel_rfl) (fun _ _ _ h => h) ⟨Or.inl ⟨by rfl, ?_⟩, fun _ => rfl⟩ ?_
    rotate_left
    · (intro w; first | (go_simp; done) | (go_simp; with_reducible rfl))
    try simp only [Act.put, List.setIfInBounds_toArray, List.set_cons_zero, List.set_cons_succ]
    refine wpAnyIn_ready (rs := [3]) (by kernel_rfl) (by simp) ?_
    refine (AllReadyIn.cons (o := { dst := some 7, op := Op.load 73 (Operand.tmp 6), type := 73, pos := "tree.go:87", after := #[{ on := 2, ground := Ground.data }], guard := none }) rfl (fun K hK => ?_) AllReadyIn.nil)
    go_simp
    refine hK _ _ ?_
    clear hK K
    try simp only [Act.put, List.setIfInBounds_toArray, List.set_cons_zero, List.set_cons_succ]
    refine wpAnyIn_ready (rs := [6]) (by kernel_rfl) (by simp) ?_
    refine (AllReadyIn.cons (o := { dst := some 10, op := Op.call { callee := Callee.value (Operand.func 59), args := #[Operand.tmp 7, Operand.tmp 8, Operand.tmp 9], argTypes := #[73, 82, 127] }, type := 4, pos := "tree.go:87", after := #[{ on := 3, ground := Ground.data }, { on := 4, ground := Ground.data }, { on := 5, ground := Ground.data }], guard := none }) rfl (fun K hK => ?_) AllReadyIn.nil)
    go_simp
    refine ⟨trivial, fun h => (by cases h), ?_⟩
    refine C0.out.mono ?_
    rintro r2 W2 (⟨rfl, hJ2, hk2⟩ | ⟨rfl, q, hq, hx2⟩)
    · dsimp only
      refine hK _ _ ?_
      clear hK K
      try simp only [Act.put, List.setIfInBounds_toArray, List.set_cons_zero, List.set_cons_succ]
      refine wpAnyIn_done (by kernel_rfl) ?_ _
      have HX := Lib.hid hJ2
      clear hJ2 hk2
      gi_wp2
      go_end0
      exact ⟨⟨_, rfl⟩, .inl ⟨_, rfl, by simpa using HX.out⟩⟩
    · dsimp only
      refine hK _ _ ?_
      clear hK K
      try simp only [Act.put, List.setIfInBounds_toArray, List.set_cons_zero, List.set_cons_succ]
      refine wpAnyIn_done (by kernel_rfl) ?_ _
      have HX := Lib.hid (And.intro hq hx2)
      clear hq hx2
      gi_wp2
      go_end0
      exact ⟨⟨_, rfl⟩, .inr ⟨q, HX.out.1, by simpa using HX.out.2⟩⟩
theorem fromC_stops (n B1 B2 b n₀ : Nat) (c : CT) (t : TT CT) (w : World) (h1 : w.heap[B1]? = some (.cells #[.pointer (some ⟨b, 0, none⟩)] 122 (0, 0))) (h2 : w.heap[B2]? = some (.cells #[.int .i64 (c.t : Int), .int .i64 (c.v : Int), .int .i64 (c.n : Int)] 82 (0, 0)))
    (hr : w.cell? ⟨b, 0, none⟩ = some (.pointer t.ptr)) (hT : TAt NC w t) (hlow : ∀ k ∈ t.bs, k < n₀) (hsz : n₀ ≤ w.heap.size) (hp : t.nodes.Pairwise (fun p q => ltC p.2 q.2 = true)) :
    SeqStopsK Fence.wide n Tryz.prog 58 #[.pointer (some ⟨B1, 0, none⟩), .pointer (some ⟨B2, 0, none⟩)] (fun x : CT => #[.agg #[.int .i64 (x.t : Int), .int .i64 (x.v : Int), .int .i64 (x.n : Int)]]) (KeepTC n₀) (fun ys => ys = geLC c t) (fun pre => pre <+: geLC c t) (geLC c t).length w := fun l J Jx W hW hJ _ hY h0 =>
  from1C_in n l B1 B2 b n₀ c t (fun _ => True) (fun _ _ => trivial) J Jx (fun pre A B h hb => hJ pre A B none h (grown_of_bel11C hb) (fun r e => by cases e)) (fun pre x W _ => hY pre x W) W ((Keep.of_bel hW []).at h1 (by simp)) ((Keep.of_bel hW []).at h2 (by simp)) (cell_later hW hr) (hT.bel hW) hlow (Nat.le_trans hsz (Bel.size hW)) hp h0
end Go.Proofs.YteimllgoelleeaaGreatDoor
/- The program's memory: Cites: a loop over all entries that counts, and one over the counts. -/
set_option maxRecDepth 100000
namespace Go.Proofs.YteimllgoelleeaaGreatDoor
open Go.RowKit Go.Shelf

attribute [local go_sem] Oper.semAt_some

theorem keep_others {W X : World} {G : List Nat} (h : Keep G W X) (hG : ∀ k ∈ G, Cel W k) : KeepsOthers W X :=
  ⟨h.size, fun k o hk ho => h.at hk (fun hm => by
    obtain ⟨ca, ta, hc⟩ := hG k hm
    rw [hc] at hk; cases hk; cases ho)⟩
theorem keep_typed {W X : World} {G : List Nat} {T : TypeId} (h : Keep G W X) (hG : ∀ k ∈ G, ∃ ca ta, W.heap[k]? = some (.cells ca ta (0, 0)) ∧ ta ≠ T) {b : Nat} {cs : Array Value} (hb : W.heap[b]? = some (Obj.cells cs T (0, 0))) : X.heap[b]? = some (.cells cs T (0, 0)) :=
  h.at hb (fun hm => by
    obtain ⟨ca, ta, hc, ht⟩ := hG b hm
    rw [hc] at hb; cases hb; exact ht rfl)
theorem TAt.typed {α : Type} {E : NL α} {w : World} {t : TT α} {k : Nat} (h : TAt E w t) (hk : k ∈ t.bs) : ∃ ca, w.heap[k]? = some (.cells ca E.T (0, 0)) := by
  unfold TT.bs at hk
  obtain ⟨⟨g, y⟩, hm, rfl⟩ := List.mem_map.1 hk
  obtain ⟨v, p, q, hh⟩ := h.look hm
  exact ⟨_, hh⟩
theorem cB_own (B0 n₀ m : Nat) (L : List CT) : Go.Own (fun (_ : Unit) W => CB B0 n₀ m L W) := fun s X Y row ⟨u, n, h1, h2, h3, h4, h5, h6, h7, h8, h9, h10⟩ hg hr =>
  ⟨u, n, at_own h1 hg hr, h2.grown hg (fun k hk e => by
    obtain ⟨ca, hc⟩ := h2.typed hk
    obtain ⟨o, ho, hoc⟩ := hr k e.symm
    rw [hc] at ho; cases ho; cases hoc), h3, h4, h5, h6, h7, h8, h9, h10⟩
abbrev RE := {x : EB // rightB x = true}
theorem right_cite {x : EB} (h : rightB x = true) : citeE x = citeL x.v.data.toList ∧ x.v.size ≤ 25000 := by
  have hv : x.v.size ≤ 25000 := by
    unfold rightB at h
    rw [Bool.and_eq_true, Bool.and_eq_true, Bool.and_eq_true, Bool.and_eq_true, decide_eq_true_iff, decide_eq_true_iff, decide_eq_true_iff, decide_eq_true_iff] at h
    exact h.1.2
  refine ⟨?_, hv⟩
  unfold citeE
  cases hd : x.d with
  | false => rfl
  | true => rw [right_dead h hd]; rfl
def citR (pre : List RE) : List CT := citesB (pre.map Subtype.val)
theorem citR_none {pre : List RE} {x : RE} (h : citeL x.1.v.data.toList = none) : citR (pre ++ [x]) = citR pre := by
  unfold citR
  rw [List.map_append, List.map_cons, List.map_nil, cites_snoc]
  unfold stepC
  rw [(right_cite x.2).1, h]
theorem citR_some {pre : List RE} {x : RE} {a b : Nat} (h : citeL x.1.v.data.toList = some (a, b)) : citR (pre ++ [x]) = addC a b (citR pre) := by
  unfold citR
  rw [List.map_append, List.map_cons, List.map_nil, cites_snoc]
  unfold stepC
  rw [(right_cite x.2).1, h]
theorem all_geL {t : TT EB} {C : List EB} (h : t.flat = C) (hC : fitsL C) : geLE (headE ⟨#[]⟩) t = C := by
  rw [geL_flat _ h, List.filter_eq_self]
  intro x hx
  obtain ⟨a1, a2, a3, a4⟩ := hC x hx
  unfold lessB headE
  have e1 : Op.bytesLess x.k.data.toList (⟨#[]⟩ : ByteArray).data.toList = false := by
    show Op.bytesLess x.k.data.toList [] = false
    cases x.k.data.toList <;> rfl
  have : ¬ (9223372036854775807 : Int) < x.q := by omega
  simp only [e1, decide_eq_false this, Bool.and_false, Bool.or_false, Bool.not_false]
theorem cb11_zero (w : World) (n₀ : Nat) (h : n₀ ≤ w.heap.size) : CB w.heap.size n₀ 0 [] (w.alloc (.cells #[.pointer none, .int .i64 0] 75)) :=
  ⟨.nil, 0, tnew _ _, trivial, List.nodup_nil, by simp [TT.bs, TT.nodes], by simp [TT.bs, TT.nodes], List.Pairwise.nil, rfl, fun c hc => by simp at hc, by omega, by simp⟩
theorem CB.keep {B0 n₀ m : Nat} {L : List CT} {W X : World} (h : CB B0 n₀ m L W) (hb : Bel W X) : CB B0 n₀ m L X := by
  obtain ⟨u, n, h1, h2, h3⟩ := h
  exact ⟨u, n, (Keep.of_bel hb []).at h1 (by simp), h2.bel hb, h3⟩
theorem CB.mono {B0 n₀ m m' : Nat} {L : List CT} {W : World} (h : CB B0 n₀ m L W) (hm : m ≤ m') : CB B0 n₀ m' L W := by
  obtain ⟨u, n, h1, h2, h3, h4, h5, h6, h7, h8, h9, h10⟩ := h
  exact ⟨u, n, h1, h2, h3, h4, h5, h6, h7, fun c hc => ⟨(h8 c hc).1, (h8 c hc).2.1, Nat.le_trans (h8 c hc).2.2 hm⟩, h9, by omega⟩
def RowC (n₀ B : Nat) (L : List CT) (W : World) : Prop := ∃ v, Boxed W B 35 v ∧ W.ownsRow n₀ 86 3 v L.length (ctEl.all L) ∧ True
theorem RowC.alloc {n₀ B : Nat} {L : List CT} {W : World} (h : RowC n₀ B L W) (o : Obj) : RowC n₀ B L (W.alloc o) := by
  obtain ⟨v, h1, h2, _⟩ := h; exact ⟨v, h1.alloc o, World.ownsRow.alloc h2 o, trivial⟩
theorem rowC_own (n₀ B : Nat) : Go.Own (fun (L : List CT) W => RowC n₀ B L W) := fun s X Y row hs hg hr =>
  holdsRow_own n₀ B 35 86 3 (fun (_ : Unit) => s.length) (fun _ => ctEl.all s) (fun _ _ => True) () X Y row hs hg hr
theorem infoCt : (Tryz.prog.info? 86).map (fun i => (i.zero, i.size, i.bytes)) = some (some (.agg #[.int .i64 0, .int .i64 0, .int .i64 0]), 3, 24) := by kernel_rfl
theorem all_geC {u : TT CT} {L : List CT} (h : u.flat = L) : geLC ⟨0, 0, 0⟩ u = L := by
  rw [← h, geLC, TT.flat]
  congr 1
  rw [List.filter_eq_self]
  intro p _
  unfold ltC
  simp
theorem own_low11 {α : Type} {E : El α} {B B' : Nat} {w : World} {v : Value} {L : List α} (h : OwnG E B w v L) (hB : B' ≤ B) : OwnG E B' w v L := by
  refine ⟨h.1, h.2.imp id ?_⟩
  rintro ⟨g, cap, cur, e, hb, rest⟩
  exact ⟨g, cap, cur, e, Nat.le_trans hB hb, rest⟩
set_option maxHeartbeats 4000000 in
theorem mcites_any11 (b : Nat) (F : List Nat) (C : List EB) (w : World) (h : PMAt w b F C) (hH : Holds C) :
    Calls Tryz.prog 11 #[.pointer (some ⟨b, 0, none⟩)] w fun r w' => ∃ v, r = .returned v ∧ OwnG ctEl w.heap.size w' v (citesB C) ∧ Bel w w' := by
  obtain ⟨t, h0, hT, hn, hbt, hC, -⟩ := h
  have hAll := all_geL hC (holds_fits hH)
  have hlen : C.length ≤ 1000 := hH.2
  have hpo := order_of hC hH.1
  have hPt : ∀ x ∈ t.flat, rightB x = true := by rw [hC]; exact stand_right hH.1
  have hbl := (Array.getElem?_eq_some_iff.1 h0).1
  have hlow := hT.lt
  have H0 := Lib.hid h0; have HT := Lib.hid hT; have HALL := Lib.hid hAll; have HPO := Lib.hid hpo; have HLOW := Lib.hid hlow; have HPT := Lib.hid hPt
  clear h0 hT hAll hpo hlow hn hbt hC hH hPt
  refine (callsIn_wide (n := 9)).1 ?_
  refine callsIn_of_wp_marks Tryz.func11 rfl trivial ?_ rfl
  simp only [Tryz.ntmps11, List.size_toArray, List.length_cons, List.length_nil, Nat.reduceAdd, Nat.reduceSub, Array.replicate_succ, Array.replicate_zero, List.push_toArray, List.append_toArray, List.nil_append, List.cons_append]
  gi_wp2
  refine wpIn_mono (Q := Exit.then ?K (fun _ _ _ => False)) ?r (fun e a w h => ?m)
  case m =>
    cases e with
    | normal => exact h
    | _ => exact h.elim
  refine wpIn_region_any (by kernel_rfl) ?_
  change wpAnyIn _ _ _ _ _ _ _ _ _ (World.drew _)
  refine wpAnyIn_take (i := 0) (oi := { dst := some 12, op := Op.move (Operand.tmp 0), type := 25, pos := "memory.go:77", after := #[], guard := none }) (v := ?_) rfl rfl (by kernel_rfl) (by kernel_rfl) (by kernel_rfl) (fun _ _ _ h => h) ⟨Or.inl ⟨by rfl, ?_⟩, fun _ => rfl⟩ ?_
  rotate_left
  · (intro w; first | (go_simp; done) | (go_simp; with_reducible rfl))
  try simp only [Act.put, List.setIfInBounds_toArray, List.set_cons_zero, List.set_cons_succ]
  refine wpAnyIn_take (i := 1) (oi := { dst := some 13, op := Op.nilCheck (Operand.tmp 12), type := 0, pos := "memory.go:77", after := #[{ on := 0, ground := Ground.data }], guard := none }) (v := ?_) rfl rfl (by kernel_rfl) (by kernel_rfl) (by kernel_rfl) (fun _ _ _ h => h) ⟨Or.inl ⟨by rfl, ?_⟩, fun _ => rfl⟩ ?_
  rotate_left
  · (intro w; first | (go_simp; done) | (go_simp; with_reducible rfl))
  try simp only [Act.put, List.setIfInBounds_toArray, List.set_cons_zero, List.set_cons_succ]
  refine wpAnyIn_take (i := 2) (oi := { dst := some 14, op := Op.fieldAddr 50 (Operand.tmp 13) 0, type := 0, pos := "memory.go:77", after := #[{ on := 1, ground := Ground.data }], guard := none }) (v := ?_) rfl rfl (by kernel_rfl) (by kernel_rfl) (by kernel_rfl) (fun _ _ _ h => h) ⟨Or.inl ⟨by rfl, ?_⟩, fun _ => rfl⟩ ?_
  rotate_left
  · (intro w; first | (go_simp; done) | (go_simp; with_reducible rfl))
  try simp only [Act.put, List.setIfInBounds_toArray, List.set_cons_zero, List.set_cons_succ]
  refine wpAnyIn_ready (rs := [3]) (by kernel_rfl) (by simp) ?_
  refine (AllReadyIn.cons (o := { dst := some 15, op := Op.call { callee := Callee.value (Operand.func 24), args := #[Operand.const (Value.string { data := #[] })], argTypes := #[9] }, type := 55, pos := "memory.go:77", after := #[], guard := none }) rfl (fun K hK => ?_) AllReadyIn.nil)
  go_simp
  refine ⟨trivial, ?_⟩
  refine (callsIn_wide.2 (headOf_any ⟨#[]⟩ _)).mono ?_
  rintro r1 w2 ⟨rfl, hb2⟩
  dsimp only
  refine hK _ _ ?_
  clear hK K
  try simp only [Act.put, List.setIfInBounds_toArray, List.set_cons_zero, List.set_cons_succ]
  refine wpAnyIn_ready (rs := [4]) (by kernel_rfl) (by simp) ?_
  refine (AllReadyIn.cons (o := { dst := some 16, op := Op.call { callee := Callee.value (Operand.func 23), args := #[Operand.tmp 14, Operand.tmp 15], argTypes := #[48, 55] }, type := 57, pos := "memory.go:77", after := #[{ on := 2, ground := Ground.data }, { on := 3, ground := Ground.data }, { on := 3, ground := Ground.chain }], guard := none }) rfl (fun K hK => ?_) AllReadyIn.nil)
  go_simp
  refine ⟨trivial, ?_⟩
  refine (fromE_in _ b (headE ⟨#[]⟩) w2).mono ?_
  rintro r2 w3 ⟨rfl, hw3⟩
  dsimp only
  refine hK _ _ ?_
  clear hK K
  try simp only [Act.put, List.setIfInBounds_toArray, List.set_cons_zero, List.set_cons_succ]
  refine wpAnyIn_done (by kernel_rfl) ?_ _
  gi_wp2
  have hcb2 : CB w.heap.size w.heap.size 0 [] w2 := (cb11_zero w w.heap.size (Nat.le_refl _)).keep ((Bel.refl _).drew.trans hb2)
  have hbw : Bel w w2 := (((Bel.refl w).alloc _).drew).trans hb2
  have hb3 : Bel w2 w3 := by rw [hw3]; exact ((Bel.refl _).alloc _).alloc _
  have k1 : w3.heap[w2.heap.size]? = some (.cells #[.pointer (some ⟨b, 0, none⟩)] 101 (0, 0)) := by
    rw [hw3]; exact (Keep.of_bel ((Bel.refl _).alloc _) []).at (tnew w2 _) (by simp)
  have k2 : w3.heap[w2.heap.size + 1]? = some (.cells #[.string ⟨#[]⟩, .int .i64 9223372036854775807, .bool false, .string ⟨#[]⟩] 55 (0, 0)) := by
    have := tnew (w2.alloc (.cells #[.pointer (some ⟨b, 0, none⟩)] 101)) (.cells #[.string ⟨#[]⟩, .int .i64 9223372036854775807, .bool false, .string ⟨#[]⟩] 55)
    rw [World.size_alloc] at this
    rw [hw3]; exact this
  have hr : w3.cell? ⟨b, 0, none⟩ = some (.pointer t.ptr) := cell_later (hbw.trans hb3) ((tblk_cell H0.out 0).trans rfl)
  have hT3 := HT.out.bel (hbw.trans hb3)
  have hn03 : w.heap.size ≤ w3.heap.size := (hbw.trans hb3).size
  have hBw3 : Below w.heap.size w w3 := hbw.trans hb3
  have hcb3 := hcb2.keep hb3
  have hltw : w.heap.size < w2.heap.size := by have := ((Bel.refl (w.alloc (.cells #[.pointer none, .int .i64 0] 75))).drew.trans hb2).size; simp at this; omega
  clear hw3 hcb2
  refine wpIn_rangeFunc_ownH rfl (by omega) (gf := 43) (lb := #[.pointer (some ⟨w2.heap.size, 0, none⟩), .pointer (some ⟨w2.heap.size + 1, 0, none⟩)]) rfl trivial (enters_of Tryz.func43 (by kernel_rfl) rfl)
    (fromE_stopsP (9 - 1) w2.heap.size (w2.heap.size + 1) b w.heap.size (headE ⟨#[]⟩) t (fun x => rightB x = true) HPT.out w3 k1 k2 hr hT3 HLOW.out hn03 HPO.out) (fun h k => KeepTE.trans h k) (fun W l o o' hl h hc hk => keepTE_b (w := w3) hn03 W l o o' hl h hc hk) (Below.refl _ _) (fun _ => rfl)
    (fun (pre : List RE) W => CB w.heap.size w.heap.size pre.length (citR pre) W ∧ Below w.heap.size w W)
    (fun _ _ _ => False)
    (OwnFrom.and (Own.from (fun s X Y row hs hg hr => cB_own _ _ s.length (citR s) () X Y row hs hg hr) _) (ownFrom_below (Nat.le_refl _) hn03))
    (fun c s X Y row hs hg hr => hs.elim)
    ⟨hcb3, hBw3⟩
    (fun (x : RE) a' W => ∃ Bx, W.heap[Bx]? = some (Obj.cells #[.string x.1.k, .int .i64 x.1.q, .bool x.1.d, .string x.1.v] 55 (0, 0)) ∧ a' = { tmps := #[.pointer (some { block := b, off := 0 }), undef, .slice none 0 0, .pointer (some { block := w.heap.size, off := 0 }), .pointer (some { block := Bx, off := 0 }), undef, undef, undef, undef, undef, undef, undef, .pointer (some { block := b, off := 0 }), .pointer (some { block := b, off := 0 }), .pointer (some { block := b, off := 0 }), .agg #[.string ⟨#[]⟩, .int .i64 9223372036854775807, .bool false, .string ⟨#[]⟩], .func (.func 43) #[] #[.pointer (some { block := w2.heap.size, off := 0 }), .pointer (some { block := w2.heap.size + 1, off := 0 })], .agg #[.string x.1.k, .int .i64 x.1.q, .bool x.1.d, .string x.1.v], undef, undef, undef, undef, undef, undef, undef, undef, undef, undef, undef, undef, undef, undef, undef, undef, undef, undef, undef, undef, undef, undef, undef, undef, undef, undef, undef, undef, undef, undef], defers := [] })
    (fun x a' _ X Y row hs hg hr => by obtain ⟨Bx, e2, e3⟩ := hs; exact ⟨Bx, at_own e2 hg (fun r e => (hr r e).2), e3⟩)
    ?assign ?body ?done ?stop
  case assign =>
    rintro l pre x W K ⟨hi, hB1'⟩ hK
    gi_wp2
    exact hK _ _ ((KeepsOthers.alloc _ _).from _) (KeepTE.of_bel ((Bel.refl W).alloc _) hB1'.size) ⟨hi.keep ((Bel.refl W).alloc _), hB1'.alloc hB1'.size _⟩ ⟨W.heap.size, tnew W _, rfl⟩
  case body =>
    rintro l pre x a' W hl - ⟨hcb, hB⟩ ⟨Bx, hX, rfl⟩ hlt
    obtain ⟨hx1, hx2⟩ := right_cite x.2
    have cx0 : W.cell? ⟨Bx, 0, none⟩ = some (.string x.1.k) := (tblk_cell hX 0).trans rfl
    have cx1 : W.cell? ⟨Bx, 1, none⟩ = some (.int .i64 x.1.q) := (tblk_cell hX 1).trans rfl
    have cx2 : W.cell? ⟨Bx, 2, none⟩ = some (.bool x.1.d) := (tblk_cell hX 2).trans rfl
    have cx3 : W.cell? ⟨Bx, 3, none⟩ = some (.string x.1.v) := (tblk_cell hX 3).trans rfl
    have hpl : pre.length ≤ 1000 := by rw [HALL.out] at hlt; omega
    have HCB := Lib.hid hcb
    clear hcb
    cases hc : citeL x.1.v.data.toList with
    | none =>
      gi_wp2
      refine ⟨trivial, ?_⟩
      refine (CallsIn.inRound l (callsIn_wide.2 (pcite_any x.1.v W (by omega)))).mono ?_
      rw [citeV_none hc]
      rintro r3 W3 ⟨rfl, hb⟩
      have HC := Lib.hid (citR_none (pre := pre) hc)
      gi_wp2
      exact ⟨(keep_others (Keep.of_bel hb []) (by simp)).from _, KeepTE.of_bel hb hB.size, by rw [HC.out]; exact (HCB.out.keep hb).mono (by simp), hB.trans (Below.mono hb hB.size)⟩
    | some ab =>
      obtain ⟨a, c⟩ := ab
      gi_wp2
      refine ⟨trivial, ?_⟩
      refine (CallsIn.inRound l (callsIn_wide.2 (pcite_any x.1.v W (by omega)))).mono ?_
      rw [citeV_some hc]
      rintro r3 W3 ⟨rfl, hb⟩
      have HC := Lib.hid (citR_some (pre := pre) hc)
      gi_wp2
      obtain ⟨u, n, u1, u2, u3, u4, u5, u6, u7, u8, u9, u10⟩ := HCB.out.keep hb
      obtain ⟨ha, hc1⟩ := cite_le hc
      have hsz3 : w.heap.size ≤ W3.heap.size := Nat.le_trans hB.size hb.size
      have hlt3 : w.heap.size < W3.heap.size := (Array.getElem?_eq_some_iff.1 u1).1
      have CP : Calls Tryz.prog 30 #[.pointer (some ⟨w.heap.size, 0, none⟩), .agg #[.int .i64 (a : Int), .int .i64 (c : Int), .int .i64 0]] W3 _ := putC_any ⟨a, c, 0⟩ u n w.heap.size W3 u1 u2 u3 u4 u6 u9 (by omega)
      have CS := Lib.hid (fun (u' : TT CT) (g : Nat) (nw : Bool) (W4 : World) hx hT hn hP hK hs => cb_step (W := W3) (W2 := W4) (u := u) (u' := u') (g := g) (nw := nw) hsz3 hlt3 ha hc1 u3 u4 u5 u6 (by rw [u7]; exact u8) u9 u10 hx hT hn hP hK hs)
      have hG1 : ∀ k ∈ w.heap.size :: u.bs, Cel W3 k := fun k hk => by
        rcases List.mem_cons.1 hk with rfl | hk
        · exact ⟨_, _, u1⟩
        · exact u2.cel hk
      have hG2 : ∀ k ∈ w.heap.size :: u.bs, ∃ ca ta, W3.heap[k]? = some (.cells ca ta (0, 0)) ∧ ta ≠ 55 := fun k hk => by
        rcases List.mem_cons.1 hk with rfl | hk
        · exact ⟨_, _, u1, by decide⟩
        · obtain ⟨ca, hca⟩ := u2.typed hk
          exact ⟨ca, _, hca, by decide⟩
      have hG3 : ∀ k ∈ w.heap.size :: u.bs, w.heap.size ≤ k := fun k hk => by
        rcases List.mem_cons.1 hk with rfl | hk
        · exact Nat.le_refl _
        · exact u5 k hk
      have HG := Lib.hid (And.intro hG1 (And.intro hG2 hG3))
      have HU7 := Lib.hid u7
      clear hG1 hG2 hG3 u1 u2 u3 u4 u5 u6 u7 u8 u9 u10
      refine ⟨trivial, ?_⟩
      refine (CallsIn.inRound l (callsIn_wide.2 CP)).mono ?_
      rintro r4 W4 ⟨u', g, nw, rfl, hx4, hT4, hn4, hP4, hK4, hs4⟩
      obtain ⟨y, z2, f2, hy, hcb4, hk4⟩ := CS.out _ _ _ _ hx4 hT4 hn4 hP4 hK4 hs4
      have HE := Lib.hid (And.intro hcb4 hk4)
      clear hx4 hT4 hn4 hP4 hK4 hs4 hcb4 hk4 CP CS
      have hy1 : (y.n : Int) ≤ 1000 := by omega
      gi_wp2
      obtain ⟨hcb4, hk4⟩ := HE.out
      refine ⟨((keep_others (Keep.of_bel hb []) (by simp)).trans (keep_others hk4 HG.out.1)).from _, (KeepTE.of_bel hb hB.size).trans ⟨hk4.below hsz3 HG.out.2.2, fun bb cs hbb => keep_typed hk4 HG.out.2.1 hbb⟩, ?_, (hB.trans (Below.mono hb hB.size)).trans (hk4.below hsz3 HG.out.2.2)⟩
      rw [HC.out, ← HU7.out, List.length_append]
      exact hcb4
  case done =>
    rintro D ys W hD hS ⟨hcb, hB⟩ hK
    have hcy : citR ys = citesB C := by unfold citR; rw [hS, HALL.out]
    have hyl : ys.length ≤ 1000 := by
      have := congrArg List.length hS
      rw [List.length_map, HALL.out] at this
      omega
    rw [hcy] at hcb
    have HCB := Lib.hid (hcb.mono hyl)
    have HK1 := Lib.hid hK
    clear hcb hcy hS
    gi_wp2
    refine ⟨trivial, ?_⟩
    have CF : CallsIn Fence.wide 8 Tryz.prog 31 #[.pointer (some ⟨w.heap.size, 0, none⟩), .agg #[.int .i64 0, .int .i64 0, .int .i64 0]] (W.alloc (.cells #[.slice none 0 0] 35)) _ := fromC_in 8 w.heap.size ⟨0, 0, 0⟩ _
    refine CF.mono ?_
    rintro r5 w5 ⟨rfl, hw5⟩
    replace hw5 : w5 = ((W.alloc (.cells #[.slice none 0 0] 35)).alloc (.cells #[.pointer (some ⟨w.heap.size, 0, none⟩)] 122)).alloc (.cells #[.int .i64 0, .int .i64 0, .int .i64 0] 82) := hw5
    try simp only [World.size_alloc]
    clear CF
    gi_wp2
    obtain ⟨u, n, u1, u2, u3, u4, u5, u6, u7, u8, u9, u10⟩ := HCB.out
    have hDW : D < W.heap.size := (Array.getElem?_eq_some_iff.1 hK).1
    have hwW : w.heap.size ≤ W.heap.size := hB.size
    have hb5 : Bel W w5 := by rw [hw5]; exact (((Bel.refl W).alloc _).alloc _).alloc _
    have b0 : w5.heap[W.heap.size]? = some (.cells #[.slice none 0 0] 35 (0, 0)) := by
      rw [hw5]; exact (Keep.of_bel (((Bel.refl _).alloc _).alloc _) []).at (tnew W _) (by simp)
    have b1 : w5.heap[W.heap.size + 1]? = some (.cells #[.pointer (some ⟨w.heap.size, 0, none⟩)] 122 (0, 0)) := by
      have := tnew (W.alloc (.cells #[.slice none 0 0] 35)) (.cells #[.pointer (some ⟨w.heap.size, 0, none⟩)] 122)
      rw [World.size_alloc] at this
      rw [hw5]; exact (Keep.of_bel ((Bel.refl _).alloc _) []).at this (by simp)
    have b2 : w5.heap[W.heap.size + 1 + 1]? = some (.cells #[.int .i64 0, .int .i64 0, .int .i64 0] 82 (0, 0)) := by
      have := tnew ((W.alloc (.cells #[.slice none 0 0] 35)).alloc (.cells #[.pointer (some ⟨w.heap.size, 0, none⟩)] 122)) (.cells #[.int .i64 0, .int .i64 0, .int .i64 0] 82)
      rw [World.size_alloc, World.size_alloc] at this
      rw [hw5]; exact this
    have hr5 : w5.cell? ⟨w.heap.size, 0, none⟩ = some (.pointer u.ptr) := cell_later hb5 ((tblk_cell u1 0).trans rfl)
    have hn5 : W.heap.size ≤ w5.heap.size := hb5.size
    have hg5 := all_geC u7
    have hgl : (geLC ⟨0, 0, 0⟩ u).length ≤ 1000 := by rw [hg5]; exact Nat.le_trans (cites_len C) hlen
    have hT5 := u2.bel hb5
    have hlow5 := u2.lt
    have x1 : Boxed w5 W.heap.size 35 (.slice none 0 0) := b0
    have hnn : W.heap.size ≤ W.heap.size := Nat.le_refl _
    clear hw5 u3 u4 u5 u8 u9 u10 b0
    refine wpIn_rangeFunc_ownH rfl (by omega) (gf := 58) (lb := #[.pointer (some ⟨W.heap.size + 1, 0, none⟩), .pointer (some ⟨W.heap.size + 1 + 1, 0, none⟩)]) rfl trivial (enters_of Tryz.func58 (by kernel_rfl) rfl)
      (fromC_stops (9 - 1) (W.heap.size + 1) (W.heap.size + 1 + 1) w.heap.size W.heap.size ⟨0, 0, 0⟩ u w5 b1 b2 hr5 hT5 hlow5 hn5 u6) (fun h k => KeepTC.trans h k) (fun X l o o' hl h hc hk => keepTC_b (w := w5) hn5 X l o o' hl h hc hk) (Below.refl _ _) (fun _ => rfl)
      (fun (pre : List CT) X => RowC W.heap.size W.heap.size pre X ∧ Below W.heap.size W X)
      (fun _ _ _ => False)
      (OwnFrom.and (Own.from (rowC_own _ _) _) (ownFrom_below (Nat.le_refl _) hn5))
      (fun c s X Y row hs hg hr => hs.elim)
      ⟨⟨_, x1, World.ownsRow_nil _ _ _ _, trivial⟩, hb5⟩
      (fun (x : CT) a' X => ∃ Bx, X.heap[Bx]? = some (Obj.cells #[.int .i64 (x.t : Int), .int .i64 (x.v : Int), .int .i64 (x.n : Int)] 82 (0, 0)) ∧ a' = { tmps := #[.pointer (some { block := b, off := 0 }), undef, .slice none 0 0, .pointer (some { block := w.heap.size, off := 0 }), undef, undef, undef, undef, undef, undef, .pointer (some { block := W.heap.size, off := 0 }), .pointer (some { block := Bx, off := 0 }), .pointer (some { block := b, off := 0 }), .pointer (some { block := b, off := 0 }), .pointer (some { block := b, off := 0 }), .agg #[.string ⟨#[]⟩, .int .i64 9223372036854775807, .bool false, .string ⟨#[]⟩], .func (.func 43) #[] #[.pointer (some { block := w2.heap.size, off := 0 }), .pointer (some { block := w2.heap.size + 1, off := 0 })], undef, undef, undef, undef, undef, undef, undef, undef, undef, undef, undef, undef, undef, undef, undef, undef, undef, undef, undef, undef, undef, undef, undef, .agg #[.int .i64 0, .int .i64 0, .int .i64 0], .func (.func 58) #[] #[.pointer (some { block := W.heap.size + 1, off := 0 }), .pointer (some { block := W.heap.size + 1 + 1, off := 0 })], .agg #[.int .i64 (x.t : Int), .int .i64 (x.v : Int), .int .i64 (x.n : Int)], undef, undef, undef, undef, undef], defers := [] })
      (fun x a' _ X Y row hs hg hr => by obtain ⟨Bx, e2, e3⟩ := hs; exact ⟨Bx, at_own e2 hg (fun r e => (hr r e).2), e3⟩)
      ?assign2 ?body2 ?done2 ?stop2
    case assign2 =>
      rintro l pre x X K ⟨hi, hB1'⟩ hK
      gi_wp2
      exact hK _ _ ((KeepsOthers.alloc _ _).from _) (KeepTC.of_bel ((Bel.refl X).alloc _) hB1'.size) ⟨hi.alloc _, hB1'.alloc hB1'.size _⟩ ⟨X.heap.size, tnew X _, rfl⟩
    case body2 =>
      rintro l pre x a' X hl - ⟨⟨v, hv, hrow, -⟩, hBX⟩ ⟨Bx, hX, rfl⟩ hlt
      have c10 := hv.cell
      have cx0 : X.cell? ⟨Bx, 0, none⟩ = some (.int .i64 (x.t : Int)) := (tblk_cell hX 0).trans rfl
      have cx1 : X.cell? ⟨Bx, 1, none⟩ = some (.int .i64 (x.v : Int)) := (tblk_cell hX 1).trans rfl
      have cx2 : X.cell? ⟨Bx, 2, none⟩ = some (.int .i64 (x.n : Int)) := (tblk_cell hX 2).trans rfl
      obtain ⟨i0, hi, hz0, hz1, hz2⟩ := info_parts infoCt
      have hpl : pre.length ≤ 1000 := by omega
      have hml : pre.length + 1 ≤ maxLen := by unfold maxLen; omega
      have hmb : (pre.length + 1) * 24 ≤ 140737488355328 := by omega
      gi_wp2_with (gi_at_builtin; refine stop_here ?_)
      refine go_on ?_
      refine wpListIn_append_own _ rfl _ _ 35 rfl W.heap.size 86 i0 (.agg #[.int .i64 0, .int .i64 0, .int .i64 0]) 3 24 Tryz.underlying35 hi hz0 hz1 hz2 rfl (by decide) _ _ _ rfl (hrow.alloc _) ⟨X.heap.size, 0, none⟩ 1 1 [.int .i64 (x.t : Int), .int .i64 (x.v : Int), .int .i64 (x.n : Int)] rfl rfl (cells_new_row _ _ _) (by simp [Value.oneCell']) hml hmb (by have := hBX.size; simp; omega) ?_
      intro v' w6 hown' hgrow _
      obtain ⟨g', cap', rfl⟩ := ownsRow_succ hown'
      obtain ⟨hv1, hv2, hr2, hk2, hb2'⟩ := hv.appended (by decide) hrow hBX.size hnn hown' hgrow
      have hc1 := hv1.cell
      have hf1 := hv1.frozen
      gi_wp2
      refine ⟨hk2.from _, ⟨hb2', fun bb cs hbb => keepT_appended hv hrow (by decide) (by decide) hgrow hbb⟩, ⟨_, hv2, ?_, trivial⟩, hBX.trans hb2'⟩
      rw [El.all_append, List.length_append]
      exact hr2
    case done2 =>
      rintro D2 zs X hD2 rfl ⟨⟨v, hv, hrow, -⟩, hBX⟩ hK2
      obtain ⟨pp, cap, rfl⟩ := ownG_len (show OwnG ctEl W.heap.size X v (geLC ⟨0, 0, 0⟩ u) from hrow)
      have c10 := hv.cell
      gi_wp2
      refine ⟨by simp, .inl ⟨_, _, rfl, run_takeDeferred hK2, ?_⟩⟩
      have hDD : ¬ D = D2 := by omega
      have hK1' : (X.putObj D2 (.deferred none)).heap[D]? = some (.deferred (some [])) := (World.putObj_heap_other hDD).trans ((hBX.block D hDW).trans hK)
      refine ⟨by simp, .inl ⟨_, _, rfl, run_takeDeferred hK1', ?_⟩⟩
      refine ⟨_, results_tmp rfl _ _ _, _, rfl, ?_, ?_⟩
      · have ho := ownsRow_putObj (ownsRow_putObj hrow (.deferred none) hK2 rfl) (.deferred none) hK1' rfl
        rw [hg5] at ho
        exact own_low11 (show OwnG ctEl W.heap.size _ _ (citesB C) from by rw [← hg5] at ho ⊢; exact ho) hwW
      · have e1 : Below w.heap.size w X := hB.trans (Below.mono hBX hwW)
        exact (e1.trans (belowK_b (w := w) (Nat.le_refl _) X D2 _ _ (by omega) hK2 rfl rfl)).trans (belowK_b (w := w) (Nat.le_refl _) _ D _ _ (by omega) hK1' rfl rfl)
    case stop2 =>
      rintro D c pre W _ _ h _
      exact h.elim
  case stop =>
    rintro D c pre W _ _ h _
    exact h.elim
end Go.Proofs.YteimllgoelleeaaGreatDoor
/- The program's memory: its calls keep what the laws want. -/
namespace Go.Proofs.YteimllgoelleeaaGreatDoor
open Go.RowKit Go.Deep

def memKit : MK where
  At := PMAt
  Ok := fun _ => True
  okBel := fun _ _ => trivial
  lt := PMAt.lt
  keep := PMAt.keep
  new := fun w _ => pnew_any w
  add := fun b F C e w h hH hf hv => padd_any b F C e w h hH hf hv
  get := fun b F C key q w h hH => pget_any b F C key q w h hH
  between := fun b F C f t w h hH => pbet_any b F C f t w h hH
  len := fun b F C w h _ => plen_any b F C w h
  cites := fun b F C w h hH => mcites_any11 b F C w h hH
theorem memOk (w : World) : memKit.Ok w := trivial
end Go.Proofs.YteimllgoelleeaaGreatDoor
