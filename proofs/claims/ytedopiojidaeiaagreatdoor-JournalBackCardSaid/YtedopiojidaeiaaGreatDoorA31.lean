/- JList, JFirst, JRead, laid together. -/
import Derived.Test.YtedopiojidaeiaaGreatDoorA30
import Derived.Test.YtedopiojidaeiaaGreatDoorA26
import Derived.Test.YtedopiojidaeiaaGreatDoorA27
/- Rows of batches: slices of slices of texts. -/
set_option linter.unusedSimpArgs false
set_option linter.unusedVariables false
namespace Go.Proofs.YtedopiojidaeiaaGreatDoor
open Go.RowKit Go.Deep

/-- A slice of texts as a row's element. -/
structure SL where
  p : Option Addr
  len : Nat
  cap : Nat
def SL.val (s : SL) : Value := .slice s.p s.len s.cap
def slEl : El SL := ⟨22, 41, 1, fun s => [s.val]⟩
theorem slOk : ElOk slEl 24 := ⟨fun _ => rfl, fun a u hu => by simp [slEl] at hu; subst hu; rfl, by kernel_rfl, ⟨.slice none 0 0, by kernel_rfl, rfl⟩, by decide⟩
/-- Texts l are read off s, in blocks of P. -/
structure SlAt (P : Nat → Prop) (x : World) (s : SL) (l : List (List UInt8)) : Prop where
  len : s.len = l.length
  at_ : StrsAt x s.p l
  blk : l ≠ [] → ∀ a, s.p = some a → P a.block
/-- A block of texts. -/
def IsStr (x : World) (k : Nat) : Prop := ∃ cur fr, x.heap[k]? = some (.cells cur 9 fr)
/-- It lies in no row's own block. -/
def Apart (n : Nat) (x : World) (s : SL) (l : List (List UInt8)) : Prop := l ≠ [] → ∀ a, s.p = some a → a.block < n ∨ IsStr x a.block
/-- A row of one's own, its elements in blocks of P. -/
structure OwnL (n : Nat) (P : Nat → Prop) (B : Nat) (x : World) (v : Value) (L : List (List (List UInt8))) : Prop where
  ex : ∃ H : List SL, OwnG slEl B x v H ∧ H.length = L.length ∧ ∀ (i : Nat) (s : SL) (l : List (List UInt8)), H[i]? = some s → L[i]? = some l → SlAt P x s l ∧ Apart n x s l
theorem StrsAt.keep {x y : World} {p : Option Addr} {l : List (List UInt8)} (h : StrsAt x p l) (hk : l ≠ [] → ∀ a, p = some a → y.heap[a.block]? = x.heap[a.block]?) : StrsAt y p l := by
  intro i hi
  obtain ⟨a, ha, hc⟩ := h i hi
  refine ⟨a, ha, (World.cell?_of_block ?_).trans hc⟩
  rw [add_block]
  exact hk (by rintro rfl; simp at hi) a ha
theorem SlAt.keep {P : Nat → Prop} {x y : World} {s : SL} {l : List (List UInt8)} (h : SlAt P x s l) (hk : ∀ k, P k → y.heap[k]? = x.heap[k]?) : SlAt P y s l :=
  ⟨h.len, h.at_.keep (fun hne a ha => hk _ (h.blk hne a ha)), h.blk⟩
theorem SlAt.bel {P : Nat → Prop} {x y : World} {s : SL} {l : List (List UInt8)} (h : SlAt P x s l) (hb : Bel x y) : SlAt P y s l := ⟨h.len, h.at_.bel hb, h.blk⟩
theorem SlAt.mono {P Q : Nat → Prop} {x : World} {s : SL} {l : List (List UInt8)} (h : SlAt P x s l) (hPQ : ∀ k, P k → Q k) : SlAt Q x s l := ⟨h.len, h.at_, fun hne a ha => hPQ _ (h.blk hne a ha)⟩
theorem strs_lt {x : World} {p : Option Addr} {l : List (List UInt8)} (h : StrsAt x p l) (hne : l ≠ []) : ∀ a, p = some a → a.block < x.heap.size := fun a ha => by
  obtain ⟨a', ha', hc⟩ := h 0 (List.length_pos_iff.2 hne)
  obtain rfl : a = a' := by rw [ha] at ha'; simpa using ha'
  have := block_lt_of_cell hc
  rwa [add_block] at this
theorem Apart.keep {n : Nat} {x y : World} {s : SL} {l : List (List UInt8)} (h : Apart n x s l) (hk : l ≠ [] → ∀ a, s.p = some a → y.heap[a.block]? = x.heap[a.block]?) : Apart n y s l := fun hne a ha =>
  (h hne a ha).imp id (fun ⟨c, f, e⟩ => ⟨c, f, (hk hne a ha).trans e⟩)
theorem Apart.bel {n : Nat} {x y : World} {s : SL} {l : List (List UInt8)} (h : Apart n x s l) (hb : Bel x y) : Apart n y s l := fun hne a ha =>
  (h hne a ha).imp id (fun ⟨c, f, e⟩ => ⟨c, f, (Below.block hb _ (Array.getElem?_eq_some_iff.1 e).1).trans e⟩)
theorem Apart.mono {n m : Nat} {x : World} {s : SL} {l : List (List UInt8)} (h : Apart n x s l) (hn : n ≤ m) : Apart m x s l := fun hne a ha => (h hne a ha).imp (fun h => by omega) id
theorem SlAt.own {B : Nat} {x : World} {v : Value} {l : List (List UInt8)} (h : OwnG strEl B x v l) : ∃ p cap, v = .slice p l.length cap ∧ SlAt (fun k => B ≤ k) x ⟨p, l.length, cap⟩ l ∧ Apart 0 x ⟨p, l.length, cap⟩ l := by
  have h0 := h
  obtain ⟨p, cap, rfl, hat⟩ := ownG_strs h
  refine ⟨p, cap, rfl, ⟨rfl, hat, fun hne a ha => ?_⟩, fun hne a ha => Or.inr ?_⟩
  · simp only at ha
    subst ha
    exact (h.lt _ rfl).1
  · simp only at ha
    subst ha
    rcases h0.2 with ⟨hv, _⟩ | ⟨g, cap', cur, hv, _, hg, _⟩
    · cases hv
    · simp only [Value.slice.injEq, Option.some.injEq] at hv
      obtain ⟨rfl, -⟩ := hv
      exact ⟨cur, (0, 0), hg⟩
theorem OwnL.nil (n : Nat) (P : Nat → Prop) (B : Nat) (x : World) : OwnL n P B x (.slice none 0 0) [] := ⟨[], OwnG.nil _ _ _, rfl, fun i s l h => by simp at h⟩
theorem OwnL.bel {n : Nat} {P : Nat → Prop} {B : Nat} {x y : World} {v : Value} {L : List (List (List UInt8))} (h : OwnL n P B x v L) (hb : Bel x y) : OwnL n P B y v L := by
  obtain ⟨H, h1, h2, h3⟩ := h.ex
  exact ⟨H, h1.bel hb, h2, fun i s l hs hl => ⟨(h3 i s l hs hl).1.bel hb, (h3 i s l hs hl).2.bel hb⟩⟩
theorem OwnL.low {n : Nat} {P : Nat → Prop} {B B' : Nat} {x : World} {v : Value} {L : List (List (List UInt8))} (h : OwnL n P B x v L) (hB : B' ≤ B) : OwnL n P B' x v L := by
  obtain ⟨H, h1, h2, h3⟩ := h.ex
  exact ⟨H, h1.low hB, h2, h3⟩
theorem OwnL.mono {n m : Nat} {P Q : Nat → Prop} {B : Nat} {x : World} {v : Value} {L : List (List (List UInt8))} (h : OwnL n P B x v L) (hPQ : ∀ k, P k → Q k) (hn : n ≤ m) : OwnL m Q B x v L := by
  obtain ⟨H, h1, h2, h3⟩ := h.ex
  exact ⟨H, h1, h2, fun i s l hs hl => ⟨(h3 i s l hs hl).1.mono hPQ, (h3 i s l hs hl).2.mono hn⟩⟩
/-- It lies as it lay where its block and its elements' lie so. -/
theorem OwnL.keep {n : Nat} {P : Nat → Prop} {B : Nat} {x y : World} {v : Value} {L : List (List (List UInt8))} (h : OwnL n P B x v L) (hk : ∀ k, P k → y.heap[k]? = x.heap[k]?) (hv : ∀ k, v.ownBlock = some k → y.heap[k]? = x.heap[k]?) : OwnL n P B y v L := by
  obtain ⟨H, h1, h2, h3⟩ := h.ex
  refine ⟨H, ?_, h2, fun i s l hs hl => ⟨(h3 i s l hs hl).1.keep hk, (h3 i s l hs hl).2.keep (fun hne a ha => hk _ ((h3 i s l hs hl).1.blk hne a ha))⟩⟩
  obtain ⟨q1, q2⟩ := h1
  refine ⟨q1, ?_⟩
  rcases q2 with q2 | ⟨g, cap, cur, rfl, hg, hh, r⟩
  · exact Or.inl q2
  · exact Or.inr ⟨g, cap, cur, rfl, hg, (hv g rfl).trans hh, r⟩
theorem OwnL.len {n : Nat} {P : Nat → Prop} {B : Nat} {x : World} {v : Value} {L : List (List (List UInt8))} (h : OwnL n P B x v L) : ∃ p cap, v = .slice p L.length cap := by
  obtain ⟨H, h1, h2, h3⟩ := h.ex
  obtain ⟨p, cap, hv⟩ := ownG_len h1
  exact ⟨p, cap, by rw [hv, h2]⟩
/-- An element lies in no block of the row's own. -/
theorem apart_own {n B : Nat} {x : World} {v : Value} {H : List SL} (h : OwnG slEl B x v H) (hn : n ≤ B) {s : SL} {l : List (List UInt8)} (ha : Apart n x s l) (hne : l ≠ []) {a : Addr} (hp : s.p = some a) : some a.block ≠ v.ownBlock := by
  intro e
  rcases ha hne a hp with hlt | ⟨c, f, hs⟩
  · have := (h.lt a.block e.symm).1; omega
  · rcases h.2 with ⟨rfl, _⟩ | ⟨g, cap, cur, rfl, _, hg, _⟩
    · cases e
    · simp only [Value.ownBlock, Option.some.injEq] at e
      rw [e, hg] at hs
      simp only [Option.some.injEq, Obj.cells.injEq] at hs
      exact absurd hs.2.1 (by decide)
/-- Where the row lies behind an append: where it lay, or behind all that there was. -/
theorem append_where {α : Type} {E : El α} {B b : Nat} {x : World} {v : Value} {L : List α} (hE : ElOk E b) (hown : OwnG E B x v L) (ty : TypeId) (ad : Addr) (c : Nat) (news : List α) (hnews : ∀ j u, (E.all news)[j]? = some u → x.cell? (ad.add j) = some u)
    (hl1 : L.length + news.length ≤ maxLen) (hlim : (L.length + news.length) * b ≤ 140737488355328) {v' : Value} {w' : World}
    (hr : (Builtin.append_ #[E.ST, E.ST] ty #[v, .slice (some ad) news.length c]).run Tryz.prog x = .ok v' w') : v'.ownBlock = v.ownBlock ∨ v'.ownBlock = some x.heap.size := by
  obtain ⟨z, hz, hzc⟩ := hE.info
  obtain ⟨i, hi, hz0, hz1, hz2⟩ := info_parts hz
  have hsmall : L.length + news.length ≤ 9223372036854775807 := by unfold maxLen at hl1; omega
  have hln : (E.all news).length = news.length * i.size := by rw [El.all_len hE, hz1]
  rcases hown.2 with ⟨rfl, h0⟩ | ⟨g, cap, cur, rfl, hbg, hg, hnc, hcm, hcs, htake⟩
  · by_cases hm : news.length = 0
    · have hr2 : (Builtin.append_ #[E.ST, E.ST] ty #[.slice none 0 0, .slice (some ad) news.length c]).run Tryz.prog x = .ok (.slice none 0 0) x := by
        rw [hm]
        simp [Builtin.append_, run_underlying hE.und, sizeOf, typeInfo, hi, Builtin.lenOf, Builtin.firstCells, loadCells, loadCellsFrom]
      rw [hr2] at hr
      simp only [Result.ok.injEq] at hr
      exact Or.inl (by rw [← hr.1])
    · have hr2 := run_append_nil (P := Tryz.prog) x E.ST ty E.T i z hE.und hi hz0 ad news.length c (E.all news) hln hnews (by omega) (by omega) (by rw [hz2]; have : news.length * b ≤ (L.length + news.length) * b := Nat.mul_le_mul_right _ (by omega); omega)
      rw [hr2] at hr
      simp only [Result.ok.injEq] at hr
      exact Or.inr (by rw [← hr.1]; rfl)
  · by_cases hroom : L.length + news.length ≤ cap
    · have hfit : L.length * i.size + (E.all news).length ≤ cur.size := by rw [hln, hcs, hz1, ← Nat.add_mul]; exact Nat.mul_le_mul_right _ hroom
      have hr2 := run_append_room (P := Tryz.prog) x E.ST ty E.T i hE.und hi g L.length cap cur hg ad news.length c (E.all news) hln hnews (El.all_one hE _) hroom hfit
      rw [hr2] at hr
      simp only [Result.ok.injEq] at hr
      exact Or.inl (by rw [← hr.1]; rfl)
    · have holds : ∀ j u, (E.all L)[j]? = some u → x.cell? ((⟨g, 0, none⟩ : Addr).add j) = some u := World.ownsRow.cells hown rfl
      have hr2 := run_append_grow (P := Tryz.prog) x E.ST ty E.T i z hE.und hi hz0 ⟨g, 0, none⟩ L.length cap (E.all L) (by rw [El.all_len hE, hz1]) holds ad news.length c (E.all news) hln hnews (by omega) (by omega) (growslice_fits (by omega) (by rw [hz2]; exact hlim))
      rw [hr2] at hr
      simp only [Result.ok.injEq] at hr
      exact Or.inr (by rw [← hr.1]; rfl)
/-- Append onto a row of one's own: what lies elsewhere lies as it lay. -/
theorem append_src {α : Type} {E : El α} {B b : Nat} {x : World} {v yv : Value} {L : List α} (hE : ElOk E b) {ops : Array Oper} {rest : List Oper} {o : Oper} {a : Act} {Q : Exit → Act → World → Prop} (hgd : o.guard = none) (s y : Operand)
    (ho : o.op = .call { callee := .builtin .append, args := #[s, y], argTypes := #[E.ST, E.ST] }) (hs : a.eval s = v) (hown : OwnG E B x v L) (news : List α) (hy : a.eval y = yv) (hsrc : SrcAt E x yv news)
    (hl1 : L.length + news.length ≤ maxLen) (hlim : (L.length + news.length) * b ≤ 140737488355328) (hbase : B ≤ x.heap.size)
    (h : ∀ v' w', OwnG E B w' v' (L ++ news) → Below B x w' → (∀ k, k < x.heap.size → some k ≠ v.ownBlock → w'.heap[k]? = x.heap[k]?) → (v'.ownBlock = v.ownBlock ∨ v'.ownBlock = some x.heap.size) → wpList Tryz.prog ops Q rest (a.put o.dst v') w') : wpList Tryz.prog ops Q (o :: rest) a x := by
  refine wpList_plain hgd fun K hK => ?_
  obtain ⟨z, hz, hzc⟩ := hE.info
  obtain ⟨i0, hi, hz0, hz1, hz2⟩ := info_parts hz
  rcases hsrc with ⟨rfl, rfl⟩ | ⟨ad, c, rfl, hc⟩
  · have hr := run_append_owned_none (P := Tryz.prog) (w := x) B E.ST o.type E.T i0 E.n hE.und hi v L.length (E.all L) hown
    unfold Oper.wp execOp
    simp only [ho, resolve, invoke, builtin, Sem.run_bind, Sem.run_pure, Result.andThen_ok, List.map_toArray, List.map_cons, List.map_nil, hs, hy, hr]
    exact hK _ _ (h v x (by simpa using hown) (Below.refl _ _) (fun _ _ _ => rfl) (Or.inl rfl))
  · obtain ⟨v', w', hr, h1, h2, h3⟩ := run_append_own (P := Tryz.prog) x B E.ST o.type E.T i0 z E.n b hE.und hi hz0 hz1 hz2 hzc hE.pos v L.length (E.all L) hown ad news.length c (E.all news) (El.all_len hE _) hc (El.all_one hE _) hl1 hlim hbase
    have hw := append_where hE hown o.type ad c news hc hl1 hlim hr
    unfold Oper.wp execOp
    simp only [ho, resolve, invoke, builtin, Sem.run_bind, Sem.run_pure, Result.andThen_ok, List.map_toArray, List.map_cons, List.map_nil, hs, hy, hr]
    refine hK _ _ (h v' w' ?_ ((Below.refl B x).grown h2 hbase fun k hk => (hown.lt k hk).1) (fun k hk hne => h2.block k hk hne) hw)
    unfold OwnG
    rw [List.length_append, El.all_append]
    exact h1
theorem append_keep {α : Type} {E : El α} {B b : Nat} {x : World} {v : Value} {L : List α} (hE : ElOk E b) {ops : Array Oper} {rest : List Oper} {o : Oper} {a : Act} {Q : Exit → Act → World → Prop} (hgd : o.guard = none) (s y : Operand)
    (ho : o.op = .call { callee := .builtin .append, args := #[s, y], argTypes := #[E.ST, E.ST] }) (hs : a.eval s = v) (hown : OwnG E B x v L)
    (ad : Addr) (m c : Nat) (news : List α) (hx : a.eval y = .slice (some ad) m c) (hm : m = news.length) (hnews : ∀ j u, (E.all news)[j]? = some u → x.cell? (ad.add j) = some u)
    (hl1 : L.length + news.length ≤ maxLen) (hlim : (L.length + news.length) * b ≤ 140737488355328) (hbase : B ≤ x.heap.size)
    (h : ∀ v' w', OwnG E B w' v' (L ++ news) → Below B x w' → (∀ k, k < x.heap.size → some k ≠ v.ownBlock → w'.heap[k]? = x.heap[k]?) → wpList Tryz.prog ops Q rest (a.put o.dst v') w') : wpList Tryz.prog ops Q (o :: rest) a x :=
  append_src hE hgd s y ho hs hown news hx (Or.inr ⟨ad, c, by rw [hm], hnews⟩) hl1 hlim hbase fun v' w' h1 h2 h3 _ => h v' w' h1 h2 h3
/-- A row of one's own as what is appended. -/
theorem own_src {α : Type} {E : El α} {B b : Nat} {x : World} {v : Value} {L : List α} (hE : ElOk E b) (h : OwnG E B x v L) : SrcAt E x v L := by
  rcases h.2 with ⟨rfl, h0⟩ | ⟨g, cap, cur, rfl, _⟩
  · exact Or.inl ⟨rfl, List.length_eq_zero_iff.1 h0⟩
  · exact Or.inr ⟨⟨g, 0, none⟩, cap, rfl, World.ownsRow.cells h rfl⟩
/-- A row to read: of whoever's blocks of P. -/
structure RowL (P : Nat → Prop) (x : World) (p : Option Addr) (L : List (List (List UInt8))) : Prop where
  ex : ∃ H : List SL, H.length = L.length ∧ (∀ (i : Nat) (s : SL), H[i]? = some s → ∃ a, p = some a ∧ P a.block ∧ x.cell? (a.add i) = some s.val) ∧ ∀ (i : Nat) (s : SL) (l : List (List UInt8)), H[i]? = some s → L[i]? = some l → SlAt P x s l
theorem RowL.keep {P : Nat → Prop} {x y : World} {p : Option Addr} {L : List (List (List UInt8))} (h : RowL P x p L) (hk : ∀ k, P k → y.heap[k]? = x.heap[k]?) : RowL P y p L := by
  obtain ⟨H, h1, h2, h3⟩ := h.ex
  refine ⟨H, h1, fun i s hs => ?_, fun i s l hs hl => (h3 i s l hs hl).keep hk⟩
  obtain ⟨a, ha, hP, hc⟩ := h2 i s hs
  exact ⟨a, ha, hP, (World.cell?_of_block (by rw [add_block]; exact hk _ hP)).trans hc⟩
theorem RowL.bel {P : Nat → Prop} {x y : World} {p : Option Addr} {L : List (List (List UInt8))} (h : RowL P x p L) (hb : Bel x y) : RowL P y p L := by
  obtain ⟨H, h1, h2, h3⟩ := h.ex
  refine ⟨H, h1, fun i s hs => ?_, fun i s l hs hl => (h3 i s l hs hl).bel hb⟩
  obtain ⟨a, ha, hP, hc⟩ := h2 i s hs
  exact ⟨a, ha, hP, cell_later hb hc⟩
theorem RowL.mono {P Q : Nat → Prop} {x : World} {p : Option Addr} {L : List (List (List UInt8))} (h : RowL P x p L) (hPQ : ∀ k, P k → Q k) : RowL Q x p L := by
  obtain ⟨H, h1, h2, h3⟩ := h.ex
  refine ⟨H, h1, fun i s hs => ?_, fun i s l hs hl => (h3 i s l hs hl).mono hPQ⟩
  obtain ⟨a, ha, hP, hc⟩ := h2 i s hs
  exact ⟨a, ha, hPQ _ hP, hc⟩
theorem OwnL.row {n : Nat} {P : Nat → Prop} {B : Nat} {x : World} {v : Value} {L : List (List (List UInt8))} (h : OwnL n P B x v L) : ∃ p cap, v = .slice p L.length cap ∧ RowL (fun k => P k ∨ v.ownBlock = some k) x p L := by
  obtain ⟨H, h1, h2, h3⟩ := h.ex
  by_cases hne : H = []
  · subst hne
    obtain ⟨p, cap, hv⟩ := ownG_len h1
    exact ⟨p, cap, by rw [hv, ← h2], [], h2, fun i s hs => by simp at hs, fun i s l hs => by simp at hs⟩
  · obtain ⟨g, cap, rfl, hg, _, _, hcs⟩ := ownG_cells slOk h1 hne
    refine ⟨_, cap, by rw [h2], H, h2, fun i s hs => ⟨_, rfl, Or.inr rfl, ?_⟩, fun i s l hs hl => (h3 i s l hs hl).1.mono (fun k hk => Or.inl hk)⟩
    have := hcs i s hs 0 _ rfl
    have e : (⟨g, 0, none⟩ : Addr).add i = ⟨g, i, none⟩ := by cases i <;> simp [Addr.add]
    rw [e]
    simpa [slEl] using this
/-- The elements behind an append onto their row. -/
theorem els_keep {n B : Nat} {P : Nat → Prop} {x y : World} {v : Value} {H H' : List SL} {L : List (List (List UInt8))} (h1 : OwnG slEl B x v H) (hn : n ≤ B)
    (h3 : ∀ (i : Nat) (s : SL) (l : List (List UInt8)), H'[i]? = some s → L[i]? = some l → SlAt P x s l ∧ Apart n x s l) (hk : ∀ k, k < x.heap.size → some k ≠ v.ownBlock → y.heap[k]? = x.heap[k]?) :
    ∀ (i : Nat) (s : SL) (l : List (List UInt8)), H'[i]? = some s → L[i]? = some l → SlAt P y s l ∧ Apart n y s l := fun i s l hs hl => by
  obtain ⟨q1, q2⟩ := h3 i s l hs hl
  have hb : l ≠ [] → ∀ a, s.p = some a → y.heap[a.block]? = x.heap[a.block]? := fun hne a ha => hk _ (strs_lt q1.at_ hne a ha) (apart_own h1 hn q2 hne ha)
  exact ⟨⟨q1.len, q1.at_.keep hb, q1.blk⟩, q2.keep hb⟩
/-- Many more. -/
theorem els_app {n : Nat} {P : Nat → Prop} {x : World} {L M : List (List (List UInt8))} {H K : List SL} (h2 : H.length = L.length)
    (h3 : ∀ (i : Nat) (s : SL) (l : List (List UInt8)), H[i]? = some s → L[i]? = some l → SlAt P x s l ∧ Apart n x s l) (h4 : ∀ (i : Nat) (s : SL) (l : List (List UInt8)), K[i]? = some s → M[i]? = some l → SlAt P x s l ∧ Apart n x s l) :
    ∀ (i : Nat) (s : SL) (l : List (List UInt8)), (H ++ K)[i]? = some s → (L ++ M)[i]? = some l → SlAt P x s l ∧ Apart n x s l := fun i s' l' hs hl => by
  rcases Nat.lt_or_ge i H.length with hi | hi
  · rw [List.getElem?_append_left hi] at hs
    rw [List.getElem?_append_left (by omega)] at hl
    exact h3 i s' l' hs hl
  · rw [List.getElem?_append_right hi] at hs
    rw [List.getElem?_append_right (by omega), show i - L.length = i - H.length by omega] at hl
    exact h4 _ s' l' hs hl
theorem els_one {n : Nat} {P : Nat → Prop} {x : World} {s : SL} {l : List (List UInt8)} (h : SlAt P x s l ∧ Apart n x s l) : ∀ (i : Nat) (s' : SL) (l' : List (List UInt8)), [s][i]? = some s' → [l][i]? = some l' → SlAt P x s' l' ∧ Apart n x s' l' := fun i s' l' hs hl => by
  cases i with
  | zero => simp at hs hl; subst hs hl; exact h
  | succ i => simp at hs
theorem one_keep {n B : Nat} {P : Nat → Prop} {x y : World} {v : Value} {H : List SL} (h1 : OwnG slEl B x v H) (hn : n ≤ B) {s : SL} {l : List (List UInt8)} (h : SlAt P x s l ∧ Apart n x s l) (hk : ∀ k, k < x.heap.size → some k ≠ v.ownBlock → y.heap[k]? = x.heap[k]?) : SlAt P y s l ∧ Apart n y s l := by
  have hb : l ≠ [] → ∀ a, s.p = some a → y.heap[a.block]? = x.heap[a.block]? := fun hne a ha => hk _ (strs_lt h.1.at_ hne a ha) (apart_own h1 hn h.2 hne ha)
  exact ⟨⟨h.1.len, h.1.at_.keep hb, h.1.blk⟩, h.2.keep hb⟩
end Go.Proofs.YtedopiojidaeiaaGreatDoor
/- journal's first and batches. -/
set_option linter.unusedSimpArgs false
set_option linter.unusedVariables false
namespace Go.Proofs.YtedopiojidaeiaaGreatDoor
open Go.RowKit Go.Deep

def FirstPost (s : List UInt8) (w : World) (e : Ending) (w' : World) : Prop :=
  ∃ v, e = .returned (.tuple #[v, .string ⟨(firstL s).2.1.toArray⟩, .int .i64 (firstL s).2.2]) ∧ OwnG strEl w.heap.size w' v (firstL s).1 ∧ Bel w w'
set_option maxHeartbeats 4000000 in
theorem jfirst_any (s : ByteArray) (w : World) (hs : s.size ≤ 1000000) :
    Calls Tryz.prog 139 #[.string s] w (FirstPost s.data.toList w) := by
  obtain ⟨t, r, e, hU⟩ : ∃ t r e, unframeL s.data.toList = (t, r, e) := ⟨_, _, _, rfl⟩
  have HT := Lib.hid (show unV s.data.toList = .tuple #[.string ⟨t.toArray⟩, .string ⟨r.toArray⟩, .int .i64 e] by rw [unV, hU])
  by_cases he : e = 0
  · subst he
    have hp := unframe_payload hU
    have htz := str_len t
    have HTL := Lib.hid (str_list t)
    cases hu : unbL t with
    | some l =>
      have HF := Lib.hid (first_ok hU hu)
      have HUS := Lib.hid (show unbS (⟨t.toArray⟩ : ByteArray).data.toList = (l, 0) by rw [HTL.out]; exact unbs_some hu)
      clear hU hu
      go_enter Tryz.func139, Tryz.ntmps139
      go_wp2_with (fail)
      refine (unframe_any s w hs).mono ?_
      rintro e w1 ⟨rfl, hb1⟩
      rw [HT.out]
      have HB1 := Lib.hid hb1; clear hb1
      go_wp2_with (fail)
      refine (unbatch_any ⟨t.toArray⟩ _ (by omega)).mono ?_
      rintro e w2 ⟨v, rfl, hown, hb2⟩
      rw [HUS.out] at hown ⊢
      have HB2 := Lib.hid (HB1.out.trans hb2)
      have HV := Lib.hid (hown.low HB1.out.size)
      clear hown hb2
      go_wp2_with (fail)
      go_ret3
      exact ⟨_, by rw [HF.out]; rfl, by rw [HF.out]; exact HV.out, HB2.out⟩
    | none =>
      have HF := Lib.hid (first_form hU hu)
      have HUS := Lib.hid (show unbS (⟨t.toArray⟩ : ByteArray).data.toList = ([], 8) by rw [HTL.out]; exact unbs_none hu)
      clear hU hu
      go_enter Tryz.func139, Tryz.ntmps139
      go_wp2_with (fail)
      refine (unframe_any s w hs).mono ?_
      rintro e w1 ⟨rfl, hb1⟩
      rw [HT.out]
      have HB1 := Lib.hid hb1; clear hb1
      go_wp2_with (fail)
      refine (unbatch_any ⟨t.toArray⟩ _ (by omega)).mono ?_
      rintro e w2 ⟨v, rfl, hown, hb2⟩
      rw [HUS.out] at hown ⊢
      have HB2 := Lib.hid (HB1.out.trans hb2)
      clear hown hb2
      go_wp2_with (fail)
      go_ret3
      exact ⟨_, by rw [HF.out]; rfl, by rw [HF.out]; exact OwnG.nil _ _ _, HB2.out⟩
  · have HF := Lib.hid (first_err hU he)
    have he3 := (unframe_err hU he).2.2
    by_cases h10 : e = 10
    · subst h10
      rw [if_pos rfl] at HF
      clear hU
      go_enter Tryz.func139, Tryz.ntmps139
      go_wp2_with (fail)
      refine (unframe_any s w hs).mono ?_
      rintro e w1 ⟨rfl, hb1⟩
      rw [HT.out]
      have HB1 := Lib.hid hb1; clear hb1
      go_wp2_with (fail)
      go_ret3
      exact ⟨_, by rw [HF.out]; rfl, by rw [HF.out]; exact OwnG.nil _ _ _, HB1.out⟩
    · rw [if_neg h10] at HF
      clear hU
      go_enter Tryz.func139, Tryz.ntmps139
      go_wp2_with (fail)
      refine (unframe_any s w hs).mono ?_
      rintro e' w1 ⟨rfl, hb1⟩
      rw [HT.out]
      have HB1 := Lib.hid hb1; clear hb1
      have hx1 : (e == 10) = false := by rw [beq_eq_false_iff_ne]; exact h10
      have hx2 : (e == 0) = false := by rw [beq_eq_false_iff_ne]; exact he
      have hx3 : (e != 0) = true := by rw [bne_iff_ne]; exact he
      go_wp2_with (fail)
      go_ret3
      exact ⟨_, by rw [HF.out]; rfl, by rw [HF.out]; exact OwnG.nil _ _ _, HB1.out⟩

def BatPost (s : List UInt8) (w : World) (e : Ending) (w' : World) : Prop :=
  ∃ v, e = .returned (.tuple #[v, .int .i64 ((readL s).2.1 : Nat), .int .i64 (readL s).2.2]) ∧ OwnL 0 (fun k => w.heap.size ≤ k) w.heap.size w' v (readL s).1 ∧ Bel w w'
def BaRel (s : List UInt8) (w : World) (ov rv : Value) (x : World) : Prop :=
  ∃ (acc : List (List (List UInt8))) (r : ByteArray), rv = .string r ∧ r.size ≤ s.length ∧ acc.length + r.size ≤ s.length ∧ OwnL 0 (fun k => w.heap.size ≤ k) w.heap.size x ov acc ∧
    readL s = (acc ++ (readL r.data.toList).1, s.length - r.size + (readL r.data.toList).2.1, (readL r.data.toList).2.2) ∧ Bel w x
set_option maxHeartbeats 4000000 in
theorem batches_any (s : ByteArray) (w : World) (hs : s.size ≤ 1000000) :
    Calls Tryz.prog 116 #[.string s] w (BatPost s.data.toList w) := by
  have hsl : s.data.toList.length = s.size := rfl
  go_enter Tryz.func116, Tryz.ntmps116
  go_wp2_with (fail)
  go_loopw [5, 6] (fun ov rv x => BaRel s.data.toList w ov rv x) (fun _ rv _ => strLen rv)
  case atStart => exact ⟨[], s, rfl, Nat.le_refl _, by simp [hsl], OwnL.nil _ _ _ _, by rw [hsl]; simp, Bel.refl w⟩
  case round =>
    obtain ⟨acc, r, rfl, hrs, hacc, hown, hu, hb⟩ := hrel
    rw [hsl] at hrs hacc
    obtain ⟨pp, cap, hpv⟩ := hown.len
    subst hpv
    have HU := Lib.hid hu; clear hu
    have HV := Lib.hid hown; clear hown
    have HB := Lib.hid hb; clear hb
    by_cases hr0 : r.size = 0
    · obtain rfl : r = ⟨#[]⟩ := by apply ByteArray.ext; exact Array.eq_empty_of_size_eq_zero hr0
      have hX := HU.out
      have e0 : (⟨#[]⟩ : ByteArray).data.toList = [] := rfl
      rw [e0, read_nil] at hX
      have HX := Lib.hid (show readL s.data.toList = (acc, s.size, 0) by rw [hX]; simp [hsl]; rfl)
      clear hX
      go_wp2_with (fail)
      go_ret3
      exact ⟨_, by rw [HX.out]; rfl, by rw [HX.out]; exact HV.out, HB.out⟩
    · have hnl := ne_nil r hr0
      have hne : r.toList.isEmpty = false := by rw [ByteArray.toList_eq]; cases h : r.data.toList with | nil => exact absurd h hnl | cons a l => rfl
      obtain ⟨l, rest, e, hF⟩ : ∃ l rest e, firstL r.data.toList = (l, rest, e) := ⟨_, _, _, rfl⟩
      have hrl : r.data.toList.length = r.size := rfl
      have HF := Lib.hid hF
      by_cases he : e = 0
      · subst he
        obtain ⟨t, -, -, hlt⟩ := first_rest hF
        rw [hrl] at hlt
        have hX := HU.out
        rw [read_next hF] at hX
        have HX := Lib.hid (show readL s.data.toList = (acc ++ [l] ++ (readL rest).1, s.size - rest.length + (readL rest).2.1, (readL rest).2.2) by
          rw [hX, hrl, hsl]; simp only [List.append_assoc, List.singleton_append, Prod.mk.injEq, true_and, and_true]; omega)
        clear hX hnl hF
        go_wp2_with (fail)
        refine (jfirst_any r _ (by omega)).mono ?_
        rintro e w1 ⟨lv, rfl, hlo, hb⟩
        rw [HF.out] at hlo ⊢
        obtain ⟨lp, lc, rfl, hsa⟩ := SlAt.own (hlo.low HB.out.size)
        have HSA := Lib.hid hsa
        replace HB := Lib.hid (HB.out.trans hb)
        replace HV := Lib.hid (HV.out.bel hb); clear hb hlo hsa
        obtain ⟨H, h1, h2, h3⟩ := HV.out.ex
        have HG := Lib.hid h1
        have H3 := Lib.hid h3
        clear h1 h3
        go_wp2_with (at_builtin; refine stop_here ?_)
        refine go_on ?_
        have hal : acc.length ≤ 1000000 := by omega
        refine append_keep (L := H) slOk rfl _ _ rfl rfl (HG.out.alloc _) _ _ _ [⟨lp, l.length, lc⟩] rfl rfl (cellsG_new _ _ _ _ rfl) (by unfold maxLen; simp only [List.length_singleton]; omega) (by simp only [List.length_singleton]; omega) (HB.out.alloc _).size ?_
        intro v3 w3 hown3 hbel3 hkeep
        have HB3 := Lib.hid ((HB.out.alloc _).trans_below hbel3)
        have HE := Lib.hid (els_app h2 (els_keep (HG.out.alloc _) (Nat.zero_le _) (fun i s l hs hl => ⟨(H3.out i s l hs hl).1.bel ((Bel.refl _).alloc _), (H3.out i s l hs hl).2.bel ((Bel.refl _).alloc _)⟩) hkeep)
          (els_one (one_keep (HG.out.alloc _) (Nat.zero_le _) ⟨HSA.out.1.bel ((Bel.refl _).alloc _), HSA.out.2.bel ((Bel.refl _).alloc _)⟩ hkeep)))
        obtain ⟨p3, c3, hv3⟩ := ownG_len hown3
        have HO := Lib.hid (show OwnL 0 (fun k => w.heap.size ≤ k) w.heap.size w3 v3 (acc ++ [l]) from ⟨_, hown3, by simp [h2], HE.out⟩)
        rw [List.length_append, h2, List.length_singleton] at hv3
        subst hv3
        clear hown3 hbel3 hkeep HE
        have HSZ := Lib.hid (str_len rest)
        go_wp2_with (fail)
        go_roundw
        case rel => exact ⟨acc ++ [l], ⟨rest.toArray⟩, rfl, by rw [HSZ.out, hsl]; omega, by rw [HSZ.out, hsl]; simp; omega, HO.out, by rw [HSZ.out, str_list, hsl]; exact HX.out, HB3.out⟩
        case measure => simp only [strLen]; rw [HSZ.out]; omega
      · obtain ⟨rfl, rfl, he3⟩ := first_fail hF he
        have hX := HU.out
        rw [read_end hnl hF he] at hX
        have HX := Lib.hid (show readL s.data.toList = (acc, s.size - r.size, e) by
          rw [hX, hsl]; simp)
        clear hX hnl hF
        have hx3 : (e != 0) = true := by rw [bne_iff_ne]; exact he
        have hx2 : (e == 0) = false := by rw [beq_eq_false_iff_ne]; exact he
        go_wp2_with (fail)
        refine (jfirst_any r _ (by omega)).mono ?_
        rintro e' w1 ⟨lv, rfl, hlo, hb⟩
        rw [HF.out]
        replace HB := Lib.hid (HB.out.trans hb)
        replace HV := Lib.hid (HV.out.bel hb); clear hb hlo
        have hsub : ((s.size : Int) - (r.size : Int)) = ((s.size - r.size : Nat) : Int) := by omega
        go_wp2_with (fail)
        go_ret3
        exact ⟨_, by rw [HX.out]; rfl, by rw [HX.out]; exact HV.out, HB.out⟩
end Go.Proofs.YtedopiojidaeiaaGreatDoor
/- journal's whole, mended. -/
set_option linter.unusedSimpArgs false
set_option linter.unusedVariables false
namespace Go.Proofs.YtedopiojidaeiaaGreatDoor
open Go.RowKit Go.Deep Go.Maps

/-- Blocks that were laid since w, and are none of the files F. -/
def Qb (w x : World) (F : List Nat) (k : Nat) : Prop := w.heap.size ≤ k ∧ k < x.heap.size ∧ k ∉ F
structure OwnQ (w x : World) (F : List Nat) (v : Value) (L : List (List (List UInt8))) : Prop where
  own : OwnL 0 (Qb w x F) w.heap.size x v L
  blk : ∀ k, v.ownBlock = some k → Qb w x F k
theorem OwnQ.nil (w x : World) (F : List Nat) : OwnQ w x F (.slice none 0 0) [] := ⟨OwnL.nil _ _ _ _, fun k hk => by cases hk⟩
theorem Qb.bel {w x y : World} {F : List Nat} {k : Nat} (h : Qb w x F k) (hb : Bel x y) : Qb w y F k := ⟨h.1, Nat.lt_of_lt_of_le h.2.1 hb.size, h.2.2⟩
theorem OwnQ.bel {w x y : World} {F : List Nat} {v : Value} {L : List (List (List UInt8))} (h : OwnQ w x F v L) (hb : Bel x y) : OwnQ w y F v L :=
  ⟨(h.own.bel hb).mono (fun k hk => hk.bel hb) (Nat.le_refl _), fun k hk => (h.blk k hk).bel hb⟩
theorem OwnQ.step {w x y : World} {F G : List Nat} {v : Value} {L : List (List (List UInt8))} (h : OwnQ w x F v L) (hk : Keep F x y) (hG : ∀ k ∈ G, k ∈ F ∨ x.heap.size ≤ k) : OwnQ w y G v L := by
  have hq : ∀ k, Qb w x F k → y.heap[k]? = x.heap[k]? := fun k h => hk.block k h.2.1 h.2.2
  have hm : ∀ k, Qb w x F k → Qb w y G k := fun k h => ⟨h.1, Nat.lt_of_lt_of_le h.2.1 hk.size, fun hm => by
    rcases hG k hm with h1 | h1
    · exact h.2.2 h1
    · have := h.2.1; omega⟩
  exact ⟨(h.own.keep hq (fun k hk' => hq k (h.blk k hk'))).mono hm (Nat.le_refl _), fun k hk' => hm k (h.blk k hk')⟩
theorem OwnQ.lower {w w' x : World} {F : List Nat} {v : Value} {L : List (List (List UInt8))} (h : OwnQ w x F v L) (hw : w'.heap.size ≤ w.heap.size) : OwnQ w' x F v L :=
  ⟨(h.own.low hw).mono (fun k hk => ⟨Nat.le_trans hw hk.1, hk.2⟩) (Nat.le_refl _), fun k hk => ⟨Nat.le_trans hw (h.blk k hk).1, (h.blk k hk).2⟩⟩
theorem OwnL.bound {n : Nat} {P : Nat → Prop} {B : Nat} {x : World} {v : Value} {L : List (List (List UInt8))} (h : OwnL n P B x v L) : OwnL n (fun k => P k ∧ k < x.heap.size) B x v L := by
  obtain ⟨H, h1, h2, h3⟩ := h.ex
  refine ⟨H, h1, h2, fun i s l hs hl => ?_⟩
  obtain ⟨q1, q2⟩ := h3 i s l hs hl
  exact ⟨⟨q1.len, q1.at_, fun hne a ha => ⟨q1.blk hne a ha, strs_lt q1.at_ hne a ha⟩⟩, q2⟩
theorem OwnL.ownlt {n : Nat} {P : Nat → Prop} {B : Nat} {x : World} {v : Value} {L : List (List (List UInt8))} (h : OwnL n P B x v L) : ∀ k, v.ownBlock = some k → B ≤ k ∧ k < x.heap.size := by
  obtain ⟨H, h1, h2, h3⟩ := h.ex
  exact h1.lt
theorem OwnQ.of {x y : World} {F : List Nat} {v : Value} {L : List (List (List UInt8))} (h : OwnL 0 (fun k => x.heap.size ≤ k) x.heap.size y v L) (hF : ∀ k ∈ F, k < x.heap.size) : OwnQ x y F v L :=
  ⟨h.bound.mono (fun k hk => ⟨hk.1, hk.2, fun hm => by have := hF k hm; omega⟩) (Nat.le_refl _), fun k hk => by
    have := h.ownlt k hk
    exact ⟨this.1, this.2, fun hm => by have := hF k hm; omega⟩⟩
theorem prog_lt {n : Nat} {x : World} {b : Nat} {M : RS} {F : List Nat} (h : ProgAt n x b M F) : ∀ k ∈ F, k < x.heap.size := fun k hk => (h.within k hk).2
theorem read_lt : ∀ (n : Nat) (s : List UInt8), s.length ≤ n → (readL s).2.2 ≠ 0 → (readL s).2.1 < s.length
  | n, s, hn, he => by
    by_cases hs : s = []
    · subst hs; exact absurd rfl he
    obtain ⟨l, r, e, hF⟩ : ∃ l r e, firstL s = (l, r, e) := ⟨_, _, _, rfl⟩
    by_cases h0 : e = 0
    · subst h0
      obtain ⟨t, -, -, hlt⟩ := first_rest hF
      rw [read_next hF] at he ⊢
      cases n with
      | zero => omega
      | succ n =>
        have := read_lt n r (by omega) he
        simp only; omega
    · rw [read_end hs hF h0]
      exact List.length_pos_iff.2 hs
/-- What the reading of a segment leaves. -/
def RdPost (n₀ : Nat) (w : World) (b : Nat) (F : List Nat) (M' : RS) (L : List (List (List UInt8))) (err : Int) (e : Ending) (y : World) : Prop :=
  ∃ v F', e = .returned (.tuple #[v, .int .i64 err]) ∧ ProgAt n₀ y b M' F' ∧ Keep F w y ∧ (∀ k ∈ F', k ∈ F ∨ w.heap.size ≤ k) ∧ OwnQ w y F' v L
def wholeS (s : List UInt8) : List (List (List UInt8)) × Int := if (readL s).2.2 = 0 then ((readL s).1, 0) else ([], (readL s).2.2)

set_option maxHeartbeats 4000000 in
theorem whole_any (n₀ : Nat) (w : World) (b : Nat) (M : RS) (F : List Nat) (nm : ByteArray) (y : FI) (h : ProgAt n₀ w b M F) (hM : M.ok) (hg : M.gone = false) (hnm : nm.size ≤ 1000) (hy : getF nm.data.toList M.L = some y) (hsz : y.bytes.length ≤ 1000000) :
    Calls Tryz.prog 94 #[.pointer (some ⟨b, 0, none⟩), .string nm] w (RdPost n₀ w b F M (wholeS y.bytes).1 (wholeS y.bytes).2) := by
  have HP := Lib.hid h
  have HFL := Lib.hid (prog_lt h)
  have HGS := Lib.hid (show getS nm.data.toList M = (y.bytes, 0) by unfold getS; rw [hg, hy]; rfl)
  have hbz := str_len y.bytes
  have HBL := Lib.hid (str_list y.bytes)
  obtain ⟨L, k, e, hR⟩ : ∃ L k e, readL y.bytes = (L, k, e) := ⟨_, _, _, rfl⟩
  have HR := Lib.hid hR
  have HW := Lib.hid (show wholeS y.bytes = if e = 0 then (L, 0) else ([], e) by unfold wholeS; rw [hR])
  clear h hy hR hM
  go_enter Tryz.func94, Tryz.ntmps94
  go_wp2_with (fail)
  refine (pget_any n₀ w b M F nm HP.out (by unfold maxLen; omega)).mono ?_
  rintro e' w1 ⟨rfl, hb1⟩
  rw [HGS.out]
  have HB1 := Lib.hid hb1; clear hb1
  go_wp2_with (fail)
  refine (batches_any ⟨y.bytes.toArray⟩ _ (by omega)).mono ?_
  rintro e' w2 ⟨v, rfl, hown, hb2⟩
  rw [str_list, HR.out] at hown ⊢
  have HB2 := Lib.hid (HB1.out.trans hb2)
  have HO := Lib.hid ((OwnQ.of hown (F := F) (fun k hk => Nat.lt_of_lt_of_le (HFL.out k hk) HB1.out.size)).lower HB1.out.size)
  clear hown hb2
  by_cases he : e = 0
  · subst he
    rw [if_pos rfl] at HW
    go_wp2_with (fail)
    go_ret2
    rw [HW.out]
    exact ⟨_, F, rfl, HP.out.bel HB2.out, Keep.of_bel HB2.out F, fun k hk => Or.inl hk, HO.out⟩
  · rw [if_neg he] at HW
    have hx3 : (e != 0) = true := by rw [bne_iff_ne]; exact he
    have hx2 : (e == 0) = false := by rw [beq_eq_false_iff_ne]; exact he
    go_wp2_with (fail)
    go_ret2
    rw [HW.out]
    exact ⟨_, F, rfl, HP.out.bel HB2.out, Keep.of_bel HB2.out F, fun k hk => Or.inl hk, OwnQ.nil _ _ _⟩
def mendedS (nm : List UInt8) (s : List UInt8) (M : RS) : List (List (List UInt8)) × Int × RS :=
  if (readL s).2.2 = 0 then ((readL s).1, 0, M) else if (mendS nm ((readL s).2.1 : Nat) M).1 = 0 then ((readL s).1, 0, (mendS nm ((readL s).2.1 : Nat) M).2) else ([], (mendS nm ((readL s).2.1 : Nat) M).1, (mendS nm ((readL s).2.1 : Nat) M).2)
set_option maxHeartbeats 4000000 in
theorem mended_any (n₀ : Nat) (w : World) (b : Nat) (M : RS) (F : List Nat) (nm : ByteArray) (y : FI) (h : ProgAt n₀ w b M F) (hM : M.ok) (hg : M.gone = false) (hnm : nm.size ≤ 1000) (hy : getF nm.data.toList M.L = some y) (hsz : y.bytes.length ≤ 1000000) :
    Calls Tryz.prog 95 #[.pointer (some ⟨b, 0, none⟩), .string nm] w (RdPost n₀ w b F (mendedS nm.data.toList y.bytes M).2.2 (mendedS nm.data.toList y.bytes M).1 (mendedS nm.data.toList y.bytes M).2.1) := by
  have HP := Lib.hid h
  have HM := Lib.hid hM
  have HFL := Lib.hid (prog_lt h)
  have HGS := Lib.hid (show getS nm.data.toList M = (y.bytes, 0) by unfold getS; rw [hg, hy]; rfl)
  have hbz := str_len y.bytes
  have HBL := Lib.hid (str_list y.bytes)
  obtain ⟨L, k, e, hR⟩ : ∃ L k e, readL y.bytes = (L, k, e) := ⟨_, _, _, rfl⟩
  have HR := Lib.hid hR
  have HW := Lib.hid (show mendedS nm.data.toList y.bytes M = if e = 0 then (L, 0, M) else if (mendS nm.data.toList k M).1 = 0 then (L, 0, (mendS nm.data.toList k M).2) else ([], (mendS nm.data.toList k M).1, (mendS nm.data.toList k M).2) by unfold mendedS; rw [hR])
  have hsize := read_size y.bytes.length y.bytes (Nat.le_refl _)
  have hlt := read_lt y.bytes.length y.bytes (Nat.le_refl _)
  rw [hR] at hsize hlt
  simp only at hsize hlt
  clear h hy hR hM
  go_enter Tryz.func95, Tryz.ntmps95
  go_wp2_with (fail)
  refine (pget_any n₀ w b M F nm HP.out (by unfold maxLen; omega)).mono ?_
  rintro e' w1 ⟨rfl, hb1⟩
  rw [HGS.out]
  have HB1 := Lib.hid hb1; clear hb1
  go_wp2_with (fail)
  refine (batches_any ⟨y.bytes.toArray⟩ _ (by omega)).mono ?_
  rintro e' w2 ⟨v, rfl, hown, hb2⟩
  rw [str_list, HR.out] at hown ⊢
  have HB2 := Lib.hid (HB1.out.trans hb2)
  have HO := Lib.hid ((OwnQ.of hown (F := F) (fun k hk => Nat.lt_of_lt_of_le (HFL.out k hk) HB1.out.size)).lower HB1.out.size)
  clear hown hb2
  by_cases he : e = 0
  · subst he
    rw [if_pos rfl] at HW
    have hk : k = y.bytes.length := hsize.2.2.1 rfl
    subst hk
    clear hsize hlt
    go_wp2_with (fail)
    go_ret2
    rw [HW.out]
    exact ⟨_, F, rfl, HP.out.bel HB2.out, Keep.of_bel HB2.out F, fun k hk => Or.inl hk, HO.out⟩
  · rw [if_neg he] at HW
    have hkl := hlt he
    have hne : ((k : Int) == (y.bytes.length : Int)) = false := by rw [beq_eq_false_iff_ne]; omega
    clear hsize hlt
    have HKZ := Lib.hid (show in64 (k : Int) from ⟨by omega, by omega⟩)
    obtain ⟨M1, r1, hc⟩ : ∃ M1 r1, cutS nm.data.toList (k : Int) M = (r1, M1) := ⟨_, _, rfl⟩
    have HC := Lib.hid hc
    have HM1 := Lib.hid (show M1.ok by have := cut_ok HM.out nm.data.toList (k : Int); rwa [hc] at this)
    clear hc
    go_wp2_with (fail)
    refine (pcut_any n₀ w2 b M F nm k HKZ.out (fun z hz => (each_ok HM.out z hz).1) (HP.out.bel HB2.out) (by unfold maxLen; omega) HM.out.srt (good_len HM.out)).mono ?_
    rintro e' w3 ⟨rfl, hT3⟩
    rw [HC.out] at hT3 ⊢
    obtain ⟨F3, hP3, hK3, hF3⟩ := hT3
    have HP3 := Lib.hid hP3
    have HK3 := Lib.hid hK3
    have HF3 := Lib.hid hF3
    have HO3 := Lib.hid (HO.out.step hK3 hF3)
    clear hP3 hK3 hF3
    by_cases h1 : r1 = 0
    · subst h1
      obtain ⟨M2, r2, hf⟩ : ∃ M2 r2, flushS nm.data.toList M1 = (r2, M2) := ⟨_, _, rfl⟩
      have HFl := Lib.hid hf
      have HMD := Lib.hid (show mendS nm.data.toList (k : Int) M = (r2, M2) by unfold mendS; rw [HC.out, if_neg (by simp)]; exact hf)
      rw [HMD.out] at HW
      clear hf
      go_wp2_with (fail)
      refine (pflush_any n₀ w3 b M1 F3 nm HP3.out (by unfold maxLen; omega) HM1.out.srt (good_len HM1.out)).mono ?_
      rintro e' w4 ⟨rfl, hT4⟩
      rw [HFl.out] at hT4 ⊢
      obtain ⟨F4, hP4, hK4, hF4⟩ := hT4
      have HP4 := Lib.hid hP4
      have HO4 := Lib.hid (HO3.out.step hK4 hF4)
      have HK4 := Lib.hid (show Keep F w w4 from ((Keep.of_bel HB2.out F).trans HK3.out (fun x hx => Or.inl hx)).trans hK4 (fun x hx => (HF3.out x hx).imp id (fun h => Nat.le_trans HB2.out.size h)))
      have HF4 := Lib.hid (show ∀ k ∈ F4, k ∈ F ∨ w.heap.size ≤ k from fun x hx => by
        rcases hF4 x hx with h | h
        · exact (HF3.out x h).imp id (fun h => Nat.le_trans HB2.out.size h)
        · exact Or.inr (Nat.le_trans HB2.out.size (Nat.le_trans HK3.out.size h)))
      clear hP4 hK4 hF4
      by_cases h2 : r2 = 0
      · subst h2
        rw [if_pos rfl] at HW
        go_wp2_with (fail)
        go_ret2
        rw [HW.out]
        exact ⟨_, F4, rfl, HP4.out, HK4.out, HF4.out, HO4.out⟩
      · rw [if_neg h2] at HW
        have hx3 : (r2 != 0) = true := by rw [bne_iff_ne]; exact h2
        have hx2 : (r2 == 0) = false := by rw [beq_eq_false_iff_ne]; exact h2
        go_wp2_with (fail)
        go_ret2
        rw [HW.out]
        exact ⟨_, F4, rfl, HP4.out, HK4.out, HF4.out, OwnQ.nil _ _ _⟩
    · have HMD := Lib.hid (show mendS nm.data.toList (k : Int) M = (r1, M1) by unfold mendS; rw [HC.out, if_pos h1])
      rw [HMD.out] at HW
      rw [if_neg h1] at HW
      have hx3 : (r1 != 0) = true := by rw [bne_iff_ne]; exact h1
      have hx2 : (r1 == 0) = false := by rw [beq_eq_false_iff_ne]; exact h1
      go_wp2_with (fail)
      go_ret2
      rw [HW.out]
      exact ⟨_, F3, rfl, HP3.out, (Keep.of_bel HB2.out F).trans HK3.out (fun x hx => Or.inl hx), fun x hx => (HF3.out x hx).imp id (fun h => Nat.le_trans HB2.out.size h), OwnQ.nil _ _ _⟩
end Go.Proofs.YtedopiojidaeiaaGreatDoor
