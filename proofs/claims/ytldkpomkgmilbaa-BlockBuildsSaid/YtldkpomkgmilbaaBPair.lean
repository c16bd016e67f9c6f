/- Slices of pairs, that came in or that a call has made; areIncreasing and Rises; the laws' pick, as, alike, same and rising. -/
import Derived.Test.YtldkpomkgmilbaaBCom
import Derived.Test.YtldkpomkgmilbaaOwnG
import Derived.Test.YtldkpomkgmilbaaVTake
import Derived.Test.YtldkpomkgmilbaaCmp2
set_option linter.unusedSimpArgs false
set_option linter.unusedVariables false
namespace Go.Proofs.Ytldkpomkgmilbaa
open Go.RowKit Go.Deep

structure PB where
  k : ByteArray
  v : ByteArray
def PB.pr (p : PB) : PR := ⟨p.k.data.toList, p.v.data.toList⟩
def bp (p : PR) : PB := ⟨⟨p.k.toArray⟩, ⟨p.v.toArray⟩⟩
theorem pr_bp (p : PR) : (bp p).pr = p := by cases p; simp [bp, PB.pr]
theorem bp_pr (p : PB) : bp p.pr = p := by obtain ⟨⟨a⟩, ⟨b⟩⟩ := p; simp [bp, PB.pr]
def prs (L : List PB) : List PR := L.map PB.pr
theorem prs_len (L : List PB) : (prs L).length = L.length := List.length_map ..
theorem prs_inj {L M : List PB} (h : prs L = prs M) : L = M := by
  have := congrArg (List.map bp) h
  simpa [prs, List.map_map, Function.comp_def, bp_pr] using this
theorem prs_app (L M : List PB) : prs (L ++ M) = prs L ++ prs M := List.map_append ..
theorem prs_get (L : List PB) (i : Nat) (h : i < L.length) : (prs L)[i]'(by rw [prs_len]; exact h) = L[i].pr := List.getElem_map ..
theorem prs_bp (L : List PR) : prs (L.map bp) = L := by simp [prs, List.map_map, Function.comp_def, pr_bp]
def pairEl : El PB := ⟨50, 22, 2, fun p => [.string p.k, .string p.v]⟩
theorem pairOk : ElOk pairEl 32 := ⟨fun _ => rfl, fun a u hu => by simp [pairEl] at hu; rcases hu with rfl | rfl <;> rfl, by kernel_rfl, ⟨.agg #[.string ⟨#[]⟩, .string ⟨#[]⟩], by kernel_rfl, rfl⟩, by decide⟩
def rpairEl : El PB := ⟨54, 24, 2, fun p => [.string p.k, .string p.v]⟩
theorem rpairOk : ElOk rpairEl 32 := ⟨fun _ => rfl, fun a u hu => by simp [rpairEl] at hu; rcases hu with rfl | rfl <;> rfl, by kernel_rfl, ⟨.agg #[.string ⟨#[]⟩, .string ⟨#[]⟩], by kernel_rfl, rfl⟩, by decide⟩
/-- The slice at p holds the pairs L. -/
def PairsAt (w : World) (p : Option Addr) (L : List PB) : Prop := ∀ i (h : i < L.length), ∃ a B O sp, p = some a ∧ a.add (i * 2) = ⟨B, O, sp⟩ ∧ w.cell? ⟨B, O, sp⟩ = some (.string L[i].k) ∧ w.cell? ⟨B, O + 1, none⟩ = some (.string L[i].v)
theorem block_of_cell {w : World} {a : Addr} {v : Value} (h : w.cell? a = some v) : a.block < w.heap.size := World.block_lt_of_cell? _ _ h
theorem PairsAt.bel {w x : World} {p : Option Addr} {L : List PB} (h : PairsAt w p L) (hb : Bel w x) : PairsAt x p L := by
  intro i hi
  obtain ⟨a, B, O, sp, h1, h2, c0, c1⟩ := h i hi
  exact ⟨a, B, O, sp, h1, h2, (Below.cell hb (block_of_cell c0)).trans c0, (Below.cell hb (block_of_cell c1)).trans c1⟩
theorem PairsAt.nil (w : World) (p : Option Addr) : PairsAt w p [] := fun i hi => by simp at hi
theorem pairs_of {E : El PB} (hE : ElOk E 32) (hn : E.n = 2) (hc : E.cells = fun p => [.string p.k, .string p.v]) {B : Nat} {w : World} {v : Value} {L : List PB} (h : OwnG E B w v L) : ∃ p cap, v = .slice p L.length cap ∧ PairsAt w p L := by
  by_cases hL : L = []
  · subst hL
    obtain ⟨p, cap, hv⟩ := ownG_len h
    exact ⟨p, cap, hv, fun i hi => by simp at hi⟩
  · obtain ⟨g, cap, hv, _, _, _, hc'⟩ := ownG_cells hE h hL
    refine ⟨_, cap, hv, fun i hi => ⟨_, g, i * 2, none, rfl, ?_, ?_, ?_⟩⟩
    · by_cases h0 : i * 2 = 0
      · rw [h0]; rfl
      · simp [Addr.add, h0]
    · have := hc' i L[i] (List.getElem?_eq_getElem hi) 0 (.string L[i].k) (by rw [hc]; rfl)
      rw [hn] at this; exact this
    · have := hc' i L[i] (List.getElem?_eq_getElem hi) 1 (.string L[i].v) (by rw [hc]; rfl)
      rw [hn] at this; exact this
theorem ownG_pairs {B : Nat} {w : World} {v : Value} {L : List PB} (h : OwnG pairEl B w v L) : ∃ p cap, v = .slice p L.length cap ∧ PairsAt w p L := pairs_of pairOk rfl rfl h
theorem ownG_rpairs {B : Nat} {w : World} {v : Value} {L : List PB} (h : OwnG rpairEl B w v L) : ∃ p cap, v = .slice p L.length cap ∧ PairsAt w p L := pairs_of rpairOk rfl rfl h
def smallP (n : Nat) (L : List PB) : Prop := ∀ i (h : i < L.length), L[i].k.size ≤ n ∧ L[i].v.size ≤ n
theorem ba_eq {a b : ByteArray} (h : a.data.toList = b.data.toList) : a = b := by
  rw [← ba_list a, ← ba_list b, h]

theorem incF_adj : ∀ (L : List PR) (prev : List UInt8), (∀ h : 0 < L.length, Op.bytesLess prev L[0].k = true) → (∀ i (h : i + 1 < L.length), Op.bytesLess L[i].k L[i + 1].k = true) → incF prev L = true
  | [], _, _, _ => rfl
  | q :: L, prev, h0, h => by
    simp only [incF, Bool.and_eq_true]
    refine ⟨h0 (by simp), incF_adj L q.k (fun hl => ?_) (fun i hi => ?_)⟩
    · simpa using h 0 (by simp; omega)
    · have := h (i + 1) (by simp; omega)
      rwa [List.getElem_cons_succ, List.getElem_cons_succ] at this
theorem incB_adj (L : List PR) (h : ∀ i (h : i + 1 < L.length), Op.bytesLess L[i].k L[i + 1].k = true) : incB L = true := by
  cases L with
  | nil => rfl
  | cons q L =>
    refine incF_adj L q.k (fun hl => ?_) (fun i hi => ?_)
    · simpa using h 0 (by simp; omega)
    · have := h (i + 1) (by simp; omega)
      rwa [List.getElem_cons_succ, List.getElem_cons_succ] at this
theorem incB_get {L : List PR} (h : incB L = true) (i j : Nat) (hj : j < L.length) (hij : i < j) : Op.bytesLess L[i].k L[j].k = true :=
  List.pairwise_iff_getElem.1 (incB_pair L h) i j (by omega) hj hij
theorem inc_yes (L : List PB) (h : ∀ i (h : i + 1 < L.length), Op.bytesLess L[i].k.toList L[i + 1].k.toList = true) : incB (prs L) = true := by
  apply incB_adj
  intro i hi
  rw [prs_len] at hi
  have := h i hi
  rw [ByteArray.toList_eq, ByteArray.toList_eq] at this
  rw [prs_get L i (by omega), prs_get L (i + 1) hi]; exact this
theorem inc_no (L : List PB) (i : Nat) (hi : i + 1 < L.length) (h : Op.bytesLess L[i].k.toList L[i + 1].k.toList = false) : incB (prs L) = false := by
  cases hb : incB (prs L) with
  | false => rfl
  | true =>
    have := incB_get hb i (i + 1) (by rw [prs_len]; exact hi) (by omega)
    rw [prs_get L i (by omega), prs_get L (i + 1) hi] at this
    rw [ByteArray.toList_eq, ByteArray.toList_eq] at h
    simp only [PB.pr] at this
    rw [this] at h; cases h
def IncRel (L : List PB) (i : Value) : Prop := ∃ k : Nat, (k + 1 ≤ L.length ∨ k = 0) ∧ i = .int .i64 ((k : Int) + 1) ∧ ∀ j (h : j + 1 < L.length), j < k → Op.bytesLess L[j].k.toList L[j + 1].k.toList = true

set_option maxHeartbeats 2000000 in
theorem areinc_any (p : Option Addr) (cap : Nat) (L : List PB) (w : World) (h : PairsAt w p L) (hL : L.length ≤ 1000000) :
    Calls Try.prog 27 #[.slice p L.length cap] w fun e w' => e = .returned (.bool (incB (prs L))) ∧ Drw w w' := by
  have H := Lib.hid h; clear h
  go_enter Try.func27, Try.ntmps27
  go_wp2_with (fail)
  go_loopw [3] (fun i x => IncRel L i ∧ Drw w x) (fun i _ => L.length + 1 - (intOf i).toNat)
  case atStart => exact ⟨⟨0, Or.inr rfl, rfl, fun j _ h => by omega⟩, Drw.refl w⟩
  case round =>
    obtain ⟨⟨k, hk, rfl, hj⟩, hw⟩ := hrel
    have HJ := Lib.hid hj; clear hj
    have HW := Lib.hid hw; clear hw
    by_cases hlt : k + 1 < L.length
    · obtain ⟨a, B, O, sp, rfl, ha, c0, c1⟩ := (H.out.bel HW.out.bel) (k + 1) hlt
      obtain ⟨a', B', O', sp', hp, ha', c0', c1'⟩ := (H.out.bel HW.out.bel) k (by omega)
      cases hp
      have i1 : ((k : Int) + 1) < (L.length : Int) := by omega
      cases hless : Op.bytesLess L[k].k.toList L[k + 1].k.toList with
      | true =>
        have HN := Lib.hid (show ∀ j (h : j + 1 < L.length), j < k + 1 → Op.bytesLess L[j].k.toList L[j + 1].k.toList = true by
          intro j hj hjk
          by_cases e : j = k
          · subst e; exact hless
          · exact HJ.out j hj (by omega))
        have hor : (Op.bytesLess L[k + 1].k.toList L[k].k.toList || L[k + 1].k.toList == L[k].k.toList) = false := by rw [less_not, hless]; rfl
        rw [Bool.or_eq_false_iff] at hor
        obtain ⟨o1, o2⟩ := hor
        clear hless
        go_wp2_with (fail)
        go_quiet (fail)
        go_wp2_with (fail)
        go_roundw
        case rel => exact ⟨⟨k + 1, Or.inl (by omega), by go_num, HN.out⟩, HW.out.drewN _⟩
        case measure => simp [intOf]; omega
      | false =>
        have HN := Lib.hid (inc_no L k hlt hless)
        have hor : (Op.bytesLess L[k + 1].k.toList L[k].k.toList || L[k + 1].k.toList == L[k].k.toList) = true := by rw [less_not, hless]; rfl
        clear hless
        go_wp2_with (fail)
        go_quiet (fail)
        go_wp2_with (fail)
        go_ret
        exact ⟨ret_bool HN.out.symm, HW.out.drewN _⟩
    · have HN := Lib.hid (inc_yes L fun j hj => HJ.out j hj (by omega))
      have i1 : ¬ ((k : Int) + 1) < (L.length : Int) := by omega
      go_wp2_with (fail)
      go_ret
      exact ⟨ret_bool HN.out.symm, HW.out⟩

set_option maxHeartbeats 2000000 in
theorem rises_any (p : Option Addr) (cap : Nat) (L : List PB) (w : World) (h : PairsAt w p L) (hL : L.length ≤ 1000000) (hs : smallP 1000000 L) :
    Calls Try.prog 32 #[.slice p L.length cap] w fun e w' => e = .returned (.bool (incB (prs L))) ∧ Drw w w' := by
  have H := Lib.hid h; clear h
  have HSM := Lib.hid hs; clear hs
  go_enter Try.func32, Try.ntmps32
  go_wp2_with (fail)
  go_loopw [3] (fun i x => IncRel L i ∧ Drw w x) (fun i _ => L.length + 1 - (intOf i).toNat)
  case atStart => exact ⟨⟨0, Or.inr rfl, rfl, fun j _ h => by omega⟩, Drw.refl w⟩
  case round =>
    obtain ⟨⟨k, hk, rfl, hj⟩, hw⟩ := hrel
    have HJ := Lib.hid hj; clear hj
    have HW := Lib.hid hw; clear hw
    by_cases hlt : k + 1 < L.length
    · obtain ⟨a, B, O, sp, rfl, ha, c0, c1⟩ := (H.out.bel HW.out.bel) (k + 1) hlt
      obtain ⟨a', B', O', sp', hp, ha', c0', c1'⟩ := (H.out.bel HW.out.bel) k (by omega)
      cases hp
      have i1 : ((k : Int) + 1) < (L.length : Int) := by omega
      have s1 := (HSM.out (k + 1) hlt).1
      have s2 := (HSM.out k (by omega)).1
      have v2 : IntKind.i64.wrap (k : Int) = (k : Int) := IntWalk.i64_in _ (by omega)
      cases hless : Op.bytesLess L[k].k.toList L[k + 1].k.toList with
      | true =>
        have HN := Lib.hid (show ∀ j (h : j + 1 < L.length), j < k + 1 → Op.bytesLess L[j].k.toList L[j + 1].k.toList = true by
          intro j hj hjk
          by_cases e : j = k
          · subst e; exact hless
          · exact HJ.out j hj (by omega))
        have hc : ¬ (0 : Int) ≤ Lib.compareBytes L[k].k.data.toList L[k + 1].k.data.toList := by
          rw [cmp_geq, ← ByteArray.toList_eq, ← ByteArray.toList_eq, hless]; simp
        clear hless
        go_wp2_with (fail)
        go_quiet ((go_at_call 39; exact Calls.quiet_of (ref_bytes_any L[k].k L[k + 1].k _ (by unfold maxLen; omega) (by unfold maxLen; omega))))
        go_wp2_with (fail)
        go_roundw
        case rel => exact ⟨⟨k + 1, Or.inl (by omega), by go_num, HN.out⟩, by first | exact (HW.out.drewN _).drewN _ | exact HW.out.drewN _ | exact ((HW.out.drewN _).drewN _).drewN _⟩
        case measure => simp [intOf]; omega
      | false =>
        have HN := Lib.hid (inc_no L k hlt hless)
        have hc : (0 : Int) ≤ Lib.compareBytes L[k].k.data.toList L[k + 1].k.data.toList := by
          rw [cmp_geq, ← ByteArray.toList_eq, ← ByteArray.toList_eq, hless]
        clear hless
        go_wp2_with (fail)
        go_quiet ((go_at_call 39; exact Calls.quiet_of (ref_bytes_any L[k].k L[k + 1].k _ (by unfold maxLen; omega) (by unfold maxLen; omega))))
        go_wp2_with (fail)
        go_ret
        exact ⟨ret_bool HN.out.symm, by first | exact (HW.out.drewN _).drewN _ | exact HW.out.drewN _ | exact ((HW.out.drewN _).drewN _).drewN _⟩
    · have HN := Lib.hid (inc_yes L fun j hj => HJ.out j hj (by omega))
      have i1 : ¬ ((k : Int) + 1) < (L.length : Int) := by omega
      go_wp2_with (fail)
      go_ret
      exact ⟨ret_bool HN.out.symm, HW.out⟩
end Go.Proofs.Ytldkpomkgmilbaa
