/- The program's contents: saved, first, isSaved, extended; and appending a text to bytes of one's own: where they lie behind it. -/
import Derived.Test.YtedopiojidaeiaaFMap
import Derived.Lib.AppendStr
import Derived.BigRegion
set_option linter.unusedSimpArgs false
set_option linter.unusedVariables false
namespace Go.Proofs.Ytedopiojidaeiaa
open Go.RowKit Go.Deep

theorem own_len {B : Nat} {w : World} {v : Value} {l : List UInt8} (h : Own B w v l) : ∃ p cap, v = .slice p l.length cap ∧ l.length ≤ cap ∧ (∀ a, p = some a → a = ⟨a.block, 0, none⟩) ∧ (p = none → l.length = 0 ∧ cap = 0) := by
  rcases h.2 with ⟨h1, h0⟩ | ⟨g, cap, cur, rfl, hg, hh, hc, _⟩
  · exact ⟨none, 0, by rw [h1, h0], by omega, by simp, fun _ => ⟨h0, rfl⟩⟩
  · exact ⟨_, _, rfl, hc, by simp, by simp⟩
/-- The first of one's own bytes. -/
theorem own_first {B : Nat} {w : World} {p : Option Addr} {n cap : Nat} {l : List UInt8} (h : Own B w (.slice p n cap) l) (m : Nat) (hm : m ≤ n) : Own B w (.slice p m cap) (l.take m) := by
  obtain ⟨h1, h2⟩ := h
  rcases h2 with ⟨hv, h0⟩ | ⟨g, cap', cur, hv, hg, hh, hc, hx, hsz, htk⟩
  · simp only [Value.slice.injEq] at hv
    obtain ⟨rfl, rfl, rfl⟩ := hv
    obtain rfl : m = 0 := by omega
    exact Own.nil B w
  · simp only [Value.slice.injEq] at hv
    obtain ⟨rfl, hn, rfl⟩ := hv
    have hl : (l.take m).length = m := by rw [List.length_take]; omega
    refine ⟨by rw [hl, Lib.byteCells_length, hl, Nat.mul_one], Or.inr ⟨g, cap, cur, by rw [hl], hg, hh, by omega, hx, hsz, ?_⟩⟩
    rw [hl, Nat.mul_one]
    rw [Nat.mul_one] at htk
    have : Lib.byteCells (l.take m) = (Lib.byteCells l).take m := by simp [Lib.byteCells, List.map_take]
    rw [this, ← htk, List.take_take, Nat.min_eq_left (by omega)]

theorem own_append_string {B : Nat} {w : World} {v : Value} {l : List UInt8} (h : Own B w v l) (s : ByteArray) (ty : TypeId) (hlim : l.length + s.size ≤ 140737488355328) (hbase : B ≤ w.heap.size) :
    ∃ v' w', (Builtin.append_ #[33, 9] ty #[v, .string s]).run Try.prog w = .ok v' w' ∧ Own B w' v' (l ++ s.data.toList) ∧ Keep v.ownBlock.toList w w' ∧ (v'.ownBlock = v.ownBlock ∨ v'.ownBlock = some w.heap.size) := by
  obtain ⟨i0, hi, hz0, hz1, hz2⟩ := info_parts infoByte
  obtain ⟨v', w', hr, ho, hg, hnil⟩ := Lib.run_append_own_string (P := Try.prog) w B 33 9 ty 5 i0 Try.underlying33 Try.underlying9 hi hz0 hz1 hz2 v l.length (Lib.byteCells l) h s (by unfold maxLen; omega) hlim hbase
  have hsl : s.data.toList.length = s.size := rfl
  refine ⟨v', w', hr, ?_, (Keep.refl _ w).grown hg (fun r hr => Or.inl (by rw [hr]; simp)), ?_⟩
  · unfold Own
    rw [List.length_append, Lib.byteCells_append]
    exact ho
  · rcases h.2 with ⟨rfl, h0⟩ | ⟨g, cap, cur, rfl, hbg, hgg, hnc, hcm, hcs, htk⟩
    · by_cases hm : s.size = 0
      · exact Or.inl (by rw [hnil.2 ⟨rfl, hm⟩])
      · have hr2 := run_append_nil_string (P := Try.prog) w 33 9 ty 5 i0 (.int .u8 0) Try.underlying33 Try.underlying9 hi hz0 s (by omega) (by omega) (by rw [hz2]; omega)
        rw [hr2] at hr
        simp only [Result.ok.injEq] at hr
        exact Or.inr (by rw [← hr.1]; rfl)
    · by_cases hroom : l.length + s.size ≤ cap
      · have hr2 := Lib.run_append_room_string (P := Try.prog) w 33 9 ty 5 i0 Try.underlying33 Try.underlying9 hi hz1 g l.length cap cur hgg s hroom (by omega)
        rw [hr2] at hr
        simp only [Result.ok.injEq] at hr
        exact Or.inl (by rw [← hr.1]; rfl)
      · have hr2 := Lib.run_append_grow_string (P := Try.prog) w 33 9 ty 5 i0 (.int .u8 0) Try.underlying33 Try.underlying9 hi hz0 ⟨g, 0, none⟩ l.length cap (Lib.byteCells l) (by rw [hz1, Lib.byteCells_length]; omega) (World.ownsRow.cells h rfl) s (by omega) (by omega) (by rw [hz2]; exact growslice_fits (by omega) (by omega))
        rw [hr2] at hr
        simp only [Result.ok.injEq] at hr
        exact Or.inr (by rw [← hr.1]; rfl)

set_option maxHeartbeats 1000000 in
theorem issaved_any (w : World) (p : Option Addr) (n cap : Nat) (f : Nat) :
    Calls Try.prog 43 #[.agg #[.slice p n cap, .int .i64 f]] w fun e w' => e = .returned (.bool ((f : Int) == (n : Int))) ∧ Bel w w' := by
  go_enter Try.func43, Try.ntmps43
  go_wp2_with (fail)
  go_ret
  exact ⟨rfl, (Bel.refl w).alloc _⟩
set_option maxHeartbeats 1000000 in
theorem saved_any (w : World) (p : Option Addr) (n cap : Nat) (f : Nat) :
    Calls Try.prog 42 #[.agg #[.slice p n cap, .int .i64 f]] w fun e w' => e = .returned (.agg #[.slice p n cap, .int .i64 n]) ∧ Bel w w' := by
  go_enter Try.func42, Try.ntmps42
  go_wp2_with (fail)
  exact bodyPost_ret (v := .agg #[.slice p n cap, .int .i64 n]) (by simp [results, Try.results42, go_sem]) rfl ⟨rfl, by
    exact ((Bel.refl w).alloc _).alloc _⟩
set_option maxHeartbeats 1000000 in
theorem first_any (w : World) (p : Option Addr) (n cap f m : Nat) (hm : m ≤ n) (hn : n ≤ cap) (hc : cap ≤ maxLen) (ha : ∀ a, p = some a → a = ⟨a.block, 0, none⟩) (hp : p = none → n = 0 ∧ cap = 0) :
    Calls Try.prog 48 #[.agg #[.slice p n cap, .int .i64 f], .int .i64 m] w fun e w' => e = .returned (.agg #[.slice p m cap, .int .i64 (min f m : Nat)]) ∧ Bel w w' := by
  have hW := Lib.hid (((Bel.refl w).alloc (.cells #[.slice p n cap, .int .i64 f] 56)).alloc (.cells #[.slice none 0 0, .int .i64 0] 56))
  obtain ⟨r, hr⟩ : ∃ r : Nat, r = min f m := ⟨_, rfl⟩
  have hr1 : min (f : Int) (m : Int) = (r : Int) := by omega
  rw [← hr]
  clear hr
  cases p with
  | none =>
    obtain ⟨rfl, rfl⟩ := hp rfl
    obtain rfl : m = 0 := by omega
    go_enter Try.func48, Try.ntmps48
    go_wp2_with (fail)
    go_region
    go_wp2_with (fail)
    exact bodyPost_ret (v := .agg #[.slice none 0 0, .int .i64 (min (f : Int) 0)]) (by simp [results, Try.results48, go_sem]) rfl ⟨by rw [← hr1]; rfl, (((Bel.refl w).alloc _).alloc _).drew⟩
  | some a =>
    have := ha a rfl
    generalize a.block = g at this
    subst this
    clear ha hp
    unfold maxLen at hc
    go_enter Try.func48, Try.ntmps48
    go_wp2_with (fail)
    go_region
    go_wp2_with (fail)
    exact bodyPost_ret (v := .agg #[.slice (some ⟨g, 0, none⟩) m cap, .int .i64 r]) (by simp [results, Try.results48, go_sem]) rfl ⟨rfl, (((Bel.refl w).alloc _).alloc _).drew⟩

/-- append of a text onto one's own bytes, as one step of a region that draws its order. -/
theorem step_append_str {B : Nat} {ops : Array Oper} {o : Oper} {a : Act} {K : Act → World → Prop} {Q : Exit → Act → World → Prop} {E : Prop} {x : World} (hgd : o.guard = none) (s y : Operand)
    (ho : o.op = .call { callee := .builtin .append, args := #[s, y], argTypes := #[33, 9] }) {v : Value} {l : List UInt8} {t : ByteArray}
    (hs : a.eval s = v) (hy : a.eval y = .string t) (hown : Own B x v l) (hlim : l.length + t.size ≤ 140737488355328) (hbase : B ≤ x.heap.size)
    (h : ∀ v' w', Own B w' v' (l ++ t.data.toList) → Keep v.ownBlock.toList x w' → (v'.ownBlock = v.ownBlock ∨ v'.ownBlock = some x.heap.size) → K (a.put o.dst v') w') : if Region.wanted o (yielded ops a.tmps) = true then o.wp Try.prog a x K Q else E := by
  rw [if_pos (by simp [Region.wanted, hgd])]
  obtain ⟨v', w', hr, h1, h2, h3⟩ := own_append_string hown t o.type hlim hbase
  unfold Oper.wp execOp
  simp only [ho, resolve, invoke, builtin, Sem.run_bind, Sem.run_pure, Result.andThen_ok, List.map_toArray, List.map_cons, List.map_nil, hs, hy, hr]
  exact h v' w' h1 h2 h3
theorem own_old {B : Nat} {w : World} {v : Value} {l : List UInt8} (h : Own B w v l) {k : Nat} (hk : w.heap.size ≤ k) : k ∉ v.ownBlock.toList := by
  intro hm
  rw [Option.mem_toList] at hm
  have := (h.lt k hm).2
  omega

set_option maxHeartbeats 4000000 in
theorem extended_any (B : Nat) (w : World) (v : Value) (l : List UInt8) (f : Nat) (t : ByteArray) (h : Own B w v l) (hlim : l.length + t.size ≤ 140737488355328) (hB : B ≤ w.heap.size) :
    Calls Try.prog 22 #[.agg #[v, .int .i64 f], .string t] w fun e w' => ∃ v', e = .returned (.agg #[v', .int .i64 f]) ∧ Own B w' v' (l ++ t.data.toList) ∧ Keep v.ownBlock.toList w w' ∧
      (∀ k, v'.ownBlock = some k → v.ownBlock = some k ∨ w.heap.size ≤ k) := by
  obtain ⟨p, cap, rfl, -⟩ := own_len h
  have H := Lib.hid h
  clear h
  obtain ⟨n, hn⟩ : ∃ n, n = l.length := ⟨_, rfl⟩
  have hl := Lib.hid hn
  rw [← hn] at H hlim ⊢
  clear hn
  go_enter Try.func22, Try.ntmps22
  go_wp2_with (fail)
  go_region_held_law (fun y => y.cell? ⟨w.heap.size, 0, none⟩ = some (.slice p n cap) ∧ y.cell? ⟨w.heap.size, 1, none⟩ = some (.int .i64 f) ∧ w.heap.size + 1 < y.heap.size ∧ y.frozen? ⟨w.heap.size + 1, 0, none⟩ = false ∧ y.frozen? ⟨w.heap.size + 1, 1, none⟩ = false)
    (first
      | assumption
      | exact ⟨by assumption, by assumption, by assumption, by assumption, by assumption⟩
      | (refine ⟨by go_simp, by go_simp, by first | (simp; done) | (simp; assumption), by go_simp, by go_simp⟩; done))
    (first
      | (refine step_append_str (B := B) (v := .slice p n cap) (l := l) rfl (.tmp 6) (.tmp 7) rfl rfl rfl (by exact (H.out.alloc _).alloc _) (by rw [← hl.out]; exact hlim) (by simp; omega) ?_; intro v' w' ho hk hlc
         obtain ⟨p', cap', hv', -⟩ := own_len ho
         subst hv'
         have k0 : w'.cell? ⟨w.heap.size, 0, none⟩ = some (.slice p n cap) := hk.cell (by go_simp) (own_old H.out (Nat.le_refl _))
         have k1 : w'.cell? ⟨w.heap.size, 1, none⟩ = some (.int .i64 f) := hk.cell (by go_simp) (own_old H.out (Nat.le_refl _))
         have k2 : w.heap.size + 1 < w'.heap.size := by have := hk.size; simp at this; omega
         have k3 : w'.frozen? ⟨w.heap.size + 1, 0, none⟩ = false := (hk.frozen (by simp) (own_old H.out (Nat.le_succ _))).trans (by go_simp)
         have k4 : w'.frozen? ⟨w.heap.size + 1, 1, none⟩ = false := (hk.frozen (by simp) (own_old H.out (Nat.le_succ _))).trans (by go_simp)
         have k5 : w'.cell? ⟨w.heap.size + 1, 0, none⟩ = some (.slice none 0 0) := hk.cell (by go_simp) (own_old H.out (Nat.le_succ _))
         have k6 : w'.cell? ⟨w.heap.size + 1, 1, none⟩ = some (.int .i64 0) := hk.cell (by go_simp) (own_old H.out (Nat.le_succ _))
         have hK0 := Lib.hid hk
         have hO := Lib.hid ho
         have hL := Lib.hid hlc
         clear hk ho hlc)
      | fail)
  go_wp2_with (fail)
  have hlen : (l ++ t.data.toList).length = l.length + t.size := by rw [List.length_append]; rfl
  rw [hlen] at hO hL
  have hnew : w.heap.size + 1 ∉ (Value.slice p' (l.length + t.size) cap').ownBlock.toList := by
    intro hm
    rw [Option.mem_toList] at hm
    rcases hL.out with h1 | h1
    · rw [h1] at hm
      have := (H.out.lt _ hm).2
      omega
    · rw [h1] at hm
      simp at hm
  have hkk : Keep [w.heap.size + 1] w' ((w'.setCell ⟨w.heap.size + 1, 0, none⟩ (.slice p' (l.length + t.size) cap')).setCell ⟨w.heap.size + 1, 1, none⟩ (.int .i64 f)) :=
    ((Keep.refl _ w').setCell (p := ⟨w.heap.size + 1, 0, none⟩) (Or.inl (by simp)) _).setCell (p := ⟨w.heap.size + 1, 1, none⟩) (Or.inl (by simp)) _
  exact bodyPost_ret (v := .agg #[.slice p' (l.length + t.size) cap', .int .i64 f]) (by simp [results, Try.results22, go_sem, k5, k6, World.cell?_setCell_other]) rfl ⟨_, rfl, hO.out.keep hkk (fun k h1 h2 => by
      rw [List.mem_singleton] at h2
      subst h2
      exact hnew (by rw [Option.mem_toList]; exact h1)),
    ((((Keep.of_bel (((Bel.refl w).alloc _).alloc _).drew _).trans hK0.out (fun x hx => Or.inl hx)).setCell (p := ⟨w.heap.size + 1, 0, none⟩) (Or.inr (by simp)) _).setCell (p := ⟨w.heap.size + 1, 1, none⟩) (Or.inr (by simp)) _), fun k hk => by
      rcases hL.out with h1 | h1
      · left; rw [← h1]; exact hk
      · right
        rw [h1] at hk
        simp at hk
        omega⟩
end Go.Proofs.Ytedopiojidaeiaa
