/- BBld, laid together. -/
import Derived.Test.YteimllgoelleeaaGreatDoorZ13
import Derived.Test.YteimllgoelleeaaGreatDoorZ6
import Derived.Test.YteimllgoelleeaaGreatDoorZ9
import Derived.Lib.AppendStr
import Derived.BigRegion
import Derived.Deep.RegionLaw
set_option linter.unusedSimpArgs false
set_option linter.unusedVariables false
/- The builder that a call has made itself, and a block that is none of its own; Len; appending a text to bytes of one's own. -/
namespace Go.Proofs.YteimllgoelleeaaGreatDoor
open Go.RowKit Go.Deep

theorem own_len {B : Nat} {w : World} {v : Value} {l : List UInt8} (h : Own B w v l) : ∃ p cap, v = .slice p l.length cap ∧ l.length ≤ cap ∧ (∀ a, p = some a → a = ⟨a.block, 0, none⟩) ∧ (p = none → l.length = 0 ∧ cap = 0) := by
  rcases h.2 with ⟨h1, h0⟩ | ⟨g, cap, cur, rfl, hg, hh, hc, _⟩
  · exact ⟨none, 0, by rw [h1, h0], by omega, by simp, fun _ => ⟨h0, rfl⟩⟩
  · exact ⟨_, _, rfl, hc, by simp, by simp⟩
theorem own_first {B : Nat} {w : World} {p : Option Addr} {n cap : Nat} {l : List UInt8} (h : Own B w (.slice p n cap) l) (m : Nat) (hm : m ≤ n) : Own B w (.slice p m cap) (l.take m) := by
  obtain ⟨h1, h2⟩ := h
  rcases h2 with ⟨hv, h0⟩ | ⟨g, cap', cur, hv, hg, hh, hc, hx, hsz, htk⟩
  · simp only [Value.slice.injEq] at hv
    obtain ⟨rfl, rfl, rfl⟩ := hv
    obtain rfl : m = 0 := by omega
    exact Own.nil B w
  · simp only [Value.slice.injEq] at hv
    obtain ⟨rfl, hn, rfl⟩ := hv
    have hl : (l.take m).length = m := by rw [List.length_take]; omega
    refine ⟨by rw [hl, Lib.byteCells_length, hl, Nat.mul_one], Or.inr ⟨g, cap, cur, by rw [hl], hg, hh, by omega, hx, hsz, ?_⟩⟩
    rw [hl, Nat.mul_one]
    rw [Nat.mul_one] at htk
    have : Lib.byteCells (l.take m) = (Lib.byteCells l).take m := by simp [Lib.byteCells, List.map_take]
    rw [this, ← htk, List.take_take, Nat.min_eq_left (by omega)]

theorem own_append_string {B : Nat} {w : World} {v : Value} {l : List UInt8} (h : Own B w v l) (s : ByteArray) (ty : TypeId) (hlim : l.length + s.size ≤ 140737488355328) (hbase : B ≤ w.heap.size) :
    ∃ v' w', (Builtin.append_ #[64, 9] ty #[v, .string s]).run Tryz.prog w = .ok v' w' ∧ Own B w' v' (l ++ s.data.toList) ∧ Keep v.ownBlock.toList w w' ∧ (v'.ownBlock = v.ownBlock ∨ v'.ownBlock = some w.heap.size) := by
  obtain ⟨i0, hi, hz0, hz1, hz2⟩ := info_parts infoByte
  obtain ⟨v', w', hr, ho, hg, hnil⟩ := Lib.run_append_own_string (P := Tryz.prog) w B 64 9 ty 5 i0 Tryz.underlying64 Tryz.underlying9 hi hz0 hz1 hz2 v l.length (Lib.byteCells l) h s (by unfold maxLen; omega) hlim hbase
  have hsl : s.data.toList.length = s.size := rfl
  refine ⟨v', w', hr, ?_, (Keep.refl _ w).grown hg (fun r hr => Or.inl (by rw [hr]; simp)), ?_⟩
  · unfold Own
    rw [List.length_append, Lib.byteCells_append]
    exact ho
  · rcases h.2 with ⟨rfl, h0⟩ | ⟨g, cap, cur, rfl, hbg, hgg, hnc, hcm, hcs, htk⟩
    · by_cases hm : s.size = 0
      · exact Or.inl (by rw [hnil.2 ⟨rfl, hm⟩])
      · have hr2 := run_append_nil_string (P := Tryz.prog) w 64 9 ty 5 i0 (.int .u8 0) Tryz.underlying64 Tryz.underlying9 hi hz0 s (by omega) (by omega) (by rw [hz2]; omega)
        rw [hr2] at hr
        simp only [Result.ok.injEq] at hr
        exact Or.inr (by rw [← hr.1]; rfl)
    · by_cases hroom : l.length + s.size ≤ cap
      · have hr2 := Lib.run_append_room_string (P := Tryz.prog) w 64 9 ty 5 i0 Tryz.underlying64 Tryz.underlying9 hi hz1 g l.length cap cur hgg s hroom (by omega)
        rw [hr2] at hr
        simp only [Result.ok.injEq] at hr
        exact Or.inl (by rw [← hr.1]; rfl)
      · have hr2 := Lib.run_append_grow_string (P := Tryz.prog) w 64 9 ty 5 i0 (.int .u8 0) Tryz.underlying64 Tryz.underlying9 hi hz0 ⟨g, 0, none⟩ l.length cap (Lib.byteCells l) (by rw [hz1, Lib.byteCells_length]; omega) (World.ownsRow.cells h rfl) s (by omega) (by omega) (by rw [hz2]; exact growslice_fits (by omega) (by omega))
        rw [hr2] at hr
        simp only [Result.ok.injEq] at hr
        exact Or.inr (by rw [← hr.1]; rfl)

theorem step_append_str {B : Nat} {ops : Array Oper} {o : Oper} {a : Act} {K : Act → World → Prop} {Q : Exit → Act → World → Prop} {E : Prop} {x : World} (hgd : o.guard = none) (s y : Operand)
    (ho : o.op = .call { callee := .builtin .append, args := #[s, y], argTypes := #[64, 9] }) {v : Value} {l : List UInt8} {t : ByteArray}
    (hs : a.eval s = v) (hy : a.eval y = .string t) (hown : Own B x v l) (hlim : l.length + t.size ≤ 140737488355328) (hbase : B ≤ x.heap.size)
    (h : ∀ v' w', Own B w' v' (l ++ t.data.toList) → Keep v.ownBlock.toList x w' → (v'.ownBlock = v.ownBlock ∨ v'.ownBlock = some x.heap.size) → K (a.put o.dst v') w') : if Region.wanted o (yielded ops a.tmps) = true then o.wp Tryz.prog a x K Q else E := by
  rw [if_pos (by simp [Region.wanted, hgd])]
  obtain ⟨v', w', hr, h1, h2, h3⟩ := own_append_string hown t o.type hlim hbase
  unfold Oper.wp execOp
  simp only [ho, resolve, invoke, builtin, Sem.run_bind, Sem.run_pure, Result.andThen_ok, List.map_toArray, List.map_cons, List.map_nil, hs, hy, hr]
  exact h v' w' h1 h2 h3

theorem wp_append_str {B : Nat} {o : Oper} {a : Act} {K : Act → World → Prop} {Q : Exit → Act → World → Prop} {x : World} (s y : Operand)
    (ho : o.op = .call { callee := .builtin .append, args := #[s, y], argTypes := #[64, 9] }) {v : Value} {l : List UInt8} {t : ByteArray}
    (hs : a.eval s = v) (hy : a.eval y = .string t) (hown : Own B x v l) (hlim : l.length + t.size ≤ 140737488355328) (hbase : B ≤ x.heap.size)
    (h : ∀ v' w', Own B w' v' (l ++ t.data.toList) → Keep v.ownBlock.toList x w' → (v'.ownBlock = v.ownBlock ∨ v'.ownBlock = some x.heap.size) → K (a.put o.dst v') w') : o.wp Tryz.prog a x K Q := by
  obtain ⟨v', w', hr, h1, h2, h3⟩ := own_append_string hown t o.type hlim hbase
  unfold Oper.wp execOp
  simp only [ho, resolve, invoke, builtin, Sem.run_bind, Sem.run_pure, Result.andThen_ok, List.map_toArray, List.map_cons, List.map_nil, hs, hy, hr]
  exact h v' w' h1 h2 h3
theorem append_str {B : Nat} {ops : Array Oper} {rest : List Oper} {o : Oper} {a : Act} {Q : Exit → Act → World → Prop} {x : World} (hgd : o.guard = none) (s y : Operand)
    (ho : o.op = .call { callee := .builtin .append, args := #[s, y], argTypes := #[64, 9] }) {v : Value} {l : List UInt8} {t : ByteArray}
    (hs : a.eval s = v) (hy : a.eval y = .string t) (hown : Own B x v l) (hlim : l.length + t.size ≤ 140737488355328) (hbase : B ≤ x.heap.size)
    (h : ∀ v' w', Own B w' v' (l ++ t.data.toList) → Keep v.ownBlock.toList x w' → (v'.ownBlock = v.ownBlock ∨ v'.ownBlock = some x.heap.size) → wpList Tryz.prog ops Q rest (a.put o.dst v') w') : wpList Tryz.prog ops Q (o :: rest) a x :=
  wpList_plain hgd fun _ hK => wp_append_str s y ho hs hy hown hlim hbase fun v' w' h1 h2 h3 => hK _ _ (h v' w' h1 h2 h3)

structure BldA (b : Nat) (l : List UInt8) (w : World) (X : Nat) : Prop where
  bld : ∃ p v, (p = .pointer none ∨ p = .pointer (some ⟨b, 0, none⟩)) ∧ w.heap[b]? = some (.cells #[p, v] 66 (0, 0)) ∧ Own b w v l ∧ v.ownBlock ≠ some b ∧ v.ownBlock ≠ some X
  ne : X ≠ b
theorem BldA.of {b : Nat} {l : List UInt8} {w : World} (h : BldW b l w) (o : Obj) : BldA b l (w.alloc o) w.heap.size := by
  have hlt := h.lt
  have key : ∀ p, Lib.BuilderAt 66 5 b b p (Lib.byteCells l) w → (p = .pointer none ∨ p = .pointer (some ⟨b, 0, none⟩)) → BldA b l (w.alloc o) w.heap.size := by
    rintro p ⟨_, v, hb, hown, hne⟩ hp
    have hO : Own b w v l := by unfold Own; rw [Lib.byteCells_length] at hown; exact hown
    refine ⟨⟨p, v, hp, (Below.block ((Bel.refl w).alloc o) b hlt).trans hb, hO.alloc o, hne, fun e => ?_⟩, by omega⟩
    have := (hO.lt _ e).2
    omega
  rcases h with h | h
  · exact key _ h (Or.inl rfl)
  · exact key _ h (Or.inr rfl)
theorem BldA.lt {b : Nat} {l : List UInt8} {w : World} {X : Nat} (h : BldA b l w X) : b < w.heap.size := by
  obtain ⟨p, v, _, hb, _⟩ := h.bld
  exact (Array.getElem?_eq_some_iff.1 hb).1
theorem BldA.w {b : Nat} {l : List UInt8} {w : World} {X : Nat} (h : BldA b l w X) : BldW b l w := by
  obtain ⟨p, v, hp, hb, hown, hne, _⟩ := h.bld
  have hO : w.ownsRow b 5 1 v (Lib.byteCells l).length (Lib.byteCells l) := by rw [Lib.byteCells_length]; exact hown
  rcases hp with rfl | rfl
  · exact Or.inl ⟨Nat.le_refl _, v, hb, hO, hne⟩
  · exact Or.inr ⟨Nat.le_refl _, v, hb, hO, hne⟩
theorem BldA.bel {b : Nat} {l : List UInt8} {w x : World} {X : Nat} (h : BldA b l w X) (hb : Bel w x) : BldA b l x X := by
  have hlt := h.lt
  obtain ⟨⟨p, v, hp, hbk, hown, hne, hX⟩, hn⟩ := h
  exact ⟨⟨p, v, hp, (Below.block hb b hlt).trans hbk, hown.bel hb, hne, hX⟩, hn⟩
theorem check_v (b : Nat) (p v : Value) (w : World) (hp : p = .pointer none ∨ p = .pointer (some ⟨b, 0, none⟩)) (hb : w.heap[b]? = some (.cells #[p, v] 66 (0, 0))) :
    Calls Tryz.prog 55 #[.pointer (some ⟨b, 0, none⟩)] w fun e w' => e = .returned (.tuple #[]) ∧ w'.heap[b]? = some (.cells #[.pointer (some ⟨b, 0, none⟩), v] 66 (0, 0)) ∧ Keep [b] w w' ∧ w'.heap.size = w.heap.size := by
  rcases hp with rfl | rfl
  · refine (check_fresh b w (by simp [World.cell?, hb]) (by simp [World.shape?, hb]) (by simp [World.frozen?, hb])).mono ?_
    rintro e w' ⟨rfl, rfl⟩
    exact ⟨rfl, by simp [World.setCell, Array.getElem?_modify, hb], (Keep.refl [b] w).setCell (p := ⟨b, 0, none⟩) (Or.inl (by simp)) _, by simp [World.setCell]⟩
  · refine (check_used b w (by simp [World.cell?, hb])).mono ?_
    rintro e w' ⟨rfl, rfl⟩
    exact ⟨rfl, hb, Keep.refl _ _, rfl⟩
theorem Own.keep {B : Nat} {w x : World} {v : Value} {l : List UInt8} {F : List Nat} (h : Own B w v l) (hk : Keep F w x) (hF : ∀ k, v.ownBlock = some k → k ∉ F) : Own B x v l := by
  obtain ⟨h1, h2⟩ := h
  refine ⟨h1, ?_⟩
  rcases h2 with h2 | ⟨g, cap, cur, rfl, hg, hh, r⟩
  · exact Or.inl h2
  · exact Or.inr ⟨g, cap, cur, rfl, hg, hk.at hh (hF g rfl), r⟩
theorem own_typ {B : Nat} {w : World} {v : Value} {l : List UInt8} {b : Nat} {cs : Array Value} (h : Own B w v l) (hb : w.heap[b]? = some (.cells cs 66 (0, 0))) : v.ownBlock ≠ some b := by
  have hO : w.ownsRow B 5 1 v (Lib.byteCells l).length (Lib.byteCells l) := by rw [Lib.byteCells_length]; exact h
  exact Lib.ownBlock_ne hO hb (by decide)

set_option maxHeartbeats 1000000 in
set_option maxRecDepth 100000 in
theorem write_a (b : Nat) (l : List UInt8) (s : ByteArray) (X : Nat) (w : World) (h : BldA b l w X) (hlen : l.length + s.size ≤ 140737488355328) (hXs : X < w.heap.size) :
    Calls Tryz.prog 27 #[.pointer (some ⟨b, 0, none⟩), .string s] w fun e w' => e = .returned (.tuple #[.int .i64 s.size, .nilIface]) ∧ BldA b (l ++ s.data.toList) w' X ∧ Below b w w' ∧ w'.heap[X]? = w.heap[X]? ∧ w.heap.size ≤ w'.heap.size := by
  have hbw := h.lt
  obtain ⟨⟨p, v, hp, hbk, hown, hne, hX⟩, hn⟩ := h
  go_enter Tryz.func27, Tryz.ntmps27
  go_wp2_with (fail)
  refine (check_v b p v _ hp hbk).mono ?_
  rintro e w1 ⟨rfl, h1, hk1, hs1⟩
  have c0 : w1.cell? ⟨b, 0, none⟩ = some (.pointer (some ⟨b, 0, none⟩)) := by simp [World.cell?, h1]
  have c1 : w1.cell? ⟨b, 1, none⟩ = some v := by simp [World.cell?, h1]
  have HO := Lib.hid (hown.keep hk1 (fun k hk hm => by rw [List.mem_singleton] at hm; subst hm; exact hne hk))
  have HK := Lib.hid h1
  have HK1 := Lib.hid hk1
  have HX := Lib.hid (hk1.block X hXs (by simpa using hn))
  have HNE := Lib.hid hX
  have HN2 := Lib.hid hne
  clear hbk hown hne hX h1 hk1 hp
  go_wp2_with (at_builtin; refine stop_here ?_)
  refine go_on ?_
  refine append_str (B := b) rfl _ _ rfl rfl rfl HO.out hlen (by omega) ?_
  intro v' w2 hown2 hk2 hv2
  have hsz2 := hk2.size
  have hb2 := hk2.at HK.out (by rw [Option.mem_toList]; exact HN2.out)
  have hX2 : w2.heap[X]? = w.heap[X]? := (hk2.block X (by omega) (by rw [Option.mem_toList]; exact HNE.out)).trans HX.out
  have d0 : w2.cell? ⟨b, 0, none⟩ = some (.pointer (some ⟨b, 0, none⟩)) := by simp [World.cell?, hb2]
  have d1 : w2.cell? ⟨b, 1, none⟩ = some v := by simp [World.cell?, hb2]
  have f1 : w2.frozen? ⟨b, 1, none⟩ = false := by simp [World.frozen?, hb2]
  have hvX : v'.ownBlock ≠ some X := by
    rcases hv2 with e | e
    · rw [e]; exact HNE.out
    · rw [e]; intro e2; cases e2; omega
  have hvb := own_typ hown2 hb2
  have HB2 := Lib.hid (show Below b w w2 from (HK1.out.below (Nat.le_of_lt hbw) (by simp)).trans (hk2.below (by omega) (fun k hk => by rw [Option.mem_toList] at hk; exact (HO.out.lt k hk).1)))
  obtain ⟨ao, n', cap, rfl⟩ : ∃ ao n' cap, v' = .slice ao n' cap := by
    rcases hown2.2 with ⟨hv, _⟩ | ⟨g, cap, cur, hv, _⟩
    · exact ⟨_, _, _, hv⟩
    · exact ⟨_, _, _, hv⟩
  have HO2 := Lib.hid hown2
  have HK2 := Lib.hid hb2
  have HX2 := Lib.hid hX2
  have HVX := Lib.hid hvX
  have HVB := Lib.hid hvb
  clear hown2 hk2 hb2 hX2 hvX hvb hv2
  go_wp2
  go_ret2
  have hks := (Keep.refl [b] w2).setCell (p := ⟨b, 1, none⟩) (Or.inl (by simp)) (.slice ao n' cap)
  refine ⟨rfl, ⟨⟨_, _, Or.inr rfl, ?_, HO2.out.keep hks (fun k hk hm => ?_), HVB.out, HVX.out⟩, hn⟩, HB2.out.setCell (p := ⟨b, 1, none⟩) (Nat.le_refl _) _, ?_, ?_⟩
  · simp [World.setCell, Array.getElem?_modify, HK2.out]
  · rw [List.mem_singleton] at hm; subst hm; exact HVB.out hk
  · exact (hks.block X (by omega) (by simpa using hn)).trans HX2.out
  · simp [World.setCell]; omega
set_option maxHeartbeats 1000000 in
theorem blen_any (b : Nat) (l : List UInt8) (X : Nat) (w : World) (h : BldA b l w X) :
    Calls Tryz.prog 74 #[.pointer (some ⟨b, 0, none⟩)] w fun e w' => e = .returned (.int .i64 (l.length : Nat)) ∧ Drw w w' := by
  obtain ⟨⟨p, v, hp, hbk, hown, hne, hX⟩, hn⟩ := h
  have c1 : w.cell? ⟨b, 1, none⟩ = some v := by simp [World.cell?, hbk]
  obtain ⟨q, cap, rfl, -⟩ := own_len hown
  clear hbk hown hne hX hp
  go_enter Tryz.func74, Tryz.ntmps74
  go_wp2_with (fail)
  go_ret
  exact ⟨rfl, Drw.refl w⟩
end Go.Proofs.YteimllgoelleeaaGreatDoor
