/- file's find, Get, Used, Names. -/
import Derived.Test.YtedopiojidaeiaaFIsn
import Derived.Test.YtedopiojidaeiaaIter
set_option linter.unusedSimpArgs false
set_option linter.unusedVariables false
namespace Go.Proofs.Ytedopiojidaeiaa
open Go.RowKit Go.Deep Go.Maps

section
variable {n₀ : Nat} {w : World} {mb : Nat} {D : DataW Value} {V : List UInt8 → Value} {L : List FI} {e : Option (List UInt8)} {mv : Value} {F : List Nat}
theorem rv_held {v : Value} {z : DataW Value} {ps : List MemPlace} (h : RV v = some (z, ps)) : z = .held v := by
  simp only [RV, Option.some.injEq, Prod.mk.injEq] at h
  exact h.1.symm
theorem run_look_some (h : FilesV n₀ w mb D V L e) (s : ByteArray) (hs : s.size ≤ maxLen) {y : FI} (hy : getF s.data.toList L = some y) (c : Bool) :
    (Instr.lookup 47 (.map (some mb)) (.string s) c).run Try.prog w = .ok (if c then .tuple #[conV (V s.data.toList) y.safe, .bool true] else conV (V s.data.toList) y.safe) w := by
  have hh : Maps.has D (.string s.data.toList) = true := by rw [h.has, hy]; rfl
  cases c with
  | true =>
    obtain ⟨v, ps, hr, hv⟩ := h.own.look_ok keyLaw Try.underlying47 (zeroCon w) (zd := .held conZ) (zp := []) rfl (key_is s hs)
    rw [h.at_some hy, ] at hv
    have := rv_held hv
    simp only [DataW.held.injEq] at this
    rw [hr, hh, ← this]
    rfl
  | false =>
    obtain ⟨v, ps, hr, hv⟩ := h.own.lookup keyLaw Try.underlying47 (zeroCon w) (zd := .held conZ) (zp := []) rfl (key_is s hs)
    rw [h.at_some hy, ] at hv
    have := rv_held hv
    simp only [DataW.held.injEq] at this
    rw [hr, ← this]
    rfl
theorem run_look_none (h : FilesAt n₀ w mv L F) (s : ByteArray) (hs : s.size ≤ maxLen) (hy : getF s.data.toList L = none) (c : Bool) :
    (Instr.lookup 47 mv (.string s) c).run Try.prog w = .ok (if c then .tuple #[conZ, .bool false] else conZ) w := by
  rcases h with ⟨rfl, rfl⟩ | ⟨mb, D, V, rfl, h, _⟩
  · exact Maps.look_nil c keyLaw Try.underlying47 (zeroCon w) (key_is s hs)
  have hh : Maps.has D (.string s.data.toList) = false := by rw [h.has, hy]; rfl
  cases c with
  | true =>
    obtain ⟨v, ps, hr, hv⟩ := h.own.look_ok keyLaw Try.underlying47 (zeroCon w) (zd := .held conZ) (zp := []) rfl (key_is s hs)
    rw [h.at_none hy, ] at hv
    have := rv_held hv
    simp only [DataW.held.injEq] at this
    rw [hr, hh, ← this]
    rfl
  | false =>
    obtain ⟨v, ps, hr, hv⟩ := h.own.lookup keyLaw Try.underlying47 (zeroCon w) (zd := .held conZ) (zp := []) rfl (key_is s hs)
    rw [h.at_none hy, ] at hv
    have := rv_held hv
    simp only [DataW.held.injEq] at this
    rw [hr, ← this]
    rfl
end
theorem wpList_look {w : World} {ops : Array Oper} {rest : List Oper} {o : Oper} {a : Act} {Q : Exit → Act → World → Prop} {c : Bool} {mv kv r : Value} (hrun : (Instr.lookup 47 mv kv c).run Try.prog w = .ok r w)
    (hg : o.guard = none) (m x : Operand) (hop : o.op = Op.lookup 47 m x c) (hm : a.eval m = mv) (hx : a.eval x = kv) (hK : wpList Try.prog ops Q rest (a.put o.dst r) w) : wpList Try.prog ops Q (o :: rest) a w := by
  refine wpList_plain hg fun K' hK' => ?_
  unfold Oper.wp
  simp [execOp, hop, hm, hx, hrun, Result.andThen]
  exact hK' _ _ hK

set_option maxHeartbeats 2000000 in
theorem find_gone (n₀ : Nat) (w : World) (b : Nat) (M : RS) (F : List Nat) (s : ByteArray) (h : ProgAt n₀ w b M F) (hgone : M.gone = true) :
    Calls Try.prog 40 #[.pointer (some ⟨b, 0, none⟩), .string s] w fun e w' => e = .returned (.tuple #[conZ, .int .i64 7]) ∧ Bel w w' := by
  obtain ⟨⟨mv, t, hb, -⟩, -⟩ := h
  have c4 : w.cell? ⟨b, 4, none⟩ = some (.bool true) := by simp [World.cell?, hb, hgone]
  clear hb hgone
  unfold conZ
  go_enter Try.func40, Try.ntmps40
  go_wp2_with (fail)
  exact bodyPost_ret (v := .tuple #[.agg #[.slice none 0 0, .int .i64 0], .int .i64 7]) (by simp [results, Try.results40, go_sem]) rfl ⟨rfl, (Bel.refl w).alloc _⟩
set_option maxHeartbeats 2000000 in
theorem find_none (n₀ : Nat) (w : World) (b : Nat) (M : RS) (F : List Nat) (s : ByteArray) (h : ProgAt n₀ w b M F) (hgone : M.gone = false) (hs : s.size ≤ maxLen) (hy : getF s.data.toList M.L = none) :
    Calls Try.prog 40 #[.pointer (some ⟨b, 0, none⟩), .string s] w fun e w' => e = .returned (.tuple #[conZ, .int .i64 4]) ∧ Bel w w' := by
  obtain ⟨⟨mv, t, hb, _, _, hf⟩, -⟩ := h
  have c4 : w.cell? ⟨b, 4, none⟩ = some (.bool false) := by simp [World.cell?, hb, hgone]
  have c1 : w.cell? ⟨b, 1, none⟩ = some mv := by simp [World.cell?, hb]
  have HF := Lib.hid hf
  have HY := Lib.hid hy
  clear hb hgone hf hy
  unfold conZ
  go_enter Try.func40, Try.ntmps40
  go_wp2_with (at_lookup; refine wpList_look (run_look_none (HF.out.bel ((Bel.refl w).alloc _)) s hs HY.out true) rfl _ _ rfl rfl rfl ?_; unfold conZ)
  exact bodyPost_ret (v := .tuple #[.agg #[.slice none 0 0, .int .i64 0], .int .i64 4]) (by simp [results, Try.results40, go_sem]) rfl ⟨rfl, ((Bel.refl w).alloc _).alloc _⟩
set_option maxHeartbeats 2000000 in
theorem find_some (n₀ : Nat) (w : World) (b : Nat) (M : RS) (mb : Nat) (t : Int) (D : DataW Value) (V : List UInt8 → Value) (s : ByteArray) (y : FI)
    (hb : w.heap[b]? = some (.cells #[.int .i64 M.room, .map (some mb), .bool (decide (0 ≤ M.turns)), .int .i64 t, .bool M.gone] 49 (0, 0))) (hV : FilesV n₀ w mb D V M.L none)
    (hgone : M.gone = false) (hs : s.size ≤ maxLen) (hy : getF s.data.toList M.L = some y) :
    Calls Try.prog 40 #[.pointer (some ⟨b, 0, none⟩), .string s] w fun e w' => e = .returned (.tuple #[conV (V s.data.toList) y.safe, .int .i64 0]) ∧ Bel w w' := by
  have c4 : w.cell? ⟨b, 4, none⟩ = some (.bool false) := by simp [World.cell?, hb, hgone]
  have c1 : w.cell? ⟨b, 1, none⟩ = some (.map (some mb)) := by simp [World.cell?, hb]
  have hv := hV.val y (getF_mem hy) (by simp)
  rw [getF_name hy] at hv
  obtain ⟨p, cap, hp, -⟩ := own_len hv
  have hr : ∀ x, Bel w x → (Instr.lookup 47 (.map (some mb)) (.string s) true).run Try.prog x = .ok (.tuple #[.agg #[.slice p y.bytes.length cap, .int .i64 y.safe], .bool true]) x := fun x hx => by
    have := run_look_some (hV.bel hx) s hs hy true
    rw [this, hp]; rfl
  have HR := Lib.hid hr
  rw [hp]
  unfold conV
  have hbl := block_lt_of_cell c4
  clear hb hgone hy hV hv hr hp
  go_enter Try.func40, Try.ntmps40
  go_wp2_with (at_lookup; refine wpList_look (HR.out _ ((Bel.refl w).alloc _)) rfl _ _ rfl rfl rfl ?_)
  exact bodyPost_ret (v := .tuple #[.agg #[.slice p y.bytes.length cap, .int .i64 y.safe], .int .i64 0]) (by simp [results, Try.results40, go_sem]) rfl ⟨rfl, ((Bel.refl w).alloc _).alloc _⟩
end Go.Proofs.Ytedopiojidaeiaa
