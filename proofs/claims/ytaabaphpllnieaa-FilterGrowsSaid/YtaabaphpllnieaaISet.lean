/- (*filter.draft).set, (*filter.probe).test. -/
import Derived.Test.YtaabaphpllnieaaIEach
import Derived.StillTailTactics
set_option linter.unusedSimpArgs false
set_option linter.unusedVariables false
namespace Go.Proofs.Ytaabaphpllnieaa
open Go.RowKit Go.Deep

theorem or_walk (L : List UInt8) (i : Nat) : bits .or .u8 ((byteN L (i / 8) : Nat) : Int) ((2 ^ (i % 8) : Nat) : Int) = ((UInt8.ofNat (byteN L (i / 8) ||| 2 ^ (i % 8))).toNat : Int) := by
  have h1 : 2 ^ (i % 8) ≤ 2 ^ 7 := Nat.pow_le_pow_right (by omega) (by omega)
  have h2 := or_byte L (i / 8) i
  rw [u8_or_nat _ _ (byte_lt L _) (by omega), UInt8.toNat_ofNat', Nat.mod_eq_of_lt h2]
theorem mask_at (i m : Nat) (w : World) (hi : i ≤ 8000000000) (hm : m = 2 ^ (i % 8)) :
    Calls Try.prog 26 #[.int .i64 i] w fun e w' => e = .returned (.int .u8 (m : Int)) ∧ w' = w := by
  subst hm; exact mask_any i w (by unfold maxLen; omega)
set_option maxHeartbeats 2000000 in
theorem set_any (d b cap : Nat) (L : List UInt8) (i : Nat) (w : World) (hd : w.cell? ⟨d, 0, none⟩ = some (.slice (some ⟨b, 0, none⟩) L.length cap)) (hr : ByteRow w b L) (hi : i < 8 * L.length) (hl : L.length ≤ 1000000) :
    Calls Try.prog 23 #[.pointer (some ⟨d, 0, none⟩), .int .i64 i] w fun e w' => e = .returned (.tuple #[]) ∧ ByteRow w' b (setN L i) ∧ Keep [b] w w' := by
  have HR := Lib.hid hr
  have HS := Lib.hid (show setN L i = L.set (i / 8) (UInt8.ofNat (byteN L (i / 8) ||| 2 ^ (i % 8))) from rfl)
  have hOW := or_walk L i
  have hqi : (i : Int) / 8 = ((i / 8 : Nat) : Int) := by omega
  have hql : i / 8 < L.length := by omega
  have hc : w.cell? ⟨b, i / 8, none⟩ = some (.int .u8 ((byteN L (i / 8) : Nat) : Int)) := by rw [byte_get hql]; exact (hr _ hql).1
  have hf := (hr _ hql).2
  obtain ⟨m, hm⟩ : ∃ m, m = 2 ^ (i % 8) := ⟨_, rfl⟩
  rw [← hm] at HS hOW
  have HM := Lib.hid hm; clear hm
  generalize i / 8 = q at *
  generalize byteN L q = x0 at *
  generalize UInt8.ofNat (x0 ||| m) = x1 at *
  have hqli : (q : Int) < (L.length : Int) := by omega
  have hqw : IntKind.i64.wrap (q : Int) = q := by rw [IntKind.wrap_i64]; omega
  have hiw : IntKind.i64.wrap (i : Int) = i := by rw [IntKind.wrap_i64]; omega
  clear hr
  go_enter Try.func23, Try.ntmps23
  go_wp2_with (fail)
  refine wp_region_still_tail 12 (by kernel_rfl) (by kernel_rfl) ?_
  change wpStill _ _ (World.drew _) _ _ _
  simp only [List.take_succ_cons, List.take_zero, List.drop_succ_cons, List.drop_zero]
  still_step
  still_step
  still_step
  still_step
  still_step
  still_step
  still_step
  still_step
  still_step
  still_call ((mask_at i m _ (by omega) HM.out).mono fun _ _ h => ⟨h.1, h.2⟩)
  still_step
  still_step
  refine wpStill_nil ?_
  change wpList _ _ _ _ _ (World.drew _)
  go_wp2_with (fail)
  go_end0
  exact ⟨rfl, by rw [HS.out]; exact (HR.out.set q hql x1).bel (Bel.refl _).drew, ((Keep.refl _ w).setCell (Or.inl (by simp)) _).drew⟩

theorem and_walk (L : List UInt8) (i : Nat) : ((bits .and .u8 ((byteN L (i / 8) : Nat) : Int) ((2 ^ (i % 8) : Nat) : Int) : Int) == 0) = !bitN L i := by
  have h1 : 2 ^ (i % 8) ≤ 2 ^ 7 := Nat.pow_le_pow_right (by omega) (by omega)
  rw [u8_and_nat _ _ (byte_lt L _) (by omega), nat_bit]
  unfold bitN
  rw [Nat.testBit_eq_decide_div_mod_eq]
  have hp : 0 < 2 ^ (i % 8) := Nat.pow_pos (by decide)
  generalize 2 ^ (i % 8) = m at *
  generalize byteN L (i / 8) / m = c
  have : c % 2 = 0 ∨ c % 2 = 1 := by omega
  rcases this with h | h <;> rw [h]
  · simp
  · simp; omega
/-- A filter that is asked: its bytes, and whether a bit was lacking. -/
def ProbeAt (w : World) (P : Nat) (f : ByteArray) (b : Bool) : Prop :=
  w.cell? ⟨P, 0, none⟩ = some (.string f) ∧ w.cell? ⟨P, 1, none⟩ = some (.bool b) ∧ w.frozen? ⟨P, 1, none⟩ = false
theorem ProbeAt.bel {w x : World} {P : Nat} {f : ByteArray} {b : Bool} (h : ProbeAt w P f b) (hb : Bel w x) : ProbeAt x P f b := by
  obtain ⟨h1, h2, h3⟩ := h
  have hlt : P < w.heap.size := block_lt_of_cell h1
  exact ⟨(hb.cell P 0 hlt).trans h1, (hb.cell P 1 hlt).trans h2, (hb.frozen P 1 hlt).trans h3⟩
theorem mask_quiet (i m : Nat) (w : World) (hi : i ≤ 8000000000) (hm : m = 2 ^ (i % 8)) :
    Calls Try.prog 26 #[.int .i64 i] w fun e w' => e = .returned (.int .u8 (m : Int)) ∧ Drw w w' :=
  (mask_at i m w hi hm).mono fun _ _ h => ⟨h.1, by rw [h.2]; exact Drw.refl w⟩
set_option maxHeartbeats 2000000 in
theorem test_any (P : Nat) (f : ByteArray) (b : Bool) (i : Nat) (w : World) (hp : ProbeAt w P f b) (hi : i < 8 * f.size) (hl : f.size ≤ 1000000) :
    Calls Try.prog 25 #[.pointer (some ⟨P, 0, none⟩), .int .i64 i] w fun e w' => e = .returned (.tuple #[]) ∧ ProbeAt w' P f (b || !bitN f.data.toList i) ∧ Keep [P] w w' := by
  have hAW := and_walk f.data.toList i
  have HP := Lib.hid hp
  obtain ⟨h0, h1, hf⟩ := hp
  have hqi : (i : Int) / 8 = ((i / 8 : Nat) : Int) := by omega
  have hql : i / 8 < f.size := by omega
  obtain ⟨m, hm⟩ : ∃ m, m = 2 ^ (i % 8) := ⟨_, rfl⟩
  rw [← hm] at hAW
  have HM := Lib.hid hm; clear hm
  generalize bitN f.data.toList i = t at *
  generalize i / 8 = q at *
  have hx : byteN f.data.toList q = f[q].toNat := by rw [byte_get (show q < f.data.toList.length from hql)]; rfl
  rw [hx] at hAW
  have hqli : (q : Int) < (f.size : Int) := by omega
  have hqw : IntKind.i64.wrap (q : Int) = q := by rw [IntKind.wrap_i64]; omega
  have hiw : IntKind.i64.wrap (i : Int) = i := by rw [IntKind.wrap_i64]; omega
  clear hx
  go_enter Try.func25, Try.ntmps25
  go_wp2_with (fail)
  go_quiet ((go_at_call 26; exact Calls.quiet_of (mask_quiet i m _ (by omega) HM.out)))
  cases t with
  | true =>
    go_wp2_with (fail)
    go_end0
    exact ⟨rfl, by simpa using HP.out.bel ((Bel.refl w).drewN _), (Keep.refl _ w).drewN _⟩
  | false =>
    have h1q : (w.drewN nq).cell? ⟨P, 1, none⟩ = some (.bool b) := h1
    have hfq : (w.drewN nq).frozen? ⟨P, 1, none⟩ = false := hf
    go_wp2_with (fail)
    go_end0
    refine ⟨rfl, ⟨?_, ?_, ?_⟩, ((Keep.refl _ w).drewN _).setCell (Or.inl (by simp)) _⟩
    · rw [World.cell?_setCell_other _ _ _ _ (by intro h; cases h)]; exact h0
    · rw [World.cell?_setCell_same _ _ _ h1q]; simp
    · rw [World.frozen?_setCell]; exact hf
end Go.Proofs.Ytaabaphpllnieaa
