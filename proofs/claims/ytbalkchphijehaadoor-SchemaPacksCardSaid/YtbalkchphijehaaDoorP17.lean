/- QPick, laid together. -/
import Derived.Test.YtbalkchphijehaaDoorP10
import Derived.Test.YtbalkchphijehaaDoorP16
import Derived.Lib.ConvBytes
set_option linter.unusedSimpArgs false
set_option linter.unusedVariables false
/- moultlaw14.pick; a row of bytes that a conversion has laid. -/
set_option maxRecDepth 20000
namespace Go.Proofs.YtbalkchphijehaaDoor
open Go.RowKit Go.Deep

/-- Which of n things the raw number c speaks of. -/
def pickNQ (c : Int) (n : Nat) : Nat := if c < 0 then (-(c + 1)).toNat % n else c.toNat % n
theorem pickN_ltQ (c : Int) {n : Nat} (h : 0 < n) : pickNQ c n < n := by unfold pickNQ; split <;> exact Nat.mod_lt _ h
theorem pick_sameQ (c : Int) (n : Nat) (w : World) (hc : -9223372036854775808 ≤ c ∧ c ≤ 9223372036854775807) (hn : 0 < n) (hn2 : n ≤ 1000000) :
    Calls Tryd.prog 29 #[.int .i64 c, .int .i64 n] w fun e w' => e = .returned (.int .i64 (pickNQ c n : Nat)) ∧ w' = w := by
  obtain ⟨hc1, hc2⟩ := hc
  have hz : ((n : Int) == 0) = false := by rw [beq_eq_false_iff_ne]; omega
  have hz2 : ¬ n = 0 := by omega
  by_cases h : c < 0
  · obtain ⟨m, hm⟩ : ∃ m : Nat, -(c + 1) = m := ⟨(-(c + 1)).toNat, by omega⟩
    have HP := Lib.hid (show ((pickNQ c n : Nat) : Int) = -((c + 1).tmod (n : Int)) by
      unfold pickNQ
      rw [if_pos h, ← Int.neg_tmod, hm, Int.toNat_natCast, Int.tmod_eq_emod_of_nonneg (by omega), Int.natCast_emod])
    clear hm
    go_enter Tryd.func29, Tryd.ntmps29
    go_wp2
    go_ret
    exact ⟨ret_int (by rw [HP.out]), rfl⟩
  · obtain ⟨m, rfl⟩ : ∃ m : Nat, c = m := ⟨c.toNat, by omega⟩
    have HP := Lib.hid (show ((pickNQ m n : Nat) : Int) = (m : Int) % (n : Int) by
      unfold pickNQ
      rw [if_neg h, Int.toNat_natCast, Int.natCast_emod])
    go_enter Tryd.func29, Tryd.ntmps29
    go_wp2
    go_ret
    exact ⟨ret_int (by rw [HP.out]), rfl⟩
theorem pick_anyQ (c : Int) (n : Nat) (w : World) (hc : -9223372036854775808 ≤ c ∧ c ≤ 9223372036854775807) (hn : 0 < n) (hn2 : n ≤ 1000000) :
    Calls Tryd.prog 29 #[.int .i64 c, .int .i64 n] w fun e w' => e = .returned (.int .i64 (pickNQ c n : Nat)) ∧ Drw w w' :=
  (pick_sameQ c n w hc hn hn2).mono fun _ _ h => ⟨h.1, by rw [h.2]; exact Drw.refl w⟩
theorem pick_atQ (c x : Int) (n : Nat) (w : World) (hc : -9223372036854775808 ≤ c ∧ c ≤ 9223372036854775807) (hn : 0 < n) (hn2 : n ≤ 1000000) (hx : x = n) :
    Calls Tryd.prog 29 #[.int .i64 c, .int .i64 x] w fun e w' => e = .returned (.int .i64 (pickNQ c n : Nat)) ∧ Drw w w' := by
  subst hx; exact pick_anyQ c n w hc hn hn2

/-- []byte(s) lays a row of its own. -/
theorem conv_bytesQ (w : World) (s : ByteArray) : ∃ w' cap, (convert 9 49 (.string s)).run Tryd.prog w = .ok (.slice (some ⟨w.heap.size, 0, none⟩) s.size cap) w' ∧
    Bel w w' ∧ ByteRow w' w.heap.size s.data.toList ∧ w.heap.size < w'.heap.size := by
  refine ⟨_, _, run_bytes_of_string w 9 49 5 s Tryd.underlying9 Tryd.underlying49 Tryd.underlying5, (Bel.refl w).drew.alloc _, ?_, by simp⟩
  intro j hj
  have hj' : j < s.data.size := by simpa using hj
  have hsz : w.heap.size = w.drew.heap.size := rfl
  rw [hsz]
  refine ⟨?_, ?_⟩
  · rw [World.cell?_alloc_mark, bytesRow_at s _ j hj']
    simp
  · rw [World.frozen?_alloc_mark]
    have : s.data.size ≤ (bytesRow s (grownCap w s.size 0 5)).size := by unfold bytesRow; simp
    simp; omega
end Go.Proofs.YtbalkchphijehaaDoor
