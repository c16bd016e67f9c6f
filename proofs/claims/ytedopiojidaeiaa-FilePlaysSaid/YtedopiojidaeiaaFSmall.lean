/- moultref6's Get, Limit and at. -/
import Derived.Test.YtedopiojidaeiaaFThere
import Derived.Test.YtedopiojidaeiaaFAct
set_option linter.unusedSimpArgs false
set_option linter.unusedVariables false
namespace Go.Proofs.Ytedopiojidaeiaa
open Go.RowKit Go.Deep

set_option maxHeartbeats 4000000 in
theorem rget_any (n₀ : Nat) (w : World) (b : Nat) (M : RS) (v : Value) (s : ByteArray) (h : RefAt n₀ w b M v) (hL : M.L.length ≤ 1000) :
    Calls Try.prog 35 #[.pointer (some ⟨b, 0, none⟩), .string s] w fun e w' =>
      e = .returned (.tuple #[.string ⟨(thereS s.data.toList M).1.bytes.toArray⟩, .int .i64 (thereS s.data.toList M).2]) ∧ Bel w w' := by
  have HR := Lib.hid h; clear h
  go_enter Try.func35, Try.ntmps35
  go_wp2_with (fail)
  refine (there_any n₀ _ b M v s (by first | exact HR.out | exact HR.out.bel ((Bel.refl w).alloc _)) hL).mono ?_
  rintro e w1 ⟨rfl, hb⟩
  have HB := Lib.hid (show Bel w w1 by first | exact hb | exact ((Bel.refl w).alloc _).trans hb)
  obtain ⟨x, ee, hr⟩ : ∃ x ee, thereS s.data.toList M = (x, ee) := ⟨_, _, rfl⟩
  have HT := Lib.hid hr
  rw [hr]
  clear hr hb
  unfold fileW
  go_wp2_with (fail)
  go_ret2
  exact ⟨by rw [HT.out]; rfl, HB.out.alloc _⟩

/-- The turns that Limit leaves. -/
def limS (t : Int) (M : RS) : RS := { M with turns := if t < -1 then -1 else t }
set_option maxHeartbeats 2000000 in
theorem rlimit_any (n₀ : Nat) (w : World) (b : Nat) (M : RS) (v : Value) (t : Int) (h : RefAt n₀ w b M v) :
    Calls Try.prog 36 #[.pointer (some ⟨b, 0, none⟩), .int .i64 t] w fun e w' => (∃ u, e = .returned u) ∧ RefAt n₀ w' b (limS t M) v ∧ Keep [b] w w' := by
  obtain ⟨c0, c1, c2, c3⟩ := h.cells
  have f2 := h.frozen 2
  have HR := Lib.hid h; clear h
  have HK := Lib.hid (show RefAt n₀ (w.setCell ⟨b, 2, none⟩ (.int .i64 (if t < -1 then -1 else t))) b (limS t M) v from HR.out.put_turns _)
  by_cases ht : t < -1
  · rw [if_pos ht] at HK
    go_enter Try.func36, Try.ntmps36
    go_wp2_with (fail)
    go_end0
    exact ⟨⟨_, rfl⟩, HK.out, keep_set w b 2 _⟩
  · rw [if_neg ht] at HK
    by_cases h1 : t = -1
    · subst h1
      go_enter Try.func36, Try.ntmps36
      go_wp2_with (fail)
      go_end0
      exact ⟨⟨_, rfl⟩, HK.out, keep_set w b 2 _⟩
    · have h2 : -1 < t := by omega
      go_enter Try.func36, Try.ntmps36
      go_wp2_with (fail)
      go_end0
      exact ⟨⟨_, rfl⟩, HK.out, keep_set w b 2 _⟩

/-- The k-th number, or 0. -/
def atN (L : List Int) (k : Nat) : Int := (L[k]?).getD 0
set_option maxHeartbeats 2000000 in
theorem rat_any (w : World) (p : Option Addr) (cap : Nat) (L : List Int) (k : Nat) (h : IntsAt w p L) (hL : L.length ≤ maxLen) (hk : k ≤ 1000000) :
    Calls Try.prog 53 #[.slice p L.length cap, .int .i64 k] w fun e w' => e = .returned (.int .i64 (atN L k)) ∧ Drw w w' := by
  have H := Lib.hid h; clear h
  unfold maxLen at hL
  by_cases hlt : k < L.length
  · obtain ⟨a, rfl, hc⟩ := H.out k hlt
    have HA := Lib.hid (show atN L k = L[k] by unfold atN; rw [List.getElem?_eq_getElem hlt]; rfl)
    go_enter Try.func53, Try.ntmps53
    go_wp2_with (fail)
    go_ret
    exact ⟨ret_int (by rw [HA.out]), Drw.refl w⟩
  · have HA := Lib.hid (show atN L k = 0 by unfold atN; rw [List.getElem?_eq_none (by omega)]; rfl)
    go_enter Try.func53, Try.ntmps53
    go_wp2_with (fail)
    go_ret
    exact ⟨ret_int (by rw [HA.out]), Drw.refl w⟩
end Go.Proofs.Ytedopiojidaeiaa
