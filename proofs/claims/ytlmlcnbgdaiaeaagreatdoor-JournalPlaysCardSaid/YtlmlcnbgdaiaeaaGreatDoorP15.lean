/- FRcr, laid together. -/
import Derived.Test.YtlmlcnbgdaiaeaaGreatDoorP14
set_option linter.unusedSimpArgs false
set_option linter.unusedVariables false
/- moultref6's Crash: what a store into the row of files makes of it. -/
namespace Go.Proofs.YtlmlcnbgdaiaeaaGreatDoor
open Go.RowKit Go.Deep Go.Maps

theorem all_cons (x : FI) (L : List FI) : fileEl.all (x :: L) = [.string ⟨x.name.toArray⟩, .string ⟨x.bytes.toArray⟩, .int .i64 x.safe] ++ fileEl.all L := by simp [El.all, fileEl]
theorem all_set (y : FI) : ∀ (L : List FI) (i : Nat), i < L.length → fileEl.all (L.set i y) = (((fileEl.all L).set (i * 3) (.string ⟨y.name.toArray⟩)).set (i * 3 + 1) (.string ⟨y.bytes.toArray⟩)).set (i * 3 + 2) (.int .i64 y.safe)
  | [], i, h => by simp at h
  | x :: L, 0, _ => by simp [all_cons]
  | x :: L, i + 1, h => by
    have ih := all_set y L i (by simpa using h)
    rw [List.set_cons_succ, all_cons, all_cons, ih, show (i + 1) * 3 = i * 3 + 1 + 1 + 1 by omega]
    simp
theorem row_set {B : Nat} {w : World} {g n cap : Nat} {L : List FI} (h : OwnG fileEl B w (.slice (some ⟨g, 0, none⟩) n cap) L) (i : Nat) (hi : i < L.length) (y : FI) :
    OwnG fileEl B (((w.setCell ⟨g, i * 3, none⟩ (.string ⟨y.name.toArray⟩)).setCell ⟨g, i * 3 + 1, none⟩ (.string ⟨y.bytes.toArray⟩)).setCell ⟨g, i * 3 + 2, none⟩ (.int .i64 y.safe)) (.slice (some ⟨g, 0, none⟩) n cap) (L.set i y) := by
  obtain ⟨h1, h2⟩ := h
  rcases h2 with ⟨hv, h0⟩ | ⟨g', cap', cur, hv, hg, hh, hc, hx, hsz, htk⟩
  · cases hv
  · simp only [Value.slice.injEq, Option.some.injEq, Addr.mk.injEq, and_true] at hv
    obtain ⟨rfl, hn, rfl⟩ := hv
    refine ⟨El.all_len fileOk _, Or.inr ⟨g, cap, ((cur.setIfInBounds (i * 3) (.string ⟨y.name.toArray⟩)).setIfInBounds (i * 3 + 1) (.string ⟨y.bytes.toArray⟩)).setIfInBounds (i * 3 + 2) (.int .i64 y.safe), by rw [List.length_set, hn], hg, blk_set (blk_set (blk_set hh _ _) _ _) _ _, by rw [List.length_set]; exact hc, hx, by simpa using hsz, ?_⟩⟩
    rw [all_set y L i hi, ← htk]
    simp [List.take_set]
theorem row_free {B : Nat} {w : World} {g n cap : Nat} {L : List FI} (h : OwnG fileEl B w (.slice (some ⟨g, 0, none⟩) n cap) L) (i : Nat) : w.frozen? ⟨g, i, none⟩ = false := by
  rcases h.2 with ⟨hv, h0⟩ | ⟨g', cap', cur, hv, hg, hh, _⟩
  · cases hv
  · simp only [Value.slice.injEq, Option.some.injEq, Addr.mk.injEq, and_true] at hv
    obtain ⟨rfl, _, _⟩ := hv
    simp [World.frozen?, hh]
end Go.Proofs.YtlmlcnbgdaiaeaaGreatDoor
