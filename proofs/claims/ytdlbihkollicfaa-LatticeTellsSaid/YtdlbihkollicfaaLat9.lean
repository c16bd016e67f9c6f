/- The contract of same, and the mathematics of joins and meets. -/
import Derived.Test.YtdlbihkollicfaaLat8
set_option linter.unusedSimpArgs false
set_option linter.unusedVariables false
namespace Go.Proofs.Ytdlbihkollicfaa
open Go.RowKit

def SRel (L M : List Int) (w : World) (i : Value) (x : World) : Prop := ∃ k : Nat, k ≤ L.length ∧ i = .int .i64 k ∧ L.take k = M.take k ∧ Drw w x

set_option maxHeartbeats 1000000 in
theorem same_any {B B' : Nat} {v v' : Value} {L M : List Int} (w : World) (h : OwnG intEl B w v L) (h' : OwnG intEl B' w v' M) (hl : L.length ≤ 1000) (hm : M.length ≤ 1000) :
    Calls Try.prog 17 #[v, v'] w fun e w' => e = .returned (.bool (decide (L = M))) ∧ Drw w w' := by
  obtain ⟨p, cap, rfl, hcs⟩ := own_ints h
  obtain ⟨p', cap', rfl, hcs'⟩ := own_ints h'
  have HC := Lib.hid hcs; clear hcs h
  have HC' := Lib.hid hcs'; clear hcs' h'
  by_cases hlen : L.length = M.length
  · have HLEN := Lib.hid hlen
    have hlen' : ((L.length : Int) == (M.length : Int)) = true := by simp [hlen]
    have hlen'' : ((L.length : Int) != (M.length : Int)) = false := by simp [hlen]
    clear hlen
    go_enter Try.func17, Try.ntmps17
    go_wp2_with (fail)
    go_loopw [5] (fun i x => SRel L M w i x) (fun i _ => L.length - (intOf i).toNat)
    case atStart => exact ⟨0, by omega, rfl, by simp, Drw.refl _⟩
    case round =>
      obtain ⟨k, hk, rfl, htk, hd⟩ := hrel
      have HT := Lib.hid htk; clear htk
      have HD := Lib.hid hd; clear hd
      by_cases hlt : k < L.length
      · obtain ⟨y, hy⟩ : ∃ y, L[k]? = some y := ⟨L[k], List.getElem?_eq_getElem hlt⟩
        have hltm : k < M.length := by have := HLEN.out; omega
        obtain ⟨z, hz⟩ : ∃ z, M[k]? = some z := ⟨M[k], List.getElem?_eq_getElem hltm⟩
        obtain ⟨g, rfl, -, hg, hgc⟩ := HC.out k y hy
        obtain ⟨g', rfl, -, hg', hgc'⟩ := HC'.out k z hz
        have c0 : wr.cell? ⟨g, k, none⟩ = some (.int .i64 y) := (HD.out.bel.cell g k hg).trans hgc
        have c1 : wr.cell? ⟨g', k, none⟩ = some (.int .i64 z) := (HD.out.bel.cell g' k hg').trans hgc'
        clear hgc hgc'
        have HY := Lib.hid hy; clear hy
        have HZ := Lib.hid hz; clear hz
        have i1 : (k : Int) < (L.length : Int) := by omega
        have i2 : (k : Int) < (M.length : Int) := by omega
        by_cases e : y = z
        · have HE := Lib.hid e
          have e1 : (y != z) = false := by simpa using e
          have HX := Lib.hid (show L.take (k + 1) = M.take (k + 1) by
            rw [List.take_add_one, List.take_add_one, HT.out, HY.out, HZ.out, e])
          clear e
          go_wp2_with (fail)
          go_quiet (fail)
          go_wp2_with (fail)
          go_roundw
          case rel => exact ⟨k + 1, by omega, by go_num, HX.out, HD.out.drewN _⟩
          case measure => simp [intOf]; omega
        · have e1 : (y != z) = true := by simpa using e
          have HX := Lib.hid (show decide (L = M) = false by
            simp only [decide_eq_false_iff_not]
            intro h
            subst h
            have h1 := HY.out; have h2 := HZ.out
            rw [h1] at h2; injection h2 with h2; exact e h2)
          clear e
          go_wp2_with (fail)
          go_quiet (fail)
          go_wp2_with (fail)
          go_ret
          exact ⟨ret_bool HX.out.symm, HD.out.drewN _⟩
      · have HX := Lib.hid (show decide (L = M) = true by
          have h1 := HT.out; have h2 := HLEN.out
          rw [List.take_of_length_le (by omega), List.take_of_length_le (by omega)] at h1
          simpa using h1)
        go_wp2_with (fail)
        go_ret
        exact ⟨ret_bool HX.out.symm, HD.out⟩
  · have HX := Lib.hid (show decide (L = M) = false by
      simp only [decide_eq_false_iff_not]
      intro h
      exact hlen (by rw [h]))
    have hlen' : ((L.length : Int) != (M.length : Int)) = true := by simp; omega
    go_enter Try.func17, Try.ntmps17
    go_wp2_with (fail)
    go_ret
    exact ⟨ret_bool HX.out.symm, Drw.refl _⟩

/-- Two kinds of one family. -/
def comp (a b : Int) : Bool := decide (1 ≤ a ∧ a ≤ 6 ∧ 1 ≤ b ∧ b ≤ 6 ∧ (a ≤ 4 ↔ b ≤ 4))
theorem six {a : Int} (h : 1 ≤ a ∧ a ≤ 6) : a = 1 ∨ a = 2 ∨ a = 3 ∨ a = 4 ∨ a = 5 ∨ a = 6 := by omega
theorem up_out {a b : Int} (h : ¬ (1 ≤ a ∧ a ≤ 6) ∨ ¬ (1 ≤ b ∧ b ≤ 6)) : upB a b = false := by
  unfold upB; simp; omega
theorem find_none {f : Int → Bool} (h : ∀ x, f x = false) : els.find? f = none := by simp [els, h]
theorem findr_none {f : Int → Bool} (h : ∀ x, f x = false) : els.reverse.find? f = none := by simp [els, h]
theorem joins (a b : Int) : joinB upB a b = comp a b ∧ joinI upB a b = (if comp a b = true then max a b else 0) ∧ joinB dnB a b = comp a b ∧ joinI dnB a b = (if comp a b = true then min a b else 0)
    ∧ (els.find? fun i => upB a i && upB b i).isSome = comp a b ∧ loI (fun i => upB a i && upB b i) = (if comp a b = true then max a b else 0)
    ∧ (els.reverse.find? fun i => upB i a && upB i b).isSome = comp a b ∧ hiI (fun i => upB i a && upB i b) = (if comp a b = true then min a b else 0) := by
  by_cases ha : 1 ≤ a ∧ a ≤ 6
  · by_cases hb : 1 ≤ b ∧ b ≤ 6
    · rcases six ha with rfl | rfl | rfl | rfl | rfl | rfl <;> rcases six hb with rfl | rfl | rfl | rfl | rfl | rfl <;> decide
    · have hc : comp a b = false := by unfold comp; simp; omega
      have h1 : ∀ x, upB b x = false := fun x => up_out (Or.inl hb)
      have h2 : ∀ x, upB x b = false := fun x => up_out (Or.inr hb)
      have g1 : (els.find? fun x => isJ upB x a b) = none := find_none fun x => by simp [isJ, h1]
      have g2 : (els.find? fun x => isJ dnB x a b) = none := find_none fun x => by simp [isJ, dnB, h2]
      have g3 : (els.find? fun i => upB a i && upB b i) = none := find_none fun x => by simp [h1]
      have g4 : (els.reverse.find? fun i => upB i a && upB i b) = none := findr_none fun x => by simp [h2]
      simp only [joinB, joinI, loI, hiI, g1, g2, g3, g4, hc]
      simp
  · have hc : comp a b = false := by unfold comp; simp; omega
    have h1 : ∀ x, upB a x = false := fun x => up_out (Or.inl ha)
    have h2 : ∀ x, upB x a = false := fun x => up_out (Or.inr ha)
    have g1 : (els.find? fun x => isJ upB x a b) = none := find_none fun x => by simp [isJ, h1]
    have g2 : (els.find? fun x => isJ dnB x a b) = none := find_none fun x => by simp [isJ, dnB, h2]
    have g3 : (els.find? fun i => upB a i && upB b i) = none := find_none fun x => by simp [h1]
    have g4 : (els.reverse.find? fun i => upB i a && upB i b) = none := findr_none fun x => by simp [h2]
    simp only [joinB, joinI, loI, hiI, g1, g2, g3, g4, hc]
    simp
end Go.Proofs.Ytdlbihkollicfaa
