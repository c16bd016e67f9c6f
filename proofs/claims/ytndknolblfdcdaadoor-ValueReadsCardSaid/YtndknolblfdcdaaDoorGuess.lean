/- strconv.Atoi at every string; value.number, value.text. -/
import Derived.Test.YtndknolblfdcdaaDoorUnq
import Derived.Lib.AtoiAllCases
set_option linter.unusedSimpArgs false
set_option linter.unusedVariables false
namespace Go.Proofs.YtndknolblfdcdaaDoor
open Go.RowKit

def AtoiPost (l : List UInt8) (w : World) (e : Ending) (w' : World) : Prop :=
  (∃ v, e = .returned (.tuple #[.int .i64 v, .nilIface]) ∧ Lib.atoiAll l = .ok v ∧ Bel w w') ∨ (∃ v T p, e = .returned (.tuple #[.int .i64 v, .iface T p]) ∧ (∀ v', Lib.atoiAll l ≠ .ok v') ∧ Bel w w')
theorem atoi_any (s : ByteArray) (w : World) (hs : s.size ≤ 1000000) (hstd : Std w) :
    Calls Tryd.prog 40 #[.string s] w (AtoiPost s.data.toList w) := by
  obtain ⟨_, ⟨t2, p2, h2⟩, ⟨t3, p3, h3⟩, _⟩ := hstd
  rcases h : Lib.atoiAll s.data.toList with v | _ | _
  · refine (Any.strconv_Atoi_ok Tryd.laysC172 s (by omega) v h w).mono ?_
    rintro e w' ⟨rfl, hw⟩
    refine Or.inl ⟨v, rfl, h, ?_⟩
    rcases hw with rfl | ⟨t, rfl⟩
    · exact Bel.refl _
    · exact Lib.bytesWorld_below _ _ _
  · refine (Any.strconv_Atoi_syntax Tryd.laysC172 s (by omega) h _ w h2 (Or.inr ⟨t2, p2, rfl⟩)).mono ?_
    rintro e w' ⟨N, rfl, -, -, hb⟩
    exact Or.inr ⟨_, _, _, rfl, fun v' hv => (by rw [h] at hv; cases hv), hb⟩
  · refine (Any.strconv_Atoi_range Tryd.laysC172 s (by omega) h _ w h3 (Or.inr ⟨t3, p3, rfl⟩)).mono ?_
    rintro e w' ⟨N, rfl, -, -, hb⟩
    exact Or.inr ⟨_, _, _, rfl, fun v' hv => (by rw [h] at hv; cases hv), hb⟩

def NumPost (k : Int) (l : List UInt8) (w : World) (e : Ending) (w' : World) : Prop :=
  ∃ k' n' : Int, e = .returned (.agg #[.int .i64 k', .int .i64 n', .string ⟨#[]⟩]) ∧ (-9223372036854775808 ≤ n' ∧ n' ≤ 9223372036854775807) ∧ (∀ v, Lib.atoiAll l = .ok v → k' = k ∧ n' = v) ∧ Bel w w'

set_option maxHeartbeats 1000000 in
theorem number_any (k : Int) (s : ByteArray) (w : World) (hs : s.size ≤ 1000000) (hstd : Std w) :
    Calls Tryd.prog 35 #[.int .i64 k, .string s] w (NumPost k s.data.toList w) := by
  have HS := Lib.hid hstd; clear hstd
  go_enter Tryd.func35, Tryd.ntmps35
  go_wp2_with (fail)
  refine (atoi_any s _ hs (HS.out.alloc _)).mono ?_
  rintro e w1 (⟨v, rfl, hv, hb⟩ | ⟨v, T, p, rfl, hv, hb⟩)
  · have hbd := Lib.atoiAll_bounds hv
    have HV := Lib.hid hv; clear hv
    have q0 : w1.cell? ⟨w.heap.size, 0, none⟩ = some (.int .i64 0) := cell_later hb (by go_simp)
    have q1 : w1.cell? ⟨w.heap.size, 1, none⟩ = some (.int .i64 0) := cell_later hb (by go_simp)
    have q2 : w1.cell? ⟨w.heap.size, 2, none⟩ = some (.string ⟨#[]⟩) := cell_later hb (by go_simp)
    obtain ⟨hc, hf⟩ := bcell hb
    have HB := Lib.hid hb; clear hb
    go_wp2
    exact bodyPost_ret (v := .agg #[.int .i64 k, .int .i64 v, .string ⟨#[]⟩]) (by simp [results, Tryd.results35, go_sem, q0, q1, q2]) rfl
      ⟨k, v, rfl, hbd, fun v' h => by rw [HV.out] at h; injection h with h; exact ⟨rfl, h⟩, (((((Bel.refl w).alloc _).trans HB.out).setCell (Nat.le_refl _) _).setCell (Nat.le_refl _) _).setCell (Nat.le_refl _) _⟩
  · have HV := Lib.hid hv; clear hv
    have q0 : w1.cell? ⟨w.heap.size, 0, none⟩ = some (.int .i64 0) := cell_later hb (by go_simp)
    have q1 : w1.cell? ⟨w.heap.size, 1, none⟩ = some (.int .i64 0) := cell_later hb (by go_simp)
    have q2 : w1.cell? ⟨w.heap.size, 2, none⟩ = some (.string ⟨#[]⟩) := cell_later hb (by go_simp)
    obtain ⟨hc, hf⟩ := bcell hb
    have HB := Lib.hid hb; clear hb
    go_wp2
    exact bodyPost_ret (v := .agg #[.int .i64 0, .int .i64 0, .string ⟨#[]⟩]) (by simp [results, Tryd.results35, go_sem, q0, q1, q2]) rfl
      ⟨0, 0, rfl, by omega, fun v' h => absurd h (HV.out v'), (((((Bel.refl w).alloc _).trans HB.out).setCell (Nat.le_refl _) _).setCell (Nat.le_refl _) _).setCell (Nat.le_refl _) _⟩

def TextPost (k : Int) (l : List UInt8) (w : World) (e : Ending) (w' : World) : Prop :=
  ∃ (k' : Int) (t : List UInt8), e = .returned (.agg #[.int .i64 k', .int .i64 0, .string ⟨t.toArray⟩]) ∧ t.length ≤ l.length ∧ (∀ c r, l = c :: r → k' = k ∧ ∀ m L, mk m → r = escL m L → t = L) ∧ Bel w w'

theorem tail_data (s : ByteArray) : (s.extract 1 s.size).data.toList = s.data.toList.tail := by
  rw [Lib.extract_data, List.drop_one, List.take_of_length_le]
  rw [List.length_tail]; exact Nat.le_refl _

set_option maxHeartbeats 1000000 in
theorem text_any (k : Int) (s : ByteArray) (w : World) (hs : s.size ≤ 1000000) (hstd : Std w) :
    Calls Tryd.prog 36 #[.int .i64 k, .string s] w (TextPost k s.data.toList w) := by
  have HS := Lib.hid hstd; clear hstd
  by_cases h0 : s.size = 0
  · have he : s = ⟨#[]⟩ := by
      apply ByteArray.ext; exact Array.eq_empty_of_size_eq_zero h0
    subst he
    go_enter Tryd.func36, Tryd.ntmps36
    go_wp2_with (fail)
    exact bodyPost_ret (v := .agg #[.int .i64 0, .int .i64 0, .string ⟨#[]⟩]) (by simp [results, Tryd.results36, go_sem]) rfl
      ⟨0, [], rfl, Nat.le_refl _, (fun c r h => by cases h), (Bel.refl w).alloc _⟩
  · have hne : s.toList.isEmpty = false := by
      rw [ByteArray.toList_eq]
      cases h : s.data.toList with
      | nil => exact absurd (by have : s.data.toList.length = s.size := rfl
                                rw [h] at this; simpa using this.symm) h0
      | cons c r => rfl
    have h1 : 1 ≤ s.size := by omega
    go_enter Tryd.func36, Tryd.ntmps36
    go_wp2_with (fail)
    have hsz : (s.extract 1 s.size).size ≤ 1000000 := by
      have := congrArg List.length (tail_data s)
      rw [List.length_tail] at this
      have e1 : (s.extract 1 s.size).data.toList.length = (s.extract 1 s.size).size := rfl
      have e2 : s.data.toList.length = s.size := rfl
      omega
    refine (unquote_any (s.extract 1 s.size) _ hsz (HS.out.alloc _)).mono ?_
    rintro e w1 ⟨l, rfl, hl, hu, hb⟩
    have HU := Lib.hid hu; clear hu
    have q0 : w1.cell? ⟨w.heap.size, 0, none⟩ = some (.int .i64 0) := cell_later hb (by go_simp)
    have q1 : w1.cell? ⟨w.heap.size, 1, none⟩ = some (.int .i64 0) := cell_later hb (by go_simp)
    have q2 : w1.cell? ⟨w.heap.size, 2, none⟩ = some (.string ⟨#[]⟩) := cell_later hb (by go_simp)
    obtain ⟨hc, hf⟩ := bcell hb
    have HB := Lib.hid hb; clear hb
    go_wp2
    refine bodyPost_ret (v := .agg #[.int .i64 k, .int .i64 0, .string ⟨l.toArray⟩]) (by simp [results, Tryd.results36, go_sem, q0, q1, q2]) rfl
      ⟨k, l, rfl, ?_, ?_, (((((Bel.refl w).alloc _).trans HB.out).setCell (Nat.le_refl _) _).setCell (Nat.le_refl _) _).setCell (Nat.le_refl _) _⟩
    · have e1 : (s.extract 1 s.size).size = s.data.toList.tail.length := by rw [← tail_data s]; rfl
      rw [List.length_tail] at e1
      omega
    · intro c r h
      refine ⟨rfl, fun m L hm hL => HU.out m L hm ?_⟩
      rw [tail_data s, h]; exact hL
end Go.Proofs.YtndknolblfdcdaaDoor
