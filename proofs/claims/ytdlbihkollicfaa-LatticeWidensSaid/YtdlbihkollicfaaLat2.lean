/- The contracts of kinds and below. -/
import Derived.Test.YtdlbihkollicfaaLat1
set_option linter.unusedSimpArgs false
set_option linter.unusedVariables false
namespace Go.Proofs.Ytdlbihkollicfaa
open Go.RowKit

set_option maxHeartbeats 400000 in
theorem kinds_any (w : World) :
    Calls Try.prog 26 #[] w fun e w' => e = .returned (.agg #[.slice (some ⟨w.heap.size + 1, 0, none⟩) 6 6, .slice (some ⟨w.heap.size + 2, 0, none⟩) 4 4]) ∧ Bel w w' ∧ OrdAt w' (w.heap.size + 1) (w.heap.size + 2) upL := by
  go_enter Try.func26, Try.ntmps26
  go_wp2
  refine bodyPost_ret (v := .agg #[.slice (some ⟨w.heap.size + 1, 0, none⟩) 6 6, .slice (some ⟨w.heap.size + 2, 0, none⟩) 4 4]) (by simp [results, Try.results26, go_sem]) rfl ⟨rfl, (((Bel.refl w).alloc _).alloc _).alloc _, ?_, ?_, by simp, by simp⟩
  · intro k hk
    match k, hk with
    | 0, _ => go_simp
    | 1, _ => go_simp
    | 2, _ => go_simp
    | 3, _ => go_simp
    | 4, _ => go_simp
    | 5, _ => go_simp
  · intro k p hp
    match k, hp with
    | 0, hp => simp [upL] at hp; subst hp; constructor <;> go_simp
    | 1, hp => simp [upL] at hp; subst hp; constructor <;> go_simp
    | 2, hp => simp [upL] at hp; subst hp; constructor <;> go_simp
    | 3, hp => simp [upL] at hp; subst hp; constructor <;> go_simp
    | k + 4, hp => simp [upL] at hp

/-- Where the search stands, of the steps one after the other. -/
def BRel (R : Int → Int → Bool) (l : List (Int × Int)) (a b : Int) (w0 : World) (i : Value) (x : World) : Prop :=
  ∃ k : Nat, k ≤ 4 ∧ i = .int .i64 k ∧ ((l.take k).any fun p => decide (p.1 = a) && R p.2 b) = false ∧ Bel w0 x
theorem any_snoc {l : List (Int × Int)} {k : Nat} {p : Int × Int} (f : Int × Int → Bool) (h : l[k]? = some p) (h0 : (l.take k).any f = false) (h1 : f p = false) : (l.take (k + 1)).any f = false := by
  rw [List.take_add_one, h, List.any_append, h0]; simp [h1]
theorem any_hit {l : List (Int × Int)} {k : Nat} {p : Int × Int} (f : Int × Int → Bool) (h : l[k]? = some p) (h1 : f p = true) : l.any f = true :=
  List.any_eq_true.2 ⟨p, List.mem_of_getElem? h, h1⟩

set_option maxHeartbeats 1000000 in
theorem below_ind {l : List (Int × Int)} {R : Int → Int → Bool} {rank : Int → Nat} (hR : OrdR l R rank) (b : Int) (be bs ce cs : Nat) : ∀ (n : Nat) (a : Int), rank a = n → ∀ w : World, OrdAt w be bs l →
    Calls Try.prog 29 #[.agg #[.slice (some ⟨be, 0, none⟩) 6 ce, .slice (some ⟨bs, 0, none⟩) 4 cs], .int .i64 a, .int .i64 b] w fun e w' => e = .returned (.bool (R a b)) ∧ Bel w w' := by
  intro n
  induction n using Nat.strongRecOn with
  | ind n ih =>
    intro a hn w hw
    by_cases hab : a = b
    · subst hab
      rw [hR.self]
      have HW := Lib.hid hw
      clear hw
      clear hn
      go_enter Try.func29, Try.ntmps29
      go_wp2_with (fail)
      refine (contains_any a be ce _ (HW.out.alloc _).els).mono ?_
      rintro e w1 ⟨rfl, rfl⟩
      go_wp2
      go_ret
      exact ⟨rfl, (Bel.refl w).alloc _⟩
    · rw [hR.step a b hab]
      have HW := Lib.hid hw
      clear hw
      have hab' : (a == b) = false := by simpa using hab
      have HI := Lib.hid ih
      clear ih
      have HN := Lib.hid hn
      clear hn
      go_enter Try.func29, Try.ntmps29
      go_wp2_with (fail)
      go_loopw [19] (fun i x => BRel R l a b (w.alloc (.cells #[.slice (some ⟨be, 0, none⟩) 6 ce, .slice (some ⟨bs, 0, none⟩) 4 cs] 42)) i x) (fun i _ => 4 - (intOf i).toNat)
      case atStart => exact ⟨0, by omega, rfl, by simp, Bel.refl _⟩
      case round =>
        obtain ⟨k, hk, rfl, hno, hb⟩ := hrel
        have HNO := Lib.hid hno; clear hno
        have HO := Lib.hid ((HW.out.alloc _).bel hb)
        have b0 : wr.cell? ⟨w.heap.size, 0, none⟩ = some (.slice (some ⟨be, 0, none⟩) 6 ce) := cell_later hb (by go_simp)
        have b1 : wr.cell? ⟨w.heap.size, 1, none⟩ = some (.slice (some ⟨bs, 0, none⟩) 4 cs) := cell_later hb (by go_simp)
        have hz : w.heap.size < wr.heap.size := hb.past
        have HB := Lib.hid hb; clear hb
        by_cases hlt : k < 4
        · obtain ⟨⟨lo, hi⟩, hp⟩ : ∃ p, l[k]? = some p := ⟨l[k]'(by rw [hR.four]; exact hlt), by simp [hR.four, hlt]⟩
          obtain ⟨c0, c1⟩ := HO.out.steps k _ hp
          have HP := Lib.hid hp; clear hp
          by_cases hla : lo = a
          · have HLA := Lib.hid hla
            have hla' : (lo == a) = true := by simpa using hla
            have HD := Lib.hid (show rank hi < n by
              have := hR.down _ (List.mem_of_getElem? HP.out)
              have h2 := HN.out
              rw [← HLA.out] at h2
              exact h2 ▸ this)
            clear hla
            simp only at c0 c1
            go_wp2_with (fail)
            refine (HI.out (rank hi) HD.out hi rfl _ (HO.out.alloc _)).mono ?_
            rintro e w2 ⟨rfl, hb2⟩
            have HB2 := Lib.hid ((HB.out.trans ((Bel.refl _).alloc _)).trans hb2); clear hb2 HB
            rcases hr : R hi b with _ | _
            · have HX := Lib.hid (any_snoc (fun p => decide (p.1 = a) && R p.2 b) HP.out HNO.out (by simp [hr]))
              clear hr
              go_wp2
              go_roundw
              case rel => exact ⟨k + 1, by omega, by go_num, HX.out, HB2.out⟩
              case measure => simp [intOf]; omega
            · have HX := Lib.hid (any_hit (fun p => decide (p.1 = a) && R p.2 b) HP.out (by simp [hr, HLA.out]))
              clear hr
              go_wp2
              go_ret
              exact ⟨ret_bool HX.out.symm, ((Bel.refl w).alloc _).trans HB2.out⟩
          · have hla' : (lo == a) = false := by simpa using hla
            have HX := Lib.hid (any_snoc (fun p => decide (p.1 = a) && R p.2 b) HP.out HNO.out (by simp [hla]))
            clear hla
            simp only at c0 c1
            go_wp2_with (fail)
            go_roundw
            case rel => exact ⟨k + 1, by omega, by go_num, HX.out, HB.out.trans ((Bel.refl _).alloc _)⟩
            case measure => simp [intOf]; omega
        · have HX := Lib.hid (show (l.any fun p => decide (p.1 = a) && R p.2 b) = false by
            have := HNO.out
            rwa [List.take_of_length_le (by rw [hR.four]; omega)] at this)
          go_wp2
          go_ret
          exact ⟨ret_bool HX.out.symm, ((Bel.refl w).alloc _).trans HB.out⟩

theorem below_at {l : List (Int × Int)} {R : Int → Int → Bool} {rank : Int → Nat} (hR : OrdR l R rank) (a b : Int) (be bs ce cs : Nat) (w : World) (hw : OrdAt w be bs l) :
    Calls Try.prog 29 #[.agg #[.slice (some ⟨be, 0, none⟩) 6 ce, .slice (some ⟨bs, 0, none⟩) 4 cs], .int .i64 a, .int .i64 b] w fun e w' => e = .returned (.bool (R a b)) ∧ Bel w w' :=
  below_ind hR b be bs ce cs (rank a) a rfl w hw

set_option maxHeartbeats 400000 in
theorem Below_any (a b : Int) (w : World) :
    Calls Try.prog 15 #[.int .i64 a, .int .i64 b] w fun e w' => e = .returned (.bool (upB a b)) ∧ Bel w w' := by
  go_enter Try.func15, Try.ntmps15
  go_wp2_with (fail)
  refine (kinds_any _).mono ?_
  rintro e w1 ⟨rfl, hb, ho⟩
  have HB := Lib.hid hb; clear hb
  have HO := Lib.hid ho; clear ho
  go_wp2_with (fail)
  refine (below_at up_ord a b _ _ _ _ _ HO.out).mono ?_
  rintro e w2 ⟨rfl, hb2⟩
  have HB2 := Lib.hid (HB.out.trans hb2); clear hb2
  go_wp2
  go_ret
  exact ⟨rfl, HB2.out⟩
end Go.Proofs.Ytdlbihkollicfaa
