/- moultref8.three: the three lengths with which some bytes begin. -/
import Derived.Test.YtldkpomkgmilbaaBFirst
import Derived.Test.YtldkpomkgmilbaaBOwn
set_option linter.unusedSimpArgs false
set_option linter.unusedVariables false
namespace Go.Proofs.Ytldkpomkgmilbaa
open Go.RowKit Go.Deep

theorem rtake8_any (s : ByteArray) (w : World) (hs : s.size ≤ 1000000) :
    Calls Try.prog 45 #[.string s] w fun e w' => e = .returned (takeV s.data.toList) ∧ Bel w w' := by
  by_cases h0 : s.size = 0
  · obtain rfl : s = ⟨#[]⟩ := by apply ByteArray.ext; exact Array.eq_empty_of_size_eq_zero h0
    go_enter Try.func45, Try.ntmps45
    go_wp2_with (fail)
    go_ret3
    exact ⟨rfl, Bel.refl w⟩
  have h0' : 0 < s.size := by omega
  by_cases h1 : (s[0].toNat : Int) < 241
  · exact rtake_one s w hs h0' h1
  by_cases h2 : (s[0].toNat : Int) < 249
  · exact rtake_two s w hs h0' (by omega) h2
  by_cases h3 : (s[0].toNat : Int) = 249
  · exact rtake_three s w hs h0' h3
  · exact rtake_more s w hs h0' (by omega)

def intEl8 : El Int := ⟨3, 72, 1, fun n => [.int .i64 n]⟩
theorem intOk8 : ElOk intEl8 8 := ⟨fun _ => rfl, fun a u hu => by simp [intEl8] at hu; subst hu; rfl, by kernel_rfl, ⟨.int .i64 0, by kernel_rfl, rfl⟩, by decide⟩
def upto (c : Nat → Nat) (k : Nat) : List Int := (List.range k).map fun j => (c j : Int)
theorem upto_len (c : Nat → Nat) (k : Nat) : (upto c k).length = k := by simp [upto]
theorem upto_succ (c : Nat → Nat) (k n : Nat) : upto (fun j => if j = k then n else c j) (k + 1) = upto c k ++ [(n : Int)] := by
  unfold upto
  rw [List.range_succ, List.map_append]
  congr 1
  · apply List.map_congr_left
    intro j hj
    rw [List.mem_range] at hj
    simp only [if_neg (show ¬ j = k by omega)]
  · simp
theorem three4_none {s : List UInt8} (h : threeL s = none) : three4 s = none := by unfold three4; rw [h]
theorem three4_big {s : List UInt8} {a b c : Nat} {r : List UInt8} (h : threeL s = some (a, b, c, r)) (hb : ¬ (a ≤ 40000 ∧ b ≤ 40000 ∧ c ≤ 40000)) : three4 s = none := by unfold three4; rw [h]; exact if_neg hb
theorem tie_big {s : List UInt8} {c : Nat → Nat} {k n : Nat} {r r' : List UInt8} (hk : k < 3) (h : Tie s c k r) (ht : takeL r = (n, r', true)) (hn : 40000 < n) : three4 s = none := by
  cases hT : threeL s with
  | none => exact three4_none hT
  | some q =>
    obtain ⟨a, b, d, x⟩ := q
    refine three4_big hT ?_
    have : k = 0 ∨ k = 1 ∨ k = 2 := by omega
    rcases this with rfl | rfl | rfl
    · cases h
      unfold threeL at hT
      rw [ht] at hT
      simp only [if_true] at hT
      split at hT
      · split at hT
        · cases hT; omega
        · cases hT
      · cases hT
    · have h0 : takeL s = (c 0, r, true) := h
      unfold threeL at hT
      rw [h0] at hT
      simp only [if_true] at hT
      rw [ht] at hT
      simp only [if_true] at hT
      split at hT
      · cases hT; omega
      · cases hT
    · obtain ⟨r1, h1, h2⟩ := h
      rw [three_yes h1 h2 ht] at hT
      cases hT; omega
theorem tie_no4 {s : List UInt8} {c : Nat → Nat} {k n : Nat} {r r' : List UInt8} (hk : k < 3) (h : Tie s c k r) (ht : takeL r = (n, r', false)) : three4 s = none := by
  have : k = 0 ∨ k = 1 ∨ k = 2 := by omega
  rcases this with rfl | rfl | rfl
  · cases h; exact three4_none (three_no0 ht)
  · exact three4_none (three_no1 h ht)
  · obtain ⟨r1, h1, h2⟩ := h
    exact three4_none (three_no2 h1 h2 ht)
def ThreePost (s : List UInt8) (w : World) (e : Ending) (w' : World) : Prop :=
  Bel w w' ∧ ((three4 s = none ∧ e = .returned (.tuple #[.slice none 0 0, .string ⟨#[]⟩, .bool false])) ∨
    ∃ (a b c : Nat) (r : List UInt8) (v : Value), three4 s = some (a, b, c, r) ∧ e = .returned (.tuple #[v, .string ⟨r.toArray⟩, .bool true]) ∧ OwnG intEl8 w.heap.size w' v [(a : Int), b, c])
def ThreeRel (s : ByteArray) (w : World) (lv sv iv : Value) (x : World) : Prop :=
  ∃ (k : Nat) (r : ByteArray) (c : Nat → Nat), k ≤ 3 ∧ iv = .int .i64 k ∧ sv = .string r ∧ r.size ≤ s.size ∧ Tie s.data.toList c k r.data.toList ∧ (∀ j, j < k → c j ≤ 40000) ∧ OwnG intEl8 w.heap.size x lv (upto c k) ∧ Bel w x

set_option maxHeartbeats 4000000 in
theorem three_any (s : ByteArray) (w : World) (hs : s.size ≤ 1000000) :
    Calls Try.prog 36 #[.string s] w (ThreePost s.data.toList w) := by
  go_enter Try.func36, Try.ntmps36
  go_wp2_with (fail)
  go_loopw [5, 6, 7] (fun lv sv iv x => ThreeRel s w lv sv iv x) (fun _ _ iv _ => 3 - (intOf iv).toNat)
  case atStart => exact ⟨0, s, fun _ => 0, by omega, rfl, rfl, Nat.le_refl _, rfl, fun j h => by omega, OwnG.nil _ _ _, Bel.refl w⟩
  case round =>
    obtain ⟨k, r, c, hk, rfl, rfl, hrs, htie, hc4, hown, hb⟩ := hrel
    have HT := Lib.hid htie; clear htie
    have HC4 := Lib.hid hc4; clear hc4
    have hul := upto_len c k
    obtain ⟨lp, lcap, rfl⟩ := ownG_len hown
    rw [hul] at hown ⊢
    have HO := Lib.hid hown; clear hown
    have HB := Lib.hid hb; clear hb
    by_cases h3 : k = 3
    · subst h3
      have ht : threeL s.data.toList = some (c 0, c 1, c 2, r.data.toList) := HT.out
      have HF := Lib.hid (three4_some.2 ⟨ht, HC4.out 0 (by omega), HC4.out 1 (by omega), HC4.out 2 (by omega)⟩)
      clear ht
      go_wp2_with (fail)
      go_ret3
      exact ⟨HB.out, Or.inr ⟨_, _, _, _, _, HF.out, by rw [ba_list]; rfl, HO.out⟩⟩
    · have hk3 : k < 3 := by omega
      obtain ⟨n, r', b, hT⟩ : ∃ n r' b, takeL r.data.toList = (n, r', b) := ⟨_, _, _, rfl⟩
      have hrest := take_rest r.data.toList
      have hn64 := take_lt r.data.toList
      rw [hT] at hrest hn64
      simp only [] at hrest hn64
      have hrl : r.data.toList.length = r.size := rfl
      have hrz := mk_size r'
      have HV := Lib.hid (take_val _ _ _ _ hT)
      cases b with
      | false =>
        have HF := Lib.hid (tie_no4 hk3 HT.out hT)
        clear hT
        go_wp2_with (fail)
        refine (rtake8_any r wr (by omega)).mono ?_
        rintro e w1 ⟨rfl, hb1⟩
        rw [HV.out]
        have HB1 := Lib.hid (HB.out.trans hb1); clear hb1
        go_wp2_with (fail)
        go_ret3
        exact ⟨HB1.out, Or.inl ⟨HF.out, rfl⟩⟩
      | true =>
        by_cases hn : n ≤ 40000
        · have HN := Lib.hid (tie_next hk3 HT.out hT)
          have HU := Lib.hid (upto_succ c k n)
          have hn' : ((n : Int)) ≤ 40000 := by omega
          have hw64 : IntKind.i64.wrap (n : Int) = (n : Int) := IntWalk.i64_in _ (by omega)
          clear hT
          go_wp2_with (fail)
          refine (rtake8_any r wr (by omega)).mono ?_
          rintro e w1 ⟨rfl, hb1⟩
          rw [HV.out]
          have HB1 := Lib.hid (HB.out.trans hb1)
          have HO1 := Lib.hid (HO.out.bel hb1); clear hb1
          have hz1 : w.heap.size ≤ w1.heap.size := HB1.out.size
          go_wp2_with (at_builtin; refine stop_here ?_)
          refine go_on ?_
          refine append_glit intOk8 rfl _ _ rfl rfl HO1.out _ _ _ [(n : Int)] rfl rfl rfl (by rw [hul]; simp only [List.length_singleton]; unfold maxLen; omega) (by rw [hul]; simp only [List.length_singleton]; omega) hz1 (Or.inl rfl) ?_
          intro v2 w2 hown2 hbel2 hZ2
          have HV2 := Lib.hid hown2; have HB2 := Lib.hid hbel2; clear hown2 hbel2
          go_wp2_with (fail)
          go_roundw
          case rel =>
            refine ⟨k + 1, ⟨r'.toArray⟩, fun j => if j = k then n else c j, by omega, by go_num, rfl, by rw [hrz]; omega, by simpa using HN.out, fun j hj => ?_, by rw [HU.out]; exact HV2.out, HB1.out.trans_below HB2.out⟩
            by_cases e : j = k
            · simp only [if_pos e]; exact hn
            · simp only [if_neg e]; exact HC4.out j (by omega)
          case measure => simp [intOf]; omega
        · have HF := Lib.hid (tie_big hk3 HT.out hT (by omega))
          have hn' : ¬ ((n : Int)) ≤ 40000 := by omega
          clear hT
          go_wp2_with (fail)
          refine (rtake8_any r wr (by omega)).mono ?_
          rintro e w1 ⟨rfl, hb1⟩
          rw [HV.out]
          have HB1 := Lib.hid (HB.out.trans hb1); clear hb1
          go_wp2_with (fail)
          go_ret3
          exact ⟨HB1.out, Or.inl ⟨HF.out, rfl⟩⟩
end Go.Proofs.Ytldkpomkgmilbaa
