/- CheckBack: true for every argument. -/
import Derived.Test.YtjjfkbikodccbaaCLaw1
set_option linter.unusedSimpArgs false
set_option linter.unusedVariables false
namespace Go.Proofs.Ytjjfkbikodccbaa
open Go.RowKit Go.Deep

theorem frames_snoc (l : List (List UInt8)) (t : List UInt8) : framesL (l ++ [t]) = framesL l ++ frameL t := by simp [framesL]
theorem frames_len : ∀ (l : List (List UInt8)), (∀ t ∈ l, t.length ≤ 500) → (framesL l).length ≤ l.length * 513
  | [], _ => by simp [framesL]
  | t :: l, h => by
    have e : framesL (t :: l) = frameL t ++ framesL l := by simp [framesL]
    have h1 := frame_len t
    have h2 := szN_le t.length
    have h3 := h t (by simp)
    have ih := frames_len l (fun u hu => h u (by simp [hu]))
    rw [e, List.length_append, List.length_cons, Nat.add_mul]; omega
theorem take_snoc {α : Type} (L : List α) (k : Nat) (h : k < L.length) : L.take (k + 1) = L.take k ++ [L[k]] := by rw [List.take_add_one, List.getElem?_eq_getElem h]; rfl

/-- What Scan hands back: nil, or a slice of a block of its own. -/
def SliceOf (w : World) (v : Value) (L : List (List UInt8)) : Prop :=
  (v = .slice none 0 0 ∧ L = []) ∨ ∃ g cap, v = .slice (some ⟨g, 0, none⟩) L.length cap ∧ L.length ≤ cap ∧ StrsAt w (some ⟨g, 0, none⟩) L
theorem ownG_slice {B : Nat} {w : World} {v : Value} {L : List (List UInt8)} (h : OwnG strEl B w v L) : SliceOf w v L := by
  by_cases hL : L = []
  · subst hL
    rcases h.2 with ⟨h1, _⟩ | ⟨g, cap, cur, rfl, hg, hh, hc, _⟩
    · exact Or.inl ⟨h1, rfl⟩
    · exact Or.inr ⟨g, cap, rfl, hc, fun i hi => by simp at hi⟩
  · obtain ⟨g, cap, hv, _, _, hc, _⟩ := ownG_cells strOk h hL
    obtain ⟨p', cap', hv', hat⟩ := ownG_strs h
    rw [hv] at hv'
    cases hv'
    exact Or.inr ⟨g, cap, hv, hc, hat⟩
theorem SliceOf.bel {w x : World} {v : Value} {L : List (List UInt8)} (h : SliceOf w v L) (hb : Bel w x) : SliceOf x v L := by
  rcases h with h | ⟨g, cap, h1, h2, h3⟩
  · exact Or.inl h
  · exact Or.inr ⟨g, cap, h1, h2, h3.bel hb⟩
theorem scan_of (s : ByteArray) (l : List UInt8) (L : List (List UInt8)) (n : Nat) (e : Int) (w : World) (hs : s.size ≤ 1000000) (h : s.data.toList = l) (hsc : scanL l = (L, n, e)) :
    Calls Try.prog 17 #[.string s] w fun en w' => ∃ v, en = .returned (.tuple #[v, .int .i64 n, .int .i64 e]) ∧ SliceOf w' v L ∧ Bel w w' := by
  subst h
  refine (scan_any s w hs).mono ?_
  rintro en w' ⟨v, rfl, hown, hb⟩
  rw [hsc] at hown ⊢
  exact ⟨v, rfl, ownG_slice hown, hb⟩
theorem StrsAt.left {w : World} {p : Option Addr} {L M : List (List UInt8)} (h : StrsAt w p (L ++ M)) : StrsAt w p L := by
  intro i hi
  obtain ⟨a, ha, hc⟩ := h i (by rw [List.length_append]; omega)
  exact ⟨a, ha, by rw [hc, List.getElem_append_left hi]⟩
theorem StrsAt.right {w : World} {g : Nat} {L M : List (List UInt8)} (h : StrsAt w (some ⟨g, 0, none⟩) (L ++ M)) : StrsAt w (some ⟨g, L.length, none⟩) M := by
  intro i hi
  obtain ⟨a, ha, hc⟩ := h (L.length + i) (by rw [List.length_append]; omega)
  cases ha
  refine ⟨_, rfl, ?_⟩
  have e1 : (⟨g, 0, none⟩ : Addr).add (L.length + i) = ⟨g, L.length + i, none⟩ := by cases h : L.length + i <;> simp [Addr.add, h]
  have e2 : (⟨g, L.length, none⟩ : Addr).add i = ⟨g, L.length + i, none⟩ := by cases i <;> simp [Addr.add]
  rw [e1] at hc
  rw [e2, hc, List.getElem_append_right (by omega)]
  simp
theorem StrsAt.nil {w : World} (p : Option Addr) : StrsAt w p [] := fun i hi => by simp at hi

theorem SliceOf.gen {w : World} {v : Value} {L : List (List UInt8)} (h : SliceOf w v L) : ∃ p cap, v = .slice p L.length cap ∧ StrsAt w p L := by
  rcases h with ⟨rfl, rfl⟩ | ⟨g, cap, h1, _, h3⟩
  · exact ⟨none, 0, rfl, StrsAt.nil _⟩
  · exact ⟨_, cap, h1, h3⟩
def BkRel (L : List (List UInt8)) (tv iv : Value) : Prop := ∃ k : Nat, k ≤ L.length ∧ iv = .int .i64 k ∧ tv = .string ⟨(framesL (L.take k)).toArray⟩ ∧ ∀ t ∈ L.take k, t.length ≤ 500
set_option maxHeartbeats 4000000 in
theorem law_back_any (p : Option Addr) (cap : Nat) (L : List (List UInt8)) (s : ByteArray) (w : World) (h : StrsAt w p L) (hL : L.length ≤ maxLen) (hs : s.size ≤ maxLen) :
    Calls Try.prog 5 #[.slice p L.length cap, .string s] w fun e w' => e = .returned (.bool true) ∧ Bel w w' := by
  have H := Lib.hid h; clear h
  unfold maxLen at hs hL
  go_enter Try.func5, Try.ntmps5
  go_wp2_with (fail)
  refine (shown_any w).mono ?_
  rintro e w1 ⟨rfl, hb⟩
  have HB := Lib.hid hb; clear hb
  by_cases hl : (30 : Int) < (L.length : Int)
  · go_wp2_with (fail)
    go_ret
    exact ⟨rfl, HB.out⟩
  by_cases hl2 : (1000 : Int) < (s.size : Int)
  · go_wp2_with (fail)
    go_ret
    exact ⟨rfl, HB.out⟩
  go_wp2_with (fail)
  go_loopw [6, 7] (fun tv iv x => BkRel L tv iv ∧ Bel w x) (fun _ iv _ => L.length - (intOf iv).toNat)
  case atStart => exact ⟨⟨0, Nat.zero_le _, rfl, rfl, fun t ht => by simp at ht⟩, HB.out⟩
  case round =>
    clear HB
    obtain ⟨⟨k, hk, rfl, rfl, hall⟩, hb⟩ := hrel
    have HB := Lib.hid hb; clear hb
    have HA := Lib.hid hall; clear hall
    by_cases hlt : k < L.length
    · obtain ⟨a, rfl, hc⟩ := (H.out.bel HB.out) k hlt
      by_cases h5 : 500 < L[k].length
      · go_wp2_with (fail)
        go_ret
        exact ⟨rfl, HB.out⟩
      · have HS := Lib.hid (show framesL (L.take (k + 1)) = framesL (L.take k) ++ frameL L[k] by rw [take_snoc L k hlt, frames_snoc])
        have h1 := frames_len _ HA.out
        rw [List.length_take, Nat.min_eq_left hk] at h1
        have h2 := frame_len L[k]
        have h3 := szN_le L[k].length
        have HV := Lib.hid (show frameV (⟨L[k].toArray⟩ : ByteArray).data.toList = .tuple #[.string ⟨(frameL L[k]).toArray⟩, .int .i64 0] by rw [frameV])
        have hsz : (⟨L[k].toArray⟩ : ByteArray).size ≤ 40000 := by show L[k].toArray.size ≤ 40000; rw [List.size_toArray]; omega
        have h4 : (framesL (L.take k)).length + (frameL L[k]).length ≤ 20000 := by omega
        clear h1 h2 h3
        go_wp2_with (fail)
        refine (frame_ok ⟨L[k].toArray⟩ _ hsz).mono ?_
        rintro e w2 ⟨rfl, hb⟩
        rw [HV.out]
        replace HB := Lib.hid (HB.out.trans hb); clear hb
        go_wp2_with (fail)
        go_roundw
        case rel =>
          refine ⟨⟨k + 1, hlt, by go_num, by rw [HS.out, ba_append], ?_⟩, HB.out⟩
          intro t ht
          rw [take_snoc L k hlt, List.mem_append] at ht
          rcases ht with ht | ht
          · exact HA.out t ht
          · rw [List.mem_singleton] at ht; rw [ht]; omega
        case measure => simp [intOf]; omega
    · have hX : L.take k = L := List.take_of_length_le (by omega)
      rw [hX] at HA ⊢
      clear hX
      obtain ⟨M, n, e, hM⟩ : ∃ M n e, scanL s.data.toList = (M, n, e) := ⟨_, _, _, rfl⟩
      have hmsz := scan_size _ s.data.toList (Nat.le_refl _)
      have hsl : s.data.toList.length = s.size := rfl
      rw [hM, hsl] at hmsz
      simp only [] at hmsz
      obtain ⟨hn, hMl⟩ := hmsz
      have hfl := frames_len L HA.out
      have h40 : ∀ t ∈ L, t.length ≤ 40000 := fun t ht => by have := HA.out t ht; omega
      have s1 := Lib.hid (show scanL (framesL L) = (L, (framesL L).length, 0) by
        have := scan_frames L [] h40
        rw [List.append_nil, scan_nil] at this
        simpa using this)
      have s2 := Lib.hid (show scanL (framesL L ++ s.data.toList) = (L ++ M, (framesL L).length + n, e) by
        rw [scan_frames L _ h40, hM])
      have s3 := Lib.hid hM
      have hfs : (⟨(framesL L).toArray⟩ : ByteArray).size = (framesL L).length := by show (framesL L).toArray.size = _; rw [List.size_toArray]
      have hfs2 : ((⟨(framesL L).toArray⟩ : ByteArray) ++ s).size = (framesL L).length + s.size := by rw [ByteArray.size_append, hfs]
      have hd2 : ((⟨(framesL L).toArray⟩ : ByteArray) ++ s).data.toList = framesL L ++ s.data.toList := by simp
      have HD2 := Lib.hid hd2
      clear hd2 hM h40 hfs
      generalize hF : framesL L = F at *
      have HF := Lib.hid hF; clear hF
      have hf0 : F.length ≤ 20000 := by omega
      clear hfl
      go_wp2_with (fail)
      refine (scan_of _ F L F.length 0 _ (by show F.toArray.size ≤ _; rw [List.size_toArray]; omega) rfl s1.out).mono ?_
      rintro e2 w2 ⟨va, rfl, ha, hb⟩
      replace HB := Lib.hid (HB.out.trans hb)
      have h2 := H.out.bel HB.out
      clear hb
      go_wp2_with (fail)
      refine (scan_of _ (F ++ s.data.toList) (L ++ M) (F.length + n) e _ (by rw [hfs2]; omega) HD2.out s2.out).mono ?_
      rintro e3 w3 ⟨vb, rfl, hbb, hb⟩
      replace HB := Lib.hid (HB.out.trans hb)
      replace ha := ha.bel hb
      clear hb
      go_wp2_with (fail)
      refine (scan_of s s.data.toList M n e _ (by omega) rfl s3.out).mono ?_
      rintro e4 w4 ⟨vc, rfl, hcc, hb⟩
      replace HB := Lib.hid (HB.out.trans hb)
      replace ha := ha.bel hb
      replace hbb := hbb.bel hb
      clear hb h2
      obtain ⟨pa, ca, rfl, hAt⟩ := ha.gen
      have HAt := Lib.hid hAt; clear hAt ha
      obtain ⟨pc, cc, rfl, hCt⟩ := hcc.gen
      have HCt := Lib.hid hCt; clear hCt hcc
      have hlm : (L ++ M).length = L.length + M.length := List.length_append
      rcases hbb with ⟨rfl, h0⟩ | ⟨g, cb, rfl, hcb, hBt⟩
      · obtain ⟨rfl, rfl⟩ := List.append_eq_nil_iff.1 h0
        clear h0
        go_wp2_with (fail)
        refine (same_any pa p ca cap [] _ (StrsAt.nil _) (StrsAt.nil _) (by decide)).mono ?_
        rintro e5 w5 ⟨rfl, hb⟩
        replace HB := Lib.hid (HB.out.trans hb.bel); clear hb
        go_wp2_with (fail)
        refine (same_any none p 0 cap [] _ (StrsAt.nil _) (StrsAt.nil _) (by decide)).mono ?_
        rintro e6 w6 ⟨rfl, hb⟩
        replace HB := Lib.hid (HB.out.trans hb.bel); clear hb
        go_wp2_with (fail)
        refine (same_any none pc 0 cc [] _ (StrsAt.nil _) (StrsAt.nil _) (by decide)).mono ?_
        rintro e7 w7 ⟨rfl, hb⟩
        replace HB := Lib.hid (HB.out.trans hb.bel); clear hb
        go_wp2_with (fail)
        go_ret
        exact ⟨rfl, HB.out⟩
      · have HBl := Lib.hid hBt.left
        have HBr := Lib.hid hBt.right
        clear hBt
        go_wp2_with (fail)
        refine (same_any pa p ca cap L _ HAt.out (H.out.bel HB.out) (by omega)).mono ?_
        rintro e5 w5 ⟨rfl, hb⟩
        replace HB := Lib.hid (HB.out.trans hb.bel)
        replace HBl := Lib.hid (HBl.out.bel hb.bel)
        replace HBr := Lib.hid (HBr.out.bel hb.bel)
        replace HCt := Lib.hid (HCt.out.bel hb.bel); clear hb
        have hsub : L.length + M.length - L.length = M.length := by omega
        go_wp2_with (fail)
        refine (same_any _ p cb cap L _ HBl.out (H.out.bel HB.out) (by omega)).mono ?_
        rintro e6 w6 ⟨rfl, hb⟩
        replace HB := Lib.hid (HB.out.trans hb.bel)
        replace HBr := Lib.hid (HBr.out.bel hb.bel)
        replace HCt := Lib.hid (HCt.out.bel hb.bel); clear hb
        by_cases hc0 : L.length < cb
        · go_wp2_with (fail)
          refine (same_any _ pc _ cc M _ HBr.out HCt.out (by omega)).mono ?_
          rintro e7 w7 ⟨rfl, hb⟩
          replace HB := Lib.hid (HB.out.trans hb.bel); clear hb
          go_wp2_with (fail)
          go_ret
          exact ⟨rfl, HB.out⟩
        · obtain rfl : M = [] := List.eq_nil_of_length_eq_zero (by omega)
          obtain rfl : cb = L.length := by simp at hcb; omega
          go_wp2_with (fail)
          refine (same_any _ pc _ cc [] _ (StrsAt.nil _) (StrsAt.nil _) (by decide)).mono ?_
          rintro e7 w7 ⟨rfl, hb⟩
          replace HB := Lib.hid (HB.out.trans hb.bel); clear hb
          go_wp2_with (fail)
          go_ret
          exact ⟨rfl, HB.out⟩
end Go.Proofs.Ytjjfkbikodccbaa
