/- file's isName, at, New, Limit, Dead. -/
import Derived.Test.YtedopiojidaeiaaFCon
import Derived.Test.YtedopiojidaeiaaFSmall
set_option linter.unusedSimpArgs false
set_option linter.unusedVariables false
namespace Go.Proofs.Ytedopiojidaeiaa
open Go.RowKit Go.Deep

set_option maxHeartbeats 4000000 in
theorem isname_any (s : ByteArray) (w : World) (hs : s.size ≤ maxLen) :
    Calls Try.prog 46 #[.string s] w fun e w' => e = .returned (.bool (nameB s.data.toList)) ∧ Drw w w' := by
  unfold maxLen at hs
  have hsl : s.data.toList.length = s.size := rfl
  by_cases h0 : s.size = 0
  · obtain rfl : s = ⟨#[]⟩ := by
      obtain ⟨d⟩ := s
      simp [ByteArray.size] at h0
      rw [h0]
    have HN := Lib.hid (show nameB ((⟨#[]⟩ : ByteArray)).data.toList = false from rfl)
    clear hsl h0
    go_enter Try.func46, Try.ntmps46
    go_wp2_with (fail)
    go_ret
    exact ⟨by rw [HN.out]; rfl, Drw.refl w⟩
  have hne : s.toList.isEmpty = false := by
    rw [ByteArray.toList_eq]
    cases hd : s.data.toList with
    | nil => rw [hd] at hsl; simp at hsl; omega
    | cons => rfl
  by_cases h24 : 24 < s.size
  · have HN := Lib.hid (show nameB s.data.toList = false by
      unfold nameB
      rw [hsl]
      simp; omega)
    clear hsl
    go_enter Try.func46, Try.ntmps46
    go_wp2_with (fail)
    go_ret
    exact ⟨by rw [HN.out]; rfl, Drw.refl w⟩
  go_enter Try.func46, Try.ntmps46
  go_wp2_with (fail)
  go_loopw [14] (fun i x => NmRel s.data.toList i ∧ Drw w x) (fun i _ => s.size - (intOf i).toNat)
  case atStart => exact ⟨⟨0, rfl, Nat.zero_le _, rfl⟩, Drw.refl w⟩
  case round =>
    obtain ⟨⟨k, rfl, hk, hall⟩, hw⟩ := hrel
    have HW := Lib.hid hw; clear hw
    have HA := Lib.hid hall; clear hall
    rw [hsl] at hk
    by_cases hlt : k < s.size
    · have HG := Lib.hid (show k < s.data.toList.length from hlt)
      have HB := Lib.hid (show letB s[k] = false → nameB s.data.toList = false from fun h => name_bad s.data.toList k hlt h)
      have HT := Lib.hid (show letB s[k] = true → (s.data.toList.take (k + 1)).all letB = true from fun h => all_take s.data.toList k hlt HA.out h)
      rcases let_ways s[k] with ⟨hl, h1, h2⟩ | ⟨hl, h1, h2, h3⟩ | ⟨hl, h1, h2, h3⟩ | ⟨hl, h1, h2, h3⟩ | ⟨hl, h1, h2, h3, h4⟩ | ⟨hl, h1, h2, h3, h4, h5⟩
      · have HT2 := Lib.hid (HT.out hl); clear hl
        have h6 : ((s[k].toNat : Int) != 46) = true := by rw [bne_iff_ne]; omega
        have h7 : ¬ (s[k].toNat : Int) < 48 := by omega
        have h8 : (57 : Int) < (s[k].toNat : Int) := by omega
        go_wp2_with (fail)
        go_roundw
        case rel => exact ⟨⟨k + 1, by go_num, by omega, HT2.out⟩, HW.out⟩
        case measure => simp [intOf]; omega
      · have HT2 := Lib.hid (HT.out hl); clear hl
        have h6 : ((s[k].toNat : Int) != 46) = true := by rw [bne_iff_ne]; omega
        go_wp2_with (fail)
        go_roundw
        case rel => exact ⟨⟨k + 1, by go_num, by omega, HT2.out⟩, HW.out⟩
        case measure => simp [intOf]; omega
      · have HT2 := Lib.hid (HT.out hl); clear hl
        have h6 : ((s[k].toNat : Int) != 46) = false := by simp [bne, *]
        go_wp2_with (fail)
        go_roundw
        case rel => exact ⟨⟨k + 1, by go_num, by omega, HT2.out⟩, HW.out⟩
        case measure => simp [intOf]; omega
      · have HT2 := Lib.hid (HB.out hl); clear hl
        have h6 : ((s[k].toNat : Int) != 46) = true := by simp [bne, *]
        go_wp2_with (fail)
        case roundEnd => exfalso; rename_i h; clear h6; simp at *; omega
        go_ret
        exact ⟨by rw [HT2.out]; rfl, HW.out⟩
      · have HT2 := Lib.hid (HB.out hl); clear hl
        have h6 : ((s[k].toNat : Int) != 46) = true := by simp [bne, *]
        go_wp2_with (fail)
        case roundEnd => exfalso; rename_i h; clear h6; simp at *; omega
        go_ret
        exact ⟨by rw [HT2.out]; rfl, HW.out⟩
      · have HT2 := Lib.hid (HB.out hl); clear hl
        have h6 : ((s[k].toNat : Int) != 46) = true := by simp [bne, *]
        go_wp2_with (fail)
        case roundEnd => exfalso; rename_i h; clear h6; simp at *; omega
        go_ret
        exact ⟨by rw [HT2.out]; rfl, HW.out⟩
    · obtain rfl : k = s.size := by omega
      have HN := Lib.hid (show nameB s.data.toList = true by
        have h := HA.out
        rw [← hsl, List.take_length] at h
        unfold nameB
        rw [h, hsl, Bool.true_and]
        simp; omega)
      go_wp2_with (fail)
      go_ret
      exact ⟨by rw [HN.out]; rfl, HW.out⟩

set_option maxHeartbeats 2000000 in
theorem pat_any (w : World) (p : Option Addr) (cap : Nat) (L : List Int) (k : Nat) (h : IntsAt w p L) (hL : L.length ≤ maxLen) (hk : k ≤ 1000000) :
    Calls Try.prog 45 #[.slice p L.length cap, .int .i64 k] w fun e w' => e = .returned (.int .i64 (atN L k)) ∧ Drw w w' := by
  have H := Lib.hid h; clear h
  unfold maxLen at hL
  by_cases hlt : k < L.length
  · obtain ⟨a, rfl, hc⟩ := H.out k hlt
    have HA := Lib.hid (show atN L k = L[k] by unfold atN; rw [List.getElem?_eq_getElem hlt]; rfl)
    go_enter Try.func45, Try.ntmps45
    go_wp2_with (fail)
    go_ret
    exact ⟨ret_int (by rw [HA.out]), Drw.refl w⟩
  · have HA := Lib.hid (show atN L k = 0 by unfold atN; rw [List.getElem?_eq_none (by omega)]; rfl)
    go_enter Try.func45, Try.ntmps45
    go_wp2_with (fail)
    go_ret
    exact ⟨ret_int (by rw [HA.out]), Drw.refl w⟩

theorem pnew_any (room : Int) (w : World) (h : 0 ≤ room ∧ room ≤ 10000000) :
    Calls Try.prog 6 #[.int .i64 room] w fun e w' => e = .returned (.tuple #[.pointer (some ⟨w.heap.size, 0, none⟩), .int .i64 0]) ∧
      ProgAt w.heap.size w' w.heap.size (newS room) [w.heap.size] ∧ Bel w w' := by
  obtain ⟨h1, h2⟩ := h
  go_enter Try.func6, Try.ntmps6
  go_wp2_with (fail)
  go_ret2
  exact ⟨rfl, ⟨⟨.map none, 0, heap_alloc_new w _, fun h => by simp [newS] at h, by simp [in64], Or.inl ⟨rfl, rfl⟩⟩, Nat.le_refl _, by simp, fun k hk => by
    rw [List.mem_singleton] at hk
    subst hk
    simp⟩, (Bel.refl w).alloc _⟩
theorem pnew_bad (room : Int) (w : World) (h : ¬ (0 ≤ room ∧ room ≤ 10000000)) (hr : -9223372036854775808 ≤ room ∧ room ≤ 9223372036854775807) :
    Calls Try.prog 6 #[.int .i64 room] w fun e w' => e = .returned (.tuple #[.pointer none, .int .i64 2]) ∧ Bel w w' := by
  by_cases h0 : room < 0
  · go_enter Try.func6, Try.ntmps6
    go_wp2_with (fail)
    go_ret2
    exact ⟨rfl, Bel.refl w⟩
  · have h1 : 10000000 < room := by omega
    go_enter Try.func6, Try.ntmps6
    go_wp2_with (fail)
    go_ret2
    exact ⟨rfl, Bel.refl w⟩

theorem dead_any (n₀ : Nat) (w : World) (b : Nat) (M : RS) (F : List Nat) (h : ProgAt n₀ w b M F) :
    Calls Try.prog 18 #[.pointer (some ⟨b, 0, none⟩)] w fun e w' => e = .returned (.bool M.gone) ∧ Drw w w' := by
  obtain ⟨⟨mv, t, hb, -⟩, -⟩ := h
  have c4 : w.cell? ⟨b, 4, none⟩ = some (.bool M.gone) := by simp [World.cell?, hb]
  go_enter Try.func18, Try.ntmps18
  go_wp2_with (fail)
  go_ret
  exact ⟨rfl, Drw.refl w⟩
/-- What lies in a file system's block is written; its files lie on. -/
theorem ProgAt.set2 {n₀ : Nat} {w : World} {b : Nat} {M M' : RS} {F : List Nat} (h : ProgAt n₀ w b M F) {x : World} (hx : ∀ mv t, w.heap[b]? = some (.cells #[.int .i64 M.room, mv, .bool (decide (0 ≤ M.turns)), .int .i64 t, .bool M.gone] 49 (0, 0)) → (0 ≤ M.turns → t = M.turns) → in64 t →
      ∃ t', x.heap[b]? = some (.cells #[.int .i64 M'.room, mv, .bool (decide (0 ≤ M'.turns)), .int .i64 t', .bool M'.gone] 49 (0, 0)) ∧ (0 ≤ M'.turns → t' = M'.turns) ∧ in64 t') (hL : M'.L = M.L) (hk : Keep [b] w x) :
    ProgTo n₀ w x b M' F := by
  obtain ⟨⟨mv, t, hb, ht, h64, hf⟩, hl, hm, hw⟩ := h
  obtain ⟨t', hb', ht', h64'⟩ := hx mv t hb ht h64
  have hfb : FilesAt n₀ x mv M'.L F := by
    rw [hL]
    rcases hf with hf | ⟨mb, D, V, rfl, hV, hmF, hvF⟩
    · exact Or.inl hf
    · refine Or.inr ⟨mb, D, V, rfl, hV.keep hk ?_ ?_, hmF, hvF⟩
      · intro hm
        rw [List.mem_singleton] at hm
        subst hm
        obtain ⟨es, clock, hmm, _⟩ := hV.own
        rw [hb] at hmm; cases hmm
      · intro y hy _ k hk1 hk2
        rw [List.mem_singleton] at hk2
        subst hk2
        rcases (hV.val y hy (by simp)).2 with ⟨h1, _⟩ | ⟨g, cap, cur, h1, _, hgb, _⟩
        · rw [h1] at hk1; cases hk1
        · rw [h1] at hk1
          obtain rfl : g = k := by simpa [Value.ownBlock] using hk1
          rw [hb] at hgb
          simp at hgb
  exact ⟨F, ⟨⟨mv, t', hb', ht', h64', hfb⟩, hl, hm, fun k hk' => ⟨(hw k hk').1, Nat.lt_of_lt_of_le (hw k hk').2 hk.size⟩⟩, hk.mono (fun k hk => by rw [List.mem_singleton] at hk; rw [hk]; exact hm), fun k hk => Or.inl hk⟩

theorem plimit_any (n₀ : Nat) (w : World) (b : Nat) (M : RS) (F : List Nat) (t : Int) (h : ProgAt n₀ w b M F) (ht : in64 t) :
    Calls Try.prog 17 #[.pointer (some ⟨b, 0, none⟩), .int .i64 t] w fun e w' => (∃ u, e = .returned u) ∧ ProgTo n₀ w w' b (limS t M) F := by
  have H := Lib.hid h
  obtain ⟨⟨mv, t0, hb, -⟩, -⟩ := h
  have c2 : w.cell? ⟨b, 2, none⟩ = some (.bool (decide (0 ≤ M.turns))) := by simp [World.cell?, hb]
  have c3 : w.cell? ⟨b, 3, none⟩ = some (.int .i64 t0) := by simp [World.cell?, hb]
  have f2 : w.frozen? ⟨b, 2, none⟩ = false := by simp [World.frozen?, hb]
  have f3 : w.frozen? ⟨b, 3, none⟩ = false := by simp [World.frozen?, hb]
  have HT := Lib.hid ht
  clear ht hb
  go_enter Try.func17, Try.ntmps17
  go_wp2_with (fail)
  go_end0
  exact ⟨⟨_, rfl⟩, H.out.set2 (M' := limS t M) (fun mv' t' hb' ht' h64 => ⟨t, by
      rw [blk_set (blk_set hb' 2 _) 3 _]
      have e : decide (0 ≤ (limS t M).turns) = decide (0 ≤ t) := by
        rw [decide_eq_decide]; unfold limS; simp only []; split <;> omega
      rw [e]; rfl, fun h => by revert h; unfold limS; simp only []; split <;> intros <;> omega, HT.out⟩) rfl
    (((Keep.refl _ w).setCell (p := ⟨b, 2, none⟩) (Or.inl (by simp)) _).setCell (p := ⟨b, 3, none⟩) (Or.inl (by simp)) _)⟩
end Go.Proofs.Ytedopiojidaeiaa
