/- moultlaw7.JournalOpens. -/
import Derived.Test.YtlmlcnbgdaiaeaaGreatDoorT23
import Derived.Test.YtlmlcnbgdaiaeaaGreatDoorT2
set_option linter.unusedSimpArgs false
set_option linter.unusedVariables false
namespace Go.Proofs.YtlmlcnbgdaiaeaaGreatDoor
open Go.RowKit Go.Deep Go.Maps

structure FB where
  name : ByteArray
  data : ByteArray
def FlsAt (w : World) (p : Option Addr) (L : List FB) : Prop := ∀ i (h : i < L.length), ∃ B O sp, p.map (fun a => a.add (i * 2)) = some ⟨B, O, sp⟩ ∧
  w.cell? ⟨B, O, sp⟩ = some (.string L[i].name) ∧ w.cell? ⟨B, O + 1, none⟩ = some (.string L[i].data) ∧ L[i].name.size ≤ maxLen ∧ L[i].data.size ≤ maxLen
theorem FlsAt.bel {w x : World} {p : Option Addr} {L : List FB} (h : FlsAt w p L) (hb : Bel w x) : FlsAt x p L := by
  intro i hi
  obtain ⟨B, O, sp, hp, h1, h2, h3, h4⟩ := h i hi
  exact ⟨B, O, sp, hp, cell_later hb h1, cell_later hb h2, h3, h4⟩
theorem fls_at {w₀ x : World} {p : Option Addr} {L : List FB} (h : FlsAt w₀ p L) (hb : Bel w₀ x) {k : Nat} (hk : k < L.length) : ∃ a B O sp, p = some a ∧ a.add (k * 2) = ⟨B, O, sp⟩ ∧
    x.cell? ⟨B, O, sp⟩ = some (.string L[k].name) ∧ x.cell? ⟨B, O + 1, none⟩ = some (.string L[k].data) ∧ L[k].name.size ≤ maxLen ∧ L[k].data.size ≤ maxLen := by
  obtain ⟨B, O, sp, hp, c0, c1, c2, c3⟩ := h.bel hb k hk
  cases p with
  | none => cases hp
  | some a =>
    simp only [Option.map_some, Option.some.injEq] at hp
    exact ⟨a, B, O, sp, rfl, hp, c0, c1, c2, c3⟩
theorem lw_boxes {w x : World} {b r jb rb : Nat} {M M' : RS} {nm : ByteArray} {most : Int} {R : List Nat} (h : Tw w x b r M M' R) (hj : JAt x jb b nm most) (hr : JAt x rb r nm most) (hjb : jb ∈ R) (hrb : rb ∈ R) (hne : jb ≠ rb) (hs : Std w) :
    LW w ((x.alloc (.cells #[.pointer (some ⟨b, 0, none⟩), .pointer (some ⟨jb, 0, none⟩), .int .i64 most] 58)).alloc (.cells #[.pointer (some ⟨r, 0, none⟩), .pointer (some ⟨rb, 0, none⟩), .int .i64 most] 60)) x.heap.size (x.heap.size + 1) b r jb rb M M' nm most [] := by
  have hl := h.lt
  have hjl := hl jb hjb
  have hrl := hl rb hrb
  have hsz : ∀ o, (x.alloc o).heap.size = x.heap.size + 1 := fun o => by simp
  refine ⟨?_, ?_, ?_, heap_alloc2 _ _ _, ?_, ?_, ?_, hs⟩
  · refine ((h.alloc _).alloc _).less (fun k hk => ?_)
    simp only [List.mem_cons, List.not_mem_nil, or_false] at hk
    simp only [List.mem_cons, hsz]
    rcases hk with h | h | h | h
    · exact Or.inr (Or.inl h)
    · exact Or.inl h
    · subst h; exact Or.inr (Or.inr hjb)
    · subst h; exact Or.inr (Or.inr hrb)
  · exact hj.bel (((Bel.refl x).alloc _).alloc _)
  · exact hr.bel (((Bel.refl x).alloc _).alloc _)
  · have := heap_alloc_new (x.alloc (.cells #[.pointer (some ⟨b, 0, none⟩), .pointer (some ⟨jb, 0, none⟩), .int .i64 most] 58)) (.cells #[.pointer (some ⟨r, 0, none⟩), .pointer (some ⟨rb, 0, none⟩), .int .i64 most] 60)
    rw [hsz] at this
    exact this
  · have := h.low.size
    omega
  · omega
def JopRel (w : World) (b r : Nat) (n : Nat) (i : Value) (x : World) : Prop := ∃ (k : Nat) (M : RS), i = .int .i64 k ∧ k ≤ n ∧ Tw w x b r M M [] ∧ M.room = 100000
set_option maxHeartbeats 8000000 in
set_option maxRecDepth 20000 in
theorem law_opens7_any (w : World) (p : Option Addr) (cap : Nat) (L : List FB) (nm : ByteArray) (hstd : Std w) (h : FlsAt w p L) (hL : L.length ≤ maxLen) (hnm : nm.size ≤ maxLen) :
    Calls Tryz.prog 4 #[.slice p L.length cap, .string nm] w fun e w' => e = .returned (.bool true) ∧ Bel w w' := by
  have HS := Lib.hid hstd
  have H := Lib.hid h
  unfold maxLen at hL hnm
  clear hstd h
  by_cases h12 : 12 < L.length
  · go_enter Tryz.func4, Tryz.ntmps4
    go_wp2_with (fail)
    refine (jshown_any w HS.out).mono ?_
    rintro e w1 ⟨rfl, hb1⟩
    have HB1 := Lib.hid hb1; clear hb1
    go_wp2_with (fail)
    go_ret
    exact ⟨rfl, HB1.out⟩
  by_cases h100 : 100 < nm.size
  · go_enter Tryz.func4, Tryz.ntmps4
    go_wp2_with (fail)
    refine (jshown_any w HS.out).mono ?_
    rintro e w1 ⟨rfl, hb1⟩
    have HB1 := Lib.hid hb1; clear hb1
    go_wp2_with (fail)
    go_ret
    exact ⟨rfl, HB1.out⟩
  go_enter Tryz.func4, Tryz.ntmps4
  go_wp2_with (fail)
  refine (jshown_any w HS.out).mono ?_
  rintro e w0 ⟨rfl, hb1⟩
  have HB := Lib.hid hb1; clear hb1
  go_wp2_with (fail)
  refine (pnew_any 100000 w0 (by omega)).mono ?_
  rintro e w3 ⟨rfl, h3, hb3⟩
  obtain ⟨b, hb⟩ : ∃ b, b = w0.heap.size := ⟨_, rfl⟩
  have HBE := Lib.hid hb
  rw [← hb] at h3 ⊢
  have H3 := Lib.hid (show ProgAt w0.heap.size w3 b (newS 100000) [b] by rw [← hb]; exact h3)
  have HB3 := Lib.hid hb3
  clear h3 hb3 hb
  go_wp2_with (fail)
  refine (rnew_ref 100000 w3 (by omega)).mono ?_
  rintro e w4 ⟨rfl, h4, hb4⟩
  obtain ⟨r, hr⟩ : ∃ r, r = w3.heap.size := ⟨_, rfl⟩
  have H4 := Lib.hid (show Tw w w4 b r (newS 100000) (newS 100000) [] from tw_begin 100000 (by omega) HB.out HBE.out H3.out HB3.out hr (by rw [hr]; exact h4) hb4)
  rw [← hr]
  clear hr h4 hb4
  go_wp2_with (fail)
  go_loopw [10] (fun i x => JopRel w b r L.length i x) (fun i _ => L.length - (intOf i).toNat)
  case atStart => exact ⟨0, _, rfl, Nat.zero_le _, H4.out, rfl⟩
  case round =>
    obtain ⟨k, M, rfl, hk, hx, hrm⟩ := hrel
    have HX := Lib.hid hx
    have HRM := Lib.hid hrm
    clear hx hrm H4
    by_cases hlt : k < L.length
    · obtain ⟨a, B, O, sp, rfl, hp, c0, c1, z0, z1⟩ := fls_at H.out HX.out.low hlt
      have HA := Lib.hid (fun x (hx : Bel w x) => fls_at H.out hx hlt)
      obtain ⟨y, hy⟩ : ∃ y, y = L[k] := ⟨_, rfl⟩
      rw [← hy] at c0 c1 z0 z1 HA
      clear hy
      unfold maxLen at z0 z1
      by_cases n100 : 100 < y.name.size
      · go_wp2_with (fail)
        go_ret
        exact ⟨rfl, HX.out.low⟩
      by_cases n3000 : 3000 < y.data.size
      · go_wp2_with (fail)
        go_ret
        exact ⟨rfl, HX.out.low⟩
      obtain ⟨ea, Ma, had⟩ : ∃ ea Ma, addS y.name.data.toList y.data.data.toList M = (ea, Ma) := ⟨_, _, rfl⟩
      have HAD := Lib.hid had
      have HRA := Lib.hid (show Ma.room = 100000 by have := add_room M y.name.data.toList y.data.data.toList; rw [had] at this; rw [show Ma.room = M.room from this]; exact HRM.out)
      clear had
      go_wp2_with (fail)
      refine wp_region_held_drew (S := fun z => z.cell? ⟨B, O, sp⟩ = some (.string y.name) ∧ z.cell? ⟨B, O + 1, none⟩ = some (.string y.data)) (by kernel_rfl) ⟨c0, c1⟩ (fun hHeld => ?_)
      refine tk (oi := { dst := some 67, op := Op.move (Operand.tmp 6), type := 42, pos := "law.go:264", after := #[], guard := none }) (v := ?_) 0 rfl ?_ ?_
      rotate_left
      · (intro w hSw; (try dsimp only at hSw); first | (go_simp; done) | (go_simp; with_reducible rfl))
      try simp only [Act.put, List.setIfInBounds_toArray, List.set_cons_zero, List.set_cons_succ]
      refine tk (oi := { dst := some 68, op := Op.move (Operand.tmp 0), type := 41, pos := "law.go:264", after := #[], guard := none }) (v := ?_) 1 rfl ?_ ?_
      rotate_left
      · (intro w hSw; (try dsimp only at hSw); first | (go_simp; done) | (go_simp; with_reducible rfl))
      try simp only [Act.put, List.setIfInBounds_toArray, List.set_cons_zero, List.set_cons_succ]
      refine tk (oi := { dst := some 69, op := Op.move (Operand.tmp 10), type := 3, pos := "law.go:264", after := #[], guard := none }) (v := ?_) 2 rfl ?_ ?_
      rotate_left
      · (intro w hSw; (try dsimp only at hSw); first | (go_simp; done) | (go_simp; with_reducible rfl))
      try simp only [Act.put, List.setIfInBounds_toArray, List.set_cons_zero, List.set_cons_succ]
      refine tk (oi := { dst := some 70, op := Op.indexAddr 41 (Operand.tmp 68) (Operand.tmp 69), type := 0, pos := "law.go:264", after := #[{ on := 1, ground := Ground.data }, { on := 2, ground := Ground.data }], guard := none }) (v := ?_) 3 rfl ?_ ?_
      rotate_left
      · (intro w hSw; (try dsimp only at hSw); first | (go_simp; done) | (go_simp; with_reducible rfl))
      try simp only [Act.put, List.setIfInBounds_toArray, List.set_cons_zero, List.set_cons_succ]
      refine tk (oi := { dst := some 71, op := Op.fieldAddr 49 (Operand.tmp 70) 0, type := 0, pos := "law.go:264", after := #[{ on := 3, ground := Ground.data }], guard := none }) (v := ?_) 4 rfl ?_ ?_
      rotate_left
      · (intro w hSw; (try dsimp only at hSw); first | (go_simp; done) | (go_simp; with_reducible rfl))
      try simp only [Act.put, List.setIfInBounds_toArray, List.set_cons_zero, List.set_cons_succ]
      refine tk (oi := { dst := some 72, op := Op.load 9 (Operand.tmp 71), type := 9, pos := "law.go:264", after := #[{ on := 4, ground := Ground.data }], guard := none }) (v := ?_) 5 rfl ?_ ?_
      rotate_left
      · (intro w hSw; (try dsimp only at hSw); first | (go_simp; done) | (go_simp; with_reducible rfl))
      try simp only [Act.put, List.setIfInBounds_toArray, List.set_cons_zero, List.set_cons_succ]
      refine tk (oi := { dst := some 73, op := Op.move (Operand.tmp 0), type := 41, pos := "law.go:264", after := #[], guard := none }) (v := ?_) 6 rfl ?_ ?_
      rotate_left
      · (intro w hSw; (try dsimp only at hSw); first | (go_simp; done) | (go_simp; with_reducible rfl))
      try simp only [Act.put, List.setIfInBounds_toArray, List.set_cons_zero, List.set_cons_succ]
      refine tk (oi := { dst := some 74, op := Op.move (Operand.tmp 10), type := 3, pos := "law.go:264", after := #[], guard := none }) (v := ?_) 7 rfl ?_ ?_
      rotate_left
      · (intro w hSw; (try dsimp only at hSw); first | (go_simp; done) | (go_simp; with_reducible rfl))
      try simp only [Act.put, List.setIfInBounds_toArray, List.set_cons_zero, List.set_cons_succ]
      refine tk (oi := { dst := some 75, op := Op.indexAddr 41 (Operand.tmp 73) (Operand.tmp 74), type := 0, pos := "law.go:264", after := #[{ on := 6, ground := Ground.data }, { on := 7, ground := Ground.data }], guard := none }) (v := ?_) 8 rfl ?_ ?_
      rotate_left
      · (intro w hSw; (try dsimp only at hSw); first | (go_simp; done) | (go_simp; with_reducible rfl))
      try simp only [Act.put, List.setIfInBounds_toArray, List.set_cons_zero, List.set_cons_succ]
      refine tk (oi := { dst := some 76, op := Op.fieldAddr 49 (Operand.tmp 75) 1, type := 0, pos := "law.go:264", after := #[{ on := 8, ground := Ground.data }], guard := none }) (v := ?_) 9 rfl ?_ ?_
      rotate_left
      · (intro w hSw; (try dsimp only at hSw); first | (go_simp; done) | (go_simp; with_reducible rfl))
      try simp only [Act.put, List.setIfInBounds_toArray, List.set_cons_zero, List.set_cons_succ]
      refine tk (oi := { dst := some 77, op := Op.load 9 (Operand.tmp 76), type := 9, pos := "law.go:264", after := #[{ on := 9, ground := Ground.data }], guard := none }) (v := ?_) 10 rfl ?_ ?_
      rotate_left
      · (intro w hSw; (try dsimp only at hSw); first | (go_simp; done) | (go_simp; with_reducible rfl))
      try simp only [Act.put, List.setIfInBounds_toArray, List.set_cons_zero, List.set_cons_succ]
      refine wpAnyH_ready (rs := [11]) (by kernel_rfl) (by simp) ?_
      refine AllReadyH.cons (o := { dst := some 78, op := Op.call { callee := Callee.value (Operand.func 17), args := #[Operand.tmp 67, Operand.tmp 72, Operand.tmp 77], argTypes := #[42, 9, 9] }, type := 31, pos := "law.go:264", after := #[{ on := 0, ground := Ground.data }, { on := 5, ground := Ground.data }, { on := 10, ground := Ground.data }], guard := none }) rfl (fun K hK => ?_) AllReadyH.nil
      go_simp
      refine (tw_add (HX.out.bel (Bel.refl _).drew) y.name y.data (by omega) (by omega)).mono ?_
      rintro e w5 ⟨rfl, h5, -⟩
      rw [HAD.out] at h5
      have H5 := Lib.hid h5
      obtain ⟨a', B', O', sp', ha', hp', d0, d1, -, -⟩ := HA.out _ h5.low
      obtain rfl : a = a' := by simpa using ha'
      have hpk := hp
      rw [hp, Addr.mk.injEq] at hp'
      obtain ⟨rfl, rfl, rfl⟩ := hp'
      clear ha' h5
      dsimp only
      refine hK.out _ _ ⟨d0, d1⟩ (fun hHeld => ?_)
      clear hK K
      try simp only [Act.put, List.setIfInBounds_toArray, List.set_cons_zero, List.set_cons_succ]
      refine wpAnyH_done (by kernel_rfl) ?_ _
      clear c0 c1
      go_wp2_with (fail)
      refine wp_region_held_drew (S := fun z => z.cell? ⟨B, O, sp⟩ = some (.string y.name) ∧ z.cell? ⟨B, O + 1, none⟩ = some (.string y.data)) (by kernel_rfl) ⟨d0, d1⟩ (fun hHeld => ?_)
      refine tk (oi := { dst := some 79, op := Op.move (Operand.tmp 8), type := 45, pos := "law.go:265", after := #[], guard := none }) (v := ?_) 0 rfl ?_ ?_
      rotate_left
      · (intro w hSw; (try dsimp only at hSw); first | (go_simp; done) | (go_simp; with_reducible rfl))
      try simp only [Act.put, List.setIfInBounds_toArray, List.set_cons_zero, List.set_cons_succ]
      refine tk (oi := { dst := some 80, op := Op.move (Operand.tmp 0), type := 41, pos := "law.go:265", after := #[], guard := none }) (v := ?_) 1 rfl ?_ ?_
      rotate_left
      · (intro w hSw; (try dsimp only at hSw); first | (go_simp; done) | (go_simp; with_reducible rfl))
      try simp only [Act.put, List.setIfInBounds_toArray, List.set_cons_zero, List.set_cons_succ]
      refine tk (oi := { dst := some 81, op := Op.move (Operand.tmp 10), type := 3, pos := "law.go:265", after := #[], guard := none }) (v := ?_) 2 rfl ?_ ?_
      rotate_left
      · (intro w hSw; (try dsimp only at hSw); first | (go_simp; done) | (go_simp; with_reducible rfl))
      try simp only [Act.put, List.setIfInBounds_toArray, List.set_cons_zero, List.set_cons_succ]
      refine tk (oi := { dst := some 82, op := Op.indexAddr 41 (Operand.tmp 80) (Operand.tmp 81), type := 0, pos := "law.go:265", after := #[{ on := 1, ground := Ground.data }, { on := 2, ground := Ground.data }], guard := none }) (v := ?_) 3 rfl ?_ ?_
      rotate_left
      · (intro w hSw; (try dsimp only at hSw); first | (go_simp; done) | (go_simp; with_reducible rfl))
      try simp only [Act.put, List.setIfInBounds_toArray, List.set_cons_zero, List.set_cons_succ]
      refine tk (oi := { dst := some 83, op := Op.fieldAddr 49 (Operand.tmp 82) 0, type := 0, pos := "law.go:265", after := #[{ on := 3, ground := Ground.data }], guard := none }) (v := ?_) 4 rfl ?_ ?_
      rotate_left
      · (intro w hSw; (try dsimp only at hSw); first | (go_simp; done) | (go_simp; with_reducible rfl))
      try simp only [Act.put, List.setIfInBounds_toArray, List.set_cons_zero, List.set_cons_succ]
      refine tk (oi := { dst := some 84, op := Op.load 9 (Operand.tmp 83), type := 9, pos := "law.go:265", after := #[{ on := 4, ground := Ground.data }], guard := none }) (v := ?_) 5 rfl ?_ ?_
      rotate_left
      · (intro w hSw; (try dsimp only at hSw); first | (go_simp; done) | (go_simp; with_reducible rfl))
      try simp only [Act.put, List.setIfInBounds_toArray, List.set_cons_zero, List.set_cons_succ]
      refine tk (oi := { dst := some 85, op := Op.move (Operand.tmp 0), type := 41, pos := "law.go:265", after := #[], guard := none }) (v := ?_) 6 rfl ?_ ?_
      rotate_left
      · (intro w hSw; (try dsimp only at hSw); first | (go_simp; done) | (go_simp; with_reducible rfl))
      try simp only [Act.put, List.setIfInBounds_toArray, List.set_cons_zero, List.set_cons_succ]
      refine tk (oi := { dst := some 86, op := Op.move (Operand.tmp 10), type := 3, pos := "law.go:265", after := #[], guard := none }) (v := ?_) 7 rfl ?_ ?_
      rotate_left
      · (intro w hSw; (try dsimp only at hSw); first | (go_simp; done) | (go_simp; with_reducible rfl))
      try simp only [Act.put, List.setIfInBounds_toArray, List.set_cons_zero, List.set_cons_succ]
      refine tk (oi := { dst := some 87, op := Op.indexAddr 41 (Operand.tmp 85) (Operand.tmp 86), type := 0, pos := "law.go:265", after := #[{ on := 6, ground := Ground.data }, { on := 7, ground := Ground.data }], guard := none }) (v := ?_) 8 rfl ?_ ?_
      rotate_left
      · (intro w hSw; (try dsimp only at hSw); first | (go_simp; done) | (go_simp; with_reducible rfl))
      try simp only [Act.put, List.setIfInBounds_toArray, List.set_cons_zero, List.set_cons_succ]
      refine tk (oi := { dst := some 88, op := Op.fieldAddr 49 (Operand.tmp 87) 1, type := 0, pos := "law.go:265", after := #[{ on := 8, ground := Ground.data }], guard := none }) (v := ?_) 9 rfl ?_ ?_
      rotate_left
      · (intro w hSw; (try dsimp only at hSw); first | (go_simp; done) | (go_simp; with_reducible rfl))
      try simp only [Act.put, List.setIfInBounds_toArray, List.set_cons_zero, List.set_cons_succ]
      refine tk (oi := { dst := some 89, op := Op.load 9 (Operand.tmp 88), type := 9, pos := "law.go:265", after := #[{ on := 9, ground := Ground.data }], guard := none }) (v := ?_) 10 rfl ?_ ?_
      rotate_left
      · (intro w hSw; (try dsimp only at hSw); first | (go_simp; done) | (go_simp; with_reducible rfl))
      try simp only [Act.put, List.setIfInBounds_toArray, List.set_cons_zero, List.set_cons_succ]
      refine wpAnyH_ready (rs := [11]) (by kernel_rfl) (by simp) ?_
      refine AllReadyH.cons (o := { dst := some 90, op := Op.call { callee := Callee.value (Operand.func 18), args := #[Operand.tmp 79, Operand.tmp 84, Operand.tmp 89], argTypes := #[45, 9, 9] }, type := 31, pos := "law.go:265", after := #[{ on := 0, ground := Ground.data }, { on := 5, ground := Ground.data }, { on := 10, ground := Ground.data }], guard := none }) rfl (fun K hK => ?_) AllReadyH.nil
      go_simp
      refine (tw_radd (H5.out.bel (Bel.refl _).drew) y.name y.data (by omega) (by omega)).mono ?_
      rintro e w6 ⟨rfl, h6, -⟩
      rw [HAD.out] at h6
      have H6 := Lib.hid h6
      obtain ⟨a', B', O', sp', ha', hp', e0, e1, -, -⟩ := HA.out _ h6.low
      obtain rfl : a = a' := by simpa using ha'
      rw [hpk, Addr.mk.injEq] at hp'
      obtain ⟨rfl, rfl, rfl⟩ := hp'
      clear ha' h6
      dsimp only
      refine hK.out _ _ ⟨e0, e1⟩ (fun hHeld => ?_)
      clear hK K
      try simp only [Act.put, List.setIfInBounds_toArray, List.set_cons_zero, List.set_cons_succ]
      refine wpAnyH_done (by kernel_rfl) ?_ _
      clear d0 d1 e0 e1
      go_wp2_with (fail)
      go_roundw
      case rel => exact ⟨k + 1, Ma, by go_num, by omega, H6.out, HRA.out⟩
      case measure => simp [intOf]; omega
    · obtain rfl : k = L.length := by omega
      obtain ⟨err, LL, M1, hjo⟩ : ∃ err LL M1, jopen nm.data.toList M = (err, LL, M1) := ⟨_, _, _, rfl⟩
      have HJO := Lib.hid hjo
      have hlens := jopen_lens nm.data.toList HX.out.good (by have := HRM.out; omega)
      have heach := jopen_each nm.data.toList M
      rw [hjo] at hlens heach
      have HLE := Lib.hid (show LL.length ≤ 1000000000 by simp only at hlens; omega)
      have HEA := Lib.hid (show ∀ l ∈ LL, l.length ≤ 1000000 from fun l hl => Nat.le_trans (heach l hl) (by omega))
      have hee : (err != err) = false := by simp
      have hee2 : (err == err) = true := by simp
      clear hjo hlens heach hk
      go_wp2_with (fail)
      refine (tw_open HX.out HS.out (Bel.refl _) nm 100 (by omega) (by have := HRM.out; omega) HJO.out).mono ?_
      rintro e w5 ⟨jv, q, qc, S, rfl, h5, -, hrow, hS, hj, hje⟩
      have H5 := Lib.hid h5
      have HRW := Lib.hid hrow
      have HJ := Lib.hid hj
      have HJE := Lib.hid hje
      clear h5 hrow hS hj hje
      go_wp2_with (fail)
      refine (tw_ropen H5.out (Bel.refl _) nm 100 (by omega) (by have := HRM.out; omega) HJO.out).mono ?_
      rintro e w6 ⟨jv2, q2, qc2, S2, rfl, h6, hk6, hrow, hS2, hj2, hje2⟩
      have H6 := Lib.hid h6
      have HK6 := Lib.hid hk6
      have HRW2 := Lib.hid hrow
      have HRW1 := Lib.hid (HRW.out.keep (fun k hk => hk6 k (by simp [hk])))
      have HS2 := Lib.hid hS2
      have HCA := Lib.hid (fun (z : World) (hz : Bel w6 z) => (jall_any z _ _ q q2 qc qc2 LL LL (HRW1.out.bel hz) (HRW2.out.bel hz) HLE.out HLE.out HEA.out HEA.out).mono (fun e y (hq : e = .returned (.bool (decide (LL = LL))) ∧ Bel z y) => (show e = .returned (.bool true) ∧ Bel z y from ⟨hq.1.trans (by rw [decide_eq_true rfl]), hq.2⟩)))
      clear h6 hk6 hrow hS2
      by_cases he : err = 0
      · subst he
        obtain ⟨jb, rfl, hja, hjs⟩ := HJ.out rfl
        obtain ⟨rb, rfl, hra, hrs⟩ := hj2 rfl
        have HJA := Lib.hid (hja.keep (HK6.out jb (by simp [hjs])))
        have HJS := Lib.hid hjs
        have HRA := Lib.hid hra
        have HRS := Lib.hid hrs
        have HNE := Lib.hid (show jb ≠ rb by
          have h1 := H5.out.lt jb (by simp [hjs])
          have h2 := HS2.out rb hrs
          omega)
        clear hja hjs hra hrs hj2 hje2
        go_wp2_with (fail)
        refine (HCA.out _ (Bel.refl _)).mono ?_
        rintro e w7 ⟨rfl, hb7⟩
        have HB7 := Lib.hid hb7
        clear hb7
        go_wp2_with (fail)
        refine (jalike_any w _ w7.heap.size (w7.heap.size + 1) b r jb rb M1 nm 100 [] (lw_boxes (H6.out.bel HB7.out) (HJA.out.bel HB7.out) (HRA.out.bel HB7.out) (by simp [HJS.out]) (by simp [HRS.out]) HNE.out HS.out) (by omega)).mono ?_
        rintro e w8 ⟨rfl, hb8⟩
        have HB8 := Lib.hid (((H6.out.low.trans HB7.out).trans (((Bel.refl w7).alloc _).alloc _)).trans hb8)
        clear hb8
        go_wp2_with (fail)
        go_ret
        exact ⟨rfl, HB8.out⟩
      · obtain rfl := HJE.out he
        obtain rfl := hje2 he
        clear hj2 hje2
        go_wp2_with (fail)
        refine (HCA.out _ (Bel.refl _)).mono ?_
        rintro e w7 ⟨rfl, hb7⟩
        have HB7 := Lib.hid hb7
        clear hb7
        go_wp2_with (fail)
        go_ret
        exact ⟨rfl, H6.out.low.trans HB7.out⟩
end Go.Proofs.YtlmlcnbgdaiaeaaGreatDoor
