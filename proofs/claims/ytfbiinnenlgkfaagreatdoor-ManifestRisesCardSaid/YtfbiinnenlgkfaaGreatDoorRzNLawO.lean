/- ManifestOpens. -/
import Derived.Test.YtfbiinnenlgkfaaGreatDoorR32
import Derived.Test.YtfbiinnenlgkfaaGreatDoorR27
import Derived.Test.YtfbiinnenlgkfaaGreatDoorR31
import Derived.Deep.RegionHeld
import Derived.Test.YtfbiinnenlgkfaaGreatDoorR2
set_option linter.unusedSimpArgs false
set_option linter.unusedVariables false
set_option maxRecDepth 100000
namespace Go.Proofs.YtfbiinnenlgkfaaGreatDoor
open Go.RowKit Go.Deep Go.Maps

structure FB where
 name : ByteArray
 data : ByteArray
def FlsAt (w : World) (p : Option Addr) (L : List FB) : Prop := ∀ i (h : i < L.length), ∃ B O sp, p.map (fun a => a.add (i * 2)) = some ⟨B, O, sp⟩ ∧
 w.cell? ⟨B, O, sp⟩ = some (.string L[i].name) ∧ w.cell? ⟨B, O + 1, none⟩ = some (.string L[i].data) ∧ L[i].name.size ≤ maxLen ∧ L[i].data.size ≤ maxLen
theorem FlsAt.bel {w x : World} {p : Option Addr} {L : List FB} (h : FlsAt w p L) (hb : Bel w x) : FlsAt x p L := by
 intro i hi
 obtain ⟨B, O, sp, hp, h1, h2, h3, h4⟩ := h i hi
 exact ⟨B, O, sp, hp, cell_later hb h1, cell_later hb h2, h3, h4⟩
theorem fls_at {w₀ x : World} {p : Option Addr} {L : List FB} (h : FlsAt w₀ p L) (hb : Bel w₀ x) {k : Nat} (hk : k < L.length) : ∃ a B O sp, p = some a ∧ a.add (k * 2) = ⟨B, O, sp⟩ ∧
  x.cell? ⟨B, O, sp⟩ = some (.string L[k].name) ∧ x.cell? ⟨B, O + 1, none⟩ = some (.string L[k].data) ∧ L[k].name.size ≤ maxLen ∧ L[k].data.size ≤ maxLen := by
 obtain ⟨B, O, sp, hp, c0, c1, c2, c3⟩ := h.bel hb k hk
 cases p with
 | none => cases hp
 | some a =>
  simp only [Option.map_some, Option.some.injEq] at hp
  exact ⟨a, B, O, sp, rfl, hp, c0, c1, c2, c3⟩
section
variable {w x y : World} {b r : Nat} {M M1 : RS} {s : MS}
def OpnRel (w y : World) (b r mb jb : Nat) (M M1 : RS) (s : MS) : Prop := ∃ F D G, PM w y b M1 mb jb s 0 F D ∧ RefP w.heap.size y r M G ∧ (∀ k ∈ mb :: (F ++ D), k ∉ G) ∧ M.ok
theorem opn_open (h : Tw w x b r M M []) (hs : Std w) (hr : M.room ≤ 1000000) :
  Calls Tryz.prog 32 #[.pointer (some ⟨b, 0, none⟩)] x fun e y => ((jopen manP M).1 ≠ 0 ∧ e = .returned (.tuple #[.pointer none, .int .i64 (jopen manP M).1]) ∧ ∃ G, RefP w.heap.size y r M G ∧ Bel w y ∧ M.ok) ∨
   ((jopen manP M).1 = 0 ∧ ∃ mb jb, e = .returned (.tuple #[.pointer (some ⟨mb, 0, none⟩), .int .i64 0]) ∧ OpnRel w y b r mb jb M (jopen manP M).2.2 (lastM initM (jopen manP M).2.1)) := by
 obtain ⟨⟨F, G, h1, h2, h3, -⟩, h5, h6, h7⟩ := h
 refine (mopen_any w x b M F hs h5 h1 h6 hr).mono ?_
 rintro e y ⟨F1, k3, k2, k1, kl, kok, ⟨hne, he⟩ | ⟨h0, mb, jb, D1, he, km, kn, kd⟩⟩
 ·exact Or.inl ⟨hne, he, G, h2.keep k2 (fun k hk hm => h3 k hm hk), kl, h7⟩
 ·refine Or.inr ⟨h0, mb, jb, he, F1, D1, G, km, h2.keep k2 (fun k hk hm => h3 k hm hk), fun k hk hm => ?_, h7⟩
  have hg := (ref_in h2 k hm).2
  rcases List.mem_cons.1 hk with e | hk
  ·omega
  ·rcases List.mem_append.1 hk with hk | hk
   ·rcases k3 k hk with h | h
    ·exact h3 k h hm
    ·omega
   ·have := kd k hk; omega
theorem opn_err {G : List Nat} (h : RefP w.heap.size x r M G) (hb : Bel w x) (hM : M.ok) (hs : Std w) (hr : M.room ≤ 1000000) (hne : (jopen manP M).1 ≠ 0) :
  Calls Tryz.prog 37 #[.pointer (some ⟨r, 0, none⟩)] x fun e y => e = .returned (.tuple #[.pointer none, .int .i64 (jopen manP M).1]) ∧ Bel w y := by
 refine (rmopen_any w x r M G hs hb h hM hr).mono ?_
 rintro e y ⟨G1, k3, k2, k1, kl, kok, ⟨hne, he⟩ | ⟨h0, rb, qb, E1, he, km, kn, kd⟩⟩
 ·exact ⟨he, kl⟩
 ·exact absurd h0 hne
theorem opn_ropen {mb jb : Nat} (h : OpnRel w x b r mb jb M M1 s) (hs : Std w) (hr : M.room ≤ 1000000) (h0 : (jopen manP M).1 = 0) :
  Calls Tryz.prog 37 #[.pointer (some ⟨r, 0, none⟩)] x fun e y => ∃ rb qb, e = .returned (.tuple #[.pointer (some ⟨rb, 0, none⟩), .int .i64 0]) ∧ TM w y b r mb jb rb qb ⟨M1, s, 0⟩ ⟨(jopen manP M).2.2, lastM initM (jopen manP M).2.1, 0⟩ [] := by
 obtain ⟨F, D, G, h1, h2, h3, hM⟩ := h
 refine (rmopen_any w x r M G hs h1.low h2 hM hr).mono ?_
 rintro e y ⟨G1, k3, k2, k1, kl, kok, ⟨hne, he⟩ | ⟨-, rb, qb, E1, he, km, kn, kd⟩⟩
 ·exact absurd h0 hne
 ·have hlt : ∀ k ∈ mb :: (F ++ D), k < x.heap.size := fun k hk => by
   rcases List.mem_cons.1 hk with rfl | hk
   ·exact h1.mlt
   ·rcases List.mem_append.1 hk with hk | hk
    ·exact (h1.flt k hk).2
    ·exact (h1.dw k hk).2.2
  have hn : ∀ k ∈ mb :: (F ++ D), k ∉ rb :: (G1 ++ E1) := fun k hk hm => by
   have := hlt k hk
   rcases List.mem_cons.1 hm with e | hm
   ·omega
   ·rcases List.mem_append.1 hm with hm | hm
    ·rcases k3 k hm with h | h
     ·exact h3 k hk h
     ·omega
    ·have := kd k hm; omega
  refine ⟨rb, qb, he, F, D, G1, E1, h1.keep k2 kl (h3 mb (by simp)) (fun k hk => h3 k (by simp [hk])) (fun k hk => h3 k (by simp [hk])), km, fun k hk => hn k (mem2 hk), fun k hk hm => hn k (by simp [hm]) (mem2 hk), by simp⟩
end
def NopRel (w : World) (b r : Nat) (n : Nat) (i : Value) (x : World) : Prop := ∃ (k : Nat) (M : RS), i = .int .i64 k ∧ k ≤ n ∧ Tw w x b r M M [] ∧ M.room = 100000
set_option maxHeartbeats 8000000 in
set_option maxRecDepth 20000 in
theorem law_opens13_any (w : World) (p : Option Addr) (cap : Nat) (L : List FB) (hstd : Std w) (h : FlsAt w p L) (hL : L.length ≤ maxLen) :
  Calls Tryz.prog 8 #[.slice p L.length cap] w fun e w' => e = .returned (.bool true) ∧ Bel w w' := by
 have HS := Lib.hid hstd
 have H := Lib.hid h
 unfold maxLen at hL
 clear hstd h
 by_cases h12 : 12 < L.length
 ·go_enter Tryz.func8, Tryz.ntmps8
  go_wp2_with (fail)
  refine (shown13_any w HS.out).mono ?_
  rintro e w1 ⟨rfl, hb1⟩
  have HB1 := Lib.hid hb1; clear hb1
  go_wp2_with (fail)
  go_ret
  exact ⟨rfl, HB1.out⟩
 go_enter Tryz.func8, Tryz.ntmps8
 go_wp2_with (fail)
 refine (shown13_any w HS.out).mono ?_
 rintro e w0 ⟨rfl, hb1⟩
 have HB := Lib.hid hb1; clear hb1
 go_wp2_with (fail)
 refine (pnew_any 100000 w0 (by omega)).mono ?_
 rintro e w3 ⟨rfl, h3, hb3⟩
 obtain ⟨b, hb⟩ : ∃ b, b = w0.heap.size := ⟨_, rfl⟩
 have HBE := Lib.hid hb
 rw [← hb] at h3 ⊢
 have H3 := Lib.hid (show ProgAt w0.heap.size w3 b (newS 100000) [b] by rw [← hb]; exact h3)
 have HB3 := Lib.hid hb3
 clear h3 hb3 hb
 go_wp2_with (fail)
 refine (rnew_ref 100000 w3 (by omega)).mono ?_
 rintro e w4 ⟨rfl, h4, hb4⟩
 obtain ⟨r, hr⟩ : ∃ r, r = w3.heap.size := ⟨_, rfl⟩
 have H4 := Lib.hid (show Tw w w4 b r (newS 100000) (newS 100000) [] from tw_begin 100000 (by omega) HB.out HBE.out H3.out HB3.out hr (by rw [hr]; exact h4) hb4)
 rw [← hr]
 clear hr h4 hb4
 go_wp2_with (fail)
 go_loopw [8] (fun i x => NopRel w b r L.length i x) (fun i _ => L.length - (intOf i).toNat)
 case atStart => exact ⟨0, _, rfl, Nat.zero_le _, H4.out, rfl⟩
 case round =>
  obtain ⟨k, M, rfl, hk, hx, hrm⟩ := hrel
  have HX := Lib.hid hx
  have HRM := Lib.hid hrm
  clear hx hrm H4
  by_cases hlt : k < L.length
  ·obtain ⟨a, B, O, sp, rfl, hp, c0, c1, z0, z1⟩ := fls_at H.out HX.out.low hlt
   have HA := Lib.hid (fun x (hx : Bel w x) => fls_at H.out hx hlt)
   obtain ⟨y, hy⟩ : ∃ y, y = L[k] := ⟨_, rfl⟩
   rw [← hy] at c0 c1 z0 z1 HA
   clear hy
   unfold maxLen at z0 z1
   by_cases n100 : 100 < y.name.size
   ·go_wp2_with (fail)
    go_ret
    exact ⟨rfl, HX.out.low⟩
   by_cases n3000 : 3000 < y.data.size
   ·go_wp2_with (fail)
    go_ret
    exact ⟨rfl, HX.out.low⟩
   obtain ⟨ea, Ma, had⟩ : ∃ ea Ma, addS y.name.data.toList y.data.data.toList M = (ea, Ma) := ⟨_, _, rfl⟩
   have HAD := Lib.hid had
   have HRA := Lib.hid (show Ma.room = 100000 by have := add_room M y.name.data.toList y.data.data.toList; rw [had] at this; rw [show Ma.room = M.room from this]; exact HRM.out)
   clear had
   go_wp2_with (fail)
   refine wp_region_held_drew (S := fun z => z.cell? ⟨B, O, sp⟩ = some (.string y.name) ∧ z.cell? ⟨B, O + 1, none⟩ = some (.string y.data)) (by kernel_rfl) ⟨c0, c1⟩ (fun hHeld => ?_)
   refine tq ⟨some 58, .move (.tmp 4), 55, "more.go:30", #[], none⟩ ?_ 0 rfl ?_ ?_;rotate_left;·(intros;go_simp<;>with_reducible rfl)
   try simp only[Act.put,sqA,sqB,sqC]
   refine tq ⟨some 59, .move (.tmp 0), 83, "more.go:30", #[], none⟩ ?_ 1 rfl ?_ ?_;rotate_left;·(intros;go_simp<;>with_reducible rfl)
   try simp only[Act.put,sqA,sqB,sqC]
   refine tq ⟨some 60, .move (.tmp 8), 3, "more.go:30", #[], none⟩ ?_ 2 rfl ?_ ?_;rotate_left;·(intros;go_simp<;>with_reducible rfl)
   try simp only[Act.put,sqA,sqB,sqC]
   refine tq ⟨some 61, .indexAddr 83 (.tmp 59) (.tmp 60), 0, "more.go:30", #[⟨1, .data⟩, ⟨2, .data⟩], none⟩ ?_ 3 rfl ?_ ?_;rotate_left;·(intros;go_simp<;>with_reducible rfl)
   try simp only[Act.put,sqA,sqB,sqC]
   refine tq ⟨some 62, .fieldAddr 89 (.tmp 61) 0, 0, "more.go:30", #[⟨3, .data⟩], none⟩ ?_ 4 rfl ?_ ?_;rotate_left;·(intros;go_simp<;>with_reducible rfl)
   try simp only[Act.put,sqA,sqB,sqC]
   refine tq ⟨some 63, .load 9 (.tmp 62), 9, "more.go:30", #[⟨4, .data⟩], none⟩ ?_ 5 rfl ?_ ?_;rotate_left;·(intros;go_simp<;>with_reducible rfl)
   try simp only[Act.put,sqA,sqB,sqC]
   refine tq ⟨some 64, .move (.tmp 0), 83, "more.go:30", #[], none⟩ ?_ 6 rfl ?_ ?_;rotate_left;·(intros;go_simp<;>with_reducible rfl)
   try simp only[Act.put,sqA,sqB,sqC]
   refine tq ⟨some 65, .move (.tmp 8), 3, "more.go:30", #[], none⟩ ?_ 7 rfl ?_ ?_;rotate_left;·(intros;go_simp<;>with_reducible rfl)
   try simp only[Act.put,sqA,sqB,sqC]
   refine tq ⟨some 66, .indexAddr 83 (.tmp 64) (.tmp 65), 0, "more.go:30", #[⟨6, .data⟩, ⟨7, .data⟩], none⟩ ?_ 8 rfl ?_ ?_;rotate_left;·(intros;go_simp<;>with_reducible rfl)
   try simp only[Act.put,sqA,sqB,sqC]
   refine tq ⟨some 67, .fieldAddr 89 (.tmp 66) 1, 0, "more.go:30", #[⟨8, .data⟩], none⟩ ?_ 9 rfl ?_ ?_;rotate_left;·(intros;go_simp<;>with_reducible rfl)
   try simp only[Act.put,sqA,sqB,sqC]
   refine tq ⟨some 68, .load 9 (.tmp 67), 9, "more.go:30", #[⟨9, .data⟩], none⟩ ?_ 10 rfl ?_ ?_;rotate_left;·(intros;go_simp<;>with_reducible rfl)
   try simp only[Act.put,sqA,sqB,sqC]
   refine wpAnyH_ready (rs := [11]) (by kernel_rfl) (by simp) ?_
   refine ar1 ⟨some 69, .call ⟨.value (.func 35), #[.tmp 58, .tmp 63, .tmp 68], #[55, 9, 9]⟩, 31, "more.go:30", #[⟨0, .data⟩, ⟨5, .data⟩, ⟨10, .data⟩], none⟩ rfl (fun K hK => ?_)
   go_simp
   refine (tw_add (HX.out.bel (Bel.refl _).drew) y.name y.data (by omega) (by omega)).mono ?_
   rintro e w5 ⟨rfl, h5, -⟩
   rw [HAD.out] at h5
   have H5 := Lib.hid h5
   obtain ⟨a', B', O', sp', ha', hp', d0, d1, -, -⟩ := HA.out _ h5.low
   obtain rfl : a = a' := by simpa using ha'
   have hpk := hp
   rw [hp, Addr.mk.injEq] at hp'
   obtain ⟨rfl, rfl, rfl⟩ := hp'
   clear ha' h5
   dsimp only
   refine hK.out _ _ ⟨d0, d1⟩ (fun hHeld => ?_);clear hK K;try simp only[Act.put,sqA,sqB,sqC]
   refine wpAnyH_done (by kernel_rfl) ?_ _
   clear c0 c1
   go_wp2_with (fail)
   refine wp_region_held_drew (S := fun z => z.cell? ⟨B, O, sp⟩ = some (.string y.name) ∧ z.cell? ⟨B, O + 1, none⟩ = some (.string y.data)) (by kernel_rfl) ⟨d0, d1⟩ (fun hHeld => ?_)
   refine tq ⟨some 70, .move (.tmp 6), 63, "more.go:31", #[], none⟩ ?_ 0 rfl ?_ ?_;rotate_left;·(intros;go_simp<;>with_reducible rfl)
   try simp only[Act.put,sqA,sqB,sqC]
   refine tq ⟨some 71, .move (.tmp 0), 83, "more.go:31", #[], none⟩ ?_ 1 rfl ?_ ?_;rotate_left;·(intros;go_simp<;>with_reducible rfl)
   try simp only[Act.put,sqA,sqB,sqC]
   refine tq ⟨some 72, .move (.tmp 8), 3, "more.go:31", #[], none⟩ ?_ 2 rfl ?_ ?_;rotate_left;·(intros;go_simp<;>with_reducible rfl)
   try simp only[Act.put,sqA,sqB,sqC]
   refine tq ⟨some 73, .indexAddr 83 (.tmp 71) (.tmp 72), 0, "more.go:31", #[⟨1, .data⟩, ⟨2, .data⟩], none⟩ ?_ 3 rfl ?_ ?_;rotate_left;·(intros;go_simp<;>with_reducible rfl)
   try simp only[Act.put,sqA,sqB,sqC]
   refine tq ⟨some 74, .fieldAddr 89 (.tmp 73) 0, 0, "more.go:31", #[⟨3, .data⟩], none⟩ ?_ 4 rfl ?_ ?_;rotate_left;·(intros;go_simp<;>with_reducible rfl)
   try simp only[Act.put,sqA,sqB,sqC]
   refine tq ⟨some 75, .load 9 (.tmp 74), 9, "more.go:31", #[⟨4, .data⟩], none⟩ ?_ 5 rfl ?_ ?_;rotate_left;·(intros;go_simp<;>with_reducible rfl)
   try simp only[Act.put,sqA,sqB,sqC]
   refine tq ⟨some 76, .move (.tmp 0), 83, "more.go:31", #[], none⟩ ?_ 6 rfl ?_ ?_;rotate_left;·(intros;go_simp<;>with_reducible rfl)
   try simp only[Act.put,sqA,sqB,sqC]
   refine tq ⟨some 77, .move (.tmp 8), 3, "more.go:31", #[], none⟩ ?_ 7 rfl ?_ ?_;rotate_left;·(intros;go_simp<;>with_reducible rfl)
   try simp only[Act.put,sqA,sqB,sqC]
   refine tq ⟨some 78, .indexAddr 83 (.tmp 76) (.tmp 77), 0, "more.go:31", #[⟨6, .data⟩, ⟨7, .data⟩], none⟩ ?_ 8 rfl ?_ ?_;rotate_left;·(intros;go_simp<;>with_reducible rfl)
   try simp only[Act.put,sqA,sqB,sqC]
   refine tq ⟨some 79, .fieldAddr 89 (.tmp 78) 1, 0, "more.go:31", #[⟨8, .data⟩], none⟩ ?_ 9 rfl ?_ ?_;rotate_left;·(intros;go_simp<;>with_reducible rfl)
   try simp only[Act.put,sqA,sqB,sqC]
   refine tq ⟨some 80, .load 9 (.tmp 79), 9, "more.go:31", #[⟨9, .data⟩], none⟩ ?_ 10 rfl ?_ ?_;rotate_left;·(intros;go_simp<;>with_reducible rfl)
   try simp only[Act.put,sqA,sqB,sqC]
   refine wpAnyH_ready (rs := [11]) (by kernel_rfl) (by simp) ?_
   refine ar1 ⟨some 81, .call ⟨.value (.func 36), #[.tmp 70, .tmp 75, .tmp 80], #[63, 9, 9]⟩, 31, "more.go:31", #[⟨0, .data⟩, ⟨5, .data⟩, ⟨10, .data⟩], none⟩ rfl (fun K hK => ?_)
   go_simp
   refine (tw_radd (H5.out.bel (Bel.refl _).drew) y.name y.data (by omega) (by omega)).mono ?_
   rintro e w6 ⟨rfl, h6, -⟩
   rw [HAD.out] at h6
   have H6 := Lib.hid h6
   obtain ⟨a', B', O', sp', ha', hp', e0, e1, -, -⟩ := HA.out _ h6.low
   obtain rfl : a = a' := by simpa using ha'
   rw [hpk, Addr.mk.injEq] at hp'
   obtain ⟨rfl, rfl, rfl⟩ := hp'
   clear ha' h6
   dsimp only
   refine hK.out _ _ ⟨e0, e1⟩ (fun hHeld => ?_);clear hK K;try simp only[Act.put,sqA,sqB,sqC]
   refine wpAnyH_done (by kernel_rfl) ?_ _
   clear d0 d1 e0 e1
   go_wp2_with (fail)
   go_roundw
   case rel => exact ⟨k + 1, Ma, by go_num, by omega, H6.out, HRA.out⟩
   case measure => simp [intOf]; omega
  ·obtain rfl : k = L.length := by omega
   obtain ⟨er, her⟩ : ∃ er, er = (jopen manP M).1 := ⟨_, rfl⟩
   have HER := Lib.hid her
   have hee : (er != er) = false := by simp
   have hee2 : (er == er) = true := by simp
   have HRI := Lib.hid (show rightM (lastM initM (jopen manP M).2.1) = true from last_right _ (by decide))
   clear her hk
   go_wp2_with (fail)
   refine (opn_open HX.out HS.out (by have := HRM.out; omega)).mono ?_
   rintro e w5 (⟨hne, rfl, G, h5, hl5, hM5⟩ | ⟨h0, mb, jb, rfl, h5⟩)
   ·have H5 := Lib.hid h5
    have HL5 := Lib.hid hl5
    have HM5 := Lib.hid hM5
    have HNE := Lib.hid hne
    rw [← HER.out]
    clear h5 hl5 hM5 hne
    go_wp2_with (fail)
    refine (opn_err H5.out HL5.out HM5.out HS.out (by have := HRM.out; omega) HNE.out).mono ?_
    rintro e w6 ⟨rfl, hb6⟩
    rw [← HER.out]
    have HB6 := Lib.hid hb6
    clear hb6
    go_wp2_with (fail)
    refine wp_region_held_drew (S := fun z => True) (by kernel_rfl) trivial (fun hHeld => ?_)
    refine tq ⟨some 102, .move (.tmp 9), 56, "more.go:38", #[], none⟩ ?_ 0 rfl ?_ ?_;rotate_left;·(intros;go_simp<;>with_reducible rfl)
    try simp only[Act.put,sqA,sqB,sqC]
    refine tq ⟨some 103, .binOp .eql 56 (.tmp 102) (.const (.pointer none)) 56, 4, "more.go:38", #[⟨0, .data⟩], none⟩ ?_ 1 rfl ?_ ?_;rotate_left;·(intros;go_simp<;>with_reducible rfl)
    try simp only[Act.put,sqA,sqB,sqC]
    refine tq ⟨some 104, .move (.tmp 103), 4, "more.go:38", #[⟨1, .data⟩], none⟩ ?_ 2 rfl ?_ ?_;rotate_left;·(intros;go_simp<;>with_reducible rfl)
    try simp only[Act.put,sqA,sqB,sqC]
    refine wpAnyH_take (i := 3) (oi := ⟨some 105, .move (.tmp 9), 56, "more.go:38", #[⟨2, .guard⟩], some (2, false)⟩) (v := undef) rfl (by kernel_rfl) (by kernel_rfl) (by kernel_rfl) (fun _ _ _ h => h) (Or.inr ⟨by rfl, rfl⟩) (by assumption) ?_
    try simp only[Act.put,sqA,sqB,sqC]
    refine wpAnyH_take (i := 4) (oi := ⟨some 106, .call ⟨.value (.func 23), #[.tmp 105], #[56]⟩, 24, "more.go:38", #[⟨3, .data⟩, ⟨2, .chain⟩, ⟨2, .guard⟩], some (2, false)⟩) (v := undef) rfl (by kernel_rfl) (by kernel_rfl) (by kernel_rfl) (fun _ _ _ h => h) (Or.inr ⟨by rfl, rfl⟩) (by assumption) ?_
    try simp only[Act.put,sqA,sqB,sqC]
    refine wpAnyH_take (i := 5) (oi := ⟨some 107, .move (.tmp 11), 64, "more.go:38", #[⟨2, .guard⟩], some (2, false)⟩) (v := undef) rfl (by kernel_rfl) (by kernel_rfl) (by kernel_rfl) (fun _ _ _ h => h) (Or.inr ⟨by rfl, rfl⟩) (by assumption) ?_
    try simp only[Act.put,sqA,sqB,sqC]
    refine wpAnyH_take (i := 6) (oi := ⟨some 108, .nilCheck (.tmp 107), 0, "more.go:38", #[⟨5, .data⟩, ⟨2, .guard⟩], some (2, false)⟩) (v := undef) rfl (by kernel_rfl) (by kernel_rfl) (by kernel_rfl) (fun _ _ _ h => h) (Or.inr ⟨by rfl, rfl⟩) (by assumption) ?_
    try simp only[Act.put,sqA,sqB,sqC]
    refine wpAnyH_take (i := 7) (oi := ⟨some 109, .fieldAddr 62 (.tmp 108) 1, 0, "more.go:38", #[⟨6, .data⟩, ⟨2, .guard⟩], some (2, false)⟩) (v := undef) rfl (by kernel_rfl) (by kernel_rfl) (by kernel_rfl) (fun _ _ _ h => h) (Or.inr ⟨by rfl, rfl⟩) (by assumption) ?_
    try simp only[Act.put,sqA,sqB,sqC]
    refine wpAnyH_take (i := 8) (oi := ⟨some 110, .load 28 (.tmp 109), 28, "more.go:38", #[⟨7, .data⟩, ⟨2, .guard⟩], some (2, false)⟩) (v := undef) rfl (by kernel_rfl) (by kernel_rfl) (by kernel_rfl) (fun _ _ _ h => h) (Or.inr ⟨by rfl, rfl⟩) (by assumption) ?_
    try simp only[Act.put,sqA,sqB,sqC]
    refine wpAnyH_take (i := 9) (oi := ⟨some 111, .call ⟨.value (.func 17), #[.tmp 106, .tmp 110], #[24, 28]⟩, 4, "more.go:38", #[⟨4, .data⟩, ⟨8, .data⟩, ⟨4, .chain⟩, ⟨2, .guard⟩], some (2, false)⟩) (v := undef) rfl (by kernel_rfl) (by kernel_rfl) (by kernel_rfl) (fun _ _ _ h => h) (Or.inr ⟨by rfl, rfl⟩) (by assumption) ?_
    try simp only[Act.put,sqA,sqB,sqC]
    refine wpAnyH_take (i := 10) (oi := ⟨some 112, .move (.tmp 111), 4, "more.go:38", #[⟨9, .data⟩, ⟨9, .chain⟩, ⟨2, .guard⟩], some (2, false)⟩) (v := undef) rfl (by kernel_rfl) (by kernel_rfl) (by kernel_rfl) (fun _ _ _ h => h) (Or.inr ⟨by rfl, rfl⟩) (by assumption) ?_
    try simp only[Act.put,sqA,sqB,sqC]
    refine wpAnyH_take (i := 11) (oi := ⟨some 113, .move (.tmp 4), 55, "more.go:38", #[⟨10, .guard⟩], some (10, true)⟩) (v := undef) rfl (by kernel_rfl) (by kernel_rfl) (by kernel_rfl) (fun _ _ _ h => h) (Or.inr ⟨by rfl, rfl⟩) (by assumption) ?_
    try simp only[Act.put,sqA,sqB,sqC]
    refine wpAnyH_take (i := 12) (oi := ⟨some 114, .call ⟨.value (.func 24), #[.tmp 113], #[55]⟩, 3, "more.go:38", #[⟨11, .data⟩, ⟨10, .chain⟩, ⟨10, .guard⟩], some (10, true)⟩) (v := undef) rfl (by kernel_rfl) (by kernel_rfl) (by kernel_rfl) (fun _ _ _ h => h) (Or.inr ⟨by rfl, rfl⟩) (by assumption) ?_
    try simp only[Act.put,sqA,sqB,sqC]
    refine wpAnyH_take (i := 13) (oi := ⟨some 115, .move (.tmp 6), 63, "more.go:38", #[⟨10, .guard⟩], some (10, true)⟩) (v := undef) rfl (by kernel_rfl) (by kernel_rfl) (by kernel_rfl) (fun _ _ _ h => h) (Or.inr ⟨by rfl, rfl⟩) (by assumption) ?_
    try simp only[Act.put,sqA,sqB,sqC]
    refine wpAnyH_take (i := 14) (oi := ⟨some 116, .call ⟨.value (.func 25), #[.tmp 115], #[63]⟩, 3, "more.go:38", #[⟨13, .data⟩, ⟨12, .chain⟩, ⟨10, .guard⟩], some (10, true)⟩) (v := undef) rfl (by kernel_rfl) (by kernel_rfl) (by kernel_rfl) (fun _ _ _ h => h) (Or.inr ⟨by rfl, rfl⟩) (by assumption) ?_
    try simp only[Act.put,sqA,sqB,sqC]
    refine wpAnyH_take (i := 15) (oi := ⟨some 117, .binOp .eql 3 (.tmp 114) (.tmp 116) 3, 4, "more.go:38", #[⟨12, .data⟩, ⟨14, .data⟩, ⟨10, .guard⟩], some (10, true)⟩) (v := undef) rfl (by kernel_rfl) (by kernel_rfl) (by kernel_rfl) (fun _ _ _ h => h) (Or.inr ⟨by rfl, rfl⟩) (by assumption) ?_
    try simp only[Act.put,sqA,sqB,sqC]
    refine wpAnyH_take (i := 16) (oi := ⟨some 118, .pick (.tmp 112) (.tmp 117) (.const (.bool false)), 4, "more.go:38", #[⟨10, .data⟩, ⟨15, .data⟩, ⟨2, .guard⟩], some (2, false)⟩) (v := undef) rfl (by kernel_rfl) (by kernel_rfl) (by kernel_rfl) (fun _ _ _ h => h) (Or.inr ⟨by rfl, rfl⟩) (by assumption) ?_
    try simp only[Act.put,sqA,sqB,sqC]
    refine tq ⟨some 119, .pick (.tmp 104) (.const (.bool true)) (.tmp 118), 4, "more.go:38", #[⟨2, .data⟩, ⟨16, .data⟩], none⟩ ?_ 17 rfl ?_ ?_;rotate_left;·(intros;go_simp<;>with_reducible rfl)
    try simp only[Act.put,sqA,sqB,sqC]
    refine tq ⟨some 2, .assign (.tmp 119), 4, "more.go:38", #[⟨17, .data⟩, ⟨14, .chain⟩, ⟨0, .phase⟩, ⟨1, .phase⟩, ⟨2, .phase⟩, ⟨3, .phase⟩, ⟨4, .phase⟩, ⟨5, .phase⟩, ⟨6, .phase⟩, ⟨7, .phase⟩, ⟨8, .phase⟩, ⟨9, .phase⟩, ⟨10, .phase⟩, ⟨11, .phase⟩, ⟨12, .phase⟩, ⟨13, .phase⟩, ⟨14, .phase⟩, ⟨15, .phase⟩, ⟨16, .phase⟩, ⟨17, .phase⟩], none⟩ ?_ 18 rfl ?_ ?_;rotate_left;·(intros;go_simp<;>with_reducible rfl)
    try simp only[Act.put,sqA,sqB,sqC]
    refine wpAnyH_done (by kernel_rfl) ?_ _
    go_wp2_with (fail)
    go_ret
    exact ⟨rfl, HB6.out.drew⟩
   ·have H5 := Lib.hid h5
    have H0 := Lib.hid h0
    obtain rfl : er = 0 := HER.out.trans h0
    clear h5 h0
    go_wp2_with (fail)
    refine (opn_ropen H5.out HS.out (by have := HRM.out; omega) H0.out).mono ?_
    rintro e w6 ⟨rb, qb, rfl, h6⟩
    have H6 := Lib.hid h6
    clear h6
    obtain ⟨q, hq⟩ : ∃ q : SD, q = ⟨(jopen manP M).2.2, lastM initM (jopen manP M).2.1, 0⟩ := ⟨_, rfl⟩
    have HRQ := Lib.hid (show rightM q.s = true by rw [hq]; exact HRI.out)
    rw [← hq] at H6
    clear hq
    obtain ⟨fp, fc, hrb, hrp⟩ := H6.out.rbox
    have HRP := Lib.hid hrp
    have HRS := Lib.hid (show ∀ z', Bel w6 z' → z'.cell? ⟨rb, 1, none⟩ = some (.slice fp q.s.files.length fc) ∧ z'.cell? ⟨rb, 2, none⟩ = some (.int .i64 q.s.next) ∧ z'.cell? ⟨rb, 3, none⟩ = some (.int .i64 q.s.seq) ∧ z'.cell? ⟨rb, 4, none⟩ = some (.int .i64 q.s.log) ∧ z'.cell? ⟨rb, 5, none⟩ = some (.string q.s.mt) from fun z' hz => by
     obtain ⟨⟨-, r1, r2, r3, r4, r5, -⟩, -⟩ := box7 (box_bel hrb hz)
     exact ⟨r1, r2, r3, r4, r5⟩)
    clear hrb hrp
    go_wp2_with (fail)
    refine wp_region_held_drew (S := fun z => z.cell? ⟨rb, 1, none⟩ = some (.slice fp q.s.files.length fc) ∧ z.cell? ⟨rb, 2, none⟩ = some (.int .i64 q.s.next) ∧ z.cell? ⟨rb, 3, none⟩ = some (.int .i64 q.s.seq) ∧ z.cell? ⟨rb, 4, none⟩ = some (.int .i64 q.s.log) ∧ z.cell? ⟨rb, 5, none⟩ = some (.string q.s.mt)) (by kernel_rfl) (HRS.out _ (Bel.refl _).drew) (fun hHeld => ?_)
    refine tq ⟨some 102, .move (.tmp 9), 56, "more.go:38", #[], none⟩ ?_ 0 rfl ?_ ?_;rotate_left;·(intros;go_simp<;>with_reducible rfl)
    try simp only[Act.put,sqA,sqB,sqC]
    refine tq ⟨some 103, .binOp .eql 56 (.tmp 102) (.const (.pointer none)) 56, 4, "more.go:38", #[⟨0, .data⟩], none⟩ ?_ 1 rfl ?_ ?_;rotate_left;·(intros;go_simp<;>with_reducible rfl)
    try simp only[Act.put,sqA,sqB,sqC]
    refine tq ⟨some 104, .move (.tmp 103), 4, "more.go:38", #[⟨1, .data⟩], none⟩ ?_ 2 rfl ?_ ?_;rotate_left;·(intros;go_simp<;>with_reducible rfl)
    try simp only[Act.put,sqA,sqB,sqC]
    refine tq ⟨some 105, .move (.tmp 9), 56, "more.go:38", #[⟨2, .guard⟩], some (2, false)⟩ ?_ 3 rfl ?_ ?_;rotate_left;·(intros;go_simp<;>with_reducible rfl)
    try simp only[Act.put,sqA,sqB,sqC]
    refine tq ⟨some 107, .move (.tmp 11), 64, "more.go:38", #[⟨2, .guard⟩], some (2, false)⟩ ?_ 5 rfl ?_ ?_;rotate_left;·(intros;go_simp<;>with_reducible rfl)
    try simp only[Act.put,sqA,sqB,sqC]
    refine tq ⟨some 108, .nilCheck (.tmp 107), 0, "more.go:38", #[⟨5, .data⟩, ⟨2, .guard⟩], some (2, false)⟩ ?_ 6 rfl ?_ ?_;rotate_left;·(intros;go_simp<;>with_reducible rfl)
    try simp only[Act.put,sqA,sqB,sqC]
    refine tq ⟨some 109, .fieldAddr 62 (.tmp 108) 1, 0, "more.go:38", #[⟨6, .data⟩, ⟨2, .guard⟩], some (2, false)⟩ ?_ 7 rfl ?_ ?_;rotate_left;·(intros;go_simp<;>with_reducible rfl)
    try simp only[Act.put,sqA,sqB,sqC]
    refine tq ⟨some 110, .load 28 (.tmp 109), 28, "more.go:38", #[⟨7, .data⟩, ⟨2, .guard⟩], some (2, false)⟩ ?_ 8 rfl ?_ ?_;rotate_left;·(intros;go_simp<;>with_reducible rfl)
    try simp only[Act.put,sqA,sqB,sqC]
    refine wpAnyH_ready (rs := [4]) (by kernel_rfl) (by simp) ?_
    refine ar1 ⟨some 106, .call ⟨.value (.func 23), #[.tmp 105], #[56]⟩, 24, "more.go:38", #[⟨3, .data⟩, ⟨2, .chain⟩, ⟨2, .guard⟩], some (2, false)⟩ rfl (fun K hK => ?_)
    go_simp
    refine (tm_state H6.out (Bel.refl _).drew (right_files HRQ.out)).mono ?_
    rintro e w7 ⟨sp7, sc7, rfl, ho7, hb7⟩
    have HB7 := Lib.hid (show Bel w6 w7 from (Bel.refl w6).drew.trans hb7)
    have HP7 := Lib.hid (pls_ownP ho7)
    clear ho7 hb7
    dsimp only
    refine hK.out _ _ (HRS.out _ HB7.out) (fun hHeld => ?_);clear hK K;try simp only[Act.put,sqA,sqB,sqC]
    refine wpAnyH_ready (rs := [9]) (by kernel_rfl) (by simp) ?_
    refine ar1 ⟨some 111, .call ⟨.value (.func 17), #[.tmp 106, .tmp 110], #[24, 28]⟩, 4, "more.go:38", #[⟨4, .data⟩, ⟨8, .data⟩, ⟨4, .chain⟩, ⟨2, .guard⟩], some (2, false)⟩ rfl (fun K hK => ?_)
    go_simp
    refine (alike13_any sp7 fp sc7 fc q.s q.s _ HP7.out (HRP.out.bel HB7.out) (by have := right_files HRQ.out; omega) (by have := right_files HRQ.out; omega)).mono ?_
    rintro e w8 ⟨rfl, hb8⟩
    rw [eqM_yes rfl]
    have HB8 := Lib.hid (HB7.out.trans hb8)
    clear hb8
    dsimp only
    refine hK.out _ _ (HRS.out _ HB8.out) (fun hHeld => ?_);clear hK K;try simp only[Act.put,sqA,sqB,sqC]
    refine tq ⟨some 112, .move (.tmp 111), 4, "more.go:38", #[⟨9, .data⟩, ⟨9, .chain⟩, ⟨2, .guard⟩], some (2, false)⟩ ?_ 10 rfl ?_ ?_;rotate_left;·(intros;go_simp<;>with_reducible rfl)
    try simp only[Act.put,sqA,sqB,sqC]
    refine tq ⟨some 113, .move (.tmp 4), 55, "more.go:38", #[⟨10, .guard⟩], some (10, true)⟩ ?_ 11 rfl ?_ ?_;rotate_left;·(intros;go_simp<;>with_reducible rfl)
    try simp only[Act.put,sqA,sqB,sqC]
    refine tq ⟨some 115, .move (.tmp 6), 63, "more.go:38", #[⟨10, .guard⟩], some (10, true)⟩ ?_ 13 rfl ?_ ?_;rotate_left;·(intros;go_simp<;>with_reducible rfl)
    try simp only[Act.put,sqA,sqB,sqC]
    refine wpAnyH_ready (rs := [12]) (by kernel_rfl) (by simp) ?_
    refine ar1 ⟨some 114, .call ⟨.value (.func 24), #[.tmp 113], #[55]⟩, 3, "more.go:38", #[⟨11, .data⟩, ⟨10, .chain⟩, ⟨10, .guard⟩], some (10, true)⟩ rfl (fun K hK => ?_)
    go_simp
    refine (tm_used H6.out HB8.out).mono ?_
    rintro e w9 ⟨rfl, hb9⟩
    have HB9 := Lib.hid (HB8.out.trans hb9)
    clear hb9
    dsimp only
    refine hK.out _ _ (HRS.out _ HB9.out) (fun hHeld => ?_);clear hK K;try simp only[Act.put,sqA,sqB,sqC]
    refine wpAnyH_ready (rs := [14]) (by kernel_rfl) (by simp) ?_
    refine ar1 ⟨some 116, .call ⟨.value (.func 25), #[.tmp 115], #[63]⟩, 3, "more.go:38", #[⟨13, .data⟩, ⟨12, .chain⟩, ⟨10, .guard⟩], some (10, true)⟩ rfl (fun K hK => ?_)
    go_simp
    refine (tm_rused H6.out HB9.out).mono ?_
    rintro e w10 ⟨rfl, hb10⟩
    have HB10 := Lib.hid (HB9.out.trans hb10)
    clear hb10
    dsimp only
    refine hK.out _ _ (HRS.out _ HB10.out) (fun hHeld => ?_);clear hK K;try simp only[Act.put,sqA,sqB,sqC]
    refine tq ⟨some 117, .binOp .eql 3 (.tmp 114) (.tmp 116) 3, 4, "more.go:38", #[⟨12, .data⟩, ⟨14, .data⟩, ⟨10, .guard⟩], some (10, true)⟩ ?_ 15 rfl ?_ ?_;rotate_left;·(intros;go_simp<;>with_reducible rfl)
    try simp only[Act.put,sqA,sqB,sqC]
    refine tq ⟨some 118, .pick (.tmp 112) (.tmp 117) (.const (.bool false)), 4, "more.go:38", #[⟨10, .data⟩, ⟨15, .data⟩, ⟨2, .guard⟩], some (2, false)⟩ ?_ 16 rfl ?_ ?_;rotate_left;·(intros;go_simp<;>with_reducible rfl)
    try simp only[Act.put,sqA,sqB,sqC]
    refine tq ⟨some 119, .pick (.tmp 104) (.const (.bool true)) (.tmp 118), 4, "more.go:38", #[⟨2, .data⟩, ⟨16, .data⟩], none⟩ ?_ 17 rfl ?_ ?_;rotate_left;·(intros;go_simp<;>with_reducible rfl)
    try simp only[Act.put,sqA,sqB,sqC]
    refine tq ⟨some 2, .assign (.tmp 119), 4, "more.go:38", #[⟨17, .data⟩, ⟨14, .chain⟩, ⟨0, .phase⟩, ⟨1, .phase⟩, ⟨2, .phase⟩, ⟨3, .phase⟩, ⟨4, .phase⟩, ⟨5, .phase⟩, ⟨6, .phase⟩, ⟨7, .phase⟩, ⟨8, .phase⟩, ⟨9, .phase⟩, ⟨10, .phase⟩, ⟨11, .phase⟩, ⟨12, .phase⟩, ⟨13, .phase⟩, ⟨14, .phase⟩, ⟨15, .phase⟩, ⟨16, .phase⟩, ⟨17, .phase⟩], none⟩ ?_ 18 rfl ?_ ?_;rotate_left;·(intros;go_simp<;>with_reducible rfl)
    try simp only[Act.put,sqA,sqB,sqC]
    refine wpAnyH_done (by kernel_rfl) ?_ _
    go_wp2_with (fail)
    go_ret
    exact ⟨rfl, H6.out.low.trans HB10.out⟩
end Go.Proofs.YtfbiinnenlgkfaaGreatDoor
