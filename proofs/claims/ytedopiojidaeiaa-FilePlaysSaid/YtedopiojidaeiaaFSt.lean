/- One file system as a call's own: each of its calls takes it from what it is to what the chapter says. -/
import Derived.Test.YtedopiojidaeiaaFDoes
set_option linter.unusedSimpArgs false
set_option linter.unusedVariables false
namespace Go.Proofs.Ytedopiojidaeiaa
open Go.RowKit Go.Deep Go.Maps

/-- Files M lie at block b, in blocks that were laid since w₀; of what lay in w₀ nothing has turned. -/
def St (w₀ x : World) (b : Nat) (M : RS) : Prop := (∃ F, ProgAt w₀.heap.size x b M F) ∧ Bel w₀ x ∧ M.ok
section
variable {w₀ x y : World} {b : Nat} {M M' : RS} {F : List Nat}
theorem st_of_to (hP : ProgAt w₀.heap.size x b M F) (hB : Bel w₀ x) (hT : ProgTo w₀.heap.size x y b M' F) (hM : M'.ok) : St w₀ y b M' := by
  obtain ⟨G, h1, h2, h3⟩ := hT
  exact ⟨⟨G, h1⟩, ((Keep.of_bel hB F).trans h2 (fun x hx => Or.inl hx)).bel (fun k hk => (hP.within k hk).1), hM⟩
theorem St.bel (h : St w₀ x b M) (hb : Bel x y) : St w₀ y b M := by
  obtain ⟨⟨F, h1⟩, h2, h3⟩ := h
  exact ⟨⟨F, h1.bel hb⟩, h2.trans hb, h3⟩
theorem St.low (h : St w₀ x b M) : Bel w₀ x := h.2.1
theorem St.good (h : St w₀ x b M) : M.ok := h.2.2
theorem good_len (h : M.ok) : M.L.length ≤ 1000 := Nat.le_trans h.len (by omega)
theorem good_bytes (h : M.ok) : bytesN M.L ≤ 1000000000 := by have := h.fits; have := h.room; omega
theorem st_new (room : Int) (w : World) (h : 0 ≤ room ∧ room ≤ 10000000) :
    Calls Try.prog 6 #[.int .i64 room] w fun e w' => e = .returned (.tuple #[.pointer (some ⟨w.heap.size, 0, none⟩), .int .i64 0]) ∧ St w w' w.heap.size (newS room) :=
  (pnew_any room w h).mono fun e w' hq => ⟨hq.1, ⟨_, hq.2.1⟩, hq.2.2, new_ok room h⟩
theorem st_add (h : St w₀ x b M) (s u : ByteArray) (hs : s.size ≤ 1000000) (hu : u.size ≤ 1000000) :
    Calls Try.prog 9 #[.pointer (some ⟨b, 0, none⟩), .string s, .string u] x fun e y => e = .returned (.int .i64 (addS s.data.toList u.data.toList M).1) ∧ St w₀ y b (addS s.data.toList u.data.toList M).2 := by
  obtain ⟨⟨F, h1⟩, h2, h3⟩ := h
  exact (padd_any _ x b M F s u h1 hs hu h3.srt (good_len h3) (good_bytes h3) h3.room).mono fun e y hq => ⟨hq.1, st_of_to h1 h2 hq.2 (add_ok h3 _ _)⟩
theorem st_flush (h : St w₀ x b M) (s : ByteArray) (hs : s.size ≤ 1000000) :
    Calls Try.prog 14 #[.pointer (some ⟨b, 0, none⟩), .string s] x fun e y => e = .returned (.int .i64 (flushS s.data.toList M).1) ∧ St w₀ y b (flushS s.data.toList M).2 := by
  obtain ⟨⟨F, h1⟩, h2, h3⟩ := h
  exact (pflush_any _ x b M F s h1 (len_ok hs (by omega)) h3.srt (good_len h3)).mono fun e y hq => ⟨hq.1, st_of_to h1 h2 hq.2 (flush_ok h3 _)⟩
theorem st_drop (h : St w₀ x b M) (s : ByteArray) (hs : s.size ≤ 1000000) :
    Calls Try.prog 30 #[.pointer (some ⟨b, 0, none⟩), .string s] x fun e y => e = .returned (.int .i64 (dropS s.data.toList M).1) ∧ St w₀ y b (dropS s.data.toList M).2 := by
  obtain ⟨⟨F, h1⟩, h2, h3⟩ := h
  exact (pdrop_any _ x b M F s h1 (len_ok hs (by omega)) h3.srt (good_len h3)).mono fun e y hq => ⟨hq.1, st_of_to h1 h2 hq.2 (drop_ok h3 _)⟩
theorem st_move (h : St w₀ x b M) (s t : ByteArray) (hs : s.size ≤ 1000000) (ht : t.size ≤ 1000000) :
    Calls Try.prog 29 #[.pointer (some ⟨b, 0, none⟩), .string s, .string t] x fun e y => e = .returned (.int .i64 (moveS s.data.toList t.data.toList M).1) ∧ St w₀ y b (moveS s.data.toList t.data.toList M).2 := by
  obtain ⟨⟨F, h1⟩, h2, h3⟩ := h
  exact (pmove_any _ x b M F s t (len_ok ht (by omega)) h1 (len_ok hs (by omega)) h3.srt (good_len h3)).mono fun e y hq => ⟨hq.1, st_of_to h1 h2 hq.2 (move_ok h3 _ _)⟩
theorem st_get (h : St w₀ x b M) (s : ByteArray) (hs : s.size ≤ maxLen) :
    Calls Try.prog 16 #[.pointer (some ⟨b, 0, none⟩), .string s] x fun e y => e = .returned (.tuple #[.string ⟨(getS s.data.toList M).1.toArray⟩, .int .i64 (getS s.data.toList M).2]) ∧ St w₀ y b M ∧ Bel x y := by
  have h0 := h
  obtain ⟨⟨F, h1⟩, h2, h3⟩ := h
  exact (pget_any _ x b M F s h1 hs).mono fun e y hq => ⟨hq.1, h0.bel hq.2, hq.2⟩
theorem st_limit (h : St w₀ x b M) (t : Int) (ht : in64 t) :
    Calls Try.prog 17 #[.pointer (some ⟨b, 0, none⟩), .int .i64 t] x fun e y => (∃ u, e = .returned u) ∧ St w₀ y b (limS t M) := by
  obtain ⟨⟨F, h1⟩, h2, h3⟩ := h
  exact (plimit_any _ x b M F t h1 ht).mono fun e y hq => ⟨hq.1, st_of_to h1 h2 hq.2 (lim_ok h3 _ ht)⟩
theorem st_dead (h : St w₀ x b M) : Calls Try.prog 18 #[.pointer (some ⟨b, 0, none⟩)] x fun e y => e = .returned (.bool M.gone) ∧ St w₀ y b M ∧ Drw x y := by
  have h0 := h
  obtain ⟨⟨F, h1⟩, h2, h3⟩ := h
  exact (dead_any _ x b M F h1).mono fun e y hq => ⟨hq.1, h0.bel hq.2.bel, hq.2⟩
theorem st_used (h : St w₀ x b M) : Calls Try.prog 39 #[.pointer (some ⟨b, 0, none⟩)] x fun e y => e = .returned (.int .i64 (bytesN M.L : Nat)) ∧ St w₀ y b M ∧ Bel x y := by
  have h0 := h
  obtain ⟨⟨F, h1⟩, h2, h3⟩ := h
  exact (pused_any _ x b M F h1 h3.srt (good_bytes h3)).mono fun e y hq => ⟨hq.1, h0.bel hq.2, hq.2⟩
theorem st_names (h : St w₀ x b M) : Calls Try.prog 38 #[.pointer (some ⟨b, 0, none⟩)] x fun e y => ∃ v, e = .returned v ∧ OwnG strEl x.heap.size y v (M.L.map (·.name)) ∧ St w₀ y b M ∧ Bel x y := by
  have h0 := h
  obtain ⟨⟨F, h1⟩, h2, h3⟩ := h
  exact (pnames_any _ x b M F h1 h3.srt (good_len h3)).mono fun e y ⟨v, q1, q2, q3⟩ => ⟨v, q1, q2, h0.bel q3, q3⟩
/-- The lists lie where no file does: in what lay in w₀, or in what was laid since x. -/
theorem st_crash (h : St w₀ x b M) {z : World} (hb : Bel x z) (lf sp : SI) (hlf : SI.ok z lf) (hsp : SI.ok z sp) (nl : ∀ a, lf.p = some a → lf.L ≠ [] → a.block < w₀.heap.size ∨ x.heap.size ≤ a.block) (ns : ∀ a, sp.p = some a → sp.L ≠ [] → a.block < w₀.heap.size ∨ x.heap.size ≤ a.block) :
    Calls Try.prog 15 #[.pointer (some ⟨b, 0, none⟩), lf.val, sp.val] z fun e y => (∃ u, e = .returned u) ∧ St w₀ y b (crashS lf.L sp.L M) := by
  obtain ⟨⟨F, h1⟩, h2, h3⟩ := h
  have out : ∀ (s : SI), (∀ a, s.p = some a → s.L ≠ [] → a.block < w₀.heap.size ∨ x.heap.size ≤ a.block) → ∀ a, s.p = some a → s.L ≠ [] → a.block ∉ F := fun s hs a ha hne hm => by
    have hw := h1.within _ hm
    rcases hs a ha hne with h | h <;> omega
  exact (pcrash_any _ z b M F lf sp (h1.bel hb) h3.srt (good_len h3) (each_ok h3) hlf hsp (out lf nl) (out sp ns)).mono fun e y hq => ⟨hq.1, st_of_to (h1.bel hb) (h2.trans hb) hq.2 (crash_ok h3 _ _)⟩
theorem st_does (h : St w₀ x b M) (a : AV) (ha : AV.ok w₀ a) (hs : AV.small a = true) (hl : ∀ d, a.left.p = some d → a.left.L ≠ [] → d.block < w₀.heap.size) (hp : ∀ d, a.spoil.p = some d → a.spoil.L ≠ [] → d.block < w₀.heap.size) :
    Calls Try.prog 11 #[.pointer (some ⟨b, 0, none⟩), actV a] x fun e y => e = .returned (.tuple #[.string ⟨(doS a M).1.1.toArray⟩, .int .i64 (doS a M).1.2]) ∧ St w₀ y b (doS a M).2 := by
  obtain ⟨⟨F, h1⟩, h2, h3⟩ := h
  have ha' : AV.ok x a := ⟨ha.op, ha.n, ha.name, ha.to, ha.data, ha.left.bel h2, ha.spoil.bel h2⟩
  refine (does_any _ x b M F a h1 h3 ha' hs ⟨fun d h4 h5 hm => ?_, fun d h4 h5 hm => ?_⟩).mono fun e y hq => ⟨hq.1, st_of_to h1 h2 hq.2 (do_ok h3 ha)⟩
  · have := hl d h4 h5; have := (h1.within _ hm).1; omega
  · have := hp d h4 h5; have := (h1.within _ hm).1; omega
end
theorem ints_low {w : World} {s : SI} (h : SI.ok w s) : ∀ d, s.p = some d → s.L ≠ [] → d.block < w.heap.size := by
  intro d hd hne
  obtain ⟨a, ha, hc⟩ := h.1 0 (List.length_pos_iff.2 hne)
  obtain rfl : d = a := by rw [hd] at ha; simpa using ha
  have := block_lt_of_cell hc
  rwa [add_block] at this
def nilI : SI := ⟨none, 0, []⟩
theorem nilI_ok (w : World) : SI.ok w nilI := ⟨fun i hi => by simp [nilI] at hi, by simp [nilI], fun n hn => by simp [nilI] at hn⟩
theorem one_ok (x : World) (n : Int) (hn : in64 n) {B : Nat} {z : World} (hc : z.cell? ⟨B, 0, none⟩ = some (.int .i64 n)) : SI.ok z ⟨some ⟨B, 0, none⟩, 1, [n]⟩ := by
  refine ⟨fun i hi => ?_, by simp [maxLen], fun m hm => by simp at hm; subst hm; exact hn⟩
  simp at hi
  subst hi
  exact ⟨_, rfl, by rw [show (⟨B, 0, none⟩ : Addr).add 0 = ⟨B, 0, none⟩ from rfl]; exact hc⟩

set_option maxHeartbeats 4000000 in
theorem shown_any (w : World) : Calls Try.prog 4 #[] w fun e w' => e = .returned (.bool true) ∧ Bel w w' := by
  go_enter Try.func4, Try.ntmps4
  go_wp2_with (fail)
  refine (st_new 100 w (by omega)).mono ?_
  rintro e w1 ⟨rfl, h1⟩
  have H1 := Lib.hid h1; clear h1
  go_wp2_with (fail)
  refine (st_add H1.out ⟨#[97]⟩ ⟨#[120, 121]⟩ (by decide) (by decide)).mono ?_
  rintro e w2 ⟨rfl, h2⟩
  have e2 : addS (⟨#[97]⟩ : ByteArray).data.toList (⟨#[120, 121]⟩ : ByteArray).data.toList (newS 100) = (0, ⟨[⟨[97], [120, 121], 0⟩], 100, -1, false⟩) := by kernel_rfl
  rw [e2] at h2 ⊢
  have H2 := Lib.hid h2; clear h2 e2
  go_wp2_with (fail)
  refine (st_flush H2.out ⟨#[97]⟩ (by decide)).mono ?_
  rintro e w3 ⟨rfl, h3⟩
  have e3 : flushS (⟨#[97]⟩ : ByteArray).data.toList ⟨[⟨[97], [120, 121], 0⟩], 100, -1, false⟩ = (0, ⟨[⟨[97], [120, 121], 2⟩], 100, -1, false⟩) := by kernel_rfl
  rw [e3] at h3
  try rw [e3]
  have H3 := Lib.hid h3; clear h3 e3
  go_wp2_with (fail)
  refine (st_add H3.out ⟨#[97]⟩ ⟨#[122]⟩ (by decide) (by decide)).mono ?_
  rintro e w4 ⟨rfl, h4⟩
  have e4 : addS (⟨#[97]⟩ : ByteArray).data.toList (⟨#[122]⟩ : ByteArray).data.toList ⟨[⟨[97], [120, 121], 2⟩], 100, -1, false⟩ = (0, ⟨[⟨[97], [120, 121, 122], 2⟩], 100, -1, false⟩) := by kernel_rfl
  rw [e4] at h4
  try rw [e4]
  have H4 := Lib.hid h4; clear h4 e4
  go_wp2_with (fail)
  refine (st_crash H4.out ((Bel.refl w4).alloc _) ⟨some ⟨w4.heap.size, 0, none⟩, 1, [0]⟩ nilI (one_ok w4 0 ⟨by decide, by decide⟩ (by go_simp)) (nilI_ok _) (fun a ha _ => by simp at ha; subst ha; exact Or.inr (Nat.le_refl _)) (fun a ha => by cases ha)).mono ?_
  rintro e w5 ⟨⟨u5, rfl⟩, h5⟩
  have e5 : crashS [0] nilI.L ⟨[⟨[97], [120, 121, 122], 2⟩], 100, -1, false⟩ = ⟨[⟨[97], [120, 121], 2⟩], 100, -1, false⟩ := by kernel_rfl
  rw [e5] at h5
  have H5 := Lib.hid h5; clear h5 e5
  go_wp2_with (fail)
  refine (st_get H5.out ⟨#[97]⟩ (by decide)).mono ?_
  rintro e w6 ⟨rfl, h6, -⟩
  have e6 : getS (⟨#[97]⟩ : ByteArray).data.toList ⟨[⟨[97], [120, 121], 2⟩], 100, -1, false⟩ = ([120, 121], 0) := by kernel_rfl
  rw [e6]
  have H6 := Lib.hid h6; clear h6 e6
  go_wp2_with (fail)
  refine (st_limit H6.out 1 ⟨by decide, by decide⟩).mono ?_
  rintro e w7 ⟨⟨u7, rfl⟩, h7⟩
  have e7 : limS 1 ⟨[⟨[97], [120, 121], 2⟩], 100, -1, false⟩ = ⟨[⟨[97], [120, 121], 2⟩], 100, 1, false⟩ := by kernel_rfl
  rw [e7] at h7
  have H7 := Lib.hid h7; clear h7 e7
  go_wp2_with (fail)
  refine (st_add H7.out ⟨#[98]⟩ ⟨#[113]⟩ (by decide) (by decide)).mono ?_
  rintro e w8 ⟨rfl, h8⟩
  have e8 : addS (⟨#[98]⟩ : ByteArray).data.toList (⟨#[113]⟩ : ByteArray).data.toList ⟨[⟨[97], [120, 121], 2⟩], 100, 1, false⟩ = (0, ⟨[⟨[97], [120, 121], 2⟩, ⟨[98], [113], 0⟩], 100, 0, false⟩) := by kernel_rfl
  rw [e8] at h8
  try rw [e8]
  have H8 := Lib.hid h8; clear h8 e8
  go_wp2_with (fail)
  refine (st_add H8.out ⟨#[98]⟩ ⟨#[114]⟩ (by decide) (by decide)).mono ?_
  rintro e w9 ⟨rfl, h9⟩
  have e9 : addS (⟨#[98]⟩ : ByteArray).data.toList (⟨#[114]⟩ : ByteArray).data.toList ⟨[⟨[97], [120, 121], 2⟩, ⟨[98], [113], 0⟩], 100, 0, false⟩ = (7, ⟨[⟨[97], [120, 121], 2⟩, ⟨[98], [113], 0⟩], 100, 0, true⟩) := by kernel_rfl
  rw [e9] at h9
  try rw [e9]
  have H9 := Lib.hid h9; clear h9 e9
  go_wp2_with (fail)
  refine (st_dead H9.out).mono ?_
  rintro e w10 ⟨rfl, h10, -⟩
  have H10 := Lib.hid h10; clear h10
  go_wp2_with (fail)
  refine (st_crash H10.out (((Bel.refl w10).alloc _).alloc _) ⟨some ⟨w10.heap.size, 0, none⟩, 1, [1]⟩ ⟨some ⟨w10.heap.size + 1, 0, none⟩, 1, [1]⟩ (one_ok w10 1 ⟨by decide, by decide⟩ (by go_simp)) (one_ok w10 1 ⟨by decide, by decide⟩ (by go_simp)) (fun a ha _ => by simp at ha; subst ha; exact Or.inr (Nat.le_refl _)) (fun a ha _ => by simp at ha; subst ha; exact Or.inr (Nat.le_succ _))).mono ?_
  rintro e w11 ⟨⟨u11, rfl⟩, h11⟩
  have e11 : crashS [1] [1] ⟨[⟨[97], [120, 121], 2⟩, ⟨[98], [113], 0⟩], 100, 0, true⟩ = ⟨[⟨[97], [120, 121], 2⟩, ⟨[98], [112], 1⟩], 100, -1, false⟩ := by kernel_rfl
  rw [e11] at h11
  have H11 := Lib.hid h11; clear h11 e11
  go_wp2_with (fail)
  refine (st_get H11.out ⟨#[98]⟩ (by decide)).mono ?_
  rintro e w12 ⟨rfl, h12, -⟩
  have e12 : getS (⟨#[98]⟩ : ByteArray).data.toList ⟨[⟨[97], [120, 121], 2⟩, ⟨[98], [112], 1⟩], 100, -1, false⟩ = ([112], 0) := by kernel_rfl
  rw [e12]
  have H12 := Lib.hid h12; clear h12 e12
  go_wp2_with (fail)
  go_ret
  exact ⟨rfl, H12.out.low⟩
end Go.Proofs.Ytedopiojidaeiaa
