/- JWM, JLaw1, JLists, JBegin, JDoes, JInv, JHold2, JApp, JKeep, JModel, JAlike, laid together. -/
import Derived.Test.YtlmlcnbgdaiaeaaGreatDoorT22
import Derived.Test.YtlmlcnbgdaiaeaaGreatDoorT18
import Derived.Test.YtlmlcnbgdaiaeaaGreatDoorT24
import Derived.Test.YtlmlcnbgdaiaeaaGreatDoorT2
set_option linter.unusedSimpArgs false
set_option linter.unusedVariables false
/- The program's journal and the reference's in one world, and the laws' calls on them. -/
namespace Go.Proofs.YtlmlcnbgdaiaeaaGreatDoor
open Go.RowKit Go.Deep Go.Maps

def fresh (x y : World) (F : List Nat) : List Nat := (List.range y.heap.size).filter (fun k => decide (x.heap.size ≤ k ∧ k ∉ F))
theorem mem_fresh {x y : World} {F : List Nat} {k : Nat} : k ∈ fresh x y F ↔ x.heap.size ≤ k ∧ k < y.heap.size ∧ k ∉ F := by
  unfold fresh
  rw [List.mem_filter, List.mem_range, decide_eq_true_eq]
  constructor
  · rintro ⟨h1, h2, h3⟩; exact ⟨h2, h1, h3⟩
  · rintro ⟨h1, h2, h3⟩; exact ⟨h2, h1, h3⟩
section
variable {w x y z : World} {b r : Nat} {M M' M1 : RS} {R : List Nat} {F G F' G' : List Nat}
theorem tw_prog2 (hB : Bel w x) (hM' : M'.ok) (h1 : ProgAt w.heap.size x b M F) (h2 : RefP w.heap.size x r M' G) (h3 : ∀ k ∈ F, k ∉ G) (h4 : ∀ k ∈ R, k < x.heap.size ∧ k ∉ F ∧ k ∉ G)
    (k1 : ProgAt w.heap.size y b M1 F') (k2 : Keep F x y) (k3 : ∀ k ∈ F', k ∈ F ∨ x.heap.size ≤ k) (hM1 : M1.ok) : Tw w y b r M1 M' (fresh x y F' ++ R) ∧ KeepR R x y := by
  have hGlt : ∀ k ∈ G, k < x.heap.size := ref_lt h2
  refine ⟨⟨⟨F', G, k1, h2.keep k2 (fun k hk hm => h3 k hm hk), fun k hk hm => ?_, fun k hk => ?_⟩, ((Keep.of_bel hB F).trans k2 (fun x hx => Or.inl hx)).bel (fun k hk => (h1.within k hk).1), hM1, hM'⟩, fun k hk => k2.block k (h4 k hk).1 (h4 k hk).2.1⟩
  · rcases k3 k hk with h | h
    · exact h3 k h hm
    · have := hGlt k hm; omega
  · rcases List.mem_append.1 hk with hk | hk
    · obtain ⟨q1, q2, q3⟩ := mem_fresh.1 hk
      exact ⟨q2, q3, fun hm => by have := hGlt k hm; omega⟩
    · refine ⟨Nat.lt_of_lt_of_le (h4 k hk).1 k2.size, fun hm => ?_, (h4 k hk).2.2⟩
      rcases k3 k hm with h | h
      · exact (h4 k hk).2.1 h
      · have := (h4 k hk).1; omega
theorem tw_ref2 (hB : Bel w x) (hM : M.ok) (h1 : ProgAt w.heap.size x b M F) (h2 : RefP w.heap.size x r M' G) (h3 : ∀ k ∈ F, k ∉ G) (h4 : ∀ k ∈ R, k < x.heap.size ∧ k ∉ F ∧ k ∉ G)
    (k1 : RefP w.heap.size y r M1 G') (k2 : Keep G x y) (k3 : ∀ k ∈ G', k ∈ G ∨ x.heap.size ≤ k) (hM1 : M1.ok) : Tw w y b r M M1 (fresh x y G' ++ R) ∧ KeepR R x y := by
  have hGin : ∀ k ∈ G, w.heap.size ≤ k := by
    obtain ⟨v, -, -, -, g4⟩ := h2
    exact fun k hk => (g4 k hk).1
  refine ⟨⟨⟨F, G', h1.keep k2 h3, k1, fun k hk hm => ?_, fun k hk => ?_⟩, ((Keep.of_bel hB G).trans k2 (fun x hx => Or.inl hx)).bel hGin, hM, hM1⟩, fun k hk => k2.block k (h4 k hk).1 (h4 k hk).2.2⟩
  · rcases k3 k hm with h | h
    · exact h3 k hk h
    · have := (h1.within k hk).2; omega
  · rcases List.mem_append.1 hk with hk | hk
    · obtain ⟨q1, q2, q3⟩ := mem_fresh.1 hk
      exact ⟨q2, fun hm => by have := (h1.within k hm).2; omega, q3⟩
    · refine ⟨Nat.lt_of_lt_of_le (h4 k hk).1 k2.size, (h4 k hk).2.1, fun hm => ?_⟩
      rcases k3 k hm with h | h
      · exact (h4 k hk).2.2 h
      · have := (h4 k hk).1; omega
theorem Tw.grow (h : Tw w x b r M M' R) (hb : Bel x y) {S : List Nat} (hS : ∀ k ∈ S, x.heap.size ≤ k ∧ k < y.heap.size) : Tw w y b r M M' (S ++ R) := by
  obtain ⟨⟨F, G, h1, h2, h3, h4⟩, h5, h6, h7⟩ := h
  refine ⟨⟨F, G, h1.bel hb, h2.bel hb, h3, fun j hj => ?_⟩, h5.trans hb, h6, h7⟩
  rcases List.mem_append.1 hj with hj | hj
  · have hjs := hS j hj
    refine ⟨hjs.2, fun hm => ?_, fun hm => ?_⟩
    · have := (h1.within _ hm).2; omega
    · have := ref_lt h2 j hm; omega
  · exact ⟨Nat.lt_of_lt_of_le (h4 j hj).1 hb.size, (h4 j hj).2⟩
theorem Tw.lt (h : Tw w x b r M M' R) : ∀ k ∈ R, k < x.heap.size := by
  obtain ⟨⟨F, G, h1, h2, h3, h4⟩, h5, h6, h7⟩ := h
  exact fun k hk => (h4 k hk).1
theorem tw_open (h : Tw w x b r M M' R) (hs : Std w) (hz : Bel x z) (nm : ByteArray) (most : Int) (hnm : nm.size ≤ 100) (hr : M.room ≤ 1000000) {err : Int} {L : List (List (List UInt8))} (hj : jopen nm.data.toList M = (err, L, M1)) :
    Calls Tryz.prog 19 #[.pointer (some ⟨b, 0, none⟩), .string nm, .int .i64 most] z fun e y => ∃ jv p cap S, e = .returned (.tuple #[jv, .slice p L.length cap, .int .i64 err]) ∧ Tw w y b r M1 M' (S ++ R) ∧ KeepR R x y ∧ RowL (fun k => k ∈ S) y p L ∧
      (∀ k ∈ S, x.heap.size ≤ k) ∧ (err = 0 → ∃ jb, jv = .pointer (some ⟨jb, 0, none⟩) ∧ JAt y jb b nm most ∧ jb ∈ S) ∧ (err ≠ 0 → jv = .pointer none) := by
  have hkr := h.keepR hz
  obtain ⟨⟨F, G, h1, h2, h3, h4⟩, h5, h6, h7⟩ := h.bel hz
  refine (open_st hs h5 h1 h6 nm most hnm hr hj).mono ?_
  rintro e y ⟨jv, v, F', rfl, k1, k2, k3, hq, hbl, hok, hjb, hne⟩
  have ht := tw_prog2 h5 h7 h1 h2 h3 h4 k1 k2 k3 hok
  obtain ⟨p, cap, rfl, hrow⟩ := hq.own.row
  refine ⟨jv, p, cap, fresh z y F', rfl, ht.1, hkr.trans ht.2, hrow.mono (fun k hk => ?_), fun k hk => Nat.le_trans hz.size (mem_fresh.1 hk).1, fun he => ?_, hne⟩
  · rcases hk with hk | hk
    · exact mem_fresh.2 hk
    · exact mem_fresh.2 (hq.blk k hk)
  · obtain ⟨jb, q1, q2, q3⟩ := hjb he
    exact ⟨jb, q1, q2.j, mem_fresh.2 q3⟩
theorem tw_ropen (h : Tw w x b r M M' R) (hz : Bel x z) (nm : ByteArray) (most : Int) (hnm : nm.size ≤ 100) (hr : M'.room ≤ 1000000) {err : Int} {L : List (List (List UInt8))} (hj : jopen nm.data.toList M' = (err, L, M1)) :
    Calls Tryz.prog 20 #[.pointer (some ⟨r, 0, none⟩), .string nm, .int .i64 most] z fun e y => ∃ jv p cap S, e = .returned (.tuple #[jv, .slice p L.length cap, .int .i64 err]) ∧ Tw w y b r M M1 (S ++ R) ∧ KeepR R x y ∧ RowL (fun k => k ∈ S) y p L ∧
      (∀ k ∈ S, x.heap.size ≤ k) ∧ (err = 0 → ∃ jb, jv = .pointer (some ⟨jb, 0, none⟩) ∧ JAt y jb r nm most ∧ jb ∈ S) ∧ (err ≠ 0 → jv = .pointer none) := by
  have hkr := h.keepR hz
  obtain ⟨⟨F, G, h1, h2, h3, h4⟩, h5, h6, h7⟩ := h.bel hz
  refine (ropen_any _ z r M' G nm most h2 h7 hnm hr).mono ?_
  rintro e y ⟨jv, v, G', rfl, k1, k2, k3, hq, hjb, hne⟩
  have hok := jopen_ok nm.data.toList h7
  rw [hj] at k1 hq hjb hne hok ⊢
  have ht := tw_ref2 h5 h6 h1 h2 h3 h4 k1 k2 k3 hok
  obtain ⟨p, cap, rfl, hrow⟩ := hq.own.row
  refine ⟨jv, p, cap, fresh z y G', rfl, ht.1, hkr.trans ht.2, hrow.mono (fun k hk => ?_), fun k hk => Nat.le_trans hz.size (mem_fresh.1 hk).1, fun he => ?_, hne⟩
  · rcases hk with hk | hk
    · exact mem_fresh.2 hk
    · exact mem_fresh.2 (hq.blk k hk)
  · obtain ⟨jb, q1, q2, q3⟩ := hjb he
    exact ⟨jb, q1, q2, mem_fresh.2 q3⟩
end
structure LW (w x : World) (ws ms b r jb rb : Nat) (M M' : RS) (nm : ByteArray) (most : Int) (R : List Nat) : Prop where
  tw : Tw w x b r M M' (ws :: ms :: jb :: rb :: R)
  j : JAt x jb b nm most
  rj : JAt x rb r nm most
  sw : x.heap[ws]? = some (.cells #[.pointer (some ⟨b, 0, none⟩), .pointer (some ⟨jb, 0, none⟩), .int .i64 most] 58 (0, 0))
  sm : x.heap[ms]? = some (.cells #[.pointer (some ⟨r, 0, none⟩), .pointer (some ⟨rb, 0, none⟩), .int .i64 most] 60 (0, 0))
  new : w.heap.size ≤ ws ∧ w.heap.size ≤ ms
  apart : ws ≠ ms ∧ ws ≠ jb ∧ ws ≠ rb ∧ ms ≠ jb ∧ ms ≠ rb
  std : Std w
section
variable {w x y z : World} {ws ms b r jb rb : Nat} {M M' M1 : RS} {nm : ByteArray} {most : Int} {R R' : List Nat}
theorem LW.to (h : LW w x ws ms b r jb rb M M' nm most R) {M2 M2' : RS} (ht : Tw w y b r M2 M2' (ws :: ms :: jb :: rb :: R')) (hk : KeepR (ws :: ms :: jb :: rb :: R) x y) : LW w y ws ms b r jb rb M2 M2' nm most R' :=
  ⟨ht, h.j.keep (hk jb (by simp)), h.rj.keep (hk rb (by simp)), (hk ws (by simp)).trans h.sw, (hk ms (by simp)).trans h.sm, h.new, h.apart, h.std⟩
theorem LW.bel (h : LW w x ws ms b r jb rb M M' nm most R) (hb : Bel x y) : LW w y ws ms b r jb rb M M' nm most R := h.to (h.tw.bel hb) (h.tw.keepR hb)
theorem LW.less (h : LW w x ws ms b r jb rb M M' nm most R) (hR : ∀ k ∈ R', k ∈ R) : LW w x ws ms b r jb rb M M' nm most R' :=
  h.to (h.tw.less (fun k hk => by
    simp only [List.mem_cons] at hk ⊢
    rcases hk with h | h | h | h | h
    · exact Or.inl h
    · exact Or.inr (Or.inl h)
    · exact Or.inr (Or.inr (Or.inl h))
    · exact Or.inr (Or.inr (Or.inr (Or.inl h)))
    · exact Or.inr (Or.inr (Or.inr (Or.inr (hR k h)))))) (KeepR.refl _ _)
theorem LW.grow (h : LW w x ws ms b r jb rb M M' nm most R) (hb : Bel x y) {S : List Nat} (hS : ∀ k ∈ S, x.heap.size ≤ k ∧ k < y.heap.size) : LW w y ws ms b r jb rb M M' nm most (S ++ R) :=
  h.to ((h.tw.grow hb hS).less (fun k hk => by
    simp only [List.mem_cons, List.mem_append] at hk ⊢
    rcases hk with h | h | h | h | h | h <;> simp [h])) (h.tw.keepR hb)
theorem LW.alloc (h : LW w x ws ms b r jb rb M M' nm most R) (o : Obj) : LW w (x.alloc o) ws ms b r jb rb M M' nm most (x.heap.size :: R) :=
  h.grow (S := [x.heap.size]) ((Bel.refl x).alloc o) (fun k hk => by rw [List.mem_singleton] at hk; subst hk; simp)
theorem LW.cells (h : LW w x ws ms b r jb rb M M' nm most R) : x.cell? ⟨ws, 0, none⟩ = some (.pointer (some ⟨b, 0, none⟩)) ∧ x.cell? ⟨ws, 1, none⟩ = some (.pointer (some ⟨jb, 0, none⟩)) ∧ x.cell? ⟨ws, 2, none⟩ = some (.int .i64 most) ∧
    x.cell? ⟨ms, 0, none⟩ = some (.pointer (some ⟨r, 0, none⟩)) ∧ x.cell? ⟨ms, 1, none⟩ = some (.pointer (some ⟨rb, 0, none⟩)) ∧ x.cell? ⟨ms, 2, none⟩ = some (.int .i64 most) := by
  have h1 := h.sw
  have h2 := h.sm
  refine ⟨?_, ?_, ?_, ?_, ?_, ?_⟩ <;> simp [World.cell?, h1, h2]
theorem LW.low (h : LW w x ws ms b r jb rb M M' nm most R) : Bel w x := h.tw.low
theorem LW.prog (h : LW w x ws ms b r jb rb M M' nm most R) (hz : Bel x z) {fn : FuncId} {args : Array Value} {A : Ending → Prop} (hM1 : M1.ok)
    (hc : ∀ F, JS w.heap.size z b M F jb nm most → Calls Tryz.prog fn args z fun e y => A e ∧ ProgTo w.heap.size z y b M1 F) :
    Calls Tryz.prog fn args z fun e y => A e ∧ LW w y ws ms b r jb rb M1 M' nm most R ∧ KeepR R x y := by
  have hh := h.bel hz
  have hkr := h.tw.keepR hz
  obtain ⟨⟨F, G, h1, h2, h3, h4⟩, h5, h6, h7⟩ := hh.tw
  refine (hc F (js_of h.std h5 h1 h6 hh.j (h4 jb (by simp)).2.1)).mono ?_
  rintro e y ⟨ha, hT⟩
  have ht := tw_prog h5 h7 h1 h2 h3 h4 hT hM1
  have hk := hkr.trans ht.2
  exact ⟨ha, h.to ht.1 hk, fun k hk' => hk k (by simp [hk'])⟩
theorem LW.ref (h : LW w x ws ms b r jb rb M M' nm most R) (hz : Bel x z) {fn : FuncId} {args : Array Value} {A : Ending → Prop} (hM1 : M1.ok)
    (hc : ∀ G, RJS w.heap.size z r M' G rb nm most → Calls Tryz.prog fn args z fun e y => A e ∧ RefTo w.heap.size z y r M1 G) :
    Calls Tryz.prog fn args z fun e y => A e ∧ LW w y ws ms b r jb rb M M1 nm most R ∧ KeepR R x y := by
  have hh := h.bel hz
  have hkr := h.tw.keepR hz
  obtain ⟨⟨F, G, h1, h2, h3, h4⟩, h5, h6, h7⟩ := hh.tw
  refine (hc G ⟨h2, h7, hh.rj, (h4 rb (by simp)).2.2⟩).mono ?_
  rintro e y ⟨ha, hT⟩
  have ht := tw_ref h5 h6 h1 h2 h3 h4 hT hM1
  have hk := hkr.trans ht.2
  exact ⟨ha, h.to ht.1 hk, fun k hk' => hk k (by simp [hk'])⟩
theorem LW.look (h : LW w x ws ms b r jb rb M M' nm most R) (hz : Bel x z) {fn : FuncId} {args : Array Value} {A : Ending → World → Prop}
    (hc : ∀ F, JS w.heap.size z b M F jb nm most → Calls Tryz.prog fn args z fun e y => A e y ∧ Bel z y) :
    Calls Tryz.prog fn args z fun e y => A e y ∧ LW w y ws ms b r jb rb M M' nm most R ∧ Bel z y := by
  have hh := h.bel hz
  obtain ⟨⟨F, G, h1, h2, h3, h4⟩, h5, h6, h7⟩ := hh.tw
  refine (hc F (js_of h.std h5 h1 h6 hh.j (h4 jb (by simp)).2.1)).mono ?_
  rintro e y ⟨ha, hb⟩
  exact ⟨ha, h.bel (hz.trans hb), hb⟩
theorem LW.rlook (h : LW w x ws ms b r jb rb M M' nm most R) (hz : Bel x z) {fn : FuncId} {args : Array Value} {A : Ending → World → Prop}
    (hc : ∀ G, RJS w.heap.size z r M' G rb nm most → Calls Tryz.prog fn args z fun e y => A e y ∧ Bel z y) :
    Calls Tryz.prog fn args z fun e y => A e y ∧ LW w y ws ms b r jb rb M M' nm most R ∧ Bel z y := by
  have hh := h.bel hz
  obtain ⟨⟨F, G, h1, h2, h3, h4⟩, h5, h6, h7⟩ := hh.tw
  refine (hc G ⟨h2, h7, hh.rj, (h4 rb (by simp)).2.2⟩).mono ?_
  rintro e y ⟨ha, hb⟩
  exact ⟨ha, h.bel (hz.trans hb), hb⟩
theorem lw_turn (h : LW w x ws ms b r jb rb M M' nm most R) (hz : Bel x z) (hn : nm.size ≤ 100) (h9 : lastN nm.data.toList M.L < 9999999) :
    Calls Tryz.prog 25 #[.pointer (some ⟨jb, 0, none⟩)] z fun e y => e = .returned (.int .i64 (jturn nm.data.toList M).1) ∧ LW w y ws ms b r jb rb (jturn nm.data.toList M).2 M' nm most R ∧ KeepR R x y :=
  h.prog hz (jturn_ok h.tw.good _) fun F hF => jturn_any _ z b M F jb nm most hF hn h9
theorem lw_trim (h : LW w x ws ms b r jb rb M M' nm most R) (hz : Bel x z) (hn : nm.size ≤ 100) (before : Int) (hb : in64 before) :
    Calls Tryz.prog 27 #[.pointer (some ⟨jb, 0, none⟩), .int .i64 before] z fun e y => e = .returned (.int .i64 (jtrim nm.data.toList before M).1) ∧ LW w y ws ms b r jb rb (jtrim nm.data.toList before M).2 M' nm most R ∧ KeepR R x y :=
  h.prog hz (trim_ok _ _ _ h.tw.good) fun F hF => trim_any _ z b M F jb nm most before hF hn hb
theorem lw_limit (h : LW w x ws ms b r jb rb M M' nm most R) (hz : Bel x z) (t : Int) (ht : in64 t) :
    Calls Tryz.prog 21 #[.pointer (some ⟨b, 0, none⟩), .int .i64 t] z fun e y => (∃ u, e = .returned u) ∧ LW w y ws ms b r jb rb (limS t M) M' nm most R ∧ KeepR R x y :=
  h.prog hz (lim_ok h.tw.good t ht) fun F hF => plimit_any _ z b M F t hF.prog ht
theorem lw_crash (h : LW w x ws ms b r jb rb M M' nm most R) (hz : Bel x z) (lf sp : SI) (hl : SI.ok w lf) (hs : SI.ok w sp) :
    Calls Tryz.prog 24 #[.pointer (some ⟨b, 0, none⟩), lf.val, sp.val] z fun e y => (∃ u, e = .returned u) ∧ LW w y ws ms b r jb rb (crashS lf.L sp.L M) M' nm most R ∧ KeepR R x y :=
  h.prog hz (crash_ok h.tw.good _ _) fun F hF => pcrash_any _ z b M F lf sp hF.prog h.tw.good.srt (good_len h.tw.good) (each_ok h.tw.good) (hl.bel (h.low.trans hz)) (hs.bel (h.low.trans hz))
    (fun a ha hne hm => by have := ints_low hl a ha hne; have := (hF.prog.within _ hm).1; omega) (fun a ha hne hm => by have := ints_low hs a ha hne; have := (hF.prog.within _ hm).1; omega)
theorem lw_write (h : LW w x ws ms b r jb rb M M' nm most R) (hz : Bel x z) (hn : nm.size ≤ 100) (lp : Option Addr) (lc : Nat) (L : List (List UInt8)) (h0 : lastN nm.data.toList M.L ≠ 0) (h9 : lastN nm.data.toList M.L < 9999999) (hmost : in64 most)
    (hl : StrsAt w lp L) (hL : L.length ≤ maxLen) (ht : ∀ t ∈ L, t.length ≤ 1000000) :
    Calls Tryz.prog 23 #[.pointer (some ⟨jb, 0, none⟩), .slice lp L.length lc] z fun e y => e = .returned (.int .i64 (jwrite nm.data.toList most L M).1) ∧ LW w y ws ms b r jb rb (jwrite nm.data.toList most L M).2 M' nm most R ∧ KeepR R x y :=
  h.prog hz (jwrite_ok h.tw.good _ _ _) fun F hF => write_any _ z b M F jb nm most lp lc L hF hn h0 h9 hmost (hl.bel (h.low.trans hz)) hL ht
theorem lw_num (h : LW w x ws ms b r jb rb M M' nm most R) (hz : Bel x z) (hn : nm.size ≤ 100) :
    Calls Tryz.prog 26 #[.pointer (some ⟨jb, 0, none⟩)] z fun e y => e = .returned (.int .i64 (lastN nm.data.toList M.L : Nat)) ∧ LW w y ws ms b r jb rb M M' nm most R ∧ Bel z y :=
  h.look hz (A := fun e y => e = .returned (.int .i64 (lastN nm.data.toList M.L : Nat))) fun F hF => num_any _ z jb b nm most M F hF.prog hF.ok hF.j hn hF.std0
theorem lw_rnum (h : LW w x ws ms b r jb rb M M' nm most R) (hz : Bel x z) (hn : nm.size ≤ 100) :
    Calls Tryz.prog 41 #[.pointer (some ⟨rb, 0, none⟩)] z fun e y => e = .returned (.int .i64 (lastN nm.data.toList M'.L : Nat)) ∧ LW w y ws ms b r jb rb M M' nm most R ∧ Bel z y :=
  h.rlook hz (A := fun e y => e = .returned (.int .i64 (lastN nm.data.toList M'.L : Nat))) fun G hG => rnum_any _ z rb r nm most M' G hG.ref hG.ok hG.j hn
theorem lw_segs (h : LW w x ws ms b r jb rb M M' nm most R) (hz : Bel x z) (hn : nm.size ≤ 100) :
    Calls Tryz.prog 29 #[.pointer (some ⟨jb, 0, none⟩)] z fun e y => (∃ v, e = .returned v ∧ OwnG intEl z.heap.size y v ((segsL nm.data.toList M.L).map fun n : Nat => (n : Int))) ∧ LW w y ws ms b r jb rb M M' nm most R ∧ Bel z y :=
  h.look hz (A := fun e y => ∃ v, e = .returned v ∧ OwnG intEl z.heap.size y v ((segsL nm.data.toList M.L).map fun n : Nat => (n : Int))) fun F hF => (segs_any _ z jb b nm most M F hF.prog hF.ok hF.j hn hF.std0).mono fun e y ⟨v, h1, h2, h3⟩ => ⟨⟨v, h1, h2⟩, h3⟩
theorem lw_rsegs (h : LW w x ws ms b r jb rb M M' nm most R) (hz : Bel x z) (hn : nm.size ≤ 100) :
    Calls Tryz.prog 42 #[.pointer (some ⟨rb, 0, none⟩)] z fun e y => (∃ v, e = .returned v ∧ OwnG intEl z.heap.size y v ((segsL nm.data.toList M'.L).map fun n : Nat => (n : Int))) ∧ LW w y ws ms b r jb rb M M' nm most R ∧ Bel z y :=
  h.rlook hz (A := fun e y => ∃ v, e = .returned v ∧ OwnG intEl z.heap.size y v ((segsL nm.data.toList M'.L).map fun n : Nat => (n : Int))) fun G hG => (rsegs_any _ z rb r nm most M' G hG.ref hG.ok hG.j hn).mono fun e y ⟨v, h1, h2, h3⟩ => ⟨⟨v, h1, h2⟩, h3⟩
theorem lw_dead (h : LW w x ws ms b r jb rb M M' nm most R) (hz : Bel x z) :
    Calls Tryz.prog 22 #[.pointer (some ⟨b, 0, none⟩)] z fun e y => e = .returned (.bool M.gone) ∧ LW w y ws ms b r jb rb M M' nm most R ∧ Bel z y :=
  h.look hz (A := fun e y => e = .returned (.bool M.gone)) fun F hF => (dead_any _ z b M F hF.prog).mono fun e y ⟨h1, h2⟩ => ⟨h1, h2.bel⟩
end
end Go.Proofs.YtlmlcnbgdaiaeaaGreatDoor
/- moultlaw7.JournalBatches, JournalBack. -/
namespace Go.Proofs.YtlmlcnbgdaiaeaaGreatDoor
open Go.RowKit Go.Deep Go.Maps

theorem lit_act (W : World) (lp : Option Addr) (lc : Nat) (L : List (List UInt8)) (h : StrsAt W lp L) (hl : L.length ≤ maxLen) (he : ∀ t ∈ L, t.length ≤ maxLen) :
    JActs (W.alloc (.cells #[.int .i64 0, .int .i64 0, .slice lp L.length lc, .slice none 0 0, .slice none 0 0] 37)) (some ⟨W.heap.size, 0, none⟩) [⟨0, 0, lp, lc, L, nilI, nilI⟩] := by
  intro i hi
  have hi0 : i = 0 := by simp at hi; exact hi
  subst hi0
  refine ⟨W.heap.size, 0, none, rfl, fun j u hj => ?_, ⟨(show in64 (0 : Int) from ⟨by decide, by decide⟩), (show in64 (0 : Int) from ⟨by decide, by decide⟩), h.bel ((Bel.refl W).alloc _), hl, he, nilI_ok _, nilI_ok _⟩⟩
  have e : (⟨W.heap.size, 0, none⟩ : Addr).add j = ⟨W.heap.size, j, none⟩ := by cases j <;> simp [Addr.add]
  rw [e]
  have e2 : (W.alloc (.cells #[.int .i64 0, .int .i64 0, .slice lp L.length lc, .slice none 0 0, .slice none 0 0] 37)).cell? ⟨W.heap.size, j, none⟩ = (#[.int .i64 0, .int .i64 0, .slice lp L.length lc, .slice none 0 0, .slice none 0 0] : Array Value)[j]? := World.cell?_alloc_new ..
  rw [e2]
  match j, hj with
  | 0, hj => exact hj
  | 1, hj => exact hj
  | 2, hj => exact hj
  | 3, hj => exact hj
  | 4, hj => exact hj
  | j + 5, hj => simp [JV.cells] at hj
theorem small_one (lp : Option Addr) (lc : Nat) (L : List (List UInt8)) : jsmallB [⟨0, 0, lp, lc, L, nilI, nilI⟩] = (decide (L.length ≤ 60) && strsB L) := by
  simp [jsmallB, JV.small, nilI]
theorem strsB_le {L : List (List UInt8)} (h : strsB L = true) : ∀ t ∈ L, t.length ≤ 900 := fun t ht => by
  unfold strsB at h
  rw [List.all_eq_true] at h
  simpa using h t ht
end Go.Proofs.YtlmlcnbgdaiaeaaGreatDoor
/- Slices of slices of texts, and of bools, that came in; a list of such slices that a law makes. -/
namespace Go.Proofs.YtlmlcnbgdaiaeaaGreatDoor
open Go.RowKit Go.Deep Go.Maps

structure LV where
  p : Option Addr
  cap : Nat
  l : List (List UInt8)
def LV.val (v : LV) : Value := .slice v.p v.l.length v.cap
def LV.ok (w : World) (v : LV) : Prop := StrsAt w v.p v.l ∧ v.l.length ≤ maxLen ∧ ∀ t ∈ v.l, t.length ≤ maxLen
theorem LV.ok.bel {w x : World} {v : LV} (h : LV.ok w v) (hb : Bel w x) : LV.ok x v := ⟨h.1.bel hb, h.2⟩
def LvsAt (w : World) (p : Option Addr) (L : List LV) : Prop := ∀ i (h : i < L.length), ∃ a, p = some a ∧ w.cell? (a.add i) = some L[i].val ∧ LV.ok w L[i]
theorem LvsAt.bel {w x : World} {p : Option Addr} {L : List LV} (h : LvsAt w p L) (hb : Bel w x) : LvsAt x p L := fun i hi => by
  obtain ⟨a, h1, h2, h3⟩ := h i hi
  exact ⟨a, h1, cell_later hb h2, h3.bel hb⟩
def BoolsAt (w : World) (p : Option Addr) (L : List Bool) : Prop := ∀ i (h : i < L.length), ∃ a, p = some a ∧ w.cell? (a.add i) = some (.bool L[i])
theorem BoolsAt.bel {w x : World} {p : Option Addr} {L : List Bool} (h : BoolsAt w p L) (hb : Bel w x) : BoolsAt x p L := fun i hi => by
  obtain ⟨a, h1, h2⟩ := h i hi
  exact ⟨a, h1, cell_later hb h2⟩
def lvEl : El LV := ⟨34, 30, 1, fun v => [v.val]⟩
theorem lvOk : ElOk lvEl 24 := ⟨fun _ => rfl, fun a u hu => by simp [lvEl] at hu; subst hu; rfl, by kernel_rfl, ⟨.slice none 0 0, by kernel_rfl, rfl⟩, by decide⟩
theorem lv_row {w x : World} {B : Nat} {v : Value} {L : List LV} (h : OwnG lvEl B x v L) (hok : ∀ s ∈ L, LV.ok w s) (hb : Bel w x) : ∃ p cap, v = .slice p L.length cap ∧ RowL (fun _ => True) x p (L.map (·.l)) := by
  by_cases hne : L = []
  · subst hne
    obtain ⟨p, cap, hv⟩ := ownG_len h
    exact ⟨p, cap, hv, [], rfl, fun i s hs => by simp at hs, fun i s l hs => by simp at hs⟩
  · obtain ⟨g, cap, rfl, _, _, _, hcs⟩ := ownG_cells lvOk h hne
    refine ⟨_, cap, rfl, L.map (fun s => ⟨s.p, s.l.length, s.cap⟩), by simp, fun i s hs => ?_, fun i s l hs hl => ?_⟩
    · rw [List.getElem?_map] at hs
      cases hL : L[i]? with
      | none => rw [hL] at hs; cases hs
      | some u =>
        rw [hL] at hs
        simp only [Option.map_some, Option.some.injEq] at hs
        subst hs
        have := hcs i u hL 0 _ rfl
        have e : (⟨g, 0, none⟩ : Addr).add i = ⟨g, i, none⟩ := by cases i <;> simp [Addr.add]
        exact ⟨_, rfl, trivial, by rw [e]; simpa [lvEl, LV.val, SL.val] using this⟩
    · rw [List.getElem?_map] at hs hl
      cases hL : L[i]? with
      | none => rw [hL] at hs; cases hs
      | some u =>
        rw [hL] at hs hl
        simp only [Option.map_some, Option.some.injEq] at hs hl
        subst hs hl
        exact ⟨rfl, (hok u (List.mem_of_getElem? hL)).1.bel hb, fun _ _ _ => trivial⟩
theorem RowL.drop {P : Nat → Prop} {x : World} {a : Addr} {L : List (List (List UInt8))} (h : RowL P x (some a) L) (k : Nat) : RowL P x (some (a.add k)) (L.drop k) := by
  obtain ⟨H, h1, h2, h3⟩ := h.ex
  refine ⟨H.drop k, by simp [h1], fun i s hs => ?_, fun i s l hs hl => ?_⟩
  · rw [List.getElem?_drop] at hs
    obtain ⟨a', ha, hP, hc⟩ := h2 _ s hs
    simp only [Option.some.injEq] at ha
    subst ha
    refine ⟨_, rfl, by rw [add_block]; exact hP, ?_⟩
    have e : (a.add k).add i = a.add (k + i) := by
      cases k with
      | zero => rw [Nat.zero_add]; rfl
      | succ k => cases i <;> simp [Addr.add, Nat.add_assoc]
    rw [e]; exact hc
  · rw [List.getElem?_drop] at hs hl
    exact h3 _ s l hs hl
section
variable {w x y z : World} {ws ms b r jb rb : Nat} {M M' M1 : RS} {nm : ByteArray} {most : Int} {R R' : List Nat}
theorem Tw.other2 (h : Tw w x b r M M' R) {K S : List Nat} (hk : Keep K x y) (hK : ∀ k ∈ K, w.heap.size ≤ k ∧ k ∈ R) (hS : ∀ k ∈ S, x.heap.size ≤ k ∧ k < y.heap.size) : Tw w y b r M M' (S ++ R) ∧ (∀ k ∈ R, k ∉ K → y.heap[k]? = x.heap[k]?) := by
  obtain ⟨⟨F, G, h1, h2, h3, h4⟩, h5, h6, h7⟩ := h
  refine ⟨⟨⟨F, G, h1.keep hk (fun k hkF hm => (h4 k (hK k hm).2).2.1 hkF), h2.keep hk (fun k hkG hm => (h4 k (hK k hm).2).2.2 hkG), h3, fun k hk' => ?_⟩,
    ((Keep.of_bel h5 K).trans hk (fun x hx => Or.inl hx)).bel (fun k hk' => (hK k hk').1), h6, h7⟩, fun k hk' hn => hk.block k (h4 k hk').1 hn⟩
  rcases List.mem_append.1 hk' with hk' | hk'
  · have hs := hS k hk'
    exact ⟨hs.2, fun hm => by have := (h1.within k hm).2; omega, fun hm => by have := ref_lt h2 k hm; omega⟩
  · exact ⟨Nat.lt_of_lt_of_le (h4 k hk').1 hk.size, (h4 k hk').2⟩
theorem LW.other2 (h : LW w x ws ms b r jb rb M M' nm most R) {K S : List Nat} (hk : Keep K x y) (hK : ∀ k ∈ K, w.heap.size ≤ k ∧ k ∈ R ∧ k ≠ ws ∧ k ≠ ms ∧ k ≠ jb ∧ k ≠ rb) (hS : ∀ k ∈ S, x.heap.size ≤ k ∧ k < y.heap.size) :
    LW w y ws ms b r jb rb M M' nm most (S ++ R) ∧ (∀ k ∈ R, k ∉ K → y.heap[k]? = x.heap[k]?) := by
  obtain ⟨h1, h2⟩ := h.tw.other2 hk (fun k hk' => ⟨(hK k hk').1, by simp [(hK k hk').2.1]⟩) hS
  have hn : ∀ k, k = ws ∨ k = ms ∨ k = jb ∨ k = rb → k ∉ K := fun k hk' hm => by
    have := (hK k hm).2.2
    omega
  refine ⟨⟨h1.less (fun k hk => ?_), h.j.keep (h2 jb (by simp) (hn jb (by simp))), h.rj.keep (h2 rb (by simp) (hn rb (by simp))), (h2 ws (by simp) (hn ws (by simp))).trans h.sw, (h2 ms (by simp) (hn ms (by simp))).trans h.sm, h.new, h.apart, h.std⟩, fun k hk' hn' => h2 k (by simp [hk']) hn'⟩
  simp only [List.mem_cons, List.mem_append] at hk ⊢
  rcases hk with h | h | h | h | h | h <;> simp [h]
theorem ownG_block {α : Type} {E : El α} {B : Nat} {v : Value} {L : List α} (h : OwnG E B x v L) (hk : ∀ k, v.ownBlock = some k → y.heap[k]? = x.heap[k]?) : OwnG E B y v L := by
  rcases h.2 with h2 | ⟨g, cap, cur, rfl, h2⟩
  · exact ⟨h.1, Or.inl h2⟩
  · have e := hk g rfl
    refine ⟨h.1, Or.inr ⟨g, cap, cur, rfl, h2.1, ?_, h2.2.2⟩⟩
    rw [e]; exact h2.2.1
end
end Go.Proofs.YtlmlcnbgdaiaeaaGreatDoor
/- moultlaw7's begin. -/
namespace Go.Proofs.YtlmlcnbgdaiaeaaGreatDoor
open Go.RowKit Go.Deep Go.Maps

def logB : ByteArray := ⟨#[108, 111, 103]⟩
theorem logB_list : logB.data.toList = logP := rfl
def bgM (room : Int) : RS := ⟨[⟨fl1, [], 0⟩], room, -1, false⟩
theorem bg_turn (room : Int) (h : 0 ≤ room) : addS fl1 [] (newS room) = (0, bgM room) := by
  have ha : admS fl1 ([] : List UInt8).length (newS room) = 0 := by
    unfold admS
    rw [if_neg (by simp [newS]), if_neg (by decide), if_neg (by simp [newS]), if_neg]
    show ¬ room < ((bytesN [] : Nat) : Int) + ((0 : Nat) : Int)
    simp [bytesN]; omega
  unfold addS
  rw [if_pos ha]
  rfl
theorem bg_open (room : Int) (h : 0 ≤ room) : jopen logB.data.toList (newS room) = (0, [], bgM room) := by
  rw [logB_list]
  unfold jopen
  rw [if_neg (by decide), if_neg (by simp [newS]), if_pos (by rfl)]
  have : jturn logP (newS room) = (0, bgM room) := by
    unfold jturn
    rw [show lastN logP (newS room).L + 1 = 1 from rfl, file1]
    exact bg_turn room h
  rw [this]
theorem heap_alloc2 (x : World) (o o' : Obj) : ((x.alloc o).alloc o').heap[x.heap.size]? = some o :=
  (Below.block ((Bel.refl (x.alloc o)).alloc o') x.heap.size (by simp)).trans (heap_alloc_new x o)
set_option maxHeartbeats 4000000 in
theorem jbegin_any (w w0 : World) (hs : Std w) (hB : Bel w w0) (room most : Int) (hr : 0 ≤ room ∧ room ≤ 1000000) :
    Calls Tryz.prog 9 #[.int .i64 room, .int .i64 most] w0 fun e y => ∃ ws ms b r jb rb, e = .returned (.tuple #[.pointer (some ⟨ws, 0, none⟩), .pointer (some ⟨ms, 0, none⟩), .bool true]) ∧
      LW w y ws ms b r jb rb (bgM room) (bgM room) logB most [] := by
  have HS := Lib.hid hs
  have HB := Lib.hid hB
  have HR := Lib.hid hr
  have HJ := Lib.hid (bg_open room hr.1)
  clear hs hB hr
  go_enter Tryz.func9, Tryz.ntmps9
  go_wp2_with (fail)
  refine (pnew_any room w0 ⟨HR.out.1, by have := HR.out.2; omega⟩).mono ?_
  rintro e w3 ⟨rfl, h3, hb3⟩
  obtain ⟨b, hb⟩ : ∃ b, b = w0.heap.size := ⟨_, rfl⟩
  have HBE := Lib.hid hb
  rw [← hb] at h3 ⊢
  have H3 := Lib.hid (show ProgAt w0.heap.size w3 b (newS room) [b] by rw [← hb]; exact h3)
  have HB3 := Lib.hid hb3
  clear h3 hb3 hb
  go_wp2_with (fail)
  refine (rnew_ref room w3 ⟨HR.out.1, by have := HR.out.2; omega⟩).mono ?_
  rintro e w4 ⟨rfl, h4, hb4⟩
  obtain ⟨r, hr⟩ : ∃ r, r = w3.heap.size := ⟨_, rfl⟩
  have H4 := Lib.hid (show Tw w w4 b r (newS room) (newS room) [] from tw_begin room ⟨HR.out.1, by have := HR.out.2; omega⟩ HB.out HBE.out H3.out HB3.out hr (by rw [hr]; exact h4) hb4)
  rw [← hr]
  clear hr h4 hb4
  go_wp2_with (fail)
  refine (tw_open H4.out HS.out (Bel.refl _) logB most (by decide) HR.out.2 HJ.out).mono ?_
  rintro e w5 ⟨jv, p, cap, S, rfl, h5, -, -, hS, hj, -⟩
  obtain ⟨jb, rfl, hja, hjs⟩ := hj rfl
  have H5 := Lib.hid h5
  have HJA := Lib.hid hja
  have HJS := Lib.hid hjs
  clear h5 hj hja hjs hS
  go_wp2_with (fail)
  refine (tw_ropen H5.out (Bel.refl _) logB most (by decide) HR.out.2 HJ.out).mono ?_
  rintro e w6 ⟨jv2, p2, cap2, S2, rfl, h6, hk6, -, hS2, hj, -⟩
  obtain ⟨rb, rfl, hra, hrs⟩ := hj rfl
  have H6 := Lib.hid h6
  have HJ6 := Lib.hid (HJA.out.keep (hk6 jb (by simp [HJS.out])))
  have HRA := Lib.hid hra
  have HRS := Lib.hid hrs
  have HRJ := Lib.hid (show jb ≠ rb by
    have h1 := H5.out.lt jb (by simp [HJS.out])
    have h2 := hS2 rb hrs
    omega)
  clear h6 hk6 hj hra hrs hS2
  go_wp2_with (fail)
  go_ret3
  have hl := H6.out.lt
  have hjl := hl jb (by simp [HJS.out])
  have hrl := hl rb (by simp [HRS.out])
  have hsz : ∀ o, (w6.alloc o).heap.size = w6.heap.size + 1 := fun o => by simp
  refine ⟨w6.heap.size, w6.heap.size + 1, b, r, jb, rb, rfl, ⟨?_, ?_, ?_, heap_alloc2 _ _ _, ?_, ?_, ?_, HS.out⟩⟩
  · refine ((H6.out.alloc _).alloc _).less (fun k hk => ?_)
    simp only [List.mem_cons, List.not_mem_nil, or_false] at hk
    simp only [List.mem_cons, List.mem_append, hsz]
    rcases hk with h | h | h | h
    · exact Or.inr (Or.inl h)
    · exact Or.inl h
    · subst h; exact Or.inr (Or.inr (Or.inr (Or.inl HJS.out)))
    · subst h; exact Or.inr (Or.inr (Or.inl HRS.out))
  · exact HJ6.out.bel (((Bel.refl w6).alloc _).alloc _)
  · exact HRA.out.bel (((Bel.refl w6).alloc _).alloc _)
  · have := heap_alloc_new (w6.alloc (.cells #[.pointer (some ⟨b, 0, none⟩), .pointer (some ⟨jb, 0, none⟩), .int .i64 most] 58)) (.cells #[.pointer (some ⟨r, 0, none⟩), .pointer (some ⟨rb, 0, none⟩), .int .i64 most] 60)
    rw [hsz] at this
    exact this
  · have := H6.out.low.size
    omega
  · have := HRJ.out
    omega
end Go.Proofs.YtlmlcnbgdaiaeaaGreatDoor
/- moultlaw7's World.does. -/
namespace Go.Proofs.YtlmlcnbgdaiaeaaGreatDoor
open Go.RowKit Go.Deep Go.Maps

def doJ (p : List UInt8) (most : Int) (a : JV) (M : RS) : Int × List (List (List UInt8)) × RS :=
  if pickN a.op 10 = 6 then ((jturn p M).1, [], (jturn p M).2)
  else if pickN a.op 10 = 7 then ((jtrim p a.n M).1, [], (jtrim p a.n M).2)
  else if pickN a.op 10 = 8 then (0, [], limS (pickN a.n 20 : Nat) M)
  else if pickN a.op 10 = 9 then jopen p (crashS a.left.L a.spoil.L M)
  else ((jwrite p most a.bl M).1, [], (jwrite p most a.bl M).2)
theorem cell_at {x : World} {k i : Nat} {cs : Array Value} {T : TypeId} {fr : Nat × Nat} (h : x.heap[k]? = some (.cells cs T fr)) : x.cell? ⟨k, i, none⟩ = cs[i]? := by simp [World.cell?, h]
theorem JV.ok.more {w x : World} {v : JV} (h : JV.ok w v) (hb : Bel w x) : JV.ok x v := h.bel hb
theorem jpick_ok (c : Int) (n : Nat) (w : World) (hc : in64 c) (hn : 0 < n) (hn2 : n ≤ 1000000) : in64 (pickN c n : Nat) := by
  have := pickN_lt c hn
  exact ⟨by omega, by omega⟩
end Go.Proofs.YtlmlcnbgdaiaeaaGreatDoor
/- Mathematics: what the acts of layer 7's laws leave as it was; no program. -/
namespace Go.Proofs.YtlmlcnbgdaiaeaaGreatDoor
open Go.RowKit Go.Deep Go.Maps

theorem on_room (nm : List UInt8) (M : RS) (k : FI → Int × RS) (hk : ∀ y, (k y).2.room = M.room) : (onS nm M k).2.room = M.room := by
  unfold onS
  split
  · rfl
  · cases getF nm M.L with
    | none => rfl
    | some y => exact hk y
theorem flush_room (M : RS) (nm : List UInt8) : (flushS nm M).2.room = M.room := on_room nm M _ fun y => chg_room M _
theorem drop_room (M : RS) (nm : List UInt8) : (dropS nm M).2.room = M.room := on_room nm M _ fun y => chg_room M _
theorem cut_room (M : RS) (nm : List UInt8) (n : Int) : (cutS nm n M).2.room = M.room := on_room nm M _ fun y => by
  split
  · rfl
  · exact chg_room M _
theorem mend_room (M : RS) (nm : List UInt8) (n : Int) : (mendS nm n M).2.room = M.room := by
  unfold mendS
  split
  · exact cut_room M nm n
  · rw [flush_room, cut_room]
theorem jturn_room (p : List UInt8) (M : RS) : (jturn p M).2.room = M.room := add_room M _ _
theorem jput_room (nm t : List UInt8) (M : RS) : (jput nm t M).2.room = M.room := by
  unfold jput
  split
  · exact add_room M _ _
  · rw [flush_room, add_room]
theorem jroom_room (p : List UInt8) (most : Int) (M : RS) : (jroom p most M).2.room = M.room := by
  unfold jroom; split; exact jturn_room p M; rfl
theorem jwrite_room (p : List UInt8) (most : Int) (l : List (List UInt8)) (M : RS) : (jwrite p most l M).2.room = M.room := by
  unfold jwrite
  split
  · rfl
  · split
    · rfl
    · split
      · exact jroom_room p most M
      · rw [jput_room, jroom_room]
theorem trim_room (p : List UInt8) (before : Int) : ∀ (l : List Nat) (M : RS), (trimL p before l M).2.room = M.room
  | [], M => rfl
  | [_], M => rfl
  | n :: m :: r, M => by
    simp only [trimL]
    split
    · split
      · rw [trim_room p before (m :: r), drop_room]
      · exact drop_room M _
    · rfl
theorem readsegs_room (p : List UInt8) : ∀ (l : List Nat) (M : RS), (readSegs p l M).2.2.room = M.room
  | [], M => rfl
  | n :: r, M => by
    have ih := readsegs_room p r M
    simp only [readSegs]
    split
    · split
      · exact ih
      · exact ih
    · split
      · rfl
      · split
        · exact mend_room M _ _
        · exact mend_room M _ _
theorem jopen_room (p : List UInt8) (M : RS) : (jopen p M).2.2.room = M.room := by
  unfold jopen
  split
  · rfl
  · split
    · rfl
    · split
      · exact jturn_room p M
      · exact readsegs_room p _ M
theorem read_each : ∀ (n : Nat) (s : List UInt8), s.length ≤ n → ∀ l ∈ (readL s).1, l.length ≤ 50
  | n, s, hn => by
    by_cases hs : s = []
    · subst hs; rw [read_nil]; intro l hl; cases hl
    obtain ⟨l, r, e, hF⟩ : ∃ l r e, firstL s = (l, r, e) := ⟨_, _, _, rfl⟩
    by_cases he : e = 0
    · subst he
      obtain ⟨t, -, hu, hlt⟩ := first_rest hF
      rw [read_next hF]
      cases n with
      | zero => omega
      | succ n =>
        intro m hm
        rcases List.mem_cons.1 hm with rfl | hm
        · exact (unb_back hu).2
        · exact read_each n r (by omega) m hm
    · rw [read_end hs hF he]; intro l hl; cases hl
theorem readsegs_each (p : List UInt8) : ∀ (l : List Nat) (M : RS), ∀ b ∈ (readSegs p l M).2.1, b.length ≤ 50
  | [], M => fun b hb => by cases hb
  | n :: r, M => by
    have ih := readsegs_each p r M
    have h1 := read_each _ (bytesOf (fileN p n) M) (Nat.le_refl _)
    simp only [readSegs]
    split
    · split
      · intro b hb
        rcases List.mem_append.1 hb with hb | hb
        · exact h1 b hb
        · exact ih b hb
      · intro b hb; cases hb
    · split
      · intro b hb; cases hb
      · split
        · exact h1
        · intro b hb; cases hb
theorem jopen_each (p : List UInt8) (M : RS) : ∀ b ∈ (jopen p M).2.1, b.length ≤ 50 := by
  unfold jopen
  split
  · intro b hb; cases hb
  · split
    · intro b hb; cases hb
    · split
      · intro b hb; cases hb
      · exact readsegs_each p _ M
theorem jopen_lens (p : List UInt8) {M : RS} (h : M.ok) (hr : M.room ≤ 1000000) : (jopen p M).2.1.length ≤ 60000000 := by
  unfold jopen
  split
  · simp
  · split
    · simp
    · split
      · simp
      · have h1 := readSegs_lens p (segsL p M.L) M (room_sizes h hr)
        have h2 := segs_len p M.L
        have h3 := h.len
        omega
theorem last_drop {n : Nat} {r : List Nat} (hr : r ≠ []) : (n :: r).getLast?.getD 0 = r.getLast?.getD 0 := by
  cases r with
  | nil => exact absurd rfl hr
  | cons m r => rw [List.getLast?_cons_cons]
theorem drop_L (M : RS) (nm : List UInt8) : ((dropS nm M).1 = 0 → (dropS nm M).2.L = outS nm M.L) ∧ ((dropS nm M).1 ≠ 0 → (dropS nm M).2.L = M.L) := by
  unfold dropS onS
  split
  · exact ⟨(fun h => by cases h), fun _ => rfl⟩
  · cases getF nm M.L with
    | none => exact ⟨(fun h => by cases h), fun _ => rfl⟩
    | some y =>
      simp only
      unfold chgS
      split
      · exact ⟨(fun h => by cases h), fun _ => turn_L M⟩
      · exact ⟨fun _ => rfl, fun h => absurd rfl h⟩
theorem trim_last (p : List UInt8) (before : Int) : ∀ (l : List Nat) {M : RS}, M.ok → segsL p M.L = l → lastN p (trimL p before l M).2.L = lastN p M.L
  | [], M, _, _ => rfl
  | [_], M, _, _ => rfl
  | n :: m :: r, M, h, hl => by
    obtain ⟨d1, d2⟩ := drop_L M (fileN p n)
    simp only [trimL]
    split
    · split
      · rename_i h0
        have hs := segs_out (p := p) h.srt hl
        rw [← d1 h0] at hs
        rw [trim_last p before (m :: r) (drop_ok h _) hs]
        unfold lastN
        rw [hs, hl, last_drop (n := n) (r := m :: r) (by simp)]
      · rename_i h0
        unfold lastN; rw [d2 h0]
    · rfl
theorem jput_last {p : List UInt8} {M : RS} (h : M.ok) (h0 : lastN p M.L ≠ 0) (t : List UInt8) : lastN p (jput (fileN p (lastN p M.L)) t M).2.L = lastN p M.L := by
  have hth := last_there (p := p) h rfl h0
  unfold jput
  split
  · exact last_names (add_names h hth t)
  · exact (last_names (flush_names (add_ok h _ _) _)).trans (last_names (add_names h hth t))
theorem jroom_last {p : List UInt8} {M : RS} (most : Int) (h : M.ok) (h9 : lastN p M.L < 9999999) : lastN p (jroom p most M).2.L = lastN p M.L ∨ lastN p (jroom p most M).2.L = lastN p M.L + 1 := by
  unfold jroom
  split
  · by_cases ht : (jturn p M).1 = 0
    · exact Or.inr (jturn_last h h9 ht)
    · exact Or.inl (by unfold lastN; rw [(jturn_segs h h9).2 ht])
  · exact Or.inl rfl
theorem doj_last {p : List UInt8} {most : Int} {a : JV} {M : RS} (h : M.ok) (h0 : lastN p M.L ≠ 0) (h9 : lastN p M.L < 9999998) (hp : nameJ p = true) : lastN p (doJ p most a M).2.2.L ≠ 0 ∧ lastN p (doJ p most a M).2.2.L ≤ lastN p M.L + 1 := by
  unfold doJ
  split
  · by_cases ht : (jturn p M).1 = 0
    · have := jturn_last h (by omega) ht
      exact ⟨by simp only; omega, by simp only; omega⟩
    · have : lastN p (jturn p M).2.L = lastN p M.L := by unfold lastN; rw [(jturn_segs h (by omega)).2 ht]
      exact ⟨by simp only; omega, by simp only; omega⟩
  · split
    · have := trim_last p a.n (segsL p M.L) h rfl
      unfold jtrim
      exact ⟨by simp only; omega, by simp only; omega⟩
    · split
      · exact ⟨h0, Nat.le_succ _⟩
      · split
        · have hc := last_names (p := p) (crash_names a.left.L a.spoil.L M.L 0)
          have hok := crash_ok h a.left.L a.spoil.L
          have hne : segsL p (crashS a.left.L a.spoil.L M).L ≠ [] := fun e => h0 (by rw [← hc]; exact last_zero.2 e)
          have : lastN p (jopen p (crashS a.left.L a.spoil.L M)).2.2.L = lastN p M.L := by
            unfold jopen
            rw [if_neg (by rw [hp]; simp)]
            split
            · exact hc
            · try rw [if_neg hne]
              exact (last_names (read_ok p _ hok).2).trans hc
          exact ⟨by omega, by omega⟩
        · have : lastN p (jwrite p most a.bl M).2.L = lastN p M.L ∨ lastN p (jwrite p most a.bl M).2.L = lastN p M.L + 1 := by
            unfold jwrite
            split
            · exact Or.inl rfl
            · split
              · exact Or.inl rfl
              · split
                · exact jroom_last most h (by omega)
                · have hj := jroom_last (p := p) most h (by omega)
                  rw [jput_last (jroom_ok h p most) (by omega)]
                  exact hj
          exact ⟨by simp only; omega, by simp only; omega⟩
end Go.Proofs.YtlmlcnbgdaiaeaaGreatDoor
/- Mathematics: what writes, turns and trims make of a journal whose segments hold batches, all of them flushed (HoldS); no program. -/
namespace Go.Proofs.YtlmlcnbgdaiaeaaGreatDoor
open Go.RowKit Go.Deep Go.Maps

abbrev Bt := List (List (List UInt8))
structure HoldS (p : List UInt8) (L : List FI) (f : Nat → Bt) : Prop where
  ne : segsL p L ≠ []
  seg : ∀ n ∈ segsL p L, getF (fileN p n) L = some ⟨fileN p n, frsL (f n), (frsL (f n)).length⟩
  good : ∀ n, ∀ l ∈ f n, goodB l
def pairF (p : List UInt8) (L : List FI) (f : Nat → Bt) : List (Nat × List (List UInt8)) := (segsL p L).flatMap fun n => (f n).map fun b => (n, b)
theorem pair_all (p : List UInt8) (L : List FI) (f : Nat → Bt) : (pairF p L f).map Prod.snd = allF p L f := by
  unfold pairF allF
  rw [List.map_flatMap]
  congr 1
  funext n
  rw [List.map_map]
  exact List.map_id _
theorem pair_split {p : List UInt8} {L : List FI} (h : segsL p L ≠ []) (f : Nat → Bt) : pairF p L f = ((segsL p L).dropLast.flatMap fun n => (f n).map fun b => (n, b)) ++ (f (lastN p L)).map fun b => (lastN p L, b) := by
  unfold pairF
  conv => lhs; rw [segs_split h]
  rw [List.flatMap_append]; simp
theorem frs_snoc (bs : Bt) (l : List (List UInt8)) : frsL (bs ++ [l]) = frsL bs ++ frameL (encL l) := by
  unfold frsL; rw [List.flatMap_append]; simp
theorem flatMap_ext {α β : Type} {l : List α} {f g : α → List β} (h : ∀ x ∈ l, f x = g x) : l.flatMap f = l.flatMap g := by
  induction l with
  | nil => rfl
  | cons x l ih => rw [List.flatMap_cons, List.flatMap_cons, h x (by simp), ih (fun y hy => h y (by simp [hy]))]
theorem HoldS.x {p : List UInt8} {L : List FI} {f : Nat → Bt} (h : HoldS p L f) : HoldX p L f [] :=
  ⟨h.ne, fun n hn _ => ⟨_, h.seg n hn, rfl⟩, ⟨_, h.seg _ (last_mem h.ne), by simp⟩, h.good⟩
theorem HoldS.names {p : List UInt8} {L K : List FI} {f : Nat → Bt} (h : HoldS p L f) (hK : K = L) : HoldS p K f := hK ▸ h
theorem hold_turn {p : List UInt8} {M : RS} {f : Nat → Bt} (hM : M.ok) (h9 : lastN p M.L < 9999999) (h : HoldS p M.L f) :
    ((jturn p M).1 = 0 → ∃ f', HoldS p (jturn p M).2.L f' ∧ pairF p (jturn p M).2.L f' = pairF p M.L f ∧ (jturn p M).2.gone = false) ∧ ((jturn p M).1 ≠ 0 → (jturn p M).2.L = M.L) := by
  obtain ⟨h1, h2⟩ := jturn_segs hM h9
  refine ⟨fun h0 => ?_, h2⟩
  obtain ⟨a1, a2, a3, a4, a5⟩ := h1 h0
  have hlt : ∀ n ∈ segsL p M.L, n ≠ lastN p M.L + 1 := fun n hn => by have := last_max hn; omega
  refine ⟨fun n => if n = lastN p M.L + 1 then [] else f n, ⟨by rw [a1]; simp, fun n hn => ?_, fun n l hl => ?_⟩, ?_, a3⟩
  · by_cases hnl : n = lastN p M.L + 1
    · simp only [if_pos hnl]
      subst hnl
      exact a4
    · simp only [if_neg hnl]
      rw [a1, List.mem_append] at hn
      rcases hn with hn | hn
      · rw [a5 _ (fun e => hnl (file_inj e))]
        exact h.seg n hn
      · rw [List.mem_singleton] at hn; exact absurd hn hnl
  · by_cases hnl : n = lastN p M.L + 1
    · simp only [if_pos hnl] at hl; cases hl
    · simp only [if_neg hnl] at hl; exact h.good n l hl
  · unfold pairF
    rw [a1, List.flatMap_append]
    simp only [List.flatMap_cons, List.flatMap_nil, if_true, List.map_nil, List.append_nil]
    exact flatMap_ext (fun n hn => by rw [if_neg (hlt n hn)])
def WrPost (p : List UInt8) (M M' : RS) (f : Nat → Bt) (l : List (List UInt8)) (e : Int) : Prop :=
  (e = 0 ∧ ∃ f', HoldS p M'.L f' ∧ pairF p M'.L f' = pairF p M.L f ++ [(lastN p M'.L, l)]) ∨
  (e ≠ 0 ∧ ∃ f', HoldS p M'.L f' ∧ pairF p M'.L f' = pairF p M.L f) ∨
  (e = 7 ∧ M'.gone = true ∧ goodB l ∧ ∃ f', HoldX p M'.L f' (frameL (encL l)) ∧ pairF p M'.L f' = pairF p M.L f ∧ (∀ n ∈ segsL p M'.L, n ≠ lastN p M'.L → ∀ y, getF (fileN p n) M'.L = some y → y.safe = y.bytes.length) ∧
    (∀ y, getF (fileN p (lastN p M'.L)) M'.L = some y → y.safe = (frsL (f' (lastN p M'.L))).length))
theorem hold_put {p : List UInt8} {M : RS} {f : Nat → Bt} (hM : M.ok) (h : HoldS p M.L f) {l : List (List UInt8)} (hl : goodB l) :
    WrPost p M (jput (fileN p (lastN p M.L)) (frameL (encL l)) M).2 f l (jput (fileN p (lastN p M.L)) (frameL (encL l)) M).1 := by
  have hlm := last_mem h.ne
  have hseg := h.seg _ hlm
  obtain ⟨nl, hnl⟩ : ∃ nl, nl = lastN p M.L := ⟨_, rfl⟩
  rw [← hnl] at hlm hseg ⊢
  obtain ⟨y, hy⟩ : ∃ y : FI, y = ⟨fileN p nl, frsL (f nl) ++ frameL (encL l), (frsL (f nl)).length⟩ := ⟨_, rfl⟩
  have haF : addF (fileN p nl) (frameL (encL l)) M.L = y := by unfold addF; rw [hseg, hy]
  have hyn : y.name = fileN p nl := by rw [hy]
  have hsame : ∀ M' : RS, M'.L = M.L → HoldS p M'.L f ∧ pairF p M'.L f = pairF p M.L f := fun M' e => by rw [e]; exact ⟨h, rfl⟩
  unfold jput
  by_cases ha : (addS (fileN p nl) (frameL (encL l)) M).1 = 0
  · rw [if_neg (by simp [ha])]
    -- added
    have hadd : addS (fileN p nl) (frameL (encL l)) M = (0, { (turnS M).2 with L := insS y M.L }) ∧ M.gone = false ∧ M.turns ≠ 0 := by
      unfold addS at ha ⊢
      split at ha
      · rename_i hadm
        rw [if_pos hadm, haF]
        rw [haF] at ha
        unfold chgS at ha ⊢
        split at ha
        · cases ha
        · rename_i ht; rw [if_neg ht]; exact ⟨rfl, (adm_zero hadm).1, ht⟩
      · rename_i hadm; exact absurd ha hadm
    obtain ⟨had, hg, ht⟩ := hadd
    obtain ⟨M1, hM1⟩ : ∃ M1 : RS, M1 = { (turnS M).2 with L := insS y M.L } := ⟨_, rfl⟩
    rw [← hM1] at had
    rw [had]
    have hg1 : M1.gone = false := by rw [hM1]; show (turnS M).2.gone = false; unfold turnS; rw [if_neg ht]; split <;> exact hg
    have hL1 : M1.L = insS y M.L := by rw [hM1]
    have hins : ∀ m, getF m M1.L = if m = fileN p nl then some y else getF m M.L := fun m => by rw [hL1, getF_ins y hM.srt, hyn]
    have hM1ok : M1.ok := by have := add_ok hM (fileN p nl) (frameL (encL l)); rwa [had] at this
    have hnm1 : M1.L.map (·.name) = M.L.map (·.name) := by
      have := add_names hM (nm := fileN p nl) (by rw [hseg]; rfl) (frameL (encL l))
      rwa [had] at this
    have hs1 := segs_names (p := p) hnm1
    have hl1 := last_names (p := p) hnm1
    obtain ⟨y2, hy2⟩ : ∃ y2 : FI, y2 = { y with safe := y.bytes.length } := ⟨_, rfl⟩
    have hfl : flushS (fileN p nl) M1 = chgS M1 (insS y2 M1.L) := by
      unfold flushS onS
      rw [if_neg (by rw [hg1]; simp), hins, if_pos rfl, hy2]
    have hnm2 : (flushS (fileN p nl) M1).2.L.map (·.name) = M1.L.map (·.name) := flush_names hM1ok _
    rw [hfl] at hnm2 ⊢
    have hs2 := segs_names (p := p) hnm2
    have hl2 := last_names (p := p) hnm2
    have hne1 : ∀ n ∈ segsL p M.L, n ≠ nl → getF (fileN p n) M1.L = some ⟨fileN p n, frsL (f n), (frsL (f n)).length⟩ := fun n hn hne => by
      rw [hins, if_neg (fun e => hne (file_inj e))]; exact h.seg n hn
    by_cases ht1 : M1.turns = 0
    · -- not flushed
      have hc : chgS M1 (insS y2 M1.L) = (7, (turnS M1).2) := by unfold chgS; rw [if_pos ht1]
      rw [hc]
      have htg : (turnS M1).2 = { M1 with gone := true } := by unfold turnS; rw [if_pos ht1]
      rw [htg]
      refine Or.inr (Or.inr ⟨rfl, rfl, hl, f, ⟨by rw [hs1]; exact h.ne, fun n hn hne => ?_, ⟨y, ?_, ?_⟩, h.good⟩, ?_, fun n hn hne z hz => ?_, fun z hz => ?_⟩)
      · simp only [hs1, hl1, ← hnl] at hn hne ⊢
        exact ⟨_, hne1 n hn hne, rfl⟩
      · simp only [hl1, ← hnl]; rw [hins, if_pos rfl]
      · simp only [hl1, ← hnl]; rw [hy]
      · unfold pairF; simp only [hs1]
      · simp only [hs1, hl1, ← hnl] at hn hne hz ⊢
        rw [hne1 n hn hne] at hz
        obtain rfl := Option.some.inj hz
        rfl
      · simp only [hl1, ← hnl] at hz ⊢
        rw [hins, if_pos rfl] at hz
        obtain rfl := Option.some.inj hz
        rw [hy]
    · have hc : chgS M1 (insS y2 M1.L) = (0, { (turnS M1).2 with L := insS y2 M1.L }) := by unfold chgS; rw [if_neg ht1]
      rw [hc] at hs2 hl2 ⊢
      simp only at hs2 hl2
      have hy2n : y2.name = fileN p nl := by rw [hy2]; exact hyn
      have hins2 : ∀ m, getF m (insS y2 M1.L) = if m = fileN p nl then some y2 else getF m M1.L := fun m => by rw [getF_ins y2 hM1ok.srt, hy2n]
      have hseg2 : segsL p (insS y2 M1.L) = segsL p M.L := hs2.trans hs1
      have hlast2 : lastN p (insS y2 M1.L) = nl := by rw [hl2, hl1, hnl]
      refine Or.inl ⟨rfl, fun n => if n = nl then f nl ++ [l] else f n, ⟨by simp only; rw [hseg2]; exact h.ne, fun n hn => ?_, fun n b hb => ?_⟩, ?_⟩
      · try simp only at hn ⊢
        rw [hseg2] at hn
        by_cases hne : n = nl
        · subst hne
          rw [hins2, if_pos rfl, if_pos rfl, hy2, hy, frs_snoc]
        · rw [hins2, if_neg (fun e => hne (file_inj e)), if_neg hne]
          exact hne1 n hn hne
      · try simp only at hb
        split at hb
        · rcases List.mem_append.1 hb with hb | hb
          · exact h.good nl b hb
          · rw [List.mem_singleton] at hb; subst hb; exact hl
        · exact h.good n b hb
      · try simp only
        rw [hlast2, pair_split (by rw [hseg2]; exact h.ne), pair_split h.ne, hseg2, hlast2, ← hnl, if_pos rfl, List.map_append, List.append_assoc]
        congr 1
        refine flatMap_ext (fun n hn => ?_)
        have := (segs_front hM.srt h.ne n hn).1
        rw [← hnl] at this
        rw [if_neg this]
  · rw [if_pos (by exact ha)]
    refine Or.inr (Or.inl ⟨ha, f, ?_⟩)
    have hLL : (addS (fileN p nl) (frameL (encL l)) M).2.L = M.L := by
      unfold addS at ha ⊢
      split
      · rename_i hadm
        rw [if_pos hadm] at ha
        unfold chgS at ha ⊢
        split
        · exact turn_L M
        · rename_i ht; rw [if_neg ht] at ha; exact absurd rfl ha
      · rfl
    exact hsame _ hLL
theorem hold_write {p : List UInt8} {most : Int} {M : RS} {f : Nat → Bt} (hM : M.ok) (h9 : lastN p M.L < 9999999) (h : HoldS p M.L f) (l : List (List UInt8)) :
    WrPost p M (jwrite p most l M).2 f l (jwrite p most l M).1 := by
  have hsame : ∀ M' : RS, M'.L = M.L → HoldS p M'.L f ∧ pairF p M'.L f = pairF p M.L f := fun M' e => by rw [e]; exact ⟨h, rfl⟩
  unfold jwrite
  split
  · rename_i hb; exact Or.inr (Or.inl ⟨hb, f, h, rfl⟩)
  · rename_i hb
    have hb0 : (batchS l).2 = 0 := by simpa using hb
    obtain ⟨hb1, hb2, hb3⟩ := batch_ok hb0
    split
    · exact Or.inr (Or.inl ⟨by simp, f, h, rfl⟩)
    · split
      · rename_i hr
        refine Or.inr (Or.inl ⟨hr, f, hsame _ ?_⟩)
        unfold jroom at hr ⊢
        split
        · rename_i hc
          rw [if_pos hc] at hr
          exact (hold_turn hM h9 h).2 hr
        · rfl
      · rename_i hr
        have hr0 : (jroom p most M).1 = 0 := by simpa using hr
        have hM1 : ∃ f1, HoldS p (jroom p most M).2.L f1 ∧ pairF p (jroom p most M).2.L f1 = pairF p M.L f := by
          unfold jroom at hr0 ⊢
          split
          · rename_i hc
            rw [if_pos hc] at hr0
            obtain ⟨f', q1, q2, -⟩ := (hold_turn hM h9 h).1 hr0
            exact ⟨f', q1, q2⟩
          · exact ⟨f, h, rfl⟩
        obtain ⟨f1, q1, q2⟩ := hM1
        have hw := hold_put (jroom_ok hM p most) q1 (l := l) ⟨hb2, hb3⟩
        rw [hb1]
        unfold WrPost at hw ⊢
        rw [q2] at hw
        exact hw
def Alive (M : RS) : Prop := M.turns = -1 ∧ M.gone = false
theorem chg_alive {M : RS} (h : Alive M) (L' : List FI) : (chgS M L').1 = 0 ∧ Alive (chgS M L').2 := by
  obtain ⟨h1, h2⟩ := h
  unfold chgS turnS
  rw [if_neg (by omega), if_neg (by omega), if_neg (by omega)]
  exact ⟨rfl, h1, h2⟩
theorem add_alive {M : RS} (h : Alive M) (nm s : List UInt8) : Alive (addS nm s M).2 := by
  unfold addS
  split
  · exact (chg_alive h _).2
  · exact h
theorem on_alive {M : RS} (h : Alive M) (nm : List UInt8) (k : FI → Int × RS) (hk : ∀ y, Alive (k y).2) : Alive (onS nm M k).2 := by
  unfold onS
  split
  · exact h
  · cases getF nm M.L with
    | none => exact h
    | some y => exact hk y
theorem flush_alive {M : RS} (h : Alive M) (nm : List UInt8) : Alive (flushS nm M).2 := on_alive h nm _ fun y => (chg_alive h _).2
theorem jturn_alive {M : RS} (h : Alive M) (p : List UInt8) : Alive (jturn p M).2 := add_alive h _ _
theorem jwrite_alive {M : RS} (h : Alive M) (p : List UInt8) (most : Int) (l : List (List UInt8)) : Alive (jwrite p most l M).2 := by
  have hr : Alive (jroom p most M).2 := by unfold jroom; split; exact jturn_alive h p; exact h
  unfold jwrite
  split
  · exact h
  · split
    · exact h
    · split
      · exact hr
      · unfold jput
        split
        · exact add_alive hr _ _
        · exact flush_alive (add_alive hr _ _) _
theorem hold_trim {p : List UInt8} {f : Nat → Bt} (k : Nat) : ∀ (l : List Nat) {M : RS}, M.ok → Alive M → segsL p M.L = l → HoldS p M.L f →
    (trimL p k l M).1 = 0 ∧ Alive (trimL p k l M).2 ∧ HoldS p (trimL p k l M).2.L f ∧ segsL p (trimL p k l M).2.L = l.dropWhile (fun n => decide (n < min k (lastN p M.L))) ∧ lastN p (trimL p k l M).2.L = lastN p M.L
  | [], M, hM, ha, hl, h => absurd hl h.ne
  | [n], M, hM, ha, hl, h => by
    have hn : lastN p M.L = n := by unfold lastN; rw [hl]; rfl
    refine ⟨rfl, ha, h, ?_, rfl⟩
    simp only [trimL]
    rw [hl, hn, List.dropWhile_cons, if_neg (by simp; omega)]
  | n :: m :: r, M, hM, ha, hl, h => by
    have hnd := segs_nodup p hM.srt
    have hsrt := segs_sorted p M.L
    have hlast : lastN p M.L ∈ m :: r := by
      have : lastN p M.L = (m :: r).getLast?.getD 0 := by unfold lastN; rw [hl, last_drop (n := n) (r := m :: r) (by simp)]
      rw [this, List.getLast?_eq_some_getLast (by simp)]
      exact List.getLast_mem _
    rw [hl] at hnd hsrt
    have hnm : n < lastN p M.L := by
      have h1 := (List.pairwise_cons.1 hsrt).1 _ hlast
      have h2 : n ≠ lastN p M.L := fun e => (List.nodup_cons.1 hnd).1 (e ▸ hlast)
      omega
    simp only [trimL]
    split
    · rename_i hlt
      have hnseg : n ∈ segsL p M.L := by rw [hl]; simp
      have hd : dropS (fileN p n) M = chgS M (outS (fileN p n) M.L) := by
        unfold dropS onS
        rw [if_neg (by rw [ha.2]; simp), h.seg n hnseg]
      have hc := chg_alive ha (outS (fileN p n) M.L)
      rw [← hd] at hc
      rw [if_pos hc.1]
      have hL := (drop_L M (fileN p n)).1 hc.1
      have hs2 : segsL p (dropS (fileN p n) M).2.L = m :: r := by rw [hL]; exact segs_out hM.srt hl
      have hok2 := drop_ok hM (fileN p n)
      have hl2 : lastN p (dropS (fileN p n) M).2.L = lastN p M.L := by unfold lastN; rw [hs2, hl, last_drop (n := n) (r := m :: r) (by simp)]
      have hH : HoldS p (dropS (fileN p n) M).2.L f := by
        refine ⟨by rw [hs2]; simp, fun q hq => ?_, h.good⟩
        rw [hs2] at hq
        have hqn : q ≠ n := fun e => (List.nodup_cons.1 hnd).1 (e ▸ hq)
        rw [hL, getF_out _ hM.srt, if_neg (fun e => hqn (file_inj e))]
        exact h.seg q (by rw [hl]; exact List.mem_cons_of_mem _ hq)
      obtain ⟨q1, q2, q3, q4, q5⟩ := hold_trim k (m :: r) hok2 hc.2 hs2 hH
      refine ⟨q1, q2, q3, ?_, q5.trans hl2⟩
      rw [q4, hl2]
      conv => rhs; rw [List.dropWhile_cons]
      rw [if_pos (by simp; omega)]
    · rename_i hlt
      refine ⟨rfl, ha, h, ?_, rfl⟩
      rw [hl, List.dropWhile_cons, if_neg (by simp; omega)]
theorem drop_none {α : Type} {P : α → Bool} : ∀ {l : List α}, (∀ x ∈ l, P x = false) → l.dropWhile P = l
  | [], _ => rfl
  | x :: l, h => by rw [List.dropWhile_cons, if_neg (by rw [h x (by simp)]; simp)]
theorem drop_some {α : Type} {P : α → Bool} : ∀ {l m : List α}, (∀ x ∈ l, P x = true) → (l ++ m).dropWhile P = m.dropWhile P
  | [], _, _ => rfl
  | x :: l, m, h => by rw [List.cons_append, List.dropWhile_cons, if_pos (h x (by simp)), drop_some (fun y hy => h y (by simp [hy]))]
theorem pair_drop (f : Nat → Bt) (c : Nat) : ∀ (l : List Nat), l.Pairwise (· ≤ ·) → (l.dropWhile (fun n => decide (n < c))).flatMap (fun n => (f n).map fun b => (n, b)) = (l.flatMap fun n => (f n).map fun b => (n, b)).dropWhile (fun q => decide (q.1 < c))
  | [], _ => rfl
  | n :: l, h => by
    have h2 := List.pairwise_cons.1 h
    rw [List.dropWhile_cons]
    by_cases hn : n < c
    · rw [if_pos (by simpa using hn), pair_drop f c l h2.2, List.flatMap_cons, drop_some (fun q hq => ?_)]
      rw [List.mem_map] at hq
      obtain ⟨b, _, rfl⟩ := hq
      simpa using hn
    · rw [if_neg (by simpa using hn), drop_none (fun q hq => ?_)]
      rw [List.mem_flatMap] at hq
      obtain ⟨m, hm, hq⟩ := hq
      rw [List.mem_map] at hq
      obtain ⟨b, _, rfl⟩ := hq
      rcases List.mem_cons.1 hm with rfl | hm
      · simpa using hn
      · have := h2.1 m hm
        simp; omega
theorem dropWhile_len {α : Type} (P : α → Bool) : ∀ l : List α, l.dropWhile P = l.drop (l.takeWhile P).length
  | [] => rfl
  | x :: l => by
    rw [List.dropWhile_cons, List.takeWhile_cons]
    split
    · rw [dropWhile_len P l]; simp
    · simp
theorem takeWhile_fst (c : Nat) : ∀ (l : List (Nat × List (List UInt8))), ((l.map Prod.fst).takeWhile (fun n => decide (n < c))).length = (l.takeWhile (fun q => decide (q.1 < c))).length
  | [] => rfl
  | x :: l => by
    rw [List.map_cons, List.takeWhile_cons, List.takeWhile_cons]
    split
    · rw [List.length_cons, List.length_cons, takeWhile_fst c l]
    · rfl
theorem trim_all {p : List UInt8} {f : Nat → Bt} {L L' : List FI} (c : Nat) (h : segsL p L' = (segsL p L).dropWhile (fun n => decide (n < c))) :
    allF p L' f = ((pairF p L f).map Prod.snd).drop (((pairF p L f).map Prod.fst).takeWhile (fun n => decide (n < c))).length := by
  rw [← pair_all, takeWhile_fst, ← List.map_drop, ← dropWhile_len]
  unfold pairF
  rw [h, pair_drop f c _ (segs_sorted p L)]
end Go.Proofs.YtlmlcnbgdaiaeaaGreatDoor
/- Appends beside both journals; a journal's segments in one world; the opening of a journal whose files are whole. -/
namespace Go.Proofs.YtlmlcnbgdaiaeaaGreatDoor
open Go.RowKit Go.Deep Go.Maps

theorem own_ne {α β : Type} {E : El α} {E' : El β} {B B' : Nat} {x : World} {v v' : Value} {L : List α} {L' : List β} (h : OwnG E B x v L) (h' : OwnG E' B' x v' L') (hT : E.T ≠ E'.T) {k : Nat} (hk : v.ownBlock = some k) : v'.ownBlock ≠ some k := by
  rcases h.2 with ⟨rfl, _⟩ | ⟨g, cap, cur, rfl, _, hg, _⟩
  · simp [Value.ownBlock] at hk
  · obtain rfl : g = k := by simpa [Value.ownBlock] using hk
    rcases h'.2 with ⟨rfl, _⟩ | ⟨g', cap', cur', rfl, _, hg', _⟩
    · simp [Value.ownBlock]
    · intro e
      obtain rfl : g' = g := by simpa [Value.ownBlock] using e
      rw [hg] at hg'
      simp only [Option.some.injEq, Obj.cells.injEq] at hg'
      exact hT hg'.2.1
structure Low (w : World) (ws ms jb rb B : Nat) : Prop where
  ws : ws < B
  ms : ms < B
  jb : jb < B
  rb : rb < B
  w : w.heap.size ≤ B
section
variable {w x y z : World} {ws ms b r jb rb : Nat} {M M' M1 : RS} {nm : ByteArray} {most : Int} {R R' : List Nat}
theorem LW.lows (h : LW w x ws ms b r jb rb M M' nm most R) : Low w ws ms jb rb x.heap.size :=
  ⟨h.tw.lt _ (by simp), h.tw.lt _ (by simp), h.tw.lt _ (by simp), h.tw.lt _ (by simp), h.low.size⟩
theorem LW.above (h : LW w x ws ms b r jb rb M M' nm most R) {B : Nat} (hB : B = max (max ws ms) (max jb rb) + 1) : B ≤ x.heap.size ∧ Low w ws ms jb rb B := by
  obtain ⟨h1, h2, h3, h4, h5⟩ := h.lows
  have := h.new
  exact ⟨by omega, by omega, by omega, by omega, by omega, by omega⟩
theorem lw_append {α : Type} {E : El α} {B bb : Nat} {v yv : Value} {L : List α} (h : LW w x ws ms b r jb rb M M' nm most R) (hB : Low w ws ms jb rb B) (hE : ElOk E bb) {ops : Array Oper} {rest : List Oper} {o : Oper} {a : Act} {Q : Exit → Act → World → Prop} (hgd : o.guard = none) (s y : Operand)
    (ho : o.op = .call { callee := .builtin .append, args := #[s, y], argTypes := #[E.ST, E.ST] }) (hs : a.eval s = v) (hown : OwnG E B x v L) (hR : ∀ k, v.ownBlock = some k → k ∈ R) (news : List α) (hy : a.eval y = yv) (hsrc : SrcAt E x yv news)
    (hl1 : L.length + news.length ≤ maxLen) (hlim : (L.length + news.length) * bb ≤ 140737488355328) (hbase : B ≤ x.heap.size)
    (hk : ∀ v' z, OwnG E B z v' (L ++ news) → LW w z ws ms b r jb rb M M' nm most (v'.ownBlock.toList ++ R) → (∀ k ∈ R, v.ownBlock ≠ some k → z.heap[k]? = x.heap[k]?) → wpList Tryz.prog ops Q rest (a.put o.dst v') z) : wpList Tryz.prog ops Q (o :: rest) a x := by
  refine append_src hE hgd s y ho hs hown news hy hsrc hl1 hlim hbase fun v' z h1 h2 h3 h4 => ?_
  have hkeep : Keep v.ownBlock.toList x z := ⟨h2.os, h2.tape, h2.output, h2.size, fun k hk hn => h3 k hk (fun e => hn (by rw [← e]; simp))⟩
  have hK : ∀ k ∈ v.ownBlock.toList, w.heap.size ≤ k ∧ k ∈ R ∧ k ≠ ws ∧ k ≠ ms ∧ k ≠ jb ∧ k ≠ rb := fun k hk' => by
    rw [Option.mem_toList] at hk'
    have hlt := (hown.lt k hk').1
    obtain ⟨q1, q2, q3, q4, q5⟩ := hB
    exact ⟨by omega, hR k hk', by omega, by omega, by omega, by omega⟩
  have hout : ∀ k ∈ R, v.ownBlock ≠ some k → z.heap[k]? = x.heap[k]? := fun k hkR hne => h3 k (h.tw.lt k (by simp [hkR])) (fun e => hne e.symm)
  rcases h4 with e | e
  · have hh := (h.other2 (S := []) hkeep hK (fun k hk => by cases hk)).1
    refine hk v' z h1 (hh.less (fun k hk' => ?_)) hout
    rw [List.mem_append, Option.mem_toList] at hk'
    rcases hk' with hk' | hk'
    · simpa using hR k (by rw [← e, hk'])
    · simpa using hk'
  · have hh := (h.other2 (S := [x.heap.size]) hkeep hK (fun k hk' => by
      rw [List.mem_singleton] at hk'; subst hk'
      exact ⟨Nat.le_refl _, (h1.lt _ e).2⟩)).1
    refine hk v' z h1 (hh.less (fun k hk' => ?_)) hout
    rw [List.mem_append, Option.mem_toList, e] at hk'
    rcases hk' with hk' | hk'
    · obtain rfl := Option.some.inj hk'
      simp
    · simp [hk']
theorem tw_segs (h : Tw w x b r M M' R) (hs : Std w) (hj : JAt x jb b nm most) (hjR : jb ∈ R) (hz : Bel x z) (hn : nm.size ≤ 100) :
    Calls Tryz.prog 29 #[.pointer (some ⟨jb, 0, none⟩)] z fun e y => ∃ v, e = .returned v ∧ OwnG intEl z.heap.size y v ((segsL nm.data.toList M.L).map fun n : Nat => (n : Int)) ∧ Bel z y := by
  obtain ⟨⟨F, G, h1, h2, h3, h4⟩, h5, h6, h7⟩ := h.bel hz
  have hJ := js_of hs h5 h1 h6 (hj.bel hz) (h4 jb hjR).2.1
  exact segs_any _ z jb b nm most M F hJ.prog hJ.ok hJ.j hn hJ.std0
end
theorem open_holds {p : List UInt8} {M : RS} (hM : M.ok) (hg : M.gone = false) (hp : nameJ p = true) {f : Nat → Bt} (h : HoldS p M.L f) : jopen p M = (0, allF p M.L f, M) := by
  have hone := readsegs_one p (lastN p M.L) M
  have hread : ∀ n ∈ segsL p M.L, readL (bytesOf (fileN p n) M) = (f n, (frsL (f n)).length, 0) := fun n hn => by
    rw [bytesOf_get (h.seg n hn)]
    have := read_frs (h.good n) []
    rw [List.append_nil, read_nil] at this
    simpa using this
  unfold jopen
  rw [if_neg (by rw [hp]; simp), if_neg (by rw [hg]; simp), if_neg h.ne]
  conv => lhs; rw [segs_split h.ne]
  rw [readsegs_app (f := f) (lastN p M.L) _ (fun m hm => by
    rw [hread m (segs_front hM.srt h.ne m hm).2]; exact ⟨rfl, rfl⟩), hone, hread _ (last_mem h.ne)]
  simp only [if_true]
  rw [join_zero, ← all_split h.ne]
theorem bg_hold (room : Int) : HoldS logB.data.toList (bgM room).L (fun _ => []) := by
  have hs : segsL logB.data.toList (bgM room).L = [1] := segs1 _ _
  refine ⟨by rw [hs]; simp, fun n hn => ?_, fun n l hl => by cases hl⟩
  rw [hs, List.mem_singleton] at hn
  subst hn
  rw [logB_list, file1]
  rfl
theorem last_bg7 (room : Int) : lastN logP (bgM room).L = 1 := last1 _ _
theorem bg_alive (room : Int) : Alive (bgM room) := ⟨rfl, rfl⟩
theorem bg_pair (room : Int) : pairF logB.data.toList (bgM room).L (fun _ => []) = [] := by
  unfold pairF; simp
theorem rowl_slice {P : Nat → Prop} {x : World} {p : Option Addr} {L : List (List (List UInt8))} (h : RowL P x p L) (c j : Nat) (hc : L.length ≤ c) : RowL P x (if c = j then p else Option.map (fun x => x.add j) p) (L.drop j) := by
  by_cases hcj : c = j
  · rw [List.drop_eq_nil_of_le (by omega)]
    exact ⟨[], rfl, fun i s hs => by simp at hs, fun i s l hs => by simp at hs⟩
  · rw [if_neg hcj]
    cases p with
    | none =>
      have hL : L = [] := by
        obtain ⟨H, h1, h2, h3⟩ := h.ex
        cases H with
        | nil => exact List.length_eq_zero_iff.1 h1.symm
        | cons s H => obtain ⟨a, ha, _⟩ := h2 0 s rfl; cases ha
      subst hL
      exact ⟨[], by simp, fun i s hs => by simp at hs, fun i s l hs => by simp at hs⟩
    | some a => exact h.drop j
theorem own_cap {α : Type} {E : El α} {bb B : Nat} {x : World} {p : Option Addr} {n c : Nat} {L : List α} (hE : ElOk E bb) (h : OwnG E B x (.slice p n c) L) (hn : n = L.length) : L.length ≤ c := by
  by_cases hne : L = []
  · subst hne; exact Nat.zero_le _
  · obtain ⟨g, cap, hv, hcap, h1, h2, h3⟩ := ownG_cells hE h hne
    simp only [Value.slice.injEq] at hv
    obtain ⟨-, -, rfl⟩ := hv
    omega
end Go.Proofs.YtlmlcnbgdaiaeaaGreatDoor
/- Mathematics of JournalKeeps: what is read behind a crash; no program. -/
namespace Go.Proofs.YtlmlcnbgdaiaeaaGreatDoor
open Go.RowKit Go.Deep Go.Maps

def KpInv (p : List UInt8) (M : RS) (W N : Bt) : Prop :=
  (∃ f, HoldS p M.L f ∧ allF p M.L f = W) ∨
  (M.gone = true ∧ ∃ f l, goodB l ∧ N = W ++ [l] ∧ HoldX p M.L f (frameL (encL l)) ∧ allF p M.L f = W ∧ (∀ n ∈ segsL p M.L, n ≠ lastN p M.L → ∀ y, getF (fileN p n) M.L = some y → y.safe = y.bytes.length) ∧
    (∀ y, getF (fileN p (lastN p M.L)) M.L = some y → y.safe = (frsL (f (lastN p M.L))).length))
theorem kp_write {p : List UInt8} {most : Int} {M M2 : RS} {W N : Bt} (hM : M.ok) (h9 : lastN p M.L < 9999999) (hg : M.gone = false) (h : KpInv p M W N) (l : List (List UInt8)) {e : Int} (hw : jwrite p most l M = (e, M2)) :
    KpInv p M2 (if e = 0 then W ++ [l] else W) (if e = 0 ∨ e = 7 then W ++ [l] else W) := by
  rcases h with ⟨f, h, hf⟩ | ⟨h, -⟩
  rotate_left
  · rw [hg] at h; cases h
  have hp := hold_write (most := most) hM h9 h l
  rw [hw] at hp
  rcases hp with ⟨he, f', h1, h2⟩ | ⟨he, f', h1, h2⟩ | ⟨he, hg2, hl, f', h1, h2, h3, h4⟩
  · left
    refine ⟨f', h1, ?_⟩
    have := congrArg (List.map Prod.snd) h2
    rw [List.map_append, pair_all, pair_all, hf] at this
    simp only at he
    rw [if_pos he, this]; rfl
  · left
    refine ⟨f', h1, ?_⟩
    have := congrArg (List.map Prod.snd) h2
    rw [pair_all, pair_all, hf] at this
    simp only at he
    rw [if_neg he, this]
  · right
    simp only at he
    have h0 : ¬ e = 0 := by omega
    have := congrArg (List.map Prod.snd) h2
    rw [pair_all, pair_all, hf] at this
    exact ⟨hg2, f', l, hl, by rw [if_neg h0, if_pos (Or.inr he)], h1, by rw [if_neg h0]; exact this, h3, h4⟩
theorem kp_crash {p : List UInt8} {M : RS} {W N : Bt} (hM : M.ok) (h : KpInv p M W N) (lf sp : List Int) :
    ∃ f r l, HoldX p (crashS lf sp M).L f r ∧ allF p (crashS lf sp M).L f = W ∧ (((readL r).1 = [] ∧ (readL r).2.1 = 0) ∨ (r = frameL (encL l) ∧ goodB l)) ∧ (r = frameL (encL l) → goodB l → r ≠ [] → N = W ++ [l]) ∧ Saved (crashS lf sp M).L := by
  have hL : (crashS lf sp M).L = crashF lf sp 0 M.L := rfl
  have hnm := crash_names lf sp M.L 0
  have hsg := segs_names (p := p) hnm
  have hln := last_names (p := p) hnm
  have hsv : Saved (crashF lf sp 0 M.L) := jcrash_saved lf sp M.L 0 (fun x hx => (each_ok hM x hx).2.1)
  rw [hL]
  rcases h with ⟨f, h, hf⟩ | ⟨-, f, l, hl, hN, h, hf, h3, h4⟩
  · have hx := h.x
    have hst : ∀ n ∈ segsL p M.L, getF (fileN p n) (crashF lf sp 0 M.L) = some ⟨fileN p n, frsL (f n), (frsL (f n)).length⟩ := fun n hn => by
      obtain ⟨j, hj⟩ := (jcrash_get lf sp (fileN p n) M.L 0).2 _ (h.seg n hn)
      rw [hj]
      unfold jcrO
      rw [if_pos rfl]
    refine ⟨f, [], [], ⟨by rw [hsg]; exact h.ne, fun n hn _ => ?_, ?_, h.good⟩, ?_, Or.inl ⟨rfl, rfl⟩, fun _ _ h => absurd rfl h, hsv⟩
    · rw [hsg] at hn; exact ⟨_, hst n hn, rfl⟩
    · rw [hln]; exact ⟨_, hst _ (last_mem h.ne), by simp⟩
    · unfold allF at hf ⊢; rw [hsg]; exact hf
  · obtain ⟨r, h5, h6⟩ := crash_holdx hM lf sp hl.2 h h3 h4
    refine ⟨f, r, l, h5, ?_, ?_, fun _ _ _ => hN, hsv⟩
    · unfold allF at hf ⊢; rw [hsg]; exact hf
    · rcases h6 with h6 | h6
      · exact Or.inl h6
      · exact Or.inr ⟨h6, hl⟩
theorem frame_ne (x : List UInt8) : frameL x ≠ [] := by
  intro h
  have := congrArg List.length h
  rw [frame_len] at this
  simp at this
theorem kp_end {p : List UInt8} {M : RS} {W N : Bt} (hM : M.ok) (hp : nameJ p = true) (h : KpInv p M W N) (lf sp lf2 sp2 : List Int) (t : Int) (ht : in64 t) {e1 : Int} {A1 : Bt} {M2 : RS} (hj : jopen p (limS t (crashS lf sp M)) = (e1, A1, M2)) :
    (e1 = 0 → A1 = W ∨ A1 = N) ∧ (e1 ≠ 0 → (jopen p (crashS lf2 sp2 M2)).1 = 0 ∧ ((jopen p (crashS lf2 sp2 M2)).2.1 = W ∨ (jopen p (crashS lf2 sp2 M2)).2.1 = N)) := by
  obtain ⟨f, r, l, h1, h2, h3, h4, h5⟩ := kp_crash hM h lf sp
  have hok : (limS t (crashS lf sp M)).ok := lim_ok (crash_ok hM lf sp) t ht
  have ho := open_hold (M := limS t (crashS lf sp M)) hok rfl hp h1 h3 h5
  have hok2 := jopen_ok p hok
  rw [hj] at ho hok2
  obtain ⟨o1, -, o3, -⟩ := ho
  refine ⟨fun he => ?_, fun he => ?_⟩
  · rcases o1 he with o1 | ⟨o1, o2⟩
    · left; rw [← h2]; exact o1
    · right
      have hg : goodB l := by
        rcases h3 with ⟨q1, q2⟩ | ⟨-, q⟩
        · exfalso
          have : (jopen p (limS t (crashS lf sp M))).2.1 = allF p (limS t (crashS lf sp M)).L f ++ [l] := by rw [hj]; exact o2
          have ho2 := open_hold (l := []) (M := limS t (crashS lf sp M)) hok rfl hp h1 (Or.inl ⟨q1, q2⟩) h5
          rw [hj] at ho2
          rcases ho2.1 he with q | ⟨q, -⟩
          · have e := q.symm.trans o2
            have := congrArg List.length e
            simp at this
          · have hrr : readL (frameL (encL [])) = ([[]], (frameL (encL ([] : List (List UInt8)))).length, 0) := by
              have := read_frs (bs := [[]]) (fun m hm => by rw [List.mem_singleton] at hm; subst hm; exact ⟨by simp, by decide⟩) []
              simp only [frsL, List.flatMap_cons, List.flatMap_nil, List.append_nil, read_nil] at this
              rw [this]; simp
            rw [q, hrr] at q1
            cases q1
        · exact q
      rw [h4 o1 hg (by rw [o1]; exact frame_ne _), ← h2]
      exact o2
  · obtain ⟨s1, s2, r', s3, s4, s5⟩ := o3 he
    simp only at s1 s2 s3 hok2
    have hL : (crashS lf2 sp2 M2).L = M2.L := crashF_saved lf2 sp2 M2.L 0 s2
    have ho2 := open_hold (l := []) (M := crashS lf2 sp2 M2) (crash_ok hok2 lf2 sp2) rfl hp (f := f) (r := r') (by rw [hL]; exact s3) (Or.inl ⟨s4, s5⟩) (by rw [hL]; exact s2)
    obtain ⟨o1', o2', -, -⟩ := ho2
    have h0 := o2' rfl
    refine ⟨h0, Or.inl ?_⟩
    have hall : allF p (crashS lf2 sp2 M2).L f = W := by
      rw [hL, ← h2]
      unfold allF
      rw [s1]; rfl
    rcases o1' h0 with o | ⟨q, -⟩
    · rw [o, hall]
    · exfalso
      have hrr : readL (frameL (encL [])) = ([[]], (frameL (encL ([] : List (List UInt8)))).length, 0) := by
        have := read_frs (bs := [[]]) (fun m hm => by rw [List.mem_singleton] at hm; subst hm; exact ⟨by simp, by decide⟩) []
        simp only [frsL, List.flatMap_cons, List.flatMap_nil, List.append_nil, read_nil] at this
        rw [this]; simp
      rw [q, hrr] at s4
      cases s4
end Go.Proofs.YtlmlcnbgdaiaeaaGreatDoor
/- moultlaw7's Model.does. -/
namespace Go.Proofs.YtlmlcnbgdaiaeaaGreatDoor
open Go.RowKit Go.Deep Go.Maps

end Go.Proofs.YtlmlcnbgdaiaeaaGreatDoor
/- moultlaw7's alike: files and segments of both sides are the same. -/
namespace Go.Proofs.YtlmlcnbgdaiaeaaGreatDoor
open Go.RowKit Go.Deep Go.Maps

section
variable {w x y z : World} {ws ms b r jb rb : Nat} {M M' M1 : RS} {nm : ByteArray} {most : Int} {R R' : List Nat}
theorem lw_names (h : LW w x ws ms b r jb rb M M' nm most R) (hz : Bel x z) :
    Calls Tryz.prog 37 #[.pointer (some ⟨b, 0, none⟩)] z fun e y => (∃ v, e = .returned v ∧ OwnG strEl z.heap.size y v (M.L.map (·.name))) ∧ LW w y ws ms b r jb rb M M' nm most R ∧ Bel z y :=
  h.look hz (A := fun e y => ∃ v, e = .returned v ∧ OwnG strEl z.heap.size y v (M.L.map (·.name))) fun F hF => (pnames_any _ z b M F hF.prog hF.ok.srt (good_len hF.ok)).mono fun e y ⟨v, h1, h2, h3⟩ => ⟨⟨v, h1, h2⟩, h3⟩
theorem lw_get (h : LW w x ws ms b r jb rb M M' nm most R) (hz : Bel x z) (s : ByteArray) (hs : s.size ≤ maxLen) :
    Calls Tryz.prog 40 #[.pointer (some ⟨b, 0, none⟩), .string s] z fun e y => e = .returned (.tuple #[.string ⟨(getS s.data.toList M).1.toArray⟩, .int .i64 (getS s.data.toList M).2]) ∧ LW w y ws ms b r jb rb M M' nm most R ∧ Bel z y :=
  h.look hz (A := fun e y => e = .returned (.tuple #[.string ⟨(getS s.data.toList M).1.toArray⟩, .int .i64 (getS s.data.toList M).2])) fun F hF => pget_any _ z b M F s hF.prog hs
theorem lw_used (h : LW w x ws ms b r jb rb M M' nm most R) (hz : Bel x z) :
    Calls Tryz.prog 38 #[.pointer (some ⟨b, 0, none⟩)] z fun e y => e = .returned (.int .i64 (bytesN M.L : Nat)) ∧ LW w y ws ms b r jb rb M M' nm most R ∧ Bel z y :=
  h.look hz (A := fun e y => e = .returned (.int .i64 (bytesN M.L : Nat))) fun F hF => pused_any _ z b M F hF.prog hF.ok.srt (good_bytes hF.ok)
theorem lw_rused (h : LW w x ws ms b r jb rb M M' nm most R) (hz : Bel x z) :
    Calls Tryz.prog 39 #[.pointer (some ⟨r, 0, none⟩)] z fun e y => e = .returned (.int .i64 (bytesN M'.L : Nat)) ∧ LW w y ws ms b r jb rb M M' nm most R ∧ Bel z y :=
  h.rlook hz (A := fun e y => e = .returned (.int .i64 (bytesN M'.L : Nat))) fun G hG => (rused_ref hG.ref hG.ok).mono fun e y ⟨h1, h2⟩ => ⟨h1, h2.bel⟩
end
def JalRel (w1 : World) (n : Nat) (i : Value) (x : World) : Prop := ∃ k : Nat, i = .int .i64 k ∧ k ≤ n ∧ Bel w1 x
set_option maxHeartbeats 8000000 in
set_option maxRecDepth 20000 in
theorem jalike_any (w x : World) (ws ms b r jb rb : Nat) (M : RS) (nm : ByteArray) (most : Int) (R : List Nat) (h : LW w x ws ms b r jb rb M M nm most R) (hnm : nm.size ≤ 100) :
    Calls Tryz.prog 13 #[.pointer (some ⟨ws, 0, none⟩), .pointer (some ⟨ms, 0, none⟩)] x fun e y => e = .returned (.bool true) ∧ Bel x y := by
  have HX := Lib.hid h
  have HM := Lib.hid h.tw.good
  have HRR := Lib.hid (show ∃ G v, RefAt w.heap.size x r M v from by
    obtain ⟨⟨F, G, h1, ⟨v, h2, _⟩, _⟩, _⟩ := h.tw
    exact ⟨G, v, h2⟩)
  obtain ⟨G, v, hr⟩ := HRR.out
  have HR := Lib.hid hr
  obtain ⟨rp, rcap, rfl⟩ := ownG_len hr.own
  obtain ⟨c0, -, -, c3⟩ := hr.cells
  obtain ⟨s0, s1, -, t0, t1, -⟩ := h.cells
  have HS0 := Lib.hid s0
  have HS1 := Lib.hid s1
  have HT0 := Lib.hid t0
  have HT1 := Lib.hid t1
  have HC0 := Lib.hid c0
  have HC3 := Lib.hid c3
  have hrl := hr.lt
  clear hr h HRR
  have hlen := HM.out.len
  have hbm := good_bytes HM.out
  have hsl := segs_len nm.data.toList M.L
  go_enter Tryz.func13, Tryz.ntmps13
  go_wp2_with (fail)
  refine (lw_names HX.out (Bel.refl _)).mono ?_
  rintro e w1 ⟨⟨nv, rfl, hnl⟩, -, hb1⟩
  obtain ⟨np, ncap, hnv⟩ := ownG_len hnl
  rw [List.length_map] at hnv
  subst hnv
  have HNM := Lib.hid hnl
  have HB1 := Lib.hid hb1
  have s0' := cell_later hb1 HS0.out
  have t0' := cell_later hb1 HT0.out
  have c0' := cell_later hb1 HC0.out
  have c3' := cell_later hb1 HC3.out
  clear hnl hb1 s0 s1 t0 t1 c0 c3
  go_wp2_with (fail)
  refine wp_region_held_drew (S := fun z => z.cell? ⟨ws, 0, none⟩ = some (.pointer (some ⟨b, 0, none⟩)) ∧ z.cell? ⟨ms, 0, none⟩ = some (.pointer (some ⟨r, 0, none⟩)) ∧ z.cell? ⟨r, 0, none⟩ = some (.slice rp M.L.length rcap) ∧ z.cell? ⟨r, 3, none⟩ = some (.bool M.gone)) (by kernel_rfl) ⟨s0', t0', c0', c3'⟩ (fun hHeld => ?_)
  refine tk (oi := { dst := some 14, op := Op.move (Operand.tmp 5), type := 34, pos := "law.go:166", after := #[], guard := none }) (v := ?_) 0 rfl ?_ ?_
  rotate_left
  · (intro w hSw; (try dsimp only at hSw); first | (go_simp; done) | (go_simp; with_reducible rfl))
  try simp only [Act.put, List.setIfInBounds_toArray, List.set_cons_zero, List.set_cons_succ]
  refine tk (oi := { dst := some 15, op := Op.call { callee := Callee.builtin Builtin.len, args := #[Operand.tmp 14], argTypes := #[34] }, type := 3, pos := "law.go:166", after := #[{ on := 0, ground := Ground.data }], guard := none }) (v := ?_) 1 rfl ?_ ?_
  rotate_left
  · (intro w hSw; (try dsimp only at hSw); first | (go_simp; done) | (go_simp; with_reducible rfl))
  try simp only [Act.put, List.setIfInBounds_toArray, List.set_cons_zero, List.set_cons_succ]
  refine tk (oi := { dst := some 16, op := Op.move (Operand.tmp 1), type := 26, pos := "law.go:166", after := #[], guard := none }) (v := ?_) 2 rfl ?_ ?_
  rotate_left
  · (intro w hSw; (try dsimp only at hSw); first | (go_simp; done) | (go_simp; with_reducible rfl))
  try simp only [Act.put, List.setIfInBounds_toArray, List.set_cons_zero, List.set_cons_succ]
  refine tk (oi := { dst := some 17, op := Op.nilCheck (Operand.tmp 16), type := 0, pos := "law.go:166", after := #[{ on := 2, ground := Ground.data }], guard := none }) (v := ?_) 3 rfl ?_ ?_
  rotate_left
  · (intro w hSw; (try dsimp only at hSw); first | (go_simp; done) | (go_simp; with_reducible rfl))
  try simp only [Act.put, List.setIfInBounds_toArray, List.set_cons_zero, List.set_cons_succ]
  refine tk (oi := { dst := some 18, op := Op.fieldAddr 60 (Operand.tmp 17) 0, type := 0, pos := "law.go:166", after := #[{ on := 3, ground := Ground.data }], guard := none }) (v := ?_) 4 rfl ?_ ?_
  rotate_left
  · (intro w hSw; (try dsimp only at hSw); first | (go_simp; done) | (go_simp; with_reducible rfl))
  try simp only [Act.put, List.setIfInBounds_toArray, List.set_cons_zero, List.set_cons_succ]
  refine tk (oi := { dst := some 19, op := Op.load 45 (Operand.tmp 18), type := 45, pos := "law.go:166", after := #[{ on := 4, ground := Ground.data }], guard := none }) (v := ?_) 5 rfl ?_ ?_
  rotate_left
  · (intro w hSw; (try dsimp only at hSw); first | (go_simp; done) | (go_simp; with_reducible rfl))
  try simp only [Act.put, List.setIfInBounds_toArray, List.set_cons_zero, List.set_cons_succ]
  refine tk (oi := { dst := some 20, op := Op.nilCheck (Operand.tmp 19), type := 0, pos := "law.go:166", after := #[{ on := 5, ground := Ground.data }], guard := none }) (v := ?_) 6 rfl ?_ ?_
  rotate_left
  · (intro w hSw; (try dsimp only at hSw); first | (go_simp; done) | (go_simp; with_reducible rfl))
  try simp only [Act.put, List.setIfInBounds_toArray, List.set_cons_zero, List.set_cons_succ]
  refine tk (oi := { dst := some 21, op := Op.fieldAddr 80 (Operand.tmp 20) 0, type := 0, pos := "law.go:166", after := #[{ on := 6, ground := Ground.data }], guard := none }) (v := ?_) 7 rfl ?_ ?_
  rotate_left
  · (intro w hSw; (try dsimp only at hSw); first | (go_simp; done) | (go_simp; with_reducible rfl))
  try simp only [Act.put, List.setIfInBounds_toArray, List.set_cons_zero, List.set_cons_succ]
  refine tk (oi := { dst := some 22, op := Op.load 78 (Operand.tmp 21), type := 78, pos := "law.go:166", after := #[{ on := 7, ground := Ground.data }], guard := none }) (v := ?_) 8 rfl ?_ ?_
  rotate_left
  · (intro w hSw; (try dsimp only at hSw); first | (go_simp; done) | (go_simp; with_reducible rfl))
  try simp only [Act.put, List.setIfInBounds_toArray, List.set_cons_zero, List.set_cons_succ]
  refine tk (oi := { dst := some 23, op := Op.call { callee := Callee.builtin Builtin.len, args := #[Operand.tmp 22], argTypes := #[78] }, type := 3, pos := "law.go:166", after := #[{ on := 8, ground := Ground.data }], guard := none }) (v := ?_) 9 rfl ?_ ?_
  rotate_left
  · (intro w hSw; (try dsimp only at hSw); first | (go_simp; done) | (go_simp; with_reducible rfl))
  try simp only [Act.put, List.setIfInBounds_toArray, List.set_cons_zero, List.set_cons_succ]
  refine tk (oi := { dst := some 24, op := Op.binOp BinOp.neq 3 (Operand.tmp 15) (Operand.tmp 23) 3, type := 4, pos := "law.go:166", after := #[{ on := 1, ground := Ground.data }, { on := 9, ground := Ground.data }], guard := none }) (v := ?_) 10 rfl ?_ ?_
  rotate_left
  · (intro w hSw; (try dsimp only at hSw); first | (go_simp; done) | (go_simp; with_reducible rfl))
  try simp only [Act.put, List.setIfInBounds_toArray, List.set_cons_zero, List.set_cons_succ]
  refine tk (oi := { dst := some 25, op := Op.move (Operand.tmp 24), type := 4, pos := "law.go:166", after := #[{ on := 10, ground := Ground.data }], guard := none }) (v := ?_) 11 rfl ?_ ?_
  rotate_left
  · (intro w hSw; (try dsimp only at hSw); first | (go_simp; done) | (go_simp; with_reducible rfl))
  try simp only [Act.put, List.setIfInBounds_toArray, List.set_cons_zero, List.set_cons_succ]
  refine tk (oi := { dst := some 26, op := Op.move (Operand.tmp 0), type := 25, pos := "law.go:166", after := #[{ on := 11, ground := Ground.guard }], guard := some (11, false) }) (v := ?_) 12 rfl ?_ ?_
  rotate_left
  · (intro w hSw; (try dsimp only at hSw); first | (go_simp; done) | (go_simp; with_reducible rfl))
  try simp only [Act.put, List.setIfInBounds_toArray, List.set_cons_zero, List.set_cons_succ]
  refine tk (oi := { dst := some 27, op := Op.nilCheck (Operand.tmp 26), type := 0, pos := "law.go:166", after := #[{ on := 12, ground := Ground.data }, { on := 11, ground := Ground.guard }], guard := some (11, false) }) (v := ?_) 13 rfl ?_ ?_
  rotate_left
  · (intro w hSw; (try dsimp only at hSw); first | (go_simp; done) | (go_simp; with_reducible rfl))
  try simp only [Act.put, List.setIfInBounds_toArray, List.set_cons_zero, List.set_cons_succ]
  refine tk (oi := { dst := some 28, op := Op.fieldAddr 58 (Operand.tmp 27) 0, type := 0, pos := "law.go:166", after := #[{ on := 13, ground := Ground.data }, { on := 11, ground := Ground.guard }], guard := some (11, false) }) (v := ?_) 14 rfl ?_ ?_
  rotate_left
  · (intro w hSw; (try dsimp only at hSw); first | (go_simp; done) | (go_simp; with_reducible rfl))
  try simp only [Act.put, List.setIfInBounds_toArray, List.set_cons_zero, List.set_cons_succ]
  refine tk (oi := { dst := some 29, op := Op.load 42 (Operand.tmp 28), type := 42, pos := "law.go:166", after := #[{ on := 14, ground := Ground.data }, { on := 11, ground := Ground.guard }], guard := some (11, false) }) (v := ?_) 15 rfl ?_ ?_
  rotate_left
  · (intro w hSw; (try dsimp only at hSw); first | (go_simp; done) | (go_simp; with_reducible rfl))
  try simp only [Act.put, List.setIfInBounds_toArray, List.set_cons_zero, List.set_cons_succ]
  refine tk (oi := { dst := some 31, op := Op.move (Operand.tmp 1), type := 26, pos := "law.go:166", after := #[{ on := 11, ground := Ground.guard }], guard := some (11, false) }) (v := ?_) 17 rfl ?_ ?_
  rotate_left
  · (intro w hSw; (try dsimp only at hSw); first | (go_simp; done) | (go_simp; with_reducible rfl))
  try simp only [Act.put, List.setIfInBounds_toArray, List.set_cons_zero, List.set_cons_succ]
  refine tk (oi := { dst := some 32, op := Op.nilCheck (Operand.tmp 31), type := 0, pos := "law.go:166", after := #[{ on := 17, ground := Ground.data }, { on := 11, ground := Ground.guard }], guard := some (11, false) }) (v := ?_) 18 rfl ?_ ?_
  rotate_left
  · (intro w hSw; (try dsimp only at hSw); first | (go_simp; done) | (go_simp; with_reducible rfl))
  try simp only [Act.put, List.setIfInBounds_toArray, List.set_cons_zero, List.set_cons_succ]
  refine tk (oi := { dst := some 33, op := Op.fieldAddr 60 (Operand.tmp 32) 0, type := 0, pos := "law.go:166", after := #[{ on := 18, ground := Ground.data }, { on := 11, ground := Ground.guard }], guard := some (11, false) }) (v := ?_) 19 rfl ?_ ?_
  rotate_left
  · (intro w hSw; (try dsimp only at hSw); first | (go_simp; done) | (go_simp; with_reducible rfl))
  try simp only [Act.put, List.setIfInBounds_toArray, List.set_cons_zero, List.set_cons_succ]
  refine tk (oi := { dst := some 34, op := Op.load 45 (Operand.tmp 33), type := 45, pos := "law.go:166", after := #[{ on := 19, ground := Ground.data }, { on := 11, ground := Ground.guard }], guard := some (11, false) }) (v := ?_) 20 rfl ?_ ?_
  rotate_left
  · (intro w hSw; (try dsimp only at hSw); first | (go_simp; done) | (go_simp; with_reducible rfl))
  try simp only [Act.put, List.setIfInBounds_toArray, List.set_cons_zero, List.set_cons_succ]
  refine tk (oi := { dst := some 35, op := Op.nilCheck (Operand.tmp 34), type := 0, pos := "law.go:166", after := #[{ on := 20, ground := Ground.data }, { on := 11, ground := Ground.guard }], guard := some (11, false) }) (v := ?_) 21 rfl ?_ ?_
  rotate_left
  · (intro w hSw; (try dsimp only at hSw); first | (go_simp; done) | (go_simp; with_reducible rfl))
  try simp only [Act.put, List.setIfInBounds_toArray, List.set_cons_zero, List.set_cons_succ]
  refine tk (oi := { dst := some 36, op := Op.fieldAddr 80 (Operand.tmp 35) 3, type := 0, pos := "law.go:166", after := #[{ on := 21, ground := Ground.data }, { on := 11, ground := Ground.guard }], guard := some (11, false) }) (v := ?_) 22 rfl ?_ ?_
  rotate_left
  · (intro w hSw; (try dsimp only at hSw); first | (go_simp; done) | (go_simp; with_reducible rfl))
  try simp only [Act.put, List.setIfInBounds_toArray, List.set_cons_zero, List.set_cons_succ]
  refine tk (oi := { dst := some 37, op := Op.load 4 (Operand.tmp 36), type := 4, pos := "law.go:166", after := #[{ on := 22, ground := Ground.data }, { on := 11, ground := Ground.guard }], guard := some (11, false) }) (v := ?_) 23 rfl ?_ ?_
  rotate_left
  · (intro w hSw; (try dsimp only at hSw); first | (go_simp; done) | (go_simp; with_reducible rfl))
  try simp only [Act.put, List.setIfInBounds_toArray, List.set_cons_zero, List.set_cons_succ]
  refine wpAnyH_ready (rs := [16]) (by kernel_rfl) (by simp) ?_
  refine AllReadyH.cons (o := { dst := some 30, op := Op.call { callee := Callee.value (Operand.func 22), args := #[Operand.tmp 29], argTypes := #[42] }, type := 4, pos := "law.go:166", after := #[{ on := 15, ground := Ground.data }, { on := 11, ground := Ground.chain }, { on := 11, ground := Ground.guard }], guard := some (11, false) }) rfl (fun K hK => ?_) AllReadyH.nil
  go_simp
  refine (lw_dead HX.out (HB1.out.trans (Bel.refl w1).drew)).mono ?_
  rintro e w2 ⟨rfl, -, hb2⟩
  have HN2 := Lib.hid ((Bel.refl w1).drew.trans hb2)
  have HB2 := Lib.hid (HB1.out.trans HN2.out)
  clear hb2
  dsimp only
  refine hK.out _ _ ⟨cell_later HB2.out HS0.out, cell_later HB2.out HT0.out, cell_later HB2.out HC0.out, cell_later HB2.out HC3.out⟩ (fun hHeld => ?_)
  clear hK K
  try simp only [Act.put, List.setIfInBounds_toArray, List.set_cons_zero, List.set_cons_succ]
  refine tk (oi := { dst := some 38, op := Op.binOp BinOp.neq 4 (Operand.tmp 30) (Operand.tmp 37) 4, type := 4, pos := "law.go:166", after := #[{ on := 16, ground := Ground.data }, { on := 23, ground := Ground.data }, { on := 11, ground := Ground.guard }], guard := some (11, false) }) (v := ?_) 24 rfl ?_ ?_
  rotate_left
  · (intro w hSw; (try dsimp only at hSw); first | (go_simp; done) | (go_simp; with_reducible rfl))
  try simp only [Act.put, List.setIfInBounds_toArray, List.set_cons_zero, List.set_cons_succ]
  refine tk (oi := { dst := some 39, op := Op.pick (Operand.tmp 25) (Operand.const (Value.bool true)) (Operand.tmp 38), type := 4, pos := "law.go:166", after := #[{ on := 11, ground := Ground.data }, { on := 24, ground := Ground.data }], guard := none }) (v := ?_) 25 rfl ?_ ?_
  rotate_left
  · (intro w hSw; (try dsimp only at hSw); first | (go_simp; done) | (go_simp; with_reducible rfl))
  try simp only [Act.put, List.setIfInBounds_toArray, List.set_cons_zero, List.set_cons_succ]
  refine tk (oi := { dst := some 40, op := Op.move (Operand.tmp 39), type := 4, pos := "law.go:166", after := #[{ on := 25, ground := Ground.data }, { on := 16, ground := Ground.chain }], guard := none }) (v := ?_) 26 rfl ?_ ?_
  rotate_left
  · (intro w hSw; (try dsimp only at hSw); first | (go_simp; done) | (go_simp; with_reducible rfl))
  try simp only [Act.put, List.setIfInBounds_toArray, List.set_cons_zero, List.set_cons_succ]
  refine tk (oi := { dst := some 41, op := Op.move (Operand.tmp 0), type := 25, pos := "law.go:166", after := #[{ on := 26, ground := Ground.guard }], guard := some (26, false) }) (v := ?_) 27 rfl ?_ ?_
  rotate_left
  · (intro w hSw; (try dsimp only at hSw); first | (go_simp; done) | (go_simp; with_reducible rfl))
  try simp only [Act.put, List.setIfInBounds_toArray, List.set_cons_zero, List.set_cons_succ]
  refine tk (oi := { dst := some 42, op := Op.nilCheck (Operand.tmp 41), type := 0, pos := "law.go:166", after := #[{ on := 27, ground := Ground.data }, { on := 26, ground := Ground.guard }], guard := some (26, false) }) (v := ?_) 28 rfl ?_ ?_
  rotate_left
  · (intro w hSw; (try dsimp only at hSw); first | (go_simp; done) | (go_simp; with_reducible rfl))
  try simp only [Act.put, List.setIfInBounds_toArray, List.set_cons_zero, List.set_cons_succ]
  refine tk (oi := { dst := some 43, op := Op.fieldAddr 58 (Operand.tmp 42) 0, type := 0, pos := "law.go:166", after := #[{ on := 28, ground := Ground.data }, { on := 26, ground := Ground.guard }], guard := some (26, false) }) (v := ?_) 29 rfl ?_ ?_
  rotate_left
  · (intro w hSw; (try dsimp only at hSw); first | (go_simp; done) | (go_simp; with_reducible rfl))
  try simp only [Act.put, List.setIfInBounds_toArray, List.set_cons_zero, List.set_cons_succ]
  refine tk (oi := { dst := some 44, op := Op.load 42 (Operand.tmp 43), type := 42, pos := "law.go:166", after := #[{ on := 29, ground := Ground.data }, { on := 26, ground := Ground.guard }], guard := some (26, false) }) (v := ?_) 30 rfl ?_ ?_
  rotate_left
  · (intro w hSw; (try dsimp only at hSw); first | (go_simp; done) | (go_simp; with_reducible rfl))
  try simp only [Act.put, List.setIfInBounds_toArray, List.set_cons_zero, List.set_cons_succ]
  refine tk (oi := { dst := some 46, op := Op.move (Operand.tmp 1), type := 26, pos := "law.go:166", after := #[{ on := 26, ground := Ground.guard }], guard := some (26, false) }) (v := ?_) 32 rfl ?_ ?_
  rotate_left
  · (intro w hSw; (try dsimp only at hSw); first | (go_simp; done) | (go_simp; with_reducible rfl))
  try simp only [Act.put, List.setIfInBounds_toArray, List.set_cons_zero, List.set_cons_succ]
  refine tk (oi := { dst := some 47, op := Op.nilCheck (Operand.tmp 46), type := 0, pos := "law.go:166", after := #[{ on := 32, ground := Ground.data }, { on := 26, ground := Ground.guard }], guard := some (26, false) }) (v := ?_) 33 rfl ?_ ?_
  rotate_left
  · (intro w hSw; (try dsimp only at hSw); first | (go_simp; done) | (go_simp; with_reducible rfl))
  try simp only [Act.put, List.setIfInBounds_toArray, List.set_cons_zero, List.set_cons_succ]
  refine tk (oi := { dst := some 48, op := Op.fieldAddr 60 (Operand.tmp 47) 0, type := 0, pos := "law.go:166", after := #[{ on := 33, ground := Ground.data }, { on := 26, ground := Ground.guard }], guard := some (26, false) }) (v := ?_) 34 rfl ?_ ?_
  rotate_left
  · (intro w hSw; (try dsimp only at hSw); first | (go_simp; done) | (go_simp; with_reducible rfl))
  try simp only [Act.put, List.setIfInBounds_toArray, List.set_cons_zero, List.set_cons_succ]
  refine tk (oi := { dst := some 49, op := Op.load 45 (Operand.tmp 48), type := 45, pos := "law.go:166", after := #[{ on := 34, ground := Ground.data }, { on := 26, ground := Ground.guard }], guard := some (26, false) }) (v := ?_) 35 rfl ?_ ?_
  rotate_left
  · (intro w hSw; (try dsimp only at hSw); first | (go_simp; done) | (go_simp; with_reducible rfl))
  try simp only [Act.put, List.setIfInBounds_toArray, List.set_cons_zero, List.set_cons_succ]
  refine wpAnyH_ready (rs := [31]) (by kernel_rfl) (by simp) ?_
  refine AllReadyH.cons (o := { dst := some 45, op := Op.call { callee := Callee.value (Operand.func 38), args := #[Operand.tmp 44], argTypes := #[42] }, type := 3, pos := "law.go:166", after := #[{ on := 30, ground := Ground.data }, { on := 26, ground := Ground.chain }, { on := 26, ground := Ground.guard }], guard := some (26, false) }) rfl (fun K hK => ?_) AllReadyH.nil
  go_simp
  refine (lw_used HX.out HB2.out).mono ?_
  rintro e w3 ⟨rfl, -, hb3⟩
  have HN3 := Lib.hid (HN2.out.trans hb3)
  have HB3 := Lib.hid (HB1.out.trans HN3.out)
  clear hb3
  dsimp only
  refine hK.out _ _ ⟨cell_later HB3.out HS0.out, cell_later HB3.out HT0.out, cell_later HB3.out HC0.out, cell_later HB3.out HC3.out⟩ (fun hHeld => ?_)
  clear hK K
  try simp only [Act.put, List.setIfInBounds_toArray, List.set_cons_zero, List.set_cons_succ]
  refine wpAnyH_ready (rs := [36]) (by kernel_rfl) (by simp) ?_
  refine AllReadyH.cons (o := { dst := some 50, op := Op.call { callee := Callee.value (Operand.func 39), args := #[Operand.tmp 49], argTypes := #[45] }, type := 3, pos := "law.go:166", after := #[{ on := 35, ground := Ground.data }, { on := 31, ground := Ground.chain }, { on := 26, ground := Ground.guard }], guard := some (26, false) }) rfl (fun K hK => ?_) AllReadyH.nil
  go_simp
  refine (lw_rused HX.out HB3.out).mono ?_
  rintro e w4 ⟨rfl, -, hb4⟩
  have HN4 := Lib.hid (HN3.out.trans hb4)
  have HB4 := Lib.hid (HB1.out.trans HN4.out)
  clear hb4
  dsimp only
  refine hK.out _ _ ⟨cell_later HB4.out HS0.out, cell_later HB4.out HT0.out, cell_later HB4.out HC0.out, cell_later HB4.out HC3.out⟩ (fun hHeld => ?_)
  clear hK K
  try simp only [Act.put, List.setIfInBounds_toArray, List.set_cons_zero, List.set_cons_succ]
  refine tk (oi := { dst := some 51, op := Op.binOp BinOp.neq 3 (Operand.tmp 45) (Operand.tmp 50) 3, type := 4, pos := "law.go:166", after := #[{ on := 31, ground := Ground.data }, { on := 36, ground := Ground.data }, { on := 26, ground := Ground.guard }], guard := some (26, false) }) (v := ?_) 37 rfl ?_ ?_
  rotate_left
  · (intro w hSw; (try dsimp only at hSw); first | (go_simp; done) | (go_simp; with_reducible rfl))
  try simp only [Act.put, List.setIfInBounds_toArray, List.set_cons_zero, List.set_cons_succ]
  refine tk (oi := { dst := some 52, op := Op.pick (Operand.tmp 40) (Operand.const (Value.bool true)) (Operand.tmp 51), type := 4, pos := "law.go:166", after := #[{ on := 26, ground := Ground.data }, { on := 37, ground := Ground.data }], guard := none }) (v := ?_) 38 rfl ?_ ?_
  rotate_left
  · (intro w hSw; (try dsimp only at hSw); first | (go_simp; done) | (go_simp; with_reducible rfl))
  try simp only [Act.put, List.setIfInBounds_toArray, List.set_cons_zero, List.set_cons_succ]
  refine wpAnyH_done (by kernel_rfl) ?_ _
  clear s0' t0' c0' c3' hHeld
  have HNB := HN4
  go_wp2_with (fail)
  go_loopw [6] (fun i y => JalRel w4 M.L.length i y) (fun i _ => M.L.length - (intOf i).toNat)
  case atStart => exact ⟨0, rfl, Nat.zero_le _, Bel.refl _⟩
  case round =>
    obtain ⟨k, rfl, hk, hbel⟩ := hrel
    have HB := Lib.hid (HB4.out.trans hbel)
    have HBW := Lib.hid hbel
    clear hbel
    by_cases hlt : k < M.L.length
    · have hne : M.L.map (·.name) ≠ [] := by intro e; rw [List.map_eq_nil_iff] at e; rw [e] at hlt; simp at hlt
      obtain ⟨g, ncap', hv, _, hgl, _, hcs⟩ := ownG_cells strOk (HNM.out.bel (HNB.out.trans HBW.out)) hne
      rw [List.length_map] at hv
      simp only [Value.slice.injEq, true_and] at hv
      obtain ⟨rfl, rfl⟩ := hv
      have hne2 : M.L ≠ [] := by intro e; rw [e] at hlt; simp at hlt
      obtain ⟨g2, rcap', hv, _, hgl2, _, hcs2⟩ := ownG_cells fileOk (HR.out.own.bel HB.out) hne2
      simp only [Value.slice.injEq, true_and] at hv
      obtain ⟨rfl, rfl⟩ := hv
      obtain ⟨y, hy⟩ : ∃ y, y = M.L[k] := ⟨_, rfl⟩
      have e0 := hcs k M.L[k].name (by rw [List.getElem?_map, List.getElem?_eq_getElem hlt]; rfl) 0 _ rfl
      rw [← hy] at e0
      simp only [strEl, Nat.mul_one, Nat.add_zero] at e0
      have f0 := hcs2 k y (by rw [hy, List.getElem?_eq_getElem hlt]) 0 _ rfl
      have f1 := hcs2 k y (by rw [hy, List.getElem?_eq_getElem hlt]) 1 _ rfl
      simp only [fileEl, Nat.add_zero] at f0 f1
      have a0 := cell_later HB.out HC0.out
      have a3 := cell_later HB.out HC3.out
      have p0 := cell_later HB.out HS0.out
      have m0 := cell_later HB.out HT0.out
      have hym : y ∈ M.L := by rw [hy]; exact List.getElem_mem hlt
      have hgy := getF_of_mem HM.out.srt hym
      have hyn := name_len (HM.out.each y hym).1
      have hnmL : (⟨y.name.toArray⟩ : ByteArray).data.toList = y.name := by simp
      have hsz : (⟨y.name.toArray⟩ : ByteArray).size ≤ maxLen := by show y.name.toArray.size ≤ _; rw [List.size_toArray]; unfold maxLen; omega
      have HC := Lib.hid (fun z (hz : Bel x z) => lw_get HX.out hz (⟨y.name.toArray⟩ : ByteArray) hsz)
      clear hy
      cases hg : M.gone with
      | true =>
        have HGS := Lib.hid (show getS (⟨y.name.toArray⟩ : ByteArray).data.toList M = ([], 7) by unfold getS; rw [hg]; rfl)
        have HC' := Lib.hid (show ∀ z, Bel x z → Calls Tryz.prog 40 #[.pointer (some ⟨b, 0, none⟩), .string ⟨y.name.toArray⟩] z fun e y' => e = .returned (.tuple #[.string ⟨([] : List UInt8).toArray⟩, .int .i64 7]) ∧ LW w y' ws ms b r jb rb M M nm most R ∧ Bel z y' from fun z hz => by
          have := HC.out z hz
          rw [HGS.out] at this
          exact this)
        rw [hg] at a3
        clear hym hgy hyn hnmL hsz hcs hcs2 hne hne2 hg HC HGS
        go_wp2_with (fail)
        refine wp_region_held_drew (S := fun z => z.cell? ⟨ws, 0, none⟩ = some (.pointer (some ⟨b, 0, none⟩)) ∧ z.cell? ⟨g, k, none⟩ = some (.string ⟨y.name.toArray⟩)) (by kernel_rfl) ⟨p0, e0⟩ (fun hHeld => ?_)
        refine tk (oi := { dst := some 60, op := Op.move (Operand.tmp 0), type := 25, pos := "law.go:170", after := #[], guard := none }) (v := ?_) 0 rfl ?_ ?_
        rotate_left
        · (intro w hSw; (try dsimp only at hSw); first | (go_simp; done) | (go_simp; with_reducible rfl))
        try simp only [Act.put, List.setIfInBounds_toArray, List.set_cons_zero, List.set_cons_succ]
        refine tk (oi := { dst := some 61, op := Op.nilCheck (Operand.tmp 60), type := 0, pos := "law.go:170", after := #[{ on := 0, ground := Ground.data }], guard := none }) (v := ?_) 1 rfl ?_ ?_
        rotate_left
        · (intro w hSw; (try dsimp only at hSw); first | (go_simp; done) | (go_simp; with_reducible rfl))
        try simp only [Act.put, List.setIfInBounds_toArray, List.set_cons_zero, List.set_cons_succ]
        refine tk (oi := { dst := some 62, op := Op.fieldAddr 58 (Operand.tmp 61) 0, type := 0, pos := "law.go:170", after := #[{ on := 1, ground := Ground.data }], guard := none }) (v := ?_) 2 rfl ?_ ?_
        rotate_left
        · (intro w hSw; (try dsimp only at hSw); first | (go_simp; done) | (go_simp; with_reducible rfl))
        try simp only [Act.put, List.setIfInBounds_toArray, List.set_cons_zero, List.set_cons_succ]
        refine tk (oi := { dst := some 63, op := Op.load 42 (Operand.tmp 62), type := 42, pos := "law.go:170", after := #[{ on := 2, ground := Ground.data }], guard := none }) (v := ?_) 3 rfl ?_ ?_
        rotate_left
        · (intro w hSw; (try dsimp only at hSw); first | (go_simp; done) | (go_simp; with_reducible rfl))
        try simp only [Act.put, List.setIfInBounds_toArray, List.set_cons_zero, List.set_cons_succ]
        refine tk (oi := { dst := some 64, op := Op.move (Operand.tmp 5), type := 34, pos := "law.go:170", after := #[], guard := none }) (v := ?_) 4 rfl ?_ ?_
        rotate_left
        · (intro w hSw; (try dsimp only at hSw); first | (go_simp; done) | (go_simp; with_reducible rfl))
        try simp only [Act.put, List.setIfInBounds_toArray, List.set_cons_zero, List.set_cons_succ]
        refine tk (oi := { dst := some 65, op := Op.move (Operand.tmp 6), type := 3, pos := "law.go:170", after := #[], guard := none }) (v := ?_) 5 rfl ?_ ?_
        rotate_left
        · (intro w hSw; (try dsimp only at hSw); first | (go_simp; done) | (go_simp; with_reducible rfl))
        try simp only [Act.put, List.setIfInBounds_toArray, List.set_cons_zero, List.set_cons_succ]
        refine tk (oi := { dst := some 66, op := Op.indexAddr 34 (Operand.tmp 64) (Operand.tmp 65), type := 0, pos := "law.go:170", after := #[{ on := 4, ground := Ground.data }, { on := 5, ground := Ground.data }], guard := none }) (v := ?_) 6 rfl ?_ ?_
        rotate_left
        · (intro w hSw; (try dsimp only at hSw); first | (go_simp; done) | (go_simp; with_reducible rfl))
        try simp only [Act.put, List.setIfInBounds_toArray, List.set_cons_zero, List.set_cons_succ]
        refine tk (oi := { dst := some 67, op := Op.load 9 (Operand.tmp 66), type := 9, pos := "law.go:170", after := #[{ on := 6, ground := Ground.data }], guard := none }) (v := ?_) 7 rfl ?_ ?_
        rotate_left
        · (intro w hSw; (try dsimp only at hSw); first | (go_simp; done) | (go_simp; with_reducible rfl))
        try simp only [Act.put, List.setIfInBounds_toArray, List.set_cons_zero, List.set_cons_succ]
        refine wpAnyH_ready (rs := [8]) (by kernel_rfl) (by simp) ?_
        refine AllReadyH.cons (o := { dst := some 68, op := Op.call { callee := Callee.value (Operand.func 40), args := #[Operand.tmp 63, Operand.tmp 67], argTypes := #[42, 9] }, type := 73, pos := "law.go:170", after := #[{ on := 3, ground := Ground.data }, { on := 7, ground := Ground.data }], guard := none }) rfl (fun K hK => ?_) AllReadyH.nil
        go_simp
        refine (HC'.out _ (HB.out.trans (Bel.refl _).drew)).mono ?_
        rintro e w6 ⟨rfl, -, hb6⟩
        have HBK := Lib.hid ((Bel.refl wr).drew.trans hb6)
        have e0' := cell_later HBK.out e0
        have f0' := cell_later HBK.out f0
        have f1' := cell_later HBK.out f1
        have a0' := cell_later HBK.out a0
        have a3' := cell_later HBK.out a3
        have p0' := cell_later HBK.out p0
        have m0' := cell_later HBK.out m0
        clear hb6
        dsimp only
        refine hK.out _ _ ⟨p0', e0'⟩ (fun hHeld => ?_)
        clear hK K
        try simp only [Act.put, List.setIfInBounds_toArray, List.set_cons_zero, List.set_cons_succ]
        refine tk (oi := { dst := some 59, op := Op.move (Operand.tmp 68), type := 73, pos := "law.go:170", after := #[{ on := 8, ground := Ground.data }], guard := none }) (v := ?_) 9 rfl ?_ ?_
        rotate_left
        · (intro w hSw; (try dsimp only at hSw); first | (go_simp; done) | (go_simp; with_reducible rfl))
        try simp only [Act.put, List.setIfInBounds_toArray, List.set_cons_zero, List.set_cons_succ]
        refine tk (oi := { dst := some 69, op := Op.extract (Operand.tmp 59) 0, type := 9, pos := "law.go:170", after := #[{ on := 9, ground := Ground.data }], guard := none }) (v := ?_) 10 rfl ?_ ?_
        rotate_left
        · (intro w hSw; (try dsimp only at hSw); first | (go_simp; done) | (go_simp; with_reducible rfl))
        try simp only [Act.put, List.setIfInBounds_toArray, List.set_cons_zero, List.set_cons_succ]
        refine tk (oi := { dst := some 70, op := Op.extract (Operand.tmp 59) 1, type := 31, pos := "law.go:170", after := #[{ on := 9, ground := Ground.data }, { on := 12, ground := Ground.gcOnly Departure.lateStores }], guard := none }) (v := ?_) 11 rfl ?_ ?_
        rotate_left
        · (intro w hSw; (try dsimp only at hSw); first | (go_simp; done) | (go_simp; with_reducible rfl))
        try simp only [Act.put, List.setIfInBounds_toArray, List.set_cons_zero, List.set_cons_succ]
        refine tk (oi := { dst := some 7, op := Op.assign (Operand.tmp 69), type := 9, pos := "law.go:170", after := #[{ on := 10, ground := Ground.data }, { on := 8, ground := Ground.chain }, { on := 0, ground := Ground.phase }, { on := 1, ground := Ground.phase }, { on := 2, ground := Ground.phase }, { on := 3, ground := Ground.phase }, { on := 4, ground := Ground.phase }, { on := 5, ground := Ground.phase }, { on := 6, ground := Ground.phase }, { on := 7, ground := Ground.phase }, { on := 8, ground := Ground.phase }, { on := 9, ground := Ground.phase }, { on := 10, ground := Ground.phase }, { on := 11, ground := Ground.textOnly Departure.lateStores }], guard := none }) (v := ?_) 12 rfl ?_ ?_
        rotate_left
        · (intro w hSw; (try dsimp only at hSw); first | (go_simp; done) | (go_simp; with_reducible rfl))
        try simp only [Act.put, List.setIfInBounds_toArray, List.set_cons_zero, List.set_cons_succ]
        refine tk (oi := { dst := some 8, op := Op.assign (Operand.tmp 70), type := 31, pos := "law.go:170", after := #[{ on := 11, ground := Ground.data }, { on := 12, ground := Ground.chain }, { on := 0, ground := Ground.phase }, { on := 1, ground := Ground.phase }, { on := 2, ground := Ground.phase }, { on := 3, ground := Ground.phase }, { on := 4, ground := Ground.phase }, { on := 5, ground := Ground.phase }, { on := 6, ground := Ground.phase }, { on := 7, ground := Ground.phase }, { on := 8, ground := Ground.phase }, { on := 9, ground := Ground.phase }, { on := 10, ground := Ground.phase }, { on := 11, ground := Ground.phase }, { on := 12, ground := Ground.phase }], guard := none }) (v := ?_) 13 rfl ?_ ?_
        rotate_left
        · (intro w hSw; (try dsimp only at hSw); first | (go_simp; done) | (go_simp; with_reducible rfl))
        try simp only [Act.put, List.setIfInBounds_toArray, List.set_cons_zero, List.set_cons_succ]
        refine wpAnyH_done (by kernel_rfl) ?_ _
        clear e0 f0 f1 a0 a3 p0 m0 p0'
        go_wp2_with (fail)
        refine wp_region_held_drew (S := fun z => z.cell? ⟨g, k, none⟩ = some (.string ⟨y.name.toArray⟩) ∧ z.cell? ⟨ms, 0, none⟩ = some (.pointer (some ⟨r, 0, none⟩)) ∧ z.cell? ⟨r, 0, none⟩ = some (.slice (some ⟨g2, 0, none⟩) M.L.length rcap) ∧ z.cell? ⟨r, 3, none⟩ = some (.bool true) ∧ z.cell? ⟨g2, k * 3, none⟩ = some (.string ⟨y.name.toArray⟩)) (by kernel_rfl) ⟨e0', m0', a0', a3', f0'⟩ (fun hHeld => ?_)
        refine tk (oi := { dst := some 71, op := Op.move (Operand.tmp 5), type := 34, pos := "law.go:171", after := #[], guard := none }) (v := ?_) 0 rfl ?_ ?_
        rotate_left
        · (intro w hSw; (try dsimp only at hSw); first | (go_simp; done) | (go_simp; with_reducible rfl))
        try simp only [Act.put, List.setIfInBounds_toArray, List.set_cons_zero, List.set_cons_succ]
        refine tk (oi := { dst := some 72, op := Op.move (Operand.tmp 6), type := 3, pos := "law.go:171", after := #[], guard := none }) (v := ?_) 1 rfl ?_ ?_
        rotate_left
        · (intro w hSw; (try dsimp only at hSw); first | (go_simp; done) | (go_simp; with_reducible rfl))
        try simp only [Act.put, List.setIfInBounds_toArray, List.set_cons_zero, List.set_cons_succ]
        refine tk (oi := { dst := some 73, op := Op.indexAddr 34 (Operand.tmp 71) (Operand.tmp 72), type := 0, pos := "law.go:171", after := #[{ on := 0, ground := Ground.data }, { on := 1, ground := Ground.data }], guard := none }) (v := ?_) 2 rfl ?_ ?_
        rotate_left
        · (intro w hSw; (try dsimp only at hSw); first | (go_simp; done) | (go_simp; with_reducible rfl))
        try simp only [Act.put, List.setIfInBounds_toArray, List.set_cons_zero, List.set_cons_succ]
        refine tk (oi := { dst := some 74, op := Op.load 9 (Operand.tmp 73), type := 9, pos := "law.go:171", after := #[{ on := 2, ground := Ground.data }], guard := none }) (v := ?_) 3 rfl ?_ ?_
        rotate_left
        · (intro w hSw; (try dsimp only at hSw); first | (go_simp; done) | (go_simp; with_reducible rfl))
        try simp only [Act.put, List.setIfInBounds_toArray, List.set_cons_zero, List.set_cons_succ]
        refine tk (oi := { dst := some 75, op := Op.move (Operand.tmp 1), type := 26, pos := "law.go:171", after := #[], guard := none }) (v := ?_) 4 rfl ?_ ?_
        rotate_left
        · (intro w hSw; (try dsimp only at hSw); first | (go_simp; done) | (go_simp; with_reducible rfl))
        try simp only [Act.put, List.setIfInBounds_toArray, List.set_cons_zero, List.set_cons_succ]
        refine tk (oi := { dst := some 76, op := Op.nilCheck (Operand.tmp 75), type := 0, pos := "law.go:171", after := #[{ on := 4, ground := Ground.data }], guard := none }) (v := ?_) 5 rfl ?_ ?_
        rotate_left
        · (intro w hSw; (try dsimp only at hSw); first | (go_simp; done) | (go_simp; with_reducible rfl))
        try simp only [Act.put, List.setIfInBounds_toArray, List.set_cons_zero, List.set_cons_succ]
        refine tk (oi := { dst := some 77, op := Op.fieldAddr 60 (Operand.tmp 76) 0, type := 0, pos := "law.go:171", after := #[{ on := 5, ground := Ground.data }], guard := none }) (v := ?_) 6 rfl ?_ ?_
        rotate_left
        · (intro w hSw; (try dsimp only at hSw); first | (go_simp; done) | (go_simp; with_reducible rfl))
        try simp only [Act.put, List.setIfInBounds_toArray, List.set_cons_zero, List.set_cons_succ]
        refine tk (oi := { dst := some 78, op := Op.load 45 (Operand.tmp 77), type := 45, pos := "law.go:171", after := #[{ on := 6, ground := Ground.data }], guard := none }) (v := ?_) 7 rfl ?_ ?_
        rotate_left
        · (intro w hSw; (try dsimp only at hSw); first | (go_simp; done) | (go_simp; with_reducible rfl))
        try simp only [Act.put, List.setIfInBounds_toArray, List.set_cons_zero, List.set_cons_succ]
        refine tk (oi := { dst := some 79, op := Op.nilCheck (Operand.tmp 78), type := 0, pos := "law.go:171", after := #[{ on := 7, ground := Ground.data }], guard := none }) (v := ?_) 8 rfl ?_ ?_
        rotate_left
        · (intro w hSw; (try dsimp only at hSw); first | (go_simp; done) | (go_simp; with_reducible rfl))
        try simp only [Act.put, List.setIfInBounds_toArray, List.set_cons_zero, List.set_cons_succ]
        refine tk (oi := { dst := some 80, op := Op.fieldAddr 80 (Operand.tmp 79) 0, type := 0, pos := "law.go:171", after := #[{ on := 8, ground := Ground.data }], guard := none }) (v := ?_) 9 rfl ?_ ?_
        rotate_left
        · (intro w hSw; (try dsimp only at hSw); first | (go_simp; done) | (go_simp; with_reducible rfl))
        try simp only [Act.put, List.setIfInBounds_toArray, List.set_cons_zero, List.set_cons_succ]
        refine tk (oi := { dst := some 81, op := Op.load 78 (Operand.tmp 80), type := 78, pos := "law.go:171", after := #[{ on := 9, ground := Ground.data }], guard := none }) (v := ?_) 10 rfl ?_ ?_
        rotate_left
        · (intro w hSw; (try dsimp only at hSw); first | (go_simp; done) | (go_simp; with_reducible rfl))
        try simp only [Act.put, List.setIfInBounds_toArray, List.set_cons_zero, List.set_cons_succ]
        refine tk (oi := { dst := some 82, op := Op.move (Operand.tmp 6), type := 3, pos := "law.go:171", after := #[], guard := none }) (v := ?_) 11 rfl ?_ ?_
        rotate_left
        · (intro w hSw; (try dsimp only at hSw); first | (go_simp; done) | (go_simp; with_reducible rfl))
        try simp only [Act.put, List.setIfInBounds_toArray, List.set_cons_zero, List.set_cons_succ]
        refine tk (oi := { dst := some 83, op := Op.indexAddr 78 (Operand.tmp 81) (Operand.tmp 82), type := 0, pos := "law.go:171", after := #[{ on := 10, ground := Ground.data }, { on := 11, ground := Ground.data }], guard := none }) (v := ?_) 12 rfl ?_ ?_
        rotate_left
        · (intro w hSw; (try dsimp only at hSw); first | (go_simp; done) | (go_simp; with_reducible rfl))
        try simp only [Act.put, List.setIfInBounds_toArray, List.set_cons_zero, List.set_cons_succ]
        refine tk (oi := { dst := some 84, op := Op.fieldAddr 83 (Operand.tmp 83) 0, type := 0, pos := "law.go:171", after := #[{ on := 12, ground := Ground.data }], guard := none }) (v := ?_) 13 rfl ?_ ?_
        rotate_left
        · (intro w hSw; (try dsimp only at hSw); first | (go_simp; done) | (go_simp; with_reducible rfl))
        try simp only [Act.put, List.setIfInBounds_toArray, List.set_cons_zero, List.set_cons_succ]
        refine tk (oi := { dst := some 85, op := Op.load 9 (Operand.tmp 84), type := 9, pos := "law.go:171", after := #[{ on := 13, ground := Ground.data }], guard := none }) (v := ?_) 14 rfl ?_ ?_
        rotate_left
        · (intro w hSw; (try dsimp only at hSw); first | (go_simp; done) | (go_simp; with_reducible rfl))
        try simp only [Act.put, List.setIfInBounds_toArray, List.set_cons_zero, List.set_cons_succ]
        refine tk (oi := { dst := some 86, op := Op.binOp BinOp.neq 9 (Operand.tmp 74) (Operand.tmp 85) 9, type := 4, pos := "law.go:171", after := #[{ on := 3, ground := Ground.data }, { on := 14, ground := Ground.data }], guard := none }) (v := ?_) 15 rfl ?_ ?_
        rotate_left
        · (intro w hSw; (try dsimp only at hSw); first | (go_simp; done) | (go_simp; with_reducible rfl))
        try simp only [Act.put, List.setIfInBounds_toArray, List.set_cons_zero, List.set_cons_succ]
        refine tk (oi := { dst := some 87, op := Op.move (Operand.tmp 86), type := 4, pos := "law.go:171", after := #[{ on := 15, ground := Ground.data }], guard := none }) (v := ?_) 16 rfl ?_ ?_
        rotate_left
        · (intro w hSw; (try dsimp only at hSw); first | (go_simp; done) | (go_simp; with_reducible rfl))
        try simp only [Act.put, List.setIfInBounds_toArray, List.set_cons_zero, List.set_cons_succ]
        refine tk (oi := { dst := some 88, op := Op.move (Operand.tmp 1), type := 26, pos := "law.go:171", after := #[{ on := 16, ground := Ground.guard }], guard := some (16, false) }) (v := ?_) 17 rfl ?_ ?_
        rotate_left
        · (intro w hSw; (try dsimp only at hSw); first | (go_simp; done) | (go_simp; with_reducible rfl))
        try simp only [Act.put, List.setIfInBounds_toArray, List.set_cons_zero, List.set_cons_succ]
        refine tk (oi := { dst := some 89, op := Op.nilCheck (Operand.tmp 88), type := 0, pos := "law.go:171", after := #[{ on := 17, ground := Ground.data }, { on := 16, ground := Ground.guard }], guard := some (16, false) }) (v := ?_) 18 rfl ?_ ?_
        rotate_left
        · (intro w hSw; (try dsimp only at hSw); first | (go_simp; done) | (go_simp; with_reducible rfl))
        try simp only [Act.put, List.setIfInBounds_toArray, List.set_cons_zero, List.set_cons_succ]
        refine tk (oi := { dst := some 90, op := Op.fieldAddr 60 (Operand.tmp 89) 0, type := 0, pos := "law.go:171", after := #[{ on := 18, ground := Ground.data }, { on := 16, ground := Ground.guard }], guard := some (16, false) }) (v := ?_) 19 rfl ?_ ?_
        rotate_left
        · (intro w hSw; (try dsimp only at hSw); first | (go_simp; done) | (go_simp; with_reducible rfl))
        try simp only [Act.put, List.setIfInBounds_toArray, List.set_cons_zero, List.set_cons_succ]
        refine tk (oi := { dst := some 91, op := Op.load 45 (Operand.tmp 90), type := 45, pos := "law.go:171", after := #[{ on := 19, ground := Ground.data }, { on := 16, ground := Ground.guard }], guard := some (16, false) }) (v := ?_) 20 rfl ?_ ?_
        rotate_left
        · (intro w hSw; (try dsimp only at hSw); first | (go_simp; done) | (go_simp; with_reducible rfl))
        try simp only [Act.put, List.setIfInBounds_toArray, List.set_cons_zero, List.set_cons_succ]
        refine tk (oi := { dst := some 92, op := Op.nilCheck (Operand.tmp 91), type := 0, pos := "law.go:171", after := #[{ on := 20, ground := Ground.data }, { on := 16, ground := Ground.guard }], guard := some (16, false) }) (v := ?_) 21 rfl ?_ ?_
        rotate_left
        · (intro w hSw; (try dsimp only at hSw); first | (go_simp; done) | (go_simp; with_reducible rfl))
        try simp only [Act.put, List.setIfInBounds_toArray, List.set_cons_zero, List.set_cons_succ]
        refine tk (oi := { dst := some 93, op := Op.fieldAddr 80 (Operand.tmp 92) 3, type := 0, pos := "law.go:171", after := #[{ on := 21, ground := Ground.data }, { on := 16, ground := Ground.guard }], guard := some (16, false) }) (v := ?_) 22 rfl ?_ ?_
        rotate_left
        · (intro w hSw; (try dsimp only at hSw); first | (go_simp; done) | (go_simp; with_reducible rfl))
        try simp only [Act.put, List.setIfInBounds_toArray, List.set_cons_zero, List.set_cons_succ]
        refine tk (oi := { dst := some 94, op := Op.load 4 (Operand.tmp 93), type := 4, pos := "law.go:171", after := #[{ on := 22, ground := Ground.data }, { on := 16, ground := Ground.guard }], guard := some (16, false) }) (v := ?_) 23 rfl ?_ ?_
        rotate_left
        · (intro w hSw; (try dsimp only at hSw); first | (go_simp; done) | (go_simp; with_reducible rfl))
        try simp only [Act.put, List.setIfInBounds_toArray, List.set_cons_zero, List.set_cons_succ]
        refine tk (oi := { dst := some 95, op := Op.unOp UnOp.not 4 (Operand.tmp 94), type := 4, pos := "law.go:171", after := #[{ on := 23, ground := Ground.data }, { on := 16, ground := Ground.guard }], guard := some (16, false) }) (v := ?_) 24 rfl ?_ ?_
        rotate_left
        · (intro w hSw; (try dsimp only at hSw); first | (go_simp; done) | (go_simp; with_reducible rfl))
        try simp only [Act.put, List.setIfInBounds_toArray, List.set_cons_zero, List.set_cons_succ]
        refine tk (oi := { dst := some 96, op := Op.move (Operand.tmp 95), type := 4, pos := "law.go:171", after := #[{ on := 24, ground := Ground.data }, { on := 16, ground := Ground.chain }, { on := 16, ground := Ground.guard }], guard := some (16, false) }) (v := ?_) 25 rfl ?_ ?_
        rotate_left
        · (intro w hSw; (try dsimp only at hSw); first | (go_simp; done) | (go_simp; with_reducible rfl))
        try simp only [Act.put, List.setIfInBounds_toArray, List.set_cons_zero, List.set_cons_succ]
        refine wpAnyH_take (i := 26) (oi := { dst := some 97, op := Op.move (Operand.tmp 7), type := 9, pos := "law.go:171", after := #[{ on := 25, ground := Ground.guard }], guard := some (25, true) }) (v := undef) rfl (by kernel_rfl) (by kernel_rfl) (by kernel_rfl) (fun _ _ _ h => h) (Or.inr ⟨by rfl, rfl⟩) (by assumption) ?_
        try simp only [Act.put, List.setIfInBounds_toArray, List.set_cons_zero, List.set_cons_succ]
        refine wpAnyH_take (i := 27) (oi := { dst := some 98, op := Op.move (Operand.tmp 1), type := 26, pos := "law.go:171", after := #[{ on := 25, ground := Ground.guard }], guard := some (25, true) }) (v := undef) rfl (by kernel_rfl) (by kernel_rfl) (by kernel_rfl) (fun _ _ _ h => h) (Or.inr ⟨by rfl, rfl⟩) (by assumption) ?_
        try simp only [Act.put, List.setIfInBounds_toArray, List.set_cons_zero, List.set_cons_succ]
        refine wpAnyH_take (i := 28) (oi := { dst := some 99, op := Op.nilCheck (Operand.tmp 98), type := 0, pos := "law.go:171", after := #[{ on := 27, ground := Ground.data }, { on := 25, ground := Ground.guard }], guard := some (25, true) }) (v := undef) rfl (by kernel_rfl) (by kernel_rfl) (by kernel_rfl) (fun _ _ _ h => h) (Or.inr ⟨by rfl, rfl⟩) (by assumption) ?_
        try simp only [Act.put, List.setIfInBounds_toArray, List.set_cons_zero, List.set_cons_succ]
        refine wpAnyH_take (i := 29) (oi := { dst := some 100, op := Op.fieldAddr 60 (Operand.tmp 99) 0, type := 0, pos := "law.go:171", after := #[{ on := 28, ground := Ground.data }, { on := 25, ground := Ground.guard }], guard := some (25, true) }) (v := undef) rfl (by kernel_rfl) (by kernel_rfl) (by kernel_rfl) (fun _ _ _ h => h) (Or.inr ⟨by rfl, rfl⟩) (by assumption) ?_
        try simp only [Act.put, List.setIfInBounds_toArray, List.set_cons_zero, List.set_cons_succ]
        refine wpAnyH_take (i := 30) (oi := { dst := some 101, op := Op.load 45 (Operand.tmp 100), type := 45, pos := "law.go:171", after := #[{ on := 29, ground := Ground.data }, { on := 25, ground := Ground.guard }], guard := some (25, true) }) (v := undef) rfl (by kernel_rfl) (by kernel_rfl) (by kernel_rfl) (fun _ _ _ h => h) (Or.inr ⟨by rfl, rfl⟩) (by assumption) ?_
        try simp only [Act.put, List.setIfInBounds_toArray, List.set_cons_zero, List.set_cons_succ]
        refine wpAnyH_take (i := 31) (oi := { dst := some 102, op := Op.nilCheck (Operand.tmp 101), type := 0, pos := "law.go:171", after := #[{ on := 30, ground := Ground.data }, { on := 25, ground := Ground.guard }], guard := some (25, true) }) (v := undef) rfl (by kernel_rfl) (by kernel_rfl) (by kernel_rfl) (fun _ _ _ h => h) (Or.inr ⟨by rfl, rfl⟩) (by assumption) ?_
        try simp only [Act.put, List.setIfInBounds_toArray, List.set_cons_zero, List.set_cons_succ]
        refine wpAnyH_take (i := 32) (oi := { dst := some 103, op := Op.fieldAddr 80 (Operand.tmp 102) 0, type := 0, pos := "law.go:171", after := #[{ on := 31, ground := Ground.data }, { on := 25, ground := Ground.guard }], guard := some (25, true) }) (v := undef) rfl (by kernel_rfl) (by kernel_rfl) (by kernel_rfl) (fun _ _ _ h => h) (Or.inr ⟨by rfl, rfl⟩) (by assumption) ?_
        try simp only [Act.put, List.setIfInBounds_toArray, List.set_cons_zero, List.set_cons_succ]
        refine wpAnyH_take (i := 33) (oi := { dst := some 104, op := Op.load 78 (Operand.tmp 103), type := 78, pos := "law.go:171", after := #[{ on := 32, ground := Ground.data }, { on := 25, ground := Ground.guard }], guard := some (25, true) }) (v := undef) rfl (by kernel_rfl) (by kernel_rfl) (by kernel_rfl) (fun _ _ _ h => h) (Or.inr ⟨by rfl, rfl⟩) (by assumption) ?_
        try simp only [Act.put, List.setIfInBounds_toArray, List.set_cons_zero, List.set_cons_succ]
        refine wpAnyH_take (i := 34) (oi := { dst := some 105, op := Op.move (Operand.tmp 6), type := 3, pos := "law.go:171", after := #[{ on := 25, ground := Ground.guard }], guard := some (25, true) }) (v := undef) rfl (by kernel_rfl) (by kernel_rfl) (by kernel_rfl) (fun _ _ _ h => h) (Or.inr ⟨by rfl, rfl⟩) (by assumption) ?_
        try simp only [Act.put, List.setIfInBounds_toArray, List.set_cons_zero, List.set_cons_succ]
        refine wpAnyH_take (i := 35) (oi := { dst := some 106, op := Op.indexAddr 78 (Operand.tmp 104) (Operand.tmp 105), type := 0, pos := "law.go:171", after := #[{ on := 33, ground := Ground.data }, { on := 34, ground := Ground.data }, { on := 25, ground := Ground.guard }], guard := some (25, true) }) (v := undef) rfl (by kernel_rfl) (by kernel_rfl) (by kernel_rfl) (fun _ _ _ h => h) (Or.inr ⟨by rfl, rfl⟩) (by assumption) ?_
        try simp only [Act.put, List.setIfInBounds_toArray, List.set_cons_zero, List.set_cons_succ]
        refine wpAnyH_take (i := 36) (oi := { dst := some 107, op := Op.fieldAddr 83 (Operand.tmp 106) 1, type := 0, pos := "law.go:171", after := #[{ on := 35, ground := Ground.data }, { on := 25, ground := Ground.guard }], guard := some (25, true) }) (v := undef) rfl (by kernel_rfl) (by kernel_rfl) (by kernel_rfl) (fun _ _ _ h => h) (Or.inr ⟨by rfl, rfl⟩) (by assumption) ?_
        try simp only [Act.put, List.setIfInBounds_toArray, List.set_cons_zero, List.set_cons_succ]
        refine wpAnyH_take (i := 37) (oi := { dst := some 108, op := Op.load 9 (Operand.tmp 107), type := 9, pos := "law.go:171", after := #[{ on := 36, ground := Ground.data }, { on := 25, ground := Ground.guard }], guard := some (25, true) }) (v := undef) rfl (by kernel_rfl) (by kernel_rfl) (by kernel_rfl) (fun _ _ _ h => h) (Or.inr ⟨by rfl, rfl⟩) (by assumption) ?_
        try simp only [Act.put, List.setIfInBounds_toArray, List.set_cons_zero, List.set_cons_succ]
        refine wpAnyH_take (i := 38) (oi := { dst := some 109, op := Op.binOp BinOp.neq 9 (Operand.tmp 97) (Operand.tmp 108) 9, type := 4, pos := "law.go:171", after := #[{ on := 26, ground := Ground.data }, { on := 37, ground := Ground.data }, { on := 25, ground := Ground.guard }], guard := some (25, true) }) (v := undef) rfl (by kernel_rfl) (by kernel_rfl) (by kernel_rfl) (fun _ _ _ h => h) (Or.inr ⟨by rfl, rfl⟩) (by assumption) ?_
        try simp only [Act.put, List.setIfInBounds_toArray, List.set_cons_zero, List.set_cons_succ]
        refine tk (oi := { dst := some 110, op := Op.pick (Operand.tmp 96) (Operand.tmp 109) (Operand.const (Value.bool false)), type := 4, pos := "law.go:171", after := #[{ on := 25, ground := Ground.data }, { on := 38, ground := Ground.data }, { on := 16, ground := Ground.guard }], guard := some (16, false) }) (v := ?_) 39 rfl ?_ ?_
        rotate_left
        · (intro w hSw; (try dsimp only at hSw); first | (go_simp; done) | (go_simp; with_reducible rfl))
        try simp only [Act.put, List.setIfInBounds_toArray, List.set_cons_zero, List.set_cons_succ]
        refine tk (oi := { dst := some 111, op := Op.pick (Operand.tmp 87) (Operand.const (Value.bool true)) (Operand.tmp 110), type := 4, pos := "law.go:171", after := #[{ on := 16, ground := Ground.data }, { on := 39, ground := Ground.data }], guard := none }) (v := ?_) 40 rfl ?_ ?_
        rotate_left
        · (intro w hSw; (try dsimp only at hSw); first | (go_simp; done) | (go_simp; with_reducible rfl))
        try simp only [Act.put, List.setIfInBounds_toArray, List.set_cons_zero, List.set_cons_succ]
        refine wpAnyH_done (by kernel_rfl) ?_ _
        go_wp2_with (fail)
        go_roundw
        case rel => exact ⟨k + 1, by go_num, by omega, (HBW.out.trans HBK.out).drew⟩
        case measure => simp [intOf]; omega
      | false =>
        have HGS := Lib.hid (show getS (⟨y.name.toArray⟩ : ByteArray).data.toList M = (y.bytes, 0) by rw [hnmL]; unfold getS; rw [hg, hgy]; rfl)
        have HC' := Lib.hid (show ∀ z, Bel x z → Calls Tryz.prog 40 #[.pointer (some ⟨b, 0, none⟩), .string ⟨y.name.toArray⟩] z fun e y' => e = .returned (.tuple #[.string ⟨y.bytes.toArray⟩, .int .i64 0]) ∧ LW w y' ws ms b r jb rb M M nm most R ∧ Bel z y' from fun z hz => by
          have := HC.out z hz
          rw [HGS.out] at this
          exact this)
        rw [hg] at a3
        clear hym hgy hyn hnmL hsz hcs hcs2 hne hne2 hg HC HGS
        go_wp2_with (fail)
        refine wp_region_held_drew (S := fun z => z.cell? ⟨ws, 0, none⟩ = some (.pointer (some ⟨b, 0, none⟩)) ∧ z.cell? ⟨g, k, none⟩ = some (.string ⟨y.name.toArray⟩)) (by kernel_rfl) ⟨p0, e0⟩ (fun hHeld => ?_)
        refine tk (oi := { dst := some 60, op := Op.move (Operand.tmp 0), type := 25, pos := "law.go:170", after := #[], guard := none }) (v := ?_) 0 rfl ?_ ?_
        rotate_left
        · (intro w hSw; (try dsimp only at hSw); first | (go_simp; done) | (go_simp; with_reducible rfl))
        try simp only [Act.put, List.setIfInBounds_toArray, List.set_cons_zero, List.set_cons_succ]
        refine tk (oi := { dst := some 61, op := Op.nilCheck (Operand.tmp 60), type := 0, pos := "law.go:170", after := #[{ on := 0, ground := Ground.data }], guard := none }) (v := ?_) 1 rfl ?_ ?_
        rotate_left
        · (intro w hSw; (try dsimp only at hSw); first | (go_simp; done) | (go_simp; with_reducible rfl))
        try simp only [Act.put, List.setIfInBounds_toArray, List.set_cons_zero, List.set_cons_succ]
        refine tk (oi := { dst := some 62, op := Op.fieldAddr 58 (Operand.tmp 61) 0, type := 0, pos := "law.go:170", after := #[{ on := 1, ground := Ground.data }], guard := none }) (v := ?_) 2 rfl ?_ ?_
        rotate_left
        · (intro w hSw; (try dsimp only at hSw); first | (go_simp; done) | (go_simp; with_reducible rfl))
        try simp only [Act.put, List.setIfInBounds_toArray, List.set_cons_zero, List.set_cons_succ]
        refine tk (oi := { dst := some 63, op := Op.load 42 (Operand.tmp 62), type := 42, pos := "law.go:170", after := #[{ on := 2, ground := Ground.data }], guard := none }) (v := ?_) 3 rfl ?_ ?_
        rotate_left
        · (intro w hSw; (try dsimp only at hSw); first | (go_simp; done) | (go_simp; with_reducible rfl))
        try simp only [Act.put, List.setIfInBounds_toArray, List.set_cons_zero, List.set_cons_succ]
        refine tk (oi := { dst := some 64, op := Op.move (Operand.tmp 5), type := 34, pos := "law.go:170", after := #[], guard := none }) (v := ?_) 4 rfl ?_ ?_
        rotate_left
        · (intro w hSw; (try dsimp only at hSw); first | (go_simp; done) | (go_simp; with_reducible rfl))
        try simp only [Act.put, List.setIfInBounds_toArray, List.set_cons_zero, List.set_cons_succ]
        refine tk (oi := { dst := some 65, op := Op.move (Operand.tmp 6), type := 3, pos := "law.go:170", after := #[], guard := none }) (v := ?_) 5 rfl ?_ ?_
        rotate_left
        · (intro w hSw; (try dsimp only at hSw); first | (go_simp; done) | (go_simp; with_reducible rfl))
        try simp only [Act.put, List.setIfInBounds_toArray, List.set_cons_zero, List.set_cons_succ]
        refine tk (oi := { dst := some 66, op := Op.indexAddr 34 (Operand.tmp 64) (Operand.tmp 65), type := 0, pos := "law.go:170", after := #[{ on := 4, ground := Ground.data }, { on := 5, ground := Ground.data }], guard := none }) (v := ?_) 6 rfl ?_ ?_
        rotate_left
        · (intro w hSw; (try dsimp only at hSw); first | (go_simp; done) | (go_simp; with_reducible rfl))
        try simp only [Act.put, List.setIfInBounds_toArray, List.set_cons_zero, List.set_cons_succ]
        refine tk (oi := { dst := some 67, op := Op.load 9 (Operand.tmp 66), type := 9, pos := "law.go:170", after := #[{ on := 6, ground := Ground.data }], guard := none }) (v := ?_) 7 rfl ?_ ?_
        rotate_left
        · (intro w hSw; (try dsimp only at hSw); first | (go_simp; done) | (go_simp; with_reducible rfl))
        try simp only [Act.put, List.setIfInBounds_toArray, List.set_cons_zero, List.set_cons_succ]
        refine wpAnyH_ready (rs := [8]) (by kernel_rfl) (by simp) ?_
        refine AllReadyH.cons (o := { dst := some 68, op := Op.call { callee := Callee.value (Operand.func 40), args := #[Operand.tmp 63, Operand.tmp 67], argTypes := #[42, 9] }, type := 73, pos := "law.go:170", after := #[{ on := 3, ground := Ground.data }, { on := 7, ground := Ground.data }], guard := none }) rfl (fun K hK => ?_) AllReadyH.nil
        go_simp
        refine (HC'.out _ (HB.out.trans (Bel.refl _).drew)).mono ?_
        rintro e w6 ⟨rfl, -, hb6⟩
        have HBK := Lib.hid ((Bel.refl wr).drew.trans hb6)
        have e0' := cell_later HBK.out e0
        have f0' := cell_later HBK.out f0
        have f1' := cell_later HBK.out f1
        have a0' := cell_later HBK.out a0
        have a3' := cell_later HBK.out a3
        have p0' := cell_later HBK.out p0
        have m0' := cell_later HBK.out m0
        clear hb6
        dsimp only
        refine hK.out _ _ ⟨p0', e0'⟩ (fun hHeld => ?_)
        clear hK K
        try simp only [Act.put, List.setIfInBounds_toArray, List.set_cons_zero, List.set_cons_succ]
        refine tk (oi := { dst := some 59, op := Op.move (Operand.tmp 68), type := 73, pos := "law.go:170", after := #[{ on := 8, ground := Ground.data }], guard := none }) (v := ?_) 9 rfl ?_ ?_
        rotate_left
        · (intro w hSw; (try dsimp only at hSw); first | (go_simp; done) | (go_simp; with_reducible rfl))
        try simp only [Act.put, List.setIfInBounds_toArray, List.set_cons_zero, List.set_cons_succ]
        refine tk (oi := { dst := some 69, op := Op.extract (Operand.tmp 59) 0, type := 9, pos := "law.go:170", after := #[{ on := 9, ground := Ground.data }], guard := none }) (v := ?_) 10 rfl ?_ ?_
        rotate_left
        · (intro w hSw; (try dsimp only at hSw); first | (go_simp; done) | (go_simp; with_reducible rfl))
        try simp only [Act.put, List.setIfInBounds_toArray, List.set_cons_zero, List.set_cons_succ]
        refine tk (oi := { dst := some 70, op := Op.extract (Operand.tmp 59) 1, type := 31, pos := "law.go:170", after := #[{ on := 9, ground := Ground.data }, { on := 12, ground := Ground.gcOnly Departure.lateStores }], guard := none }) (v := ?_) 11 rfl ?_ ?_
        rotate_left
        · (intro w hSw; (try dsimp only at hSw); first | (go_simp; done) | (go_simp; with_reducible rfl))
        try simp only [Act.put, List.setIfInBounds_toArray, List.set_cons_zero, List.set_cons_succ]
        refine tk (oi := { dst := some 7, op := Op.assign (Operand.tmp 69), type := 9, pos := "law.go:170", after := #[{ on := 10, ground := Ground.data }, { on := 8, ground := Ground.chain }, { on := 0, ground := Ground.phase }, { on := 1, ground := Ground.phase }, { on := 2, ground := Ground.phase }, { on := 3, ground := Ground.phase }, { on := 4, ground := Ground.phase }, { on := 5, ground := Ground.phase }, { on := 6, ground := Ground.phase }, { on := 7, ground := Ground.phase }, { on := 8, ground := Ground.phase }, { on := 9, ground := Ground.phase }, { on := 10, ground := Ground.phase }, { on := 11, ground := Ground.textOnly Departure.lateStores }], guard := none }) (v := ?_) 12 rfl ?_ ?_
        rotate_left
        · (intro w hSw; (try dsimp only at hSw); first | (go_simp; done) | (go_simp; with_reducible rfl))
        try simp only [Act.put, List.setIfInBounds_toArray, List.set_cons_zero, List.set_cons_succ]
        refine tk (oi := { dst := some 8, op := Op.assign (Operand.tmp 70), type := 31, pos := "law.go:170", after := #[{ on := 11, ground := Ground.data }, { on := 12, ground := Ground.chain }, { on := 0, ground := Ground.phase }, { on := 1, ground := Ground.phase }, { on := 2, ground := Ground.phase }, { on := 3, ground := Ground.phase }, { on := 4, ground := Ground.phase }, { on := 5, ground := Ground.phase }, { on := 6, ground := Ground.phase }, { on := 7, ground := Ground.phase }, { on := 8, ground := Ground.phase }, { on := 9, ground := Ground.phase }, { on := 10, ground := Ground.phase }, { on := 11, ground := Ground.phase }, { on := 12, ground := Ground.phase }], guard := none }) (v := ?_) 13 rfl ?_ ?_
        rotate_left
        · (intro w hSw; (try dsimp only at hSw); first | (go_simp; done) | (go_simp; with_reducible rfl))
        try simp only [Act.put, List.setIfInBounds_toArray, List.set_cons_zero, List.set_cons_succ]
        refine wpAnyH_done (by kernel_rfl) ?_ _
        clear e0 f0 f1 a0 a3 p0 m0 p0'
        go_wp2_with (fail)
        refine wp_region_held_drew (S := fun z => z.cell? ⟨g, k, none⟩ = some (.string ⟨y.name.toArray⟩) ∧ z.cell? ⟨ms, 0, none⟩ = some (.pointer (some ⟨r, 0, none⟩)) ∧ z.cell? ⟨r, 0, none⟩ = some (.slice (some ⟨g2, 0, none⟩) M.L.length rcap) ∧ z.cell? ⟨r, 3, none⟩ = some (.bool false) ∧ z.cell? ⟨g2, k * 3, none⟩ = some (.string ⟨y.name.toArray⟩) ∧ z.cell? ⟨g2, k * 3 + 1, none⟩ = some (.string ⟨y.bytes.toArray⟩)) (by kernel_rfl) ⟨e0', m0', a0', a3', f0', f1'⟩ (fun hHeld => ?_)
        refine tk (oi := { dst := some 71, op := Op.move (Operand.tmp 5), type := 34, pos := "law.go:171", after := #[], guard := none }) (v := ?_) 0 rfl ?_ ?_
        rotate_left
        · (intro w hSw; (try dsimp only at hSw); first | (go_simp; done) | (go_simp; with_reducible rfl))
        try simp only [Act.put, List.setIfInBounds_toArray, List.set_cons_zero, List.set_cons_succ]
        refine tk (oi := { dst := some 72, op := Op.move (Operand.tmp 6), type := 3, pos := "law.go:171", after := #[], guard := none }) (v := ?_) 1 rfl ?_ ?_
        rotate_left
        · (intro w hSw; (try dsimp only at hSw); first | (go_simp; done) | (go_simp; with_reducible rfl))
        try simp only [Act.put, List.setIfInBounds_toArray, List.set_cons_zero, List.set_cons_succ]
        refine tk (oi := { dst := some 73, op := Op.indexAddr 34 (Operand.tmp 71) (Operand.tmp 72), type := 0, pos := "law.go:171", after := #[{ on := 0, ground := Ground.data }, { on := 1, ground := Ground.data }], guard := none }) (v := ?_) 2 rfl ?_ ?_
        rotate_left
        · (intro w hSw; (try dsimp only at hSw); first | (go_simp; done) | (go_simp; with_reducible rfl))
        try simp only [Act.put, List.setIfInBounds_toArray, List.set_cons_zero, List.set_cons_succ]
        refine tk (oi := { dst := some 74, op := Op.load 9 (Operand.tmp 73), type := 9, pos := "law.go:171", after := #[{ on := 2, ground := Ground.data }], guard := none }) (v := ?_) 3 rfl ?_ ?_
        rotate_left
        · (intro w hSw; (try dsimp only at hSw); first | (go_simp; done) | (go_simp; with_reducible rfl))
        try simp only [Act.put, List.setIfInBounds_toArray, List.set_cons_zero, List.set_cons_succ]
        refine tk (oi := { dst := some 75, op := Op.move (Operand.tmp 1), type := 26, pos := "law.go:171", after := #[], guard := none }) (v := ?_) 4 rfl ?_ ?_
        rotate_left
        · (intro w hSw; (try dsimp only at hSw); first | (go_simp; done) | (go_simp; with_reducible rfl))
        try simp only [Act.put, List.setIfInBounds_toArray, List.set_cons_zero, List.set_cons_succ]
        refine tk (oi := { dst := some 76, op := Op.nilCheck (Operand.tmp 75), type := 0, pos := "law.go:171", after := #[{ on := 4, ground := Ground.data }], guard := none }) (v := ?_) 5 rfl ?_ ?_
        rotate_left
        · (intro w hSw; (try dsimp only at hSw); first | (go_simp; done) | (go_simp; with_reducible rfl))
        try simp only [Act.put, List.setIfInBounds_toArray, List.set_cons_zero, List.set_cons_succ]
        refine tk (oi := { dst := some 77, op := Op.fieldAddr 60 (Operand.tmp 76) 0, type := 0, pos := "law.go:171", after := #[{ on := 5, ground := Ground.data }], guard := none }) (v := ?_) 6 rfl ?_ ?_
        rotate_left
        · (intro w hSw; (try dsimp only at hSw); first | (go_simp; done) | (go_simp; with_reducible rfl))
        try simp only [Act.put, List.setIfInBounds_toArray, List.set_cons_zero, List.set_cons_succ]
        refine tk (oi := { dst := some 78, op := Op.load 45 (Operand.tmp 77), type := 45, pos := "law.go:171", after := #[{ on := 6, ground := Ground.data }], guard := none }) (v := ?_) 7 rfl ?_ ?_
        rotate_left
        · (intro w hSw; (try dsimp only at hSw); first | (go_simp; done) | (go_simp; with_reducible rfl))
        try simp only [Act.put, List.setIfInBounds_toArray, List.set_cons_zero, List.set_cons_succ]
        refine tk (oi := { dst := some 79, op := Op.nilCheck (Operand.tmp 78), type := 0, pos := "law.go:171", after := #[{ on := 7, ground := Ground.data }], guard := none }) (v := ?_) 8 rfl ?_ ?_
        rotate_left
        · (intro w hSw; (try dsimp only at hSw); first | (go_simp; done) | (go_simp; with_reducible rfl))
        try simp only [Act.put, List.setIfInBounds_toArray, List.set_cons_zero, List.set_cons_succ]
        refine tk (oi := { dst := some 80, op := Op.fieldAddr 80 (Operand.tmp 79) 0, type := 0, pos := "law.go:171", after := #[{ on := 8, ground := Ground.data }], guard := none }) (v := ?_) 9 rfl ?_ ?_
        rotate_left
        · (intro w hSw; (try dsimp only at hSw); first | (go_simp; done) | (go_simp; with_reducible rfl))
        try simp only [Act.put, List.setIfInBounds_toArray, List.set_cons_zero, List.set_cons_succ]
        refine tk (oi := { dst := some 81, op := Op.load 78 (Operand.tmp 80), type := 78, pos := "law.go:171", after := #[{ on := 9, ground := Ground.data }], guard := none }) (v := ?_) 10 rfl ?_ ?_
        rotate_left
        · (intro w hSw; (try dsimp only at hSw); first | (go_simp; done) | (go_simp; with_reducible rfl))
        try simp only [Act.put, List.setIfInBounds_toArray, List.set_cons_zero, List.set_cons_succ]
        refine tk (oi := { dst := some 82, op := Op.move (Operand.tmp 6), type := 3, pos := "law.go:171", after := #[], guard := none }) (v := ?_) 11 rfl ?_ ?_
        rotate_left
        · (intro w hSw; (try dsimp only at hSw); first | (go_simp; done) | (go_simp; with_reducible rfl))
        try simp only [Act.put, List.setIfInBounds_toArray, List.set_cons_zero, List.set_cons_succ]
        refine tk (oi := { dst := some 83, op := Op.indexAddr 78 (Operand.tmp 81) (Operand.tmp 82), type := 0, pos := "law.go:171", after := #[{ on := 10, ground := Ground.data }, { on := 11, ground := Ground.data }], guard := none }) (v := ?_) 12 rfl ?_ ?_
        rotate_left
        · (intro w hSw; (try dsimp only at hSw); first | (go_simp; done) | (go_simp; with_reducible rfl))
        try simp only [Act.put, List.setIfInBounds_toArray, List.set_cons_zero, List.set_cons_succ]
        refine tk (oi := { dst := some 84, op := Op.fieldAddr 83 (Operand.tmp 83) 0, type := 0, pos := "law.go:171", after := #[{ on := 12, ground := Ground.data }], guard := none }) (v := ?_) 13 rfl ?_ ?_
        rotate_left
        · (intro w hSw; (try dsimp only at hSw); first | (go_simp; done) | (go_simp; with_reducible rfl))
        try simp only [Act.put, List.setIfInBounds_toArray, List.set_cons_zero, List.set_cons_succ]
        refine tk (oi := { dst := some 85, op := Op.load 9 (Operand.tmp 84), type := 9, pos := "law.go:171", after := #[{ on := 13, ground := Ground.data }], guard := none }) (v := ?_) 14 rfl ?_ ?_
        rotate_left
        · (intro w hSw; (try dsimp only at hSw); first | (go_simp; done) | (go_simp; with_reducible rfl))
        try simp only [Act.put, List.setIfInBounds_toArray, List.set_cons_zero, List.set_cons_succ]
        refine tk (oi := { dst := some 86, op := Op.binOp BinOp.neq 9 (Operand.tmp 74) (Operand.tmp 85) 9, type := 4, pos := "law.go:171", after := #[{ on := 3, ground := Ground.data }, { on := 14, ground := Ground.data }], guard := none }) (v := ?_) 15 rfl ?_ ?_
        rotate_left
        · (intro w hSw; (try dsimp only at hSw); first | (go_simp; done) | (go_simp; with_reducible rfl))
        try simp only [Act.put, List.setIfInBounds_toArray, List.set_cons_zero, List.set_cons_succ]
        refine tk (oi := { dst := some 87, op := Op.move (Operand.tmp 86), type := 4, pos := "law.go:171", after := #[{ on := 15, ground := Ground.data }], guard := none }) (v := ?_) 16 rfl ?_ ?_
        rotate_left
        · (intro w hSw; (try dsimp only at hSw); first | (go_simp; done) | (go_simp; with_reducible rfl))
        try simp only [Act.put, List.setIfInBounds_toArray, List.set_cons_zero, List.set_cons_succ]
        refine tk (oi := { dst := some 88, op := Op.move (Operand.tmp 1), type := 26, pos := "law.go:171", after := #[{ on := 16, ground := Ground.guard }], guard := some (16, false) }) (v := ?_) 17 rfl ?_ ?_
        rotate_left
        · (intro w hSw; (try dsimp only at hSw); first | (go_simp; done) | (go_simp; with_reducible rfl))
        try simp only [Act.put, List.setIfInBounds_toArray, List.set_cons_zero, List.set_cons_succ]
        refine tk (oi := { dst := some 89, op := Op.nilCheck (Operand.tmp 88), type := 0, pos := "law.go:171", after := #[{ on := 17, ground := Ground.data }, { on := 16, ground := Ground.guard }], guard := some (16, false) }) (v := ?_) 18 rfl ?_ ?_
        rotate_left
        · (intro w hSw; (try dsimp only at hSw); first | (go_simp; done) | (go_simp; with_reducible rfl))
        try simp only [Act.put, List.setIfInBounds_toArray, List.set_cons_zero, List.set_cons_succ]
        refine tk (oi := { dst := some 90, op := Op.fieldAddr 60 (Operand.tmp 89) 0, type := 0, pos := "law.go:171", after := #[{ on := 18, ground := Ground.data }, { on := 16, ground := Ground.guard }], guard := some (16, false) }) (v := ?_) 19 rfl ?_ ?_
        rotate_left
        · (intro w hSw; (try dsimp only at hSw); first | (go_simp; done) | (go_simp; with_reducible rfl))
        try simp only [Act.put, List.setIfInBounds_toArray, List.set_cons_zero, List.set_cons_succ]
        refine tk (oi := { dst := some 91, op := Op.load 45 (Operand.tmp 90), type := 45, pos := "law.go:171", after := #[{ on := 19, ground := Ground.data }, { on := 16, ground := Ground.guard }], guard := some (16, false) }) (v := ?_) 20 rfl ?_ ?_
        rotate_left
        · (intro w hSw; (try dsimp only at hSw); first | (go_simp; done) | (go_simp; with_reducible rfl))
        try simp only [Act.put, List.setIfInBounds_toArray, List.set_cons_zero, List.set_cons_succ]
        refine tk (oi := { dst := some 92, op := Op.nilCheck (Operand.tmp 91), type := 0, pos := "law.go:171", after := #[{ on := 20, ground := Ground.data }, { on := 16, ground := Ground.guard }], guard := some (16, false) }) (v := ?_) 21 rfl ?_ ?_
        rotate_left
        · (intro w hSw; (try dsimp only at hSw); first | (go_simp; done) | (go_simp; with_reducible rfl))
        try simp only [Act.put, List.setIfInBounds_toArray, List.set_cons_zero, List.set_cons_succ]
        refine tk (oi := { dst := some 93, op := Op.fieldAddr 80 (Operand.tmp 92) 3, type := 0, pos := "law.go:171", after := #[{ on := 21, ground := Ground.data }, { on := 16, ground := Ground.guard }], guard := some (16, false) }) (v := ?_) 22 rfl ?_ ?_
        rotate_left
        · (intro w hSw; (try dsimp only at hSw); first | (go_simp; done) | (go_simp; with_reducible rfl))
        try simp only [Act.put, List.setIfInBounds_toArray, List.set_cons_zero, List.set_cons_succ]
        refine tk (oi := { dst := some 94, op := Op.load 4 (Operand.tmp 93), type := 4, pos := "law.go:171", after := #[{ on := 22, ground := Ground.data }, { on := 16, ground := Ground.guard }], guard := some (16, false) }) (v := ?_) 23 rfl ?_ ?_
        rotate_left
        · (intro w hSw; (try dsimp only at hSw); first | (go_simp; done) | (go_simp; with_reducible rfl))
        try simp only [Act.put, List.setIfInBounds_toArray, List.set_cons_zero, List.set_cons_succ]
        refine tk (oi := { dst := some 95, op := Op.unOp UnOp.not 4 (Operand.tmp 94), type := 4, pos := "law.go:171", after := #[{ on := 23, ground := Ground.data }, { on := 16, ground := Ground.guard }], guard := some (16, false) }) (v := ?_) 24 rfl ?_ ?_
        rotate_left
        · (intro w hSw; (try dsimp only at hSw); first | (go_simp; done) | (go_simp; with_reducible rfl))
        try simp only [Act.put, List.setIfInBounds_toArray, List.set_cons_zero, List.set_cons_succ]
        refine tk (oi := { dst := some 96, op := Op.move (Operand.tmp 95), type := 4, pos := "law.go:171", after := #[{ on := 24, ground := Ground.data }, { on := 16, ground := Ground.chain }, { on := 16, ground := Ground.guard }], guard := some (16, false) }) (v := ?_) 25 rfl ?_ ?_
        rotate_left
        · (intro w hSw; (try dsimp only at hSw); first | (go_simp; done) | (go_simp; with_reducible rfl))
        try simp only [Act.put, List.setIfInBounds_toArray, List.set_cons_zero, List.set_cons_succ]
        refine tk (oi := { dst := some 97, op := Op.move (Operand.tmp 7), type := 9, pos := "law.go:171", after := #[{ on := 25, ground := Ground.guard }], guard := some (25, true) }) (v := ?_) 26 rfl ?_ ?_
        rotate_left
        · (intro w hSw; (try dsimp only at hSw); first | (go_simp; done) | (go_simp; with_reducible rfl))
        try simp only [Act.put, List.setIfInBounds_toArray, List.set_cons_zero, List.set_cons_succ]
        refine tk (oi := { dst := some 98, op := Op.move (Operand.tmp 1), type := 26, pos := "law.go:171", after := #[{ on := 25, ground := Ground.guard }], guard := some (25, true) }) (v := ?_) 27 rfl ?_ ?_
        rotate_left
        · (intro w hSw; (try dsimp only at hSw); first | (go_simp; done) | (go_simp; with_reducible rfl))
        try simp only [Act.put, List.setIfInBounds_toArray, List.set_cons_zero, List.set_cons_succ]
        refine tk (oi := { dst := some 99, op := Op.nilCheck (Operand.tmp 98), type := 0, pos := "law.go:171", after := #[{ on := 27, ground := Ground.data }, { on := 25, ground := Ground.guard }], guard := some (25, true) }) (v := ?_) 28 rfl ?_ ?_
        rotate_left
        · (intro w hSw; (try dsimp only at hSw); first | (go_simp; done) | (go_simp; with_reducible rfl))
        try simp only [Act.put, List.setIfInBounds_toArray, List.set_cons_zero, List.set_cons_succ]
        refine tk (oi := { dst := some 100, op := Op.fieldAddr 60 (Operand.tmp 99) 0, type := 0, pos := "law.go:171", after := #[{ on := 28, ground := Ground.data }, { on := 25, ground := Ground.guard }], guard := some (25, true) }) (v := ?_) 29 rfl ?_ ?_
        rotate_left
        · (intro w hSw; (try dsimp only at hSw); first | (go_simp; done) | (go_simp; with_reducible rfl))
        try simp only [Act.put, List.setIfInBounds_toArray, List.set_cons_zero, List.set_cons_succ]
        refine tk (oi := { dst := some 101, op := Op.load 45 (Operand.tmp 100), type := 45, pos := "law.go:171", after := #[{ on := 29, ground := Ground.data }, { on := 25, ground := Ground.guard }], guard := some (25, true) }) (v := ?_) 30 rfl ?_ ?_
        rotate_left
        · (intro w hSw; (try dsimp only at hSw); first | (go_simp; done) | (go_simp; with_reducible rfl))
        try simp only [Act.put, List.setIfInBounds_toArray, List.set_cons_zero, List.set_cons_succ]
        refine tk (oi := { dst := some 102, op := Op.nilCheck (Operand.tmp 101), type := 0, pos := "law.go:171", after := #[{ on := 30, ground := Ground.data }, { on := 25, ground := Ground.guard }], guard := some (25, true) }) (v := ?_) 31 rfl ?_ ?_
        rotate_left
        · (intro w hSw; (try dsimp only at hSw); first | (go_simp; done) | (go_simp; with_reducible rfl))
        try simp only [Act.put, List.setIfInBounds_toArray, List.set_cons_zero, List.set_cons_succ]
        refine tk (oi := { dst := some 103, op := Op.fieldAddr 80 (Operand.tmp 102) 0, type := 0, pos := "law.go:171", after := #[{ on := 31, ground := Ground.data }, { on := 25, ground := Ground.guard }], guard := some (25, true) }) (v := ?_) 32 rfl ?_ ?_
        rotate_left
        · (intro w hSw; (try dsimp only at hSw); first | (go_simp; done) | (go_simp; with_reducible rfl))
        try simp only [Act.put, List.setIfInBounds_toArray, List.set_cons_zero, List.set_cons_succ]
        refine tk (oi := { dst := some 104, op := Op.load 78 (Operand.tmp 103), type := 78, pos := "law.go:171", after := #[{ on := 32, ground := Ground.data }, { on := 25, ground := Ground.guard }], guard := some (25, true) }) (v := ?_) 33 rfl ?_ ?_
        rotate_left
        · (intro w hSw; (try dsimp only at hSw); first | (go_simp; done) | (go_simp; with_reducible rfl))
        try simp only [Act.put, List.setIfInBounds_toArray, List.set_cons_zero, List.set_cons_succ]
        refine tk (oi := { dst := some 105, op := Op.move (Operand.tmp 6), type := 3, pos := "law.go:171", after := #[{ on := 25, ground := Ground.guard }], guard := some (25, true) }) (v := ?_) 34 rfl ?_ ?_
        rotate_left
        · (intro w hSw; (try dsimp only at hSw); first | (go_simp; done) | (go_simp; with_reducible rfl))
        try simp only [Act.put, List.setIfInBounds_toArray, List.set_cons_zero, List.set_cons_succ]
        refine tk (oi := { dst := some 106, op := Op.indexAddr 78 (Operand.tmp 104) (Operand.tmp 105), type := 0, pos := "law.go:171", after := #[{ on := 33, ground := Ground.data }, { on := 34, ground := Ground.data }, { on := 25, ground := Ground.guard }], guard := some (25, true) }) (v := ?_) 35 rfl ?_ ?_
        rotate_left
        · (intro w hSw; (try dsimp only at hSw); first | (go_simp; done) | (go_simp; with_reducible rfl))
        try simp only [Act.put, List.setIfInBounds_toArray, List.set_cons_zero, List.set_cons_succ]
        refine tk (oi := { dst := some 107, op := Op.fieldAddr 83 (Operand.tmp 106) 1, type := 0, pos := "law.go:171", after := #[{ on := 35, ground := Ground.data }, { on := 25, ground := Ground.guard }], guard := some (25, true) }) (v := ?_) 36 rfl ?_ ?_
        rotate_left
        · (intro w hSw; (try dsimp only at hSw); first | (go_simp; done) | (go_simp; with_reducible rfl))
        try simp only [Act.put, List.setIfInBounds_toArray, List.set_cons_zero, List.set_cons_succ]
        refine tk (oi := { dst := some 108, op := Op.load 9 (Operand.tmp 107), type := 9, pos := "law.go:171", after := #[{ on := 36, ground := Ground.data }, { on := 25, ground := Ground.guard }], guard := some (25, true) }) (v := ?_) 37 rfl ?_ ?_
        rotate_left
        · (intro w hSw; (try dsimp only at hSw); first | (go_simp; done) | (go_simp; with_reducible rfl))
        try simp only [Act.put, List.setIfInBounds_toArray, List.set_cons_zero, List.set_cons_succ]
        refine tk (oi := { dst := some 109, op := Op.binOp BinOp.neq 9 (Operand.tmp 97) (Operand.tmp 108) 9, type := 4, pos := "law.go:171", after := #[{ on := 26, ground := Ground.data }, { on := 37, ground := Ground.data }, { on := 25, ground := Ground.guard }], guard := some (25, true) }) (v := ?_) 38 rfl ?_ ?_
        rotate_left
        · (intro w hSw; (try dsimp only at hSw); first | (go_simp; done) | (go_simp; with_reducible rfl))
        try simp only [Act.put, List.setIfInBounds_toArray, List.set_cons_zero, List.set_cons_succ]
        refine tk (oi := { dst := some 110, op := Op.pick (Operand.tmp 96) (Operand.tmp 109) (Operand.const (Value.bool false)), type := 4, pos := "law.go:171", after := #[{ on := 25, ground := Ground.data }, { on := 38, ground := Ground.data }, { on := 16, ground := Ground.guard }], guard := some (16, false) }) (v := ?_) 39 rfl ?_ ?_
        rotate_left
        · (intro w hSw; (try dsimp only at hSw); first | (go_simp; done) | (go_simp; with_reducible rfl))
        try simp only [Act.put, List.setIfInBounds_toArray, List.set_cons_zero, List.set_cons_succ]
        refine tk (oi := { dst := some 111, op := Op.pick (Operand.tmp 87) (Operand.const (Value.bool true)) (Operand.tmp 110), type := 4, pos := "law.go:171", after := #[{ on := 16, ground := Ground.data }, { on := 39, ground := Ground.data }], guard := none }) (v := ?_) 40 rfl ?_ ?_
        rotate_left
        · (intro w hSw; (try dsimp only at hSw); first | (go_simp; done) | (go_simp; with_reducible rfl))
        try simp only [Act.put, List.setIfInBounds_toArray, List.set_cons_zero, List.set_cons_succ]
        refine wpAnyH_done (by kernel_rfl) ?_ _
        go_wp2_with (fail)
        go_roundw
        case rel => exact ⟨k + 1, by go_num, by omega, (HBW.out.trans HBK.out).drew⟩
        case measure => simp [intOf]; omega
    · obtain rfl : k = M.L.length := by omega
      have a3 := cell_later HB.out HC3.out
      have p1 := cell_later HB.out HS1.out
      have m0 := cell_later HB.out HT0.out
      have m1 := cell_later HB.out HT1.out
      cases hg : M.gone with
      | true =>
        rw [hg] at a3
        clear hg
        go_wp2_with (fail)
        refine wp_region_held_drew (S := fun z => z.cell? ⟨ms, 0, none⟩ = some (.pointer (some ⟨r, 0, none⟩)) ∧ z.cell? ⟨r, 3, none⟩ = some (.bool true)) (by kernel_rfl) ⟨m0, a3⟩ (fun hHeld => ?_)
        refine tk (oi := { dst := some 112, op := Op.move (Operand.tmp 1), type := 26, pos := "law.go:175", after := #[], guard := none }) (v := ?_) 0 rfl ?_ ?_
        rotate_left
        · (intro w hSw; (try dsimp only at hSw); first | (go_simp; done) | (go_simp; with_reducible rfl))
        try simp only [Act.put, List.setIfInBounds_toArray, List.set_cons_zero, List.set_cons_succ]
        refine tk (oi := { dst := some 113, op := Op.nilCheck (Operand.tmp 112), type := 0, pos := "law.go:175", after := #[{ on := 0, ground := Ground.data }], guard := none }) (v := ?_) 1 rfl ?_ ?_
        rotate_left
        · (intro w hSw; (try dsimp only at hSw); first | (go_simp; done) | (go_simp; with_reducible rfl))
        try simp only [Act.put, List.setIfInBounds_toArray, List.set_cons_zero, List.set_cons_succ]
        refine tk (oi := { dst := some 114, op := Op.fieldAddr 60 (Operand.tmp 113) 0, type := 0, pos := "law.go:175", after := #[{ on := 1, ground := Ground.data }], guard := none }) (v := ?_) 2 rfl ?_ ?_
        rotate_left
        · (intro w hSw; (try dsimp only at hSw); first | (go_simp; done) | (go_simp; with_reducible rfl))
        try simp only [Act.put, List.setIfInBounds_toArray, List.set_cons_zero, List.set_cons_succ]
        refine tk (oi := { dst := some 115, op := Op.load 45 (Operand.tmp 114), type := 45, pos := "law.go:175", after := #[{ on := 2, ground := Ground.data }], guard := none }) (v := ?_) 3 rfl ?_ ?_
        rotate_left
        · (intro w hSw; (try dsimp only at hSw); first | (go_simp; done) | (go_simp; with_reducible rfl))
        try simp only [Act.put, List.setIfInBounds_toArray, List.set_cons_zero, List.set_cons_succ]
        refine tk (oi := { dst := some 116, op := Op.nilCheck (Operand.tmp 115), type := 0, pos := "law.go:175", after := #[{ on := 3, ground := Ground.data }], guard := none }) (v := ?_) 4 rfl ?_ ?_
        rotate_left
        · (intro w hSw; (try dsimp only at hSw); first | (go_simp; done) | (go_simp; with_reducible rfl))
        try simp only [Act.put, List.setIfInBounds_toArray, List.set_cons_zero, List.set_cons_succ]
        refine tk (oi := { dst := some 117, op := Op.fieldAddr 80 (Operand.tmp 116) 3, type := 0, pos := "law.go:175", after := #[{ on := 4, ground := Ground.data }], guard := none }) (v := ?_) 5 rfl ?_ ?_
        rotate_left
        · (intro w hSw; (try dsimp only at hSw); first | (go_simp; done) | (go_simp; with_reducible rfl))
        try simp only [Act.put, List.setIfInBounds_toArray, List.set_cons_zero, List.set_cons_succ]
        refine tk (oi := { dst := some 118, op := Op.load 4 (Operand.tmp 117), type := 4, pos := "law.go:175", after := #[{ on := 5, ground := Ground.data }], guard := none }) (v := ?_) 6 rfl ?_ ?_
        rotate_left
        · (intro w hSw; (try dsimp only at hSw); first | (go_simp; done) | (go_simp; with_reducible rfl))
        try simp only [Act.put, List.setIfInBounds_toArray, List.set_cons_zero, List.set_cons_succ]
        refine tk (oi := { dst := some 119, op := Op.move (Operand.tmp 118), type := 4, pos := "law.go:175", after := #[{ on := 6, ground := Ground.data }], guard := none }) (v := ?_) 7 rfl ?_ ?_
        rotate_left
        · (intro w hSw; (try dsimp only at hSw); first | (go_simp; done) | (go_simp; with_reducible rfl))
        try simp only [Act.put, List.setIfInBounds_toArray, List.set_cons_zero, List.set_cons_succ]
        refine wpAnyH_take (i := 8) (oi := { dst := some 120, op := Op.move (Operand.tmp 0), type := 25, pos := "law.go:175", after := #[{ on := 7, ground := Ground.guard }], guard := some (7, false) }) (v := undef) rfl (by kernel_rfl) (by kernel_rfl) (by kernel_rfl) (fun _ _ _ h => h) (Or.inr ⟨by rfl, rfl⟩) (by assumption) ?_
        try simp only [Act.put, List.setIfInBounds_toArray, List.set_cons_zero, List.set_cons_succ]
        refine wpAnyH_take (i := 9) (oi := { dst := some 121, op := Op.nilCheck (Operand.tmp 120), type := 0, pos := "law.go:175", after := #[{ on := 8, ground := Ground.data }, { on := 7, ground := Ground.guard }], guard := some (7, false) }) (v := undef) rfl (by kernel_rfl) (by kernel_rfl) (by kernel_rfl) (fun _ _ _ h => h) (Or.inr ⟨by rfl, rfl⟩) (by assumption) ?_
        try simp only [Act.put, List.setIfInBounds_toArray, List.set_cons_zero, List.set_cons_succ]
        refine wpAnyH_take (i := 10) (oi := { dst := some 122, op := Op.fieldAddr 58 (Operand.tmp 121) 1, type := 0, pos := "law.go:175", after := #[{ on := 9, ground := Ground.data }, { on := 7, ground := Ground.guard }], guard := some (7, false) }) (v := undef) rfl (by kernel_rfl) (by kernel_rfl) (by kernel_rfl) (fun _ _ _ h => h) (Or.inr ⟨by rfl, rfl⟩) (by assumption) ?_
        try simp only [Act.put, List.setIfInBounds_toArray, List.set_cons_zero, List.set_cons_succ]
        refine wpAnyH_take (i := 11) (oi := { dst := some 123, op := Op.load 51 (Operand.tmp 122), type := 51, pos := "law.go:175", after := #[{ on := 10, ground := Ground.data }, { on := 7, ground := Ground.guard }], guard := some (7, false) }) (v := undef) rfl (by kernel_rfl) (by kernel_rfl) (by kernel_rfl) (fun _ _ _ h => h) (Or.inr ⟨by rfl, rfl⟩) (by assumption) ?_
        try simp only [Act.put, List.setIfInBounds_toArray, List.set_cons_zero, List.set_cons_succ]
        refine wpAnyH_take (i := 12) (oi := { dst := some 124, op := Op.call { callee := Callee.value (Operand.func 26), args := #[Operand.tmp 123], argTypes := #[51] }, type := 3, pos := "law.go:175", after := #[{ on := 11, ground := Ground.data }, { on := 7, ground := Ground.chain }, { on := 7, ground := Ground.guard }], guard := some (7, false) }) (v := undef) rfl (by kernel_rfl) (by kernel_rfl) (by kernel_rfl) (fun _ _ _ h => h) (Or.inr ⟨by rfl, rfl⟩) (by assumption) ?_
        try simp only [Act.put, List.setIfInBounds_toArray, List.set_cons_zero, List.set_cons_succ]
        refine wpAnyH_take (i := 13) (oi := { dst := some 125, op := Op.move (Operand.tmp 1), type := 26, pos := "law.go:175", after := #[{ on := 7, ground := Ground.guard }], guard := some (7, false) }) (v := undef) rfl (by kernel_rfl) (by kernel_rfl) (by kernel_rfl) (fun _ _ _ h => h) (Or.inr ⟨by rfl, rfl⟩) (by assumption) ?_
        try simp only [Act.put, List.setIfInBounds_toArray, List.set_cons_zero, List.set_cons_succ]
        refine wpAnyH_take (i := 14) (oi := { dst := some 126, op := Op.nilCheck (Operand.tmp 125), type := 0, pos := "law.go:175", after := #[{ on := 13, ground := Ground.data }, { on := 7, ground := Ground.guard }], guard := some (7, false) }) (v := undef) rfl (by kernel_rfl) (by kernel_rfl) (by kernel_rfl) (fun _ _ _ h => h) (Or.inr ⟨by rfl, rfl⟩) (by assumption) ?_
        try simp only [Act.put, List.setIfInBounds_toArray, List.set_cons_zero, List.set_cons_succ]
        refine wpAnyH_take (i := 15) (oi := { dst := some 127, op := Op.fieldAddr 60 (Operand.tmp 126) 1, type := 0, pos := "law.go:175", after := #[{ on := 14, ground := Ground.data }, { on := 7, ground := Ground.guard }], guard := some (7, false) }) (v := undef) rfl (by kernel_rfl) (by kernel_rfl) (by kernel_rfl) (fun _ _ _ h => h) (Or.inr ⟨by rfl, rfl⟩) (by assumption) ?_
        try simp only [Act.put, List.setIfInBounds_toArray, List.set_cons_zero, List.set_cons_succ]
        refine wpAnyH_take (i := 16) (oi := { dst := some 128, op := Op.load 54 (Operand.tmp 127), type := 54, pos := "law.go:175", after := #[{ on := 15, ground := Ground.data }, { on := 7, ground := Ground.guard }], guard := some (7, false) }) (v := undef) rfl (by kernel_rfl) (by kernel_rfl) (by kernel_rfl) (fun _ _ _ h => h) (Or.inr ⟨by rfl, rfl⟩) (by assumption) ?_
        try simp only [Act.put, List.setIfInBounds_toArray, List.set_cons_zero, List.set_cons_succ]
        refine wpAnyH_take (i := 17) (oi := { dst := some 129, op := Op.call { callee := Callee.value (Operand.func 41), args := #[Operand.tmp 128], argTypes := #[54] }, type := 3, pos := "law.go:175", after := #[{ on := 16, ground := Ground.data }, { on := 12, ground := Ground.chain }, { on := 7, ground := Ground.guard }], guard := some (7, false) }) (v := undef) rfl (by kernel_rfl) (by kernel_rfl) (by kernel_rfl) (fun _ _ _ h => h) (Or.inr ⟨by rfl, rfl⟩) (by assumption) ?_
        try simp only [Act.put, List.setIfInBounds_toArray, List.set_cons_zero, List.set_cons_succ]
        refine wpAnyH_take (i := 18) (oi := { dst := some 130, op := Op.binOp BinOp.eql 3 (Operand.tmp 124) (Operand.tmp 129) 3, type := 4, pos := "law.go:175", after := #[{ on := 12, ground := Ground.data }, { on := 17, ground := Ground.data }, { on := 7, ground := Ground.guard }], guard := some (7, false) }) (v := undef) rfl (by kernel_rfl) (by kernel_rfl) (by kernel_rfl) (fun _ _ _ h => h) (Or.inr ⟨by rfl, rfl⟩) (by assumption) ?_
        try simp only [Act.put, List.setIfInBounds_toArray, List.set_cons_zero, List.set_cons_succ]
        refine wpAnyH_take (i := 19) (oi := { dst := some 131, op := Op.move (Operand.tmp 130), type := 4, pos := "law.go:175", after := #[{ on := 18, ground := Ground.data }, { on := 17, ground := Ground.chain }, { on := 7, ground := Ground.guard }], guard := some (7, false) }) (v := undef) rfl (by kernel_rfl) (by kernel_rfl) (by kernel_rfl) (fun _ _ _ h => h) (Or.inr ⟨by rfl, rfl⟩) (by assumption) ?_
        try simp only [Act.put, List.setIfInBounds_toArray, List.set_cons_zero, List.set_cons_succ]
        refine wpAnyH_take (i := 20) (oi := { dst := some 132, op := Op.move (Operand.tmp 0), type := 25, pos := "law.go:175", after := #[{ on := 19, ground := Ground.guard }], guard := some (19, true) }) (v := undef) rfl (by kernel_rfl) (by kernel_rfl) (by kernel_rfl) (fun _ _ _ h => h) (Or.inr ⟨by rfl, rfl⟩) (by assumption) ?_
        try simp only [Act.put, List.setIfInBounds_toArray, List.set_cons_zero, List.set_cons_succ]
        refine wpAnyH_take (i := 21) (oi := { dst := some 133, op := Op.nilCheck (Operand.tmp 132), type := 0, pos := "law.go:175", after := #[{ on := 20, ground := Ground.data }, { on := 19, ground := Ground.guard }], guard := some (19, true) }) (v := undef) rfl (by kernel_rfl) (by kernel_rfl) (by kernel_rfl) (fun _ _ _ h => h) (Or.inr ⟨by rfl, rfl⟩) (by assumption) ?_
        try simp only [Act.put, List.setIfInBounds_toArray, List.set_cons_zero, List.set_cons_succ]
        refine wpAnyH_take (i := 22) (oi := { dst := some 134, op := Op.fieldAddr 58 (Operand.tmp 133) 1, type := 0, pos := "law.go:175", after := #[{ on := 21, ground := Ground.data }, { on := 19, ground := Ground.guard }], guard := some (19, true) }) (v := undef) rfl (by kernel_rfl) (by kernel_rfl) (by kernel_rfl) (fun _ _ _ h => h) (Or.inr ⟨by rfl, rfl⟩) (by assumption) ?_
        try simp only [Act.put, List.setIfInBounds_toArray, List.set_cons_zero, List.set_cons_succ]
        refine wpAnyH_take (i := 23) (oi := { dst := some 135, op := Op.load 51 (Operand.tmp 134), type := 51, pos := "law.go:175", after := #[{ on := 22, ground := Ground.data }, { on := 19, ground := Ground.guard }], guard := some (19, true) }) (v := undef) rfl (by kernel_rfl) (by kernel_rfl) (by kernel_rfl) (fun _ _ _ h => h) (Or.inr ⟨by rfl, rfl⟩) (by assumption) ?_
        try simp only [Act.put, List.setIfInBounds_toArray, List.set_cons_zero, List.set_cons_succ]
        refine wpAnyH_take (i := 24) (oi := { dst := some 136, op := Op.call { callee := Callee.value (Operand.func 29), args := #[Operand.tmp 135], argTypes := #[51] }, type := 35, pos := "law.go:175", after := #[{ on := 23, ground := Ground.data }, { on := 19, ground := Ground.chain }, { on := 19, ground := Ground.guard }], guard := some (19, true) }) (v := undef) rfl (by kernel_rfl) (by kernel_rfl) (by kernel_rfl) (fun _ _ _ h => h) (Or.inr ⟨by rfl, rfl⟩) (by assumption) ?_
        try simp only [Act.put, List.setIfInBounds_toArray, List.set_cons_zero, List.set_cons_succ]
        refine wpAnyH_take (i := 25) (oi := { dst := some 137, op := Op.move (Operand.tmp 1), type := 26, pos := "law.go:175", after := #[{ on := 19, ground := Ground.guard }], guard := some (19, true) }) (v := undef) rfl (by kernel_rfl) (by kernel_rfl) (by kernel_rfl) (fun _ _ _ h => h) (Or.inr ⟨by rfl, rfl⟩) (by assumption) ?_
        try simp only [Act.put, List.setIfInBounds_toArray, List.set_cons_zero, List.set_cons_succ]
        refine wpAnyH_take (i := 26) (oi := { dst := some 138, op := Op.nilCheck (Operand.tmp 137), type := 0, pos := "law.go:175", after := #[{ on := 25, ground := Ground.data }, { on := 19, ground := Ground.guard }], guard := some (19, true) }) (v := undef) rfl (by kernel_rfl) (by kernel_rfl) (by kernel_rfl) (fun _ _ _ h => h) (Or.inr ⟨by rfl, rfl⟩) (by assumption) ?_
        try simp only [Act.put, List.setIfInBounds_toArray, List.set_cons_zero, List.set_cons_succ]
        refine wpAnyH_take (i := 27) (oi := { dst := some 139, op := Op.fieldAddr 60 (Operand.tmp 138) 1, type := 0, pos := "law.go:175", after := #[{ on := 26, ground := Ground.data }, { on := 19, ground := Ground.guard }], guard := some (19, true) }) (v := undef) rfl (by kernel_rfl) (by kernel_rfl) (by kernel_rfl) (fun _ _ _ h => h) (Or.inr ⟨by rfl, rfl⟩) (by assumption) ?_
        try simp only [Act.put, List.setIfInBounds_toArray, List.set_cons_zero, List.set_cons_succ]
        refine wpAnyH_take (i := 28) (oi := { dst := some 140, op := Op.load 54 (Operand.tmp 139), type := 54, pos := "law.go:175", after := #[{ on := 27, ground := Ground.data }, { on := 19, ground := Ground.guard }], guard := some (19, true) }) (v := undef) rfl (by kernel_rfl) (by kernel_rfl) (by kernel_rfl) (fun _ _ _ h => h) (Or.inr ⟨by rfl, rfl⟩) (by assumption) ?_
        try simp only [Act.put, List.setIfInBounds_toArray, List.set_cons_zero, List.set_cons_succ]
        refine wpAnyH_take (i := 29) (oi := { dst := some 141, op := Op.call { callee := Callee.value (Operand.func 42), args := #[Operand.tmp 140], argTypes := #[54] }, type := 35, pos := "law.go:175", after := #[{ on := 28, ground := Ground.data }, { on := 24, ground := Ground.chain }, { on := 19, ground := Ground.guard }], guard := some (19, true) }) (v := undef) rfl (by kernel_rfl) (by kernel_rfl) (by kernel_rfl) (fun _ _ _ h => h) (Or.inr ⟨by rfl, rfl⟩) (by assumption) ?_
        try simp only [Act.put, List.setIfInBounds_toArray, List.set_cons_zero, List.set_cons_succ]
        refine wpAnyH_take (i := 30) (oi := { dst := some 142, op := Op.call { callee := Callee.value (Operand.func 28), args := #[Operand.tmp 136, Operand.tmp 141], argTypes := #[35, 35] }, type := 4, pos := "law.go:175", after := #[{ on := 24, ground := Ground.data }, { on := 29, ground := Ground.data }, { on := 29, ground := Ground.chain }, { on := 19, ground := Ground.guard }], guard := some (19, true) }) (v := undef) rfl (by kernel_rfl) (by kernel_rfl) (by kernel_rfl) (fun _ _ _ h => h) (Or.inr ⟨by rfl, rfl⟩) (by assumption) ?_
        try simp only [Act.put, List.setIfInBounds_toArray, List.set_cons_zero, List.set_cons_succ]
        refine wpAnyH_take (i := 31) (oi := { dst := some 143, op := Op.pick (Operand.tmp 131) (Operand.tmp 142) (Operand.const (Value.bool false)), type := 4, pos := "law.go:175", after := #[{ on := 19, ground := Ground.data }, { on := 30, ground := Ground.data }, { on := 7, ground := Ground.guard }], guard := some (7, false) }) (v := undef) rfl (by kernel_rfl) (by kernel_rfl) (by kernel_rfl) (fun _ _ _ h => h) (Or.inr ⟨by rfl, rfl⟩) (by assumption) ?_
        try simp only [Act.put, List.setIfInBounds_toArray, List.set_cons_zero, List.set_cons_succ]
        refine tk (oi := { dst := some 144, op := Op.pick (Operand.tmp 119) (Operand.const (Value.bool true)) (Operand.tmp 143), type := 4, pos := "law.go:175", after := #[{ on := 7, ground := Ground.data }, { on := 31, ground := Ground.data }], guard := none }) (v := ?_) 32 rfl ?_ ?_
        rotate_left
        · (intro w hSw; (try dsimp only at hSw); first | (go_simp; done) | (go_simp; with_reducible rfl))
        try simp only [Act.put, List.setIfInBounds_toArray, List.set_cons_zero, List.set_cons_succ]
        refine tk (oi := { dst := some 4, op := Op.assign (Operand.tmp 144), type := 4, pos := "law.go:175", after := #[{ on := 32, ground := Ground.data }, { on := 30, ground := Ground.chain }, { on := 0, ground := Ground.phase }, { on := 1, ground := Ground.phase }, { on := 2, ground := Ground.phase }, { on := 3, ground := Ground.phase }, { on := 4, ground := Ground.phase }, { on := 5, ground := Ground.phase }, { on := 6, ground := Ground.phase }, { on := 7, ground := Ground.phase }, { on := 8, ground := Ground.phase }, { on := 9, ground := Ground.phase }, { on := 10, ground := Ground.phase }, { on := 11, ground := Ground.phase }, { on := 12, ground := Ground.phase }, { on := 13, ground := Ground.phase }, { on := 14, ground := Ground.phase }, { on := 15, ground := Ground.phase }, { on := 16, ground := Ground.phase }, { on := 17, ground := Ground.phase }, { on := 18, ground := Ground.phase }, { on := 19, ground := Ground.phase }, { on := 20, ground := Ground.phase }, { on := 21, ground := Ground.phase }, { on := 22, ground := Ground.phase }, { on := 23, ground := Ground.phase }, { on := 24, ground := Ground.phase }, { on := 25, ground := Ground.phase }, { on := 26, ground := Ground.phase }, { on := 27, ground := Ground.phase }, { on := 28, ground := Ground.phase }, { on := 29, ground := Ground.phase }, { on := 30, ground := Ground.phase }, { on := 31, ground := Ground.phase }, { on := 32, ground := Ground.phase }], guard := none }) (v := ?_) 33 rfl ?_ ?_
        rotate_left
        · (intro w hSw; (try dsimp only at hSw); first | (go_simp; done) | (go_simp; with_reducible rfl))
        try simp only [Act.put, List.setIfInBounds_toArray, List.set_cons_zero, List.set_cons_succ]
        refine wpAnyH_done (by kernel_rfl) ?_ _
        go_wp2_with (fail)
        go_ret
        exact ⟨rfl, HB.out.drew⟩
      | false =>
        rw [hg] at a3
        have HC3' := Lib.hid (show x.cell? ⟨r, 3, none⟩ = some (.bool false) by rw [← hg]; exact HC3.out)
        clear hg
        go_wp2_with (fail)
        refine wp_region_held_drew (S := fun z => z.cell? ⟨ms, 0, none⟩ = some (.pointer (some ⟨r, 0, none⟩)) ∧ z.cell? ⟨r, 3, none⟩ = some (.bool false) ∧ z.cell? ⟨ws, 1, none⟩ = some (.pointer (some ⟨jb, 0, none⟩)) ∧ z.cell? ⟨ms, 1, none⟩ = some (.pointer (some ⟨rb, 0, none⟩))) (by kernel_rfl) ⟨m0, a3, p1, m1⟩ (fun hHeld => ?_)
        refine tk (oi := { dst := some 112, op := Op.move (Operand.tmp 1), type := 26, pos := "law.go:175", after := #[], guard := none }) (v := ?_) 0 rfl ?_ ?_
        rotate_left
        · (intro w hSw; (try dsimp only at hSw); first | (go_simp; done) | (go_simp; with_reducible rfl))
        try simp only [Act.put, List.setIfInBounds_toArray, List.set_cons_zero, List.set_cons_succ]
        refine tk (oi := { dst := some 113, op := Op.nilCheck (Operand.tmp 112), type := 0, pos := "law.go:175", after := #[{ on := 0, ground := Ground.data }], guard := none }) (v := ?_) 1 rfl ?_ ?_
        rotate_left
        · (intro w hSw; (try dsimp only at hSw); first | (go_simp; done) | (go_simp; with_reducible rfl))
        try simp only [Act.put, List.setIfInBounds_toArray, List.set_cons_zero, List.set_cons_succ]
        refine tk (oi := { dst := some 114, op := Op.fieldAddr 60 (Operand.tmp 113) 0, type := 0, pos := "law.go:175", after := #[{ on := 1, ground := Ground.data }], guard := none }) (v := ?_) 2 rfl ?_ ?_
        rotate_left
        · (intro w hSw; (try dsimp only at hSw); first | (go_simp; done) | (go_simp; with_reducible rfl))
        try simp only [Act.put, List.setIfInBounds_toArray, List.set_cons_zero, List.set_cons_succ]
        refine tk (oi := { dst := some 115, op := Op.load 45 (Operand.tmp 114), type := 45, pos := "law.go:175", after := #[{ on := 2, ground := Ground.data }], guard := none }) (v := ?_) 3 rfl ?_ ?_
        rotate_left
        · (intro w hSw; (try dsimp only at hSw); first | (go_simp; done) | (go_simp; with_reducible rfl))
        try simp only [Act.put, List.setIfInBounds_toArray, List.set_cons_zero, List.set_cons_succ]
        refine tk (oi := { dst := some 116, op := Op.nilCheck (Operand.tmp 115), type := 0, pos := "law.go:175", after := #[{ on := 3, ground := Ground.data }], guard := none }) (v := ?_) 4 rfl ?_ ?_
        rotate_left
        · (intro w hSw; (try dsimp only at hSw); first | (go_simp; done) | (go_simp; with_reducible rfl))
        try simp only [Act.put, List.setIfInBounds_toArray, List.set_cons_zero, List.set_cons_succ]
        refine tk (oi := { dst := some 117, op := Op.fieldAddr 80 (Operand.tmp 116) 3, type := 0, pos := "law.go:175", after := #[{ on := 4, ground := Ground.data }], guard := none }) (v := ?_) 5 rfl ?_ ?_
        rotate_left
        · (intro w hSw; (try dsimp only at hSw); first | (go_simp; done) | (go_simp; with_reducible rfl))
        try simp only [Act.put, List.setIfInBounds_toArray, List.set_cons_zero, List.set_cons_succ]
        refine tk (oi := { dst := some 118, op := Op.load 4 (Operand.tmp 117), type := 4, pos := "law.go:175", after := #[{ on := 5, ground := Ground.data }], guard := none }) (v := ?_) 6 rfl ?_ ?_
        rotate_left
        · (intro w hSw; (try dsimp only at hSw); first | (go_simp; done) | (go_simp; with_reducible rfl))
        try simp only [Act.put, List.setIfInBounds_toArray, List.set_cons_zero, List.set_cons_succ]
        refine tk (oi := { dst := some 119, op := Op.move (Operand.tmp 118), type := 4, pos := "law.go:175", after := #[{ on := 6, ground := Ground.data }], guard := none }) (v := ?_) 7 rfl ?_ ?_
        rotate_left
        · (intro w hSw; (try dsimp only at hSw); first | (go_simp; done) | (go_simp; with_reducible rfl))
        try simp only [Act.put, List.setIfInBounds_toArray, List.set_cons_zero, List.set_cons_succ]
        refine tk (oi := { dst := some 120, op := Op.move (Operand.tmp 0), type := 25, pos := "law.go:175", after := #[{ on := 7, ground := Ground.guard }], guard := some (7, false) }) (v := ?_) 8 rfl ?_ ?_
        rotate_left
        · (intro w hSw; (try dsimp only at hSw); first | (go_simp; done) | (go_simp; with_reducible rfl))
        try simp only [Act.put, List.setIfInBounds_toArray, List.set_cons_zero, List.set_cons_succ]
        refine tk (oi := { dst := some 121, op := Op.nilCheck (Operand.tmp 120), type := 0, pos := "law.go:175", after := #[{ on := 8, ground := Ground.data }, { on := 7, ground := Ground.guard }], guard := some (7, false) }) (v := ?_) 9 rfl ?_ ?_
        rotate_left
        · (intro w hSw; (try dsimp only at hSw); first | (go_simp; done) | (go_simp; with_reducible rfl))
        try simp only [Act.put, List.setIfInBounds_toArray, List.set_cons_zero, List.set_cons_succ]
        refine tk (oi := { dst := some 122, op := Op.fieldAddr 58 (Operand.tmp 121) 1, type := 0, pos := "law.go:175", after := #[{ on := 9, ground := Ground.data }, { on := 7, ground := Ground.guard }], guard := some (7, false) }) (v := ?_) 10 rfl ?_ ?_
        rotate_left
        · (intro w hSw; (try dsimp only at hSw); first | (go_simp; done) | (go_simp; with_reducible rfl))
        try simp only [Act.put, List.setIfInBounds_toArray, List.set_cons_zero, List.set_cons_succ]
        refine tk (oi := { dst := some 123, op := Op.load 51 (Operand.tmp 122), type := 51, pos := "law.go:175", after := #[{ on := 10, ground := Ground.data }, { on := 7, ground := Ground.guard }], guard := some (7, false) }) (v := ?_) 11 rfl ?_ ?_
        rotate_left
        · (intro w hSw; (try dsimp only at hSw); first | (go_simp; done) | (go_simp; with_reducible rfl))
        try simp only [Act.put, List.setIfInBounds_toArray, List.set_cons_zero, List.set_cons_succ]
        refine tk (oi := { dst := some 125, op := Op.move (Operand.tmp 1), type := 26, pos := "law.go:175", after := #[{ on := 7, ground := Ground.guard }], guard := some (7, false) }) (v := ?_) 13 rfl ?_ ?_
        rotate_left
        · (intro w hSw; (try dsimp only at hSw); first | (go_simp; done) | (go_simp; with_reducible rfl))
        try simp only [Act.put, List.setIfInBounds_toArray, List.set_cons_zero, List.set_cons_succ]
        refine tk (oi := { dst := some 126, op := Op.nilCheck (Operand.tmp 125), type := 0, pos := "law.go:175", after := #[{ on := 13, ground := Ground.data }, { on := 7, ground := Ground.guard }], guard := some (7, false) }) (v := ?_) 14 rfl ?_ ?_
        rotate_left
        · (intro w hSw; (try dsimp only at hSw); first | (go_simp; done) | (go_simp; with_reducible rfl))
        try simp only [Act.put, List.setIfInBounds_toArray, List.set_cons_zero, List.set_cons_succ]
        refine tk (oi := { dst := some 127, op := Op.fieldAddr 60 (Operand.tmp 126) 1, type := 0, pos := "law.go:175", after := #[{ on := 14, ground := Ground.data }, { on := 7, ground := Ground.guard }], guard := some (7, false) }) (v := ?_) 15 rfl ?_ ?_
        rotate_left
        · (intro w hSw; (try dsimp only at hSw); first | (go_simp; done) | (go_simp; with_reducible rfl))
        try simp only [Act.put, List.setIfInBounds_toArray, List.set_cons_zero, List.set_cons_succ]
        refine tk (oi := { dst := some 128, op := Op.load 54 (Operand.tmp 127), type := 54, pos := "law.go:175", after := #[{ on := 15, ground := Ground.data }, { on := 7, ground := Ground.guard }], guard := some (7, false) }) (v := ?_) 16 rfl ?_ ?_
        rotate_left
        · (intro w hSw; (try dsimp only at hSw); first | (go_simp; done) | (go_simp; with_reducible rfl))
        try simp only [Act.put, List.setIfInBounds_toArray, List.set_cons_zero, List.set_cons_succ]
        refine wpAnyH_ready (rs := [12]) (by kernel_rfl) (by simp) ?_
        refine AllReadyH.cons (o := { dst := some 124, op := Op.call { callee := Callee.value (Operand.func 26), args := #[Operand.tmp 123], argTypes := #[51] }, type := 3, pos := "law.go:175", after := #[{ on := 11, ground := Ground.data }, { on := 7, ground := Ground.chain }, { on := 7, ground := Ground.guard }], guard := some (7, false) }) rfl (fun K hK => ?_) AllReadyH.nil
        go_simp
        refine (lw_num HX.out (HB.out.trans (Bel.refl _).drew) hnm).mono ?_
        rintro e w5 ⟨rfl, -, hb5⟩
        have HB5 := Lib.hid ((HB.out.trans (Bel.refl _).drew).trans hb5)
        clear hb5
        dsimp only
        refine hK.out _ _ ⟨cell_later HB5.out HT0.out, cell_later HB5.out HC3'.out, cell_later HB5.out HS1.out, cell_later HB5.out HT1.out⟩ (fun hHeld => ?_)
        clear hK K
        try simp only [Act.put, List.setIfInBounds_toArray, List.set_cons_zero, List.set_cons_succ]
        refine wpAnyH_ready (rs := [17]) (by kernel_rfl) (by simp) ?_
        refine AllReadyH.cons (o := { dst := some 129, op := Op.call { callee := Callee.value (Operand.func 41), args := #[Operand.tmp 128], argTypes := #[54] }, type := 3, pos := "law.go:175", after := #[{ on := 16, ground := Ground.data }, { on := 12, ground := Ground.chain }, { on := 7, ground := Ground.guard }], guard := some (7, false) }) rfl (fun K hK => ?_) AllReadyH.nil
        go_simp
        refine (lw_rnum HX.out HB5.out hnm).mono ?_
        rintro e w6 ⟨rfl, -, hb6⟩
        have HB6 := Lib.hid (HB5.out.trans hb6)
        clear hb6
        dsimp only
        refine hK.out _ _ ⟨cell_later HB6.out HT0.out, cell_later HB6.out HC3'.out, cell_later HB6.out HS1.out, cell_later HB6.out HT1.out⟩ (fun hHeld => ?_)
        clear hK K
        try simp only [Act.put, List.setIfInBounds_toArray, List.set_cons_zero, List.set_cons_succ]
        refine tk (oi := { dst := some 130, op := Op.binOp BinOp.eql 3 (Operand.tmp 124) (Operand.tmp 129) 3, type := 4, pos := "law.go:175", after := #[{ on := 12, ground := Ground.data }, { on := 17, ground := Ground.data }, { on := 7, ground := Ground.guard }], guard := some (7, false) }) (v := ?_) 18 rfl ?_ ?_
        rotate_left
        · (intro w hSw; (try dsimp only at hSw); first | (go_simp; done) | (go_simp; with_reducible rfl))
        try simp only [Act.put, List.setIfInBounds_toArray, List.set_cons_zero, List.set_cons_succ]
        refine tk (oi := { dst := some 131, op := Op.move (Operand.tmp 130), type := 4, pos := "law.go:175", after := #[{ on := 18, ground := Ground.data }, { on := 17, ground := Ground.chain }, { on := 7, ground := Ground.guard }], guard := some (7, false) }) (v := ?_) 19 rfl ?_ ?_
        rotate_left
        · (intro w hSw; (try dsimp only at hSw); first | (go_simp; done) | (go_simp; with_reducible rfl))
        try simp only [Act.put, List.setIfInBounds_toArray, List.set_cons_zero, List.set_cons_succ]
        refine tk (oi := { dst := some 132, op := Op.move (Operand.tmp 0), type := 25, pos := "law.go:175", after := #[{ on := 19, ground := Ground.guard }], guard := some (19, true) }) (v := ?_) 20 rfl ?_ ?_
        rotate_left
        · (intro w hSw; (try dsimp only at hSw); first | (go_simp; done) | (go_simp; with_reducible rfl))
        try simp only [Act.put, List.setIfInBounds_toArray, List.set_cons_zero, List.set_cons_succ]
        refine tk (oi := { dst := some 133, op := Op.nilCheck (Operand.tmp 132), type := 0, pos := "law.go:175", after := #[{ on := 20, ground := Ground.data }, { on := 19, ground := Ground.guard }], guard := some (19, true) }) (v := ?_) 21 rfl ?_ ?_
        rotate_left
        · (intro w hSw; (try dsimp only at hSw); first | (go_simp; done) | (go_simp; with_reducible rfl))
        try simp only [Act.put, List.setIfInBounds_toArray, List.set_cons_zero, List.set_cons_succ]
        refine tk (oi := { dst := some 134, op := Op.fieldAddr 58 (Operand.tmp 133) 1, type := 0, pos := "law.go:175", after := #[{ on := 21, ground := Ground.data }, { on := 19, ground := Ground.guard }], guard := some (19, true) }) (v := ?_) 22 rfl ?_ ?_
        rotate_left
        · (intro w hSw; (try dsimp only at hSw); first | (go_simp; done) | (go_simp; with_reducible rfl))
        try simp only [Act.put, List.setIfInBounds_toArray, List.set_cons_zero, List.set_cons_succ]
        refine tk (oi := { dst := some 135, op := Op.load 51 (Operand.tmp 134), type := 51, pos := "law.go:175", after := #[{ on := 22, ground := Ground.data }, { on := 19, ground := Ground.guard }], guard := some (19, true) }) (v := ?_) 23 rfl ?_ ?_
        rotate_left
        · (intro w hSw; (try dsimp only at hSw); first | (go_simp; done) | (go_simp; with_reducible rfl))
        try simp only [Act.put, List.setIfInBounds_toArray, List.set_cons_zero, List.set_cons_succ]
        refine tk (oi := { dst := some 137, op := Op.move (Operand.tmp 1), type := 26, pos := "law.go:175", after := #[{ on := 19, ground := Ground.guard }], guard := some (19, true) }) (v := ?_) 25 rfl ?_ ?_
        rotate_left
        · (intro w hSw; (try dsimp only at hSw); first | (go_simp; done) | (go_simp; with_reducible rfl))
        try simp only [Act.put, List.setIfInBounds_toArray, List.set_cons_zero, List.set_cons_succ]
        refine tk (oi := { dst := some 138, op := Op.nilCheck (Operand.tmp 137), type := 0, pos := "law.go:175", after := #[{ on := 25, ground := Ground.data }, { on := 19, ground := Ground.guard }], guard := some (19, true) }) (v := ?_) 26 rfl ?_ ?_
        rotate_left
        · (intro w hSw; (try dsimp only at hSw); first | (go_simp; done) | (go_simp; with_reducible rfl))
        try simp only [Act.put, List.setIfInBounds_toArray, List.set_cons_zero, List.set_cons_succ]
        refine tk (oi := { dst := some 139, op := Op.fieldAddr 60 (Operand.tmp 138) 1, type := 0, pos := "law.go:175", after := #[{ on := 26, ground := Ground.data }, { on := 19, ground := Ground.guard }], guard := some (19, true) }) (v := ?_) 27 rfl ?_ ?_
        rotate_left
        · (intro w hSw; (try dsimp only at hSw); first | (go_simp; done) | (go_simp; with_reducible rfl))
        try simp only [Act.put, List.setIfInBounds_toArray, List.set_cons_zero, List.set_cons_succ]
        refine tk (oi := { dst := some 140, op := Op.load 54 (Operand.tmp 139), type := 54, pos := "law.go:175", after := #[{ on := 27, ground := Ground.data }, { on := 19, ground := Ground.guard }], guard := some (19, true) }) (v := ?_) 28 rfl ?_ ?_
        rotate_left
        · (intro w hSw; (try dsimp only at hSw); first | (go_simp; done) | (go_simp; with_reducible rfl))
        try simp only [Act.put, List.setIfInBounds_toArray, List.set_cons_zero, List.set_cons_succ]
        refine wpAnyH_ready (rs := [24]) (by kernel_rfl) (by simp) ?_
        refine AllReadyH.cons (o := { dst := some 136, op := Op.call { callee := Callee.value (Operand.func 29), args := #[Operand.tmp 135], argTypes := #[51] }, type := 35, pos := "law.go:175", after := #[{ on := 23, ground := Ground.data }, { on := 19, ground := Ground.chain }, { on := 19, ground := Ground.guard }], guard := some (19, true) }) rfl (fun K hK => ?_) AllReadyH.nil
        go_simp
        refine (lw_segs HX.out HB6.out hnm).mono ?_
        rintro e w7 ⟨⟨va, rfl, ha⟩, -, hb7⟩
        have HA := Lib.hid ha
        have HB7 := Lib.hid (HB6.out.trans hb7)
        clear hb7 ha
        dsimp only
        refine hK.out _ _ ⟨cell_later HB7.out HT0.out, cell_later HB7.out HC3'.out, cell_later HB7.out HS1.out, cell_later HB7.out HT1.out⟩ (fun hHeld => ?_)
        clear hK K
        try simp only [Act.put, List.setIfInBounds_toArray, List.set_cons_zero, List.set_cons_succ]
        refine wpAnyH_ready (rs := [29]) (by kernel_rfl) (by simp) ?_
        refine AllReadyH.cons (o := { dst := some 141, op := Op.call { callee := Callee.value (Operand.func 42), args := #[Operand.tmp 140], argTypes := #[54] }, type := 35, pos := "law.go:175", after := #[{ on := 28, ground := Ground.data }, { on := 24, ground := Ground.chain }, { on := 19, ground := Ground.guard }], guard := some (19, true) }) rfl (fun K hK => ?_) AllReadyH.nil
        go_simp
        refine (lw_rsegs HX.out HB7.out hnm).mono ?_
        rintro e w8 ⟨⟨vb, rfl, hbb⟩, -, hb8⟩
        have HA2 := Lib.hid (show OwnG intEl w6.heap.size w8 va ((segsL nm.data.toList M.L).map fun n : Nat => (n : Int)) from HA.out.bel hb8)
        have HBB := Lib.hid hbb
        have HB8 := Lib.hid (HB7.out.trans hb8)
        clear hb8 hbb
        dsimp only
        refine hK.out _ _ ⟨cell_later HB8.out HT0.out, cell_later HB8.out HC3'.out, cell_later HB8.out HS1.out, cell_later HB8.out HT1.out⟩ (fun hHeld => ?_)
        clear hK K
        try simp only [Act.put, List.setIfInBounds_toArray, List.set_cons_zero, List.set_cons_succ]
        refine wpAnyH_ready (rs := [30]) (by kernel_rfl) (by simp) ?_
        refine AllReadyH.cons (o := { dst := some 142, op := Op.call { callee := Callee.value (Operand.func 28), args := #[Operand.tmp 136, Operand.tmp 141], argTypes := #[35, 35] }, type := 4, pos := "law.go:175", after := #[{ on := 24, ground := Ground.data }, { on := 29, ground := Ground.data }, { on := 29, ground := Ground.chain }, { on := 19, ground := Ground.guard }], guard := some (19, true) }) rfl (fun K hK => ?_) AllReadyH.nil
        go_simp
        refine (jints_any w8 va vb _ _ _ _ HA2.out HBB.out (by omega) (by omega)).mono ?_
        rintro e w9 ⟨rfl, hd9⟩
        rw [decide_eq_true rfl]
        have HB9 := Lib.hid (HB8.out.trans hd9.bel)
        clear hd9
        dsimp only
        refine hK.out _ _ ⟨cell_later HB9.out HT0.out, cell_later HB9.out HC3'.out, cell_later HB9.out HS1.out, cell_later HB9.out HT1.out⟩ (fun hHeld => ?_)
        clear hK K
        try simp only [Act.put, List.setIfInBounds_toArray, List.set_cons_zero, List.set_cons_succ]
        refine tk (oi := { dst := some 143, op := Op.pick (Operand.tmp 131) (Operand.tmp 142) (Operand.const (Value.bool false)), type := 4, pos := "law.go:175", after := #[{ on := 19, ground := Ground.data }, { on := 30, ground := Ground.data }, { on := 7, ground := Ground.guard }], guard := some (7, false) }) (v := ?_) 31 rfl ?_ ?_
        rotate_left
        · (intro w hSw; (try dsimp only at hSw); first | (go_simp; done) | (go_simp; with_reducible rfl))
        try simp only [Act.put, List.setIfInBounds_toArray, List.set_cons_zero, List.set_cons_succ]
        refine tk (oi := { dst := some 144, op := Op.pick (Operand.tmp 119) (Operand.const (Value.bool true)) (Operand.tmp 143), type := 4, pos := "law.go:175", after := #[{ on := 7, ground := Ground.data }, { on := 31, ground := Ground.data }], guard := none }) (v := ?_) 32 rfl ?_ ?_
        rotate_left
        · (intro w hSw; (try dsimp only at hSw); first | (go_simp; done) | (go_simp; with_reducible rfl))
        try simp only [Act.put, List.setIfInBounds_toArray, List.set_cons_zero, List.set_cons_succ]
        refine tk (oi := { dst := some 4, op := Op.assign (Operand.tmp 144), type := 4, pos := "law.go:175", after := #[{ on := 32, ground := Ground.data }, { on := 30, ground := Ground.chain }, { on := 0, ground := Ground.phase }, { on := 1, ground := Ground.phase }, { on := 2, ground := Ground.phase }, { on := 3, ground := Ground.phase }, { on := 4, ground := Ground.phase }, { on := 5, ground := Ground.phase }, { on := 6, ground := Ground.phase }, { on := 7, ground := Ground.phase }, { on := 8, ground := Ground.phase }, { on := 9, ground := Ground.phase }, { on := 10, ground := Ground.phase }, { on := 11, ground := Ground.phase }, { on := 12, ground := Ground.phase }, { on := 13, ground := Ground.phase }, { on := 14, ground := Ground.phase }, { on := 15, ground := Ground.phase }, { on := 16, ground := Ground.phase }, { on := 17, ground := Ground.phase }, { on := 18, ground := Ground.phase }, { on := 19, ground := Ground.phase }, { on := 20, ground := Ground.phase }, { on := 21, ground := Ground.phase }, { on := 22, ground := Ground.phase }, { on := 23, ground := Ground.phase }, { on := 24, ground := Ground.phase }, { on := 25, ground := Ground.phase }, { on := 26, ground := Ground.phase }, { on := 27, ground := Ground.phase }, { on := 28, ground := Ground.phase }, { on := 29, ground := Ground.phase }, { on := 30, ground := Ground.phase }, { on := 31, ground := Ground.phase }, { on := 32, ground := Ground.phase }], guard := none }) (v := ?_) 33 rfl ?_ ?_
        rotate_left
        · (intro w hSw; (try dsimp only at hSw); first | (go_simp; done) | (go_simp; with_reducible rfl))
        try simp only [Act.put, List.setIfInBounds_toArray, List.set_cons_zero, List.set_cons_succ]
        refine wpAnyH_done (by kernel_rfl) ?_ _
        go_wp2_with (fail)
        go_ret
        exact ⟨rfl, HB9.out⟩
end Go.Proofs.YtlmlcnbgdaiaeaaGreatDoor
