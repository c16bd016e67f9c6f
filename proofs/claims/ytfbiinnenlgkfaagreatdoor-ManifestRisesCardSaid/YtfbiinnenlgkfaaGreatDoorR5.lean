/- NRef1, NBox, NPRight, laid together. -/
import Derived.Test.YtfbiinnenlgkfaaGreatDoorR3
import Derived.Test.YtfbiinnenlgkfaaGreatDoorR4
import Derived.Deep.QuietTactic
import Derived.BigQuiet
import Derived.Test.YtfbiinnenlgkfaaGreatDoorR6
set_option linter.unusedSimpArgs false
set_option linter.unusedVariables false
set_option maxRecDepth 100000
namespace Go.Proofs.YtfbiinnenlgkfaaGreatDoor
open Go.RowKit Go.Deep

def PlsAt (w : World) (p : Option Addr) (l : List PL) : Prop := ∀ i (h : i < l.length), ∃ a B O sp, p = some a ∧ a.add (i * 2) = ⟨B, O, sp⟩ ∧ w.cell? ⟨B, O, sp⟩ = some (.int .i64 l[i].n) ∧ w.cell? ⟨B, O + 1, none⟩ = some (.int .i64 l[i].l)
theorem cl13 {w x : World} {a : Addr} {v : Value} (hb : Bel w x) (h : w.cell? a = some v) : x.cell? a = some v := (Below.cell hb (World.block_lt_of_cell? _ _ h)).trans h
theorem PlsAt.bel {w x : World} {p : Option Addr} {l : List PL} (h : PlsAt w p l) (hb : Bel w x) : PlsAt x p l := fun i hi => by
 obtain ⟨a, B, O, sp, h0, h1, h2, h3⟩ := h i hi
 exact ⟨a, B, O, sp, h0, h1, cl13 hb h2, cl13 hb h3⟩
theorem tnew13 (w : World) (cs : Array Value) (t : TypeId) : (w.alloc (.cells cs t)).heap[w.heap.size]? = some (.cells cs t (0, 0)) := heap_alloc_new w _
theorem files_step {nx last : Int} {l : List PL} {i : Nat} (hi : i < l.length) : filesOk nx last (l.drop i) = (decide (last < l[i].n) && decide (l[i].n < nx) && decide (0 ≤ l[i].l) && decide (l[i].l ≤ 3) && filesOk nx l[i].n (l.drop (i + 1))) := by
 rw [List.drop_eq_getElem_cons hi]; rfl
set_option maxHeartbeats 4000000 in
theorem rright13_any (p : Option Addr) (c : Nat) (s : MS) (w : World) (h : PlsAt w p s.files) (hl : s.files.length ≤ 100000) (hz : s.mt.size ≤ 100000000) :
  Calls Tryz.prog 16 #[.agg #[.slice p s.files.length c, .int .i64 s.next, .int .i64 s.seq, .int .i64 s.log, .string s.mt]] w fun r w' => r = .returned (.bool (rightM s)) ∧ Bel w w' := by
 obtain ⟨w1, hw1⟩ : ∃ z, z = w.alloc (.cells #[.slice p s.files.length c, .int .i64 s.next, .int .i64 s.seq, .int .i64 s.log, .string s.mt] 28) := ⟨_, rfl⟩
 have hB1 : Bel w w1 := by rw [hw1]; exact (Bel.refl w).alloc _
 have kx : w1.heap[w.heap.size]? = some (.cells #[.slice p s.files.length c, .int .i64 s.next, .int .i64 s.seq, .int .i64 s.log, .string s.mt] 28 (0, 0)) := by rw [hw1]; exact tnew13 w _ _
 have x0 : w1.cell? ⟨w.heap.size, 0, none⟩ = some (.slice p s.files.length c) := by simp [World.cell?, kx]
 have x1 : w1.cell? ⟨w.heap.size, 1, none⟩ = some (.int .i64 s.next) := by simp [World.cell?, kx]
 have x2 : w1.cell? ⟨w.heap.size, 2, none⟩ = some (.int .i64 s.seq) := by simp [World.cell?, kx]
 have x3 : w1.cell? ⟨w.heap.size, 3, none⟩ = some (.int .i64 s.log) := by simp [World.cell?, kx]
 have x4 : w1.cell? ⟨w.heap.size, 4, none⟩ = some (.string s.mt) := by simp [World.cell?, kx]
 have H := Lib.hid (h.bel hB1)
 have HB1 := Lib.hid hB1
 have HX := Lib.hid (And.intro x0 (And.intro x1 (And.intro x2 (And.intro x3 x4))))
 clear h hB1 kx x0 x1 x2 x3 x4
 go_enter Tryz.func16, Tryz.ntmps16
 go_wp2_with (fail)
 rw [show (w.alloc (.cells #[.slice p s.files.length c, .int .i64 s.next, .int .i64 s.seq, .int .i64 s.log, .string s.mt] 28)) = w1 from hw1.symm]
 clear hw1
 go_loopw [3, 4] (fun lv iv x => ∃ (i : Nat) (last : Int), i ≤ s.files.length ∧ iv = .int .i64 i ∧ lv = .int .i64 last ∧ filesOk s.next 0 s.files = filesOk s.next last (s.files.drop i) ∧ Bel w1 x) (fun _ iv _ => s.files.length - (intOf iv).toNat)
 case atStart => exact ⟨0, 0, Nat.zero_le _, rfl, rfl, rfl, Bel.refl w1⟩
 case round =>
  obtain ⟨i, last, hi, rfl, rfl, hf, hw⟩ := hrel
  have HW := Lib.hid hw
  have q0 := cl13 hw HX.out.1
  have q1 := cl13 hw HX.out.2.1
  have q2 := cl13 hw HX.out.2.2.1
  have q3 := cl13 hw HX.out.2.2.2.1
  have q4 := cl13 hw HX.out.2.2.2.2
  have hlt : w.heap.size < wr.heap.size := World.block_lt_of_cell? _ _ q0
  by_cases hil : i < s.files.length
  ·obtain ⟨a, B, O, sp, rfl, ha, y0, y1⟩ := (H.out.bel hw) i hil
   rw [files_step hil] at hf
   have hii : (i : Int) < (s.files.length : Int) := by omega
   have HF := Lib.hid hf
   have HNO := Lib.hid (show filesOk s.next 0 s.files = false → rightM s = false from fun hh => by simp [rightM, hh])
   have HAL := Lib.hid ((Bel.refl wr).alloc (.cells #[.int .i64 s.files[i].n, .int .i64 s.files[i].l] 96))
   generalize s.files[i].n = pn at *
   generalize s.files[i].l = pl at *
   clear hf hw
   by_cases h1 : last < pn
   ·have h1d : ¬ pn ≤ last := by omega
    by_cases h2 : pn < s.next
    ·have h2d : ¬ s.next ≤ pn := by omega
     by_cases h3 : 0 ≤ pl
     ·have h3d : ¬ pl < 0 := by omega
      by_cases h4 : pl ≤ 3
      ·have h4d : ¬ 3 < pl := by omega
       have HF2 := Lib.hid (show filesOk s.next 0 s.files = filesOk s.next pn (s.files.drop (i + 1)) by rw [HF.out]; simp [h1, h2, h3, h4])
       go_wp2_with (fail)
       go_roundw
       case rel => exact ⟨i + 1, pn, hil, by go_num, rfl, HF2.out, HW.out.trans HAL.out⟩
       case measure => simp [intOf]; omega
      ·have h4d : 3 < pl := by omega
       have HR := Lib.hid (HNO.out (by rw [HF.out]; simp [h4]))
       go_wp2_with (fail)
       go_ret
       exact ⟨ret_bool HR.out.symm, (HB1.out.trans HW.out).trans HAL.out⟩
     ·have h3d : pl < 0 := by omega
      have HR := Lib.hid (HNO.out (by rw [HF.out]; simp [h3]))
      go_wp2_with (fail)
      go_ret
      exact ⟨ret_bool HR.out.symm, (HB1.out.trans HW.out).trans HAL.out⟩
    ·have h2d : s.next ≤ pn := by omega
     have HR := Lib.hid (HNO.out (by rw [HF.out]; simp [h2]))
     go_wp2_with (fail)
     go_ret
     exact ⟨ret_bool HR.out.symm, (HB1.out.trans HW.out).trans HAL.out⟩
   ·have h1d : pn ≤ last := by omega
    have HR := Lib.hid (HNO.out (by rw [HF.out]; simp [h1]))
    go_wp2_with (fail)
    go_ret
    exact ⟨ret_bool HR.out.symm, (HB1.out.trans HW.out).trans HAL.out⟩
  ·have hii : ¬ (i : Int) < (s.files.length : Int) := by omega
   replace hf : filesOk s.next 0 s.files = true := by rw [hf, List.drop_eq_nil_of_le (by omega)]; rfl
   by_cases h40' : s.files.length ≤ 40
   ·have h40 : (s.files.length : Int) ≤ 40 := by omega
    by_cases hn1' : 1 ≤ s.next
    ·have hn1 : (1 : Int) ≤ s.next := by omega
     by_cases hn2' : s.next ≤ 1099511627776
     ·have hn2 : s.next ≤ (1099511627776 : Int) := by omega
      by_cases hl1' : 1 ≤ s.log
      ·have hl1 : (1 : Int) ≤ s.log := by omega
       by_cases hl2' : s.log ≤ 1099511627776
       ·have hl2 : s.log ≤ (1099511627776 : Int) := by omega
        by_cases hs1' : 0 ≤ s.seq
        ·have hs1 : (0 : Int) ≤ s.seq := by omega
         by_cases hs2' : s.seq ≤ 1099511627776
         ·have hs2 : s.seq ≤ (1099511627776 : Int) := by omega
          by_cases hm1' : s.mt.size ≤ 30000
          ·have hm1 : (s.mt.size : Int) ≤ 30000 := by omega
           have HR := Lib.hid (show rightM s = true by simp [rightM, inN, hf, h40', hn1', hn2', hl1', hl2', hs1', hs2', hm1'])
           clear hw hf
           go_wp2_with (fail)
           go_ret
           exact ⟨ret_bool HR.out.symm, HB1.out.trans HW.out⟩
          ·have hm1 : ¬ (s.mt.size : Int) ≤ 30000 := by omega
           have HR := Lib.hid (show rightM s = false by simp [rightM, inN, hm1'])
           clear hw hf
           go_wp2_with (fail)
           go_ret
           exact ⟨ret_bool HR.out.symm, HB1.out.trans HW.out⟩
         ·have hs2 : ¬ s.seq ≤ (1099511627776 : Int) := by omega
          have HR := Lib.hid (show rightM s = false by simp [rightM, inN, hs2'])
          clear hw hf
          go_wp2_with (fail)
          go_ret
          exact ⟨ret_bool HR.out.symm, HB1.out.trans HW.out⟩
        ·have hs1 : ¬ (0 : Int) ≤ s.seq := by omega
         have HR := Lib.hid (show rightM s = false by simp [rightM, inN, hs1'])
         clear hw hf
         go_wp2_with (fail)
         go_ret
         exact ⟨ret_bool HR.out.symm, HB1.out.trans HW.out⟩
       ·have hl2 : ¬ s.log ≤ (1099511627776 : Int) := by omega
        have HR := Lib.hid (show rightM s = false by simp [rightM, inN, hl2'])
        clear hw hf
        go_wp2_with (fail)
        go_ret
        exact ⟨ret_bool HR.out.symm, HB1.out.trans HW.out⟩
      ·have hl1 : ¬ (1 : Int) ≤ s.log := by omega
       have HR := Lib.hid (show rightM s = false by simp [rightM, inN, hl1'])
       clear hw hf
       go_wp2_with (fail)
       go_ret
       exact ⟨ret_bool HR.out.symm, HB1.out.trans HW.out⟩
     ·have hn2 : ¬ s.next ≤ (1099511627776 : Int) := by omega
      have HR := Lib.hid (show rightM s = false by simp [rightM, inN, hn2'])
      clear hw hf
      go_wp2_with (fail)
      go_ret
      exact ⟨ret_bool HR.out.symm, HB1.out.trans HW.out⟩
    ·have hn1 : ¬ (1 : Int) ≤ s.next := by omega
     have HR := Lib.hid (show rightM s = false by simp [rightM, inN, hn1'])
     clear hw hf
     go_wp2_with (fail)
     go_ret
     exact ⟨ret_bool HR.out.symm, HB1.out.trans HW.out⟩
   ·have h40 : ¬ (s.files.length : Int) ≤ 40 := by omega
    have HR := Lib.hid (show rightM s = false by simp [rightM, inN, h40'])
    clear hw hf
    go_wp2_with (fail)
    go_ret
    exact ⟨ret_bool HR.out.symm, HB1.out.trans HW.out⟩

section
variable {w x : World} {k : Nat} {T : TypeId} {a b c d e f g a' b' c' d' e' u : Value}
theorem box_cell {arr : Array Value} (h : w.heap[k]? = some (.cells arr T (0, 0))) (i : Nat) : w.cell? ⟨k, i, none⟩ = arr[i]? := by simp [World.cell?, h]
theorem box_frozen {arr : Array Value} (h : w.heap[k]? = some (.cells arr T (0, 0))) (i : Nat) : w.frozen? ⟨k, i, none⟩ = false := by simp [World.frozen?, h]
theorem box_bel {arr : Array Value} (h : w.heap[k]? = some (.cells arr T (0, 0))) (hb : Bel w x) : x.heap[k]? = some (.cells arr T (0, 0)) :=
 (Below.block hb k (Array.getElem?_eq_some_iff.1 h).1).trans h
theorem box_lt {o : Obj} (h : w.heap[k]? = some o) : k < w.heap.size := (Array.getElem?_eq_some_iff.1 h).1
theorem box5 (h : w.heap[k]? = some (.cells #[a, b, c, d, e] T (0, 0))) : (w.cell? ⟨k, 0, none⟩ = some a ∧ w.cell? ⟨k, 1, none⟩ = some b ∧ w.cell? ⟨k, 2, none⟩ = some c ∧ w.cell? ⟨k, 3, none⟩ = some d ∧ w.cell? ⟨k, 4, none⟩ = some e) ∧
  w.frozen? ⟨k, 0, none⟩ = false ∧ w.frozen? ⟨k, 1, none⟩ = false ∧ w.frozen? ⟨k, 2, none⟩ = false ∧ w.frozen? ⟨k, 3, none⟩ = false ∧ w.frozen? ⟨k, 4, none⟩ = false :=
 ⟨⟨box_cell h 0, box_cell h 1, box_cell h 2, box_cell h 3, box_cell h 4⟩, box_frozen h 0, box_frozen h 1, box_frozen h 2, box_frozen h 3, box_frozen h 4⟩
theorem box7 (h : w.heap[k]? = some (.cells #[a, b, c, d, e, f, g] T (0, 0))) : (w.cell? ⟨k, 0, none⟩ = some a ∧ w.cell? ⟨k, 1, none⟩ = some b ∧ w.cell? ⟨k, 2, none⟩ = some c ∧ w.cell? ⟨k, 3, none⟩ = some d ∧ w.cell? ⟨k, 4, none⟩ = some e ∧ w.cell? ⟨k, 5, none⟩ = some f ∧ w.cell? ⟨k, 6, none⟩ = some g) ∧
  w.frozen? ⟨k, 0, none⟩ = false ∧ w.frozen? ⟨k, 1, none⟩ = false ∧ w.frozen? ⟨k, 2, none⟩ = false ∧ w.frozen? ⟨k, 3, none⟩ = false ∧ w.frozen? ⟨k, 4, none⟩ = false ∧ w.frozen? ⟨k, 5, none⟩ = false ∧ w.frozen? ⟨k, 6, none⟩ = false :=
 ⟨⟨box_cell h 0, box_cell h 1, box_cell h 2, box_cell h 3, box_cell h 4, box_cell h 5, box_cell h 6⟩, box_frozen h 0, box_frozen h 1, box_frozen h 2, box_frozen h 3, box_frozen h 4, box_frozen h 5, box_frozen h 6⟩
theorem set5 (h : w.heap[k]? = some (.cells #[a, b, c, d, e] T (0, 0))) :
  (((((w.setCell ⟨k, 0, none⟩ a').setCell ⟨k, 1, none⟩ b').setCell ⟨k, 2, none⟩ c').setCell ⟨k, 3, none⟩ d').setCell ⟨k, 4, none⟩ e').heap[k]? = some (.cells #[a', b', c', d', e'] T (0, 0)) :=
 blk_set (blk_set (blk_set (blk_set (blk_set h 0 a') 1 b') 2 c') 3 d') 4 e'
theorem set57 (h : w.heap[k]? = some (.cells #[a, b, c, d, e, f, g] T (0, 0))) :
  (((((w.setCell ⟨k, 1, none⟩ a').setCell ⟨k, 2, none⟩ b').setCell ⟨k, 3, none⟩ c').setCell ⟨k, 4, none⟩ d').setCell ⟨k, 5, none⟩ e').heap[k]? = some (.cells #[a, a', b', c', d', e', g] T (0, 0)) :=
 blk_set (blk_set (blk_set (blk_set (blk_set h 1 a') 2 b') 3 c') 4 d') 5 e'
theorem keep5 : Keep [k] w (((((w.setCell ⟨k, 0, none⟩ a').setCell ⟨k, 1, none⟩ b').setCell ⟨k, 2, none⟩ c').setCell ⟨k, 3, none⟩ d').setCell ⟨k, 4, none⟩ e') :=
 (((((Keep.refl [k] w).setCell (p := ⟨k, 0, none⟩) (Or.inl (by simp)) a').setCell (p := ⟨k, 1, none⟩) (Or.inl (by simp)) b').setCell (p := ⟨k, 2, none⟩) (Or.inl (by simp)) c').setCell (p := ⟨k, 3, none⟩) (Or.inl (by simp)) d').setCell (p := ⟨k, 4, none⟩) (Or.inl (by simp)) e'
theorem keep57 : Keep [k] w (((((w.setCell ⟨k, 1, none⟩ a').setCell ⟨k, 2, none⟩ b').setCell ⟨k, 3, none⟩ c').setCell ⟨k, 4, none⟩ d').setCell ⟨k, 5, none⟩ e') :=
 (((((Keep.refl [k] w).setCell (p := ⟨k, 1, none⟩) (Or.inl (by simp)) a').setCell (p := ⟨k, 2, none⟩) (Or.inl (by simp)) b').setCell (p := ⟨k, 3, none⟩) (Or.inl (by simp)) c').setCell (p := ⟨k, 4, none⟩) (Or.inl (by simp)) d').setCell (p := ⟨k, 5, none⟩) (Or.inl (by simp)) e'
theorem keep_bel1 {y z : World} {k : Nat} (h : Keep [k] y z) (hb : Bel x y) (hk : x.heap.size ≤ k) : Bel x z :=
 ((Keep.of_bel hb [k]).trans h (fun j hj => Or.inl hj)).bel (fun j hj => by rw [List.mem_singleton] at hj; omega)
theorem keep_below {x y z : World} {F : List Nat} {n : Nat} (h : Keep F x y) (hb : Below n y z) (hn : x.heap.size ≤ n) : Keep F x z :=
 ⟨hb.os.trans h.os, hb.tape.trans h.tape, hb.output.trans h.output, Nat.le_trans h.size hb.size, fun k hk hF => (hb.block k (by omega)).trans (h.block k hk hF)⟩
theorem PlsAt.keep {y z : World} {p : Option Addr} {l : List PL} {F : List Nat} (h : PlsAt y p l) (hk : Keep F y z) (hF : l ≠ [] → ∀ a, p = some a → a.block ∉ F) : PlsAt z p l := fun i hi => by
 obtain ⟨a, B, O, sp, h0, h1, h2, h3⟩ := h i hi
 have e : a.block = B := by
  have := congrArg Addr.block h1
  cases i <;> simpa [Addr.add] using this
 have hn : B ∉ F := e ▸ hF (by rintro rfl; simp at hi) a h0
 exact ⟨a, B, O, sp, h0, h1, hk.cell h2 hn, hk.cell h3 hn⟩
theorem PlsAt.nil (y : World) (p : Option Addr) : PlsAt y p [] := fun i hi => by simp at hi
theorem PlsAt.lt {y : World} {p : Option Addr} {l : List PL} (h : PlsAt y p l) (hne : l ≠ []) : ∀ a, p = some a → a.block < y.heap.size := fun a ha => by
 obtain ⟨a', B, O, sp, h0, h1, h2, h3⟩ := h 0 (List.length_pos_iff.2 hne)
 obtain rfl : a = a' := by rw [ha] at h0; simpa using h0
 have e : a.block = B := by
  have := congrArg Addr.block h1
  simpa [Addr.add] using this
 rw [e]; exact block_lt_of_cell h2
end
set_option maxRecDepth 100000

def betw (n lo hi : Int) : Bool := decide (lo ≤ n) && decide (n ≤ hi)
set_option maxHeartbeats 2000000 in
theorem within_any (n lo hi : Int) (w : World) :
  Calls Tryz.prog 41 #[.int .i64 n, .int .i64 lo, .int .i64 hi] w fun r w' => r = .returned (.bool (betw n lo hi)) ∧ w' = w := by
 go_enter Tryz.func41, Tryz.ntmps41
 by_cases h1 : lo ≤ n
 ·have HV := Lib.hid (show betw n lo hi = decide (n ≤ hi) by unfold betw; rw [decide_eq_true h1, Bool.true_and])
  go_wp2_with (fail)
  go_ret
  exact ⟨by rw [HV.out]; rfl, rfl⟩
 ·have HV := Lib.hid (show betw n lo hi = false by unfold betw; rw [decide_eq_false h1, Bool.false_and])
  go_wp2_with (fail)
  go_ret
  exact ⟨by rw [HV.out]; rfl, rfl⟩
set_option maxHeartbeats 4000000 in
theorem aright13_any (p : Option Addr) (c : Nat) (l : List PL) (nx : Int) (w : World) (h : PlsAt w p l) (hl : l.length ≤ 100000) (hn : 1 ≤ nx ∧ nx ≤ 1099511627776) :
  Calls Tryz.prog 43 #[.slice p l.length c, .int .i64 nx] w fun r w' => r = .returned (.bool (filesOk nx 0 l)) ∧ Bel w w' := by
 have H := Lib.hid h
 have hnw : IntKind.i64.wrap (nx - 1) = nx - 1 := by rw [IntKind.wrap_i64]; omega
 clear h
 go_enter Tryz.func43, Tryz.ntmps43
 go_wp2_with (fail)
 go_loopw [5, 10] (fun lv iv x => ∃ (i : Nat) (last : Int), i ≤ l.length ∧ iv = .int .i64 i ∧ lv = .int .i64 (last + 1) ∧ (0 ≤ last ∧ last < nx) ∧ filesOk nx 0 l = filesOk nx last (l.drop i) ∧ Bel w x) (fun _ iv _ => l.length - (intOf iv).toNat)
 case atStart => exact ⟨0, 0, Nat.zero_le _, rfl, rfl, by omega, rfl, Bel.refl w⟩
 case round =>
  obtain ⟨i, last, hi, rfl, rfl, hla, hf, hw⟩ := hrel
  have HW := Lib.hid hw
  by_cases hil : i < l.length
  ·obtain ⟨a, B, O, sp, rfl, ha, y0, y1⟩ := (H.out.bel hw) i hil
   rw [files_step hil] at hf
   have hii : (i : Int) < (l.length : Int) := by omega
   have HF := Lib.hid hf
   have HAL := Lib.hid (fun o => (Bel.refl wr).alloc o)
   generalize l[i].n = pn at *
   generalize l[i].l = pl at *
   clear hf hw
   by_cases h1 : last + 1 ≤ pn ∧ pn ≤ nx - 1
   ·have hb1 : betw pn (last + 1) (nx - 1) = true := by unfold betw; simp [h1]
    by_cases h2 : 0 ≤ pl ∧ pl ≤ 3
    ·have hb2 : betw pl 0 3 = true := by unfold betw; simp [h2]
     have HF2 := Lib.hid (show filesOk nx 0 l = filesOk nx pn (l.drop (i + 1)) by rw [HF.out]; simp [h2, show last < pn by omega, show pn < nx by omega])
     have hpw : IntKind.i64.wrap (pn + 1) = pn + 1 := by rw [IntKind.wrap_i64]; omega
     go_wp2_with (fail)
     refine (within_any pn (last + 1) (nx - 1) _).mono ?_
     rintro e z ⟨rfl, rfl⟩
     rw [hb1]
     go_wp2_with (fail)
     refine (within_any pl 0 3 _).mono ?_
     rintro e z ⟨rfl, rfl⟩
     rw [hb2]
     go_wp2_with (fail)
     go_roundw
     case rel => exact ⟨i + 1, pn, hil, by go_num, rfl, by omega, HF2.out, HW.out.trans (HAL.out _)⟩
     case measure => simp [intOf]; omega
    ·have hb2 : betw pl 0 3 = false := by
      unfold betw
      by_cases h : 0 ≤ pl
      ·rw [decide_eq_false (show ¬ pl ≤ 3 from fun h' => h2 ⟨h, h'⟩), Bool.and_false]
      ·rw [decide_eq_false h, Bool.false_and]
     have HR := Lib.hid (show filesOk nx 0 l = false by
      rw [HF.out]
      have : (decide (0 ≤ pl) && decide (pl ≤ 3)) = false := hb2
      rw [Bool.and_assoc (decide (last < pn) && decide (pn < nx)), this]; simp)
     go_wp2_with (fail)
     refine (within_any pn (last + 1) (nx - 1) _).mono ?_
     rintro e z ⟨rfl, rfl⟩
     rw [hb1]
     go_wp2_with (fail)
     refine (within_any pl 0 3 _).mono ?_
     rintro e z ⟨rfl, rfl⟩
     rw [hb2]
     go_wp2_with (fail)
     go_ret
     exact ⟨ret_bool HR.out.symm, HW.out.trans (HAL.out _)⟩
   ·have hb1 : betw pn (last + 1) (nx - 1) = false := by
     unfold betw
     by_cases h : last + 1 ≤ pn
     ·rw [decide_eq_false (show ¬ pn ≤ nx - 1 from fun h' => h1 ⟨h, h'⟩), Bool.and_false]
     ·rw [decide_eq_false h, Bool.false_and]
    have HR := Lib.hid (show filesOk nx 0 l = false by
     rw [HF.out]
     by_cases h : last < pn
     ·rw [decide_eq_false (show ¬ pn < nx from fun h' => h1 ⟨by omega, by omega⟩)]; simp
     ·rw [decide_eq_false h]; simp)
    go_wp2_with (fail)
    refine (within_any pn (last + 1) (nx - 1) _).mono ?_
    rintro e z ⟨rfl, rfl⟩
    rw [hb1]
    go_wp2_with (fail)
    go_ret
    exact ⟨ret_bool HR.out.symm, HW.out.trans (HAL.out _)⟩
  ·have hii : ¬ (i : Int) < (l.length : Int) := by omega
   have HR := Lib.hid (show filesOk nx 0 l = true by rw [hf, List.drop_eq_nil_of_le (by omega)]; rfl)
   clear hf hw
   go_wp2_with (fail)
   go_ret
   exact ⟨ret_bool HR.out.symm, HW.out⟩
theorem betw_inN (n lo : Int) : betw n lo 1099511627776 = inN n lo := rfl
theorem right_ands (s : MS) : rightM s = (inN s.next 1 && (inN s.seq 0 && (inN s.log 1 && (decide (s.files.length ≤ 40) && (filesOk s.next 0 s.files && decide (s.mt.size ≤ 30000)))))) := by
 unfold rightM
 cases filesOk s.next 0 s.files <;> cases inN s.next 1 <;> cases inN s.log 1 <;> cases inN s.seq 0 <;> cases decide (s.files.length ≤ 40) <;> cases decide (s.mt.size ≤ 30000) <;> rfl
set_option maxHeartbeats 4000000 in
theorem right13_any (p : Option Addr) (c : Nat) (s : MS) (w : World) (h : PlsAt w p s.files) (hl : s.files.length ≤ 100000) (hz : s.mt.size ≤ 100000000) :
  Calls Tryz.prog 15 #[.agg #[.slice p s.files.length c, .int .i64 s.next, .int .i64 s.seq, .int .i64 s.log, .string s.mt]] w fun r w' => r = .returned (.bool (rightM s)) ∧ Bel w w' := by
 obtain ⟨w1, hw1⟩ : ∃ z, z = w.alloc (.cells #[.slice p s.files.length c, .int .i64 s.next, .int .i64 s.seq, .int .i64 s.log, .string s.mt] 24) := ⟨_, rfl⟩
 have hB1 : Bel w w1 := by rw [hw1]; exact (Bel.refl w).alloc _
 have kx : w1.heap[w.heap.size]? = some (.cells #[.slice p s.files.length c, .int .i64 s.next, .int .i64 s.seq, .int .i64 s.log, .string s.mt] 24 (0, 0)) := by rw [hw1]; exact tnew13 w _ _
 obtain ⟨⟨x0, x1, x2, x3, x4⟩, -⟩ := box5 kx
 have H := Lib.hid (h.bel hB1)
 have HB1 := Lib.hid hB1
 have HA := Lib.hid (right_ands s)
 clear h hB1 kx
 go_enter Tryz.func15, Tryz.ntmps15
 go_wp2_with (fail)
 rw [show (w.alloc (.cells #[.slice p s.files.length c, .int .i64 s.next, .int .i64 s.seq, .int .i64 s.log, .string s.mt] 24)) = w1 from hw1.symm]
 clear hw1
 refine (within_any s.next 1 1099511627776 _).mono ?_
 rintro e z ⟨rfl, rfl⟩
 rw [betw_inN]
 cases h1 : inN s.next 1 with
 | false =>
  have HR := Lib.hid (show rightM s = false by rw [HA.out, h1]; rfl)
  go_wp2_with (fail)
  go_ret
  exact ⟨ret_bool HR.out.symm, HB1.out⟩
 | true =>
 go_wp2_with (fail)
 refine (within_any s.seq 0 1099511627776 _).mono ?_
 rintro e z ⟨rfl, rfl⟩
 rw [betw_inN]
 cases h2 : inN s.seq 0 with
 | false =>
  have HR := Lib.hid (show rightM s = false by rw [HA.out, h1, h2]; rfl)
  go_wp2_with (fail)
  go_ret
  exact ⟨ret_bool HR.out.symm, HB1.out⟩
 | true =>
 go_wp2_with (fail)
 refine (within_any s.log 1 1099511627776 _).mono ?_
 rintro e z ⟨rfl, rfl⟩
 rw [betw_inN]
 cases h3 : inN s.log 1 with
 | false =>
  have HR := Lib.hid (show rightM s = false by rw [HA.out, h1, h2, h3]; rfl)
  go_wp2_with (fail)
  go_ret
  exact ⟨ret_bool HR.out.symm, HB1.out⟩
 | true =>
 by_cases h4 : s.files.length ≤ 40
 rotate_left
 ·have h4i : ¬ (s.files.length : Int) ≤ 40 := by omega
  have HR := Lib.hid (show rightM s = false by rw [HA.out, h1, h2, h3, decide_eq_false h4]; rfl)
  go_wp2_with (fail)
  go_ret
  exact ⟨ret_bool HR.out.symm, HB1.out⟩
 have h4i : (s.files.length : Int) ≤ 40 := by omega
 have hnx : 1 ≤ s.next ∧ s.next ≤ 1099511627776 := by simpa [inN] using h1
 go_wp2_with (fail)
 refine (aright13_any p c s.files s.next _ H.out hl hnx).mono ?_
 rintro e w2 ⟨rfl, hb2⟩
 have HB2 := Lib.hid (HB1.out.trans hb2)
 have y4 := cl13 hb2 x4
 clear hb2
 cases h5 : filesOk s.next 0 s.files with
 | false =>
  have HR := Lib.hid (show rightM s = false by rw [HA.out, h1, h2, h3, decide_eq_true h4, h5]; rfl)
  clear h5
  go_wp2_with (fail)
  go_ret
  exact ⟨ret_bool HR.out.symm, HB2.out⟩
 | true =>
 by_cases h6 : s.mt.size ≤ 30000
 ·have h6i : (s.mt.size : Int) ≤ 30000 := by omega
  have HR := Lib.hid (show rightM s = true by rw [HA.out, h1, h2, h3, decide_eq_true h4, h5, decide_eq_true h6]; rfl)
  clear h5
  go_wp2_with (fail)
  go_ret
  exact ⟨ret_bool HR.out.symm, HB2.out⟩
 ·have h6i : decide ((s.mt.size : Int) ≤ 30000) = false := decide_eq_false (by omega)
  have HR := Lib.hid (show rightM s = false by rw [HA.out, h1, h2, h3, decide_eq_true h4, h5, decide_eq_false h6]; rfl)
  clear h5
  go_wp2_with (fail)
  go_ret
  exact ⟨ret_bool HR.out.symm, HB2.out⟩
def mayB (a b : MS) : Bool := decide (a.next ≤ b.next) && (decide (a.seq ≤ b.seq) && decide (a.log ≤ b.log))
set_option maxHeartbeats 4000000 in
theorem may_any (v u : Value) (a b : MS) (w : World) :
  Calls Tryz.prog 50 #[.agg #[v, .int .i64 a.next, .int .i64 a.seq, .int .i64 a.log, .string a.mt], .agg #[u, .int .i64 b.next, .int .i64 b.seq, .int .i64 b.log, .string b.mt]] w fun r w' => r = .returned (.bool (mayB a b)) ∧ Bel w w' := by
 go_enter Tryz.func50, Tryz.ntmps50
 by_cases h1 : a.next ≤ b.next
 ·by_cases h2 : a.seq ≤ b.seq
  ·by_cases h3 : a.log ≤ b.log
   ·have HR := Lib.hid (show mayB a b = true by unfold mayB; simp [h1, h2, h3])
    go_wp2_with (fail)
    go_ret
    exact ⟨ret_bool HR.out.symm, ((Bel.refl w).alloc _).alloc _⟩
   ·have hd : decide (a.log ≤ b.log) = false := decide_eq_false h3
    have HR := Lib.hid (show mayB a b = false by unfold mayB; simp [h1, h2, h3])
    go_wp2_with (fail)
    go_ret
    exact ⟨ret_bool HR.out.symm, ((Bel.refl w).alloc _).alloc _⟩
  ·have HR := Lib.hid (show mayB a b = false by unfold mayB; simp [h1, h2])
   go_wp2_with (fail)
   go_ret
   exact ⟨ret_bool HR.out.symm, ((Bel.refl w).alloc _).alloc _⟩
 ·have HR := Lib.hid (show mayB a b = false by unfold mayB; simp [h1])
  go_wp2_with (fail)
  go_ret
  exact ⟨ret_bool HR.out.symm, ((Bel.refl w).alloc _).alloc _⟩
end Go.Proofs.YtfbiinnenlgkfaaGreatDoor
