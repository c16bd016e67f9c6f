/- The walk of ValueReads. -/
import Derived.Test.YtndknolblfdcdaaDoorLaws3
import Derived.Test.YtndknolblfdcdaaDoorRefRd7
set_option linter.unusedSimpArgs false
set_option linter.unusedVariables false
namespace Go.Proofs.YtndknolblfdcdaaDoor
open Go.RowKit

/-- What is read of a text is one. -/
theorem read_one {s : List UInt8} {k n : Int} {t : List UInt8} {e : Int} {k' n' : Int} {t' : List UInt8} {e' : Int} (hn : intIn n) (hn' : intIn n') (h : ReadOk s k n t e) (h' : ReadOk s k' n' t' e') : e' = e ∧ k' = k ∧ n' = n ∧ t' = t := by
  rcases h with ⟨h1, h2, h3⟩ | ⟨h1, h2, h3, h4, h5⟩
  · subst h3
    obtain ⟨a, b⟩ := read_self hn h2 hn' h'
    exact ⟨a.trans h1.symm, b⟩
  · rcases h' with ⟨_, g2, g3⟩ | ⟨g1, g2, g3, g4, _⟩
    · exact absurd g3 (h5 k' n' t' hn' g2)
    · exact ⟨by rw [g1, h1], by rw [g2, h2], by rw [g3, h3], by rw [g4, h4]⟩

set_option maxHeartbeats 2000000 in
theorem reads_law (s : ByteArray) (w : World) (hs : s.size ≤ maxLen) (hstd : Std w) :
    Calls Tryd.prog 6 #[.string s] w fun e w' => e = .returned (.bool true) ∧ Bel w w' := by
  have HS := Lib.hid hstd; clear hstd
  go_enter Tryd.func6, Tryd.ntmps6
  go_wp2_with (fail)
  refine (shown_any _ HS.out).mono ?_
  rintro e w1 ⟨rfl, hb1⟩
  have HK := Lib.hid (show Keeps w w1 from ⟨hb1, HS.out.bel hb1⟩)
  clear hb1
  by_cases hl1 : 5000 < s.size
  · go_wp2_with (fail)
    go_ret
    exact ⟨rfl, HK.out.1⟩
  go_wp2_with (fail)
  refine (read_any s _ hs (HK.out.2)).mono ?_
  rintro e w2 ⟨k, n, t, er, rfl, hin, htl, hok, hb2⟩
  have HK2 := Lib.hid (HK.out.bel hb2); clear hb2 HK
  go_wp2_with (fail)
  refine (ref_read_any s _ (by omega) (HK2.out.2.alloc _)).mono ?_
  rintro e w3 ⟨k', n', t', er', rfl, hin', htl', hok', hb3⟩
  have c0 : w3.cell? ⟨w2.heap.size, 0, none⟩ = some (.int .i64 k) := cell_later hb3 (by go_simp)
  have c1 : w3.cell? ⟨w2.heap.size, 1, none⟩ = some (.int .i64 n) := cell_later hb3 (by go_simp)
  have c2 : w3.cell? ⟨w2.heap.size, 2, none⟩ = some (.string ⟨t.toArray⟩) := cell_later hb3 (by go_simp)
  have hz := hb3.past
  have HK3 := Lib.hid ((HK2.out.bel ((Bel.refl w2).alloc _)).bel hb3); clear hb3 HK2
  obtain ⟨rfl, rfl, rfl, rfl⟩ := read_one hin hin' hok hok'
  clear hok hok'
  go_wp2
  go_ret
  exact ⟨rfl, HK3.out.1.alloc _⟩
end Go.Proofs.YtndknolblfdcdaaDoor
