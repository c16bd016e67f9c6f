/- strconv.ParseUint at two bytes, base 16, 8 bits; strconv.Atoi at every string. -/
import Derived.Test.YtndknolblfdcdaaDoorHex
set_option linter.unusedSimpArgs false
set_option linter.unusedVariables false
namespace Go.Proofs.YtndknolblfdcdaaDoor
open Go.RowKit

/-- A number that two hexadecimal digits spell; or a zero and an error. -/
def Hex2 (x0 x1 : UInt8) (v : Int) : Prop := (∃ p q, dig x0 = some p ∧ dig x1 = some q ∧ p < 16 ∧ q < 16 ∧ v = 16 * p + q) ∨ (v = 0 ∧ (dig x0 = none ∨ dig x1 = none))
def Hex2Post (x0 x1 : UInt8) (w : World) (e : Ending) (w' : World) : Prop := ∃ v err, e = .returned (.tuple #[.int .u64 v, err]) ∧ Hex2 x0 x1 v ∧ Bel w w'

set_option maxHeartbeats 1000000 in
theorem parse16 (x0 x1 : UInt8) (w : World) (hstd : Std w) :
    Calls Tryd.prog 48 #[.string ⟨#[x0, x1]⟩, .int .i64 16, .int .i64 8] w (Hex2Post x0 x1 w) := by
  have HS := Lib.hid hstd; clear hstd
  go_enter Tryd.func48, Tryd.ntmps48
  go_wp2_with (fail)
  refine (inner_parse16 x0 x1 _).mono ?_
  rintro e w1 ⟨v, err, rfl, hend, hb⟩
  have HB := Lib.hid hb; clear hb
  rcases hend with ⟨rfl, p, q, h1, h2, h3, h4, h5⟩ | ⟨rfl, rfl, hn⟩
  · have H5 := Lib.hid (show Hex2 x0 x1 v from Or.inl ⟨p, q, h1, h2, h3, h4, h5⟩)
    clear h1 h2 h3 h4 h5
    go_wp2
    go_ret2
    exact ⟨_, _, rfl, H5.out, HB.out⟩
  · have HN := Lib.hid hn; clear hn
    obtain ⟨_, ⟨tp, p, he⟩, _⟩ := HS.out.bel HB.out
    have HE := Lib.hid he; clear he
    go_wp2_with (go_at_call 47; refine (Any.strconv_toError_syntax Tryd.laysC245 _ _ _ _ _ _ ?_ HE.out (Or.inr ⟨tp, p, rfl⟩)).mono ?_)
    · show 2 ≤ 281474976710656; decide
    rintro e w2 ⟨N, rfl, -, -, hb2⟩
    have HB2 := Lib.hid (show Bel w1 w2 from hb2); clear hb2
    go_wp2
    go_ret2
    exact ⟨_, _, rfl, Or.inr ⟨rfl, HN.out⟩, HB.out.trans HB2.out⟩
end Go.Proofs.YtndknolblfdcdaaDoor
