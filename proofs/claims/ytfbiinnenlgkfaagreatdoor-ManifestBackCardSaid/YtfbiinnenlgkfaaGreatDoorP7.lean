/- Dig, laid together. -/
import Derived.Test.YtfbiinnenlgkfaaGreatDoorP1
import Derived.Lib.ItoaNum
set_option linter.unusedSimpArgs false
set_option linter.unusedVariables false
/- The contracts of moultref1.digits and Decimal: the decimal numeral of an int. -/
namespace Go.Proofs.YtfbiinnenlgkfaaGreatDoor
open Go.RowKit

theorem digits_one (u : Nat) (h : u < 10) : Lib.decDigits u = [UInt8.ofNat (48 + u)] := by rw [Lib.decDigits, dif_pos h]
theorem digits_more (u : Nat) (h : ¬ u < 10) : Lib.decDigits u = Lib.decDigits (u / 10) ++ [UInt8.ofNat (48 + u % 10)] := by rw [Lib.decDigits, dif_neg h]
end Go.Proofs.YtfbiinnenlgkfaaGreatDoor
