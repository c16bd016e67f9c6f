/- A law of chapter 11 and the memory of the program. -/
import Derived.Test.YteimllgoelleeaaGreatDoorZzMLaw3
import Derived.Test.YteimllgoelleeaaGreatDoorZ29
set_option linter.unusedSimpArgs false
set_option linter.unusedVariables false

