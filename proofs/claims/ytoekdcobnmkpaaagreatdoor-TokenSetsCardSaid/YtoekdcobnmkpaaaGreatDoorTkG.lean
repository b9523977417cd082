/-
  Tokens: the reference's tests of one byte, and its skip.
-/
import Derived.Test.YtoekdcobnmkpaaaGreatDoorTkF
namespace Go.Proofs.YtoekdcobnmkpaaaGreatDoor
open Go.RowKit
set_option linter.unusedSimpArgs false
set_option linter.unusedVariables false

end Go.Proofs.YtoekdcobnmkpaaaGreatDoor
