/-
  Tokens: the reference's skip.
-/
import Derived.Test.YtoekdcobnmkpaaaGreatDoorTkG
namespace Go.Proofs.YtoekdcobnmkpaaaGreatDoor
open Go.RowKit
set_option linter.unusedSimpArgs false
set_option linter.unusedVariables false

end Go.Proofs.YtoekdcobnmkpaaaGreatDoor
