/-
  Paths: the reference's Common.
-/
import Derived.Test.YtnnakllgfaaejaaGreatDoorPaC
namespace Go.Proofs.YtnnakllgfaaejaaGreatDoor
open Go.RowKit
set_option linter.unusedSimpArgs false
set_option linter.unusedVariables false

end Go.Proofs.YtnnakllgfaaejaaGreatDoor
