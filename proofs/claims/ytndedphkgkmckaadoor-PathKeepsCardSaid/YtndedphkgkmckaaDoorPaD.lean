/-
  Paths: the reference's Common.
-/
import Derived.Test.YtndedphkgkmckaaDoorPaC
namespace Go.Proofs.YtndedphkgkmckaaDoor
open Go.RowKit
set_option linter.unusedSimpArgs false
set_option linter.unusedVariables false

end Go.Proofs.YtndedphkgkmckaaDoor
