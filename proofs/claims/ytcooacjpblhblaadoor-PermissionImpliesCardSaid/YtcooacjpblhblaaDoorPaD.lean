/-
  Paths: the reference's Common.
-/
import Derived.Test.YtcooacjpblhblaaDoorPaC
namespace Go.Proofs.YtcooacjpblhblaaDoor
open Go.RowKit
set_option linter.unusedSimpArgs false
set_option linter.unusedVariables false

end Go.Proofs.YtcooacjpblhblaaDoor
