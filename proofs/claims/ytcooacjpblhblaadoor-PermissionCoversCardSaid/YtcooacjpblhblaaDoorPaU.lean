/-
  Trees of paths: copied, Add, Has.
-/
import Derived.Test.YtcooacjpblhblaaDoorPaT
import Derived.Laws.IdiomRangeMap
namespace Go.Proofs.YtcooacjpblhblaaDoor
open Go.RowKit Go.Maps Go.WideMaps Go.ChangeMaps
set_option linter.unusedSimpArgs false
set_option linter.unusedVariables false

end Go.Proofs.YtcooacjpblhblaaDoor
