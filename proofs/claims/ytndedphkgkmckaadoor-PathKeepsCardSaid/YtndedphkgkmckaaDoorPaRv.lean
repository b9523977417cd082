/-
  slices.Reverse of strings, laid; a row of one's own, turned.
-/
import Derived.Test.YtndedphkgkmckaaDoorStO
import Derived.Shelf.Slices.ReverseS
namespace Go.Proofs.YtndedphkgkmckaaDoor
open Go.RowKit Go.Shelf Go.Sort
set_option linter.unusedSimpArgs false
set_option linter.unusedVariables false
set_option maxRecDepth 100000

end Go.Proofs.YtndedphkgkmckaaDoor
