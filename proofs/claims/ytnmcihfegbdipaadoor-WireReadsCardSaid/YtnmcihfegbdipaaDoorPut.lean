/-
  arbacref02.Put: the encoding of a number.
-/
import Derived.Test.YtnmcihfegbdipaaDoorCore
import Derived.Test.YtnmcihfegbdipaaDoorNum
import Derived.Test.YtnmcihfegbdipaaDoorMake
import Derived.Test.YtnmcihfegbdipaaDoorRows
import Derived.Outline
import Derived.WalkLawsBesides
import Derived.WalkSpells
import Derived.IntWalk
import Derived.Laws.BitsAllLaws
namespace Go.Proofs.YtnmcihfegbdipaaDoor
open Go.RowKit

theorem info_u8p : (Tryd.prog.info? 5).map (fun i => (i.zero, i.size, i.bytes)) = some (some (.int .u8 0), 1, 1) := by kernel_rfl

end Go.Proofs.YtnmcihfegbdipaaDoor
