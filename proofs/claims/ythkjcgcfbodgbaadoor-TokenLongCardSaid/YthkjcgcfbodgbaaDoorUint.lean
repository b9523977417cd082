/-
  (*wire.Writer).Uint: it appends the encoding of the number.
-/
import Derived.Test.YthkjcgcfbodgbaaDoorCore
import Derived.Test.YthkjcgcfbodgbaaDoorNumL
import Derived.Test.YthkjcgcfbodgbaaDoorShelf
import Derived.Test.YthkjcgcfbodgbaaDoorBits
import Derived.Test.YthkjcgcfbodgbaaDoorRows
import Derived.Deep.RegionHeld3
import Derived.Deep.RegionLaw
import Derived.BigRegion
import Derived.Deep.DrawnRows
import Derived.Outline
import Derived.WalkLawsBesides
import Derived.WalkSpells
import Derived.Deep.DeepMust
import Derived.Deep.LoopGhost
import Derived.IntWalk
namespace Go.Proofs.YthkjcgcfbodgbaaDoor
open Go.RowKit

theorem info_u8 : (Tryd.prog.info? 5).map (fun i => (i.zero, i.size, i.bytes)) = some (some (.int .u8 0), 1, 1) := by kernel_rfl

end Go.Proofs.YthkjcgcfbodgbaaDoor
