/-
  (*wire.Writer).Uint: it appends the encoding of the number.
-/
import Derived.Test.YtnnakllgfaaejaaGreatDoorCore
import Derived.Test.YtnnakllgfaaejaaGreatDoorNumL
import Derived.Test.YtnnakllgfaaejaaGreatDoorShelf
import Derived.Test.YtnnakllgfaaejaaGreatDoorBits
import Derived.Test.YtnnakllgfaaejaaGreatDoorRows
import Derived.Deep.RegionHeld3
import Derived.Deep.RegionLaw
import Derived.BigRegion
import Derived.Deep.DrawnRows
import Derived.Outline
import Derived.WalkLawsBesides
import Derived.WalkSpells
import Derived.Deep.DeepMust
import Derived.Deep.LoopGhost
import Derived.IntWalk
namespace Go.Proofs.YtnnakllgfaaejaaGreatDoor
open Go.RowKit

theorem info_u8 : (Tryz.prog.info? 5).map (fun i => (i.zero, i.size, i.bytes)) = some (some (.int .u8 0), 1, 1) := by kernel_rfl

end Go.Proofs.YtnnakllgfaaejaaGreatDoor
