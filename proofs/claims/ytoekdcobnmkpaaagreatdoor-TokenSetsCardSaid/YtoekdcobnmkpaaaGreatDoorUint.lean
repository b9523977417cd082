/-
  (*wire.Writer).Uint: it appends the encoding of the number.
-/
import Derived.Test.YtoekdcobnmkpaaaGreatDoorCore
import Derived.Test.YtoekdcobnmkpaaaGreatDoorNumL
import Derived.Test.YtoekdcobnmkpaaaGreatDoorShelf
import Derived.Test.YtoekdcobnmkpaaaGreatDoorBits
import Derived.Test.YtoekdcobnmkpaaaGreatDoorRows
import Derived.Deep.RegionHeld3
import Derived.Deep.RegionLaw
import Derived.BigRegion
import Derived.Deep.DrawnRows
import Derived.Outline
import Derived.WalkLawsBesides
import Derived.WalkSpells
import Derived.Deep.DeepMust
import Derived.Deep.LoopGhost
import Derived.IntWalk
namespace Go.Proofs.YtoekdcobnmkpaaaGreatDoor
open Go.RowKit

theorem info_u8 : (Tryz.prog.info? 5).map (fun i => (i.zero, i.size, i.bytes)) = some (some (.int .u8 0), 1, 1) := by kernel_rfl

end Go.Proofs.YtoekdcobnmkpaaaGreatDoor
