import Derived.Test.YtjglnpijngdpkaaGreatDoorDyC
import Derived.Deep.RegionWith
/-
  Days: two sets combined (And).
-/
namespace Go.Proofs.YtjglnpijngdpkaaGreatDoor
open Go.RowKit
set_option linter.unusedSimpArgs false
set_option linter.unusedVariables false
set_option maxRecDepth 100000

end Go.Proofs.YtjglnpijngdpkaaGreatDoor
