/-
  The library's contracts of math/bits.Len64 and bytes.Clone, laid at this seat's program.
-/
import Derived.Shelf.Strconv.Itoa0
import Derived.Ground.SlbCloneProg
import Derived.Shelf.Bytes.SlClone
import Derived.Test.YtdmnanocmpkhjaaDoorProg
namespace Go.Proofs.YtdmnanocmpkhjaaDoor
open Go.Shelf
end Go.Proofs.YtdmnanocmpkhjaaDoor
