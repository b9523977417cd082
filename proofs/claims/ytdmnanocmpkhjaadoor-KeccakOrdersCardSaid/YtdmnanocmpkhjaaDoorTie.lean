/-
  DERIVED. GIVEN WITH THE SEED: THE PROGRAM's TIES (one call each: nine closed facts by the kernel) AND EACH ROW's TIE, after the 31st guide's Derived/Test/Toyas{Tie, Card}.lean. No idea stands in it: it is a product of the set-up. Laid BY PROGRAM, IN A SANDBOX (cutbox-door.mjs). By AI agents, Wed Nov 11 2026. No macro, syntax, notation, axiom, sorry.
-/
import Derived.Test.YtdmnanocmpkhjaaDoorRows
import Derived.LaidByTextLater
import Derived.SevenTiedAt
import Derived.LaidSub
import Derived.LaidOnce
namespace Go.Proofs.YtdmnanocmpkhjaaDoor
open Go
set_option maxRecDepth 100000
theorem seatTie1 : Tryd.prog.laidByTextLater [("arbac/keccak.turns", Rows.laid_arbac_keccak_turns), ("arbac/keccak.places", Rows.laid_arbac_keccak_places), ("arbac/keccak.roundConstants", Rows.laid_arbac_keccak_roundConstants)] [.data, .data, .data] true :=
  Program.laidByTextLater_by_one 24 8 26 (by kernel_rfl) (by kernel_rfl) (by kernel_rfl) (by kernel_rfl) (by kernel_rfl) (by kernel_rfl) (fun _ _ => by kernel_rfl)
theorem noOwnUnsafe : Tryd.pinned.checked.prog.headLifts.contains "ownunsafe" = false := by kernel_rfl
theorem tie : Tryd.prog.laidByTextLater [("arbac/keccak.turns", Rows.laid_arbac_keccak_turns), ("arbac/keccak.places", Rows.laid_arbac_keccak_places), ("arbac/keccak.roundConstants", Rows.laid_arbac_keccak_roundConstants)] [.data, .data, .data] true :=
  Program.laidByTextLater.sub seatTie1 ["arbac/keccak.turns", "arbac/keccak.places", "arbac/keccak.roundConstants"] (by kernel_rfl) (by kernel_rfl)
theorem keccakOrders_row_tie : Rows.keccakOrdersRow.laidByTextAt .later Tryd.pinned [.data, .data, .data] true :=
  OpenClaim.laidByTextAt_later rfl rfl tie noOwnUnsafe
theorem keccakOrdersUpto_row_tie : Rows.keccakOrdersUptoRow.laidByTextAt .later Tryd.pinned [.data, .data, .data] true :=
  OpenClaim.laidByTextAt_later rfl rfl tie noOwnUnsafe
end Go.Proofs.YtdmnanocmpkhjaaDoor
