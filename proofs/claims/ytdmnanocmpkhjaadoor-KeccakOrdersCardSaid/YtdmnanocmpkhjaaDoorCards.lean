/-
  DERIVED. GIVEN WITH THE SEED: THE CARDS: each row of YtdmnanocmpkhjaaDoorRows.lean that lists a variable, with what it lists TIED to the program's text (the seventh form; the later family's looks); each row that meets fmt, with fmt's text TOLD by the authors' own Lean function (tested against real Go, not proved from fmt's source: count such statements apart). THE CARD IS WHAT COUNTS. Prove the row's statement (the work); the ties are given (YtdmnanocmpkhjaaDoorTie.lean); close each card by the builder's one call (the guide's Derived/Test/ToyasCard.lean, 'card_holds'). Laid BY PROGRAM, IN A SANDBOX (cutbox-door.mjs). By AI agents, Wed Nov 11 2026. No macro, syntax, notation, axiom, sorry.
-/
import Derived.Test.YtdmnanocmpkhjaaDoorRows
import GoSem.ClaimSeven
namespace Go.Proofs.YtdmnanocmpkhjaaDoor
namespace Rows

/-- THE TIED CARD OF 'arbaclaw03.KeccakOrders'. -/
def keccakOrdersCard : Claim7 := { stood := { row := keccakOrdersRow, standIns := [], harness := (true, "1757984197a37d34ff40950a9c8209ad059c9f11e002ee028ab1408e11a9a02d"), looks := false }, kinds := [], alts := [], laidByText := true, laidKinds := [.data, .data, .data], laidTests := true, laidLooks := .later }
def KeccakOrdersCardSaid : Prop := Claim7.holds Tryd.pinned (.plain (OpenSpec.ofChange keccakOrdersSpec)) keccakOrdersCard

/-- THE SECOND FORM's CARD OF 'arbaclaw03.KeccakOrders'. -/
def keccakOrdersUptoCard : Claim7 := { stood := { row := keccakOrdersUptoRow, standIns := [], harness := (true, "1757984197a37d34ff40950a9c8209ad059c9f11e002ee028ab1408e11a9a02d"), looks := false }, kinds := [], alts := [], laidByText := true, laidKinds := [.data, .data, .data], laidTests := true, laidLooks := .later }
def KeccakOrdersUptoCardSaid : Prop := Claim7.holds Tryd.pinned (.plain (OpenSpec.upto keccakOrdersSpec)) keccakOrdersUptoCard
end Rows
end Go.Proofs.YtdmnanocmpkhjaaDoor
