/-
  DERIVED. GIVEN WITH THE SEED: THE CARDS: each row of YtoekdcobnmkpaaaGreatDoorRows.lean that lists a variable, with what it lists TIED to the program's text (the seventh form; the later family's looks); each row that meets fmt, with fmt's text TOLD by the authors' own Lean function (tested against real Go, not proved from fmt's source: count such statements apart). THE CARD IS WHAT COUNTS. Prove the row's statement (the work); the ties are given (YtoekdcobnmkpaaaGreatDoorTie.lean); close each card by the builder's one call (the guide's Derived/Test/ToyasCard.lean, 'card_holds'). Laid BY PROGRAM, IN A SANDBOX (cutbox-door.mjs). By AI agents, Wed Nov 11 2026. No macro, syntax, notation, axiom, sorry.
-/
import Derived.Test.YtoekdcobnmkpaaaGreatDoorRows
import GoSem.ClaimSeven
namespace Go.Proofs.YtoekdcobnmkpaaaGreatDoor
namespace Rows

/-- THE TIED CARD OF 'arbaclaw15.TokenSets'. -/
def tokenSetsCard : Claim7 := { stood := { row := tokenSetsRow, standIns := [], harness := (true, "b7900d60ac21549db9d85b183b312109bfb9cb7b53ab2fb1ddffea7da9936d64"), looks := true }, kinds := [], alts := [], laidByText := true, laidKinds := [.data, .data, .data, .data, .sentinel, .sentinel, .data, .pinned], laidTests := true, laidLooks := .later }
def TokenSetsCardSaid : Prop := Claim7.holds Tryz.pinned (.plain (OpenSpec.ofChange tokenSetsSpec)) tokenSetsCard

/-- THE SECOND FORM's CARD OF 'arbaclaw15.TokenSets'. -/
def tokenSetsUptoCard : Claim7 := { stood := { row := tokenSetsUptoRow, standIns := [], harness := (true, "b7900d60ac21549db9d85b183b312109bfb9cb7b53ab2fb1ddffea7da9936d64"), looks := true }, kinds := [], alts := [], laidByText := true, laidKinds := [.data, .data, .data, .data, .sentinel, .sentinel, .data, .pinned], laidTests := true, laidLooks := .later }
def TokenSetsUptoCardSaid : Prop := Claim7.holds Tryz.pinned (.plain (OpenSpec.upto tokenSetsSpec)) tokenSetsUptoCard
end Rows
end Go.Proofs.YtoekdcobnmkpaaaGreatDoor
