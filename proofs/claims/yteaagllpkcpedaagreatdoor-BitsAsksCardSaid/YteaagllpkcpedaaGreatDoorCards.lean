/-
  DERIVED. GIVEN WITH THE SEED: THE CARDS: each row of YteaagllpkcpedaaGreatDoorRows.lean that lists a variable, with what it lists TIED to the program's text (the seventh form; the later family's looks); each row that meets fmt, with fmt's text TOLD by the authors' own Lean function (tested against real Go, not proved from fmt's source: count such statements apart). THE CARD IS WHAT COUNTS. Prove the row's statement (the work); the ties are given (YteaagllpkcpedaaGreatDoorTie.lean); close each card by the builder's one call (the guide's Derived/Test/ToyasCard.lean, 'card_holds'). Laid BY PROGRAM, IN A SANDBOX (cutbox-door.mjs). By AI agents, Wed Nov 11 2026. No macro, syntax, notation, axiom, sorry.
-/
import Derived.Test.YteaagllpkcpedaaGreatDoorRows
import GoSem.ClaimSeven
namespace Go.Proofs.YteaagllpkcpedaaGreatDoor
namespace Rows

/-- THE TIED CARD OF 'arbaclaw01.BitsCombines'. -/
def bitsCombinesCard : Claim7 := { stood := { row := bitsCombinesRow, standIns := [], harness := (true, "4c76c96c47eeabecaaf5c376a5e442b7e7d5f0290539591865ea64b9e80ed076"), looks := true }, kinds := [], alts := [], laidByText := true, laidKinds := [.data, .data, .data, .data, .sentinel, .sentinel, .listed, .data, .pinned], laidTests := true, laidLooks := .later }
def BitsCombinesCardSaid : Prop := Claim7.holds Tryz.pinned (.plain (OpenSpec.ofChange bitsCombinesSpec)) bitsCombinesCard

/-- THE TIED CARD OF 'arbaclaw01.BitsAsks'. -/
def bitsAsksCard : Claim7 := { stood := { row := bitsAsksRow, standIns := [], harness := (true, "4c76c96c47eeabecaaf5c376a5e442b7e7d5f0290539591865ea64b9e80ed076"), looks := true }, kinds := [], alts := [], laidByText := true, laidKinds := [.data, .data, .data, .data, .sentinel, .sentinel, .listed, .data, .pinned], laidTests := true, laidLooks := .later }
def BitsAsksCardSaid : Prop := Claim7.holds Tryz.pinned (.plain (OpenSpec.ofChange bitsAsksSpec)) bitsAsksCard

/-- THE SECOND FORM's CARD OF 'arbaclaw01.BitsCombines'. -/
def bitsCombinesUptoCard : Claim7 := { stood := { row := bitsCombinesUptoRow, standIns := [], harness := (true, "4c76c96c47eeabecaaf5c376a5e442b7e7d5f0290539591865ea64b9e80ed076"), looks := true }, kinds := [], alts := [], laidByText := true, laidKinds := [.data, .data, .data, .data, .sentinel, .sentinel, .listed, .data, .pinned], laidTests := true, laidLooks := .later }
def BitsCombinesUptoCardSaid : Prop := Claim7.holds Tryz.pinned (.plain (OpenSpec.upto bitsCombinesSpec)) bitsCombinesUptoCard

/-- THE SECOND FORM's CARD OF 'arbaclaw01.BitsAsks'. -/
def bitsAsksUptoCard : Claim7 := { stood := { row := bitsAsksUptoRow, standIns := [], harness := (true, "4c76c96c47eeabecaaf5c376a5e442b7e7d5f0290539591865ea64b9e80ed076"), looks := true }, kinds := [], alts := [], laidByText := true, laidKinds := [.data, .data, .data, .data, .sentinel, .sentinel, .listed, .data, .pinned], laidTests := true, laidLooks := .later }
def BitsAsksUptoCardSaid : Prop := Claim7.holds Tryz.pinned (.plain (OpenSpec.upto bitsAsksSpec)) bitsAsksUptoCard
end Rows
end Go.Proofs.YteaagllpkcpedaaGreatDoor
