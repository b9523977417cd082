/-
  DERIVED. GIVEN WITH THE SEED: THE CARDS: each row of YtkgpnnegjhnjdaaDoorRows.lean that lists a variable, with what it lists TIED to the program's text (the seventh form; the later family's looks); each row that meets fmt, with fmt's text TOLD by the authors' own Lean function (tested against real Go, not proved from fmt's source: count such statements apart). THE CARD IS WHAT COUNTS. Prove the row's statement (the work); the ties are given (YtkgpnnegjhnjdaaDoorTie.lean); close each card by the builder's one call (the guide's Derived/Test/ToyasCard.lean, 'card_holds'). Laid BY PROGRAM, IN A SANDBOX (cutbox-door.mjs). By AI agents, Wed Nov 11 2026. No macro, syntax, notation, axiom, sorry.
-/
import Derived.Test.YtkgpnnegjhnjdaaDoorRows
import GoSem.ClaimSeven
namespace Go.Proofs.YtkgpnnegjhnjdaaDoor
namespace Rows

/-- THE TIED CARD OF 'arbaclaw01.BitsLaws'. -/
def bitsLawsCard : Claim7 := { stood := { row := bitsLawsRow, standIns := [], harness := (true, "dce297e790d93b478a164805d766be049f0ca7380e9f05fe59a148e0f0dc40af"), looks := true }, kinds := [], alts := [], laidByText := true, laidKinds := [.data, .data, .data, .data, .sentinel, .sentinel, .listed, .data, .pinned], laidTests := true, laidLooks := .later }
def BitsLawsCardSaid : Prop := Claim7.holds Tryd.pinned (.plain (OpenSpec.ofChange bitsLawsSpec)) bitsLawsCard

/-- THE TIED CARD OF 'arbaclaw01.BitsRanges'. -/
def bitsRangesCard : Claim7 := { stood := { row := bitsRangesRow, standIns := [], harness := (true, "dce297e790d93b478a164805d766be049f0ca7380e9f05fe59a148e0f0dc40af"), looks := true }, kinds := [], alts := [], laidByText := true, laidKinds := [.data, .data, .data, .data, .sentinel, .sentinel, .listed, .data, .pinned], laidTests := true, laidLooks := .later }
def BitsRangesCardSaid : Prop := Claim7.holds Tryd.pinned (.plain (OpenSpec.ofChange bitsRangesSpec)) bitsRangesCard

/-- THE SECOND FORM's CARD OF 'arbaclaw01.BitsLaws'. -/
def bitsLawsUptoCard : Claim7 := { stood := { row := bitsLawsUptoRow, standIns := [], harness := (true, "dce297e790d93b478a164805d766be049f0ca7380e9f05fe59a148e0f0dc40af"), looks := true }, kinds := [], alts := [], laidByText := true, laidKinds := [.data, .data, .data, .data, .sentinel, .sentinel, .listed, .data, .pinned], laidTests := true, laidLooks := .later }
def BitsLawsUptoCardSaid : Prop := Claim7.holds Tryd.pinned (.plain (OpenSpec.upto bitsLawsSpec)) bitsLawsUptoCard

/-- THE SECOND FORM's CARD OF 'arbaclaw01.BitsRanges'. -/
def bitsRangesUptoCard : Claim7 := { stood := { row := bitsRangesUptoRow, standIns := [], harness := (true, "dce297e790d93b478a164805d766be049f0ca7380e9f05fe59a148e0f0dc40af"), looks := true }, kinds := [], alts := [], laidByText := true, laidKinds := [.data, .data, .data, .data, .sentinel, .sentinel, .listed, .data, .pinned], laidTests := true, laidLooks := .later }
def BitsRangesUptoCardSaid : Prop := Claim7.holds Tryd.pinned (.plain (OpenSpec.upto bitsRangesSpec)) bitsRangesUptoCard
end Rows
end Go.Proofs.YtkgpnnegjhnjdaaDoor
