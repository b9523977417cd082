/-
  DERIVED. GIVEN WITH THE SEED: THE CARDS: each row of YtncieckanngodaaDoorRows.lean that lists a variable, with what it lists TIED to the program's text (the seventh form; the later family's looks); each row that meets fmt, with fmt's text TOLD by the authors' own Lean function (tested against real Go, not proved from fmt's source: count such statements apart). THE CARD IS WHAT COUNTS. Prove the row's statement (the work); the ties are given (YtncieckanngodaaDoorTie.lean); close each card by the builder's one call (the guide's Derived/Test/ToyasCard.lean, 'card_holds'). Laid BY PROGRAM, IN A SANDBOX (cutbox-door.mjs). By AI agents, Wed Nov 11 2026. No macro, syntax, notation, axiom, sorry.
-/
import Derived.Test.YtncieckanngodaaDoorRows
import GoSem.ClaimSeven
namespace Go.Proofs.YtncieckanngodaaDoor
namespace Rows

/-- THE TIED CARD OF 'arbaclaw03.KeccakPieces'. -/
def keccakPiecesCard : Claim7 := { stood := { row := keccakPiecesRow, standIns := [], harness := (true, "8e4c1ab40c7cddc9587af1a12701cf81059e4c3819226fb0e93963d719eb80c3"), looks := false }, kinds := [], alts := [], laidByText := true, laidKinds := [.data, .data, .data], laidTests := true, laidLooks := .later }
def KeccakPiecesCardSaid : Prop := Claim7.holds Tryd.pinned (.plain (OpenSpec.ofChange keccakPiecesSpec)) keccakPiecesCard

/-- THE TIED CARD OF 'arbaclaw03.KeccakTagged'. -/
def keccakTaggedCard : Claim7 := { stood := { row := keccakTaggedRow, standIns := [], harness := (true, "8e4c1ab40c7cddc9587af1a12701cf81059e4c3819226fb0e93963d719eb80c3"), looks := false }, kinds := [], alts := [], laidByText := true, laidKinds := [.data, .data, .data], laidTests := true, laidLooks := .later }
def KeccakTaggedCardSaid : Prop := Claim7.holds Tryd.pinned (.plain (OpenSpec.ofChange keccakTaggedSpec)) keccakTaggedCard

/-- THE TIED CARD OF 'arbaclaw03.KeccakOrders'. -/
def keccakOrdersCard : Claim7 := { stood := { row := keccakOrdersRow, standIns := [], harness := (true, "8e4c1ab40c7cddc9587af1a12701cf81059e4c3819226fb0e93963d719eb80c3"), looks := false }, kinds := [], alts := [], laidByText := true, laidKinds := [.data, .data, .data], laidTests := true, laidLooks := .later }
def KeccakOrdersCardSaid : Prop := Claim7.holds Tryd.pinned (.plain (OpenSpec.ofChange keccakOrdersSpec)) keccakOrdersCard

/-- THE TIED CARD OF 'arbaclaw04.CrcSets'. -/
def crcSetsCard : Claim7 := { stood := { row := crcSetsRow, standIns := [], harness := (true, "8e4c1ab40c7cddc9587af1a12701cf81059e4c3819226fb0e93963d719eb80c3"), looks := false }, kinds := [], alts := [], laidByText := true, laidKinds := [.data], laidTests := true, laidLooks := .later }
def CrcSetsCardSaid : Prop := Claim7.holds Tryd.pinned (.plain (OpenSpec.ofChange crcSetsSpec)) crcSetsCard

/-- THE SECOND FORM's CARD OF 'arbaclaw03.KeccakPieces'. -/
def keccakPiecesUptoCard : Claim7 := { stood := { row := keccakPiecesUptoRow, standIns := [], harness := (true, "8e4c1ab40c7cddc9587af1a12701cf81059e4c3819226fb0e93963d719eb80c3"), looks := false }, kinds := [], alts := [], laidByText := true, laidKinds := [.data, .data, .data], laidTests := true, laidLooks := .later }
def KeccakPiecesUptoCardSaid : Prop := Claim7.holds Tryd.pinned (.plain (OpenSpec.upto keccakPiecesSpec)) keccakPiecesUptoCard

/-- THE SECOND FORM's CARD OF 'arbaclaw03.KeccakTagged'. -/
def keccakTaggedUptoCard : Claim7 := { stood := { row := keccakTaggedUptoRow, standIns := [], harness := (true, "8e4c1ab40c7cddc9587af1a12701cf81059e4c3819226fb0e93963d719eb80c3"), looks := false }, kinds := [], alts := [], laidByText := true, laidKinds := [.data, .data, .data], laidTests := true, laidLooks := .later }
def KeccakTaggedUptoCardSaid : Prop := Claim7.holds Tryd.pinned (.plain (OpenSpec.upto keccakTaggedSpec)) keccakTaggedUptoCard

/-- THE SECOND FORM's CARD OF 'arbaclaw03.KeccakOrders'. -/
def keccakOrdersUptoCard : Claim7 := { stood := { row := keccakOrdersUptoRow, standIns := [], harness := (true, "8e4c1ab40c7cddc9587af1a12701cf81059e4c3819226fb0e93963d719eb80c3"), looks := false }, kinds := [], alts := [], laidByText := true, laidKinds := [.data, .data, .data], laidTests := true, laidLooks := .later }
def KeccakOrdersUptoCardSaid : Prop := Claim7.holds Tryd.pinned (.plain (OpenSpec.upto keccakOrdersSpec)) keccakOrdersUptoCard

/-- THE SECOND FORM's CARD OF 'arbaclaw04.CrcSets'. -/
def crcSetsUptoCard : Claim7 := { stood := { row := crcSetsUptoRow, standIns := [], harness := (true, "8e4c1ab40c7cddc9587af1a12701cf81059e4c3819226fb0e93963d719eb80c3"), looks := false }, kinds := [], alts := [], laidByText := true, laidKinds := [.data], laidTests := true, laidLooks := .later }
def CrcSetsUptoCardSaid : Prop := Claim7.holds Tryd.pinned (.plain (OpenSpec.upto crcSetsSpec)) crcSetsUptoCard
end Rows
end Go.Proofs.YtncieckanngodaaDoor
