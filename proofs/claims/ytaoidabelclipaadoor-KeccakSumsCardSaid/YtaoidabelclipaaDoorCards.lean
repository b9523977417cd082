/-
  DERIVED. GIVEN WITH THE SEED: THE CARDS: each row of YtaoidabelclipaaDoorRows.lean that lists a variable, with what it lists TIED to the program's text (the seventh form; the later family's looks); each row that meets fmt, with fmt's text TOLD by the authors' own Lean function (tested against real Go, not proved from fmt's source: count such statements apart). THE CARD IS WHAT COUNTS. Prove the row's statement (the work); the ties are given (YtaoidabelclipaaDoorTie.lean); close each card by the builder's one call (the guide's Derived/Test/ToyasCard.lean, 'card_holds'). Laid BY PROGRAM, IN A SANDBOX (cutbox-door.mjs). By AI agents, Wed Nov 11 2026. No macro, syntax, notation, axiom, sorry.
-/
import Derived.Test.YtaoidabelclipaaDoorRows
import GoSem.ClaimSeven
namespace Go.Proofs.YtaoidabelclipaaDoor
namespace Rows

/-- THE TIED CARD OF 'arbaclaw03.KeccakSums'. -/
def keccakSumsCard : Claim7 := { stood := { row := keccakSumsRow, standIns := [], harness := (true, "ef873d8480db80ec8c106bfb8125deb361c83633dfc3ef53d5901cc8a9e90795"), looks := false }, kinds := [], alts := [], laidByText := true, laidKinds := [.data, .data, .data], laidTests := true, laidLooks := .later }
def KeccakSumsCardSaid : Prop := Claim7.holds Tryd.pinned (.plain (OpenSpec.ofChange keccakSumsSpec)) keccakSumsCard

/-- THE TIED CARD OF 'arbaclaw03.KeccakPieces'. -/
def keccakPiecesCard : Claim7 := { stood := { row := keccakPiecesRow, standIns := [], harness := (true, "ef873d8480db80ec8c106bfb8125deb361c83633dfc3ef53d5901cc8a9e90795"), looks := false }, kinds := [], alts := [], laidByText := true, laidKinds := [.data, .data, .data], laidTests := true, laidLooks := .later }
def KeccakPiecesCardSaid : Prop := Claim7.holds Tryd.pinned (.plain (OpenSpec.ofChange keccakPiecesSpec)) keccakPiecesCard

/-- THE TIED CARD OF 'arbaclaw03.KeccakTagged'. -/
def keccakTaggedCard : Claim7 := { stood := { row := keccakTaggedRow, standIns := [], harness := (true, "ef873d8480db80ec8c106bfb8125deb361c83633dfc3ef53d5901cc8a9e90795"), looks := false }, kinds := [], alts := [], laidByText := true, laidKinds := [.data, .data, .data], laidTests := true, laidLooks := .later }
def KeccakTaggedCardSaid : Prop := Claim7.holds Tryd.pinned (.plain (OpenSpec.ofChange keccakTaggedSpec)) keccakTaggedCard

/-- THE TIED CARD OF 'arbaclaw03.KeccakParts'. -/
def keccakPartsCard : Claim7 := { stood := { row := keccakPartsRow, standIns := [], harness := (true, "ef873d8480db80ec8c106bfb8125deb361c83633dfc3ef53d5901cc8a9e90795"), looks := false }, kinds := [], alts := [], laidByText := true, laidKinds := [.data, .data, .data], laidTests := true, laidLooks := .later }
def KeccakPartsCardSaid : Prop := Claim7.holds Tryd.pinned (.plain (OpenSpec.ofChange keccakPartsSpec)) keccakPartsCard

/-- THE TIED CARD OF 'arbaclaw03.KeccakOrders'. -/
def keccakOrdersCard : Claim7 := { stood := { row := keccakOrdersRow, standIns := [], harness := (true, "ef873d8480db80ec8c106bfb8125deb361c83633dfc3ef53d5901cc8a9e90795"), looks := false }, kinds := [], alts := [], laidByText := true, laidKinds := [.data, .data, .data], laidTests := true, laidLooks := .later }
def KeccakOrdersCardSaid : Prop := Claim7.holds Tryd.pinned (.plain (OpenSpec.ofChange keccakOrdersSpec)) keccakOrdersCard

/-- THE TIED CARD OF 'arbaclaw04.CrcFrames'. -/
def crcFramesCard : Claim7 := { stood := { row := crcFramesRow, standIns := [], harness := (true, "ef873d8480db80ec8c106bfb8125deb361c83633dfc3ef53d5901cc8a9e90795"), looks := false }, kinds := [], alts := [], laidByText := true, laidKinds := [.data], laidTests := true, laidLooks := .later }
def CrcFramesCardSaid : Prop := Claim7.holds Tryd.pinned (.plain (OpenSpec.ofChange crcFramesSpec)) crcFramesCard

/-- THE TIED CARD OF 'arbaclaw04.CrcScans'. -/
def crcScansCard : Claim7 := { stood := { row := crcScansRow, standIns := [], harness := (true, "ef873d8480db80ec8c106bfb8125deb361c83633dfc3ef53d5901cc8a9e90795"), looks := false }, kinds := [], alts := [], laidByText := true, laidKinds := [.data], laidTests := true, laidLooks := .later }
def CrcScansCardSaid : Prop := Claim7.holds Tryd.pinned (.plain (OpenSpec.ofChange crcScansSpec)) crcScansCard

/-- THE TIED CARD OF 'arbaclaw04.CrcTorn'. -/
def crcTornCard : Claim7 := { stood := { row := crcTornRow, standIns := [], harness := (true, "ef873d8480db80ec8c106bfb8125deb361c83633dfc3ef53d5901cc8a9e90795"), looks := false }, kinds := [], alts := [], laidByText := true, laidKinds := [.data], laidTests := true, laidLooks := .later }
def CrcTornCardSaid : Prop := Claim7.holds Tryd.pinned (.plain (OpenSpec.ofChange crcTornSpec)) crcTornCard

/-- THE TIED CARD OF 'arbaclaw04.CrcSets'. -/
def crcSetsCard : Claim7 := { stood := { row := crcSetsRow, standIns := [], harness := (true, "ef873d8480db80ec8c106bfb8125deb361c83633dfc3ef53d5901cc8a9e90795"), looks := false }, kinds := [], alts := [], laidByText := true, laidKinds := [.data], laidTests := true, laidLooks := .later }
def CrcSetsCardSaid : Prop := Claim7.holds Tryd.pinned (.plain (OpenSpec.ofChange crcSetsSpec)) crcSetsCard

/-- THE SECOND FORM's CARD OF 'arbaclaw03.KeccakSums'. -/
def keccakSumsUptoCard : Claim7 := { stood := { row := keccakSumsUptoRow, standIns := [], harness := (true, "ef873d8480db80ec8c106bfb8125deb361c83633dfc3ef53d5901cc8a9e90795"), looks := false }, kinds := [], alts := [], laidByText := true, laidKinds := [.data, .data, .data], laidTests := true, laidLooks := .later }
def KeccakSumsUptoCardSaid : Prop := Claim7.holds Tryd.pinned (.plain (OpenSpec.upto keccakSumsSpec)) keccakSumsUptoCard

/-- THE SECOND FORM's CARD OF 'arbaclaw03.KeccakPieces'. -/
def keccakPiecesUptoCard : Claim7 := { stood := { row := keccakPiecesUptoRow, standIns := [], harness := (true, "ef873d8480db80ec8c106bfb8125deb361c83633dfc3ef53d5901cc8a9e90795"), looks := false }, kinds := [], alts := [], laidByText := true, laidKinds := [.data, .data, .data], laidTests := true, laidLooks := .later }
def KeccakPiecesUptoCardSaid : Prop := Claim7.holds Tryd.pinned (.plain (OpenSpec.upto keccakPiecesSpec)) keccakPiecesUptoCard

/-- THE SECOND FORM's CARD OF 'arbaclaw03.KeccakTagged'. -/
def keccakTaggedUptoCard : Claim7 := { stood := { row := keccakTaggedUptoRow, standIns := [], harness := (true, "ef873d8480db80ec8c106bfb8125deb361c83633dfc3ef53d5901cc8a9e90795"), looks := false }, kinds := [], alts := [], laidByText := true, laidKinds := [.data, .data, .data], laidTests := true, laidLooks := .later }
def KeccakTaggedUptoCardSaid : Prop := Claim7.holds Tryd.pinned (.plain (OpenSpec.upto keccakTaggedSpec)) keccakTaggedUptoCard

/-- THE SECOND FORM's CARD OF 'arbaclaw03.KeccakParts'. -/
def keccakPartsUptoCard : Claim7 := { stood := { row := keccakPartsUptoRow, standIns := [], harness := (true, "ef873d8480db80ec8c106bfb8125deb361c83633dfc3ef53d5901cc8a9e90795"), looks := false }, kinds := [], alts := [], laidByText := true, laidKinds := [.data, .data, .data], laidTests := true, laidLooks := .later }
def KeccakPartsUptoCardSaid : Prop := Claim7.holds Tryd.pinned (.plain (OpenSpec.upto keccakPartsSpec)) keccakPartsUptoCard

/-- THE SECOND FORM's CARD OF 'arbaclaw03.KeccakOrders'. -/
def keccakOrdersUptoCard : Claim7 := { stood := { row := keccakOrdersUptoRow, standIns := [], harness := (true, "ef873d8480db80ec8c106bfb8125deb361c83633dfc3ef53d5901cc8a9e90795"), looks := false }, kinds := [], alts := [], laidByText := true, laidKinds := [.data, .data, .data], laidTests := true, laidLooks := .later }
def KeccakOrdersUptoCardSaid : Prop := Claim7.holds Tryd.pinned (.plain (OpenSpec.upto keccakOrdersSpec)) keccakOrdersUptoCard

/-- THE SECOND FORM's CARD OF 'arbaclaw04.CrcFrames'. -/
def crcFramesUptoCard : Claim7 := { stood := { row := crcFramesUptoRow, standIns := [], harness := (true, "ef873d8480db80ec8c106bfb8125deb361c83633dfc3ef53d5901cc8a9e90795"), looks := false }, kinds := [], alts := [], laidByText := true, laidKinds := [.data], laidTests := true, laidLooks := .later }
def CrcFramesUptoCardSaid : Prop := Claim7.holds Tryd.pinned (.plain (OpenSpec.upto crcFramesSpec)) crcFramesUptoCard

/-- THE SECOND FORM's CARD OF 'arbaclaw04.CrcScans'. -/
def crcScansUptoCard : Claim7 := { stood := { row := crcScansUptoRow, standIns := [], harness := (true, "ef873d8480db80ec8c106bfb8125deb361c83633dfc3ef53d5901cc8a9e90795"), looks := false }, kinds := [], alts := [], laidByText := true, laidKinds := [.data], laidTests := true, laidLooks := .later }
def CrcScansUptoCardSaid : Prop := Claim7.holds Tryd.pinned (.plain (OpenSpec.upto crcScansSpec)) crcScansUptoCard

/-- THE SECOND FORM's CARD OF 'arbaclaw04.CrcTorn'. -/
def crcTornUptoCard : Claim7 := { stood := { row := crcTornUptoRow, standIns := [], harness := (true, "ef873d8480db80ec8c106bfb8125deb361c83633dfc3ef53d5901cc8a9e90795"), looks := false }, kinds := [], alts := [], laidByText := true, laidKinds := [.data], laidTests := true, laidLooks := .later }
def CrcTornUptoCardSaid : Prop := Claim7.holds Tryd.pinned (.plain (OpenSpec.upto crcTornSpec)) crcTornUptoCard

/-- THE SECOND FORM's CARD OF 'arbaclaw04.CrcSets'. -/
def crcSetsUptoCard : Claim7 := { stood := { row := crcSetsUptoRow, standIns := [], harness := (true, "ef873d8480db80ec8c106bfb8125deb361c83633dfc3ef53d5901cc8a9e90795"), looks := false }, kinds := [], alts := [], laidByText := true, laidKinds := [.data], laidTests := true, laidLooks := .later }
def CrcSetsUptoCardSaid : Prop := Claim7.holds Tryd.pinned (.plain (OpenSpec.upto crcSetsSpec)) crcSetsUptoCard
end Rows
end Go.Proofs.YtaoidabelclipaaDoor
