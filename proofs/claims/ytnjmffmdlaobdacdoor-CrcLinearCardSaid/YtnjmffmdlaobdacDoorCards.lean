/-
  DERIVED. GIVEN WITH THE SEED: THE CARDS: each row of YtnjmffmdlaobdacDoorRows.lean that lists a variable, with what it lists TIED to the program's text (the seventh form; the later family's looks); each row that meets fmt, with fmt's text TOLD by the authors' own Lean function (tested against real Go, not proved from fmt's source: count such statements apart). THE CARD IS WHAT COUNTS. Prove the row's statement (the work); the ties are given (YtnjmffmdlaobdacDoorTie.lean); close each card by the builder's one call (the guide's Derived/Test/ToyasCard.lean, 'card_holds'). Laid BY PROGRAM, IN A SANDBOX (cutbox-door.mjs). By AI agents, Wed Nov 11 2026. No macro, syntax, notation, axiom, sorry.
-/
import Derived.Test.YtnjmffmdlaobdacDoorRows
import GoSem.ClaimSeven
namespace Go.Proofs.YtnjmffmdlaobdacDoor
namespace Rows

/-- THE TIED CARD OF 'arbaclaw04.CrcCombines'. -/
def crcCombinesCard : Claim7 := { stood := { row := crcCombinesRow, standIns := [], harness := (true, "644b11b0400fb2cb4081b571e658ec1fe0d8164c515de0b792ccfe4a419a90cb"), looks := false }, kinds := [], alts := [], laidByText := true, laidKinds := [.data], laidTests := true, laidLooks := .later }
def CrcCombinesCardSaid : Prop := Claim7.holds Tryd.pinned (.plain (OpenSpec.ofChange crcCombinesSpec)) crcCombinesCard

/-- THE TIED CARD OF 'arbaclaw04.CrcJoins'. -/
def crcJoinsCard : Claim7 := { stood := { row := crcJoinsRow, standIns := [], harness := (true, "644b11b0400fb2cb4081b571e658ec1fe0d8164c515de0b792ccfe4a419a90cb"), looks := false }, kinds := [], alts := [], laidByText := true, laidKinds := [.data], laidTests := true, laidLooks := .later }
def CrcJoinsCardSaid : Prop := Claim7.holds Tryd.pinned (.plain (OpenSpec.ofChange crcJoinsSpec)) crcJoinsCard

/-- THE TIED CARD OF 'arbaclaw04.CrcAssociates'. -/
def crcAssociatesCard : Claim7 := { stood := { row := crcAssociatesRow, standIns := [], harness := (true, "644b11b0400fb2cb4081b571e658ec1fe0d8164c515de0b792ccfe4a419a90cb"), looks := false }, kinds := [], alts := [], laidByText := true, laidKinds := [.data], laidTests := true, laidLooks := .later }
def CrcAssociatesCardSaid : Prop := Claim7.holds Tryd.pinned (.plain (OpenSpec.ofChange crcAssociatesSpec)) crcAssociatesCard

/-- THE TIED CARD OF 'arbaclaw04.CrcLinear'. -/
def crcLinearCard : Claim7 := { stood := { row := crcLinearRow, standIns := [], harness := (true, "644b11b0400fb2cb4081b571e658ec1fe0d8164c515de0b792ccfe4a419a90cb"), looks := false }, kinds := [], alts := [], laidByText := true, laidKinds := [.data], laidTests := true, laidLooks := .later }
def CrcLinearCardSaid : Prop := Claim7.holds Tryd.pinned (.plain (OpenSpec.ofChange crcLinearSpec)) crcLinearCard

/-- THE TIED CARD OF 'arbaclaw04.CrcFrames'. -/
def crcFramesCard : Claim7 := { stood := { row := crcFramesRow, standIns := [], harness := (true, "644b11b0400fb2cb4081b571e658ec1fe0d8164c515de0b792ccfe4a419a90cb"), looks := false }, kinds := [], alts := [], laidByText := true, laidKinds := [.data], laidTests := true, laidLooks := .later }
def CrcFramesCardSaid : Prop := Claim7.holds Tryd.pinned (.plain (OpenSpec.ofChange crcFramesSpec)) crcFramesCard

/-- THE TIED CARD OF 'arbaclaw04.CrcScans'. -/
def crcScansCard : Claim7 := { stood := { row := crcScansRow, standIns := [], harness := (true, "644b11b0400fb2cb4081b571e658ec1fe0d8164c515de0b792ccfe4a419a90cb"), looks := false }, kinds := [], alts := [], laidByText := true, laidKinds := [.data], laidTests := true, laidLooks := .later }
def CrcScansCardSaid : Prop := Claim7.holds Tryd.pinned (.plain (OpenSpec.ofChange crcScansSpec)) crcScansCard

/-- THE TIED CARD OF 'arbaclaw04.CrcTorn'. -/
def crcTornCard : Claim7 := { stood := { row := crcTornRow, standIns := [], harness := (true, "644b11b0400fb2cb4081b571e658ec1fe0d8164c515de0b792ccfe4a419a90cb"), looks := false }, kinds := [], alts := [], laidByText := true, laidKinds := [.data], laidTests := true, laidLooks := .later }
def CrcTornCardSaid : Prop := Claim7.holds Tryd.pinned (.plain (OpenSpec.ofChange crcTornSpec)) crcTornCard

/-- THE TIED CARD OF 'arbaclaw04.CrcSets'. -/
def crcSetsCard : Claim7 := { stood := { row := crcSetsRow, standIns := [], harness := (true, "644b11b0400fb2cb4081b571e658ec1fe0d8164c515de0b792ccfe4a419a90cb"), looks := false }, kinds := [], alts := [], laidByText := true, laidKinds := [.data], laidTests := true, laidLooks := .later }
def CrcSetsCardSaid : Prop := Claim7.holds Tryd.pinned (.plain (OpenSpec.ofChange crcSetsSpec)) crcSetsCard

/-- THE SECOND FORM's CARD OF 'arbaclaw04.CrcCombines'. -/
def crcCombinesUptoCard : Claim7 := { stood := { row := crcCombinesUptoRow, standIns := [], harness := (true, "644b11b0400fb2cb4081b571e658ec1fe0d8164c515de0b792ccfe4a419a90cb"), looks := false }, kinds := [], alts := [], laidByText := true, laidKinds := [.data], laidTests := true, laidLooks := .later }
def CrcCombinesUptoCardSaid : Prop := Claim7.holds Tryd.pinned (.plain (OpenSpec.upto crcCombinesSpec)) crcCombinesUptoCard

/-- THE SECOND FORM's CARD OF 'arbaclaw04.CrcJoins'. -/
def crcJoinsUptoCard : Claim7 := { stood := { row := crcJoinsUptoRow, standIns := [], harness := (true, "644b11b0400fb2cb4081b571e658ec1fe0d8164c515de0b792ccfe4a419a90cb"), looks := false }, kinds := [], alts := [], laidByText := true, laidKinds := [.data], laidTests := true, laidLooks := .later }
def CrcJoinsUptoCardSaid : Prop := Claim7.holds Tryd.pinned (.plain (OpenSpec.upto crcJoinsSpec)) crcJoinsUptoCard

/-- THE SECOND FORM's CARD OF 'arbaclaw04.CrcAssociates'. -/
def crcAssociatesUptoCard : Claim7 := { stood := { row := crcAssociatesUptoRow, standIns := [], harness := (true, "644b11b0400fb2cb4081b571e658ec1fe0d8164c515de0b792ccfe4a419a90cb"), looks := false }, kinds := [], alts := [], laidByText := true, laidKinds := [.data], laidTests := true, laidLooks := .later }
def CrcAssociatesUptoCardSaid : Prop := Claim7.holds Tryd.pinned (.plain (OpenSpec.upto crcAssociatesSpec)) crcAssociatesUptoCard

/-- THE SECOND FORM's CARD OF 'arbaclaw04.CrcLinear'. -/
def crcLinearUptoCard : Claim7 := { stood := { row := crcLinearUptoRow, standIns := [], harness := (true, "644b11b0400fb2cb4081b571e658ec1fe0d8164c515de0b792ccfe4a419a90cb"), looks := false }, kinds := [], alts := [], laidByText := true, laidKinds := [.data], laidTests := true, laidLooks := .later }
def CrcLinearUptoCardSaid : Prop := Claim7.holds Tryd.pinned (.plain (OpenSpec.upto crcLinearSpec)) crcLinearUptoCard

/-- THE SECOND FORM's CARD OF 'arbaclaw04.CrcFrames'. -/
def crcFramesUptoCard : Claim7 := { stood := { row := crcFramesUptoRow, standIns := [], harness := (true, "644b11b0400fb2cb4081b571e658ec1fe0d8164c515de0b792ccfe4a419a90cb"), looks := false }, kinds := [], alts := [], laidByText := true, laidKinds := [.data], laidTests := true, laidLooks := .later }
def CrcFramesUptoCardSaid : Prop := Claim7.holds Tryd.pinned (.plain (OpenSpec.upto crcFramesSpec)) crcFramesUptoCard

/-- THE SECOND FORM's CARD OF 'arbaclaw04.CrcScans'. -/
def crcScansUptoCard : Claim7 := { stood := { row := crcScansUptoRow, standIns := [], harness := (true, "644b11b0400fb2cb4081b571e658ec1fe0d8164c515de0b792ccfe4a419a90cb"), looks := false }, kinds := [], alts := [], laidByText := true, laidKinds := [.data], laidTests := true, laidLooks := .later }
def CrcScansUptoCardSaid : Prop := Claim7.holds Tryd.pinned (.plain (OpenSpec.upto crcScansSpec)) crcScansUptoCard

/-- THE SECOND FORM's CARD OF 'arbaclaw04.CrcTorn'. -/
def crcTornUptoCard : Claim7 := { stood := { row := crcTornUptoRow, standIns := [], harness := (true, "644b11b0400fb2cb4081b571e658ec1fe0d8164c515de0b792ccfe4a419a90cb"), looks := false }, kinds := [], alts := [], laidByText := true, laidKinds := [.data], laidTests := true, laidLooks := .later }
def CrcTornUptoCardSaid : Prop := Claim7.holds Tryd.pinned (.plain (OpenSpec.upto crcTornSpec)) crcTornUptoCard

/-- THE SECOND FORM's CARD OF 'arbaclaw04.CrcSets'. -/
def crcSetsUptoCard : Claim7 := { stood := { row := crcSetsUptoRow, standIns := [], harness := (true, "644b11b0400fb2cb4081b571e658ec1fe0d8164c515de0b792ccfe4a419a90cb"), looks := false }, kinds := [], alts := [], laidByText := true, laidKinds := [.data], laidTests := true, laidLooks := .later }
def CrcSetsUptoCardSaid : Prop := Claim7.holds Tryd.pinned (.plain (OpenSpec.upto crcSetsSpec)) crcSetsUptoCard
end Rows
end Go.Proofs.YtnjmffmdlaobdacDoor
