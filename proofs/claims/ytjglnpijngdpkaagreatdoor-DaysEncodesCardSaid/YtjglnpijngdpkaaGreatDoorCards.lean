/-
  DERIVED. GIVEN WITH THE SEED: THE CARDS: each row of YtjglnpijngdpkaaGreatDoorRows.lean that lists a variable, with what it lists TIED to the program's text (the seventh form; the later family's looks); each row that meets fmt, with fmt's text TOLD by the authors' own Lean function (tested against real Go, not proved from fmt's source: count such statements apart). THE CARD IS WHAT COUNTS. Prove the row's statement (the work); the ties are given (YtjglnpijngdpkaaGreatDoorTie.lean); close each card by the builder's one call (the guide's Derived/Test/ToyasCard.lean, 'card_holds'). Laid BY PROGRAM, IN A SANDBOX (cutbox-door.mjs). By AI agents, Wed Nov 11 2026. No macro, syntax, notation, axiom, sorry.
-/
import Derived.Test.YtjglnpijngdpkaaGreatDoorRows
import GoSem.ClaimSeven
namespace Go.Proofs.YtjglnpijngdpkaaGreatDoor
namespace Rows

/-- THE TIED CARD OF 'arbaclaw05.DaysTexts'. -/
def daysTextsCard : Claim7 := { stood := { row := daysTextsRow, standIns := [], harness := (true, "8939bfc0a106b0114abca7b284f88fdd8d6c6ad159dd11e699b334d7a491a92d"), looks := true }, kinds := [], alts := [], laidByText := true, laidKinds := [.data, .data, .data, .data, .sentinel, .sentinel, .pinned], laidTests := true, laidLooks := .later }
def DaysTextsCardSaid : Prop := Claim7.holds Tryz.pinned (.plain (OpenSpec.ofChange daysTextsSpec)) daysTextsCard

/-- THE TIED CARD OF 'arbaclaw05.DaysParses'. -/
def daysParsesCard : Claim7 := { stood := { row := daysParsesRow, standIns := [], harness := (true, "8939bfc0a106b0114abca7b284f88fdd8d6c6ad159dd11e699b334d7a491a92d"), looks := true }, kinds := [], alts := [], laidByText := true, laidKinds := [.data, .data, .data, .data, .sentinel, .sentinel, .pinned], laidTests := true, laidLooks := .later }
def DaysParsesCardSaid : Prop := Claim7.holds Tryz.pinned (.plain (OpenSpec.ofChange daysParsesSpec)) daysParsesCard

/-- THE TIED CARD OF 'arbaclaw05.DaysEncodes'. -/
def daysEncodesCard : Claim7 := { stood := { row := daysEncodesRow, standIns := [], harness := (true, "8939bfc0a106b0114abca7b284f88fdd8d6c6ad159dd11e699b334d7a491a92d"), looks := true }, kinds := [], alts := [], laidByText := true, laidKinds := [.data, .data, .data, .data, .sentinel, .sentinel, .data, .data, .data, .pinned], laidTests := true, laidLooks := .later }
def DaysEncodesCardSaid : Prop := Claim7.holds Tryz.pinned (.plain (OpenSpec.ofChange daysEncodesSpec)) daysEncodesCard

/-- THE SECOND FORM's CARD OF 'arbaclaw05.DaysTexts'. -/
def daysTextsUptoCard : Claim7 := { stood := { row := daysTextsUptoRow, standIns := [], harness := (true, "8939bfc0a106b0114abca7b284f88fdd8d6c6ad159dd11e699b334d7a491a92d"), looks := true }, kinds := [], alts := [], laidByText := true, laidKinds := [.data, .data, .data, .data, .sentinel, .sentinel, .pinned], laidTests := true, laidLooks := .later }
def DaysTextsUptoCardSaid : Prop := Claim7.holds Tryz.pinned (.plain (OpenSpec.upto daysTextsSpec)) daysTextsUptoCard

/-- THE SECOND FORM's CARD OF 'arbaclaw05.DaysParses'. -/
def daysParsesUptoCard : Claim7 := { stood := { row := daysParsesUptoRow, standIns := [], harness := (true, "8939bfc0a106b0114abca7b284f88fdd8d6c6ad159dd11e699b334d7a491a92d"), looks := true }, kinds := [], alts := [], laidByText := true, laidKinds := [.data, .data, .data, .data, .sentinel, .sentinel, .pinned], laidTests := true, laidLooks := .later }
def DaysParsesUptoCardSaid : Prop := Claim7.holds Tryz.pinned (.plain (OpenSpec.upto daysParsesSpec)) daysParsesUptoCard

/-- THE SECOND FORM's CARD OF 'arbaclaw05.DaysEncodes'. -/
def daysEncodesUptoCard : Claim7 := { stood := { row := daysEncodesUptoRow, standIns := [], harness := (true, "8939bfc0a106b0114abca7b284f88fdd8d6c6ad159dd11e699b334d7a491a92d"), looks := true }, kinds := [], alts := [], laidByText := true, laidKinds := [.data, .data, .data, .data, .sentinel, .sentinel, .data, .data, .data, .pinned], laidTests := true, laidLooks := .later }
def DaysEncodesUptoCardSaid : Prop := Claim7.holds Tryz.pinned (.plain (OpenSpec.upto daysEncodesSpec)) daysEncodesUptoCard
end Rows
end Go.Proofs.YtjglnpijngdpkaaGreatDoor
