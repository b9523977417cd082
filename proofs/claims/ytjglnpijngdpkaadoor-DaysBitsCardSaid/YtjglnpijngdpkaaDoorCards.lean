/-
  DERIVED. GIVEN WITH THE SEED: THE CARDS: each row of YtjglnpijngdpkaaDoorRows.lean that lists a variable, with what it lists TIED to the program's text (the seventh form; the later family's looks); each row that meets fmt, with fmt's text TOLD by the authors' own Lean function (tested against real Go, not proved from fmt's source: count such statements apart). THE CARD IS WHAT COUNTS. Prove the row's statement (the work); the ties are given (YtjglnpijngdpkaaDoorTie.lean); close each card by the builder's one call (the guide's Derived/Test/ToyasCard.lean, 'card_holds'). Laid BY PROGRAM, IN A SANDBOX (cutbox-door.mjs). By AI agents, Wed Nov 11 2026. No macro, syntax, notation, axiom, sorry.
-/
import Derived.Test.YtjglnpijngdpkaaDoorRows
import GoSem.ClaimSeven
namespace Go.Proofs.YtjglnpijngdpkaaDoor
namespace Rows

/-- THE TIED CARD OF 'arbaclaw05.DaysMakes'. -/
def daysMakesCard : Claim7 := { stood := { row := daysMakesRow, standIns := [], harness := (true, "09e264055d56c378d6c50b7708813bf6626f375f9e241161f0162004af2f8044"), looks := false }, kinds := [], alts := [], laidByText := true, laidKinds := [.data, .data, .data], laidTests := true, laidLooks := .later }
def DaysMakesCardSaid : Prop := Claim7.holds Tryd.pinned (.plain (OpenSpec.ofChange daysMakesSpec)) daysMakesCard

/-- THE TIED CARD OF 'arbaclaw05.DaysAlgebra'. -/
def daysAlgebraCard : Claim7 := { stood := { row := daysAlgebraRow, standIns := [], harness := (true, "09e264055d56c378d6c50b7708813bf6626f375f9e241161f0162004af2f8044"), looks := false }, kinds := [], alts := [], laidByText := true, laidKinds := [.data, .data, .data], laidTests := true, laidLooks := .later }
def DaysAlgebraCardSaid : Prop := Claim7.holds Tryd.pinned (.plain (OpenSpec.ofChange daysAlgebraSpec)) daysAlgebraCard

/-- THE TIED CARD OF 'arbaclaw05.DaysLaws'. -/
def daysLawsCard : Claim7 := { stood := { row := daysLawsRow, standIns := [], harness := (true, "09e264055d56c378d6c50b7708813bf6626f375f9e241161f0162004af2f8044"), looks := false }, kinds := [], alts := [], laidByText := true, laidKinds := [.data, .data, .data], laidTests := true, laidLooks := .later }
def DaysLawsCardSaid : Prop := Claim7.holds Tryd.pinned (.plain (OpenSpec.ofChange daysLawsSpec)) daysLawsCard

/-- THE TIED CARD OF 'arbaclaw05.DaysNext'. -/
def daysNextCard : Claim7 := { stood := { row := daysNextRow, standIns := [], harness := (true, "09e264055d56c378d6c50b7708813bf6626f375f9e241161f0162004af2f8044"), looks := false }, kinds := [], alts := [], laidByText := true, laidKinds := [.data, .data, .data], laidTests := true, laidLooks := .later }
def DaysNextCardSaid : Prop := Claim7.holds Tryd.pinned (.plain (OpenSpec.ofChange daysNextSpec)) daysNextCard

/-- THE TIED CARD OF 'arbaclaw05.DaysCompares'. -/
def daysComparesCard : Claim7 := { stood := { row := daysComparesRow, standIns := [], harness := (true, "09e264055d56c378d6c50b7708813bf6626f375f9e241161f0162004af2f8044"), looks := false }, kinds := [], alts := [], laidByText := true, laidKinds := [.data, .data, .data], laidTests := true, laidLooks := .later }
def DaysComparesCardSaid : Prop := Claim7.holds Tryd.pinned (.plain (OpenSpec.ofChange daysComparesSpec)) daysComparesCard

/-- THE TIED CARD OF 'arbaclaw05.DaysBits'. -/
def daysBitsCard : Claim7 := { stood := { row := daysBitsRow, standIns := [], harness := (true, "09e264055d56c378d6c50b7708813bf6626f375f9e241161f0162004af2f8044"), looks := false }, kinds := [], alts := [], laidByText := true, laidKinds := [.data, .data, .data], laidTests := true, laidLooks := .later }
def DaysBitsCardSaid : Prop := Claim7.holds Tryd.pinned (.plain (OpenSpec.ofChange daysBitsSpec)) daysBitsCard

/-- THE SECOND FORM's CARD OF 'arbaclaw05.DaysMakes'. -/
def daysMakesUptoCard : Claim7 := { stood := { row := daysMakesUptoRow, standIns := [], harness := (true, "09e264055d56c378d6c50b7708813bf6626f375f9e241161f0162004af2f8044"), looks := false }, kinds := [], alts := [], laidByText := true, laidKinds := [.data, .data, .data], laidTests := true, laidLooks := .later }
def DaysMakesUptoCardSaid : Prop := Claim7.holds Tryd.pinned (.plain (OpenSpec.upto daysMakesSpec)) daysMakesUptoCard

/-- THE SECOND FORM's CARD OF 'arbaclaw05.DaysAlgebra'. -/
def daysAlgebraUptoCard : Claim7 := { stood := { row := daysAlgebraUptoRow, standIns := [], harness := (true, "09e264055d56c378d6c50b7708813bf6626f375f9e241161f0162004af2f8044"), looks := false }, kinds := [], alts := [], laidByText := true, laidKinds := [.data, .data, .data], laidTests := true, laidLooks := .later }
def DaysAlgebraUptoCardSaid : Prop := Claim7.holds Tryd.pinned (.plain (OpenSpec.upto daysAlgebraSpec)) daysAlgebraUptoCard

/-- THE SECOND FORM's CARD OF 'arbaclaw05.DaysLaws'. -/
def daysLawsUptoCard : Claim7 := { stood := { row := daysLawsUptoRow, standIns := [], harness := (true, "09e264055d56c378d6c50b7708813bf6626f375f9e241161f0162004af2f8044"), looks := false }, kinds := [], alts := [], laidByText := true, laidKinds := [.data, .data, .data], laidTests := true, laidLooks := .later }
def DaysLawsUptoCardSaid : Prop := Claim7.holds Tryd.pinned (.plain (OpenSpec.upto daysLawsSpec)) daysLawsUptoCard

/-- THE SECOND FORM's CARD OF 'arbaclaw05.DaysNext'. -/
def daysNextUptoCard : Claim7 := { stood := { row := daysNextUptoRow, standIns := [], harness := (true, "09e264055d56c378d6c50b7708813bf6626f375f9e241161f0162004af2f8044"), looks := false }, kinds := [], alts := [], laidByText := true, laidKinds := [.data, .data, .data], laidTests := true, laidLooks := .later }
def DaysNextUptoCardSaid : Prop := Claim7.holds Tryd.pinned (.plain (OpenSpec.upto daysNextSpec)) daysNextUptoCard

/-- THE SECOND FORM's CARD OF 'arbaclaw05.DaysCompares'. -/
def daysComparesUptoCard : Claim7 := { stood := { row := daysComparesUptoRow, standIns := [], harness := (true, "09e264055d56c378d6c50b7708813bf6626f375f9e241161f0162004af2f8044"), looks := false }, kinds := [], alts := [], laidByText := true, laidKinds := [.data, .data, .data], laidTests := true, laidLooks := .later }
def DaysComparesUptoCardSaid : Prop := Claim7.holds Tryd.pinned (.plain (OpenSpec.upto daysComparesSpec)) daysComparesUptoCard

/-- THE SECOND FORM's CARD OF 'arbaclaw05.DaysBits'. -/
def daysBitsUptoCard : Claim7 := { stood := { row := daysBitsUptoRow, standIns := [], harness := (true, "09e264055d56c378d6c50b7708813bf6626f375f9e241161f0162004af2f8044"), looks := false }, kinds := [], alts := [], laidByText := true, laidKinds := [.data, .data, .data], laidTests := true, laidLooks := .later }
def DaysBitsUptoCardSaid : Prop := Claim7.holds Tryd.pinned (.plain (OpenSpec.upto daysBitsSpec)) daysBitsUptoCard
end Rows
end Go.Proofs.YtjglnpijngdpkaaDoor
