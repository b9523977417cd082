/-
  DERIVED. GIVEN WITH THE SEED: THE CARDS: each row of YtndedphkgkmckaaDoorRows.lean that lists a variable, with what it lists TIED to the program's text (the seventh form; the later family's looks); each row that meets fmt, with fmt's text TOLD by the authors' own Lean function (tested against real Go, not proved from fmt's source: count such statements apart). THE CARD IS WHAT COUNTS. Prove the row's statement (the work); the ties are given (YtndedphkgkmckaaDoorTie.lean); close each card by the builder's one call (the guide's Derived/Test/ToyasCard.lean, 'card_holds'). Laid BY PROGRAM, IN A SANDBOX (cutbox-door.mjs). By AI agents, Wed Nov 11 2026. No macro, syntax, notation, axiom, sorry.
-/
import Derived.Test.YtndedphkgkmckaaDoorRows
import GoSem.ClaimSeven
namespace Go.Proofs.YtndedphkgkmckaaDoor
namespace Rows

/-- THE TIED CARD OF 'arbaclaw07.PathTrees'. -/
def pathTreesCard : Claim7 := { stood := { row := pathTreesRow, standIns := [], harness := (true, "d1a363332eea8a9c23476ff5ad8b350c614cb5b5a3128b36452110dc5b23aca3"), looks := false }, kinds := [], alts := [], laidByText := true, laidKinds := [.data, .pinned], laidTests := true, laidLooks := .later }
def PathTreesCardSaid : Prop := Claim7.holds Tryd.pinned (.plain (OpenSpec.ofChange pathTreesSpec)) pathTreesCard

/-- THE TIED CARD OF 'arbaclaw07.PathKeeps'. -/
def pathKeepsCard : Claim7 := { stood := { row := pathKeepsRow, standIns := [], harness := (true, "d1a363332eea8a9c23476ff5ad8b350c614cb5b5a3128b36452110dc5b23aca3"), looks := false }, kinds := [], alts := [], laidByText := true, laidKinds := [.data, .pinned], laidTests := true, laidLooks := .later }
def PathKeepsCardSaid : Prop := Claim7.holds Tryd.pinned (.plain (OpenSpec.ofChange pathKeepsSpec)) pathKeepsCard

/-- THE TIED CARD OF 'arbaclaw07.PathParents'. -/
def pathParentsCard : Claim7 := { stood := { row := pathParentsRow, standIns := [], harness := (true, "d1a363332eea8a9c23476ff5ad8b350c614cb5b5a3128b36452110dc5b23aca3"), looks := false }, kinds := [], alts := [], laidByText := true, laidKinds := [.data, .pinned], laidTests := true, laidLooks := .later }
def PathParentsCardSaid : Prop := Claim7.holds Tryd.pinned (.plain (OpenSpec.ofChange pathParentsSpec)) pathParentsCard

/-- THE TIED CARD OF 'arbaclaw07.PathNests'. -/
def pathNestsCard : Claim7 := { stood := { row := pathNestsRow, standIns := [], harness := (true, "d1a363332eea8a9c23476ff5ad8b350c614cb5b5a3128b36452110dc5b23aca3"), looks := false }, kinds := [], alts := [], laidByText := true, laidKinds := [.data, .pinned], laidTests := true, laidLooks := .later }
def PathNestsCardSaid : Prop := Claim7.holds Tryd.pinned (.plain (OpenSpec.ofChange pathNestsSpec)) pathNestsCard

/-- THE SECOND FORM's CARD OF 'arbaclaw07.PathTrees'. -/
def pathTreesUptoCard : Claim7 := { stood := { row := pathTreesUptoRow, standIns := [], harness := (true, "d1a363332eea8a9c23476ff5ad8b350c614cb5b5a3128b36452110dc5b23aca3"), looks := false }, kinds := [], alts := [], laidByText := true, laidKinds := [.data, .pinned], laidTests := true, laidLooks := .later }
def PathTreesUptoCardSaid : Prop := Claim7.holds Tryd.pinned (.plain (OpenSpec.upto pathTreesSpec)) pathTreesUptoCard

/-- THE SECOND FORM's CARD OF 'arbaclaw07.PathKeeps'. -/
def pathKeepsUptoCard : Claim7 := { stood := { row := pathKeepsUptoRow, standIns := [], harness := (true, "d1a363332eea8a9c23476ff5ad8b350c614cb5b5a3128b36452110dc5b23aca3"), looks := false }, kinds := [], alts := [], laidByText := true, laidKinds := [.data, .pinned], laidTests := true, laidLooks := .later }
def PathKeepsUptoCardSaid : Prop := Claim7.holds Tryd.pinned (.plain (OpenSpec.upto pathKeepsSpec)) pathKeepsUptoCard

/-- THE SECOND FORM's CARD OF 'arbaclaw07.PathParents'. -/
def pathParentsUptoCard : Claim7 := { stood := { row := pathParentsUptoRow, standIns := [], harness := (true, "d1a363332eea8a9c23476ff5ad8b350c614cb5b5a3128b36452110dc5b23aca3"), looks := false }, kinds := [], alts := [], laidByText := true, laidKinds := [.data, .pinned], laidTests := true, laidLooks := .later }
def PathParentsUptoCardSaid : Prop := Claim7.holds Tryd.pinned (.plain (OpenSpec.upto pathParentsSpec)) pathParentsUptoCard

/-- THE SECOND FORM's CARD OF 'arbaclaw07.PathNests'. -/
def pathNestsUptoCard : Claim7 := { stood := { row := pathNestsUptoRow, standIns := [], harness := (true, "d1a363332eea8a9c23476ff5ad8b350c614cb5b5a3128b36452110dc5b23aca3"), looks := false }, kinds := [], alts := [], laidByText := true, laidKinds := [.data, .pinned], laidTests := true, laidLooks := .later }
def PathNestsUptoCardSaid : Prop := Claim7.holds Tryd.pinned (.plain (OpenSpec.upto pathNestsSpec)) pathNestsUptoCard
end Rows
end Go.Proofs.YtndedphkgkmckaaDoor
