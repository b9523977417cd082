/-
  DERIVED. GIVEN WITH THE SEED: THE CARDS: each row of YtnnakllgfaaejaaGreatDoorRows.lean that lists a variable, with what it lists TIED to the program's text (the seventh form; the later family's looks); each row that meets fmt, with fmt's text TOLD by the authors' own Lean function (tested against real Go, not proved from fmt's source: count such statements apart). THE CARD IS WHAT COUNTS. Prove the row's statement (the work); the ties are given (YtnnakllgfaaejaaGreatDoorTie.lean); close each card by the builder's one call (the guide's Derived/Test/ToyasCard.lean, 'card_holds'). Laid BY PROGRAM, IN A SANDBOX (cutbox-door.mjs). By AI agents, Wed Nov 11 2026. No macro, syntax, notation, axiom, sorry.
-/
import Derived.Test.YtnnakllgfaaejaaGreatDoorRows
import GoSem.ClaimSeven
namespace Go.Proofs.YtnnakllgfaaejaaGreatDoor
namespace Rows

/-- THE TIED CARD OF 'arbaclaw11.PermissionNormal'. -/
def permissionNormalCard : Claim7 := { stood := { row := permissionNormalRow, standIns := [], harness := (true, "05334a8cd88b1a29433e55cf4d8cef7cfd63da85cf4cdcd376682693041ce0a2"), looks := false }, kinds := [], alts := [], laidByText := true, laidKinds := [.data, .pinned], laidTests := true, laidLooks := .later }
def PermissionNormalCardSaid : Prop := Claim7.holds Tryz.pinned (.plain (OpenSpec.ofChange permissionNormalSpec)) permissionNormalCard

/-- THE TIED CARD OF 'arbaclaw11.PermissionSame'. -/
def permissionSameCard : Claim7 := { stood := { row := permissionSameRow, standIns := [], harness := (true, "05334a8cd88b1a29433e55cf4d8cef7cfd63da85cf4cdcd376682693041ce0a2"), looks := false }, kinds := [], alts := [], laidByText := true, laidKinds := [.data, .pinned], laidTests := true, laidLooks := .later }
def PermissionSameCardSaid : Prop := Claim7.holds Tryz.pinned (.plain (OpenSpec.ofChange permissionSameSpec)) permissionSameCard

/-- THE TIED CARD OF 'arbaclaw11.PermissionMinus'. -/
def permissionMinusCard : Claim7 := { stood := { row := permissionMinusRow, standIns := [], harness := (true, "05334a8cd88b1a29433e55cf4d8cef7cfd63da85cf4cdcd376682693041ce0a2"), looks := false }, kinds := [], alts := [], laidByText := true, laidKinds := [.data, .pinned], laidTests := true, laidLooks := .later }
def PermissionMinusCardSaid : Prop := Claim7.holds Tryz.pinned (.plain (OpenSpec.ofChange permissionMinusSpec)) permissionMinusCard

/-- THE TIED CARD OF 'arbaclaw11.PermissionCommon'. -/
def permissionCommonCard : Claim7 := { stood := { row := permissionCommonRow, standIns := [], harness := (true, "05334a8cd88b1a29433e55cf4d8cef7cfd63da85cf4cdcd376682693041ce0a2"), looks := false }, kinds := [], alts := [], laidByText := true, laidKinds := [.data, .pinned], laidTests := true, laidLooks := .later }
def PermissionCommonCardSaid : Prop := Claim7.holds Tryz.pinned (.plain (OpenSpec.ofChange permissionCommonSpec)) permissionCommonCard

/-- THE SECOND FORM's CARD OF 'arbaclaw11.PermissionNormal'. -/
def permissionNormalUptoCard : Claim7 := { stood := { row := permissionNormalUptoRow, standIns := [], harness := (true, "05334a8cd88b1a29433e55cf4d8cef7cfd63da85cf4cdcd376682693041ce0a2"), looks := false }, kinds := [], alts := [], laidByText := true, laidKinds := [.data, .pinned], laidTests := true, laidLooks := .later }
def PermissionNormalUptoCardSaid : Prop := Claim7.holds Tryz.pinned (.plain (OpenSpec.upto permissionNormalSpec)) permissionNormalUptoCard

/-- THE SECOND FORM's CARD OF 'arbaclaw11.PermissionSame'. -/
def permissionSameUptoCard : Claim7 := { stood := { row := permissionSameUptoRow, standIns := [], harness := (true, "05334a8cd88b1a29433e55cf4d8cef7cfd63da85cf4cdcd376682693041ce0a2"), looks := false }, kinds := [], alts := [], laidByText := true, laidKinds := [.data, .pinned], laidTests := true, laidLooks := .later }
def PermissionSameUptoCardSaid : Prop := Claim7.holds Tryz.pinned (.plain (OpenSpec.upto permissionSameSpec)) permissionSameUptoCard

/-- THE SECOND FORM's CARD OF 'arbaclaw11.PermissionMinus'. -/
def permissionMinusUptoCard : Claim7 := { stood := { row := permissionMinusUptoRow, standIns := [], harness := (true, "05334a8cd88b1a29433e55cf4d8cef7cfd63da85cf4cdcd376682693041ce0a2"), looks := false }, kinds := [], alts := [], laidByText := true, laidKinds := [.data, .pinned], laidTests := true, laidLooks := .later }
def PermissionMinusUptoCardSaid : Prop := Claim7.holds Tryz.pinned (.plain (OpenSpec.upto permissionMinusSpec)) permissionMinusUptoCard

/-- THE SECOND FORM's CARD OF 'arbaclaw11.PermissionCommon'. -/
def permissionCommonUptoCard : Claim7 := { stood := { row := permissionCommonUptoRow, standIns := [], harness := (true, "05334a8cd88b1a29433e55cf4d8cef7cfd63da85cf4cdcd376682693041ce0a2"), looks := false }, kinds := [], alts := [], laidByText := true, laidKinds := [.data, .pinned], laidTests := true, laidLooks := .later }
def PermissionCommonUptoCardSaid : Prop := Claim7.holds Tryz.pinned (.plain (OpenSpec.upto permissionCommonSpec)) permissionCommonUptoCard
end Rows
end Go.Proofs.YtnnakllgfaaejaaGreatDoor
