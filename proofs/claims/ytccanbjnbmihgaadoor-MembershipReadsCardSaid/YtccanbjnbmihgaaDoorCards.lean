/-
  DERIVED. GIVEN WITH THE SEED: THE CARDS: each row of YtccanbjnbmihgaaDoorRows.lean that lists a variable, with what it lists TIED to the program's text (the seventh form; the later family's looks); each row that meets fmt, with fmt's text TOLD by the authors' own Lean function (tested against real Go, not proved from fmt's source: count such statements apart). THE CARD IS WHAT COUNTS. Prove the row's statement (the work); the ties are given (YtccanbjnbmihgaaDoorTie.lean); close each card by the builder's one call (the guide's Derived/Test/ToyasCard.lean, 'card_holds'). Laid BY PROGRAM, IN A SANDBOX (cutbox-door.mjs). By AI agents, Wed Nov 11 2026. No macro, syntax, notation, axiom, sorry.
-/
import Derived.Test.YtccanbjnbmihgaaDoorRows
import GoSem.ClaimSeven
namespace Go.Proofs.YtccanbjnbmihgaaDoor
namespace Rows

/-- THE TIED CARD OF 'arbaclaw12.MembershipPlays'. -/
def membershipPlaysCard : Claim7 := { stood := { row := membershipPlaysRow, standIns := [], harness := (true, "7802eaa3468c492bf05168bdc3869fa11126e9b50baf60f3180f7c50699f599c"), looks := false }, kinds := [], alts := [], laidByText := true, laidKinds := [.data, .data, .data], laidTests := true, laidLooks := .later }
def MembershipPlaysCardSaid : Prop := Claim7.holds Tryd.pinned (.plain (OpenSpec.ofChange membershipPlaysSpec)) membershipPlaysCard

/-- THE TIED CARD OF 'arbaclaw12.MembershipDays'. -/
def membershipDaysCard : Claim7 := { stood := { row := membershipDaysRow, standIns := [], harness := (true, "7802eaa3468c492bf05168bdc3869fa11126e9b50baf60f3180f7c50699f599c"), looks := false }, kinds := [], alts := [], laidByText := true, laidKinds := [.data, .data, .data], laidTests := true, laidLooks := .later }
def MembershipDaysCardSaid : Prop := Claim7.holds Tryd.pinned (.plain (OpenSpec.ofChange membershipDaysSpec)) membershipDaysCard

/-- THE TIED CARD OF 'arbaclaw12.MembershipEnds'. -/
def membershipEndsCard : Claim7 := { stood := { row := membershipEndsRow, standIns := [], harness := (true, "7802eaa3468c492bf05168bdc3869fa11126e9b50baf60f3180f7c50699f599c"), looks := false }, kinds := [], alts := [], laidByText := true, laidKinds := [.data, .data, .data], laidTests := true, laidLooks := .later }
def MembershipEndsCardSaid : Prop := Claim7.holds Tryd.pinned (.plain (OpenSpec.ofChange membershipEndsSpec)) membershipEndsCard

/-- THE TIED CARD OF 'arbaclaw12.MembershipExpires'. -/
def membershipExpiresCard : Claim7 := { stood := { row := membershipExpiresRow, standIns := [], harness := (true, "7802eaa3468c492bf05168bdc3869fa11126e9b50baf60f3180f7c50699f599c"), looks := false }, kinds := [], alts := [], laidByText := true, laidKinds := [.data, .data, .data], laidTests := true, laidLooks := .later }
def MembershipExpiresCardSaid : Prop := Claim7.holds Tryd.pinned (.plain (OpenSpec.ofChange membershipExpiresSpec)) membershipExpiresCard

/-- THE TIED CARD OF 'arbaclaw12.MembershipReplaces'. -/
def membershipReplacesCard : Claim7 := { stood := { row := membershipReplacesRow, standIns := [], harness := (true, "7802eaa3468c492bf05168bdc3869fa11126e9b50baf60f3180f7c50699f599c"), looks := false }, kinds := [], alts := [], laidByText := true, laidKinds := [.data, .data, .data], laidTests := true, laidLooks := .later }
def MembershipReplacesCardSaid : Prop := Claim7.holds Tryd.pinned (.plain (OpenSpec.ofChange membershipReplacesSpec)) membershipReplacesCard

/-- THE TIED CARD OF 'arbaclaw12.MembershipOrder'. -/
def membershipOrderCard : Claim7 := { stood := { row := membershipOrderRow, standIns := [], harness := (true, "7802eaa3468c492bf05168bdc3869fa11126e9b50baf60f3180f7c50699f599c"), looks := false }, kinds := [], alts := [], laidByText := true, laidKinds := [.data, .data, .data], laidTests := true, laidLooks := .later }
def MembershipOrderCardSaid : Prop := Claim7.holds Tryd.pinned (.plain (OpenSpec.ofChange membershipOrderSpec)) membershipOrderCard

/-- THE TIED CARD OF 'arbaclaw12.MembershipBytes'. -/
def membershipBytesCard : Claim7 := { stood := { row := membershipBytesRow, standIns := [], harness := (true, "7802eaa3468c492bf05168bdc3869fa11126e9b50baf60f3180f7c50699f599c"), looks := false }, kinds := [], alts := [], laidByText := true, laidKinds := [.data, .data, .data], laidTests := true, laidLooks := .later }
def MembershipBytesCardSaid : Prop := Claim7.holds Tryd.pinned (.plain (OpenSpec.ofChange membershipBytesSpec)) membershipBytesCard

/-- THE TIED CARD OF 'arbaclaw12.MembershipReads'. -/
def membershipReadsCard : Claim7 := { stood := { row := membershipReadsRow, standIns := [], harness := (true, "7802eaa3468c492bf05168bdc3869fa11126e9b50baf60f3180f7c50699f599c"), looks := false }, kinds := [], alts := [], laidByText := true, laidKinds := [.data, .data, .data], laidTests := true, laidLooks := .later }
def MembershipReadsCardSaid : Prop := Claim7.holds Tryd.pinned (.plain (OpenSpec.ofChange membershipReadsSpec)) membershipReadsCard

/-- THE TIED CARD OF 'arbaclaw12.MembershipNil'. -/
def membershipNilCard : Claim7 := { stood := { row := membershipNilRow, standIns := [], harness := (true, "7802eaa3468c492bf05168bdc3869fa11126e9b50baf60f3180f7c50699f599c"), looks := false }, kinds := [], alts := [], laidByText := true, laidKinds := [.data, .data, .data], laidTests := true, laidLooks := .later }
def MembershipNilCardSaid : Prop := Claim7.holds Tryd.pinned (.plain (OpenSpec.ofChange membershipNilSpec)) membershipNilCard

/-- THE SECOND FORM's CARD OF 'arbaclaw12.MembershipPlays'. -/
def membershipPlaysUptoCard : Claim7 := { stood := { row := membershipPlaysUptoRow, standIns := [], harness := (true, "7802eaa3468c492bf05168bdc3869fa11126e9b50baf60f3180f7c50699f599c"), looks := false }, kinds := [], alts := [], laidByText := true, laidKinds := [.data, .data, .data], laidTests := true, laidLooks := .later }
def MembershipPlaysUptoCardSaid : Prop := Claim7.holds Tryd.pinned (.plain (OpenSpec.upto membershipPlaysSpec)) membershipPlaysUptoCard

/-- THE SECOND FORM's CARD OF 'arbaclaw12.MembershipDays'. -/
def membershipDaysUptoCard : Claim7 := { stood := { row := membershipDaysUptoRow, standIns := [], harness := (true, "7802eaa3468c492bf05168bdc3869fa11126e9b50baf60f3180f7c50699f599c"), looks := false }, kinds := [], alts := [], laidByText := true, laidKinds := [.data, .data, .data], laidTests := true, laidLooks := .later }
def MembershipDaysUptoCardSaid : Prop := Claim7.holds Tryd.pinned (.plain (OpenSpec.upto membershipDaysSpec)) membershipDaysUptoCard

/-- THE SECOND FORM's CARD OF 'arbaclaw12.MembershipEnds'. -/
def membershipEndsUptoCard : Claim7 := { stood := { row := membershipEndsUptoRow, standIns := [], harness := (true, "7802eaa3468c492bf05168bdc3869fa11126e9b50baf60f3180f7c50699f599c"), looks := false }, kinds := [], alts := [], laidByText := true, laidKinds := [.data, .data, .data], laidTests := true, laidLooks := .later }
def MembershipEndsUptoCardSaid : Prop := Claim7.holds Tryd.pinned (.plain (OpenSpec.upto membershipEndsSpec)) membershipEndsUptoCard

/-- THE SECOND FORM's CARD OF 'arbaclaw12.MembershipExpires'. -/
def membershipExpiresUptoCard : Claim7 := { stood := { row := membershipExpiresUptoRow, standIns := [], harness := (true, "7802eaa3468c492bf05168bdc3869fa11126e9b50baf60f3180f7c50699f599c"), looks := false }, kinds := [], alts := [], laidByText := true, laidKinds := [.data, .data, .data], laidTests := true, laidLooks := .later }
def MembershipExpiresUptoCardSaid : Prop := Claim7.holds Tryd.pinned (.plain (OpenSpec.upto membershipExpiresSpec)) membershipExpiresUptoCard

/-- THE SECOND FORM's CARD OF 'arbaclaw12.MembershipReplaces'. -/
def membershipReplacesUptoCard : Claim7 := { stood := { row := membershipReplacesUptoRow, standIns := [], harness := (true, "7802eaa3468c492bf05168bdc3869fa11126e9b50baf60f3180f7c50699f599c"), looks := false }, kinds := [], alts := [], laidByText := true, laidKinds := [.data, .data, .data], laidTests := true, laidLooks := .later }
def MembershipReplacesUptoCardSaid : Prop := Claim7.holds Tryd.pinned (.plain (OpenSpec.upto membershipReplacesSpec)) membershipReplacesUptoCard

/-- THE SECOND FORM's CARD OF 'arbaclaw12.MembershipOrder'. -/
def membershipOrderUptoCard : Claim7 := { stood := { row := membershipOrderUptoRow, standIns := [], harness := (true, "7802eaa3468c492bf05168bdc3869fa11126e9b50baf60f3180f7c50699f599c"), looks := false }, kinds := [], alts := [], laidByText := true, laidKinds := [.data, .data, .data], laidTests := true, laidLooks := .later }
def MembershipOrderUptoCardSaid : Prop := Claim7.holds Tryd.pinned (.plain (OpenSpec.upto membershipOrderSpec)) membershipOrderUptoCard

/-- THE SECOND FORM's CARD OF 'arbaclaw12.MembershipBytes'. -/
def membershipBytesUptoCard : Claim7 := { stood := { row := membershipBytesUptoRow, standIns := [], harness := (true, "7802eaa3468c492bf05168bdc3869fa11126e9b50baf60f3180f7c50699f599c"), looks := false }, kinds := [], alts := [], laidByText := true, laidKinds := [.data, .data, .data], laidTests := true, laidLooks := .later }
def MembershipBytesUptoCardSaid : Prop := Claim7.holds Tryd.pinned (.plain (OpenSpec.upto membershipBytesSpec)) membershipBytesUptoCard

/-- THE SECOND FORM's CARD OF 'arbaclaw12.MembershipReads'. -/
def membershipReadsUptoCard : Claim7 := { stood := { row := membershipReadsUptoRow, standIns := [], harness := (true, "7802eaa3468c492bf05168bdc3869fa11126e9b50baf60f3180f7c50699f599c"), looks := false }, kinds := [], alts := [], laidByText := true, laidKinds := [.data, .data, .data], laidTests := true, laidLooks := .later }
def MembershipReadsUptoCardSaid : Prop := Claim7.holds Tryd.pinned (.plain (OpenSpec.upto membershipReadsSpec)) membershipReadsUptoCard

/-- THE SECOND FORM's CARD OF 'arbaclaw12.MembershipNil'. -/
def membershipNilUptoCard : Claim7 := { stood := { row := membershipNilUptoRow, standIns := [], harness := (true, "7802eaa3468c492bf05168bdc3869fa11126e9b50baf60f3180f7c50699f599c"), looks := false }, kinds := [], alts := [], laidByText := true, laidKinds := [.data, .data, .data], laidTests := true, laidLooks := .later }
def MembershipNilUptoCardSaid : Prop := Claim7.holds Tryd.pinned (.plain (OpenSpec.upto membershipNilSpec)) membershipNilUptoCard
end Rows
end Go.Proofs.YtccanbjnbmihgaaDoor
