/-
  NARROWER THAN 'FOR EVERY INPUT', by the rows' own cells (each row's printed sentence says how): CrcCombines: laid · CrcJoins: laid · CrcAssociates: laid · CrcLinear: laid · CrcFrames: laid · CrcScans: laid · CrcTorn: laid · CrcSets: laid.
  DERIVED. THE GIVEN ROWS OF THIS SEAT. 8 by the template 'for every input the law returns true; each argument reads behind the call as it read before'; 0 by the template 'total and deterministic' (their statements: YtnjmffmdlaobdacDoorTotals.lean).
  GIVEN WITH THE SEED: the statements are not yours to turn. If you find one false, say at which input.
  Laid BY PROGRAM, IN A SANDBOX (cutbox-rows.mjs): the forced cells as the released guide's own fill.sh prints them over the translation 3e06961917641c64… (all of the seat's roots in one cut). By AI agents, Wed Nov 11 2026. No macro, syntax, notation, axiom, sorry.
-/
import Derived.Test.YtnjmffmdlaobdacDoorChecked
import GoSem.Claim
import GoSem.ClaimJoined
import GoSem.ClaimMapViews
import Derived.JoinedTies
import Derived.KernelRfl
namespace Go.Proofs.YtnjmffmdlaobdacDoor
/- THE CELL 'sum', in the pinned program and in every row, IS THE sha256 OF THE DUMP (.gsa) THAT YtnjmffmdlaobdacDoorProg.lean LOADS. Nothing in Lean hashes anything: it is a label: what it is worth is what the hold of that sum in a sandbox is worth. -/
noncomputable def Tryd.pinned : Pinned := { name := "ytnjmffmdlaobdacdoor", sum := "3e06961917641c642b4aae994a2b7cd8dbcb62204fc3113a7c669c5ab11eb1ab", checked := Tryd.checked }
namespace Rows
def none {H : Type} : Left H := { results := [], args := [] }

/- WHAT THE LISTED PACKAGE-LEVEL VARIABLES READ AS WHEN THE CALL BEGINS. Each datum BY PROGRAM (the guide's laid-datum.mjs) off the statement by which the dump's own 'gosem.cut.vars' lays the variable. In a bare row this is a premise. The card (YtnjmffmdlaobdacDoorCards.lean) ties it to the program's text. -/
def laid_arbac_crc_fourSteps {H : Type} : DataW H := .agg [.lit (.int .u32 0), .lit (.int .u32 274646895), .lit (.int .u32 549293790), .lit (.int .u32 820201905), .lit (.int .u32 1098587580), .lit (.int .u32 1361435347), .lit (.int .u32 1640403810), .lit (.int .u32 1905808397), .lit (.int .u32 2197175160), .lit (.int .u32 2460548119), .lit (.int .u32 2722870694), .lit (.int .u32 2987750089), .lit (.int .u32 3280807620), .lit (.int .u32 3553878443), .lit (.int .u32 3811616794), .lit (.int .u32 4084100981)]

/-- 'arbaclaw04.CrcCombines': WHATEVER THE INPUT: true; the input reads as it did. -/
def crcCombinesSpec : ChangeSpec := { name := "crcCombines", fn := fun _ => fun
  | [d1, d2, d3] => { results := [.lit (.bool true)], args := [d1, d2, d3] }
  | _ => none }
def crcCombinesRow : OpenClaim := { program := "ytnjmffmdlaobdacdoor", sum := "3e06961917641c642b4aae994a2b7cd8dbcb62204fc3113a7c669c5ab11eb1ab", func := "arbac/arbaclaw04.CrcCombines", spec := "crcCombines", named := ["arbac/crc.fourSteps"], apart := false, laid := [("arbac/crc.fourSteps", laid_arbac_crc_fourSteps)] }
def CrcCombinesSaid : Prop := crcCombinesRow.holds Tryd.pinned (OpenSpec.ofChange crcCombinesSpec)

/-- ITS FALSE NEIGHBOUR: 'it returns false'. Refute it at one input. -/
def crcCombinesWrong : ChangeSpec := { name := "crcCombines", fn := fun _ => fun
  | [d1, d2, d3] => { results := [.lit (.bool false)], args := [d1, d2, d3] }
  | _ => none }
def CrcCombinesWrongFalsely : Prop := crcCombinesRow.holds Tryd.pinned (OpenSpec.ofChange crcCombinesWrong)

/-- 'arbaclaw04.CrcJoins': WHATEVER THE INPUT: true; the input reads as it did. -/
def crcJoinsSpec : ChangeSpec := { name := "crcJoins", fn := fun _ => fun
  | [d1, d2] => { results := [.lit (.bool true)], args := [d1, d2] }
  | _ => none }
def crcJoinsRow : OpenClaim := { program := "ytnjmffmdlaobdacdoor", sum := "3e06961917641c642b4aae994a2b7cd8dbcb62204fc3113a7c669c5ab11eb1ab", func := "arbac/arbaclaw04.CrcJoins", spec := "crcJoins", named := ["arbac/crc.fourSteps"], apart := false, laid := [("arbac/crc.fourSteps", laid_arbac_crc_fourSteps)] }
def CrcJoinsSaid : Prop := crcJoinsRow.holds Tryd.pinned (OpenSpec.ofChange crcJoinsSpec)

/-- ITS FALSE NEIGHBOUR: 'it returns false'. Refute it at one input. -/
def crcJoinsWrong : ChangeSpec := { name := "crcJoins", fn := fun _ => fun
  | [d1, d2] => { results := [.lit (.bool false)], args := [d1, d2] }
  | _ => none }
def CrcJoinsWrongFalsely : Prop := crcJoinsRow.holds Tryd.pinned (OpenSpec.ofChange crcJoinsWrong)

/-- 'arbaclaw04.CrcAssociates': WHATEVER THE INPUT: true; the input reads as it did. -/
def crcAssociatesSpec : ChangeSpec := { name := "crcAssociates", fn := fun _ => fun
  | [d1, d2, d3] => { results := [.lit (.bool true)], args := [d1, d2, d3] }
  | _ => none }
def crcAssociatesRow : OpenClaim := { program := "ytnjmffmdlaobdacdoor", sum := "3e06961917641c642b4aae994a2b7cd8dbcb62204fc3113a7c669c5ab11eb1ab", func := "arbac/arbaclaw04.CrcAssociates", spec := "crcAssociates", named := ["arbac/crc.fourSteps"], apart := false, laid := [("arbac/crc.fourSteps", laid_arbac_crc_fourSteps)] }
def CrcAssociatesSaid : Prop := crcAssociatesRow.holds Tryd.pinned (OpenSpec.ofChange crcAssociatesSpec)

/-- ITS FALSE NEIGHBOUR: 'it returns false'. Refute it at one input. -/
def crcAssociatesWrong : ChangeSpec := { name := "crcAssociates", fn := fun _ => fun
  | [d1, d2, d3] => { results := [.lit (.bool false)], args := [d1, d2, d3] }
  | _ => none }
def CrcAssociatesWrongFalsely : Prop := crcAssociatesRow.holds Tryd.pinned (OpenSpec.ofChange crcAssociatesWrong)

/-- 'arbaclaw04.CrcLinear': WHATEVER THE INPUT: true; the input reads as it did. -/
def crcLinearSpec : ChangeSpec := { name := "crcLinear", fn := fun _ => fun
  | [d1, d2, d3] => { results := [.lit (.bool true)], args := [d1, d2, d3] }
  | _ => none }
def crcLinearRow : OpenClaim := { program := "ytnjmffmdlaobdacdoor", sum := "3e06961917641c642b4aae994a2b7cd8dbcb62204fc3113a7c669c5ab11eb1ab", func := "arbac/arbaclaw04.CrcLinear", spec := "crcLinear", named := ["arbac/crc.fourSteps"], apart := false, laid := [("arbac/crc.fourSteps", laid_arbac_crc_fourSteps)] }
def CrcLinearSaid : Prop := crcLinearRow.holds Tryd.pinned (OpenSpec.ofChange crcLinearSpec)

/-- ITS FALSE NEIGHBOUR: 'it returns false'. Refute it at one input. -/
def crcLinearWrong : ChangeSpec := { name := "crcLinear", fn := fun _ => fun
  | [d1, d2, d3] => { results := [.lit (.bool false)], args := [d1, d2, d3] }
  | _ => none }
def CrcLinearWrongFalsely : Prop := crcLinearRow.holds Tryd.pinned (OpenSpec.ofChange crcLinearWrong)

/-- 'arbaclaw04.CrcFrames': WHATEVER THE INPUT: true; the input reads as it did. -/
def crcFramesSpec : ChangeSpec := { name := "crcFrames", fn := fun _ => fun
  | [d1, d2, d3] => { results := [.lit (.bool true)], args := [d1, d2, d3] }
  | _ => none }
def crcFramesRow : OpenClaim := { program := "ytnjmffmdlaobdacdoor", sum := "3e06961917641c642b4aae994a2b7cd8dbcb62204fc3113a7c669c5ab11eb1ab", func := "arbac/arbaclaw04.CrcFrames", spec := "crcFrames", named := ["arbac/crc.fourSteps"], apart := false, laid := [("arbac/crc.fourSteps", laid_arbac_crc_fourSteps)] }
def CrcFramesSaid : Prop := crcFramesRow.holds Tryd.pinned (OpenSpec.ofChange crcFramesSpec)

/-- ITS FALSE NEIGHBOUR: 'it returns false'. Refute it at one input. -/
def crcFramesWrong : ChangeSpec := { name := "crcFrames", fn := fun _ => fun
  | [d1, d2, d3] => { results := [.lit (.bool false)], args := [d1, d2, d3] }
  | _ => none }
def CrcFramesWrongFalsely : Prop := crcFramesRow.holds Tryd.pinned (OpenSpec.ofChange crcFramesWrong)

/-- 'arbaclaw04.CrcScans': WHATEVER THE INPUT: true; the input reads as it did. -/
def crcScansSpec : ChangeSpec := { name := "crcScans", fn := fun _ => fun
  | [d1, d2, d3] => { results := [.lit (.bool true)], args := [d1, d2, d3] }
  | _ => none }
def crcScansRow : OpenClaim := { program := "ytnjmffmdlaobdacdoor", sum := "3e06961917641c642b4aae994a2b7cd8dbcb62204fc3113a7c669c5ab11eb1ab", func := "arbac/arbaclaw04.CrcScans", spec := "crcScans", named := ["arbac/crc.fourSteps"], apart := false, laid := [("arbac/crc.fourSteps", laid_arbac_crc_fourSteps)] }
def CrcScansSaid : Prop := crcScansRow.holds Tryd.pinned (OpenSpec.ofChange crcScansSpec)

/-- ITS FALSE NEIGHBOUR: 'it returns false'. Refute it at one input. -/
def crcScansWrong : ChangeSpec := { name := "crcScans", fn := fun _ => fun
  | [d1, d2, d3] => { results := [.lit (.bool false)], args := [d1, d2, d3] }
  | _ => none }
def CrcScansWrongFalsely : Prop := crcScansRow.holds Tryd.pinned (OpenSpec.ofChange crcScansWrong)

/-- 'arbaclaw04.CrcTorn': WHATEVER THE INPUT: true; the input reads as it did. -/
def crcTornSpec : ChangeSpec := { name := "crcTorn", fn := fun _ => fun
  | [d1, d2] => { results := [.lit (.bool true)], args := [d1, d2] }
  | _ => none }
def crcTornRow : OpenClaim := { program := "ytnjmffmdlaobdacdoor", sum := "3e06961917641c642b4aae994a2b7cd8dbcb62204fc3113a7c669c5ab11eb1ab", func := "arbac/arbaclaw04.CrcTorn", spec := "crcTorn", named := ["arbac/crc.fourSteps"], apart := false, laid := [("arbac/crc.fourSteps", laid_arbac_crc_fourSteps)] }
def CrcTornSaid : Prop := crcTornRow.holds Tryd.pinned (OpenSpec.ofChange crcTornSpec)

/-- ITS FALSE NEIGHBOUR: 'it returns false'. Refute it at one input. -/
def crcTornWrong : ChangeSpec := { name := "crcTorn", fn := fun _ => fun
  | [d1, d2] => { results := [.lit (.bool false)], args := [d1, d2] }
  | _ => none }
def CrcTornWrongFalsely : Prop := crcTornRow.holds Tryd.pinned (OpenSpec.ofChange crcTornWrong)

/-- 'arbaclaw04.CrcSets': WHATEVER THE INPUT: true; the input reads as it did. -/
def crcSetsSpec : ChangeSpec := { name := "crcSets", fn := fun _ => fun
  | [d] => { results := [.lit (.bool true)], args := [d] }
  | _ => none }
def crcSetsRow : OpenClaim := { program := "ytnjmffmdlaobdacdoor", sum := "3e06961917641c642b4aae994a2b7cd8dbcb62204fc3113a7c669c5ab11eb1ab", func := "arbac/arbaclaw04.CrcSets", spec := "crcSets", named := ["arbac/crc.fourSteps"], apart := false, laid := [("arbac/crc.fourSteps", laid_arbac_crc_fourSteps)] }
def CrcSetsSaid : Prop := crcSetsRow.holds Tryd.pinned (OpenSpec.ofChange crcSetsSpec)

/-- ITS FALSE NEIGHBOUR: 'it returns false'. Refute it at one input. -/
def crcSetsWrong : ChangeSpec := { name := "crcSets", fn := fun _ => fun
  | [d] => { results := [.lit (.bool false)], args := [d] }
  | _ => none }
def CrcSetsWrongFalsely : Prop := crcSetsRow.holds Tryd.pinned (OpenSpec.ofChange crcSetsWrong)

/- THE SECOND FORM. 'bulk': how many values and letters a reading holds, each counted each time it is reached (what is shared counts as often as it is met; a slice's spare places count too). A statement '..UptoSaid' is the law's where the arguments, and the package variables that the reading takes, are together of bulk at most 1048576: NARROWER than '..Said'. Prove '..Said' where nothing that the law and all that it calls make is longer than what came in: it says more and counts as full. Else prove '..UptoSaid'. A law counts once. -/
mutual
def uptoBulk {H : Type} : DataW H → Nat
  | .lit (.string bytes) => bytes.length + 1
  | .lit _ => 1
  | .nil => 1
  | .ptr d => uptoBulk d + 1
  | .slice elems spare => uptoBulkAll elems + uptoBulkAll spare + 1
  | .agg parts => uptoBulkAll parts + 1
  | .iface _ d => uptoBulk d + 1
  | .map entries => uptoBulkEntries entries + 1
  | .held _ => 1
def uptoBulkAll {H : Type} : List (DataW H) → Nat
  | [] => 0
  | d :: r => uptoBulk d + uptoBulkAll r
def uptoBulkEntries {H : Type} : List (Lit × DataW H) → Nat
  | [] => 0
  | x :: r => uptoBulkEntry x + uptoBulkEntries r
def uptoBulkEntry {H : Type} : Lit × DataW H → Nat
  | (.string bytes, d) => bytes.length + uptoBulk d + 1
  | (_, d) => uptoBulk d + 1
 end
def uptoSmall : (H : Type) → List (DataW H) → Bool := fun _ ds => decide (uptoBulkAll ds ≤ 1048576)
def OpenSpec.upto (s : _root_.Go.ChangeSpec) : _root_.Go.OpenSpec := { _root_.Go.OpenSpec.ofChange s with cond := some uptoSmall }

/-- 'arbaclaw04.CrcCombines', WHERE WHAT IT READS IS OF BULK AT MOST 1048576: true; the input reads as it did. -/
def crcCombinesUptoRow : OpenClaim := { program := "ytnjmffmdlaobdacdoor", sum := "3e06961917641c642b4aae994a2b7cd8dbcb62204fc3113a7c669c5ab11eb1ab", func := "arbac/arbaclaw04.CrcCombines", spec := "crcCombines", named := ["arbac/crc.fourSteps"], apart := false, laid := [("arbac/crc.fourSteps", laid_arbac_crc_fourSteps)], narrowed := true }
def CrcCombinesUptoSaid : Prop := crcCombinesUptoRow.holds Tryd.pinned (OpenSpec.upto crcCombinesSpec)

/-- 'arbaclaw04.CrcJoins', WHERE WHAT IT READS IS OF BULK AT MOST 1048576: true; the input reads as it did. -/
def crcJoinsUptoRow : OpenClaim := { program := "ytnjmffmdlaobdacdoor", sum := "3e06961917641c642b4aae994a2b7cd8dbcb62204fc3113a7c669c5ab11eb1ab", func := "arbac/arbaclaw04.CrcJoins", spec := "crcJoins", named := ["arbac/crc.fourSteps"], apart := false, laid := [("arbac/crc.fourSteps", laid_arbac_crc_fourSteps)], narrowed := true }
def CrcJoinsUptoSaid : Prop := crcJoinsUptoRow.holds Tryd.pinned (OpenSpec.upto crcJoinsSpec)

/-- 'arbaclaw04.CrcAssociates', WHERE WHAT IT READS IS OF BULK AT MOST 1048576: true; the input reads as it did. -/
def crcAssociatesUptoRow : OpenClaim := { program := "ytnjmffmdlaobdacdoor", sum := "3e06961917641c642b4aae994a2b7cd8dbcb62204fc3113a7c669c5ab11eb1ab", func := "arbac/arbaclaw04.CrcAssociates", spec := "crcAssociates", named := ["arbac/crc.fourSteps"], apart := false, laid := [("arbac/crc.fourSteps", laid_arbac_crc_fourSteps)], narrowed := true }
def CrcAssociatesUptoSaid : Prop := crcAssociatesUptoRow.holds Tryd.pinned (OpenSpec.upto crcAssociatesSpec)

/-- 'arbaclaw04.CrcLinear', WHERE WHAT IT READS IS OF BULK AT MOST 1048576: true; the input reads as it did. -/
def crcLinearUptoRow : OpenClaim := { program := "ytnjmffmdlaobdacdoor", sum := "3e06961917641c642b4aae994a2b7cd8dbcb62204fc3113a7c669c5ab11eb1ab", func := "arbac/arbaclaw04.CrcLinear", spec := "crcLinear", named := ["arbac/crc.fourSteps"], apart := false, laid := [("arbac/crc.fourSteps", laid_arbac_crc_fourSteps)], narrowed := true }
def CrcLinearUptoSaid : Prop := crcLinearUptoRow.holds Tryd.pinned (OpenSpec.upto crcLinearSpec)

/-- 'arbaclaw04.CrcFrames', WHERE WHAT IT READS IS OF BULK AT MOST 1048576: true; the input reads as it did. -/
def crcFramesUptoRow : OpenClaim := { program := "ytnjmffmdlaobdacdoor", sum := "3e06961917641c642b4aae994a2b7cd8dbcb62204fc3113a7c669c5ab11eb1ab", func := "arbac/arbaclaw04.CrcFrames", spec := "crcFrames", named := ["arbac/crc.fourSteps"], apart := false, laid := [("arbac/crc.fourSteps", laid_arbac_crc_fourSteps)], narrowed := true }
def CrcFramesUptoSaid : Prop := crcFramesUptoRow.holds Tryd.pinned (OpenSpec.upto crcFramesSpec)

/-- 'arbaclaw04.CrcScans', WHERE WHAT IT READS IS OF BULK AT MOST 1048576: true; the input reads as it did. -/
def crcScansUptoRow : OpenClaim := { program := "ytnjmffmdlaobdacdoor", sum := "3e06961917641c642b4aae994a2b7cd8dbcb62204fc3113a7c669c5ab11eb1ab", func := "arbac/arbaclaw04.CrcScans", spec := "crcScans", named := ["arbac/crc.fourSteps"], apart := false, laid := [("arbac/crc.fourSteps", laid_arbac_crc_fourSteps)], narrowed := true }
def CrcScansUptoSaid : Prop := crcScansUptoRow.holds Tryd.pinned (OpenSpec.upto crcScansSpec)

/-- 'arbaclaw04.CrcTorn', WHERE WHAT IT READS IS OF BULK AT MOST 1048576: true; the input reads as it did. -/
def crcTornUptoRow : OpenClaim := { program := "ytnjmffmdlaobdacdoor", sum := "3e06961917641c642b4aae994a2b7cd8dbcb62204fc3113a7c669c5ab11eb1ab", func := "arbac/arbaclaw04.CrcTorn", spec := "crcTorn", named := ["arbac/crc.fourSteps"], apart := false, laid := [("arbac/crc.fourSteps", laid_arbac_crc_fourSteps)], narrowed := true }
def CrcTornUptoSaid : Prop := crcTornUptoRow.holds Tryd.pinned (OpenSpec.upto crcTornSpec)

/-- 'arbaclaw04.CrcSets', WHERE WHAT IT READS IS OF BULK AT MOST 1048576: true; the input reads as it did. -/
def crcSetsUptoRow : OpenClaim := { program := "ytnjmffmdlaobdacdoor", sum := "3e06961917641c642b4aae994a2b7cd8dbcb62204fc3113a7c669c5ab11eb1ab", func := "arbac/arbaclaw04.CrcSets", spec := "crcSets", named := ["arbac/crc.fourSteps"], apart := false, laid := [("arbac/crc.fourSteps", laid_arbac_crc_fourSteps)], narrowed := true }
def CrcSetsUptoSaid : Prop := crcSetsUptoRow.holds Tryd.pinned (OpenSpec.upto crcSetsSpec)

end Rows
end Go.Proofs.YtnjmffmdlaobdacDoor
