/-
  No cell of these rows narrows 'for every input' (looked for: loops, veiled, ifaces, maps, wideKeys, modest, calm, conditions, laid).
  DERIVED. THE GIVEN ROWS OF THIS SEAT. 4 by the template 'for every input the law returns true; each argument reads behind the call as it read before'; 0 by the template 'total and deterministic' (their statements: YtmhfbcapmlofbaaTotals.lean).
  GIVEN WITH THE SEED: the statements are not yours to turn. If you find one false, say at which input.
  Laid BY PROGRAM, IN A SANDBOX (cutbox-rows.mjs): the forced cells as the released guide's own fill.sh prints them over the translation 51eb19a0c4a77f86… (all of the seat's roots in one cut). By AI agents, Wed Nov 11 2026. No macro, syntax, notation, axiom, sorry.
-/
import Derived.Test.YtmhfbcapmlofbaaChecked
import GoSem.Claim
import GoSem.ClaimJoined
import GoSem.ClaimMapViews
import Derived.JoinedTies
import Derived.KernelRfl
namespace Go.Proofs.Ytmhfbcapmlofbaa
/- THE CELL 'sum', in the pinned program and in every row, IS THE sha256 OF THE DUMP (.gsa) THAT YtmhfbcapmlofbaaProg.lean LOADS. Nothing in Lean hashes anything: it is a label: what it is worth is what the hold of that sum in a sandbox is worth. -/
noncomputable def Try.pinned : Pinned := { name := "ytmhfbcapmlofbaa", sum := "51eb19a0c4a77f8624badeaa14346378e6fc9165d9623b60a3901306f60fe16f", checked := Try.checked }
namespace Rows
def none {H : Type} : Left H := { results := [], args := [] }

/-- 'arbaclaw08.NamesKeywords': WHATEVER THE INPUT: true; the input reads as it did. -/
def namesKeywordsSpec : ChangeSpec := { name := "namesKeywords", fn := fun _ => fun
  | [d] => { results := [.lit (.bool true)], args := [d] }
  | _ => none }
def namesKeywordsRow : OpenClaim := { program := "ytmhfbcapmlofbaa", sum := "51eb19a0c4a77f8624badeaa14346378e6fc9165d9623b60a3901306f60fe16f", func := "arbac/arbaclaw08.NamesKeywords", spec := "namesKeywords", apart := false }
def NamesKeywordsSaid : Prop := namesKeywordsRow.holds Try.pinned (OpenSpec.ofChange namesKeywordsSpec)

/-- ITS FALSE NEIGHBOUR: 'it returns false'. Refute it at one input. -/
def namesKeywordsWrong : ChangeSpec := { name := "namesKeywords", fn := fun _ => fun
  | [d] => { results := [.lit (.bool false)], args := [d] }
  | _ => none }
def NamesKeywordsWrongFalsely : Prop := namesKeywordsRow.holds Try.pinned (OpenSpec.ofChange namesKeywordsWrong)

/-- 'arbaclaw08.NamesBytes': WHATEVER THE INPUT: true; the input reads as it did. -/
def namesBytesSpec : ChangeSpec := { name := "namesBytes", fn := fun _ => fun
  | [d] => { results := [.lit (.bool true)], args := [d] }
  | _ => none }
def namesBytesRow : OpenClaim := { program := "ytmhfbcapmlofbaa", sum := "51eb19a0c4a77f8624badeaa14346378e6fc9165d9623b60a3901306f60fe16f", func := "arbac/arbaclaw08.NamesBytes", spec := "namesBytes", apart := false }
def NamesBytesSaid : Prop := namesBytesRow.holds Try.pinned (OpenSpec.ofChange namesBytesSpec)

/-- ITS FALSE NEIGHBOUR: 'it returns false'. Refute it at one input. -/
def namesBytesWrong : ChangeSpec := { name := "namesBytes", fn := fun _ => fun
  | [d] => { results := [.lit (.bool false)], args := [d] }
  | _ => none }
def NamesBytesWrongFalsely : Prop := namesBytesRow.holds Try.pinned (OpenSpec.ofChange namesBytesWrong)

/-- 'arbaclaw08.NamesReads': WHATEVER THE INPUT: true; the input reads as it did. -/
def namesReadsSpec : ChangeSpec := { name := "namesReads", fn := fun _ => fun
  | [d1, d2] => { results := [.lit (.bool true)], args := [d1, d2] }
  | _ => none }
def namesReadsRow : OpenClaim := { program := "ytmhfbcapmlofbaa", sum := "51eb19a0c4a77f8624badeaa14346378e6fc9165d9623b60a3901306f60fe16f", func := "arbac/arbaclaw08.NamesReads", spec := "namesReads", apart := false }
def NamesReadsSaid : Prop := namesReadsRow.holds Try.pinned (OpenSpec.ofChange namesReadsSpec)

/-- ITS FALSE NEIGHBOUR: 'it returns false'. Refute it at one input. -/
def namesReadsWrong : ChangeSpec := { name := "namesReads", fn := fun _ => fun
  | [d1, d2] => { results := [.lit (.bool false)], args := [d1, d2] }
  | _ => none }
def NamesReadsWrongFalsely : Prop := namesReadsRow.holds Try.pinned (OpenSpec.ofChange namesReadsWrong)

/-- 'arbaclaw08.NamesEquals': WHATEVER THE INPUT: true; the input reads as it did. -/
def namesEqualsSpec : ChangeSpec := { name := "namesEquals", fn := fun _ => fun
  | [d1, d2] => { results := [.lit (.bool true)], args := [d1, d2] }
  | _ => none }
def namesEqualsRow : OpenClaim := { program := "ytmhfbcapmlofbaa", sum := "51eb19a0c4a77f8624badeaa14346378e6fc9165d9623b60a3901306f60fe16f", func := "arbac/arbaclaw08.NamesEquals", spec := "namesEquals", apart := false }
def NamesEqualsSaid : Prop := namesEqualsRow.holds Try.pinned (OpenSpec.ofChange namesEqualsSpec)

/-- ITS FALSE NEIGHBOUR: 'it returns false'. Refute it at one input. -/
def namesEqualsWrong : ChangeSpec := { name := "namesEquals", fn := fun _ => fun
  | [d1, d2] => { results := [.lit (.bool false)], args := [d1, d2] }
  | _ => none }
def NamesEqualsWrongFalsely : Prop := namesEqualsRow.holds Try.pinned (OpenSpec.ofChange namesEqualsWrong)

/- THE SECOND FORM. 'bulk': how many values and letters a reading holds, each counted each time it is reached (what is shared counts as often as it is met; a slice's spare places count too). A statement '..UptoSaid' is the law's where the arguments, and the package variables that the reading takes, are together of bulk at most 1048576: NARROWER than '..Said'. Prove '..Said' where nothing that the law and all that it calls make is longer than what came in: it says more and counts as full. Else prove '..UptoSaid'. A law counts once. -/
mutual
def uptoBulk {H : Type} : DataW H → Nat
  | .lit (.string bytes) => bytes.length + 1
  | .lit _ => 1
  | .nil => 1
  | .ptr d => uptoBulk d + 1
  | .slice elems spare => uptoBulkAll elems + uptoBulkAll spare + 1
  | .agg parts => uptoBulkAll parts + 1
  | .iface _ d => uptoBulk d + 1
  | .map entries => uptoBulkEntries entries + 1
  | .held _ => 1
def uptoBulkAll {H : Type} : List (DataW H) → Nat
  | [] => 0
  | d :: r => uptoBulk d + uptoBulkAll r
def uptoBulkEntries {H : Type} : List (Lit × DataW H) → Nat
  | [] => 0
  | x :: r => uptoBulkEntry x + uptoBulkEntries r
def uptoBulkEntry {H : Type} : Lit × DataW H → Nat
  | (.string bytes, d) => bytes.length + uptoBulk d + 1
  | (_, d) => uptoBulk d + 1
 end
def uptoSmall : (H : Type) → List (DataW H) → Bool := fun _ ds => decide (uptoBulkAll ds ≤ 1048576)
def OpenSpec.upto (s : _root_.Go.ChangeSpec) : _root_.Go.OpenSpec := { _root_.Go.OpenSpec.ofChange s with cond := some uptoSmall }

/-- 'arbaclaw08.NamesKeywords', WHERE WHAT IT READS IS OF BULK AT MOST 1048576: true; the input reads as it did. -/
def namesKeywordsUptoRow : OpenClaim := { program := "ytmhfbcapmlofbaa", sum := "51eb19a0c4a77f8624badeaa14346378e6fc9165d9623b60a3901306f60fe16f", func := "arbac/arbaclaw08.NamesKeywords", spec := "namesKeywords", apart := false, narrowed := true }
def NamesKeywordsUptoSaid : Prop := namesKeywordsUptoRow.holds Try.pinned (OpenSpec.upto namesKeywordsSpec)

/-- 'arbaclaw08.NamesBytes', WHERE WHAT IT READS IS OF BULK AT MOST 1048576: true; the input reads as it did. -/
def namesBytesUptoRow : OpenClaim := { program := "ytmhfbcapmlofbaa", sum := "51eb19a0c4a77f8624badeaa14346378e6fc9165d9623b60a3901306f60fe16f", func := "arbac/arbaclaw08.NamesBytes", spec := "namesBytes", apart := false, narrowed := true }
def NamesBytesUptoSaid : Prop := namesBytesUptoRow.holds Try.pinned (OpenSpec.upto namesBytesSpec)

/-- 'arbaclaw08.NamesReads', WHERE WHAT IT READS IS OF BULK AT MOST 1048576: true; the input reads as it did. -/
def namesReadsUptoRow : OpenClaim := { program := "ytmhfbcapmlofbaa", sum := "51eb19a0c4a77f8624badeaa14346378e6fc9165d9623b60a3901306f60fe16f", func := "arbac/arbaclaw08.NamesReads", spec := "namesReads", apart := false, narrowed := true }
def NamesReadsUptoSaid : Prop := namesReadsUptoRow.holds Try.pinned (OpenSpec.upto namesReadsSpec)

/-- 'arbaclaw08.NamesEquals', WHERE WHAT IT READS IS OF BULK AT MOST 1048576: true; the input reads as it did. -/
def namesEqualsUptoRow : OpenClaim := { program := "ytmhfbcapmlofbaa", sum := "51eb19a0c4a77f8624badeaa14346378e6fc9165d9623b60a3901306f60fe16f", func := "arbac/arbaclaw08.NamesEquals", spec := "namesEquals", apart := false, narrowed := true }
def NamesEqualsUptoSaid : Prop := namesEqualsUptoRow.holds Try.pinned (OpenSpec.upto namesEqualsSpec)

end Rows
end Go.Proofs.Ytmhfbcapmlofbaa
