/-
  A parameter string, opened.
-/
import Derived.Test.YtnjmffmdlaobdabDoorKecB
namespace Go.Proofs.YtnjmffmdlaobdabDoor
open Go.ChangeShapes Go.WideShapes Go.ChangeAt Go.RowKit Go.Joins

set_option linter.constructorNameAsVariable false
theorem str_of {P : Program} {W : World} {v : Value} {base : Nat} {t : TypeId} (ht : P.underlying t = some .string) (o : Value.okWide P W .any base t v) : ∃ s, v = .string s := by
  simp only [Value.okWide, ht] at o
  cases v with
  | string s => exact ⟨s, rfl⟩
  | _ => exfalso; simp [Cell.okWide, Cell.ok, ht] at o
set_option maxRecDepth 100000 in
theorem str_in {W : World} {v : Value} {base : Nat} (o : Value.okWide Tryd.prog W .any base 9 v) : ∃ s, v = .string s := str_of Tryd.underlying9 o
end Go.Proofs.YtnjmffmdlaobdabDoor
