/-
  A string that came in, with its length.
-/
import Derived.Test.YtjglnpijngdpkaaGreatDoorArgIn
import Derived.ChangeMaps5
import Derived.OpenShut
import Derived.Lib.SmallJoins
namespace Go.Proofs.YtjglnpijngdpkaaGreatDoor
open Go.ChangeShapes Go.WideShapes Go.ChangeAt Go.RowKit Go.Joins Go.ChangeMaps

set_option linter.constructorNameAsVariable false
set_option maxRecDepth 100000 in
theorem str_in2 {H : Type} {enc : TypeId × Value → H} {W : World} {base : Nat} {v : Value} {d : DataW H} {p : List MemPlace} (o : Value.okWide Tryz.prog W .any base 9 v) (h : DataW.Trod enc Tryz.prog W 0 (fun _ => true) true 9 v d p) : ∃ s : ByteArray, v = .string s ∧ s.size ≤ 9223372036854775807 := by
  obtain ⟨s, h1, _, _, h4⟩ := open_string Tryz.underlying9 o h
  exact ⟨s, h1, by unfold maxLen at h4; omega⟩
end Go.Proofs.YtjglnpijngdpkaaGreatDoor
