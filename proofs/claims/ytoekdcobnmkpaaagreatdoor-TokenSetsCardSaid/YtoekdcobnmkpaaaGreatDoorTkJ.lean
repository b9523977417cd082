/-
  Tokens: the reference's symbol.
-/
import Derived.Test.YtoekdcobnmkpaaaGreatDoorTkI
namespace Go.Proofs.YtoekdcobnmkpaaaGreatDoor
open Go.RowKit
set_option linter.unusedSimpArgs false
set_option linter.unusedVariables false

theorem ext_list (s : ByteArray) (a b : Nat) : (s.extract a b).data.toList = (s.data.toList.drop a).take (b - a) := by
  simp
  try rw [List.drop_take]
theorem sym_match {s x : ByteArray} {i : Nat} (h : i + x.size ≤ s.size) : (s.extract i (i + x.size) = x) ↔ Lib.hasPrefix (s.extract i s.size).data.toList x.data.toList = true := by
  have hx : x.size = x.data.toList.length := rfl
  have hs : s.size = s.data.toList.length := rfl
  have e1 : (s.extract i s.size).data.toList = s.data.toList.drop i := by
    rw [ext_list, List.take_of_length_le (by rw [List.length_drop, hs]; omega)]
  have e2 : (s.extract i (i + x.size)).data.toList = (s.data.toList.drop i).take x.size := by
    rw [ext_list, show i + x.size - i = x.size by omega]
  unfold Lib.hasPrefix
  rw [e1, List.isPrefixOf_iff_prefix, List.prefix_iff_eq_take]
  constructor
  · intro e
    rw [e] at e2
    rw [← hx]; exact e2
  · intro e
    apply str_extT
    rw [e2, hx]; exact e.symm
theorem sym_short {s x : ByteArray} {i : Nat} (hi : i ≤ s.size) (h : ¬ i + x.size ≤ s.size) : Lib.hasPrefix (s.extract i s.size).data.toList x.data.toList = false := by
  have hx : x.size = x.data.toList.length := rfl
  have hs : s.size = s.data.toList.length := rfl
  have e1 : (s.extract i s.size).data.toList = s.data.toList.drop i := by
    rw [ext_list, List.take_of_length_le (by rw [List.length_drop, hs]; omega)]
  unfold Lib.hasPrefix
  rw [e1, Bool.eq_false_iff]
  intro e
  rw [List.isPrefixOf_iff_prefix] at e
  have := e.length_le
  rw [List.length_drop, ← hx, ← hs] at this
  omega
/-- Where the symbol that begins at a place ends; 0: there is none. -/
def symR (s : ByteArray) (i : Nat) : Nat := if symN ((strB s).drop i) = 0 then 0 else i + symN ((strB s).drop i)
theorem strB_ext (s : ByteArray) (i : Nat) : strB (s.extract i s.size) = (strB s).drop i := by
  have hs : s.size = s.data.toList.length := rfl
  unfold strB
  rw [ext_list, List.take_of_length_le (by rw [List.length_drop, hs]; omega), List.map_drop]

end Go.Proofs.YtoekdcobnmkpaaaGreatDoor
