/-
  Tokens: the reference's number.
-/
import Derived.Test.YtoekdcobnmkpaaaGreatDoorTkH
namespace Go.Proofs.YtoekdcobnmkpaaaGreatDoor
open Go.RowKit
set_option linter.unusedSimpArgs false
set_option linter.unusedVariables false

/-- Where the number that begins at a place ends; 0: there is none. -/
def numR (s : ByteArray) (i k : Nat) : Nat := if 6 < k - i ∨ (1 < k - i ∧ bat s i = 48) then 0 else if k < s.size ∧ (letB (bat s k) = true ∨ bat s k = 95) then 0 else k
theorem take_num {s : ByteArray} {i k : Nat} (hik : i ≤ k) (hk : k ≤ s.size) (h1 : ∀ j, i ≤ j → j < k → digB (bat s j) = true) (h2 : k < s.size → digB (bat s k) = false) : i + (((strB s).drop i).takeWhile digB).length = k := by
  have hd : ∀ j, ((strB s).drop i).getD j 0 = bat s (i + j) := fun j => by
    rw [← strB_at]
    simp [List.getD, List.getElem?_drop]
  rw [takeWhileN_at ((strB s).drop i) (k - i) (by rw [List.length_drop, strB_len]; omega) (fun j hj => by rw [hd]; exact h1 _ (by omega) (by omega)) (fun hj => by
    rw [List.length_drop, strB_len] at hj
    rw [hd, show i + (k - i) = k by omega]
    exact h2 (by omega))]
  omega

end Go.Proofs.YtoekdcobnmkpaaaGreatDoor
