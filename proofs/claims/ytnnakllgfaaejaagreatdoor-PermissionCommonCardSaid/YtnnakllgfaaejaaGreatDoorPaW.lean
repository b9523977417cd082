/-
  Paths: what two have in common: cmp.Compare and slices.Compare of strings, path.Within, path.Compare; the reference's common, bytesLess.
-/
import Derived.Test.YtnnakllgfaaejaaGreatDoorPaV
import Derived.Test.YtnnakllgfaaejaaGreatDoorStEq
namespace Go.Proofs.YtnnakllgfaaejaaGreatDoor
open Go.RowKit
set_option linter.unusedSimpArgs false
set_option linter.unusedVariables false

/-- How many names at the beginning two lists have in common. -/
def comS : List ByteArray → List ByteArray → Nat
  | x :: a, y :: b => if x = y then comS a b + 1 else 0
  | _, _ => 0
theorem comS_le : ∀ a b : List ByteArray, comS a b ≤ a.length ∧ comS a b ≤ b.length
  | [], b => by simp [comS]
  | x :: a, [] => by simp [comS]
  | x :: a, y :: b => by
    have := comS_le a b
    unfold comS
    split <;> simp <;> omega
theorem comS_get : ∀ (a b : List ByteArray) (i : Nat), i < comS a b → a.getD i ⟨#[]⟩ = b.getD i ⟨#[]⟩
  | [], b, i, h => by simp [comS] at h
  | x :: a, [], i, h => by simp [comS] at h
  | x :: a, y :: b, i, h => by
    unfold comS at h
    split at h
    · next e =>
      cases i with
      | zero => simpa using e
      | succ i => have := comS_get a b i (by omega); simpa using this
    · omega
theorem comS_stop : ∀ (a b : List ByteArray), comS a b < a.length → comS a b < b.length → a.getD (comS a b) ⟨#[]⟩ ≠ b.getD (comS a b) ⟨#[]⟩
  | [], b, h, _ => by simp at h
  | x :: a, [], _, h => by simp at h
  | x :: a, y :: b, h1, h2 => by
    by_cases e : x = y
    · have hc : comS (x :: a) (y :: b) = comS a b + 1 := by simp [comS, e]
      rw [hc] at h1 h2 ⊢
      simp at h1 h2
      simpa using comS_stop a b h1 h2
    · have hc : comS (x :: a) (y :: b) = 0 := by simp [comS, e]
      rw [hc]
      simpa using e
/-- It is the only such number. -/
theorem comS_of {a b : List ByteArray} {k : Nat} (h1 : ∀ i, i < k → a.getD i ⟨#[]⟩ = b.getD i ⟨#[]⟩) (ha : k ≤ a.length) (hb : k ≤ b.length) (h2 : k = a.length ∨ k = b.length ∨ a.getD k ⟨#[]⟩ ≠ b.getD k ⟨#[]⟩) : comS a b = k := by
  have hl := comS_le a b
  by_cases hlt : comS a b < k
  · exact absurd (h1 _ hlt) (comS_stop a b (by omega) (by omega))
  · by_cases hgt : k < comS a b
    · rcases h2 with h | h | h
      · omega
      · omega
      · exact absurd (comS_get a b k hgt) h
    · omega

end Go.Proofs.YtnnakllgfaaejaaGreatDoor
