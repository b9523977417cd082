/-
  Strings of bytes; wire.Writer.Flag.
-/
import Derived.Test.YtneappinkfhjmaaDoorMake
import Derived.Test.YtneappinkfhjmaaDoorWriter
namespace Go.Proofs.YtneappinkfhjmaaDoor
open Go.RowKit

/-- A string of bytes. -/
def strOf (xs : List Nat) : ByteArray := strOfNums (xs.map fun n : Nat => (n : Int))

theorem strOf_bytes {xs : List Nat} (h : ∀ b ∈ xs, b < 256) : strB (strOf xs) = xs := by
  unfold strB strOf
  rw [strOfNums_data, List.map_map, List.map_map]
  conv => rhs; rw [← List.map_id xs]
  refine List.map_congr_left fun b hb => ?_
  simp [Nat.mod_eq_of_lt (h b hb)]

theorem strOf_size (xs : List Nat) : (strOf xs).size = xs.length := by
  unfold strOf
  rw [strOfNums_size]; simp

/-- The encoding of a flag. -/
def encFlag (b : Bool) : List Nat := if b then [1] else [0]

end Go.Proofs.YtneappinkfhjmaaDoor
