/-
  What was written as a string or bytes is read back. (As in BackM.)
-/
import Derived.Test.YtneappinkfhjmaaDoorRStr
namespace Go.Proofs.YtneappinkfhjmaaDoor
open Go.RowKit

theorem pieceS_enc (ys rest : List Nat) (most : Int) (hm : (ys.length : Int) ≤ most) (hl : ys.length < 18446744073709551616) : pieceS ((enc ys.length ++ ys) ++ rest) most 0 = (ys, rest, 0) := by
  have h1 := numberS_enc (ys ++ rest) hl
  rw [List.append_assoc]
  have h2 := enc_pos ys.length
  rw [pieceS, if_neg (by simp), if_neg (by omega), h1]
  simp only
  rw [if_neg (by omega), if_neg (by omega), if_neg (by simp), List.drop_left, List.take_left, ← List.drop_drop, List.drop_left, List.drop_left]
end Go.Proofs.YtneappinkfhjmaaDoor
