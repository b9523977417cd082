/-
  wire.Reader: String, Bytes, Flag.
-/
import Derived.Test.YtncieckanngodaaDoorPiece
import Derived.Test.YtncieckanngodaaDoorStrW
namespace Go.Proofs.YtncieckanngodaaDoor
open Go.RowKit

theorem pieceS_byte {xs : List Nat} (most err : Int) (h : ∀ b ∈ xs, b < 256) : (∀ b ∈ (pieceS xs most err).1, b < 256) ∧ (∀ b ∈ (pieceS xs most err).2.1, b < 256) := by
  unfold pieceS
  repeat' split
  all_goals first
    | exact ⟨by simp, h⟩
    | exact ⟨fun b hb => h b (List.mem_of_mem_drop (List.mem_of_mem_take hb)), fun b hb => h b (List.mem_of_mem_drop hb)⟩

/-- What 'Flag' gives. -/
def flagS (xs : List Nat) (err : Int) : Bool × List Nat × Int :=
  if err ≠ 0 then (false, xs, err) else match xs with
    | [] => (false, [], 6)
    | b :: t => if 1 < b then (false, b :: t, 6) else (decide (b = 1), t, 0)

end Go.Proofs.YtncieckanngodaaDoor
