/-
  bytes.Clone over what is read; NewWriter, Out, NewReader; bytes as strings.
-/
import Derived.Test.YtnnakllgfaaejaaGreatDoorCore
import Derived.Test.YtnnakllgfaaejaaGreatDoorShelf
import Derived.Test.YtnnakllgfaaejaaGreatDoorRows
import Derived.Laws.BytesArg
import Derived.Lib.BufferRead
import Derived.Outline
import Derived.WalkLawsBesides
import Derived.WalkSpells
import Derived.IntWalk
namespace Go.Proofs.YtnnakllgfaaejaaGreatDoor
open Go.RowKit

/-- A value that reads as xs, in a row of its own from block B on. -/
structure Fresh (w : World) (B : Nat) (v : Value) (xs : List Nat) : Prop where
  own : w.ownsRow B 5 1 v xs.length (bv xs)
  block : ∀ k, v.ownBlock = some k → B ≤ k

theorem Fresh.reads {w : World} {B : Nat} {v : Value} {xs : List Nat} (h : Fresh w B v xs) : Reads w v xs := Reads.ofOwns h.own

theorem Wr.reads {w : World} {wb : Nat} {v : Value} {B : Nat} {xs : List Nat} (h : Wr w wb v B xs) : Reads w v xs := Reads.ofOwns h.own

theorem reads_str {w : World} {v : Value} {xs : List Nat} (h : Reads w v xs) : (convert 23 9 v).run Tryz.prog w = .ok (.string (strOfNums (xs.map fun n : Nat => (n : Int)))) w := by
  rcases h with ⟨rfl, rfl⟩ | ⟨g, off, cap, rfl, h1, h2, h3, h4⟩
  · exact run_convert_bytes_nil w 23 5 Tryz.underlying23 Tryz.underlying5 0 0 9 Tryz.underlying9
  · refine run_convert_bytes_arg w 23 5 Tryz.underlying23 Tryz.underlying5 g off xs.length cap (xs.map fun n : Nat => (n : Int)) (by simp) (fun i hi => ?_) 9 Tryz.underlying9
    rw [h4 i hi]
    simp [List.getD, hi]

theorem str_inj {xs ys : List Nat} (hx : ∀ b ∈ xs, b < 256) (hy : ∀ b ∈ ys, b < 256) : strOfNums (xs.map fun n : Nat => (n : Int)) = strOfNums (ys.map fun n : Nat => (n : Int)) ↔ xs = ys := by
  refine ⟨fun h => ?_, fun h => by rw [h]⟩
  have h1 := congrArg (fun s : ByteArray => s.data.toList.map UInt8.toNat) h
  simp only [strOfNums_data, List.map_map] at h1
  have key : ∀ zs : List Nat, (∀ b ∈ zs, b < 256) → zs.map (UInt8.toNat ∘ (fun n : Int => UInt8.ofNat n.toNat) ∘ fun n : Nat => (n : Int)) = zs := by
    intro zs hz
    conv => rhs; rw [← List.map_id zs]
    refine List.map_congr_left fun b hb => ?_
    simp [Nat.mod_eq_of_lt (hz b hb)]
  rw [key xs hx, key ys hy] at h1
  exact h1

end Go.Proofs.YtnnakllgfaaejaaGreatDoor
