/-
  (bits.Set).Greatest and (bits.Set).Bytes.
-/
import Derived.Test.YtnnakllgfaaejaaGreatDoorOf
import Derived.Test.YtnnakllgfaaejaaGreatDoorShelf
import Derived.Test.YtnnakllgfaaejaaGreatDoorMake
namespace Go.Proofs.YtnnakllgfaaejaaGreatDoor
open Go.RowKit

theorem bv_set (xs : List Nat) (i z : Nat) : (bv xs).set i (.int .u8 (z : Int)) = bv (xs.set i z) := by simp [bv]
theorem bv_getD (xs : List Nat) (i : Nat) (h : i < xs.length) : (bv xs)[i]? = some (.int .u8 (xs.getD i 0 : Nat)) := by simp [bv, List.getD, h]
theorem bv_zero (n : Nat) : (madeCells #[Value.int .u8 0] n).toList = bv (List.replicate n 0) := by
  refine List.ext_getElem (by simp [madeCells, bv]) fun i h1 h2 => ?_
  simp [madeCells, bv, Nat.mod_one]
theorem info_u8b : (Tryz.prog.info? 5).map (fun i => (i.zero, i.size, i.bytes)) = some (some (.int .u8 0), 1, 1) := by kernel_rfl

theorem pad_getD (M k m : Nat) : (bl8 M k ++ List.replicate m 0).getD k 0 = 0 := by
  rw [List.getD_eq_getElem?_getD, List.getElem?_append_right (by simp [bl8])]
  simp only [bl8_length, Nat.sub_self, List.getElem?_replicate]
  split <;> rfl

theorem byte_shift (y S b : Nat) (h : b = y / 2 ^ S % 256) : IntKind.u8.wrap ((y : Int) / 2 ^ S) = (b : Int) := by
  rw [IntKind.wrap_u8', h]
  simp

end Go.Proofs.YtnnakllgfaaejaaGreatDoor
