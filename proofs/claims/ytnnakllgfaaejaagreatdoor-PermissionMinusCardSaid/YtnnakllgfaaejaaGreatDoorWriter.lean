/-
  wire.Writer: Int, String, Raw, Bytes, Set.
-/
import Derived.Test.YtnnakllgfaaejaaGreatDoorUint
import Derived.Test.YtnnakllgfaaejaaGreatDoorBytes
import Derived.Test.YtnnakllgfaaejaaGreatDoorAppendS
import Derived.Maps.AppendAt
import Derived.Laws.AppendOwnNone
namespace Go.Proofs.YtnnakllgfaaejaaGreatDoor
open Go.RowKit

/-- The number that is written for one with a sign. -/
def zz (v : Int) : Nat := if v < 0 then 2 * (-(v + 1)).toNat + 1 else 2 * v.toNat

theorem zz_lt (v : Int) (hv : -9223372036854775808 ≤ v ∧ v < 9223372036854775808) : zz v < 18446744073709551616 := by
  unfold zz
  split <;> omega

theorem zz_neg (v : Int) (h0 : v < 0) (hv : -9223372036854775808 ≤ v ∧ v < 9223372036854775808) :
    bits .or .u64 (IntKind.u64.wrap (IntKind.u64.wrap (wrap64 (-wrap64 (v + 1))) * 2)) 1 = (zz v : Int) := by
  obtain ⟨m, hm⟩ : ∃ m : Nat, m = (-(v + 1)).toNat := ⟨_, rfl⟩
  have hz : zz v = 2 * m + 1 := by rw [zz, if_pos h0, hm]
  rw [hz, IntWalk.wrap64_in (v + 1) (by omega), IntWalk.wrap64_in _ (by omega), IntWalk.u64_in (-(v + 1)) (by omega), IntWalk.u64_in _ (by omega),
    show (-(v + 1)) * 2 = ((2 * m : Nat) : Int) by omega, show (1 : Int) = ((1 : Nat) : Int) from rfl, u64_or_nat _ _ (by omega) (by omega), nat_join 1 _ _ (by omega) (by omega)]

theorem zz_pos (m : Nat) (hv : -9223372036854775808 ≤ (m : Int) ∧ (m : Int) < 9223372036854775808) :
    IntKind.u64.wrap (IntKind.u64.wrap (m : Int) * 2) = (zz (m : Int) : Int) := by
  rw [zz, if_neg (by omega), Int.toNat_natCast, IntWalk.u64_in (m : Int) (by omega), IntWalk.u64_in _ (by omega)]
  omega

/-- Behind an append whose law says where the new row lies: the writer's cell is stored. -/
theorem wr_push2 {w w1 : World} {wb : Nat} {v v' : Value} {B : Nat} {xs ys : List Nat} {N m : Nat} (h : Wr w wb v B xs) (hN : xs.length = N) (hm : ys.length = m)
    (hown : w1.ownsRow B 5 1 v' (N + m) (bv xs ++ bv ys)) (hgrow : w.grownBy w1 v.ownBlock) (hat : v'.ownBlock = v.ownBlock ∨ v'.ownBlock = some w.heap.size) :
    Wr (w1.setCell ⟨wb, 0, none⟩ v') wb v' B (xs ++ ys) ∧ WStep w (w1.setCell ⟨wb, 0, none⟩ v') wb v v' := by
  subst hN hm
  refine wr_push h (Kept.refl _ _) hown hgrow (fun k hk => ?_) ?_
  · rcases hat with e | e
    · exact Or.inl (by rw [← e]; exact hk)
    · rw [e] at hk; cases hk; exact Or.inr (Nat.le_refl _)
  · rcases hat with e | e
    · exact Or.inl e.symm
    · exact Or.inr fun k hk => by rw [e] at hk; cases hk; exact Nat.le_refl _

theorem own_form {w : World} {B : Nat} {e : TypeId} {v : Value} {n : Nat} {xs : List Value} (h : w.ownsRow B e 1 v n xs) : ∃ a c, v = .slice a n c := by
  rcases h.2 with ⟨rfl, rfl⟩ | ⟨g, cap, cur, rfl, _⟩
  · exact ⟨_, _, rfl⟩
  · exact ⟨_, _, rfl⟩

/-- A string's bytes. -/
def strB (s : ByteArray) : List Nat := s.data.toList.map UInt8.toNat
theorem strB_cells (s : ByteArray) : Lib.strCells s = bv (strB s) := by simp [Lib.strCells, bv, strB]
theorem strB_length (s : ByteArray) : (strB s).length = s.size := by
  rw [strB, List.length_map, Array.length_toList]; rfl

end Go.Proofs.YtnnakllgfaaejaaGreatDoor
