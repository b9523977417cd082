/-
  arbacref02.PutInt: the encoding of a number with a sign.
-/
import Derived.Test.YtnmcihfegbdipaaDoorPut
import Derived.Test.YtnmcihfegbdipaaDoorWriter
namespace Go.Proofs.YtnmcihfegbdipaaDoor
open Go.RowKit

theorem zz_pos2 (m : Nat) (hv : -9223372036854775808 ≤ (m : Int) ∧ (m : Int) < 9223372036854775808) :
    IntKind.u64.wrap (2 * IntKind.u64.wrap (m : Int)) = (zz (m : Int) : Int) := by rw [Int.mul_comm]; exact zz_pos m hv

theorem zz_neg2 (v : Int) (h0 : v < 0) (hv : -9223372036854775808 ≤ v ∧ v < 9223372036854775808) :
    IntKind.u64.wrap (IntKind.u64.wrap (2 * IntKind.u64.wrap (wrap64 (-wrap64 (v + 1)))) + 1) = (zz v : Int) := by
  obtain ⟨m, hm⟩ : ∃ m : Nat, m = (-(v + 1)).toNat := ⟨_, rfl⟩
  have hz : zz v = 2 * m + 1 := by rw [zz, if_pos h0, hm]
  rw [hz, IntWalk.wrap64_in (v + 1) (by omega), IntWalk.wrap64_in _ (by omega), IntWalk.u64_in (-(v + 1)) (by omega), IntWalk.u64_in (2 * -(v + 1)) (by omega), IntWalk.u64_in _ (by omega)]
  omega

end Go.Proofs.YtnmcihfegbdipaaDoor
