/-
  arbacref02.PutInt: the encoding of a number with a sign.
-/
import Derived.Test.YtljjhdfackicpaaDoorPut
import Derived.Test.YtljjhdfackicpaaDoorWriter
namespace Go.Proofs.YtljjhdfackicpaaDoor
open Go.RowKit

theorem zz_pos2 (m : Nat) (hv : -9223372036854775808 ≤ (m : Int) ∧ (m : Int) < 9223372036854775808) :
    IntKind.u64.wrap (2 * IntKind.u64.wrap (m : Int)) = (zz (m : Int) : Int) := by rw [Int.mul_comm]; exact zz_pos m hv

theorem zz_neg2 (v : Int) (h0 : v < 0) (hv : -9223372036854775808 ≤ v ∧ v < 9223372036854775808) :
    IntKind.u64.wrap (IntKind.u64.wrap (2 * IntKind.u64.wrap (wrap64 (-wrap64 (v + 1)))) + 1) = (zz v : Int) := by
  obtain ⟨m, hm⟩ : ∃ m : Nat, m = (-(v + 1)).toNat := ⟨_, rfl⟩
  have hz : zz v = 2 * m + 1 := by rw [zz, if_pos h0, hm]
  rw [hz, IntWalk.wrap64_in (v + 1) (by omega), IntWalk.wrap64_in _ (by omega), IntWalk.u64_in (-(v + 1)) (by omega), IntWalk.u64_in (2 * -(v + 1)) (by omega), IntWalk.u64_in _ (by omega)]
  omega

set_option maxRecDepth 100000 in
set_option maxHeartbeats 400000 in
theorem putInt_any (v : Int) (w : World) (hv : Hid (-9223372036854775808 ≤ v ∧ v < 9223372036854775808)) :
    Calls Tryd.prog 103 #[.int .i64 v] w fun e w' => ∃ v', e = .returned v' ∧ Fresh w' w.heap.size v' (enc (zz v)) ∧ Kept (fun _ => False) w w' := by
  by_cases h0 : v < 0
  · go_enter Tryd.func103, Tryd.ntmps103
    go_wp2_with fail
    rw [zz_neg2 v h0 hv.out]
    refine (put_any (zz v) w (zz_lt v hv.out)).mono ?_
    rintro e w1 ⟨q, rfl, hf, hk⟩
    go_wp2_with fail
    go_ret
    exact ⟨q, rfl, hf, hk⟩
  · obtain ⟨m, hm⟩ := Int.eq_ofNat_of_zero_le (show 0 ≤ v by omega)
    subst hm
    go_enter Tryd.func103, Tryd.ntmps103
    go_wp2_with fail
    rw [zz_pos2 m hv.out]
    refine (put_any (zz m) w (zz_lt m hv.out)).mono ?_
    rintro e w1 ⟨q, rfl, hf, hk⟩
    go_wp2_with fail
    go_ret
    exact ⟨q, rfl, hf, hk⟩

end Go.Proofs.YtljjhdfackicpaaDoor
